/- The walks of what makes a clone: an element in memory of its own; a list of such elements. -/
import Derived.Test.YtpdpimchchfocaaMOwn
import Derived.Test.YtpdpimchchfocaaTFx
import Derived.Deep.RegionHeld
import Derived.Lib.QuietBelow
import Derived.BigQuiet
import Derived.Test.YtpdpimchchfocaaTCheck
import Derived.Test.YtpdpimchchfocaaAppend
import Derived.Outline
import Derived.WalkSpells
import Derived.WalkMore
namespace Go.Proofs.Ytpdpimchchfocaa
open Go.RowKit M7 M10

theorem name_world10 {P : World → Prop} {W : World} (h : P W) : ∃ W', W = W' ∧ P W' := ⟨W, rfl, h⟩
theorem Bx.three_put {w W : World} {g : Nat} {a0 a1 a2 : Value} {T : TypeId} (h : Bx w g #[a0, a1, a2] T W) (hg : w.heap.size ≤ g) (v0 v1 v2 : Value) :
    Bx w g #[v0, v1, v2] T (((W.setCell ⟨g, 0, none⟩ v0).setCell ⟨g, 1, none⟩ v1).setCell ⟨g, 2, none⟩ v2) :=
  ((h.set hg 0 v0).set hg 1 v1).set hg 2 v2
theorem Bx.far_set3 {w W : World} {g : Nat} {cs : Array Value} {T : TypeId} (h : Bx w g cs T W) {b : Nat} (v0 v1 v2 : Value) (hne : g ≠ b) (hb : w.heap.size ≤ b) : Bx w g cs T (((W.setCell ⟨b, 0, none⟩ v0).setCell ⟨b, 1, none⟩ v1).setCell ⟨b, 2, none⟩ v2) :=
  ((h.far_set v0 hne hb).far_set v1 hne hb).far_set v2 hne hb
theorem own_set3 {w : World} {B size n b : Nat} {e T : TypeId} {v : Value} {xs : List Value} {c0 c1 c2 : Value} (h : w.ownsRow B e size v n xs) (hb : w.heap[b]? = some (.cells #[c0, c1, c2] T (0, 0))) (hT : T ≠ e) (v0 v1 v2 : Value) :
    (((w.setCell ⟨b, 0, none⟩ v0).setCell ⟨b, 1, none⟩ v1).setCell ⟨b, 2, none⟩ v2).ownsRow B e size v n xs :=
  own_set (own_set (own_set h (own_far h hb hT) 0 v0) (own_far h hb hT) 1 v1) (own_far h hb hT) 2 v2
theorem own_set4 {w : World} {B size n b : Nat} {e T : TypeId} {v : Value} {xs : List Value} {c0 c1 c2 c3 : Value} (h : w.ownsRow B e size v n xs) (hb : w.heap[b]? = some (.cells #[c0, c1, c2, c3] T (0, 0))) (hT : T ≠ e) (v0 v1 v2 v3 : Value) :
    ((((w.setCell ⟨b, 0, none⟩ v0).setCell ⟨b, 1, none⟩ v1).setCell ⟨b, 2, none⟩ v2).setCell ⟨b, 3, none⟩ v3).ownsRow B e size v n xs :=
  own_set (own_set (own_set (own_set h (own_far h hb hT) 0 v0) (own_far h hb hT) 1 v1) (own_far h hb hT) 2 v2) (own_far h hb hT) 3 v3


set_option maxRecDepth 100000 in
theorem own_info_any (i : Inf) (ci : List Value) (w : World) (hi : InfAt w.heap.size w i ci) :
    Calls Try.prog 36 #[.agg ci.toArray] w fun e w' => ∃ cs, e = .returned (.agg cs.toArray) ∧ OInf w.heap.size w' i cs ∧ Below w.heap.size w w' := by
  obtain ⟨A, c, rfl, hs, ok⟩ := hi
  have HB := Lib.hid ((Bx.start w #[.string i.name, .int .i64 i.kind, .slice A i.dims.length c] 40).more (.cells #[.string ⟨#[]⟩, .int .i64 0, .slice none 0 0] 40))
  have HZ := Lib.hid (Bx.two w (.cells #[.string i.name, .int .i64 i.kind, .slice A i.dims.length c] 40) #[.string ⟨#[]⟩, .int .i64 0, .slice none 0 0] 40)
  have HN := Lib.hid (new_ints A i.dims.length c (iv i.dims) ((w.alloc (.cells #[.string i.name, .int .i64 i.kind, .slice A i.dims.length c] 40)).alloc (.cells #[.string ⟨#[]⟩, .int .i64 0, .slice none 0 0] 40)) ok.len ((hs.below HB.out.all).more HB.out.all.size) iv_oneCell)
  have OK := Lib.hid ok
  clear hs ok
  go_enter Try.func36, Try.ntmps36
  go_wp2_with fail
  refine HN.out.mono ?_
  rintro e w1 ⟨v, rfl, hown, hb⟩
  obtain ⟨A2, c2, rfl, -, -⟩ := own_form hown
  have H1 := Lib.hid (HB.out.below hb)
  have H1z := Lib.hid (HZ.out.below hb)
  have HOW := Lib.hid (own_base hown HB.out.all.size)
  clear hown hb HB HZ HN
  obtain ⟨x0, x1, x2⟩ := H1.out.three
  have f0 := fun i => H1.out.free i
  obtain ⟨wE, hE, hxE⟩ := name_world10 (P := fun W => Bx w w.heap.size #[.string i.name, .int .i64 i.kind, .slice A2 i.dims.length c2] 40 W ∧ Bx w (w.heap.size + 1) #[.string ⟨#[]⟩, .int .i64 0, .slice none 0 0] 40 W ∧ W.ownsRow w.heap.size 2 1 (.slice A2 i.dims.length c2) i.dims.length (iv i.dims))
    ⟨H1.out.set (Nat.le_refl _) 2 (.slice A2 i.dims.length c2), H1z.out.far_set (.slice A2 i.dims.length c2) (by omega) (Nat.le_refl _), own_set HOW.out (own_far HOW.out H1.out.1 (by decide)) 2 (.slice A2 i.dims.length c2)⟩
  have HE := Lib.hid hxE
  clear hxE HOW
  obtain ⟨e0, e1, e2⟩ := HE.out.1.three
  obtain ⟨z0, z1, z2⟩ := HE.out.2.1.three
  have f1 := fun i => HE.out.2.1.free i
  obtain ⟨wF, hF, hxF⟩ := name_world10 (P := fun W => Bx w (w.heap.size + 1) #[.string i.name, .int .i64 i.kind, .slice A2 i.dims.length c2] 40 W ∧ W.ownsRow w.heap.size 2 1 (.slice A2 i.dims.length c2) i.dims.length (iv i.dims))
    ⟨HE.out.2.1.three_put (by omega) (.string i.name) (.int .i64 i.kind) (.slice A2 i.dims.length c2), own_set3 HE.out.2.2 HE.out.2.1.1 (by decide) (.string i.name) (.int .i64 i.kind) (.slice A2 i.dims.length c2)⟩
  have HF := Lib.hid hxF
  clear hxF
  go_wp2_with fail
  obtain ⟨y0, y1, y2⟩ := HF.out.1.three
  exact bodyPost_ret (v := .agg #[.string i.name, .int .i64 i.kind, .slice A2 i.dims.length c2]) (by simp [results, Try.results36, go_sem, y0, y1, y2]) rfl ⟨[.string i.name, .int .i64 i.kind, .slice A2 i.dims.length c2], rfl, ⟨_, rfl, HF.out.2, OK.out⟩, HF.out.1.all⟩


set_option maxRecDepth 100000 in
theorem own_ten_any (i : Ten) (ci : List Value) (w : World) (hi : TenAt w.heap.size w i ci) :
    Calls Try.prog 38 #[.agg ci.toArray] w fun e w' => ∃ cs, e = .returned (.agg cs.toArray) ∧ OTen w.heap.size w' i cs ∧ Below w.heap.size w w' := by
  obtain ⟨A, c, rfl, hs, ok⟩ := hi
  have HB := Lib.hid ((Bx.start w #[.string i.name, .int .i64 i.kind, .slice A i.dims.length c, .string i.data] 42).more (.cells #[.string ⟨#[]⟩, .int .i64 0, .slice none 0 0, .string ⟨#[]⟩] 42))
  have HZ := Lib.hid (Bx.two w (.cells #[.string i.name, .int .i64 i.kind, .slice A i.dims.length c, .string i.data] 42) #[.string ⟨#[]⟩, .int .i64 0, .slice none 0 0, .string ⟨#[]⟩] 42)
  have HN := Lib.hid (new_ints A i.dims.length c (iv i.dims) ((w.alloc (.cells #[.string i.name, .int .i64 i.kind, .slice A i.dims.length c, .string i.data] 42)).alloc (.cells #[.string ⟨#[]⟩, .int .i64 0, .slice none 0 0, .string ⟨#[]⟩] 42)) ok.len ((hs.below HB.out.all).more HB.out.all.size) iv_oneCell)
  have OK := Lib.hid ok
  clear hs ok
  go_enter Try.func38, Try.ntmps38
  go_wp2_with fail
  refine HN.out.mono ?_
  rintro e w1 ⟨v, rfl, hown, hb⟩
  obtain ⟨A2, c2, rfl, -, -⟩ := own_form hown
  have H1 := Lib.hid (HB.out.below hb)
  have H1z := Lib.hid (HZ.out.below hb)
  have HOW := Lib.hid (own_base hown HB.out.all.size)
  clear hown hb HB HZ HN
  obtain ⟨x0, x1, x2, x3⟩ := H1.out.four
  have f0 := fun i => H1.out.free i
  obtain ⟨wE, hE, hxE⟩ := name_world10 (P := fun W => Bx w w.heap.size #[.string i.name, .int .i64 i.kind, .slice A2 i.dims.length c2, .string i.data] 42 W ∧ Bx w (w.heap.size + 1) #[.string ⟨#[]⟩, .int .i64 0, .slice none 0 0, .string ⟨#[]⟩] 42 W ∧ W.ownsRow w.heap.size 2 1 (.slice A2 i.dims.length c2) i.dims.length (iv i.dims))
    ⟨H1.out.set (Nat.le_refl _) 2 (.slice A2 i.dims.length c2), H1z.out.far_set (.slice A2 i.dims.length c2) (by omega) (Nat.le_refl _), own_set HOW.out (own_far HOW.out H1.out.1 (by decide)) 2 (.slice A2 i.dims.length c2)⟩
  have HE := Lib.hid hxE
  clear hxE HOW
  obtain ⟨e0, e1, e2, e3⟩ := HE.out.1.four
  obtain ⟨z0, z1, z2, z3⟩ := HE.out.2.1.four
  have f1 := fun i => HE.out.2.1.free i
  obtain ⟨wF, hF, hxF⟩ := name_world10 (P := fun W => Bx w (w.heap.size + 1) #[.string i.name, .int .i64 i.kind, .slice A2 i.dims.length c2, .string i.data] 42 W ∧ W.ownsRow w.heap.size 2 1 (.slice A2 i.dims.length c2) i.dims.length (iv i.dims))
    ⟨HE.out.2.1.four_put (by omega) (.string i.name) (.int .i64 i.kind) (.slice A2 i.dims.length c2) (.string i.data), own_set4 HE.out.2.2 HE.out.2.1.1 (by decide) (.string i.name) (.int .i64 i.kind) (.slice A2 i.dims.length c2) (.string i.data)⟩
  have HF := Lib.hid hxF
  clear hxF
  go_wp2_with fail
  obtain ⟨y0, y1, y2, y3⟩ := HF.out.1.four
  exact bodyPost_ret (v := .agg #[.string i.name, .int .i64 i.kind, .slice A2 i.dims.length c2, .string i.data]) (by simp [results, Try.results38, go_sem, y0, y1, y2, y3]) rfl ⟨[.string i.name, .int .i64 i.kind, .slice A2 i.dims.length c2, .string i.data], rfl, ⟨_, rfl, HF.out.2, OK.out⟩, HF.out.1.all⟩


set_option maxRecDepth 100000 in
theorem m_number_any (s : ByteArray) (n : Int) (w : World) :
    Calls Try.prog 22 #[.string s, .int .i64 n] w fun e w' => e = .returned (.agg #[.string s, .bool true, .int .i64 n, .slice none 0 0]) ∧ Below w.heap.size w w' := by
  have HB := Lib.hid (Bx.start w #[.string s, .bool true, .int .i64 n, .slice none 0 0] 48)
  go_enter Try.func22, Try.ntmps22
  go_wp2_with fail
  obtain ⟨y0, y1, y2, y3⟩ := HB.out.four
  exact bodyPost_ret (v := .agg #[.string s, .bool true, .int .i64 n, .slice none 0 0]) (by simp [results, Try.results22, go_sem, y0, y1, y2, y3]) rfl ⟨rfl, HB.out.all⟩

set_option maxRecDepth 100000 in
theorem row_any (s : ByteArray) (A : Option Addr) (c : Nat) (l : List Int) (w : World) (hl : l.length * 8 ≤ 140737488351232) (hs : SR w w.heap.size 1 A l.length (iv l)) :
    Calls Try.prog 23 #[.string s, .slice A l.length c] w fun e w' => ∃ v, e = .returned (.agg #[.string s, .bool false, .int .i64 0, v]) ∧ w'.ownsRow w.heap.size 2 1 v l.length (iv l) ∧ Below w.heap.size w w' := by
  have HB := Lib.hid (Bx.start w #[.string ⟨#[]⟩, .bool false, .int .i64 0, .slice none 0 0] 48)
  have HN := Lib.hid (new_ints A l.length c (iv l) (w.alloc (.cells #[.string ⟨#[]⟩, .bool false, .int .i64 0, .slice none 0 0] 48)) hl ((hs.below HB.out.all).more HB.out.all.size) iv_oneCell)
  clear hs
  go_enter Try.func23, Try.ntmps23
  go_wp2_with fail
  refine HN.out.mono ?_
  rintro e w1 ⟨v, rfl, hown, hb⟩
  obtain ⟨A2, c2, rfl, -, -⟩ := own_form hown
  have H1 := Lib.hid (HB.out.below hb)
  have HOW := Lib.hid (own_base hown HB.out.all.size)
  clear hown hb HB HN
  obtain ⟨x0, x1, x2, x3⟩ := H1.out.four
  have f0 := fun i => H1.out.free i
  obtain ⟨wE, hE, hxE⟩ := name_world10 (P := fun W => Bx w w.heap.size #[.string s, .bool false, .int .i64 0, .slice A2 l.length c2] 48 W ∧ W.ownsRow w.heap.size 2 1 (.slice A2 l.length c2) l.length (iv l))
    ⟨H1.out.four_put (Nat.le_refl _) (.string s) (.bool false) (.int .i64 0) (.slice A2 l.length c2), own_set4 HOW.out H1.out.1 (by decide) (.string s) (.bool false) (.int .i64 0) (.slice A2 l.length c2)⟩
  have HE := Lib.hid hxE
  clear hxE HOW
  go_wp2_with fail
  obtain ⟨y0, y1, y2, y3⟩ := HE.out.1.four
  exact bodyPost_ret (v := .agg #[.string s, .bool false, .int .i64 0, .slice A2 l.length c2]) (by simp [results, Try.results23, go_sem, y0, y1, y2, y3]) rfl ⟨_, rfl, HE.out.2, HE.out.1.all⟩

theorem AOk.yes {a : Att} (h : AOk a) (h1 : a.one = true) : AOk (nA a) ∧ nA a = ⟨a.name, true, a.int, []⟩ := by
  have e : nA a = ⟨a.name, true, a.int, []⟩ := by unfold nA; rw [h1]; rfl
  rw [e]
  exact ⟨⟨h.name, by simp, h.int, by simp⟩, rfl⟩
theorem AOk.no {a : Att} (h : AOk a) (h1 : a.one = false) : AOk (nA a) ∧ nA a = ⟨a.name, false, 0, a.ints⟩ := by
  have e : nA a = ⟨a.name, false, 0, a.ints⟩ := by unfold nA; rw [h1]; rfl
  rw [e]
  exact ⟨⟨h.name, h.len, by unfold I64; dsimp only; omega, h.ints⟩, rfl⟩

set_option maxRecDepth 100000 in
theorem own_attr_any (i : Att) (ci : List Value) (w : World) (hi : AttAt w.heap.size w i ci) :
    Calls Try.prog 42 #[.agg ci.toArray] w fun e w' => ∃ cs, e = .returned (.agg cs.toArray) ∧ OAtt w.heap.size w' (nA i) cs ∧ Below w.heap.size w w' := by
  obtain ⟨A, c, rfl, hs, ok⟩ := hi
  have HB := Lib.hid ((Bx.start w #[.string i.name, .bool i.one, .int .i64 i.int, .slice A i.ints.length c] 48).more (.cells #[.string ⟨#[]⟩, .bool false, .int .i64 0, .slice none 0 0] 48))
  have HZ := Lib.hid (Bx.two w (.cells #[.string i.name, .bool i.one, .int .i64 i.int, .slice A i.ints.length c] 48) #[.string ⟨#[]⟩, .bool false, .int .i64 0, .slice none 0 0] 48)
  have HR := Lib.hid (fun W (h : Below w.heap.size w W) => row_any i.name A c i.ints W ok.len ((hs.below h).more h.size))
  have OKY := Lib.hid ok.yes
  have OKN := Lib.hid ok.no
  clear hs ok
  cases h1 : i.one with
  | true =>
    rw [h1] at HB HZ
    obtain ⟨ok2, e2⟩ := OKY.out h1
    rw [e2] at ok2 ⊢
    have OK := Lib.hid ok2
    clear ok2 e2 OKY OKN HR h1
    go_enter Try.func42, Try.ntmps42
    go_wp2_with fail
    refine (m_number_any i.name i.int _).mono ?_
    rintro e w1 ⟨rfl, hb⟩
    have H1z := Lib.hid (HZ.out.below hb)
    clear hb HB HZ
    obtain ⟨x0, x1, x2, x3⟩ := H1z.out.four
    have f0 := fun i => H1z.out.free i
    obtain ⟨wE, hE, hxE⟩ := name_world10 (P := fun W => Bx w (w.heap.size + 1) #[.string i.name, .bool true, .int .i64 i.int, .slice none 0 0] 48 W)
      (H1z.out.four_put (by omega) (.string i.name) (.bool true) (.int .i64 i.int) (.slice none 0 0))
    have HE := Lib.hid hxE
    clear hxE
    go_wp2_with fail
    obtain ⟨y0, y1, y2, y3⟩ := HE.out.four
    exact bodyPost_ret (v := .agg #[.string i.name, .bool true, .int .i64 i.int, .slice none 0 0]) (by simp [results, Try.results42, go_sem, y0, y1, y2, y3]) rfl ⟨[.string i.name, .bool true, .int .i64 i.int, .slice none 0 0], rfl, ⟨_, rfl, own_nothing _ _ _ _, OK.out⟩, HE.out.all⟩
  | false =>
    rw [h1] at HB HZ
    obtain ⟨ok2, e2⟩ := OKN.out h1
    rw [e2] at ok2 ⊢
    have OK := Lib.hid ok2
    clear ok2 e2 OKY OKN h1
    go_enter Try.func42, Try.ntmps42
    go_wp2_with fail
    refine (HR.out _ HB.out.all).mono ?_
    rintro e w1 ⟨v, rfl, hown, hb⟩
    obtain ⟨A2, c2, rfl, -, -⟩ := own_form hown
    have H1z := Lib.hid (HZ.out.below hb)
    have HOW := Lib.hid (own_base hown HB.out.all.size)
    clear hown hb HB HZ HR
    obtain ⟨x0, x1, x2, x3⟩ := H1z.out.four
    have f0 := fun i => H1z.out.free i
    obtain ⟨wE, hE, hxE⟩ := name_world10 (P := fun W => Bx w (w.heap.size + 1) #[.string i.name, .bool false, .int .i64 0, .slice A2 i.ints.length c2] 48 W ∧ W.ownsRow w.heap.size 2 1 (.slice A2 i.ints.length c2) i.ints.length (iv i.ints))
      ⟨H1z.out.four_put (by omega) (.string i.name) (.bool false) (.int .i64 0) (.slice A2 i.ints.length c2), own_set4 HOW.out H1z.out.1 (by decide) (.string i.name) (.bool false) (.int .i64 0) (.slice A2 i.ints.length c2)⟩
    have HE := Lib.hid hxE
    clear hxE HOW
    go_wp2_with fail
    obtain ⟨y0, y1, y2, y3⟩ := HE.out.1.four
    exact bodyPost_ret (v := .agg #[.string i.name, .bool false, .int .i64 0, .slice A2 i.ints.length c2]) (by simp [results, Try.results42, go_sem, y0, y1, y2, y3]) rfl ⟨[.string i.name, .bool false, .int .i64 0, .slice A2 i.ints.length c2], rfl, ⟨_, rfl, HE.out.2, OK.out⟩, HE.out.1.all⟩

theorem tx_one {l : List ByteArray} : ∀ v ∈ m_tx l, v.oneCell' = true := by
  intro v hv
  simp only [m_tx, List.mem_map] at hv
  obtain ⟨b, _, rfl⟩ := hv
  rfl
theorem flat_one {css : List (List Value)} (h : ∀ c ∈ css, ∀ v ∈ c, v.oneCell' = true) : ∀ v ∈ css.flatten, v.oneCell' = true := by
  intro v hv
  obtain ⟨c, hc, hvc⟩ := List.mem_flatten.1 hv
  exact h c hc v hvc
theorem cells_one_Inf {B : Nat} {w : World} {l : List Inf} {css : List (List Value)} (h : Al (InfAt B w) l css) : ∀ v ∈ css.flatten, v.oneCell' = true := flat_one fun c hc v hv => by
  obtain ⟨a, _, hp⟩ := h.mem c hc
  obtain ⟨A, d, rfl⟩ := hp.shape
  simp only [List.mem_cons, List.not_mem_nil, or_false] at hv
  rcases hv with rfl | rfl | rfl <;> rfl
theorem cells_one_Ten {B : Nat} {w : World} {l : List Ten} {css : List (List Value)} (h : Al (TenAt B w) l css) : ∀ v ∈ css.flatten, v.oneCell' = true := flat_one fun c hc v hv => by
  obtain ⟨a, _, hp⟩ := h.mem c hc
  obtain ⟨A, d, rfl⟩ := hp.shape
  simp only [List.mem_cons, List.not_mem_nil, or_false] at hv
  rcases hv with rfl | rfl | rfl | rfl <;> rfl
theorem cells_one_Att {B : Nat} {w : World} {l : List Att} {css : List (List Value)} (h : Al (AttAt B w) l css) : ∀ v ∈ css.flatten, v.oneCell' = true := flat_one fun c hc v hv => by
  obtain ⟨a, _, hp⟩ := h.mem c hc
  obtain ⟨A, d, rfl⟩ := hp.shape
  simp only [List.mem_cons, List.not_mem_nil, or_false] at hv
  rcases hv with rfl | rfl | rfl | rfl <;> rfl
theorem cells_one_Nod {B : Nat} {w : World} {l : List Nod} {css : List (List Value)} (h : Al (NodAt B w) l css) : ∀ v ∈ css.flatten, v.oneCell' = true := flat_one fun c hc v hv => by
  obtain ⟨a, _, hp⟩ := h.mem c hc
  obtain ⟨A, d, A', d', rfl⟩ := hp.shape
  simp only [List.mem_cons, List.not_mem_nil, or_false] at hv
  rcases hv with rfl | rfl | rfl | rfl <;> rfl


theorem eoG_each_infos_any : Eo OInf (fun T => T ≠ 2) 3 := ⟨fun h => eo_inf.len h, fun h hb => eo_inf.keep h hb, fun h hb => eo_inf.base h hb, fun h hg hf => eo_inf.set h hg hf⟩
set_option maxRecDepth 100000 in
set_option maxHeartbeats 1000000 in
theorem each_infos_any (A : Option Addr) (c : Nat) (l : List Inf) (w : World) (hl : l.length * 48 ≤ 140737488351232) (ha : DR InfAt w w.heap.size 3 A l) :
    Calls Try.prog 35 #[.slice A l.length c, .func (.func 36) #[] #[]] w fun e w' => ∃ v, e = .returned v ∧ DW OInf w' w.heap.size 40 3 v (l) ∧ Below w.heap.size w w' := by
  obtain ⟨css, hal, hsr⟩ := ha
  have HN := Lib.hid (new_infos A l.length c css.flatten w hl hsr (cells_one_Inf hal))
  have HAL := Lib.hid hal
  have HCL := Lib.hid hal.len
  have HSZ := Lib.hid (ek_inf.all hal)
  clear hal hsr
  go_enter Try.func35, Try.ntmps35
  go_wp2_with fail
  refine HN.out.mono ?_
  rintro e w1 ⟨v, rfl, hown, hb⟩
  obtain ⟨va, vc, rfl, -, -⟩ := own_form hown
  have HST := Lib.hid (Each.start (Q := OInf) hb hown)
  clear hown hb HN
  go_wp2_with fail
  go_loopw [6, 11] (fun _ i wr => ∃ (k : Nat) (K : Int) (done : List (List Value)), i = .int .i64 K ∧ K = (k : Nat) ∧ k ≤ l.length ∧ Each OInf w wr 40 3 (.slice va l.length vc) l css done k) (fun _ i _ => l.length - (intOf i).toNat)
  case atStart => exact ⟨0, _, [], rfl, rfl, by omega, HST.out⟩
  case round =>
    obtain ⟨k, K, done, rfl, rfl, hk, hea⟩ := hrel
    have HE := Lib.hid hea
    skip
    clear hea
    by_cases hlt : k < l.length
    · obtain ⟨g, gc, cs, cur, hv, hB, hg, hp, hcx⟩ := HE.out.cellsAt ek_inf HAL.out rfl hlt
      simp only [Value.slice.injEq, true_and] at hv
      obtain ⟨rfl, rfl⟩ := hv
      have HC := Lib.hid (own_info_any l[k] cs wr hp)
      have HG := Lib.hid (fun (w2 : World) (hb : Below wr.heap.size wr w2) => HE.out.keep eoG_each_infos_any hb)
      have HK := Lib.hid hlt
      obtain ⟨A1, c1, rfl⟩ := InfAt.shape hp
      have HLK : Hid (∀ v', l[k] = v' → v' = l[k]) := Lib.hid (fun _ h => h.symm)
      clear hp hg
      generalize hu : l[k] = u at *
      have p0 := hcx 0 _ rfl
      have p1 := hcx 1 _ rfl
      have p2 := hcx 2 _ rfl
      simp only [Nat.add_zero] at p0
      clear hcx HLK
      have HU := Lib.hid hu
      clear hu
      go_wp2_with fail
      refine HC.out.mono ?_
      rintro e w2 ⟨cs2, rfl, ho2, hb2⟩
      have HE2 := Lib.hid (HG.out w2 hb2)
      have HO2 := Lib.hid ho2
      have HB2 := Lib.hid hb2
      obtain ⟨A2, c2, rfl⟩ := OInf.shape ho2
      clear ho2 hb2 HG HC p0 p1 p2 
      have hkk : k < l.length := HK.out
      have q : ∀ j, j < 3 → ∃ x, w2.cell? ⟨g, k * 3 + j, none⟩ = some x := by
        intro j hj
        obtain ⟨g2, gc2, cs3, cur3, hv3, hB3, hg3, hp3, hc3⟩ := HE2.out.cellsAt ek_inf HAL.out rfl HK.out
        simp only [Value.slice.injEq, Option.some.injEq, Addr.mk.injEq, and_true, true_and] at hv3
        obtain ⟨rfl, rfl⟩ := hv3
        have hl3 := ek_inf.len hp3
        exact ⟨_, hc3 j (cs3[j]'(by omega)) (List.getElem?_eq_getElem (by omega))⟩
      obtain ⟨q0, hq0⟩ := q 0 (by omega)
      obtain ⟨q1, hq1⟩ := q 1 (by omega)
      obtain ⟨q2, hq2⟩ := q 2 (by omega)
      simp only [Nat.add_zero] at hq0
      have hfz := fun j => (HE2.out.row).frozenAt j
      clear q hkk
      obtain ⟨w3, hw3, hx3⟩ := name_world10 (P := fun W => Each OInf w W 40 3 (.slice (some ⟨g, 0, none⟩) l.length vc) l css (done ++ [[.string u.name, .int .i64 u.kind, .slice A2 u.dims.length c2]]) (k + 1))
        (HE2.out.put3 eoG_each_infos_any (by decide) HCL.out.symm HSZ.out HK.out (by rw [show l[k]'HK.out = u from HU.out]; exact eo_inf.base HO2.out HE.out.below.size))
      have HE3 := Lib.hid hx3
      skip
      clear hx3
      go_wp2_with fail
      go_roundw
      case rel => exact ⟨k + 1, _, _, rfl, by omega, by omega, HE3.out⟩
      case measure => simp [intOf]; omega
    · obtain rfl : k = l.length := by omega
      go_wp2_with fail
      go_ret
      exact ⟨_, rfl, HE.out.end_ HCL.out.symm, HE.out.below⟩


theorem eoG_each_tens_any : Eo OTen (fun T => T ≠ 2) 4 := ⟨fun h => eo_ten.len h, fun h hb => eo_ten.keep h hb, fun h hb => eo_ten.base h hb, fun h hg hf => eo_ten.set h hg hf⟩
set_option maxRecDepth 100000 in
set_option maxHeartbeats 1000000 in
theorem each_tens_any (A : Option Addr) (c : Nat) (l : List Ten) (w : World) (hl : l.length * 64 ≤ 140737488351232) (ha : DR TenAt w w.heap.size 4 A l) :
    Calls Try.prog 37 #[.slice A l.length c, .func (.func 38) #[] #[]] w fun e w' => ∃ v, e = .returned v ∧ DW OTen w' w.heap.size 42 4 v (l) ∧ Below w.heap.size w w' := by
  obtain ⟨css, hal, hsr⟩ := ha
  have HN := Lib.hid (new_tens A l.length c css.flatten w hl hsr (cells_one_Ten hal))
  have HAL := Lib.hid hal
  have HCL := Lib.hid hal.len
  have HSZ := Lib.hid (ek_ten.all hal)
  clear hal hsr
  go_enter Try.func37, Try.ntmps37
  go_wp2_with fail
  refine HN.out.mono ?_
  rintro e w1 ⟨v, rfl, hown, hb⟩
  obtain ⟨va, vc, rfl, -, -⟩ := own_form hown
  have HST := Lib.hid (Each.start (Q := OTen) hb hown)
  clear hown hb HN
  go_wp2_with fail
  go_loopw [6, 11] (fun _ i wr => ∃ (k : Nat) (K : Int) (done : List (List Value)), i = .int .i64 K ∧ K = (k : Nat) ∧ k ≤ l.length ∧ Each OTen w wr 42 4 (.slice va l.length vc) l css done k) (fun _ i _ => l.length - (intOf i).toNat)
  case atStart => exact ⟨0, _, [], rfl, rfl, by omega, HST.out⟩
  case round =>
    obtain ⟨k, K, done, rfl, rfl, hk, hea⟩ := hrel
    have HE := Lib.hid hea
    skip
    clear hea
    by_cases hlt : k < l.length
    · obtain ⟨g, gc, cs, cur, hv, hB, hg, hp, hcx⟩ := HE.out.cellsAt ek_ten HAL.out rfl hlt
      simp only [Value.slice.injEq, true_and] at hv
      obtain ⟨rfl, rfl⟩ := hv
      have HC := Lib.hid (own_ten_any l[k] cs wr hp)
      have HG := Lib.hid (fun (w2 : World) (hb : Below wr.heap.size wr w2) => HE.out.keep eoG_each_tens_any hb)
      have HK := Lib.hid hlt
      obtain ⟨A1, c1, rfl⟩ := TenAt.shape hp
      have HLK : Hid (∀ v', l[k] = v' → v' = l[k]) := Lib.hid (fun _ h => h.symm)
      clear hp hg
      generalize hu : l[k] = u at *
      have p0 := hcx 0 _ rfl
      have p1 := hcx 1 _ rfl
      have p2 := hcx 2 _ rfl
      have p3 := hcx 3 _ rfl
      simp only [Nat.add_zero] at p0
      clear hcx HLK
      have HU := Lib.hid hu
      clear hu
      go_wp2_with fail
      refine HC.out.mono ?_
      rintro e w2 ⟨cs2, rfl, ho2, hb2⟩
      have HE2 := Lib.hid (HG.out w2 hb2)
      have HO2 := Lib.hid ho2
      have HB2 := Lib.hid hb2
      obtain ⟨A2, c2, rfl⟩ := OTen.shape ho2
      clear ho2 hb2 HG HC p0 p1 p2 p3
      have hkk : k < l.length := HK.out
      have q : ∀ j, j < 4 → ∃ x, w2.cell? ⟨g, k * 4 + j, none⟩ = some x := by
        intro j hj
        obtain ⟨g2, gc2, cs3, cur3, hv3, hB3, hg3, hp3, hc3⟩ := HE2.out.cellsAt ek_ten HAL.out rfl HK.out
        simp only [Value.slice.injEq, Option.some.injEq, Addr.mk.injEq, and_true, true_and] at hv3
        obtain ⟨rfl, rfl⟩ := hv3
        have hl3 := ek_ten.len hp3
        exact ⟨_, hc3 j (cs3[j]'(by omega)) (List.getElem?_eq_getElem (by omega))⟩
      obtain ⟨q0, hq0⟩ := q 0 (by omega)
      obtain ⟨q1, hq1⟩ := q 1 (by omega)
      obtain ⟨q2, hq2⟩ := q 2 (by omega)
      obtain ⟨q3, hq3⟩ := q 3 (by omega)
      simp only [Nat.add_zero] at hq0
      have hfz := fun j => (HE2.out.row).frozenAt j
      clear q hkk
      obtain ⟨w3, hw3, hx3⟩ := name_world10 (P := fun W => Each OTen w W 42 4 (.slice (some ⟨g, 0, none⟩) l.length vc) l css (done ++ [[.string u.name, .int .i64 u.kind, .slice A2 u.dims.length c2, .string u.data]]) (k + 1))
        (HE2.out.put4 eoG_each_tens_any (by decide) HCL.out.symm HSZ.out HK.out (by rw [show l[k]'HK.out = u from HU.out]; exact eo_ten.base HO2.out HE.out.below.size))
      have HE3 := Lib.hid hx3
      skip
      clear hx3
      go_wp2_with fail
      go_roundw
      case rel => exact ⟨k + 1, _, _, rfl, by omega, by omega, HE3.out⟩
      case measure => simp [intOf]; omega
    · obtain rfl : k = l.length := by omega
      go_wp2_with fail
      go_ret
      exact ⟨_, rfl, HE.out.end_ HCL.out.symm, HE.out.below⟩


theorem eoG_each_attrs_any : Eo (fun B w a cs => OAtt B w (nA a) cs) (fun T => T ≠ 2) 4 := ⟨fun h => eo_att.len h, fun h hb => eo_att.keep h hb, fun h hb => eo_att.base h hb, fun h hg hf => eo_att.set h hg hf⟩
set_option maxRecDepth 100000 in
set_option maxHeartbeats 1000000 in
theorem each_attrs_any (A : Option Addr) (c : Nat) (l : List Att) (w : World) (hl : l.length * 56 ≤ 140737488351232) (ha : DR AttAt w w.heap.size 4 A l) :
    Calls Try.prog 58 #[.slice A l.length c, .func (.func 42) #[] #[]] w fun e w' => ∃ v, e = .returned v ∧ DW OAtt w' w.heap.size 48 4 v (l.map nA) ∧ Below w.heap.size w w' := by
  obtain ⟨css, hal, hsr⟩ := ha
  have HN := Lib.hid (new_attrs A l.length c css.flatten w hl hsr (cells_one_Att hal))
  have HAL := Lib.hid hal
  have HCL := Lib.hid hal.len
  have HSZ := Lib.hid (ek_att.all hal)
  clear hal hsr
  go_enter Try.func58, Try.ntmps58
  go_wp2_with fail
  refine HN.out.mono ?_
  rintro e w1 ⟨v, rfl, hown, hb⟩
  obtain ⟨va, vc, rfl, -, -⟩ := own_form hown
  have HST := Lib.hid (Each.start (Q := (fun B w a cs => OAtt B w (nA a) cs)) hb hown)
  clear hown hb HN
  go_wp2_with fail
  go_loopw [6, 11] (fun _ i wr => ∃ (k : Nat) (K : Int) (done : List (List Value)), i = .int .i64 K ∧ K = (k : Nat) ∧ k ≤ l.length ∧ Each (fun B w a cs => OAtt B w (nA a) cs) w wr 48 4 (.slice va l.length vc) l css done k) (fun _ i _ => l.length - (intOf i).toNat)
  case atStart => exact ⟨0, _, [], rfl, rfl, by omega, HST.out⟩
  case round =>
    obtain ⟨k, K, done, rfl, rfl, hk, hea⟩ := hrel
    have HE := Lib.hid hea
    skip
    clear hea
    by_cases hlt : k < l.length
    · obtain ⟨g, gc, cs, cur, hv, hB, hg, hp, hcx⟩ := HE.out.cellsAt ek_att HAL.out rfl hlt
      simp only [Value.slice.injEq, true_and] at hv
      obtain ⟨rfl, rfl⟩ := hv
      have HC := Lib.hid (own_attr_any l[k] cs wr hp)
      have HG := Lib.hid (fun (w2 : World) (hb : Below wr.heap.size wr w2) => HE.out.keep eoG_each_attrs_any hb)
      have HK := Lib.hid hlt
      obtain ⟨A1, c1, rfl⟩ := AttAt.shape hp
      have HLK : Hid (∀ v', l[k] = v' → v' = l[k]) := Lib.hid (fun _ h => h.symm)
      clear hp hg
      generalize hu : l[k] = u at *
      have p0 := hcx 0 _ rfl
      have p1 := hcx 1 _ rfl
      have p2 := hcx 2 _ rfl
      have p3 := hcx 3 _ rfl
      simp only [Nat.add_zero] at p0
      clear hcx HLK
      have HU := Lib.hid hu
      clear hu
      go_wp2_with fail
      refine HC.out.mono ?_
      rintro e w2 ⟨cs2, rfl, ho2, hb2⟩
      have HE2 := Lib.hid (HG.out w2 hb2)
      have HO2 := Lib.hid ho2
      have HB2 := Lib.hid hb2
      obtain ⟨A2, c2, rfl⟩ := OAtt.shape ho2
      clear ho2 hb2 HG HC p0 p1 p2 p3
      have hkk : k < l.length := HK.out
      have q : ∀ j, j < 4 → ∃ x, w2.cell? ⟨g, k * 4 + j, none⟩ = some x := by
        intro j hj
        obtain ⟨g2, gc2, cs3, cur3, hv3, hB3, hg3, hp3, hc3⟩ := HE2.out.cellsAt ek_att HAL.out rfl HK.out
        simp only [Value.slice.injEq, Option.some.injEq, Addr.mk.injEq, and_true, true_and] at hv3
        obtain ⟨rfl, rfl⟩ := hv3
        have hl3 := ek_att.len hp3
        exact ⟨_, hc3 j (cs3[j]'(by omega)) (List.getElem?_eq_getElem (by omega))⟩
      obtain ⟨q0, hq0⟩ := q 0 (by omega)
      obtain ⟨q1, hq1⟩ := q 1 (by omega)
      obtain ⟨q2, hq2⟩ := q 2 (by omega)
      obtain ⟨q3, hq3⟩ := q 3 (by omega)
      simp only [Nat.add_zero] at hq0
      have hfz := fun j => (HE2.out.row).frozenAt j
      clear q hkk
      obtain ⟨w3, hw3, hx3⟩ := name_world10 (P := fun W => Each (fun B w a cs => OAtt B w (nA a) cs) w W 48 4 (.slice (some ⟨g, 0, none⟩) l.length vc) l css (done ++ [[.string (nA u).name, .bool (nA u).one, .int .i64 (nA u).int, .slice A2 (nA u).ints.length c2]]) (k + 1))
        (HE2.out.put4 eoG_each_attrs_any (by decide) HCL.out.symm HSZ.out HK.out (by rw [show l[k]'HK.out = u from HU.out]; exact eo_att.base HO2.out HE.out.below.size))
      have HE3 := Lib.hid hx3
      skip
      clear hx3
      go_wp2_with fail
      go_roundw
      case rel => exact ⟨k + 1, _, _, rfl, by omega, by omega, HE3.out⟩
      case measure => simp [intOf]; omega
    · obtain rfl : k = l.length := by omega
      go_wp2_with fail
      go_ret
      obtain ⟨css2, h1, h2, h3⟩ := HE.out.end_ HCL.out.symm
      exact ⟨_, rfl, ⟨css2, Al.map (P := OAtt w.heap.size wr) (g := nA) h1, h2, by rw [List.length_map]; exact h3⟩, HE.out.below⟩


theorem NOk.nn {n : Nod} (h : NOk n) : NOk (nN n) := ⟨h.op, h.out, h.ins, h.len, by have := h.alen; unfold nN; simpa using this⟩
theorem DW.set4 {w : World} {B b : Nat} {T : TypeId} {v : Value} {l : List Att} {c0 c1 c2 c3 : Value} (h : DW OAtt w B 48 4 v l) (hb : w.heap[b]? = some (.cells #[c0, c1, c2, c3] T (0, 0))) (h1 : T ≠ 2) (h2 : T ≠ 48) (v0 v1 v2 v3 : Value) :
    DW OAtt ((((w.setCell ⟨b, 0, none⟩ v0).setCell ⟨b, 1, none⟩ v1).setCell ⟨b, 2, none⟩ v2).setCell ⟨b, 3, none⟩ v3) B 48 4 v l := by
  have g1 := heap_setCell_same w b 0 _ T v0 hb
  have g2 := heap_setCell_same _ b 1 _ T v1 g1
  have g3 := heap_setCell_same _ b 2 _ T v2 g2
  exact (((h.set eo_att hb h1 h2).set eo_att g1 h1 h2).set eo_att g2 h1 h2).set eo_att g3 h1 h2
set_option maxRecDepth 100000 in
theorem own_node_any (i : Nod) (ci : List Value) (w : World) (hi : NodAt w.heap.size w i ci) :
    Calls Try.prog 40 #[.agg ci.toArray] w fun e w' => ∃ cs, e = .returned (.agg cs.toArray) ∧ ONod w.heap.size w' (nN i) cs ∧ Below w.heap.size w w' := by
  obtain ⟨A, c, D, d, rfl, hs, hd, ok⟩ := hi
  have HB := Lib.hid ((Bx.start w #[.string i.op, .slice A i.ins.length c, .string i.out, .slice D i.attrs.length d] 46).more (.cells #[.string ⟨#[]⟩, .slice none 0 0, .string ⟨#[]⟩, .slice none 0 0] 46))
  have HZ := Lib.hid (Bx.two w (.cells #[.string i.op, .slice A i.ins.length c, .string i.out, .slice D i.attrs.length d] 46) #[.string ⟨#[]⟩, .slice none 0 0, .string ⟨#[]⟩, .slice none 0 0] 46)
  have HN := Lib.hid (new_texts A i.ins.length c (m_tx i.ins) ((w.alloc (.cells #[.string i.op, .slice A i.ins.length c, .string i.out, .slice D i.attrs.length d] 46)).alloc (.cells #[.string ⟨#[]⟩, .slice none 0 0, .string ⟨#[]⟩, .slice none 0 0] 46)) ok.len ((hs.below HB.out.all).more HB.out.all.size) tx_one)
  have HA := Lib.hid (fun W (h : Below w.heap.size w W) => each_attrs_any D d i.attrs W ok.alen ((hd.below ek_att h).more ek_att h.size))
  have OK := Lib.hid ok.nn
  clear hs hd ok
  go_enter Try.func40, Try.ntmps40
  go_wp2_with fail
  refine HN.out.mono ?_
  rintro e w1 ⟨v, rfl, hown, hb⟩
  obtain ⟨A2, c2, rfl, -, -⟩ := own_form hown
  have H1 := Lib.hid (HB.out.below hb)
  have H1z := Lib.hid (HZ.out.below hb)
  have HOW := Lib.hid (own_base hown HB.out.all.size)
  clear hown hb HB HZ HN
  obtain ⟨x0, x1, x2, x3⟩ := H1.out.four
  have f0 := fun i => H1.out.free i
  obtain ⟨wE, hE, hxE⟩ := name_world10 (P := fun W => Bx w w.heap.size #[.string i.op, .slice A2 i.ins.length c2, .string i.out, .slice D i.attrs.length d] 46 W ∧ Bx w (w.heap.size + 1) #[.string ⟨#[]⟩, .slice none 0 0, .string ⟨#[]⟩, .slice none 0 0] 46 W ∧ W.ownsRow w.heap.size 9 1 (.slice A2 i.ins.length c2) i.ins.length (m_tx i.ins))
    ⟨H1.out.set (Nat.le_refl _) 1 (.slice A2 i.ins.length c2), H1z.out.far_set (.slice A2 i.ins.length c2) (by omega) (Nat.le_refl _), own_set HOW.out (own_far HOW.out H1.out.1 (by decide)) 1 (.slice A2 i.ins.length c2)⟩
  have HE := Lib.hid hxE
  clear hxE HOW H1 H1z
  obtain ⟨e0, e1, e2, e3⟩ := HE.out.1.four
  go_wp2_with fail
  refine (HA.out _ HE.out.1.all).mono ?_
  rintro e w2 ⟨v2, rfl, hdw, hb2⟩
  obtain ⟨D2, d2, rfl⟩ : ∃ D2 d2, v2 = .slice D2 i.attrs.length d2 := by have := hdw.form; rwa [List.length_map] at this
  have HF := Lib.hid (And.intro (HE.out.1.below hb2) (And.intro (HE.out.2.1.below hb2) (And.intro (own_keep HE.out.2.2 hb2) (hdw.base eo_att HE.out.1.all.size))))
  clear hdw hb2 HE HA x0 x1 x2 x3 f0 hE e0 e1 e2 e3
  obtain ⟨x0, x1, x2, x3⟩ := HF.out.1.four
  have f0 := fun i => HF.out.1.free i
  obtain ⟨wG, hG, hxG⟩ := name_world10 (P := fun W => Bx w w.heap.size #[.string i.op, .slice A2 i.ins.length c2, .string i.out, .slice D2 i.attrs.length d2] 46 W ∧ Bx w (w.heap.size + 1) #[.string ⟨#[]⟩, .slice none 0 0, .string ⟨#[]⟩, .slice none 0 0] 46 W ∧ W.ownsRow w.heap.size 9 1 (.slice A2 i.ins.length c2) i.ins.length (m_tx i.ins) ∧ DW OAtt W w.heap.size 48 4 (.slice D2 i.attrs.length d2) (i.attrs.map nA))
    ⟨HF.out.1.set (Nat.le_refl _) 3 (.slice D2 i.attrs.length d2), HF.out.2.1.far_set (.slice D2 i.attrs.length d2) (by omega) (Nat.le_refl _), own_set HF.out.2.2.1 (own_far HF.out.2.2.1 HF.out.1.1 (by decide)) 3 (.slice D2 i.attrs.length d2), HF.out.2.2.2.set eo_att HF.out.1.1 (by decide) (by decide)⟩
  have HG := Lib.hid hxG
  clear hxG HF
  obtain ⟨g0, g1, g2, g3⟩ := HG.out.1.four
  obtain ⟨z0, z1, z2, z3⟩ := HG.out.2.1.four
  have f1 := fun i => HG.out.2.1.free i
  obtain ⟨wH, hH, hxH⟩ := name_world10 (P := fun W => Bx w (w.heap.size + 1) #[.string i.op, .slice A2 i.ins.length c2, .string i.out, .slice D2 i.attrs.length d2] 46 W ∧ W.ownsRow w.heap.size 9 1 (.slice A2 i.ins.length c2) i.ins.length (m_tx i.ins) ∧ DW OAtt W w.heap.size 48 4 (.slice D2 i.attrs.length d2) (i.attrs.map nA))
    ⟨HG.out.2.1.four_put (by omega) (.string i.op) (.slice A2 i.ins.length c2) (.string i.out) (.slice D2 i.attrs.length d2), own_set4 HG.out.2.2.1 HG.out.2.1.1 (by decide) (.string i.op) (.slice A2 i.ins.length c2) (.string i.out) (.slice D2 i.attrs.length d2), HG.out.2.2.2.set4 HG.out.2.1.1 (by decide) (by decide) (.string i.op) (.slice A2 i.ins.length c2) (.string i.out) (.slice D2 i.attrs.length d2)⟩
  have HH := Lib.hid hxH
  clear hxH HG
  go_wp2_with fail
  obtain ⟨y0, y1, y2, y3⟩ := HH.out.1.four
  exact bodyPost_ret (v := .agg #[.string i.op, .slice A2 i.ins.length c2, .string i.out, .slice D2 i.attrs.length d2]) (by simp [results, Try.results40, go_sem, y0, y1, y2, y3]) rfl ⟨[.string i.op, .slice A2 i.ins.length c2, .string i.out, .slice D2 i.attrs.length d2], rfl, ⟨_, _, rfl, HH.out.2.1, HH.out.2.2, OK.out⟩, HH.out.1.all⟩


theorem eoG_each_nodes_any : Eo (fun B w a cs => ONod B w (nN a) cs) (fun T => T ≠ 2 ∧ T ≠ 9 ∧ T ≠ 48) 4 := ⟨fun h => eo_nod.len h, fun h hb => eo_nod.keep h hb, fun h hb => eo_nod.base h hb, fun h hg hf => eo_nod.set h hg hf⟩
set_option maxRecDepth 100000 in
set_option maxHeartbeats 1000000 in
theorem each_nodes_any (A : Option Addr) (c : Nat) (l : List Nod) (w : World) (hl : l.length * 80 ≤ 140737488351232) (ha : DR NodAt w w.heap.size 4 A l) :
    Calls Try.prog 39 #[.slice A l.length c, .func (.func 40) #[] #[]] w fun e w' => ∃ v, e = .returned v ∧ (∃ css, Ap css ∧ Al (ONod w.heap.size w') (l.map nN) css ∧ (∀ c ∈ css, c.length = 4) ∧ w'.ownsRow w.heap.size 46 4 v (l.map nN).length css.flatten) ∧ Below w.heap.size w w' := by
  obtain ⟨css, hal, hsr⟩ := ha
  have HN := Lib.hid (new_nodes A l.length c css.flatten w hl hsr (cells_one_Nod hal))
  have HAL := Lib.hid hal
  have HCL := Lib.hid hal.len
  have HSZ := Lib.hid (ek_nod.all hal)
  clear hal hsr
  go_enter Try.func39, Try.ntmps39
  go_wp2_with fail
  refine HN.out.mono ?_
  rintro e w1 ⟨v, rfl, hown, hb⟩
  obtain ⟨va, vc, rfl, -, -⟩ := own_form hown
  have HST := Lib.hid (Each.start (Q := (fun B w a cs => ONod B w (nN a) cs)) hb hown)
  clear hown hb HN
  go_wp2_with fail
  go_loopw [6, 11] (fun _ i wr => ∃ (k : Nat) (K : Int) (done : List (List Value)), i = .int .i64 K ∧ K = (k : Nat) ∧ k ≤ l.length ∧ Each (fun B w a cs => ONod B w (nN a) cs) w wr 46 4 (.slice va l.length vc) l css done k ∧ Ap done) (fun _ i _ => l.length - (intOf i).toNat)
  case atStart => exact ⟨0, _, [], rfl, rfl, by omega, HST.out, List.Pairwise.nil⟩
  case round =>
    obtain ⟨k, K, done, rfl, rfl, hk, hea, hap⟩ := hrel
    have HE := Lib.hid hea
    have HAP := Lib.hid hap
    clear hea hap
    by_cases hlt : k < l.length
    · obtain ⟨g, gc, cs, cur, hv, hB, hg, hp, hcx⟩ := HE.out.cellsAt ek_nod HAL.out rfl hlt
      simp only [Value.slice.injEq, true_and] at hv
      obtain ⟨rfl, rfl⟩ := hv
      have HC := Lib.hid (own_node_any l[k] cs wr hp)
      have HG := Lib.hid (fun (w2 : World) (hb : Below wr.heap.size wr w2) => HE.out.keep eoG_each_nodes_any hb)
      have HK := Lib.hid hlt
      obtain ⟨A1, c1, D1, e1, rfl⟩ := NodAt.shape hp
      have HLK : Hid (∀ v', l[k] = v' → v' = l[k]) := Lib.hid (fun _ h => h.symm)
      clear hp hg
      generalize hu : l[k] = u at *
      have p0 := hcx 0 _ rfl
      have p1 := hcx 1 _ rfl
      have p2 := hcx 2 _ rfl
      have p3 := hcx 3 _ rfl
      simp only [Nat.add_zero] at p0
      clear hcx HLK
      have HU := Lib.hid hu
      clear hu
      go_wp2_with fail
      refine HC.out.mono ?_
      rintro e w2 ⟨cs2, rfl, ho2, hb2⟩
      have HE2 := Lib.hid (HG.out w2 hb2)
      have HO2 := Lib.hid ho2
      have HB2 := Lib.hid hb2
      obtain ⟨A2, c2, D2, e2, rfl⟩ := ONod.shape ho2
      clear ho2 hb2 HG HC p0 p1 p2 p3
      have hkk : k < l.length := HK.out
      have q : ∀ j, j < 4 → ∃ x, w2.cell? ⟨g, k * 4 + j, none⟩ = some x := by
        intro j hj
        obtain ⟨g2, gc2, cs3, cur3, hv3, hB3, hg3, hp3, hc3⟩ := HE2.out.cellsAt ek_nod HAL.out rfl HK.out
        simp only [Value.slice.injEq, Option.some.injEq, Addr.mk.injEq, and_true, true_and] at hv3
        obtain ⟨rfl, rfl⟩ := hv3
        have hl3 := ek_nod.len hp3
        exact ⟨_, hc3 j (cs3[j]'(by omega)) (List.getElem?_eq_getElem (by omega))⟩
      obtain ⟨q0, hq0⟩ := q 0 (by omega)
      obtain ⟨q1, hq1⟩ := q 1 (by omega)
      obtain ⟨q2, hq2⟩ := q 2 (by omega)
      obtain ⟨q3, hq3⟩ := q 3 (by omega)
      simp only [Nat.add_zero] at hq0
      have hfz := fun j => (HE2.out.row).frozenAt j
      clear q hkk
      obtain ⟨w3, hw3, hx3⟩ := name_world10 (P := fun W => Each (fun B w a cs => ONod B w (nN a) cs) w W 46 4 (.slice (some ⟨g, 0, none⟩) l.length vc) l css (done ++ [[.string (nN u).op, .slice A2 (nN u).ins.length c2, .string (nN u).out, .slice D2 (nN u).attrs.length e2]]) (k + 1))
        (HE2.out.put4 eoG_each_nodes_any (by decide) HCL.out.symm HSZ.out HK.out (by rw [show l[k]'HK.out = u from HU.out]; exact eo_nod.base HO2.out HE.out.below.size))
      have HE3 := Lib.hid hx3
      have HAP3 := Lib.hid (Ap.snoc HAP.out HE.out HO2.out)
      clear hx3
      go_wp2_with fail
      go_roundw
      case rel => exact ⟨k + 1, _, _, rfl, by omega, by omega, HE3.out, HAP3.out⟩
      case measure => simp [intOf]; omega
    · obtain rfl : k = l.length := by omega
      go_wp2_with fail
      go_ret
      obtain ⟨h1, h2, h3⟩ := HE.out.end2 HCL.out.symm
      exact ⟨_, rfl, ⟨done, HAP.out, Al.map (P := ONod w.heap.size wr) (g := nN) h1, h2, by rw [List.length_map]; exact h3⟩, HE.out.below⟩

end Go.Proofs.Ytpdpimchchfocaa
/- The walk of Clone: a model in memory of its own. -/
namespace Go.Proofs.Ytpdpimchchfocaa
open Go.RowKit M7 M10

/-- nodes of the call's own -/
def ONods (w : World) (B : Nat) (v : Value) (l : List Nod) : Prop := ∃ css, Ap css ∧ Al (ONod B w) l css ∧ (∀ c ∈ css, c.length = 4) ∧ w.ownsRow B 46 4 v l.length css.flatten
section
variable {w w' : World} {B B' : Nat} {v : Value} {l : List Nod}
theorem ONods.dw (h : ONods w B v l) : DW ONod w B 46 4 v l := by
  obtain ⟨css, _, h1, h2, h3⟩ := h; exact ⟨css, h1, h2, h3⟩
theorem ONods.keep (h : ONods w B v l) (hb : Below w.heap.size w w') : ONods w' B v l := by
  obtain ⟨css, h0, h1, h2, h3⟩ := h
  exact ⟨css, h0, h1.mono fun _ _ hp => eo_nod.keep hp hb, h2, own_keep h3 hb⟩
theorem ONods.base (h : ONods w B v l) (hb : B' ≤ B) : ONods w B' v l := by
  obtain ⟨css, h0, h1, h2, h3⟩ := h
  exact ⟨css, h0, h1.mono fun _ _ hp => eo_nod.base hp hb, h2, own_base h3 hb⟩
theorem ONods.set (h : ONods w B v l) {g : Nat} {cur : Array Value} {T2 : TypeId} {i : Nat} {u : Value} (hg : w.heap[g]? = some (.cells cur T2 (0, 0))) (hf : T2 ≠ 2 ∧ T2 ≠ 9 ∧ T2 ≠ 48) (hT : T2 ≠ 46) : ONods (w.setCell ⟨g, i, none⟩ u) B v l := by
  obtain ⟨css, h0, h1, h2, h3⟩ := h
  exact ⟨css, h0, h1.mono fun _ _ hp => eo_nod.set hp hg hf, h2, own_set h3 (own_far h3 hg hT) i u⟩
end
/-- a model of the call's own -/
structure OMod (w : World) (B : Nat) (m : Mod) (v1 v2 v3 v4 : Value) : Prop where
  inputs : DW OInf w B 40 3 v1 m.inputs
  outputs : DW OInf w B 40 3 v2 m.outputs
  inits : DW OTen w B 42 4 v3 m.inits
  nodes : ONods w B v4 m.nodes
section
variable {w w' : World} {B B' : Nat} {m : Mod} {v1 v2 v3 v4 : Value}
theorem OMod.keep (h : OMod w B m v1 v2 v3 v4) (hb : Below w.heap.size w w') : OMod w' B m v1 v2 v3 v4 := ⟨h.inputs.keep eo_inf hb, h.outputs.keep eo_inf hb, h.inits.keep eo_ten hb, h.nodes.keep hb⟩
theorem OMod.set (h : OMod w B m v1 v2 v3 v4) {g : Nat} {cur : Array Value} {i : Nat} {u : Value} (hg : w.heap[g]? = some (.cells cur 26 (0, 0))) : OMod (w.setCell ⟨g, i, none⟩ u) B m v1 v2 v3 v4 :=
  ⟨h.inputs.set eo_inf hg (by decide) (by decide), h.outputs.set eo_inf hg (by decide) (by decide), h.inits.set eo_ten hg (by decide) (by decide), h.nodes.set hg (by decide) (by decide)⟩
theorem OMod.read {A1 A2 A3 A4 : Option Addr} {c1 c2 c3 c4 : Nat} (h : OMod w B m (.slice A1 m.inputs.length c1) (.slice A2 m.outputs.length c2) (.slice A3 m.inits.length c3) (.slice A4 m.nodes.length c4))
    (ho : I64 m.opset) (h1 : m.inputs.length * 48 ≤ 140737488351232) (h2 : m.outputs.length * 48 ≤ 140737488351232) (h3 : m.inits.length * 64 ≤ 140737488351232) (h4 : m.nodes.length * 80 ≤ 140737488351232) : ModAt w.heap.size w m A1 A2 A3 A4 :=
  ⟨h.inputs.read fun _ _ _ hp => hp.at_, h.outputs.read fun _ _ _ hp => hp.at_, h.inits.read fun _ _ _ hp => hp.at_, h.nodes.dw.read fun _ _ _ hp => hp.at_, ho, h1, h2, h3, h4⟩
end
theorem Bx.five_put {w W : World} {g : Nat} {a0 a1 a2 a3 a4 : Value} {T : TypeId} (h : Bx w g #[a0, a1, a2, a3, a4] T W) (hg : w.heap.size ≤ g) (v0 v1 v2 v3 v4 : Value) :
    Bx w g #[v0, v1, v2, v3, v4] T (((((W.setCell ⟨g, 0, none⟩ v0).setCell ⟨g, 1, none⟩ v1).setCell ⟨g, 2, none⟩ v2).setCell ⟨g, 3, none⟩ v3).setCell ⟨g, 4, none⟩ v4) :=
  ((((h.set hg 0 v0).set hg 1 v1).set hg 2 v2).set hg 3 v3).set hg 4 v4
theorem OMod.set5 {w : World} {B g : Nat} {m : Mod} {v1 v2 v3 v4 : Value} {cur : Array Value} (h : OMod w B m v1 v2 v3 v4) (hg : w.heap[g]? = some (.cells cur 26 (0, 0))) (u0 u1 u2 u3 u4 : Value) :
    OMod (((((w.setCell ⟨g, 0, none⟩ u0).setCell ⟨g, 1, none⟩ u1).setCell ⟨g, 2, none⟩ u2).setCell ⟨g, 3, none⟩ u3).setCell ⟨g, 4, none⟩ u4) B m v1 v2 v3 v4 := by
  have g1 := heap_setCell_same w g 0 _ 26 u0 hg
  have g2 := heap_setCell_same _ g 1 _ 26 u1 g1
  have g3 := heap_setCell_same _ g 2 _ 26 u2 g2
  have g4 := heap_setCell_same _ g 3 _ 26 u3 g3
  exact ((((h.set hg).set g1).set g2).set g3).set g4
theorem Bx.far_set5 {w W : World} {g : Nat} {cs : Array Value} {T : TypeId} (h : Bx w g cs T W) {b : Nat} (v0 v1 v2 v3 v4 : Value) (hne : g ≠ b) (hb : w.heap.size ≤ b) : Bx w g cs T (((((W.setCell ⟨b, 0, none⟩ v0).setCell ⟨b, 1, none⟩ v1).setCell ⟨b, 2, none⟩ v2).setCell ⟨b, 3, none⟩ v3).setCell ⟨b, 4, none⟩ v4) :=
  ((((h.far_set v0 hne hb).far_set v1 hne hb).far_set v2 hne hb).far_set v3 hne hb).far_set v4 hne hb
theorem Bx.drew10 {w W : World} {g : Nat} {cs : Array Value} {T : TypeId} (h : Bx w g cs T W) : Bx w g cs T W.drew := ⟨h.1, h.2.1, h.2.2.drew⟩
/-- two blocks of the call's own -/
structure MTwo (w : World) (g h : Nat) (cs ds : Array Value) (T : TypeId) (W : World) : Prop where
  a : Bx w g cs T W
  b : Bx w h ds T W
theorem MTwo.below {w W W' : World} {g h : Nat} {cs ds : Array Value} {T : TypeId} (x : MTwo w g h cs ds T W) (hb : Below W.heap.size W W') : MTwo w g h cs ds T W' := ⟨x.a.below hb, x.b.below hb⟩

set_option maxRecDepth 100000 in
set_option maxHeartbeats 2000000 in
theorem clone_model_any (m : Mod) (A1 A2 A3 A4 : Option Addr) (c1 c2 c3 c4 : Nat) (w : World) (hm : ModAt w.heap.size w m A1 A2 A3 A4) :
    Calls Try.prog 10 #[.agg (mv m.opset A1 m.inputs.length c1 A2 m.outputs.length c2 A3 m.inits.length c3 A4 m.nodes.length c4)] w fun e w' => ∃ B1 B2 B3 B4 d1 d2 d3 d4,
      e = .returned (.agg (mv m.opset B1 m.inputs.length d1 B2 m.outputs.length d2 B3 m.inits.length d3 B4 m.nodes.length d4)) ∧ OMod w' w.heap.size (nM m) (.slice B1 m.inputs.length d1) (.slice B2 m.outputs.length d2) (.slice B3 m.inits.length d3) (.slice B4 m.nodes.length d4) ∧ Below w.heap.size w w' := by
  have HB := Lib.hid ((Bx.start w #[.int .i64 m.opset, .slice A1 m.inputs.length c1, .slice A2 m.outputs.length c2, .slice A3 m.inits.length c3, .slice A4 m.nodes.length c4] 26).more (.cells #[.int .i64 0, .slice none 0 0, .slice none 0 0, .slice none 0 0, .slice none 0 0] 26))
  have HZ := Lib.hid (Bx.two w (.cells #[.int .i64 m.opset, .slice A1 m.inputs.length c1, .slice A2 m.outputs.length c2, .slice A3 m.inits.length c3, .slice A4 m.nodes.length c4] 26) #[.int .i64 0, .slice none 0 0, .slice none 0 0, .slice none 0 0, .slice none 0 0] 26)
  have HT := Lib.hid (show MTwo w w.heap.size (w.heap.size + 1) #[.int .i64 m.opset, .slice A1 m.inputs.length c1, .slice A2 m.outputs.length c2, .slice A3 m.inits.length c3, .slice A4 m.nodes.length c4] #[.int .i64 0, .slice none 0 0, .slice none 0 0, .slice none 0 0, .slice none 0 0] 26 _ from ⟨HB.out.drew10, HZ.out.drew10⟩)
  have H1 := Lib.hid (fun W (h : Below w.heap.size w W) => each_infos_any A1 c1 m.inputs W hm.len1 ((hm.inputs.below ek_inf h).more ek_inf h.size))
  have H2 := Lib.hid (fun W (h : Below w.heap.size w W) => each_infos_any A2 c2 m.outputs W hm.len2 ((hm.outputs.below ek_inf h).more ek_inf h.size))
  have H3 := Lib.hid (fun W (h : Below w.heap.size w W) => each_tens_any A3 c3 m.inits W hm.len3 ((hm.inits.below ek_ten h).more ek_ten h.size))
  have H4 := Lib.hid (fun W (h : Below w.heap.size w W) => each_nodes_any A4 c4 m.nodes W hm.len4 ((hm.nodes.below ek_nod h).more ek_nod h.size))
  clear hm HB HZ
  unfold mv
  go_enter Try.func10, Try.ntmps10
  go_wp2_with fail
  generalize hw2 : (w.alloc (.cells #[.int .i64 m.opset, .slice A1 m.inputs.length c1, .slice A2 m.outputs.length c2, .slice A3 m.inits.length c3, .slice A4 m.nodes.length c4] 26)).alloc (.cells #[.int .i64 0, .slice none 0 0, .slice none 0 0, .slice none 0 0, .slice none 0 0] 26) = w2 at *
  clear hw2
  go_region_held (fun W => W.cell? ⟨w.heap.size, 0, none⟩ = some (.int .i64 m.opset) ∧ W.cell? ⟨w.heap.size, 1, none⟩ = some (.slice A1 m.inputs.length c1) ∧ W.cell? ⟨w.heap.size, 2, none⟩ = some (.slice A2 m.outputs.length c2) ∧ W.cell? ⟨w.heap.size, 3, none⟩ = some (.slice A3 m.inits.length c3) ∧ W.cell? ⟨w.heap.size, 4, none⟩ = some (.slice A4 m.nodes.length c4))
    (first | exact HT5.out.2.2.five | exact HT4.out.a.five | exact HT3.out.a.five | exact HT2.out.a.five | exact HT1.out.a.five | exact HT.out.a.five)
    (first
      | (go_at_call 35; (with_reducible refine (H1.out _ HT.out.a.all).mono ?_); rintro e w3 ⟨v1, rfl, hd1, hb3⟩; have HT1 := Lib.hid (HT.out.below hb3); have HD1 := Lib.hid (hd1.base eo_inf HT.out.a.all.size); (obtain ⟨B1, d1, rfl⟩ := hd1.form); clear hd1 hb3)
      | (go_at_call 35; (with_reducible refine (H2.out _ HT1.out.a.all).mono ?_); rintro e w4 ⟨v2, rfl, hd2, hb4⟩; have HT2 := Lib.hid (HT1.out.below hb4); have HE1 := Lib.hid (HD1.out.keep eo_inf hb4); have HD2 := Lib.hid (hd2.base eo_inf HT1.out.a.all.size); (obtain ⟨B2, d2, rfl⟩ := hd2.form); clear hd2 hb4)
      | (go_at_call 37; (with_reducible refine (H3.out _ HT2.out.a.all).mono ?_); rintro e w5 ⟨v3, rfl, hd3, hb5⟩; have HT3 := Lib.hid (HT2.out.below hb5); have HF1 := Lib.hid (HE1.out.keep eo_inf hb5); have HE2 := Lib.hid (HD2.out.keep eo_inf hb5); have HD3 := Lib.hid (hd3.base eo_ten HT2.out.a.all.size); (obtain ⟨B3, d3, rfl⟩ := hd3.form); clear hd3 hb5)
      | (go_at_call 39; (with_reducible refine (H4.out _ HT3.out.a.all).mono ?_); rintro e w6 ⟨v4, rfl, hd4, hb6⟩; have HT4 := Lib.hid (HT3.out.below hb6); have HG1 := Lib.hid (HF1.out.keep eo_inf hb6); have HF2 := Lib.hid (HE2.out.keep eo_inf hb6); have HE3 := Lib.hid (HD3.out.keep eo_ten hb6); have HD4 := Lib.hid ((show ONods w6 w5.heap.size v4 (m.nodes.map nN) from hd4).base HT3.out.a.all.size); (obtain ⟨B4, d4, rfl⟩ : ∃ A c, v4 = .slice A m.nodes.length c := by have := (show ONods w6 w5.heap.size v4 (m.nodes.map nN) from hd4).dw.form; rwa [List.length_map] at this); clear hd4 hb6; have z0 := HT4.out.b.five; have zf := fun i => HT4.out.b.free i; (obtain ⟨wE, hE, hxE⟩ := name_world10 (P := fun W => Bx w (w.heap.size + 1) #[.int .i64 m.opset, .slice B1 m.inputs.length d1, .slice B2 m.outputs.length d2, .slice B3 m.inits.length d3, .slice B4 m.nodes.length d4] 26 W ∧ OMod W w.heap.size (nM m) (.slice B1 m.inputs.length d1) (.slice B2 m.outputs.length d2) (.slice B3 m.inits.length d3) (.slice B4 m.nodes.length d4) ∧ Bx w w.heap.size #[.int .i64 m.opset, .slice A1 m.inputs.length c1, .slice A2 m.outputs.length c2, .slice A3 m.inits.length c3, .slice A4 m.nodes.length c4] 26 W) ⟨HT4.out.b.five_put (by omega) (.int .i64 m.opset) (.slice B1 m.inputs.length d1) (.slice B2 m.outputs.length d2) (.slice B3 m.inits.length d3) (.slice B4 m.nodes.length d4), OMod.set5 (m := nM m) ⟨HG1.out, HF2.out, HE3.out, HD4.out⟩ HT4.out.b.1 (.int .i64 m.opset) (.slice B1 m.inputs.length d1) (.slice B2 m.outputs.length d2) (.slice B3 m.inits.length d3) (.slice B4 m.nodes.length d4), HT4.out.a.far_set5 (.int .i64 m.opset) (.slice B1 m.inputs.length d1) (.slice B2 m.outputs.length d2) (.slice B3 m.inits.length d3) (.slice B4 m.nodes.length d4) (by omega) (by omega)⟩); have HT5 := Lib.hid hxE; clear hxE))
  all_goals
    go_wp2_with fail
    obtain ⟨y0, y1, y2, y3, y4⟩ := HT5.out.1.five
    exact bodyPost_ret (v := .agg #[.int .i64 m.opset, .slice B1 m.inputs.length d1, .slice B2 m.outputs.length d2, .slice B3 m.inits.length d3, .slice B4 m.nodes.length d4]) (by simp [results, Try.results10, go_sem, y0, y1, y2, y3, y4]) rfl ⟨B1, B2, B3, B4, d1, d2, d3, d4, rfl, HT5.out.2.1, HT5.out.1.all⟩
end Go.Proofs.Ytpdpimchchfocaa
/- A clone that is spoilt part by part: what stays, and that nothing older is touched. No walk. -/
namespace Go.Proofs.Ytpdpimchchfocaa
open Go.RowKit M7 M10

/-- a store of a number into a row of numbers: every row of numbers is one still -/
theorem own_int_store {w : World} {B n g i : Nat} {v : Value} {l : List Int} (h : w.ownsRow B 2 1 v n (iv l)) (x : Int) :
    ∃ l', l'.length = l.length ∧ (w.setCell ⟨g, i, none⟩ (.int .i64 x)).ownsRow B 2 1 v n (iv l') := by
  by_cases hb : v.ownBlock = some g
  · rcases h.2 with ⟨rfl, _⟩ | ⟨g2, cap, cur2, rfl, _⟩
    · simp [Value.ownBlock] at hb
    · simp only [Value.ownBlock, Option.some.injEq] at hb
      subst hb
      refine ⟨l.set i x, by simp, ?_⟩
      have := (h.stored i (.int .i64 x)).1
      rwa [show (iv l).set i (.int .i64 x) = iv (l.set i x) by simp [iv, List.map_set]] at this
  · exact ⟨l, rfl, own_set h hb i _⟩
def ZInf (B : Nat) (w : World) (cs : List Value) : Prop := ∃ (s : ByteArray) (k : Int) (v : Value) (l : List Int), cs = [.string s, .int .i64 k, v] ∧ w.ownsRow B 2 1 v l.length (iv l)
def ZTen (B : Nat) (w : World) (cs : List Value) : Prop := ∃ (s : ByteArray) (k : Int) (v : Value) (l : List Int) (d : ByteArray), cs = [.string s, .int .i64 k, v, .string d] ∧ w.ownsRow B 2 1 v l.length (iv l)
def ZAtt (B : Nat) (w : World) (cs : List Value) : Prop := ∃ (s : ByteArray) (b : Bool) (k : Int) (v : Value) (l : List Int), cs = [.string s, .bool b, .int .i64 k, v] ∧ w.ownsRow B 2 1 v l.length (iv l)
def ZNod (f : Nat → Nat) (ass : List (List Value)) (B : Nat) (w : World) (cs : List Value) : Prop :=
  ∃ (op out : ByteArray) (v u : Value) (ts : List ByteArray), cs = [.string op, v, .string out, u] ∧ w.ownsRow B 9 1 v ts.length (m_tx ts) ∧ (∀ i (h : i < ts.length), ts[i].size ≤ f i) ∧
    w.ownsRow B 48 4 u ass.length ass.flatten ∧ ∀ c ∈ ass, ZAtt B w c
/-- the spoilt clone: its rows, and that nothing older than B has been touched since W0 -/
structure ZS (B g8 : Nat) (zc : Array Value) (W0 : World) (v1 v3 v4 : Value) (c1 c3 c4 : List (List Value)) (aa : Nat → List (List Value)) (f : Nat → Nat → Nat) (W : World) : Prop where
  below : Below B W0 W
  ge : B ≤ g8
  box : W.heap[g8]? = some (.cells zc 26 (0, 0))
  r1 : W.ownsRow B 40 3 v1 c1.length c1.flatten
  r3 : W.ownsRow B 42 4 v3 c3.length c3.flatten
  r4 : W.ownsRow B 46 4 v4 c4.length c4.flatten
  q1 : ∀ i (h : i < c1.length), ZInf B W c1[i]
  q3 : ∀ i (h : i < c3.length), ZTen B W c3[i]
  q4 : ∀ i (h : i < c4.length), ZNod (f i) (aa i) B W c4[i]
  ap : Ap c4
section
variable {B g8 : Nat} {zc : Array Value} {W0 W : World} {v1 v3 v4 : Value} {c1 c3 c4 : List (List Value)} {aa : Nat → List (List Value)} {f f' : Nat → Nat → Nat}
theorem ZInf.int {w : World} {cs : List Value} {g i : Nat} (h : ZInf B w cs) (x : Int) : ZInf B (w.setCell ⟨g, i, none⟩ (.int .i64 x)) cs := by
  obtain ⟨s, k, v, l, rfl, ho⟩ := h
  obtain ⟨l', hl, ho'⟩ := own_int_store (g := g) (i := i) ho x
  exact ⟨s, k, v, l', rfl, by rw [hl]; exact ho'⟩
theorem ZTen.int {w : World} {cs : List Value} {g i : Nat} (h : ZTen B w cs) (x : Int) : ZTen B (w.setCell ⟨g, i, none⟩ (.int .i64 x)) cs := by
  obtain ⟨s, k, v, l, d, rfl, ho⟩ := h
  obtain ⟨l', hl, ho'⟩ := own_int_store (g := g) (i := i) ho x
  exact ⟨s, k, v, l', d, rfl, by rw [hl]; exact ho'⟩
theorem ZAtt.int {w : World} {cs : List Value} {g i : Nat} (h : ZAtt B w cs) (x : Int) : ZAtt B (w.setCell ⟨g, i, none⟩ (.int .i64 x)) cs := by
  obtain ⟨s, b, k, v, l, rfl, ho⟩ := h
  obtain ⟨l', hl, ho'⟩ := own_int_store (g := g) (i := i) ho x
  exact ⟨s, b, k, v, l', rfl, by rw [hl]; exact ho'⟩
theorem ZNod.int {w : World} {cs : List Value} {g i : Nat} {cur : Array Value} {b : Nat → Nat} {ass : List (List Value)} (h : ZNod b ass B w cs) (hg : w.heap[g]? = some (.cells cur 2 (0, 0))) (x : Int) : ZNod b ass B (w.setCell ⟨g, i, none⟩ (.int .i64 x)) cs := by
  obtain ⟨op, out, v, u, ts, rfl, ho, hs, ha, hq⟩ := h
  exact ⟨op, out, v, u, ts, rfl, own_set ho (own_far ho hg (by decide)) i _, hs, own_set ha (own_far ha hg (by decide)) i _, fun c hc => (hq c hc).int x⟩
/-- a store of a number into a row of numbers -/
theorem ZS.int (h : ZS B g8 zc W0 v1 v3 v4 c1 c3 c4 aa f W) {g i : Nat} {cur : Array Value} (hg : W.heap[g]? = some (.cells cur 2 (0, 0))) (hB : B ≤ g) (x : Int) : ZS B g8 zc W0 v1 v3 v4 c1 c3 c4 aa f (W.setCell ⟨g, i, none⟩ (.int .i64 x)) :=
  ⟨h.below.setCell (p := ⟨g, i, none⟩) hB _, h.ge, heap_far h.box _ (fun e => by subst e; have := h.box; rw [hg] at this; simp at this), own_set h.r1 (own_far h.r1 hg (by decide)) i _, own_set h.r3 (own_far h.r3 hg (by decide)) i _, own_set h.r4 (own_far h.r4 hg (by decide)) i _,
   fun j hj => (h.q1 j hj).int x, fun j hj => (h.q3 j hj).int x, fun j hj => (h.q4 j hj).int hg x, h.ap⟩
theorem ZS.mono (h : ZS B g8 zc W0 v1 v3 v4 c1 c3 c4 aa f W) (hf : ∀ i j, f i j ≤ f' i j) : ZS B g8 zc W0 v1 v3 v4 c1 c3 c4 aa f' W :=
  ⟨h.below, h.ge, h.box, h.r1, h.r3, h.r4, h.q1, h.q3, fun j hj => by
    obtain ⟨op, out, v, u, ts, e, ho, hs, r⟩ := h.q4 j hj
    exact ⟨op, out, v, u, ts, e, ho, fun i hi => Nat.le_trans (hs i hi) (hf j i), r⟩, h.ap⟩
theorem ZInf.str {w : World} {cs : List Value} {g i : Nat} {cur : Array Value} {x : Value} (h : ZInf B w cs) (hg : w.heap[g]? = some (.cells cur 9 (0, 0))) : ZInf B (w.setCell ⟨g, i, none⟩ x) cs := by
  obtain ⟨s, k, v, l, rfl, ho⟩ := h
  exact ⟨s, k, v, l, rfl, own_set ho (own_far ho hg (by decide)) i x⟩
theorem ZTen.str {w : World} {cs : List Value} {g i : Nat} {cur : Array Value} {x : Value} (h : ZTen B w cs) (hg : w.heap[g]? = some (.cells cur 9 (0, 0))) : ZTen B (w.setCell ⟨g, i, none⟩ x) cs := by
  obtain ⟨s, k, v, l, d, rfl, ho⟩ := h
  exact ⟨s, k, v, l, d, rfl, own_set ho (own_far ho hg (by decide)) i x⟩
theorem ZAtt.str {w : World} {cs : List Value} {g i : Nat} {cur : Array Value} {x : Value} (h : ZAtt B w cs) (hg : w.heap[g]? = some (.cells cur 9 (0, 0))) : ZAtt B (w.setCell ⟨g, i, none⟩ x) cs := by
  obtain ⟨s, b, k, v, l, rfl, ho⟩ := h
  exact ⟨s, b, k, v, l, rfl, own_set ho (own_far ho hg (by decide)) i x⟩
theorem ap_ne {c4 : List (List Value)} (h : Ap c4) {i j : Nat} (hi : i < c4.length) (hj : j < c4.length) (hne : i ≠ j) {v u : Value} (hv : c4[i][1]? = some v) (hu : c4[j][1]? = some u) {g : Nat} (hg : v.ownBlock = some g) : u.ownBlock ≠ some g := by
  have hp := List.pairwise_iff_getElem.1 h
  rcases Nat.lt_or_ge i j with hlt | hge
  · exact hp i j hi hj hlt v u g hv hu hg
  · intro hc
    exact hp j i hj hi (by omega) u v g hu hv hc hg
/-- a text of node i is made longer by one -/
theorem ZS.str (h : ZS B g8 zc W0 v1 v3 v4 c1 c3 c4 aa f W) {i k g n c : Nat} (hi : i < c4.length) {op out : ByteArray} {u : Value} (hsh : c4[i] = [.string op, .slice (some ⟨g, 0, none⟩) n c, .string out, u]) (s : ByteArray)
    (hf : ∀ a b, f a b ≤ f' a b) (hfs : s.size ≤ f' i k) : ZS B g8 zc W0 v1 v3 v4 c1 c3 c4 aa f' (W.setCell ⟨g, k, none⟩ (.string s)) := by
  have hq := h.q4 i hi
  rw [hsh] at hq
  obtain ⟨op', out', v, u', ts, e, ho, hs, ha, hc⟩ := hq
  simp only [List.cons.injEq, Value.string.injEq, and_true] at e
  obtain ⟨rfl, rfl, rfl, rfl⟩ := e
  have hn : n = ts.length := by
    obtain ⟨A, cc, e, _⟩ := own_form ho
    simp only [Value.slice.injEq] at e
    exact e.2.1
  subst hn
  obtain ⟨hB, cur, hg⟩ := own_cur ho
  refine ⟨h.below.setCell (p := ⟨g, k, none⟩) hB _, h.ge, heap_far h.box _ (fun e => by subst e; have := h.box; rw [hg] at this; simp at this), own_set h.r1 (own_far h.r1 hg (by decide)) k _, own_set h.r3 (own_far h.r3 hg (by decide)) k _, own_set h.r4 (own_far h.r4 hg (by decide)) k _,
    fun j hj => (h.q1 j hj).str hg, fun j hj => (h.q3 j hj).str hg, fun j hj => ?_, h.ap⟩
  by_cases hji : j = i
  · subst hji
    rw [hsh]
    have hst := (ho.stored k (.string s)).1
    rw [show (m_tx ts).set k (.string s) = m_tx (ts.set k s) by simp [m_tx, List.map_set]] at hst
    refine ⟨op, out, _, u, ts.set k s, rfl, by rw [List.length_set]; exact hst, fun a ha' => ?_, own_set ha (own_far ha hg (by decide)) k _, fun c hc' => (hc c hc').str hg⟩
    rw [List.getElem_set]
    split
    · rename_i e; subst e; exact hfs
    · exact Nat.le_trans (hs a (by simpa using ha')) (hf j a)
  · obtain ⟨op2, out2, v2, u2, ts2, e2, ho2, hs2, ha2, hc2⟩ := h.q4 j hj
    have hne := ap_ne h.ap hi hj (fun e => hji e.symm) (v := .slice (some ⟨g, 0, none⟩) ts.length c) (u := v2) (by rw [hsh]; rfl) (by rw [e2]; rfl) (g := g) rfl
    exact ⟨op2, out2, v2, u2, ts2, e2, own_set ho2 hne k _, fun a ha' => Nat.le_trans (hs2 a ha') (hf j a), own_set ha2 (own_far ha2 hg (by decide)) k _, fun c hc' => (hc2 c hc').str hg⟩
end
/-- the texts' bound while node i's text k is at hand -/
def fB (i k : Nat) (a b : Nat) : Nat := if a < i ∨ (a = i ∧ b < k) then 140737488351233 else 140737488351232
theorem fB_step (i k a b : Nat) : fB i k a b ≤ fB i (k + 1) a b := by
  unfold fB; split <;> split <;> omega
theorem fB_at (i k : Nat) : fB i (k + 1) i k = 140737488351233 ∧ fB i k i k = 140737488351232 := by
  unfold fB; constructor
  · rw [if_pos (by omega)]
  · rw [if_neg (by omega)]
theorem fB_next (i k a b : Nat) : fB i k a b ≤ fB (i + 1) 0 a b := by
  unfold fB; split <;> split <;> omega
/-- a clone just made -/
theorem ZS.start {B g8 : Nat} {zc : Array Value} {W0 W : World} {m : Mod} {v1 v2 v3 v4 : Value} (h : OMod W B m v1 v2 v3 v4) (hb : Below B W0 W) (hg : B ≤ g8) (hbox : W.heap[g8]? = some (.cells zc 26 (0, 0))) :
    ∃ c1 c3 c4 aa, ZS B g8 zc W0 v1 v3 v4 c1 c3 c4 aa (fB 0 0) W ∧ c1.length = m.inputs.length ∧ c3.length = m.inits.length ∧ c4.length = m.nodes.length ∧ (∀ c ∈ c1, c.length = 3) ∧ (∀ c ∈ c3, c.length = 4) ∧ (∀ c ∈ c4, c.length = 4) ∧ ∀ i, i < c4.length → ∀ c ∈ aa i, c.length = 4 := by
  obtain ⟨c1, a1, s1, o1⟩ := h.inputs
  obtain ⟨c3, a3, s3, o3⟩ := h.inits
  obtain ⟨c4, ap, a4, s4, o4⟩ := h.nodes
  have e1 := a1.len
  have e3 := a3.len
  have e4 := a4.len
  have hone : ∀ i, i < c4.length → ∃ ass : List (List Value), (∀ (hi : i < c4.length), ZNod (fB 0 0 i) ass B W c4[i]) ∧ ∀ c ∈ ass, c.length = 4 := by
    intro i hi
    obtain ⟨v, u, e, ho, ⟨css, ha, hl, hw⟩, hok⟩ := a4.get (by omega : i < m.nodes.length) hi
    refine ⟨css, fun _ => ⟨_, _, v, u, _, e, ho, fun j hj => ?_, by rw [← ha.len]; exact hw, fun c hc => ?_⟩, hl⟩
    · have := hok.ins _ (List.getElem_mem hj)
      unfold fB
      split <;> omega
    · obtain ⟨a, _, v2, e2, ho2, _⟩ := ha.mem c hc
      exact ⟨_, _, _, v2, _, e2, ho2⟩
  obtain ⟨aa, haa⟩ := Go.Deep.choose_lt hone
  refine ⟨c1, c3, c4, aa, ⟨hb, hg, hbox, by rw [← e1]; exact o1, by rw [← e3]; exact o3, by rw [← e4]; exact o4, fun i hi => ?_, fun i hi => ?_, fun i hi => (haa i hi).1 hi, ap⟩, e1.symm, e3.symm, e4.symm, s1, s3, s4, fun i hi => (haa i hi).2⟩
  · obtain ⟨v, e, ho, _⟩ := a1.get (by omega : i < m.inputs.length) hi
    exact ⟨_, _, v, _, e, ho⟩
  · obtain ⟨v, e, ho, _⟩ := a3.get (by omega : i < m.inits.length) hi
    exact ⟨_, _, v, _, _, e, ho⟩
/-- a cell of a row of elements -/
theorem row_cell {w : World} {B size n g c : Nat} {T : TypeId} {css : List (List Value)} (h : w.ownsRow B T size (.slice (some ⟨g, 0, none⟩) n c) n css.flatten) (hs : ∀ c ∈ css, c.length = size) (hn : n = css.length) {k : Nat} (hk : k < css.length) {j : Nat} {u : Value} (hj : css[k][j]? = some u) :
    w.cell? ⟨g, k * size + j, none⟩ = some u := by
  have hcl := hs _ (List.getElem_mem hk)
  have hjs : j < size := by have := (List.getElem?_eq_some_iff.1 hj).1; omega
  have hlast : k * size + j < n * size := by
    have : (k + 1) * size ≤ n * size := Nat.mul_le_mul_right _ (by omega)
    rw [Nat.succ_mul] at this
    omega
  rw [h.cellAt (k * size + j) hlast, flat_at hs hk j hjs]
  exact hj
/-- one number of a row of numbers of the call's own -/
theorem num_cell {w : World} {B n q : Nat} {A : Option Addr} {c : Nat} {l : List Int} (h : w.ownsRow B 2 1 (.slice A n c) n (iv l)) (hl : l.length = n) (hq : q < n) :
    ∃ gb x cur, A = some ⟨gb, 0, none⟩ ∧ B ≤ gb ∧ w.heap[gb]? = some (.cells cur 2 (0, 0)) ∧ w.cell? ⟨gb, q, none⟩ = some (.int .i64 x) ∧ w.frozen? ⟨gb, q, none⟩ = false := by
  obtain ⟨g, cc, cur, hv, hB, hg⟩ := own_addr h (by omega)
  simp only [Value.slice.injEq, true_and] at hv
  obtain ⟨rfl, rfl⟩ := hv
  have hc := h.cellAt q (by omega)
  rw [show (iv l)[q]? = some (.int .i64 (l[q]'(by omega))) by simp [iv, show q < l.length by omega]] at hc
  exact ⟨g, _, cur, rfl, hB, hg, hc, h.frozenAt q⟩
section
variable {B g8 : Nat} {zc : Array Value} {W0 W : World} {v1 v3 v4 : Value} {c1 c3 c4 : List (List Value)} {aa : Nat → List (List Value)} {f : Nat → Nat → Nat} {k : Nat}
theorem ZS.inf_at (h : ZS B g8 zc W0 v1 v3 v4 c1 c3 c4 aa f W) (hk : k < c1.length) : ∃ ga ca s kk A nl cl, v1 = .slice (some ⟨ga, 0, none⟩) c1.length ca ∧ c1[k] = [.string s, .int .i64 kk, .slice A nl cl] ∧ nl ≤ maxLen := by
  obtain ⟨ga, ca, cur, hv, _⟩ := own_addr h.r1 (by omega)
  obtain ⟨s, kk, v, l, e, ho⟩ := h.q1 k hk
  obtain ⟨A, c, rfl, _⟩ := own_form ho
  exact ⟨ga, ca, s, kk, A, _, c, hv, e, own_len ho⟩
theorem ZS.inf_cells (h : ZS B g8 zc W0 v1 v3 v4 c1 c3 c4 aa f W) (hs : ∀ c ∈ c1, c.length = 3) (hk : k < c1.length) {ga ca : Nat} {s : ByteArray} {kk : Int} {A : Option Addr} {nl cl : Nat} (hv : v1 = .slice (some ⟨ga, 0, none⟩) c1.length ca) (hsh : c1[k] = [.string s, .int .i64 kk, .slice A nl cl]) :
    W.cell? ⟨ga, k * 3 + 2, none⟩ = some (.slice A nl cl) ∧ ∀ q, q < nl → ∃ gb x cur, A = some ⟨gb, 0, none⟩ ∧ B ≤ gb ∧ W.heap[gb]? = some (.cells cur 2 (0, 0)) ∧ W.cell? ⟨gb, q, none⟩ = some (.int .i64 x) ∧ W.frozen? ⟨gb, q, none⟩ = false := by
  have h1 := h.r1
  rw [hv] at h1
  refine ⟨row_cell h1 hs rfl hk (by rw [hsh]; rfl), fun q hq => ?_⟩
  obtain ⟨s2, k2, v, l, e, ho⟩ := h.q1 k hk
  rw [hsh] at e
  simp only [List.cons.injEq, and_true] at e
  obtain ⟨_, _, rfl⟩ := e
  have hl : l.length = nl := by
    obtain ⟨A2, c2, e2, _⟩ := own_form ho
    simp only [Value.slice.injEq] at e2
    exact e2.2.1.symm
  rw [hl] at ho
  exact num_cell ho hl hq
theorem ZS.ten_at (h : ZS B g8 zc W0 v1 v3 v4 c1 c3 c4 aa f W) (hk : k < c3.length) : ∃ ga ca s kk A nl cl d, v3 = .slice (some ⟨ga, 0, none⟩) c3.length ca ∧ c3[k] = [.string s, .int .i64 kk, .slice A nl cl, .string d] ∧ nl ≤ maxLen := by
  obtain ⟨ga, ca, cur, hv, _⟩ := own_addr h.r3 (by omega)
  obtain ⟨s, kk, v, l, d, e, ho⟩ := h.q3 k hk
  obtain ⟨A, c, rfl, _⟩ := own_form ho
  exact ⟨ga, ca, s, kk, A, _, c, d, hv, e, own_len ho⟩
theorem ZS.ten_cells (h : ZS B g8 zc W0 v1 v3 v4 c1 c3 c4 aa f W) (hs : ∀ c ∈ c3, c.length = 4) (hk : k < c3.length) {ga ca : Nat} {s d : ByteArray} {kk : Int} {A : Option Addr} {nl cl : Nat} (hv : v3 = .slice (some ⟨ga, 0, none⟩) c3.length ca) (hsh : c3[k] = [.string s, .int .i64 kk, .slice A nl cl, .string d]) :
    W.cell? ⟨ga, k * 4 + 2, none⟩ = some (.slice A nl cl) ∧ ∀ q, q < nl → ∃ gb x cur, A = some ⟨gb, 0, none⟩ ∧ B ≤ gb ∧ W.heap[gb]? = some (.cells cur 2 (0, 0)) ∧ W.cell? ⟨gb, q, none⟩ = some (.int .i64 x) ∧ W.frozen? ⟨gb, q, none⟩ = false := by
  have h1 := h.r3
  rw [hv] at h1
  refine ⟨row_cell h1 hs rfl hk (by rw [hsh]; rfl), fun q hq => ?_⟩
  obtain ⟨s2, k2, v, l, d2, e, ho⟩ := h.q3 k hk
  rw [hsh] at e
  simp only [List.cons.injEq, and_true] at e
  obtain ⟨_, _, rfl, _⟩ := e
  have hl : l.length = nl := by
    obtain ⟨A2, c2, e2, _⟩ := own_form ho
    simp only [Value.slice.injEq] at e2
    exact e2.2.1.symm
  rw [hl] at ho
  exact num_cell ho hl hq
theorem ZS.nod_at (h : ZS B g8 zc W0 v1 v3 v4 c1 c3 c4 aa f W) (hk : k < c4.length) : ∃ ga ca op out A nl cl D cd, v4 = .slice (some ⟨ga, 0, none⟩) c4.length ca ∧ c4[k] = [.string op, .slice A nl cl, .string out, .slice D (aa k).length cd] ∧ nl ≤ maxLen ∧ (aa k).length ≤ maxLen := by
  obtain ⟨ga, ca, cur, hv, _⟩ := own_addr h.r4 (by omega)
  obtain ⟨op, out, v, u, ts, e, ho, _, ha, _⟩ := h.q4 k hk
  obtain ⟨A, c, rfl, _⟩ := own_form ho
  obtain ⟨D, d, rfl, _⟩ := own_form ha
  exact ⟨ga, ca, op, out, A, _, c, D, d, hv, e, own_len ho, own_len ha⟩
theorem ZS.nod_cells (h : ZS B g8 zc W0 v1 v3 v4 c1 c3 c4 aa f W) (hs : ∀ c ∈ c4, c.length = 4) (hk : k < c4.length) {ga ca : Nat} {op out : ByteArray} {A D : Option Addr} {nl cl cd : Nat} (hv : v4 = .slice (some ⟨ga, 0, none⟩) c4.length ca) (hsh : c4[k] = [.string op, .slice A nl cl, .string out, .slice D (aa k).length cd]) :
    W.cell? ⟨ga, k * 4 + 1, none⟩ = some (.slice A nl cl) ∧ W.cell? ⟨ga, k * 4 + 3, none⟩ = some (.slice D (aa k).length cd) ∧
    (∀ q, q < nl → ∃ gb s, A = some ⟨gb, 0, none⟩ ∧ W.cell? ⟨gb, q, none⟩ = some (.string s) ∧ s.size ≤ f k q ∧ W.frozen? ⟨gb, q, none⟩ = false) := by
  have h1 := h.r4
  rw [hv] at h1
  refine ⟨row_cell h1 hs rfl hk (by rw [hsh]; rfl), row_cell h1 hs rfl hk (by rw [hsh]; rfl), fun q hq => ?_⟩
  obtain ⟨op2, out2, v, u, ts, e, ho, hsz, _⟩ := h.q4 k hk
  rw [hsh] at e
  simp only [List.cons.injEq, and_true] at e
  obtain ⟨_, rfl, _, _⟩ := e
  have hl : ts.length = nl := by
    obtain ⟨A2, c2, e2, _⟩ := own_form ho
    simp only [Value.slice.injEq] at e2
    exact e2.2.1.symm
  rw [hl] at ho
  obtain ⟨g, cc, cur, hvv, hB, hg⟩ := own_addr ho (by omega)
  simp only [Value.slice.injEq, true_and] at hvv
  obtain ⟨rfl, rfl⟩ := hvv
  have hc := ho.cellAt q (by omega)
  rw [show (m_tx ts)[q]? = some (.string (ts[q]'(by omega))) by simp [m_tx, show q < ts.length by omega]] at hc
  exact ⟨g, _, rfl, hc, hsz q (by omega), ho.frozenAt q⟩
theorem ZS.att_at (h : ZS B g8 zc W0 v1 v3 v4 c1 c3 c4 aa f W) (hk : k < c4.length) {op out : ByteArray} {A D : Option Addr} {nl cl cd : Nat} (hsh : c4[k] = [.string op, .slice A nl cl, .string out, .slice D (aa k).length cd]) {j : Nat} (hj : j < (aa k).length) :
    ∃ gd s b kk E na ce, D = some ⟨gd, 0, none⟩ ∧ (aa k)[j] = [.string s, .bool b, .int .i64 kk, .slice E na ce] ∧ na ≤ maxLen := by
  obtain ⟨op2, out2, v, u, ts, e, _, _, ha, hq⟩ := h.q4 k hk
  rw [hsh] at e
  simp only [List.cons.injEq, and_true] at e
  obtain ⟨_, _, _, rfl⟩ := e
  obtain ⟨g, cc, cur, hvv, _⟩ := own_addr ha (by omega)
  simp only [Value.slice.injEq, true_and] at hvv
  obtain ⟨s, b, kk, v2, l, e2, ho⟩ := hq _ (List.getElem_mem hj)
  obtain ⟨E, ce, rfl, _⟩ := own_form ho
  exact ⟨g, s, b, kk, E, _, ce, hvv.1, e2, own_len ho⟩
theorem ZS.att_cells (h : ZS B g8 zc W0 v1 v3 v4 c1 c3 c4 aa f W) (hs : ∀ c ∈ aa k, c.length = 4) (hk : k < c4.length) {op out : ByteArray} {A : Option Addr} {nl cl cd gd : Nat} (hsh : c4[k] = [.string op, .slice A nl cl, .string out, .slice (some ⟨gd, 0, none⟩) (aa k).length cd]) {j : Nat} (hj : j < (aa k).length)
    {s : ByteArray} {b : Bool} {kk : Int} {E : Option Addr} {na ce : Nat} (hsa : (aa k)[j] = [.string s, .bool b, .int .i64 kk, .slice E na ce]) :
    W.cell? ⟨gd, j * 4 + 3, none⟩ = some (.slice E na ce) ∧ ∀ q, q < na → ∃ gb x cur, E = some ⟨gb, 0, none⟩ ∧ B ≤ gb ∧ W.heap[gb]? = some (.cells cur 2 (0, 0)) ∧ W.cell? ⟨gb, q, none⟩ = some (.int .i64 x) ∧ W.frozen? ⟨gb, q, none⟩ = false := by
  obtain ⟨op2, out2, v, u, ts, e, _, _, ha, hq⟩ := h.q4 k hk
  rw [hsh] at e
  simp only [List.cons.injEq, and_true] at e
  obtain ⟨_, _, _, rfl⟩ := e
  refine ⟨row_cell ha hs rfl hj (by rw [hsa]; rfl), fun q hqn => ?_⟩
  obtain ⟨s2, b2, k2, v2, l, e2, ho⟩ := hq _ (List.getElem_mem hj)
  rw [hsa] at e2
  simp only [List.cons.injEq, and_true] at e2
  obtain ⟨_, _, _, rfl⟩ := e2
  have hl : l.length = na := by
    obtain ⟨A2, c2, e3, _⟩ := own_form ho
    simp only [Value.slice.injEq] at e3
    exact e3.2.1.symm
  rw [hl] at ho
  exact num_cell ho hl hqn
theorem ZS.five {a0 a1 a2 a3 a4 : Value} (h : ZS B g8 #[a0, a1, a2, a3, a4] W0 v1 v3 v4 c1 c3 c4 aa f W) : W.cell? ⟨g8, 0, none⟩ = some a0 ∧ W.cell? ⟨g8, 1, none⟩ = some a1 ∧ W.cell? ⟨g8, 2, none⟩ = some a2 ∧ W.cell? ⟨g8, 3, none⟩ = some a3 ∧ W.cell? ⟨g8, 4, none⟩ = some a4 :=
  ⟨cell_of_row W g8 0 _ _ _ h.box, cell_of_row W g8 1 _ _ _ h.box, cell_of_row W g8 2 _ _ _ h.box, cell_of_row W g8 3 _ _ _ h.box, cell_of_row W g8 4 _ _ _ h.box⟩
end
end Go.Proofs.Ytpdpimchchfocaa
/- The walks of what finds an attribute of a name: Attr, Row, One. -/
namespace Go.Proofs.Ytpdpimchchfocaa
open Go.RowKit M7 M10

/-- the place of the first attribute of a name -/
def atI (l : List Att) (s : ByteArray) : Nat := l.findIdx fun a => decide (a.name = s)
def zA : Att := ⟨⟨#[]⟩, false, 0, []⟩
/-- the first attribute of a name, or the zero one -/
def atA (l : List Att) (s : ByteArray) : Att := (l[atI l s]?).getD zA
/-- is there one -/
def atB (l : List Att) (s : ByteArray) : Bool := decide (atI l s < l.length)
section
variable {l : List Att} {s : ByteArray} {k : Nat}
theorem at_yes (h : k < l.length) (h1 : l[k].name = s) (h2 : ∀ j, j < k → ∀ hj : j < l.length, l[j].name ≠ s) : atI l s = k ∧ atA l s = l[k] ∧ atB l s = true := by
  have e : atI l s = k := (List.findIdx_eq h).2 ⟨by simpa using h1, fun j hj => by simpa using h2 j hj (by omega)⟩
  refine ⟨e, ?_, ?_⟩
  · unfold atA; rw [e, List.getElem?_eq_getElem h]; rfl
  · unfold atB; rw [e]; simpa using h
theorem at_no (h2 : ∀ j, j < l.length → ∀ hj : j < l.length, l[j].name ≠ s) : atI l s = l.length ∧ atA l s = zA ∧ atB l s = false := by
  have e : atI l s = l.length := List.findIdx_eq_length.2 fun x hx => by
    obtain ⟨j, hj, rfl⟩ := List.mem_iff_getElem.1 hx
    simpa using h2 j hj hj
  refine ⟨e, ?_, ?_⟩
  · unfold atA; rw [e, List.getElem?_eq_none (Nat.le_refl _)]; rfl
  · unfold atB; rw [e]; simp
end
theorem zA_at (B : Nat) (w : World) : AttAt B w zA [.string ⟨#[]⟩, .bool false, .int .i64 0, .slice none 0 0] :=
  ⟨none, 0, rfl, SR.empty _ _ _ _, ⟨by show (0 : Nat) ≤ 140737488351232; omega, by simp [zA], by unfold I64 zA; dsimp only; omega, by simp [zA]⟩⟩
theorem nA_zA : nA zA = zA := rfl
theorem Bx.drew11 {w W : World} {g : Nat} {cs : Array Value} {T : TypeId} (h : Bx w g cs T W) (n : Nat) : Bx w g cs T (W.drewN n) := ⟨h.1, h.2.1, below_drewN h.2.2 n⟩

set_option maxRecDepth 100000 in
set_option maxHeartbeats 1000000 in
theorem attr_any (n : Nod) (cn : List Value) (s : ByteArray) (w : World) (hn : NodAt w.heap.size w n cn) :
    Calls Try.prog 41 #[.agg cn.toArray, .string s] w fun e w' => ∃ ca, e = .returned (.tuple #[.agg ca.toArray, .bool (atB n.attrs s)]) ∧ AttAt w.heap.size w' (atA n.attrs s) ca ∧ Below w.heap.size w w' := by
  obtain ⟨A, c, D, d, rfl, -, hd, ok⟩ := hn
  have hal := ok.alen
  have HB := Lib.hid ((Bx.start w #[.string n.op, .slice A n.ins.length c, .string n.out, .slice D n.attrs.length d] 46).more (.cells #[.string ⟨#[]⟩, .bool false, .int .i64 0, .slice none 0 0] 48))
  have HZ := Lib.hid (Bx.two w (.cells #[.string n.op, .slice A n.ins.length c, .string n.out, .slice D n.attrs.length d] 46) #[.string ⟨#[]⟩, .bool false, .int .i64 0, .slice none 0 0] 48)
  obtain ⟨x0, x1, x2, x3⟩ := HB.out.four
  have HD := Lib.hid hd
  clear hd ok
  go_enter Try.func41, Try.ntmps41
  go_wp2_with fail
  clear x0 x1 x2 x3
  go_loopw [7, 11] (fun _ i wr => ∃ (k : Nat) (K : Int), i = .int .i64 K ∧ K = (k : Nat) ∧ k ≤ n.attrs.length ∧ Bx w (w.heap.size + 1) #[.string ⟨#[]⟩, .bool false, .int .i64 0, .slice none 0 0] 48 wr ∧ ∀ j, j < k → ∀ hj : j < n.attrs.length, n.attrs[j].name ≠ s) (fun _ i _ => n.attrs.length - (intOf i).toNat)
  case atStart => exact ⟨0, _, rfl, rfl, by omega, HZ.out, fun j hj => absurd hj (by omega)⟩
  case round =>
    obtain ⟨k, K, rfl, rfl, hk, hbx, hno⟩ := hrel
    have H1 := Lib.hid hbx
    have HNO := Lib.hid hno
    clear hbx hno
    have hbz := H1.out.all.size
    by_cases hlt : k < n.attrs.length
    · obtain ⟨b, o, cs, rfl, hb, hp, hcx⟩ := (HD.out.below ek_att H1.out.all).at_ ek_att hlt
      have HP := Lib.hid hp
      have HY := Lib.hid (fun h => at_yes hlt h HNO.out)
      have HN := Lib.hid (fun (h : n.attrs[k].name ≠ s) => show ∀ j, j < k + 1 → ∀ hj : j < n.attrs.length, n.attrs[j].name ≠ s from fun j hj hj2 => by
        by_cases e : j = k
        · subst e; exact h
        · exact HNO.out j (by omega) hj2)
      obtain ⟨A1, c1, rfl⟩ := AttAt.shape hp
      clear hp HNO
      generalize n.attrs[k] = u at *
      have p0 := hcx 0 _ rfl
      have p1 := hcx 1 _ rfl
      have p2 := hcx 2 _ rfl
      have p3 := hcx 3 _ rfl
      simp only [Nat.add_zero] at p0
      clear hcx
      have H2 := Lib.hid (H1.out.more (.cells #[.string u.name, .bool u.one, .int .i64 u.int, .slice A1 u.ints.length c1] 48))
      by_cases hs : u.name = s
      · have e1 := teq_yes hs
        have HE := Lib.hid (HY.out hs)
        clear hs HY HN HD HB HZ
        obtain ⟨y0, y1, y2, y3⟩ := H2.out.four
        have f0 := fun i => H2.out.free i
        obtain ⟨wE, hE, hxE⟩ := name_world10 (P := fun W => Bx w (w.heap.size + 1) #[.string u.name, .bool u.one, .int .i64 u.int, .slice A1 u.ints.length c1] 48 W ∧ AttAt w.heap.size W u [.string u.name, .bool u.one, .int .i64 u.int, .slice A1 u.ints.length c1])
          ⟨H2.out.four_put (by omega) (.string u.name) (.bool u.one) (.int .i64 u.int) (.slice A1 u.ints.length c1), ek_att.below HP.out (((((((Below.refl w.heap.size wr).alloc hbz _).setCell (p := ⟨w.heap.size + 1, 0, none⟩) (by simp) _).setCell (p := ⟨w.heap.size + 1, 1, none⟩) (by simp) _).setCell (p := ⟨w.heap.size + 1, 2, none⟩) (by simp) _).setCell (p := ⟨w.heap.size + 1, 3, none⟩) (by simp) _))⟩
        have HF := Lib.hid hxE
        clear hxE
        go_wp2_with fail
        obtain ⟨z0, z1, z2, z3⟩ := HF.out.1.four
        rw [HE.out.2.1, HE.out.2.2]
        exact bodyPost_ret (v := .tuple #[.agg #[.string u.name, .bool u.one, .int .i64 u.int, .slice A1 u.ints.length c1], .bool true]) (by simp [results, Try.results41, go_sem, z0, z1, z2, z3]) rfl ⟨[.string u.name, .bool u.one, .int .i64 u.int, .slice A1 u.ints.length c1], rfl, HF.out.2, HF.out.1.all⟩
      · have e1 := teq_no hs
        have HE := Lib.hid (HN.out hs)
        clear hs HY HN
        go_wp2_with fail
        go_roundw
        case rel => exact ⟨k + 1, _, rfl, by omega, by omega, H2.out, HE.out⟩
        case measure => simp [intOf]; omega
    · obtain rfl : k = n.attrs.length := by omega
      have HE := Lib.hid (at_no HNO.out)
      clear HNO HD HB HZ
      obtain ⟨y0, y1, y2, y3⟩ := H1.out.four
      have f0 := fun i => H1.out.free i
      obtain ⟨wE, hE, hxE⟩ := name_world10 (P := fun W => Bx w (w.heap.size + 1) #[.string ⟨#[]⟩, .bool false, .int .i64 0, .slice none 0 0] 48 W)
          (H1.out.four_put (by omega) (.string ⟨#[]⟩) (.bool false) (.int .i64 0) (.slice none 0 0))
      have HF := Lib.hid hxE
      clear hxE
      go_wp2_with fail
      obtain ⟨z0, z1, z2, z3⟩ := HF.out.four
      rw [HE.out.2.1, HE.out.2.2]
      exact bodyPost_ret (v := .tuple #[.agg #[.string ⟨#[]⟩, .bool false, .int .i64 0, .slice none 0 0], .bool false]) (by simp [results, Try.results41, go_sem, z0, z1, z2, z3]) rfl ⟨[.string ⟨#[]⟩, .bool false, .int .i64 0, .slice none 0 0], rfl, zA_at _ _, HF.out.all⟩
theorem oatt_set4 {w : World} {B b : Nat} {T : TypeId} {a : Att} {cs : List Value} {c0 c1 c2 c3 : Value} (h : OAtt B w a cs) (hb : w.heap[b]? = some (.cells #[c0, c1, c2, c3] T (0, 0))) (h1 : T ≠ 2) (v0 v1 v2 v3 : Value) :
    OAtt B ((((w.setCell ⟨b, 0, none⟩ v0).setCell ⟨b, 1, none⟩ v1).setCell ⟨b, 2, none⟩ v2).setCell ⟨b, 3, none⟩ v3) a cs := by
  have g1 := heap_setCell_same w b 0 _ T v0 hb
  have g2 := heap_setCell_same _ b 1 _ T v1 g1
  have g3 := heap_setCell_same _ b 2 _ T v2 g2
  exact eo_att.set (eo_att.set (eo_att.set (eo_att.set h hb h1) g1 h1) g2 h1) g3 h1
set_option maxRecDepth 100000 in
set_option maxHeartbeats 1000000 in
theorem Attr_any (n : Nod) (cn : List Value) (s : ByteArray) (w : World) (hn : NodAt w.heap.size w n cn) :
    Calls Try.prog 11 #[.agg cn.toArray, .string s] w fun e w' => ∃ ca, e = .returned (.tuple #[.agg ca.toArray, .bool (atB n.attrs s)]) ∧ OAtt w.heap.size w' (nA (atA n.attrs s)) ca ∧ Below w.heap.size w w' := by
  have hn0 := hn
  obtain ⟨A, c, D, d, rfl⟩ := NodAt.shape hn0
  have HB := Lib.hid ((Bx.start w #[.string n.op, .slice A n.ins.length c, .string n.out, .slice D n.attrs.length d] 46).more (.cells #[.string ⟨#[]⟩, .bool false, .int .i64 0, .slice none 0 0] 48))
  have HZ := Lib.hid (Bx.two w (.cells #[.string n.op, .slice A n.ins.length c, .string n.out, .slice D n.attrs.length d] 46) #[.string ⟨#[]⟩, .bool false, .int .i64 0, .slice none 0 0] 48)
  obtain ⟨x0, x1, x2, x3⟩ := HB.out.four
  have HC := Lib.hid (attr_any n [.string n.op, .slice A n.ins.length c, .string n.out, .slice D n.attrs.length d] s _ (ek_nod.more (ek_nod.below hn HB.out.all) HB.out.all.size))
  clear hn hn0
  generalize atA n.attrs s = u at *
  have HO := Lib.hid (fun ca W h => own_attr_any u ca W h)
  generalize nA u = v at *
  go_enter Try.func11, Try.ntmps11
  go_wp2_with fail
  refine HC.out.mono ?_
  rintro e w1 ⟨ca, rfl, hat, hb⟩
  have H1 := Lib.hid (HZ.out.below hb)
  have hs1 := hb.size
  have HAT := Lib.hid (ek_att.more hat hb.size)
  obtain ⟨A1, c1, rfl⟩ := AttAt.shape hat
  clear hat hb HB HZ HC x0 x1 x2 x3
  have H2 := Lib.hid (H1.out.more (.cells #[.string u.name, .bool u.one, .int .i64 u.int, .slice A1 u.ints.length c1] 48))
  have HO := Lib.hid (HO.out [.string u.name, .bool u.one, .int .i64 u.int, .slice A1 u.ints.length c1] (w1.alloc (.cells #[.string u.name, .bool u.one, .int .i64 u.int, .slice A1 u.ints.length c1] 48)) (ek_att.more (ek_att.below HAT.out ((Below.refl w1.heap.size w1).alloc (Nat.le_refl _) _)) (by simp)))
  go_wp2_with fail
  refine HO.out.mono ?_
  rintro e w3 ⟨cs, rfl, ho, hb3⟩
  have H3 := Lib.hid (H2.out.below hb3)
  have HOW := Lib.hid (eo_att.base ho H2.out.all.size)
  obtain ⟨A3, c3, rfl⟩ := OAtt.shape ho
  clear ho hb3 H1 H2 HO
  obtain ⟨y0, y1, y2, y3⟩ := H3.out.four
  have f0 := fun i => H3.out.free i
  obtain ⟨wE, hE, hxE⟩ := name_world10 (P := fun W => Bx w (w.heap.size + 1) #[.string v.name, .bool v.one, .int .i64 v.int, .slice A3 v.ints.length c3] 48 W ∧ OAtt w.heap.size W v [.string v.name, .bool v.one, .int .i64 v.int, .slice A3 v.ints.length c3])
    ⟨H3.out.four_put (by omega) (.string v.name) (.bool v.one) (.int .i64 v.int) (.slice A3 v.ints.length c3), oatt_set4 HOW.out H3.out.1 (by decide) (.string v.name) (.bool v.one) (.int .i64 v.int) (.slice A3 v.ints.length c3)⟩
  have HF := Lib.hid hxE
  clear hxE
  go_wp2_with fail
  obtain ⟨z0, z1, z2, z3⟩ := HF.out.1.four
  exact bodyPost_ret (v := .tuple #[.agg #[.string v.name, .bool v.one, .int .i64 v.int, .slice A3 v.ints.length c3], .bool (atB n.attrs s)]) (by simp [results, Try.results11, go_sem, z0, z1, z2, z3]) rfl ⟨[.string v.name, .bool v.one, .int .i64 v.int, .slice A3 v.ints.length c3], rfl, HF.out.2, HF.out.1.all⟩

/-- the row of a name -/
def rowB (l : List Att) (s : ByteArray) : Bool := atB l s && !(atA l s).one
def rowL (l : List Att) (s : ByteArray) : List Int := if rowB l s then (atA l s).ints else []
theorem AttAt.ok {B : Nat} {w : World} {a : Att} {A : Option Addr} {c : Nat} (h : AttAt B w a [.string a.name, .bool a.one, .int .i64 a.int, .slice A a.ints.length c]) : SR w B 1 A a.ints.length (iv a.ints) ∧ AOk a := by
  obtain ⟨A2, c2, hsh, hsr, hok⟩ := h
  simp only [List.cons.injEq, and_true, Value.slice.injEq, true_and] at hsh
  obtain ⟨rfl, rfl⟩ := hsh
  exact ⟨hsr, hok⟩
set_option maxRecDepth 100000 in
set_option maxHeartbeats 1000000 in
theorem Row_any (n : Nod) (cn : List Value) (s : ByteArray) (w : World) (hn : NodAt w.heap.size w n cn) :
    Calls Try.prog 14 #[.agg cn.toArray, .string s] w fun e w' => ∃ v, e = .returned (.tuple #[v, .bool (rowB n.attrs s)]) ∧ w'.ownsRow w.heap.size 2 1 v (rowL n.attrs s).length (iv (rowL n.attrs s)) ∧ Below w.heap.size w w' := by
  have hn0 := hn
  obtain ⟨A, c, D, d, rfl⟩ := NodAt.shape hn0
  have HB := Lib.hid (Bx.start w #[.string n.op, .slice A n.ins.length c, .string n.out, .slice D n.attrs.length d] 46)
  obtain ⟨x0, x1, x2, x3⟩ := HB.out.four
  have HC := Lib.hid (attr_any n [.string n.op, .slice A n.ins.length c, .string n.out, .slice D n.attrs.length d] s _ (ek_nod.more (ek_nod.below hn HB.out.all) HB.out.all.size))
  clear hn hn0
  unfold rowL rowB
  generalize atA n.attrs s = u at *
  generalize atB n.attrs s = bb at *
  obtain ⟨un, uo, ui, ul⟩ := u
  cases bb with
  | false =>
    go_enter Try.func14, Try.ntmps14
    go_wp2_with fail
    refine HC.out.mono ?_
    rintro e w1 ⟨ca, rfl, hat, hb⟩
    have H1 := Lib.hid (HB.out.below hb)
    obtain ⟨A1, c1, rfl⟩ := AttAt.shape hat
    clear hat hb HB HC x0 x1 x2 x3
    have H2 := Lib.hid (H1.out.more (.cells #[.string un, .bool uo, .int .i64 ui, .slice A1 ul.length c1] 48))
    go_wp2_with fail
    go_ret2
    exact ⟨_, rfl, own_nothing _ _ _ _, H2.out.all⟩
  | true =>
    cases uo with
    | true =>
      go_enter Try.func14, Try.ntmps14
      go_wp2_with fail
      refine HC.out.mono ?_
      rintro e w1 ⟨ca, rfl, hat, hb⟩
      have H1 := Lib.hid (HB.out.below hb)
      obtain ⟨A1, c1, rfl⟩ := AttAt.shape hat
      clear hat hb HB HC x0 x1 x2 x3
      have H2 := Lib.hid (H1.out.more (.cells #[.string un, .bool true, .int .i64 ui, .slice A1 ul.length c1] 48))
      go_wp2_with fail
      go_ret2
      exact ⟨_, rfl, own_nothing _ _ _ _, H2.out.all⟩
    | false =>
      go_enter Try.func14, Try.ntmps14
      go_wp2_with fail
      refine HC.out.mono ?_
      rintro e w1 ⟨ca, rfl, hat, hb⟩
      have H1 := Lib.hid (HB.out.below hb)
      have hat2 := ek_att.more hat hb.size
      obtain ⟨A1, c1, rfl⟩ := AttAt.shape hat
      have H2 := Lib.hid (H1.out.more (.cells #[.string un, .bool false, .int .i64 ui, .slice A1 ul.length c1] 48))
      obtain ⟨hsr, hok⟩ := AttAt.ok hat2
      have hbA : Below w1.heap.size w1 (w1.alloc (.cells #[.string un, .bool false, .int .i64 ui, .slice A1 ul.length c1] 48)) := (Below.refl _ _).alloc (Nat.le_refl _) _
      have HN := Lib.hid (new_ints A1 ul.length c1 (iv ul) (w1.alloc (.cells #[.string un, .bool false, .int .i64 ui, .slice A1 ul.length c1] 48)) hok.len ((hsr.below hbA).more hbA.size) iv_oneCell)
      clear hat hat2 hsr hok hbA hb HB HC x0 x1 x2 x3
      go_wp2_with fail
      refine HN.out.mono ?_
      rintro e w3 ⟨v, rfl, hown, hb3⟩
      have H3 := Lib.hid (And.intro (own_base hown H2.out.all.size) (step_below H2.out.all hb3))
      clear hown hb3
      go_wp2_with fail
      go_ret2
      exact ⟨_, rfl, H3.out.1, H3.out.2⟩

set_option maxRecDepth 100000 in
set_option maxHeartbeats 1000000 in
theorem One_any (n : Nod) (cn : List Value) (s : ByteArray) (o : Int) (w : World) (hn : NodAt w.heap.size w n cn) :
    Calls Try.prog 15 #[.agg cn.toArray, .string s, .int .i64 o] w fun e w' => e = .returned (.int .i64 (if (atA n.attrs s).one then (atA n.attrs s).int else o)) ∧ Below w.heap.size w w' := by
  have hn0 := hn
  obtain ⟨A, c, D, d, rfl⟩ := NodAt.shape hn0
  have HB := Lib.hid (Bx.start w #[.string n.op, .slice A n.ins.length c, .string n.out, .slice D n.attrs.length d] 46)
  obtain ⟨x0, x1, x2, x3⟩ := HB.out.four
  have HC := Lib.hid (attr_any n [.string n.op, .slice A n.ins.length c, .string n.out, .slice D n.attrs.length d] s _ (ek_nod.more (ek_nod.below hn HB.out.all) HB.out.all.size))
  clear hn hn0
  generalize atA n.attrs s = u at *
  obtain ⟨un, uo, ui, ul⟩ := u
  cases uo
  all_goals
    go_enter Try.func15, Try.ntmps15
    go_wp2_with fail
    refine HC.out.mono ?_
    rintro e w1 ⟨ca, rfl, hat, hb⟩
    have H1 := Lib.hid (HB.out.below hb)
    obtain ⟨A1, c1, rfl⟩ := AttAt.shape hat
    clear hat hb HB HC x0 x1 x2 x3
    have H2 := Lib.hid (fun uo => H1.out.more (.cells #[.string un, .bool uo, .int .i64 ui, .slice A1 ul.length c1] 48))
    go_wp2_with fail
    go_ret
    exact ⟨by simp, (H2.out _).all⟩
end Go.Proofs.Ytpdpimchchfocaa
/- The walks of the document's own answers: are two models alike; where is the first of a name. -/
namespace Go.Proofs.Ytpdpimchchfocaa
open Go.RowKit M7 M10 Go.Sort

set_option maxRecDepth 100000 in
theorem rints10_any (A B : Option Addr) (c d : Nat) (l m : List Int) (w : World) (hm : m.length ≤ maxLen) (ha : SR w w.heap.size 1 A l.length (iv l)) (hb : SR w w.heap.size 1 B m.length (iv m)) :
    Calls Try.prog 44 #[.slice A l.length c, .slice B m.length d] w fun e w' => e = .returned (.bool (decide (l = m))) ∧ Below w.heap.size w w' := by
  unfold maxLen at hm
  by_cases hlm : l.length = m.length
  · have hlm' : ((l.length : Int) != (m.length : Int)) = false := by simp; omega
    rw [hlm] at ha hlm' ⊢
    have HLM := Lib.hid hlm
    clear hlm
    go_enter Try.func44, Try.ntmps44
    go_wp2
    go_loopw [5] (fun i wr => ∃ (k : Nat) (K : Int), i = .int .i64 K ∧ K = (k : Nat) ∧ k ≤ m.length ∧ Below w.heap.size w wr ∧ l.take k = m.take k) (fun i _ => m.length - (intOf i).toNat)
    case atStart => exact ⟨0, _, rfl, rfl, by omega, Below.refl _ _, rfl⟩
    case round =>
      obtain ⟨k, K, rfl, rfl, hk, hbw, htk⟩ := hrel
      have HT := Lib.hid htk
      clear htk
      by_cases hlt : k < m.length
      · have hlt' : k < l.length := by rw [HLM.out]; exact hlt
        have ha' : SR w w.heap.size 1 A l.length (iv l) := by rw [HLM.out]; exact ha
        obtain ⟨b1, o1, rfl, hb1, x0⟩ := int_at (ha'.below hbw) hlt'
        obtain ⟨b2, o2, rfl, hb2, y0⟩ := int_at (hb.below hbw) hlt
        have HB := Lib.hid hbw
        have HY := Lib.hid (take_same_yes HT.out hlt' hlt)
        have HN := Lib.hid (take_same_no (l := l) (m := m) hlt' hlt)
        clear ha hb hbw ha'
        generalize l[k] = u at *
        generalize m[k] = v at *
        clear hlt'
        by_cases huv : u = v
        · subst huv
          have HE := Lib.hid (HY.out rfl)
          go_wp2_with fail
          go_quiet (fail)
          go_wp2_with fail
          go_roundw
          case rel => exact ⟨k + 1, _, rfl, by omega, by omega, below_drewN HB.out _, HE.out⟩
          case measure => simp [intOf]; omega
        · have HE := Lib.hid (HN.out huv)
          have huv' : (u != v) = true := by simpa using huv
          clear huv
          go_wp2_with fail
          go_quiet (fail)
          go_wp2_with fail
          go_ret
          rw [decide_eq_false HE.out]
          exact ⟨rfl, below_drewN HB.out _⟩
      · obtain rfl : k = m.length := by omega
        go_wp2
        go_ret
        rw [decide_eq_true (take_same_all HLM.out HT.out)]
        exact ⟨rfl, hbw⟩
  · have hlm' : ((l.length : Int) != (m.length : Int)) = true := by simp; omega
    have HE : Hid (decide (l = m) = false) := Lib.hid (decide_eq_false fun h => hlm (by rw [h]))
    clear hlm ha hb
    go_enter Try.func44, Try.ntmps44
    go_wp2_with fail
    go_ret
    rw [HE.out]
    exact ⟨rfl, Below.refl _ _⟩

set_option maxRecDepth 100000 in
set_option maxHeartbeats 1000000 in
theorem rattr_any (a b : Att) (ca cb : List Value) (w : World) (hi : AttAt w.heap.size w a ca) (hj : AttAt w.heap.size w b cb) :
    Calls Try.prog 16 #[.agg ca.toArray, .agg cb.toArray] w fun e w' => e = .returned (.bool (sameA a b)) ∧ Below w.heap.size w w' := by
  obtain ⟨A, c, rfl, ha, oi⟩ := hi
  obtain ⟨B, d, rfl, hb, oj⟩ := hj
  have hlen := oj.len
  have hbx := Bx.start w #[.string a.name, .bool a.one, .int .i64 a.int, .slice A a.ints.length c] 61
  have HBX := Lib.hid (hbx.more (.cells #[.string b.name, .bool b.one, .int .i64 b.int, .slice B b.ints.length d] 61))
  have HS := Lib.hid (rints10_any A B c d a.ints b.ints _ (by unfold maxLen; omega) ((ha.below HBX.out.all).more HBX.out.all.size) ((hb.below HBX.out.all).more HBX.out.all.size))
  clear hbx ha hb oi oj hlen
  obtain ⟨tn, tb, tk, tl⟩ := a
  obtain ⟨un, ub, uk, ul⟩ := b
  dsimp only at *
  unfold sameA
  dsimp only
  by_cases h1 : tn = un
  · have e1 := teq_yes h1
    rw [decide_eq_true h1]
    clear h1
    cases tb <;> cases ub
    · go_enter Try.func16, Try.ntmps16
      go_wp2_with fail
      refine HS.out.mono ?_
      rintro e w1 ⟨rfl, hb1⟩
      have H1 := Lib.hid (HBX.out.below hb1)
      clear hb1
      go_wp2_with fail
      go_ret
      exact ⟨by simp, H1.out.all⟩
    · clear HS
      go_enter Try.func16, Try.ntmps16
      go_wp2_with fail
      go_ret
      exact ⟨by simp, HBX.out.all⟩
    · clear HS
      go_enter Try.func16, Try.ntmps16
      go_wp2_with fail
      go_ret
      exact ⟨by simp, HBX.out.all⟩
    · clear HS
      by_cases h2 : tk = uk
      · have e2 : (tk == uk) = true := by simpa using h2
        rw [decide_eq_true h2]
        clear h2
        go_enter Try.func16, Try.ntmps16
        go_wp2_with fail
        go_ret
        exact ⟨by simp, HBX.out.all⟩
      · have e2 : (tk == uk) = false := by simpa using h2
        rw [decide_eq_false h2]
        clear h2
        go_enter Try.func16, Try.ntmps16
        go_wp2_with fail
        go_ret
        exact ⟨by simp, HBX.out.all⟩
  · have e1 := teq_no h1
    rw [decide_eq_false h1]
    clear h1 HS
    cases tb <;> cases ub
    all_goals
      go_enter Try.func16, Try.ntmps16
      go_wp2_with fail
      go_ret
      exact ⟨by simp, HBX.out.all⟩


theorem rinfo_no {i j : Inf} (h : i.name ≠ j.name ∨ i.kind ≠ j.kind ∨ i.dims ≠ j.dims) : sameI i j = false := by
  unfold sameI
  rcases h with h | h | h <;> simp [h]
theorem rinfo_yes {i j : Inf} (h1 : i.name = j.name) (h2 : i.kind = j.kind) (h3 : i.dims = j.dims) : sameI i j = true := by
  unfold sameI; simp [h1, h2, h3]
set_option maxRecDepth 100000 in
set_option maxHeartbeats 2000000 in
theorem rinfos_any (A B : Option Addr) (c d : Nat) (l m : List Inf) (w : World) (hm : m.length ≤ maxLen) (ha : DR InfAt w w.heap.size 3 A l) (hb : DR InfAt w w.heap.size 3 B m) :
    Calls Try.prog 33 #[.slice A l.length c, .slice B m.length d] w fun e w' => e = .returned (.bool (eqAll sameI l m)) ∧ Below w.heap.size w w' := by
  unfold maxLen at hm
  by_cases hlm : l.length = m.length
  · have hlm' : ((l.length : Int) != (m.length : Int)) = false := by simp; omega
    have HL := Lib.hid hlm
    rw [hlm] at hlm' ⊢
    clear hlm
    go_enter Try.func33, Try.ntmps33
    go_wp2_with fail
    go_loopw [5] (fun i wr => ∃ (k : Nat) (K : Int), i = .int .i64 K ∧ K = (k : Nat) ∧ k ≤ m.length ∧ Below w.heap.size w wr ∧ eqTo sameI l m k) (fun i _ => m.length - (intOf i).toNat)
    case atStart => exact ⟨0, _, rfl, rfl, by omega, Below.refl _ _, eqTo_zero _ _⟩
    case round =>
      obtain ⟨k, K, rfl, rfl, hk, hbw, htk⟩ := hrel
      have HT := Lib.hid htk
      clear htk
      have hbz := hbw.size
      by_cases hlt : k < m.length
      · have hlt' : k < l.length := by rw [HL.out]; exact hlt
        obtain ⟨b1, o1, cx, rfl, hb1, hpx, hcx⟩ := (ha.below ek_inf hbw).at_ ek_inf hlt'
        obtain ⟨b2, o2, cy, rfl, hb2, hpy, hcy⟩ := (hb.below ek_inf hbw).at_ ek_inf hlt
        have HB := Lib.hid hbw
        have HY := Lib.hid (fun h => eqTo_succ HT.out hlt' hlt h)
        have HN := Lib.hid (eqAll_no (f := sameI) hlt' hlt)
        clear ha hb hbw
        generalize l[k] = u at *
        generalize m[k] = v at *
        clear hlt'
        obtain ⟨A1, c1, rfl, hs1, ok1⟩ := hpx
        obtain ⟨A2, c2, rfl, hs2, ok2⟩ := hpy
        have p0 := hcx 0 _ rfl
        have p1 := hcx 1 _ rfl
        have p2 := hcx 2 _ rfl
        have r0 := hcy 0 _ rfl
        have r1 := hcy 1 _ rfl
        have r2 := hcy 2 _ rfl
        simp only [Nat.add_zero] at p0 r0
        clear hcx hcy
        obtain ⟨tn, tk, tl⟩ := u
        obtain ⟨un, uk, ul⟩ := v
        dsimp only at *
        have HC := Lib.hid (fun dd os => rints10_any A1 A2 c1 c2 tl ul (grow (redrawn wr dd) os) (by have := ok2.len; dsimp only at this; unfold maxLen; omega) ((hs1.below ((below_regrown wr dd os).mono hbz)).more (Nat.le_trans hbz (below_regrown wr dd os).size)) ((hs2.below ((below_regrown wr dd os).mono hbz)).more (Nat.le_trans hbz (below_regrown wr dd os).size)))
        have q0 := fun d os => cell_regrown p0 d os
        have q1 := fun d os => cell_regrown p1 d os
        have q2 := fun d os => cell_regrown p2 d os
        have s0 := fun d os => cell_regrown r0 d os
        have s1 := fun d os => cell_regrown r1 d os
        have s2 := fun d os => cell_regrown r2 d os
        clear p0 p1 p2 r0 r1 r2 hs1 hs2 ok1 ok2
        by_cases h1 : tn = un
        · have e1 := teq_yes h1
          by_cases h2 : tk = uk
          · have e2 : (tk != uk) = false := by simpa using h2
            by_cases h3 : tl = ul
            · rw [decide_eq_true h3] at HC
              have HE := Lib.hid (HY.out (rinfo_yes h1 h2 h3))
              clear h1 h2 h3 HY HN
              go_wp2_with fail
              refine wp_region_quiet_below (by kernel_rfl) (by kernel_rfl) ?_
              repeat (go_big_quiet_step ((go_at_call 44; exact Calls.regrown_of (HC.out _ _))))
              refine wpQuiet_nil ?_
              rintro w2 ⟨p, rfl⟩
              have H2 := Lib.hid (HB.out.trans ((below_regrown wr p.d p.os).mono hbz))
              clear q0 q1 q2 s0 s1 s2 HC
              generalize grow (redrawn wr p.d) p.os = w2 at H2 ⊢
              go_wp2_with fail
              go_roundw
              case rel => exact ⟨k + 1, _, rfl, by omega, by omega, H2.out, HE.out⟩
              case measure => simp [intOf]; omega
            · rw [decide_eq_false h3] at HC
              have HE := Lib.hid (HN.out (rinfo_no (.inr (.inr h3))))
              clear h1 h2 h3 HY HN
              go_wp2_with fail
              refine wp_region_quiet_below (by kernel_rfl) (by kernel_rfl) ?_
              repeat (go_big_quiet_step ((go_at_call 44; exact Calls.regrown_of (HC.out _ _))))
              refine wpQuiet_nil ?_
              rintro w2 ⟨p, rfl⟩
              have H2 := Lib.hid (HB.out.trans ((below_regrown wr p.d p.os).mono hbz))
              clear q0 q1 q2 s0 s1 s2 HC
              generalize grow (redrawn wr p.d) p.os = w2 at H2 ⊢
              go_wp2_with fail
              go_ret
              rw [HE.out]
              exact ⟨rfl, H2.out⟩
          · have e2 : (tk != uk) = true := by simpa using h2
            have HE := Lib.hid (HN.out (rinfo_no (.inr (.inl h2))))
            clear h1 h2 HY HN HC
            go_wp2_with fail
            refine wp_region_quiet_below (by kernel_rfl) (by kernel_rfl) ?_
            repeat (go_big_quiet_step (fail))
            refine wpQuiet_nil ?_
            rintro w2 ⟨p, rfl⟩
            have H2 := Lib.hid (HB.out.trans ((below_regrown wr p.d p.os).mono hbz))
            clear q0 q1 q2 s0 s1 s2
            generalize grow (redrawn wr p.d) p.os = w2 at H2 ⊢
            go_wp2_with fail
            go_ret
            rw [HE.out]
            exact ⟨rfl, H2.out⟩
        · have e1 := teq_no h1
          have HE := Lib.hid (HN.out (rinfo_no (.inl h1)))
          clear h1 HY HN HC
          go_wp2_with fail
          refine wp_region_quiet_below (by kernel_rfl) (by kernel_rfl) ?_
          repeat (go_big_quiet_step (fail))
          refine wpQuiet_nil ?_
          rintro w2 ⟨p, rfl⟩
          have H2 := Lib.hid (HB.out.trans ((below_regrown wr p.d p.os).mono hbz))
          clear q0 q1 q2 s0 s1 s2
          generalize grow (redrawn wr p.d) p.os = w2 at H2 ⊢
          go_wp2_with fail
          go_ret
          rw [HE.out]
          exact ⟨rfl, H2.out⟩
      · obtain rfl : k = m.length := by omega
        clear ha hb
        go_wp2_with fail
        go_ret
        rw [eqAll_yes HL.out (by rw [HL.out]; exact HT.out)]
        exact ⟨rfl, hbw⟩
  · have hlm' : ((l.length : Int) != (m.length : Int)) = true := by simp; omega
    have HE := Lib.hid (eqAll_len (f := sameI) hlm)
    clear hlm ha hb
    go_enter Try.func33, Try.ntmps33
    go_wp2_with fail
    go_ret
    rw [HE.out]
    exact ⟨rfl, Below.refl _ _⟩


theorem rten_any (t u : Ten) (ct cu : List Value) (w : World) (ht : TenAt w.heap.size w t ct) (hu : TenAt w.heap.size w u cu) :
    Calls Try.prog 20 #[.agg ct.toArray, .agg cu.toArray] w fun e w' => e = .returned (.bool (sameT t u)) ∧ Below w.heap.size w w' := by
  obtain ⟨A, c, rfl, ha, ot⟩ := ht
  obtain ⟨B, d, rfl, hb, ou⟩ := hu
  exact rsame_wide t u A B c d w (ot.tok ha) (ou.tok hb) (by have := ot.len; omega)
theorem sameN_op {n o : Nod} (h : n.op ≠ o.op) : sameN n o = false := by unfold sameN; simp [h]
theorem sameN_out {n o : Nod} (h : n.out ≠ o.out) : sameN n o = false := by unfold sameN; simp [h]
theorem sameN_ins {n o : Nod} (h : decide (n.ins = o.ins) = false) : sameN n o = false := by unfold sameN; simp [h]
theorem sameN_attrs {n o : Nod} (h : eqAll sameA n.attrs o.attrs = false) : sameN n o = false := by unfold sameN; simp [h]
theorem sameN_yes {n o : Nod} (h1 : n.op = o.op) (h2 : decide (n.ins = o.ins) = true) (h3 : n.out = o.out) (h4 : eqAll sameA n.attrs o.attrs = true) : sameN n o = true := by unfold sameN; rw [h2, h4]; simp [h1, h3]
theorem sameM_opset {n o : Mod} (h : n.opset ≠ o.opset) : sameM n o = false := by unfold sameM; simp [h]
theorem sameM_inputs {n o : Mod} (h : eqAll sameI n.inputs o.inputs = false) : sameM n o = false := by unfold sameM; simp [h]
theorem sameM_outputs {n o : Mod} (h : eqAll sameI n.outputs o.outputs = false) : sameM n o = false := by unfold sameM; simp [h]
theorem sameM_inits {n o : Mod} (h : eqAll sameT n.inits o.inits = false) : sameM n o = false := by unfold sameM; simp [h]
theorem sameM_nodes {n o : Mod} (h : eqAll sameN n.nodes o.nodes = false) : sameM n o = false := by unfold sameM; simp [h]
theorem sameM_yes {n o : Mod} (h0 : n.opset = o.opset) (h1 : eqAll sameI n.inputs o.inputs = true) (h2 : eqAll sameI n.outputs o.outputs = true) (h3 : eqAll sameT n.inits o.inits = true) (h4 : eqAll sameN n.nodes o.nodes = true) : sameM n o = true := by unfold sameM; rw [h1, h2, h3, h4]; simp [h0]
theorem decide_len {α : Type} [DecidableEq α] {l m : List α} (h : l.length ≠ m.length) : decide (l = m) = false := decide_eq_false fun e => h (by rw [e])


set_option maxRecDepth 100000 in
set_option maxHeartbeats 4000000 in
theorem rnode_any (n o : Nod) (cn co : List Value) (w : World) (hi : NodAt w.heap.size w n cn) (hj : NodAt w.heap.size w o co) :
    Calls Try.prog 34 #[.agg cn.toArray, .agg co.toArray] w fun e w' => e = .returned (.bool (sameN n o)) ∧ Below w.heap.size w w' := by
  obtain ⟨A, c, D, e, rfl, ha, hd, oi⟩ := hi
  obtain ⟨A', c', D', e', rfl, ha', hd', oj⟩ := hj
  have hl1 := oi.len
  have hl2 := oi.alen
  have HA := Lib.hid ha
  have HA2 := Lib.hid ha'
  have HD := Lib.hid hd
  have HD2 := Lib.hid hd'
  have HT0 := Lib.hid (show MTwo w w.heap.size (w.heap.size + 1) #[.string n.op, .slice A n.ins.length c, .string n.out, .slice D n.attrs.length e] #[.string o.op, .slice A' o.ins.length c', .string o.out, .slice D' o.attrs.length e'] 55 _ from
    ⟨(Bx.start w #[.string n.op, .slice A n.ins.length c, .string n.out, .slice D n.attrs.length e] 55).more (.cells #[.string o.op, .slice A' o.ins.length c', .string o.out, .slice D' o.attrs.length e'] 55), Bx.two w (.cells #[.string n.op, .slice A n.ins.length c, .string n.out, .slice D n.attrs.length e] 55) #[.string o.op, .slice A' o.ins.length c', .string o.out, .slice D' o.attrs.length e'] 55⟩)
  clear ha ha' hd hd' oi oj
  obtain ⟨n1, n2, n3, n4⟩ := n
  obtain ⟨o1, o2, o3, o4⟩ := o
  dsimp only at *
  by_cases h1 : n1 = o1
  case neg =>
    have e1 := teq_no h1
    have HE := Lib.hid (sameN_op (n := ⟨n1, n2, n3, n4⟩) (o := ⟨o1, o2, o3, o4⟩) h1)
    clear h1 HA HA2 HD HD2
    go_enter Try.func34, Try.ntmps34
    go_wp2_with fail
    go_ret
    rw [HE.out]
    exact ⟨rfl, HT0.out.a.all⟩
  have e1 := teq_yes h1
  by_cases h3 : n3 = o3
  case neg =>
    have e3 := teq_no h3
    have HE := Lib.hid (sameN_out (n := ⟨n1, n2, n3, n4⟩) (o := ⟨o1, o2, o3, o4⟩) h3)
    clear h1 h3 HA HA2 HD HD2
    go_enter Try.func34, Try.ntmps34
    go_wp2_with fail
    go_ret
    rw [HE.out]
    exact ⟨rfl, HT0.out.a.all⟩
  have e3 := teq_yes h3
  by_cases h2 : n2.length = o2.length
  case neg =>
    have e2 : ((n2.length : Int) != (o2.length : Int)) = true := by simp; omega
    have HE := Lib.hid (sameN_ins (n := ⟨n1, n2, n3, n4⟩) (o := ⟨o1, o2, o3, o4⟩) (decide_len h2))
    clear h1 h3 h2 HA HA2 HD HD2
    go_enter Try.func34, Try.ntmps34
    go_wp2_with fail
    go_ret
    rw [HE.out]
    exact ⟨rfl, HT0.out.a.all⟩
  have e2 : ((n2.length : Int) != (o2.length : Int)) = false := by simp; omega
  by_cases h4 : n4.length = o4.length
  case neg =>
    have e4 : ((n4.length : Int) != (o4.length : Int)) = true := by simp; omega
    have HE := Lib.hid (sameN_attrs (n := ⟨n1, n2, n3, n4⟩) (o := ⟨o1, o2, o3, o4⟩) (eqAll_len h4))
    clear h1 h3 h2 h4 HA HA2 HD HD2
    go_enter Try.func34, Try.ntmps34
    go_wp2_with fail
    go_ret
    rw [HE.out]
    exact ⟨rfl, HT0.out.a.all⟩
  have e4 : ((n4.length : Int) != (o4.length : Int)) = false := by simp; omega
  have HL2 := Lib.hid h2
  have HL4 := Lib.hid h4
  have HYES := Lib.hid (fun (h2 : decide (n2 = o2) = true) (h4 : eqAll sameA n4 o4 = true) => sameN_yes (n := ⟨n1, n2, n3, n4⟩) (o := ⟨o1, o2, o3, o4⟩) h1 h2 h3 h4)
  have HNI := Lib.hid (fun h => sameN_ins (n := ⟨n1, n2, n3, n4⟩) (o := ⟨o1, o2, o3, o4⟩) h)
  have HNA := Lib.hid (fun h => sameN_attrs (n := ⟨n1, n2, n3, n4⟩) (o := ⟨o1, o2, o3, o4⟩) h)
  clear h1 h2 h3 h4
  go_enter Try.func34, Try.ntmps34
  go_wp2_with fail
  clear e1 e2 e3 e4
  go_loopw [5] (fun i wr => ∃ (k : Nat) (K : Int), i = .int .i64 K ∧ K = (k : Nat) ∧ k ≤ n2.length ∧ MTwo w w.heap.size (w.heap.size + 1) #[.string n1, .slice A n2.length c, .string n3, .slice D n4.length e] #[.string o1, .slice A' o2.length c', .string o3, .slice D' o4.length e'] 55 wr ∧ eqTo (fun a b => decide (a = b)) n2 o2 k) (fun i _ => n2.length - (intOf i).toNat)
  case atStart => exact ⟨0, _, rfl, rfl, by omega, HT0.out, eqTo_zero _ _⟩
  case round =>
    obtain ⟨k, K, rfl, rfl, hk, hbx, htk⟩ := hrel
    have HT := Lib.hid htk
    have HX := Lib.hid hbx
    clear htk hbx
    have hbz := HX.out.a.all.size
    obtain ⟨x0, x1, x2, x3⟩ := HX.out.a.four
    obtain ⟨y0, y1, y2, y3⟩ := HX.out.b.four
    by_cases hlt : k < n2.length
    · have hlt' : k < o2.length := by rw [← HL2.out]; exact hlt
      obtain ⟨b1, p1, rfl, hb1, z0⟩ := m_txt_at (HA.out.below HX.out.a.all) hlt
      obtain ⟨b2, p2, rfl, hb2, z1⟩ := m_txt_at (HA2.out.below HX.out.a.all) hlt'
      have HY := Lib.hid (fun h => eqTo_succ HT.out hlt hlt' h)
      have HN := Lib.hid (eqTo_no (l := n2) (m := o2) hlt hlt')
      generalize n2[k] = u at *
      generalize o2[k] = v at *
      by_cases huv : u = v
      · have HE := Lib.hid (HY.out (decide_eq_true huv))
        have hn := teq_yes huv
        clear huv
        go_wp2_with fail
        go_quiet (fail)
        go_wp2_with fail
        go_roundw
        case rel => exact ⟨k + 1, _, rfl, by omega, by omega, ⟨HX.out.a.drew11 _, HX.out.b.drew11 _⟩, HE.out⟩
        case measure => simp [intOf]; omega
      · have HE := Lib.hid (HNI.out (HN.out huv))
        have hn := teq_no huv
        clear huv
        go_wp2_with fail
        go_quiet (fail)
        go_wp2_with fail
        go_ret
        rw [HE.out]
        exact ⟨rfl, (HX.out.a.drew11 _).all⟩
    · obtain rfl : k = n2.length := by omega
      have HINS := Lib.hid (eqTo_yes HL2.out HT.out)
      have HX2 := Lib.hid HX.out
      clear HT HX hk hlt HA HA2
      go_wp2_with fail
      clear x0 x1 x2 x3 y0 y1 y2 y3
      go_loopw [6] (fun i wr => ∃ (k : Nat) (K : Int), i = .int .i64 K ∧ K = (k : Nat) ∧ k ≤ n4.length ∧ MTwo w w.heap.size (w.heap.size + 1) #[.string n1, .slice A n2.length c, .string n3, .slice D n4.length e] #[.string o1, .slice A' o2.length c', .string o3, .slice D' o4.length e'] 55 wr ∧ eqTo sameA n4 o4 k) (fun i _ => n4.length - (intOf i).toNat)
      case atStart => exact ⟨0, _, rfl, rfl, by omega, HX2.out, eqTo_zero _ _⟩
      case round =>
        obtain ⟨k, K, rfl, rfl, hk, hbx, htk⟩ := hrel
        have HT := Lib.hid htk
        have HX := Lib.hid hbx
        clear htk hbx
        have hbz := HX.out.a.all.size
        obtain ⟨x0, x1, x2, x3⟩ := HX.out.a.four
        obtain ⟨y0, y1, y2, y3⟩ := HX.out.b.four
        by_cases hlt : k < n4.length
        · have hlt' : k < o4.length := by rw [← HL4.out]; exact hlt
          obtain ⟨b1, o1, cx, rfl, hb1, hpx, hcx⟩ := (HD.out.below ek_att HX.out.a.all).at_ ek_att hlt
          obtain ⟨b2, o2, cy, rfl, hb2, hpy, hcy⟩ := (HD2.out.below ek_att HX.out.a.all).at_ ek_att hlt'
          have HY := Lib.hid (fun h => eqTo_succ HT.out hlt hlt' h)
          have HN := Lib.hid (eqAll_no (f := sameA) hlt hlt')
          have HPX := Lib.hid hpx
          have HPY := Lib.hid hpy
          clear hpx hpy
          generalize n4[k] = u at *
          generalize o4[k] = v at *
          obtain ⟨A1, c1, rfl⟩ := AttAt.shape HPX.out
          obtain ⟨A2, c2, rfl⟩ := AttAt.shape HPY.out
          have p0 := hcx 0 _ rfl
          have p1 := hcx 1 _ rfl
          have p2 := hcx 2 _ rfl
          have p3 := hcx 3 _ rfl
          have r0 := hcy 0 _ rfl
          have r1 := hcy 1 _ rfl
          have r2 := hcy 2 _ rfl
          have r3 := hcy 3 _ rfl
          simp only [Nat.add_zero] at p0 r0
          clear hcx hcy
          have HC := Lib.hid (fun dd os => rattr_any u v [.string u.name, .bool u.one, .int .i64 u.int, .slice A1 u.ints.length c1] [.string v.name, .bool v.one, .int .i64 v.int, .slice A2 v.ints.length c2] (grow (redrawn wr dd) os) (ek_att.more (ek_att.below HPX.out ((below_regrown wr dd os).mono hbz)) (Nat.le_trans hbz (below_regrown wr dd os).size)) (ek_att.more (ek_att.below HPY.out ((below_regrown wr dd os).mono hbz)) (Nat.le_trans hbz (below_regrown wr dd os).size)))
          have q0 := fun d os => cell_regrown p0 d os
          have q1 := fun d os => cell_regrown p1 d os
          have q2 := fun d os => cell_regrown p2 d os
          have q3 := fun d os => cell_regrown p3 d os
          have s0 := fun d os => cell_regrown r0 d os
          have s1 := fun d os => cell_regrown r1 d os
          have s2 := fun d os => cell_regrown r2 d os
          have s3 := fun d os => cell_regrown r3 d os
          have qx0 := fun d os => cell_regrown x0 d os
          have qy0 := fun d os => cell_regrown y0 d os
          have qx1 := fun d os => cell_regrown x1 d os
          have qy1 := fun d os => cell_regrown y1 d os
          have qx2 := fun d os => cell_regrown x2 d os
          have qy2 := fun d os => cell_regrown y2 d os
          have qx3 := fun d os => cell_regrown x3 d os
          have qy3 := fun d os => cell_regrown y3 d os
          clear p0 p1 p2 p3 r0 r1 r2 r3 HPX HPY
          cases huv : sameA u v
          · have HE := Lib.hid (HNA.out (HN.out huv))
            rw [huv] at HC
            clear huv HN HY
            go_wp2_with fail
            refine wp_region_quiet_below (by kernel_rfl) (by kernel_rfl) ?_
            repeat (go_big_quiet_step ((go_at_call 16; exact Calls.regrown_of (HC.out _ _))))
            refine wpQuiet_nil ?_
            rintro w9 ⟨p, rfl⟩
            have H2 := Lib.hid (HX.out.below (below_regrown wr p.d p.os))
            clear qx0 qy0 x0 y0 qx1 qy1 x1 y1 qx2 qy2 x2 y2 qx3 qy3 x3 y3 q0 q1 q2 q3 s0 s1 s2 s3 HC
            generalize grow (redrawn wr p.d) p.os = w9 at H2 ⊢
            go_wp2_with fail
            go_ret
            rw [HE.out]
            exact ⟨rfl, H2.out.a.all⟩
          · have HE := Lib.hid (HY.out huv)
            rw [huv] at HC
            clear huv HN HY
            go_wp2_with fail
            refine wp_region_quiet_below (by kernel_rfl) (by kernel_rfl) ?_
            repeat (go_big_quiet_step ((go_at_call 16; exact Calls.regrown_of (HC.out _ _))))
            refine wpQuiet_nil ?_
            rintro w9 ⟨p, rfl⟩
            have H2 := Lib.hid (HX.out.below (below_regrown wr p.d p.os))
            clear qx0 qy0 x0 y0 qx1 qy1 x1 y1 qx2 qy2 x2 y2 qx3 qy3 x3 y3 q0 q1 q2 q3 s0 s1 s2 s3 HC
            generalize grow (redrawn wr p.d) p.os = w9 at H2 ⊢
            go_wp2_with fail
            go_roundw
            case rel => exact ⟨k + 1, _, rfl, by omega, by omega, H2.out, HE.out⟩
            case measure => simp [intOf]; omega
        · obtain rfl : k = n4.length := by omega
          have HALL := Lib.hid (eqAll_yes HL4.out HT.out)
          clear HT
          have HE := Lib.hid (HYES.out HINS.out HALL.out)
          go_wp2_with fail
          go_ret
          rw [HE.out]
          exact ⟨rfl, HX.out.a.all⟩

end Go.Proofs.Ytpdpimchchfocaa
/- The walks of the document's Same of models, of Find and Init. -/
namespace Go.Proofs.Ytpdpimchchfocaa
open Go.RowKit M7 M10 Go.Sort
/-- the place of the first that is so, or -1 -/
def fndI {α : Type} (p : α → Bool) (l : List α) : Int := if l.findIdx p < l.length then ((l.findIdx p : Nat) : Int) else -1
theorem fndI_yes {α : Type} {p : α → Bool} {l : List α} {k : Nat} (hk : k < l.length) (h1 : p l[k] = true) (h2 : ∀ j (hj : j < k), p (l[j]'(by omega)) = false) : fndI p l = (k : Int) := by
  unfold fndI; rw [(List.findIdx_eq hk).2 ⟨h1, h2⟩, if_pos hk]
theorem fndI_no {α : Type} {p : α → Bool} {l : List α} (h : ∀ j (hj : j < l.length), p l[j] = false) : fndI p l = -1 := by
  have e : l.findIdx p = l.length := List.findIdx_eq_length.2 fun x hx => by
    obtain ⟨j, hj, rfl⟩ := List.mem_iff_getElem.1 hx
    exact h j hj
  unfold fndI; rw [e, if_neg (Nat.lt_irrefl _)]


set_option maxRecDepth 100000 in
set_option maxHeartbeats 4000000 in
theorem rmodel_any (m n : Mod) (A1 A2 A3 A4 B1 B2 B3 B4 : Option Addr) (c1 c2 c3 c4 d1 d2 d3 d4 : Nat) (w : World) (hm : ModAt w.heap.size w m A1 A2 A3 A4) (hn : ModAt w.heap.size w n B1 B2 B3 B4) :
    Calls Try.prog 9 #[.agg (mv m.opset A1 m.inputs.length c1 A2 m.outputs.length c2 A3 m.inits.length c3 A4 m.nodes.length c4), .agg (mv n.opset B1 n.inputs.length d1 B2 n.outputs.length d2 B3 n.inits.length d3 B4 n.nodes.length d4)] w fun e w' => e = .returned (.bool (sameM m n)) ∧ Below w.heap.size w w' := by
  have HT0 := Lib.hid (show MTwo w w.heap.size (w.heap.size + 1) (mv m.opset A1 m.inputs.length c1 A2 m.outputs.length c2 A3 m.inits.length c3 A4 m.nodes.length c4) (mv n.opset B1 n.inputs.length d1 B2 n.outputs.length d2 B3 n.inits.length d3 B4 n.nodes.length d4) 33 _ from ⟨(Bx.start w (mv m.opset A1 m.inputs.length c1 A2 m.outputs.length c2 A3 m.inits.length c3 A4 m.nodes.length c4) 33).more (.cells (mv n.opset B1 n.inputs.length d1 B2 n.outputs.length d2 B3 n.inits.length d3 B4 n.nodes.length d4) 33), Bx.two w (.cells (mv m.opset A1 m.inputs.length c1 A2 m.outputs.length c2 A3 m.inits.length c3 A4 m.nodes.length c4) 33) (mv n.opset B1 n.inputs.length d1 B2 n.outputs.length d2 B3 n.inits.length d3 B4 n.nodes.length d4) 33⟩)
  have H1 := Lib.hid (fun W (h : Below w.heap.size w W) => rinfos_any A1 B1 c1 d1 m.inputs n.inputs W (by have := hn.len1; unfold maxLen; omega) ((hm.inputs.below ek_inf h).more ek_inf h.size) ((hn.inputs.below ek_inf h).more ek_inf h.size))
  have H2 := Lib.hid (fun W (h : Below w.heap.size w W) => rinfos_any A2 B2 c2 d2 m.outputs n.outputs W (by have := hn.len2; unfold maxLen; omega) ((hm.outputs.below ek_inf h).more ek_inf h.size) ((hn.outputs.below ek_inf h).more ek_inf h.size))
  have HD3 := Lib.hid hm.inits
  have HE3 := Lib.hid hn.inits
  have HD4 := Lib.hid hm.nodes
  have HE4 := Lib.hid hn.nodes
  have hl3 := hm.len3
  have hl4 := hm.len4
  clear hm hn
  obtain ⟨m0, m1, m2, m3, m4⟩ := m
  obtain ⟨n0, n1, n2, n3, n4⟩ := n
  unfold mv at *
  dsimp only at *
  by_cases h0 : m0 = n0
  case neg =>
    have e1 : (m0 != n0) = true := by simpa using h0
    have HE := Lib.hid (sameM_opset (n := ⟨m0, m1, m2, m3, m4⟩) (o := ⟨n0, n1, n2, n3, n4⟩) h0)
    clear h0 H1 H2 HD3 HE3 HD4 HE4
    go_enter Try.func9, Try.ntmps9
    go_wp2_with fail
    go_ret
    rw [HE.out]
    exact ⟨rfl, HT0.out.a.all⟩
  have e1 : (m0 != n0) = false := by simpa using h0
  cases r1 : eqAll sameI m1 n1
  case false =>
    have HE := Lib.hid (sameM_inputs (n := ⟨m0, m1, m2, m3, m4⟩) (o := ⟨n0, n1, n2, n3, n4⟩) r1)
    clear h0 H2 HD3 HE3 HD4 HE4
    go_enter Try.func9, Try.ntmps9
    go_wp2_with fail
    refine (H1.out _ HT0.out.a.all).mono ?_
    rintro e w1 ⟨rfl, hb1⟩
    have HT1 := Lib.hid (HT0.out.below hb1)
    clear hb1
    rw [r1]
    obtain ⟨x0, x1, x2, x3, x4⟩ := HT1.out.a.five
    obtain ⟨y0, y1, y2, y3, y4⟩ := HT1.out.b.five
    go_wp2_with fail
    clear x0 x1 x2 x3 x4 y0 y1 y2 y3 y4
    go_ret
    rw [HE.out]
    exact ⟨rfl, HT1.out.a.all⟩
  cases r2 : eqAll sameI m2 n2
  case false =>
    have HE := Lib.hid (sameM_outputs (n := ⟨m0, m1, m2, m3, m4⟩) (o := ⟨n0, n1, n2, n3, n4⟩) r2)
    clear h0 HD3 HE3 HD4 HE4
    go_enter Try.func9, Try.ntmps9
    go_wp2_with fail
    refine (H1.out _ HT0.out.a.all).mono ?_
    rintro e w1 ⟨rfl, hb1⟩
    have HT1 := Lib.hid (HT0.out.below hb1)
    clear hb1
    rw [r1]
    obtain ⟨x0, x1, x2, x3, x4⟩ := HT1.out.a.five
    obtain ⟨y0, y1, y2, y3, y4⟩ := HT1.out.b.five
    go_wp2_with fail
    clear x0 x1 x2 x3 x4 y0 y1 y2 y3 y4
    refine (H2.out _ HT1.out.a.all).mono ?_
    rintro e w2 ⟨rfl, hb1⟩
    have HT2 := Lib.hid (HT1.out.below hb1)
    clear hb1
    rw [r2]
    obtain ⟨x0, x1, x2, x3, x4⟩ := HT2.out.a.five
    obtain ⟨y0, y1, y2, y3, y4⟩ := HT2.out.b.five
    go_wp2_with fail
    clear x0 x1 x2 x3 x4 y0 y1 y2 y3 y4
    go_ret
    rw [HE.out]
    exact ⟨rfl, HT2.out.a.all⟩
  by_cases h3 : m3.length = n3.length
  case neg =>
    have e3 : ((m3.length : Int) != (n3.length : Int)) = true := by simp; omega
    have HE := Lib.hid (sameM_inits (n := ⟨m0, m1, m2, m3, m4⟩) (o := ⟨n0, n1, n2, n3, n4⟩) (eqAll_len h3))
    clear h0 h3 HD3 HE3 HD4 HE4
    go_enter Try.func9, Try.ntmps9
    go_wp2_with fail
    refine (H1.out _ HT0.out.a.all).mono ?_
    rintro e w1 ⟨rfl, hb1⟩
    have HT1 := Lib.hid (HT0.out.below hb1)
    clear hb1
    rw [r1]
    obtain ⟨x0, x1, x2, x3, x4⟩ := HT1.out.a.five
    obtain ⟨y0, y1, y2, y3, y4⟩ := HT1.out.b.five
    go_wp2_with fail
    clear x0 x1 x2 x3 x4 y0 y1 y2 y3 y4
    refine (H2.out _ HT1.out.a.all).mono ?_
    rintro e w2 ⟨rfl, hb1⟩
    have HT2 := Lib.hid (HT1.out.below hb1)
    clear hb1
    rw [r2]
    obtain ⟨x0, x1, x2, x3, x4⟩ := HT2.out.a.five
    obtain ⟨y0, y1, y2, y3, y4⟩ := HT2.out.b.five
    go_wp2_with fail
    clear x0 x1 x2 x3 x4 y0 y1 y2 y3 y4
    go_ret
    rw [HE.out]
    exact ⟨rfl, HT2.out.a.all⟩
  have e3 : ((m3.length : Int) != (n3.length : Int)) = false := by simp; omega
  by_cases h4 : m4.length = n4.length
  case neg =>
    have e4 : ((m4.length : Int) != (n4.length : Int)) = true := by simp; omega
    have HE := Lib.hid (sameM_nodes (n := ⟨m0, m1, m2, m3, m4⟩) (o := ⟨n0, n1, n2, n3, n4⟩) (eqAll_len h4))
    clear h0 h3 h4 HD3 HE3 HD4 HE4
    go_enter Try.func9, Try.ntmps9
    go_wp2_with fail
    refine (H1.out _ HT0.out.a.all).mono ?_
    rintro e w1 ⟨rfl, hb1⟩
    have HT1 := Lib.hid (HT0.out.below hb1)
    clear hb1
    rw [r1]
    obtain ⟨x0, x1, x2, x3, x4⟩ := HT1.out.a.five
    obtain ⟨y0, y1, y2, y3, y4⟩ := HT1.out.b.five
    go_wp2_with fail
    clear x0 x1 x2 x3 x4 y0 y1 y2 y3 y4
    refine (H2.out _ HT1.out.a.all).mono ?_
    rintro e w2 ⟨rfl, hb1⟩
    have HT2 := Lib.hid (HT1.out.below hb1)
    clear hb1
    rw [r2]
    obtain ⟨x0, x1, x2, x3, x4⟩ := HT2.out.a.five
    obtain ⟨y0, y1, y2, y3, y4⟩ := HT2.out.b.five
    go_wp2_with fail
    clear x0 x1 x2 x3 x4 y0 y1 y2 y3 y4
    go_ret
    rw [HE.out]
    exact ⟨rfl, HT2.out.a.all⟩
  have e4 : ((m4.length : Int) != (n4.length : Int)) = false := by simp; omega
  have HL3 := Lib.hid h3
  have HL4 := Lib.hid h4
  have HYES := Lib.hid (fun (h3 : eqAll sameT m3 n3 = true) (h4 : eqAll sameN m4 n4 = true) => sameM_yes (n := ⟨m0, m1, m2, m3, m4⟩) (o := ⟨n0, n1, n2, n3, n4⟩) h0 r1 r2 h3 h4)
  have HF3 := Lib.hid (fun h => sameM_inits (n := ⟨m0, m1, m2, m3, m4⟩) (o := ⟨n0, n1, n2, n3, n4⟩) h)
  have HF4 := Lib.hid (fun h => sameM_nodes (n := ⟨m0, m1, m2, m3, m4⟩) (o := ⟨n0, n1, n2, n3, n4⟩) h)
  clear h0 h3 h4
  go_enter Try.func9, Try.ntmps9
  go_wp2_with fail
  refine (H1.out _ HT0.out.a.all).mono ?_
  rintro e w1 ⟨rfl, hb1⟩
  have HT1 := Lib.hid (HT0.out.below hb1)
  clear hb1
  rw [r1]
  obtain ⟨x0, x1, x2, x3, x4⟩ := HT1.out.a.five
  obtain ⟨y0, y1, y2, y3, y4⟩ := HT1.out.b.five
  go_wp2_with fail
  clear x0 x1 x2 x3 x4 y0 y1 y2 y3 y4
  refine (H2.out _ HT1.out.a.all).mono ?_
  rintro e w2 ⟨rfl, hb1⟩
  have HT2 := Lib.hid (HT1.out.below hb1)
  clear hb1
  rw [r2]
  obtain ⟨x0, x1, x2, x3, x4⟩ := HT2.out.a.five
  obtain ⟨y0, y1, y2, y3, y4⟩ := HT2.out.b.five
  go_wp2_with fail
  clear x0 x1 x2 x3 x4 y0 y1 y2 y3 y4
  clear e1 e3 e4 r1 r2 H1 H2
  go_loopw [5] (fun i wr => ∃ (k : Nat) (K : Int), i = .int .i64 K ∧ K = (k : Nat) ∧ k ≤ m3.length ∧ MTwo w w.heap.size (w.heap.size + 1) #[.int .i64 m0, .slice A1 m1.length c1, .slice A2 m2.length c2, .slice A3 m3.length c3, .slice A4 m4.length c4] #[.int .i64 n0, .slice B1 n1.length d1, .slice B2 n2.length d2, .slice B3 n3.length d3, .slice B4 n4.length d4] 33 wr ∧ eqTo sameT m3 n3 k) (fun i _ => m3.length - (intOf i).toNat)
  case atStart => exact ⟨0, _, rfl, rfl, by omega, HT2.out, eqTo_zero _ _⟩
  case round =>
    obtain ⟨k, K, rfl, rfl, hk, hbx, htk⟩ := hrel
    have HT := Lib.hid htk
    have HX := Lib.hid hbx
    clear htk hbx
    have hbz := HX.out.a.all.size
    obtain ⟨x0, x1, x2, x3, x4⟩ := HX.out.a.five
    obtain ⟨y0, y1, y2, y3, y4⟩ := HX.out.b.five
    by_cases hlt : k < m3.length
    · have hlt' : k < n3.length := by rw [← HL3.out]; exact hlt
      obtain ⟨b1, o1, cx, rfl, hb1, hpx, hcx⟩ := (HD3.out.below ek_ten HX.out.a.all).at_ ek_ten hlt
      obtain ⟨b2, o2, cy, rfl, hb2, hpy, hcy⟩ := (HE3.out.below ek_ten HX.out.a.all).at_ ek_ten hlt'
      have HY := Lib.hid (fun h => eqTo_succ HT.out hlt hlt' h)
      have HN := Lib.hid (eqAll_no (f := sameT) hlt hlt')
      have HPX := Lib.hid hpx
      have HPY := Lib.hid hpy
      clear hpx hpy
      generalize m3[k] = u at *
      generalize n3[k] = v at *
      obtain ⟨A1, c1, rfl⟩ := TenAt.shape HPX.out
      obtain ⟨A2, c2, rfl⟩ := TenAt.shape HPY.out
      have p0 := hcx 0 _ rfl
      have p1 := hcx 1 _ rfl
      have p2 := hcx 2 _ rfl
      have p3 := hcx 3 _ rfl
      have r0 := hcy 0 _ rfl
      have r1 := hcy 1 _ rfl
      have r2 := hcy 2 _ rfl
      have r3 := hcy 3 _ rfl
      simp only [Nat.add_zero] at p0 r0
      clear hcx hcy
      have HC := Lib.hid (fun dd os => rten_any u v [.string u.name, .int .i64 u.kind, .slice A1 u.dims.length c1, .string u.data] [.string v.name, .int .i64 v.kind, .slice A2 v.dims.length c2, .string v.data] (grow (redrawn wr dd) os) (ek_ten.more (ek_ten.below HPX.out ((below_regrown wr dd os).mono hbz)) (Nat.le_trans hbz (below_regrown wr dd os).size)) (ek_ten.more (ek_ten.below HPY.out ((below_regrown wr dd os).mono hbz)) (Nat.le_trans hbz (below_regrown wr dd os).size)))
      have q0 := fun d os => cell_regrown p0 d os
      have q1 := fun d os => cell_regrown p1 d os
      have q2 := fun d os => cell_regrown p2 d os
      have q3 := fun d os => cell_regrown p3 d os
      have s0 := fun d os => cell_regrown r0 d os
      have s1 := fun d os => cell_regrown r1 d os
      have s2 := fun d os => cell_regrown r2 d os
      have s3 := fun d os => cell_regrown r3 d os
      have qx0 := fun d os => cell_regrown x0 d os
      have qy0 := fun d os => cell_regrown y0 d os
      have qx1 := fun d os => cell_regrown x1 d os
      have qy1 := fun d os => cell_regrown y1 d os
      have qx2 := fun d os => cell_regrown x2 d os
      have qy2 := fun d os => cell_regrown y2 d os
      have qx3 := fun d os => cell_regrown x3 d os
      have qy3 := fun d os => cell_regrown y3 d os
      have qx4 := fun d os => cell_regrown x4 d os
      have qy4 := fun d os => cell_regrown y4 d os
      clear p0 p1 p2 p3 r0 r1 r2 r3 HPX HPY
      cases huv : sameT u v
      · have HE := Lib.hid (HF3.out (HN.out huv))
        rw [huv] at HC
        clear huv HN HY
        go_wp2_with fail
        refine wp_region_quiet_below (by kernel_rfl) (by kernel_rfl) ?_
        repeat (go_big_quiet_step ((go_at_call 20; exact Calls.regrown_of (HC.out _ _))))
        refine wpQuiet_nil ?_
        rintro w9 ⟨p, rfl⟩
        have H2 := Lib.hid (HX.out.below (below_regrown wr p.d p.os))
        clear qx0 qy0 x0 y0 qx1 qy1 x1 y1 qx2 qy2 x2 y2 qx3 qy3 x3 y3 qx4 qy4 x4 y4 q0 q1 q2 q3 s0 s1 s2 s3 HC
        generalize grow (redrawn wr p.d) p.os = w9 at H2 ⊢
        go_wp2_with fail
        go_ret
        rw [HE.out]
        exact ⟨rfl, H2.out.a.all⟩
      · have HE := Lib.hid (HY.out huv)
        rw [huv] at HC
        clear huv HN HY
        go_wp2_with fail
        refine wp_region_quiet_below (by kernel_rfl) (by kernel_rfl) ?_
        repeat (go_big_quiet_step ((go_at_call 20; exact Calls.regrown_of (HC.out _ _))))
        refine wpQuiet_nil ?_
        rintro w9 ⟨p, rfl⟩
        have H2 := Lib.hid (HX.out.below (below_regrown wr p.d p.os))
        clear qx0 qy0 x0 y0 qx1 qy1 x1 y1 qx2 qy2 x2 y2 qx3 qy3 x3 y3 qx4 qy4 x4 y4 q0 q1 q2 q3 s0 s1 s2 s3 HC
        generalize grow (redrawn wr p.d) p.os = w9 at H2 ⊢
        go_wp2_with fail
        go_roundw
        case rel => exact ⟨k + 1, _, rfl, by omega, by omega, H2.out, HE.out⟩
        case measure => simp [intOf]; omega
    · obtain rfl : k = m3.length := by omega
      have HALL := Lib.hid (eqAll_yes HL3.out HT.out)
      clear HT
      have HTEN := Lib.hid HALL.out
      have HX2 := Lib.hid HX.out
      clear HALL HX hk hlt
      go_wp2_with fail
      clear x0 x1 x2 x3 x4 y0 y1 y2 y3 y4
      go_loopw [6] (fun i wr => ∃ (k : Nat) (K : Int), i = .int .i64 K ∧ K = (k : Nat) ∧ k ≤ m4.length ∧ MTwo w w.heap.size (w.heap.size + 1) #[.int .i64 m0, .slice A1 m1.length c1, .slice A2 m2.length c2, .slice A3 m3.length c3, .slice A4 m4.length c4] #[.int .i64 n0, .slice B1 n1.length d1, .slice B2 n2.length d2, .slice B3 n3.length d3, .slice B4 n4.length d4] 33 wr ∧ eqTo sameN m4 n4 k) (fun i _ => m4.length - (intOf i).toNat)
      case atStart => exact ⟨0, _, rfl, rfl, by omega, HX2.out, eqTo_zero _ _⟩
      case round =>
        obtain ⟨k, K, rfl, rfl, hk, hbx, htk⟩ := hrel
        have HT := Lib.hid htk
        have HX := Lib.hid hbx
        clear htk hbx
        have hbz := HX.out.a.all.size
        obtain ⟨x0, x1, x2, x3, x4⟩ := HX.out.a.five
        obtain ⟨y0, y1, y2, y3, y4⟩ := HX.out.b.five
        by_cases hlt : k < m4.length
        · have hlt' : k < n4.length := by rw [← HL4.out]; exact hlt
          obtain ⟨b1, o1, cx, rfl, hb1, hpx, hcx⟩ := (HD4.out.below ek_nod HX.out.a.all).at_ ek_nod hlt
          obtain ⟨b2, o2, cy, rfl, hb2, hpy, hcy⟩ := (HE4.out.below ek_nod HX.out.a.all).at_ ek_nod hlt'
          have HY := Lib.hid (fun h => eqTo_succ HT.out hlt hlt' h)
          have HN := Lib.hid (eqAll_no (f := sameN) hlt hlt')
          have HPX := Lib.hid hpx
          have HPY := Lib.hid hpy
          clear hpx hpy
          generalize m4[k] = u at *
          generalize n4[k] = v at *
          obtain ⟨A1, c1, D1, e1, rfl⟩ := NodAt.shape HPX.out
          obtain ⟨A2, c2, D2, e2, rfl⟩ := NodAt.shape HPY.out
          have p0 := hcx 0 _ rfl
          have p1 := hcx 1 _ rfl
          have p2 := hcx 2 _ rfl
          have p3 := hcx 3 _ rfl
          have r0 := hcy 0 _ rfl
          have r1 := hcy 1 _ rfl
          have r2 := hcy 2 _ rfl
          have r3 := hcy 3 _ rfl
          simp only [Nat.add_zero] at p0 r0
          clear hcx hcy
          have HC := Lib.hid (fun dd os => rnode_any u v [.string u.op, .slice A1 u.ins.length c1, .string u.out, .slice D1 u.attrs.length e1] [.string v.op, .slice A2 v.ins.length c2, .string v.out, .slice D2 v.attrs.length e2] (grow (redrawn wr dd) os) (ek_nod.more (ek_nod.below HPX.out ((below_regrown wr dd os).mono hbz)) (Nat.le_trans hbz (below_regrown wr dd os).size)) (ek_nod.more (ek_nod.below HPY.out ((below_regrown wr dd os).mono hbz)) (Nat.le_trans hbz (below_regrown wr dd os).size)))
          have q0 := fun d os => cell_regrown p0 d os
          have q1 := fun d os => cell_regrown p1 d os
          have q2 := fun d os => cell_regrown p2 d os
          have q3 := fun d os => cell_regrown p3 d os
          have s0 := fun d os => cell_regrown r0 d os
          have s1 := fun d os => cell_regrown r1 d os
          have s2 := fun d os => cell_regrown r2 d os
          have s3 := fun d os => cell_regrown r3 d os
          have qx0 := fun d os => cell_regrown x0 d os
          have qy0 := fun d os => cell_regrown y0 d os
          have qx1 := fun d os => cell_regrown x1 d os
          have qy1 := fun d os => cell_regrown y1 d os
          have qx2 := fun d os => cell_regrown x2 d os
          have qy2 := fun d os => cell_regrown y2 d os
          have qx3 := fun d os => cell_regrown x3 d os
          have qy3 := fun d os => cell_regrown y3 d os
          have qx4 := fun d os => cell_regrown x4 d os
          have qy4 := fun d os => cell_regrown y4 d os
          clear p0 p1 p2 p3 r0 r1 r2 r3 HPX HPY
          cases huv : sameN u v
          · have HE := Lib.hid (HF4.out (HN.out huv))
            rw [huv] at HC
            clear huv HN HY
            go_wp2_with fail
            refine wp_region_quiet_below (by kernel_rfl) (by kernel_rfl) ?_
            repeat (go_big_quiet_step ((go_at_call 34; exact Calls.regrown_of (HC.out _ _))))
            refine wpQuiet_nil ?_
            rintro w9 ⟨p, rfl⟩
            have H2 := Lib.hid (HX.out.below (below_regrown wr p.d p.os))
            clear qx0 qy0 x0 y0 qx1 qy1 x1 y1 qx2 qy2 x2 y2 qx3 qy3 x3 y3 qx4 qy4 x4 y4 q0 q1 q2 q3 s0 s1 s2 s3 HC
            generalize grow (redrawn wr p.d) p.os = w9 at H2 ⊢
            go_wp2_with fail
            go_ret
            rw [HE.out]
            exact ⟨rfl, H2.out.a.all⟩
          · have HE := Lib.hid (HY.out huv)
            rw [huv] at HC
            clear huv HN HY
            go_wp2_with fail
            refine wp_region_quiet_below (by kernel_rfl) (by kernel_rfl) ?_
            repeat (go_big_quiet_step ((go_at_call 34; exact Calls.regrown_of (HC.out _ _))))
            refine wpQuiet_nil ?_
            rintro w9 ⟨p, rfl⟩
            have H2 := Lib.hid (HX.out.below (below_regrown wr p.d p.os))
            clear qx0 qy0 x0 y0 qx1 qy1 x1 y1 qx2 qy2 x2 y2 qx3 qy3 x3 y3 qx4 qy4 x4 y4 q0 q1 q2 q3 s0 s1 s2 s3 HC
            generalize grow (redrawn wr p.d) p.os = w9 at H2 ⊢
            go_wp2_with fail
            go_roundw
            case rel => exact ⟨k + 1, _, rfl, by omega, by omega, H2.out, HE.out⟩
            case measure => simp [intOf]; omega
        · obtain rfl : k = m4.length := by omega
          have HALL := Lib.hid (eqAll_yes HL4.out HT.out)
          clear HT
          have HE := Lib.hid (HYES.out HTEN.out HALL.out)
          go_wp2_with fail
          go_ret
          rw [HE.out]
          exact ⟨rfl, HX.out.a.all⟩



set_option maxRecDepth 100000 in
theorem rfind_any (A : Option Addr) (c : Nat) (l : List Att) (s : ByteArray) (w : World) (hl : l.length ≤ maxLen) (ha : DR AttAt w w.heap.size 4 A l) :
    Calls Try.prog 12 #[.slice A l.length c, .string s] w fun e w' => e = .returned (.int .i64 (fndI (fun a => decide (a.name = s)) l)) ∧ Below w.heap.size w w' := by
  unfold maxLen at hl
  have HD := Lib.hid ha
  clear ha
  go_enter Try.func12, Try.ntmps12
  go_wp2_with fail
  go_loopw [5] (fun i wr => ∃ (k : Nat) (K : Int), i = .int .i64 K ∧ K = (k : Nat) ∧ k ≤ l.length ∧ wr = w ∧ ∀ j, j < k → ∀ hj : j < l.length, l[j].name ≠ s) (fun i _ => l.length - (intOf i).toNat)
  case atStart => exact ⟨0, _, rfl, rfl, by omega, rfl, fun j hj => absurd hj (by omega)⟩
  case round =>
    obtain ⟨k, K, rfl, rfl, hk, rfl, hno⟩ := hrel
    have HNO := Lib.hid hno
    clear hno
    by_cases hlt : k < l.length
    · obtain ⟨b, o, cs, rfl, hb, hp, hcx⟩ := HD.out.at_ ek_att hlt
      have HY := Lib.hid (fun (h : l[k].name = s) => fndI_yes (p := fun a => decide (a.name = s)) hlt (by simpa using h) (fun j hj => by simpa using HNO.out j hj (by omega)))
      have HN := Lib.hid (fun (h : l[k].name ≠ s) => show ∀ j, j < k + 1 → ∀ hj : j < l.length, l[j].name ≠ s from fun j hj hj2 => by
        by_cases e : j = k
        · subst e; exact h
        · exact HNO.out j (by omega) hj2)
      obtain ⟨A1, c1, rfl⟩ := AttAt.shape hp
      clear hp HNO
      generalize l[k] = u at *
      have p0 := hcx 0 _ rfl
      simp only [Nat.add_zero] at p0
      clear hcx
      by_cases hs : u.name = s
      · have e1 := teq_yes hs
        have HE := Lib.hid (HY.out hs)
        clear hs HY HN HD
        go_wp2_with fail
        go_ret
        rw [HE.out]
        exact ⟨rfl, Below.refl _ _⟩
      · have e1 := teq_no hs
        have HE := Lib.hid (HN.out hs)
        clear hs HY HN
        go_wp2_with fail
        go_roundw
        case rel => exact ⟨k + 1, _, rfl, by omega, by omega, trivial, HE.out⟩
        case measure => simp [intOf]; omega
    · obtain rfl : k = l.length := by omega
      have e := fndI_no (p := fun a => decide (a.name = s)) (l := l) (fun j hj => by simpa using HNO.out j hj hj)
      have HE := Lib.hid e
      clear e HNO
      go_wp2_with fail
      go_ret
      rw [HE.out]
      exact ⟨rfl, Below.refl _ _⟩


set_option maxRecDepth 100000 in
theorem rinit_any (A : Option Addr) (c : Nat) (l : List Ten) (s : ByteArray) (w : World) (hl : l.length ≤ maxLen) (ha : DR TenAt w w.heap.size 4 A l) :
    Calls Try.prog 19 #[.slice A l.length c, .string s] w fun e w' => e = .returned (.int .i64 (fndI (fun a => decide (a.name = s)) l)) ∧ Below w.heap.size w w' := by
  unfold maxLen at hl
  have HD := Lib.hid ha
  clear ha
  go_enter Try.func19, Try.ntmps19
  go_wp2_with fail
  go_loopw [5] (fun i wr => ∃ (k : Nat) (K : Int), i = .int .i64 K ∧ K = (k : Nat) ∧ k ≤ l.length ∧ wr = w ∧ ∀ j, j < k → ∀ hj : j < l.length, l[j].name ≠ s) (fun i _ => l.length - (intOf i).toNat)
  case atStart => exact ⟨0, _, rfl, rfl, by omega, rfl, fun j hj => absurd hj (by omega)⟩
  case round =>
    obtain ⟨k, K, rfl, rfl, hk, rfl, hno⟩ := hrel
    have HNO := Lib.hid hno
    clear hno
    by_cases hlt : k < l.length
    · obtain ⟨b, o, cs, rfl, hb, hp, hcx⟩ := HD.out.at_ ek_ten hlt
      have HY := Lib.hid (fun (h : l[k].name = s) => fndI_yes (p := fun a => decide (a.name = s)) hlt (by simpa using h) (fun j hj => by simpa using HNO.out j hj (by omega)))
      have HN := Lib.hid (fun (h : l[k].name ≠ s) => show ∀ j, j < k + 1 → ∀ hj : j < l.length, l[j].name ≠ s from fun j hj hj2 => by
        by_cases e : j = k
        · subst e; exact h
        · exact HNO.out j (by omega) hj2)
      obtain ⟨A1, c1, rfl⟩ := TenAt.shape hp
      clear hp HNO
      generalize l[k] = u at *
      have p0 := hcx 0 _ rfl
      simp only [Nat.add_zero] at p0
      clear hcx
      by_cases hs : u.name = s
      · have e1 := teq_yes hs
        have HE := Lib.hid (HY.out hs)
        clear hs HY HN HD
        go_wp2_with fail
        go_ret
        rw [HE.out]
        exact ⟨rfl, Below.refl _ _⟩
      · have e1 := teq_no hs
        have HE := Lib.hid (HN.out hs)
        clear hs HY HN
        go_wp2_with fail
        go_roundw
        case rel => exact ⟨k + 1, _, rfl, by omega, by omega, trivial, HE.out⟩
        case measure => simp [intOf]; omega
    · obtain rfl : k = l.length := by omega
      have e := fndI_no (p := fun a => decide (a.name = s)) (l := l) (fun j hj => by simpa using HNO.out j hj hj)
      have HE := Lib.hid e
      clear e HNO
      go_wp2_with fail
      go_ret
      rw [HE.out]
      exact ⟨rfl, Below.refl _ _⟩

end Go.Proofs.Ytpdpimchchfocaa
/- The walks of the law's Infos and Node: what the document's types hold of what is the program's. -/
namespace Go.Proofs.Ytpdpimchchfocaa
open Go.RowKit M7 M10 Go.Sort

/-- a row of the call's own, whose elements' own parts lie where they lay -/
def RR {α : Type} (P : Nat → World → α → List Value → Prop) (w : World) (B : Nat) (T : TypeId) (size : Nat) (v : Value) (l : List α) : Prop :=
  ∃ css, Al (P B w) l css ∧ (∀ c ∈ css, c.length = size) ∧ w.ownsRow B T size v l.length css.flatten
/-- what stays of such an element -/
structure Er {α : Type} (P : Nat → World → α → List Value → Prop) (far : TypeId → Prop) (size : Nat) : Prop where
  len : ∀ {B w a cs}, P B w a cs → cs.length = size
  keep : ∀ {B w w' a cs}, P B w a cs → Below w.heap.size w w' → B ≤ w.heap.size → P B w' a cs
  set : ∀ {B w a cs g cur T i u}, P B w a cs → w.heap[g]? = some (.cells cur T (0, 0)) → far T → B ≤ g → P B (w.setCell ⟨g, i, none⟩ u) a cs
  grown : ∀ {B w w' a cs n s e v ys}, P B w a cs → w.ownsRow B e s v n ys → far e → w.grownBy w' v.ownBlock → B ≤ w.heap.size → P B w' a cs
theorem below_grown {B s n : Nat} {e : TypeId} {v : Value} {ys : List Value} {w w' : World} (h : w.ownsRow B e s v n ys) (hg : w.grownBy w' v.ownBlock) (hB : B ≤ w.heap.size) : Below B w w' :=
  (Below.refl B w).grown hg hB fun _ hq => (own_blk h hq).1
theorem er_of_ek {α : Type} {P : Nat → World → α → List Value → Prop} {size : Nat} (h : Ek P size) : Er P (fun _ => True) size :=
  ⟨fun hp => h.len hp, fun hp hb hB => h.below hp (hb.mono hB), fun {B w _ _ g _ _ i u} hp _ _ hB => h.below hp ((Below.refl B w).setCell (p := ⟨g, i, none⟩) hB u), fun hp ho _ hg hB => h.below hp (below_grown ho hg hB)⟩
section
variable {α : Type} {P : Nat → World → α → List Value → Prop} {far : TypeId → Prop} {w w' : World} {B size n : Nat} {T : TypeId} {v : Value} {l : List α}
theorem RR.nil (w : World) (B : Nat) (T : TypeId) (size : Nat) : RR P w B T size (.slice none 0 0) [] := ⟨[], trivial, by simp, World.ownsRow_nil _ _ _ _⟩
theorem RR.keep (h : RR P w B T size v l) (hr : Er P far size) (hb : Below w.heap.size w w') (hB : B ≤ w.heap.size) : RR P w' B T size v l := by
  obtain ⟨css, ha, hl, ho⟩ := h
  exact ⟨css, ha.mono fun _ _ hp => hr.keep hp hb hB, hl, own_keep ho hb⟩
theorem RR.set (h : RR P w B T size v l) (hr : Er P far size) {g : Nat} {cur : Array Value} {T2 : TypeId} {i : Nat} {u : Value} (hg : w.heap[g]? = some (.cells cur T2 (0, 0))) (hf : far T2) (hT : T2 ≠ T) (hB : B ≤ g) : RR P (w.setCell ⟨g, i, none⟩ u) B T size v l := by
  obtain ⟨css, ha, hl, ho⟩ := h
  exact ⟨css, ha.mono fun _ _ hp => hr.set hp hg hf hB, hl, own_set ho (own_far ho hg hT) i u⟩
theorem RR.grown (h : RR P w B T size v l) (hr : Er P far size) {e : TypeId} {s n : Nat} {u : Value} {ys : List Value} (ho : w.ownsRow B e s u n ys) (hf : far e) (hT : T ≠ e) (hg : w.grownBy w' u.ownBlock) (hB : B ≤ w.heap.size) : RR P w' B T size v l := by
  obtain ⟨css, ha, hl, hw⟩ := h
  exact ⟨css, ha.mono fun _ _ hp => hr.grown hp ho hf hg hB, hl, own_grown_far hw ho hT hg⟩
theorem RR.form (h : RR P w B T size v l) : ∃ A c, v = .slice A l.length c := by
  obtain ⟨css, _, _, ho⟩ := h
  obtain ⟨A, c, hv, _⟩ := own_form ho
  exact ⟨A, c, hv⟩
theorem RR.read {Q : Nat → World → α → List Value → Prop} {A : Option Addr} {c : Nat} (h : RR P w B T size (.slice A l.length c) l) (hm : ∀ a cs, a ∈ l → P B w a cs → Q w.heap.size w a cs) : DR Q w w.heap.size size A l := by
  obtain ⟨css, ha, hl, ho⟩ := h
  exact ⟨css, Al.of_get ha.len fun k h1 h2 => hm _ _ (List.getElem_mem h1) (ha.get h1 h2), SR.of_own ho⟩
end
theorem flatten_snoc (css : List (List Value)) (c : List Value) : (css ++ [c]).flatten = css.flatten ++ c := by simp
theorem infoRInfo : (Try.prog.info? 101).map (fun i => (i.zero, i.size, i.bytes)) = some (some (.agg #[.string ⟨#[]⟩, .int .i64 0, .slice none 0 0]), 3, 48) := by kernel_rfl
theorem infoRAttr : (Try.prog.info? 61).map (fun i => (i.zero, i.size, i.bytes)) = some (some (.agg #[.string ⟨#[]⟩, .bool false, .int .i64 0, .slice none 0 0]), 4, 56) := by kernel_rfl
theorem infoRTen : (Try.prog.info? 68).map (fun i => (i.zero, i.size, i.bytes)) = some (some (.agg #[.string ⟨#[]⟩, .int .i64 0, .slice none 0 0, .string ⟨#[]⟩]), 4, 64) := by kernel_rfl
theorem infoRNode : (Try.prog.info? 55).map (fun i => (i.zero, i.size, i.bytes)) = some (some (.agg #[.string ⟨#[]⟩, .slice none 0 0, .string ⟨#[]⟩, .slice none 0 0]), 4, 80) := by kernel_rfl

set_option maxRecDepth 100000 in
theorem linfos_any (B : Nat) (l : List Inf) (A : Option Addr) (c : Nat) (w : World) (hB : B ≤ w.heap.size) (hl : l.length * 48 ≤ 140737488351232) (ha : DR InfAt w B 3 A l) :
    Calls Try.prog 26 #[.slice A l.length c] w fun e w' => ∃ v, e = .returned v ∧ RR InfAt w' B 101 3 v l ∧ Below w.heap.size w w' := by
  obtain ⟨i0, hi0, hz0, hz1, hz2⟩ := info_parts infoRInfo
  have HB0 := Lib.hid hB
  go_enter Try.func26, Try.ntmps26
  go_wp2_with fail
  go_loopw [3, 5, 8] (fun v _ i wr => ∃ (k : Nat) (K : Int) (css : List (List Value)), i = .int .i64 K ∧ K = (k : Nat) ∧ k ≤ l.length ∧ Al (InfAt B wr) (l.take k) css ∧ wr.ownsRow w.heap.size 101 3 v k css.flatten ∧ Below w.heap.size w wr) (fun _ _ i _ => l.length - (intOf i).toNat)
  case atStart => exact ⟨0, _, [], rfl, rfl, by omega, by rw [List.take_zero]; exact trivial, World.ownsRow_nil _ _ _ _, Below.refl _ _⟩
  case round =>
    obtain ⟨k, K, css, rfl, rfl, hk, hal, hown, hb⟩ := hrel
    obtain ⟨V, vc, rfl, -, -⟩ := own_form hown
    have HAL := Lib.hid hal
    clear hal
    by_cases hlt : k < l.length
    · obtain ⟨b, o, cs, rfl, hbb, hp, hcx⟩ := (ha.below ek_inf (hb.mono hB)).at_ ek_inf hlt
      have hz := hb.size
      have HS := Lib.hid (fun (W : World) (cs : List Value) (hp : InfAt B W l[k] cs) (hal : Al (InfAt B W) (l.take k) css) => show Al (InfAt B W) (l.take (k + 1)) (css ++ [cs]) from by rw [List.take_succ_eq_append_getElem hlt]; exact hal.snoc hp)
      have HB := Lib.hid hb
      have HP := Lib.hid hp
      clear hb
      obtain ⟨A1, c1, rfl⟩ := InfAt.shape hp
      clear hp
      generalize l[k] = u at *
      have p0 := hcx 0 _ rfl
      have p1 := hcx 1 _ rfl
      have p2 := hcx 2 _ rfl
      simp only [Nat.add_zero] at p0
      clear hcx
      go_wp2_with (at_builtin; refine wpList_append_own _ rfl _ _ 29 rfl w.heap.size 101 i0 _ 3 48 Try.underlying29 hi0 hz0 hz1 hz2 rfl (by decide) _ _ _ rfl ((hown.alloc _).alloc _) ⟨wr.heap.size + 1, 0, none⟩ 1 1 [.string u.name, .int .i64 u.kind, .slice A1 u.dims.length c1] rfl rfl (cells_new2 _ _ _ _) ?c2 ?c3 ?c4 ?c5 ?_)
      case c2 => intro u hu; simp at hu; rcases hu with rfl | rfl | rfl <;> rfl
      case c3 => unfold maxLen; omega
      case c4 => omega
      case c5 => simp; omega
      intro v' w2 hown' hgrow _
      rw [← flatten_snoc] at hown'
      have hb3 := ((HB.out.alloc hz _).alloc (by simp; omega) _).grown hgrow (by simp; omega) (fun q hq => (hown.lt q hq).1)
      have hb4 : Below w.heap.size wr w2 := ((((Below.refl w.heap.size wr).alloc hz _).alloc (by simp; omega) _).grown hgrow (by simp; omega) (fun q hq => (hown.lt q hq).1))
      have HO := Lib.hid (And.intro hown' (And.intro hb3 (HS.out w2 _ (ek_inf.below HP.out (hb4.mono HB0.out)) (HAL.out.mono fun _ _ hq => ek_inf.below hq (hb4.mono HB0.out)))))
      clear hgrow hown' hown hb3 hb4 p0 p1 p2
      go_wp2_with fail
      go_roundw
      case rel => exact ⟨k + 1, _, _, rfl, by omega, by omega, HO.out.2.2, HO.out.1, HO.out.2.1⟩
      case measure => simp [intOf]; omega
    · obtain rfl : k = l.length := by omega
      have hal := HAL.out
      rw [List.take_length] at hal
      have HO := Lib.hid (And.intro hown (And.intro hb hal))
      clear hown hb hal HAL
      go_wp2_with fail
      go_ret
      exact ⟨_, rfl, ⟨css, HO.out.2.2, ek_inf.all HO.out.2.2, own_base HO.out.1 HB0.out⟩, HO.out.2.1⟩
theorem er_inf : Er InfAt (fun _ => True) 3 := er_of_ek ek_inf
theorem er_ten : Er TenAt (fun _ => True) 4 := er_of_ek ek_ten
theorem er_att : Er AttAt (fun _ => True) 4 := er_of_ek ek_att
def RNod (B : Nat) (w : World) (n : Nod) (cs : List Value) : Prop :=
  ∃ A c v, cs = [.string n.op, .slice A n.ins.length c, .string n.out, v] ∧ SR w B 1 A n.ins.length (m_tx n.ins) ∧ RR AttAt w B 61 4 v n.attrs ∧ NOk n
theorem RNod.shape {B : Nat} {w : World} {n : Nod} {cs : List Value} (h : RNod B w n cs) : ∃ A c A' c', cs = [.string n.op, .slice A n.ins.length c, .string n.out, .slice A' n.attrs.length c'] := by
  obtain ⟨A, c, v, h, _, hr, _⟩ := h
  obtain ⟨A', c', rfl⟩ := hr.form
  exact ⟨A, c, A', c', h⟩
theorem RNod.at_ {B : Nat} {w : World} {n : Nod} {cs : List Value} (h : RNod B w n cs) (hB : B ≤ w.heap.size) : NodAt w.heap.size w n cs := by
  obtain ⟨A, c, v, rfl, hs, hr, ok⟩ := h
  obtain ⟨A', c', rfl⟩ := hr.form
  exact ⟨A, c, A', c', rfl, hs.more hB, hr.read fun _ _ _ hp => ek_att.more hp hB, ok⟩
theorem er_nod : Er RNod (fun T => T ≠ 61) 4 :=
  ⟨fun ⟨_, _, _, h, _⟩ => by rw [h]; rfl,
   fun ⟨A, c, v, h, hs, hr, ok⟩ hb hB => ⟨A, c, v, h, hs.below (hb.mono hB), hr.keep er_att hb hB, ok⟩,
   fun {B w _ _ g _ _ i u} ⟨A, c, v, h, hs, hr, ok⟩ hg hf hB => ⟨A, c, v, h, hs.below ((Below.refl B w).setCell (p := ⟨g, i, none⟩) hB u), hr.set er_att hg trivial hf hB, ok⟩,
   fun ⟨A, c, v, h, hs, hr, ok⟩ ho hf hg hB => ⟨A, c, v, h, hs.below (below_grown ho hg hB), hr.grown er_att ho trivial (fun e => hf e.symm) hg hB, ok⟩⟩

theorem rnod_set4 {w : World} {B b : Nat} {T : TypeId} {a : Nod} {cs : List Value} {c0 c1 c2 c3 : Value} (h : RNod B w a cs) (hb : w.heap[b]? = some (.cells #[c0, c1, c2, c3] T (0, 0))) (h1 : T ≠ 61) (hB : B ≤ b) (v0 v1 v2 v3 : Value) :
    RNod B ((((w.setCell ⟨b, 0, none⟩ v0).setCell ⟨b, 1, none⟩ v1).setCell ⟨b, 2, none⟩ v2).setCell ⟨b, 3, none⟩ v3) a cs := by
  have g1 := heap_setCell_same w b 0 _ T v0 hb
  have g2 := heap_setCell_same _ b 1 _ T v1 g1
  have g3 := heap_setCell_same _ b 2 _ T v2 g2
  exact er_nod.set (er_nod.set (er_nod.set (er_nod.set h hb h1 hB) g1 h1 hB) g2 h1 hB) g3 h1 hB

set_option maxRecDepth 100000 in
set_option maxHeartbeats 2000000 in
theorem lnode_any (B : Nat) (n : Nod) (cn : List Value) (w : World) (hB : B ≤ w.heap.size) (hn : NodAt B w n cn) :
    Calls Try.prog 13 #[.agg cn.toArray] w fun e w' => ∃ cs, e = .returned (.agg cs.toArray) ∧ RNod B w' n cs ∧ Below w.heap.size w w' := by
  obtain ⟨i0, hi0, hz0, hz1, hz2⟩ := info_parts infoRAttr
  obtain ⟨A, c, D, d, rfl, hs, hd, ok⟩ := hn
  have hal := ok.alen
  have HB0 := Lib.hid hB
  have HD := Lib.hid hd
  have HSR := Lib.hid hs
  have OK := Lib.hid ok
  have HA := Lib.hid (Bx.start w #[.string n.op, .slice A n.ins.length c, .string n.out, .slice D n.attrs.length d] 46)
  have HZ := Lib.hid ((Bx.two w (.cells #[.string n.op, .slice A n.ins.length c, .string n.out, .slice D n.attrs.length d] 46) #[.string ⟨#[]⟩, .slice none 0 0, .string ⟨#[]⟩, .slice none 0 0] 55).more (.cells #[.string n.op, .slice A n.ins.length c, .string n.out, .slice none 0 0] 55))
  have HX := Lib.hid ((Bx.two w (.cells #[.string n.op, .slice A n.ins.length c, .string n.out, .slice D n.attrs.length d] 46) #[.string ⟨#[]⟩, .slice none 0 0, .string ⟨#[]⟩, .slice none 0 0] 55).next #[.string n.op, .slice A n.ins.length c, .string n.out, .slice none 0 0] 55)
  rw [show ((w.alloc (.cells #[.string n.op, .slice A n.ins.length c, .string n.out, .slice D n.attrs.length d] 46)).alloc (.cells #[.string ⟨#[]⟩, .slice none 0 0, .string ⟨#[]⟩, .slice none 0 0] 55)).heap.size = w.heap.size + 1 + 1 by simp] at HX
  have HAA := Lib.hid ((HA.out.more (.cells #[.string ⟨#[]⟩, .slice none 0 0, .string ⟨#[]⟩, .slice none 0 0] 55)).more (.cells #[.string n.op, .slice A n.ins.length c, .string n.out, .slice none 0 0] 55))
  obtain ⟨a0, a1, a2, a3⟩ := HAA.out.four
  clear hs hd ok
  go_enter Try.func13, Try.ntmps13
  go_wp2_with fail
  clear a0 a1 a2 a3
  go_loopw [5, 16] (fun _ i wr => ∃ (k : Nat) (K : Int) (css : List (List Value)) (V : Value), i = .int .i64 K ∧ K = (k : Nat) ∧ k ≤ n.attrs.length ∧ Bx w (w.heap.size + 1) #[.string ⟨#[]⟩, .slice none 0 0, .string ⟨#[]⟩, .slice none 0 0] 55 wr ∧ Bx w (w.heap.size + 1 + 1) #[.string n.op, .slice A n.ins.length c, .string n.out, V] 55 wr ∧ Al (AttAt B wr) (n.attrs.take k) css ∧ wr.ownsRow w.heap.size 61 4 V k css.flatten) (fun _ i _ => n.attrs.length - (intOf i).toNat)
  case atStart => exact ⟨0, _, [], _, rfl, rfl, by omega, HZ.out, HX.out, by rw [List.take_zero]; exact trivial, World.ownsRow_nil _ _ _ _⟩
  case round =>
    obtain ⟨k, K, css, V, rfl, rfl, hk, hbz, hbx, hal2, hown⟩ := hrel
    obtain ⟨va, vc, rfl, -, -⟩ := own_form hown
    have HZ1 := Lib.hid hbz
    have HX1 := Lib.hid hbx
    have HAL := Lib.hid hal2
    have hz := hbx.all.size
    clear hbz hbx hal2 HZ HX HA HAA
    by_cases hlt : k < n.attrs.length
    · obtain ⟨b, o, cs, rfl, hbb, hp, hcx⟩ := (HD.out.below ek_att (HX1.out.all.mono HB0.out)).at_ ek_att hlt
      have HS := Lib.hid (fun (W : World) (cs : List Value) (hp : AttAt B W n.attrs[k] cs) (hal : Al (AttAt B W) (n.attrs.take k) css) => show Al (AttAt B W) (n.attrs.take (k + 1)) (css ++ [cs]) from by rw [List.take_succ_eq_append_getElem hlt]; exact hal.snoc hp)
      have HP := Lib.hid hp
      obtain ⟨A1, c1, rfl⟩ := AttAt.shape hp
      clear hp
      generalize n.attrs[k] = u at *
      have p0 := hcx 0 _ rfl
      have p1 := hcx 1 _ rfl
      have p2 := hcx 2 _ rfl
      have p3 := hcx 3 _ rfl
      simp only [Nat.add_zero] at p0
      clear hcx
      obtain ⟨x0, x1, x2, x3⟩ := (HX1.out.more (.cells #[.string u.name, .bool u.one, .int .i64 u.int, .slice A1 u.ints.length c1] 48)).four
      go_wp2_with (at_builtin; refine wpList_append_own _ rfl _ _ 53 rfl w.heap.size 61 i0 _ 4 56 Try.underlying53 hi0 hz0 hz1 hz2 rfl (by decide) _ _ _ rfl ((hown.alloc _).alloc _) ⟨wr.heap.size + 1, 0, none⟩ 1 1 [.string u.name, .bool u.one, .int .i64 u.int, .slice A1 u.ints.length c1] rfl rfl (cells_new2 _ _ _ _) ?c2 ?c3 ?c4 ?c5 ?_)
      case c2 => intro u hu; simp at hu; rcases hu with rfl | rfl | rfl | rfl <;> rfl
      case c3 => unfold maxLen; omega
      case c4 => omega
      case c5 => simp; omega
      intro v' w2 hown' hgrow _
      obtain ⟨va2, vc2, rfl, -, -⟩ := own_form hown'
      rw [← flatten_snoc] at hown'
      have hfar := own_far ((hown.alloc (.cells #[.string u.name, .bool u.one, .int .i64 u.int, .slice A1 u.ints.length c1] 48)).alloc (.cells #[.string u.name, .bool u.one, .int .i64 u.int, .slice A1 u.ints.length c1] 61)) ((HX1.out.more _).more _).1 (by decide)
      have hfar2 := own_far ((hown.alloc (.cells #[.string u.name, .bool u.one, .int .i64 u.int, .slice A1 u.ints.length c1] 48)).alloc (.cells #[.string u.name, .bool u.one, .int .i64 u.int, .slice A1 u.ints.length c1] 61)) ((HZ1.out.more _).more _).1 (by decide)
      have HX2 := Lib.hid (((HX1.out.more (.cells #[.string u.name, .bool u.one, .int .i64 u.int, .slice A1 u.ints.length c1] 48)).more (.cells #[.string u.name, .bool u.one, .int .i64 u.int, .slice A1 u.ints.length c1] 61)).grown hgrow hfar (fun q hq => (hown.lt q hq).1))
      have HZ2 := Lib.hid (((HZ1.out.more (.cells #[.string u.name, .bool u.one, .int .i64 u.int, .slice A1 u.ints.length c1] 48)).more (.cells #[.string u.name, .bool u.one, .int .i64 u.int, .slice A1 u.ints.length c1] 61)).grown hgrow hfar2 (fun q hq => (hown.lt q hq).1))
      have hb4 : Below w.heap.size wr w2 := ((((Below.refl w.heap.size wr).alloc hz _).alloc (by simp; omega) _).grown hgrow (by simp; omega) (fun q hq => (hown.lt q hq).1))
      have HO := Lib.hid (And.intro hown' (HS.out w2 _ (ek_att.below HP.out (hb4.mono HB0.out)) (HAL.out.mono fun _ _ hq => ek_att.below hq (hb4.mono HB0.out))))
      clear hgrow hown' hown hfar hfar2 hb4 p0 p1 p2 p3 x0 x1 x2 x3
      obtain ⟨y0, y1, y2, y3⟩ := HX2.out.four
      have f0 := fun i => HX2.out.free i
      obtain ⟨w3, hw3, hx3⟩ := name_world10 (P := fun W => Bx w (w.heap.size + 1) #[.string ⟨#[]⟩, .slice none 0 0, .string ⟨#[]⟩, .slice none 0 0] 55 W ∧ Bx w (w.heap.size + 1 + 1) #[.string n.op, .slice A n.ins.length c, .string n.out, .slice va2 (k + 1) vc2] 55 W ∧ Al (AttAt B W) (n.attrs.take (k + 1)) (css ++ [([.string u.name, .bool u.one, .int .i64 u.int, .slice A1 u.ints.length c1] : List Value)]) ∧ W.ownsRow w.heap.size 61 4 (.slice va2 (k + 1) vc2) (k + 1) (css ++ [([.string u.name, .bool u.one, .int .i64 u.int, .slice A1 u.ints.length c1] : List Value)]).flatten)
        ⟨HZ2.out.far_set (.slice va2 (k + 1) vc2) (by omega) (by omega), HX2.out.set (by omega) 3 (.slice va2 (k + 1) vc2), HO.out.2.mono fun _ _ hq => ek_att.below hq ((Below.refl B w2).setCell (p := ⟨w.heap.size + 1 + 1, 3, none⟩) (by have := HB0.out; show B ≤ w.heap.size + 1 + 1; omega) _), own_set HO.out.1 (own_far HO.out.1 HX2.out.1 (by decide)) 3 (.slice va2 (k + 1) vc2)⟩
      have HW := Lib.hid hx3
      clear hx3
      go_wp2_with fail
      go_roundw
      case rel => exact ⟨k + 1, _, _, _, rfl, by omega, by omega, HW.out.1, HW.out.2.1, HW.out.2.2.1, HW.out.2.2.2⟩
      case measure => simp [intOf]; omega
    · obtain rfl : k = n.attrs.length := by omega
      have hal := HAL.out
      rw [List.take_length] at hal
      have HO := Lib.hid (And.intro hown hal)
      clear hown hal HAL HD
      obtain ⟨x0, x1, x2, x3⟩ := HX1.out.four
      obtain ⟨z0, z1, z2, z3⟩ := HZ1.out.four
      have f0 := fun i => HZ1.out.free i
      obtain ⟨w3, hw3, hx3⟩ := name_world10 (P := fun W => Bx w (w.heap.size + 1) #[.string n.op, .slice A n.ins.length c, .string n.out, .slice va n.attrs.length vc] 55 W ∧ RNod B W n [.string n.op, .slice A n.ins.length c, .string n.out, .slice va n.attrs.length vc])
        ⟨HZ1.out.four_put (by omega) (.string n.op) (.slice A n.ins.length c) (.string n.out) (.slice va n.attrs.length vc), rnod_set4 ⟨A, c, _, rfl, HSR.out.below (HX1.out.all.mono HB0.out), ⟨css, HO.out.2, ek_att.all HO.out.2, own_base HO.out.1 HB0.out⟩, OK.out⟩ HZ1.out.1 (by decide) (by have := HB0.out; omega) (.string n.op) (.slice A n.ins.length c) (.string n.out) (.slice va n.attrs.length vc)⟩
      have HW := Lib.hid hx3
      clear hx3
      go_wp2_with fail
      obtain ⟨y0, y1, y2, y3⟩ := HW.out.1.four
      exact bodyPost_ret (v := .agg #[.string n.op, .slice A n.ins.length c, .string n.out, .slice va n.attrs.length vc]) (by simp [results, Try.results13, go_sem, y0, y1, y2, y3]) rfl ⟨[.string n.op, .slice A n.ins.length c, .string n.out, .slice va n.attrs.length vc], rfl, HW.out.2, HW.out.1.all⟩
end Go.Proofs.Ytpdpimchchfocaa
/- The walk of the law's Small: it answers, whatever it is. -/
namespace Go.Proofs.Ytpdpimchchfocaa
open Go.RowKit M7 M10 Go.Sort

structure Two2 (w : World) (bc lc : Array Value) (W : World) : Prop where
  a : Bx w w.heap.size bc 26 W
  b : Bx w (w.heap.size + 1) lc 22 W
theorem Two2.more {w W : World} {bc lc : Array Value} (h : Two2 w bc lc W) (o : Obj) : Two2 w bc lc (W.alloc o) := ⟨h.a.more o, h.b.more o⟩
theorem two_lists {w W : World} {m : Mod} {A1 A2 A3 A4 : Option Addr} {c1 c2 k : Nat} {bc : Array Value} (h : Two2 w bc #[.slice A1 m.inputs.length c1, .slice A2 m.outputs.length c2] W) (hm : ModAt w.heap.size w m A1 A2 A3 A4) (hk : k < 2) :
    ∃ (A : Option Addr) (c : Nat) (l : List Inf), W.cell? ⟨w.heap.size + 1, k, none⟩ = some (.slice A l.length c) ∧ DR InfAt w w.heap.size 3 A l ∧ l.length * 48 ≤ 140737488351232 := by
  obtain rfl | rfl : k = 0 ∨ k = 1 := by omega
  · exact ⟨A1, c1, m.inputs, h.b.cell 0, hm.inputs, hm.len1⟩
  · exact ⟨A2, c2, m.outputs, h.b.cell 1, hm.outputs, hm.len2⟩

set_option maxRecDepth 100000 in
set_option maxHeartbeats 8000000 in
theorem lsmall_any (m : Mod) (A1 A2 A3 A4 : Option Addr) (c1 c2 c3 c4 : Nat) (w : World) (hm : ModAt w.heap.size w m A1 A2 A3 A4) :
    Calls Try.prog 5 #[.agg (mv m.opset A1 m.inputs.length c1 A2 m.outputs.length c2 A3 m.inits.length c3 A4 m.nodes.length c4)] w fun e w' => ∃ b, e = .returned (.bool b) ∧ Below w.heap.size w w' := by
  have HM := Lib.hid hm
  obtain ⟨BC, HX0, HF⟩ : ∃ BC, Hid (Two2 w BC #[.slice A1 m.inputs.length c1, .slice A2 m.outputs.length c2] ((w.alloc (.cells #[.int .i64 m.opset, .slice A1 m.inputs.length c1, .slice A2 m.outputs.length c2, .slice A3 m.inits.length c3, .slice A4 m.nodes.length c4] 26)).alloc (.cells #[.slice A1 m.inputs.length c1, .slice A2 m.outputs.length c2] 22))) ∧ Hid (∀ W, Two2 w BC #[.slice A1 m.inputs.length c1, .slice A2 m.outputs.length c2] W → W.cell? ⟨w.heap.size, 0, none⟩ = some (.int .i64 m.opset) ∧ W.cell? ⟨w.heap.size, 1, none⟩ = some (.slice A1 m.inputs.length c1) ∧ W.cell? ⟨w.heap.size, 2, none⟩ = some (.slice A2 m.outputs.length c2) ∧ W.cell? ⟨w.heap.size, 3, none⟩ = some (.slice A3 m.inits.length c3) ∧ W.cell? ⟨w.heap.size, 4, none⟩ = some (.slice A4 m.nodes.length c4)) :=
    ⟨#[.int .i64 m.opset, .slice A1 m.inputs.length c1, .slice A2 m.outputs.length c2, .slice A3 m.inits.length c3, .slice A4 m.nodes.length c4], Lib.hid ⟨(Bx.start w #[.int .i64 m.opset, .slice A1 m.inputs.length c1, .slice A2 m.outputs.length c2, .slice A3 m.inits.length c3, .slice A4 m.nodes.length c4] 26).more (.cells #[.slice A1 m.inputs.length c1, .slice A2 m.outputs.length c2] 22), Bx.two w (.cells #[.int .i64 m.opset, .slice A1 m.inputs.length c1, .slice A2 m.outputs.length c2, .slice A3 m.inits.length c3, .slice A4 m.nodes.length c4] 26) #[.slice A1 m.inputs.length c1, .slice A2 m.outputs.length c2] 22⟩, Lib.hid fun _ h => h.a.five⟩
  obtain ⟨a0, a1, a2, a3, a4⟩ := (Bx.start w #[.int .i64 m.opset, .slice A1 m.inputs.length c1, .slice A2 m.outputs.length c2, .slice A3 m.inits.length c3, .slice A4 m.nodes.length c4] 26).five
  have hl3 := hm.len3
  have hl4 := hm.len4
  clear hm
  unfold mv
  go_enter Try.func5, Try.ntmps5
  go_wp2_with fail
  clear a0 a1 a2 a3 a4
  go_loopw [3, 5, 22] (fun s _ i wr => ∃ (k : Nat) (K N : Int), i = .int .i64 K ∧ s = .int .i64 N ∧ K = (k : Nat) ∧ k ≤ 2 ∧ Two2 w BC #[.slice A1 m.inputs.length c1, .slice A2 m.outputs.length c2] wr) (fun _ _ i _ => 2 - (intOf i).toNat)
  case atStart => exact ⟨0, _, _, rfl, rfl, rfl, by omega, HX0.out⟩
  case round =>
    obtain ⟨k0, K0, N0, rfl, rfl, rfl, hk0, hx⟩ := hrel
    have HX1 := Lib.hid hx
    clear hx
    by_cases hlt0 : k0 < 2
    · obtain ⟨A, c, l, hcell, hdr, hlen⟩ := two_lists HX1.out HM.out hlt0
      have HD := Lib.hid hdr
      clear hdr
      go_wp2_with fail
      go_loopw [3, 7, 28] (fun s _ i wr => ∃ (k : Nat) (K N : Int), i = .int .i64 K ∧ s = .int .i64 N ∧ K = (k : Nat) ∧ k ≤ l.length ∧ Two2 w BC #[.slice A1 m.inputs.length c1, .slice A2 m.outputs.length c2] wr) (fun _ _ i _ => l.length - (intOf i).toNat)
      case atStart => exact ⟨0, _, _, rfl, rfl, rfl, by omega, HX1.out⟩
      case round =>
        obtain ⟨k, K, N, rfl, rfl, rfl, hk, hx⟩ := hrel
        have HXa := Lib.hid hx
        clear hx
        by_cases hlt : k < l.length
        · obtain ⟨b, o, cs, rfl, hbb, hp, hcx⟩ := (HD.out.below ek_inf HXa.out.a.all).at_ ek_inf hlt
          obtain ⟨U1, e1, rfl⟩ := InfAt.shape hp
          clear hp
          generalize l[k] = u at *
          have p0 := hcx 0 _ rfl
          have p1 := hcx 1 _ rfl
          have p2 := hcx 2 _ rfl
          simp only [Nat.add_zero] at p0
          clear hcx
          have HY := Lib.hid (HXa.out.more (.cells #[.string u.name, .int .i64 u.kind, .slice U1 u.dims.length e1] 40))
          go_wp2_with fail
          go_roundw
          case rel => exact ⟨k + 1, _, _, rfl, rfl, by omega, by omega, HY.out⟩
          case measure => simp [intOf]; omega
        · obtain rfl : k = l.length := by omega
          go_wp2_with fail
          go_roundw
          case rel => exact ⟨k0 + 1, _, _, rfl, rfl, by omega, by omega, HXa.out⟩
          case measure => simp [intOf]; omega
    · obtain rfl : k0 = 2 := by omega
      obtain ⟨a0, a1, a2, a3, a4⟩ := HF.out _ HX1.out
      go_wp2_with fail
      clear a0 a1 a2 a3 a4 hk0 hlt0
      go_loopw [3, 9, 47] (fun s _ i wr => ∃ (k : Nat) (K N : Int), i = .int .i64 K ∧ s = .int .i64 N ∧ K = (k : Nat) ∧ k ≤ m.inits.length ∧ Two2 w BC #[.slice A1 m.inputs.length c1, .slice A2 m.outputs.length c2] wr) (fun _ _ i _ => m.inits.length - (intOf i).toNat)
      case atStart => exact ⟨0, _, _, rfl, rfl, rfl, by omega, HX1.out⟩
      case round =>
        obtain ⟨k, K, N, rfl, rfl, rfl, hk, hx⟩ := hrel
        have HX3 := Lib.hid hx
        clear hx
        by_cases hlt : k < m.inits.length
        · obtain ⟨b, o, cs, rfl, hbb, hp, hcx⟩ := (HM.out.inits.below ek_ten HX3.out.a.all).at_ ek_ten hlt
          obtain ⟨U1, e1, rfl⟩ := TenAt.shape hp
          clear hp
          generalize m.inits[k] = u at *
          have p0 := hcx 0 _ rfl
          have p1 := hcx 1 _ rfl
          have p2 := hcx 2 _ rfl
          have p3 := hcx 3 _ rfl
          simp only [Nat.add_zero] at p0
          clear hcx
          have HY := Lib.hid (HX3.out.more (.cells #[.string u.name, .int .i64 u.kind, .slice U1 u.dims.length e1, .string u.data] 42))
          go_wp2_with fail
          go_roundw
          case rel => exact ⟨k + 1, _, _, rfl, rfl, by omega, by omega, HY.out⟩
          case measure => simp [intOf]; omega
        · obtain rfl : k = m.inits.length := by omega
          obtain ⟨a0, a1, a2, a3, a4⟩ := HF.out _ HX3.out
          go_wp2_with fail
          clear a0 a1 a2 a3 a4 hk hlt
          go_loopw [3, 11, 69] (fun s _ i wr => ∃ (k : Nat) (K N : Int), i = .int .i64 K ∧ s = .int .i64 N ∧ K = (k : Nat) ∧ k ≤ m.nodes.length ∧ Two2 w BC #[.slice A1 m.inputs.length c1, .slice A2 m.outputs.length c2] wr) (fun _ _ i _ => m.nodes.length - (intOf i).toNat)
          case atStart => exact ⟨0, _, _, rfl, rfl, rfl, by omega, HX3.out⟩
          case round =>
            obtain ⟨k9, K9, N9, rfl, rfl, rfl, hk9, hx⟩ := hrel
            have HX4 := Lib.hid hx
            clear hx
            by_cases hlt9 : k9 < m.nodes.length
            · obtain ⟨w9, hw9⟩ : ∃ w9, w9 = wr := ⟨_, rfl⟩
              obtain ⟨b, o, cs, rfl, hbb, hp, hcy⟩ := HM.out.nodes.at_ ek_nod hlt9
              have hcx := fun j u (hj : cs[j]? = some u) => (HX4.out.a.all.cell (p := ⟨b, o + k9 * 4 + j, none⟩) hbb).trans (hcy j u hj)
              clear hcy
              obtain ⟨V1, f1, D1, g1, rfl, htx, hda, hnok⟩ := hp
              have HTX := Lib.hid htx
              have HDA := Lib.hid hda
              have hz1 := hnok.len
              have hz2 := hnok.alen
              clear htx hda hnok
              generalize m.nodes[k9] = v at *
              have p0 := hcx 0 _ rfl
              have p1 := hcx 1 _ rfl
              have p2 := hcx 2 _ rfl
              have p3 := hcx 3 _ rfl
              simp only [Nat.add_zero] at p0
              clear hcx
              subst hw9
              have HY4 := Lib.hid (HX4.out.more (.cells #[.string v.op, .slice V1 v.ins.length f1, .string v.out, .slice D1 v.attrs.length g1] 46))
              have HN9 := Lib.hid (HX4.out.a.next #[.string v.op, .slice V1 v.ins.length f1, .string v.out, .slice D1 v.attrs.length g1] 46)
              go_wp2_with fail
              clear p0 p1 p2 p3
              go_loopw [3, 13, 86] (fun s _ i wr => ∃ (k : Nat) (K N : Int), i = .int .i64 K ∧ s = .int .i64 N ∧ K = (k : Nat) ∧ k ≤ v.ins.length ∧ Two2 w BC #[.slice A1 m.inputs.length c1, .slice A2 m.outputs.length c2] wr ∧ Bx w w9.heap.size #[.string v.op, .slice V1 v.ins.length f1, .string v.out, .slice D1 v.attrs.length g1] 46 wr) (fun _ _ i _ => v.ins.length - (intOf i).toNat)
              case atStart => exact ⟨0, _, _, rfl, rfl, rfl, by omega, HY4.out, HN9.out⟩
              case round =>
                obtain ⟨k, K, N, rfl, rfl, rfl, hk, hx, hn⟩ := hrel
                have HX5 := Lib.hid hx
                have HN9 := Lib.hid hn
                clear hx hn
                by_cases hlt : k < v.ins.length
                · obtain ⟨b, o, rfl, hbb, p0⟩ := m_txt_at (HTX.out.below HX5.out.a.all) hlt
                  generalize v.ins[k] = u at *
                  go_wp2_with fail
                  go_roundw
                  case rel => exact ⟨k + 1, _, _, rfl, rfl, by omega, by omega, HX5.out, HN9.out⟩
                  case measure => simp [intOf]; omega
                · obtain rfl : k = v.ins.length := by omega
                  obtain ⟨b0, b1, b2, b3⟩ := HN9.out.four
                  go_wp2_with fail
                  clear b0 b1 b2 b3 hk hlt
                  go_loopw [3, 15, 99] (fun s _ i wr => ∃ (k : Nat) (K N : Int), i = .int .i64 K ∧ s = .int .i64 N ∧ K = (k : Nat) ∧ k ≤ v.attrs.length ∧ Two2 w BC #[.slice A1 m.inputs.length c1, .slice A2 m.outputs.length c2] wr) (fun _ _ i _ => v.attrs.length - (intOf i).toNat)
                  case atStart => exact ⟨0, _, _, rfl, rfl, rfl, by omega, HX5.out⟩
                  case round =>
                    obtain ⟨k, K, N, rfl, rfl, rfl, hk, hx⟩ := hrel
                    have HX6 := Lib.hid hx
                    clear hx
                    by_cases hlt : k < v.attrs.length
                    · obtain ⟨b, o, cs, rfl, hbb, hp, hcx⟩ := (HDA.out.below ek_att HX6.out.a.all).at_ ek_att hlt
                      obtain ⟨U1, e1, rfl⟩ := AttAt.shape hp
                      clear hp
                      generalize v.attrs[k] = u at *
                      have p0 := hcx 0 _ rfl
                      have p1 := hcx 1 _ rfl
                      have p2 := hcx 2 _ rfl
                      have p3 := hcx 3 _ rfl
                      simp only [Nat.add_zero] at p0
                      clear hcx
                      have HY := Lib.hid (HX6.out.more (.cells #[.string u.name, .bool u.one, .int .i64 u.int, .slice U1 u.ints.length e1] 48))
                      go_wp2_with fail
                      go_roundw
                      case rel => exact ⟨k + 1, _, _, rfl, rfl, by omega, by omega, HY.out⟩
                      case measure => simp [intOf]; omega
                    · obtain rfl : k = v.attrs.length := by omega
                      go_wp2_with fail
                      go_roundw
                      case rel => exact ⟨k9 + 1, _, _, rfl, rfl, by omega, by omega, HX6.out⟩
                      case measure => simp [intOf]; omega
            · obtain rfl : k9 = m.nodes.length := by omega
              have HB := Lib.hid HX4.out.a.all
              go_wp2_with fail
              go_ret
              exact ⟨_, rfl, HB.out⟩
end Go.Proofs.Ytpdpimchchfocaa
