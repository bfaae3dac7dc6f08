/- The walks of what makes a clone: an element in memory of its own; a list of such elements. -/
import Derived.Test.YtiniicehfjgpgaaGreatMOwn
import Derived.Test.YtiniicehfjgpgaaGreatTFx
import Derived.Deep.RegionHeld
import Derived.Lib.QuietBelow
import Derived.BigQuiet
import Derived.Test.YtiniicehfjgpgaaGreatTCheck
import Derived.Test.YtiniicehfjgpgaaGreatAppend
import Derived.Outline
import Derived.WalkSpells
import Derived.WalkMore
namespace Go.Proofs.YtiniicehfjgpgaaGreat
open Go.RowKit M7 M10

theorem name_world10 {P : World → Prop} {W : World} (h : P W) : ∃ W', W = W' ∧ P W' := ⟨W, rfl, h⟩
theorem Bx.three_put {w W : World} {g : Nat} {a0 a1 a2 : Value} {T : TypeId} (h : Bx w g #[a0, a1, a2] T W) (hg : w.heap.size ≤ g) (v0 v1 v2 : Value) :
    Bx w g #[v0, v1, v2] T (((W.setCell ⟨g, 0, none⟩ v0).setCell ⟨g, 1, none⟩ v1).setCell ⟨g, 2, none⟩ v2) :=
  ((h.set hg 0 v0).set hg 1 v1).set hg 2 v2
theorem Bx.far_set3 {w W : World} {g : Nat} {cs : Array Value} {T : TypeId} (h : Bx w g cs T W) {b : Nat} (v0 v1 v2 : Value) (hne : g ≠ b) (hb : w.heap.size ≤ b) : Bx w g cs T (((W.setCell ⟨b, 0, none⟩ v0).setCell ⟨b, 1, none⟩ v1).setCell ⟨b, 2, none⟩ v2) :=
  ((h.far_set v0 hne hb).far_set v1 hne hb).far_set v2 hne hb
theorem own_set3 {w : World} {B size n b : Nat} {e T : TypeId} {v : Value} {xs : List Value} {c0 c1 c2 : Value} (h : w.ownsRow B e size v n xs) (hb : w.heap[b]? = some (.cells #[c0, c1, c2] T (0, 0))) (hT : T ≠ e) (v0 v1 v2 : Value) :
    (((w.setCell ⟨b, 0, none⟩ v0).setCell ⟨b, 1, none⟩ v1).setCell ⟨b, 2, none⟩ v2).ownsRow B e size v n xs :=
  own_set (own_set (own_set h (own_far h hb hT) 0 v0) (own_far h hb hT) 1 v1) (own_far h hb hT) 2 v2
theorem own_set4 {w : World} {B size n b : Nat} {e T : TypeId} {v : Value} {xs : List Value} {c0 c1 c2 c3 : Value} (h : w.ownsRow B e size v n xs) (hb : w.heap[b]? = some (.cells #[c0, c1, c2, c3] T (0, 0))) (hT : T ≠ e) (v0 v1 v2 v3 : Value) :
    ((((w.setCell ⟨b, 0, none⟩ v0).setCell ⟨b, 1, none⟩ v1).setCell ⟨b, 2, none⟩ v2).setCell ⟨b, 3, none⟩ v3).ownsRow B e size v n xs :=
  own_set (own_set (own_set (own_set h (own_far h hb hT) 0 v0) (own_far h hb hT) 1 v1) (own_far h hb hT) 2 v2) (own_far h hb hT) 3 v3


set_option maxRecDepth 100000 in
theorem m_number_any (s : ByteArray) (n : Int) (w : World) :
    Calls Tryz.prog 52 #[.string s, .int .i64 n] w fun e w' => e = .returned (.agg #[.string s, .bool true, .int .i64 n, .slice none 0 0]) ∧ Below w.heap.size w w' := by
  have HB := Lib.hid (Bx.start w #[.string s, .bool true, .int .i64 n, .slice none 0 0] 94)
  go_enter Tryz.func52, Tryz.ntmps52
  go_wp2_with fail
  obtain ⟨y0, y1, y2, y3⟩ := HB.out.four
  exact bodyPost_ret (v := .agg #[.string s, .bool true, .int .i64 n, .slice none 0 0]) (by simp [results, Tryz.results52, go_sem, y0, y1, y2, y3]) rfl ⟨rfl, HB.out.all⟩

set_option maxRecDepth 100000 in
theorem row_any (s : ByteArray) (A : Option Addr) (c : Nat) (l : List Int) (w : World) (hl : l.length * 8 ≤ 140737488351232) (hs : SR w w.heap.size 1 A l.length (iv l)) :
    Calls Tryz.prog 83 #[.string s, .slice A l.length c] w fun e w' => ∃ v, e = .returned (.agg #[.string s, .bool false, .int .i64 0, v]) ∧ w'.ownsRow w.heap.size 2 1 v l.length (iv l) ∧ Below w.heap.size w w' := by
  have HB := Lib.hid (Bx.start w #[.string ⟨#[]⟩, .bool false, .int .i64 0, .slice none 0 0] 94)
  have HN := Lib.hid (new_ints A l.length c (iv l) (w.alloc (.cells #[.string ⟨#[]⟩, .bool false, .int .i64 0, .slice none 0 0] 94)) hl ((hs.below HB.out.all).more HB.out.all.size) iv_oneCell)
  clear hs
  go_enter Tryz.func83, Tryz.ntmps83
  go_wp2_with fail
  refine HN.out.mono ?_
  rintro e w1 ⟨v, rfl, hown, hb⟩
  obtain ⟨A2, c2, rfl, -, -⟩ := own_form hown
  have H1 := Lib.hid (HB.out.below hb)
  have HOW := Lib.hid (own_base hown HB.out.all.size)
  clear hown hb HB HN
  obtain ⟨x0, x1, x2, x3⟩ := H1.out.four
  have f0 := fun i => H1.out.free i
  obtain ⟨wE, hE, hxE⟩ := name_world10 (P := fun W => Bx w w.heap.size #[.string s, .bool false, .int .i64 0, .slice A2 l.length c2] 94 W ∧ W.ownsRow w.heap.size 2 1 (.slice A2 l.length c2) l.length (iv l))
    ⟨H1.out.four_put (Nat.le_refl _) (.string s) (.bool false) (.int .i64 0) (.slice A2 l.length c2), own_set4 HOW.out H1.out.1 (by decide) (.string s) (.bool false) (.int .i64 0) (.slice A2 l.length c2)⟩
  have HE := Lib.hid hxE
  clear hxE HOW
  go_wp2_with fail
  obtain ⟨y0, y1, y2, y3⟩ := HE.out.1.four
  exact bodyPost_ret (v := .agg #[.string s, .bool false, .int .i64 0, .slice A2 l.length c2]) (by simp [results, Tryz.results83, go_sem, y0, y1, y2, y3]) rfl ⟨_, rfl, HE.out.2, HE.out.1.all⟩

theorem AOk.yes {a : Att} (h : AOk a) (h1 : a.one = true) : AOk (nA a) ∧ nA a = ⟨a.name, true, a.int, []⟩ := by
  have e : nA a = ⟨a.name, true, a.int, []⟩ := by unfold nA; rw [h1]; rfl
  rw [e]
  exact ⟨⟨h.name, by simp, h.int, by simp⟩, rfl⟩
theorem AOk.no {a : Att} (h : AOk a) (h1 : a.one = false) : AOk (nA a) ∧ nA a = ⟨a.name, false, 0, a.ints⟩ := by
  have e : nA a = ⟨a.name, false, 0, a.ints⟩ := by unfold nA; rw [h1]; rfl
  rw [e]
  exact ⟨⟨h.name, h.len, by unfold I64; dsimp only; omega, h.ints⟩, rfl⟩

theorem tx_one {l : List ByteArray} : ∀ v ∈ m_tx l, v.oneCell' = true := by
  intro v hv
  simp only [m_tx, List.mem_map] at hv
  obtain ⟨b, _, rfl⟩ := hv
  rfl
theorem flat_one {css : List (List Value)} (h : ∀ c ∈ css, ∀ v ∈ c, v.oneCell' = true) : ∀ v ∈ css.flatten, v.oneCell' = true := by
  intro v hv
  obtain ⟨c, hc, hvc⟩ := List.mem_flatten.1 hv
  exact h c hc v hvc
theorem cells_one_Inf {B : Nat} {w : World} {l : List Inf} {css : List (List Value)} (h : Al (InfAt B w) l css) : ∀ v ∈ css.flatten, v.oneCell' = true := flat_one fun c hc v hv => by
  obtain ⟨a, _, hp⟩ := h.mem c hc
  obtain ⟨A, d, rfl⟩ := hp.shape
  simp only [List.mem_cons, List.not_mem_nil, or_false] at hv
  rcases hv with rfl | rfl | rfl <;> rfl
theorem cells_one_Ten {B : Nat} {w : World} {l : List Ten} {css : List (List Value)} (h : Al (TenAt B w) l css) : ∀ v ∈ css.flatten, v.oneCell' = true := flat_one fun c hc v hv => by
  obtain ⟨a, _, hp⟩ := h.mem c hc
  obtain ⟨A, d, rfl⟩ := hp.shape
  simp only [List.mem_cons, List.not_mem_nil, or_false] at hv
  rcases hv with rfl | rfl | rfl | rfl <;> rfl
theorem cells_one_Att {B : Nat} {w : World} {l : List Att} {css : List (List Value)} (h : Al (AttAt B w) l css) : ∀ v ∈ css.flatten, v.oneCell' = true := flat_one fun c hc v hv => by
  obtain ⟨a, _, hp⟩ := h.mem c hc
  obtain ⟨A, d, rfl⟩ := hp.shape
  simp only [List.mem_cons, List.not_mem_nil, or_false] at hv
  rcases hv with rfl | rfl | rfl | rfl <;> rfl
theorem cells_one_Nod {B : Nat} {w : World} {l : List Nod} {css : List (List Value)} (h : Al (NodAt B w) l css) : ∀ v ∈ css.flatten, v.oneCell' = true := flat_one fun c hc v hv => by
  obtain ⟨a, _, hp⟩ := h.mem c hc
  obtain ⟨A, d, A', d', rfl⟩ := hp.shape
  simp only [List.mem_cons, List.not_mem_nil, or_false] at hv
  rcases hv with rfl | rfl | rfl | rfl <;> rfl


theorem eoG_each_infos_any : Eo OInf (fun T => T ≠ 2) 3 := ⟨fun h => eo_inf.len h, fun h hb => eo_inf.keep h hb, fun h hb => eo_inf.base h hb, fun h hg hf => eo_inf.set h hg hf⟩
theorem eoG_each_tens_any : Eo OTen (fun T => T ≠ 2) 4 := ⟨fun h => eo_ten.len h, fun h hb => eo_ten.keep h hb, fun h hb => eo_ten.base h hb, fun h hg hf => eo_ten.set h hg hf⟩
theorem eoG_each_attrs_any : Eo (fun B w a cs => OAtt B w (nA a) cs) (fun T => T ≠ 2) 4 := ⟨fun h => eo_att.len h, fun h hb => eo_att.keep h hb, fun h hb => eo_att.base h hb, fun h hg hf => eo_att.set h hg hf⟩
theorem NOk.nn {n : Nod} (h : NOk n) : NOk (nN n) := ⟨h.op, h.out, h.ins, h.len, by have := h.alen; unfold nN; simpa using this⟩
theorem DW.set4 {w : World} {B b : Nat} {T : TypeId} {v : Value} {l : List Att} {c0 c1 c2 c3 : Value} (h : DW OAtt w B 94 4 v l) (hb : w.heap[b]? = some (.cells #[c0, c1, c2, c3] T (0, 0))) (h1 : T ≠ 2) (h2 : T ≠ 94) (v0 v1 v2 v3 : Value) :
    DW OAtt ((((w.setCell ⟨b, 0, none⟩ v0).setCell ⟨b, 1, none⟩ v1).setCell ⟨b, 2, none⟩ v2).setCell ⟨b, 3, none⟩ v3) B 94 4 v l := by
  have g1 := heap_setCell_same w b 0 _ T v0 hb
  have g2 := heap_setCell_same _ b 1 _ T v1 g1
  have g3 := heap_setCell_same _ b 2 _ T v2 g2
  exact (((h.set eo_att hb h1 h2).set eo_att g1 h1 h2).set eo_att g2 h1 h2).set eo_att g3 h1 h2
theorem eoG_each_nodes_any : Eo (fun B w a cs => ONod B w (nN a) cs) (fun T => T ≠ 2 ∧ T ≠ 9 ∧ T ≠ 94) 4 := ⟨fun h => eo_nod.len h, fun h hb => eo_nod.keep h hb, fun h hb => eo_nod.base h hb, fun h hg hf => eo_nod.set h hg hf⟩
end Go.Proofs.YtiniicehfjgpgaaGreat
/- The walks of what finds an attribute of a name: Attr, Row, One. -/
namespace Go.Proofs.YtiniicehfjgpgaaGreat
open Go.RowKit M7 M10

/-- the place of the first attribute of a name -/
def atI (l : List Att) (s : ByteArray) : Nat := l.findIdx fun a => decide (a.name = s)
def zA : Att := ⟨⟨#[]⟩, false, 0, []⟩
/-- the first attribute of a name, or the zero one -/
def atA (l : List Att) (s : ByteArray) : Att := (l[atI l s]?).getD zA
/-- is there one -/
def atB (l : List Att) (s : ByteArray) : Bool := decide (atI l s < l.length)
section
variable {l : List Att} {s : ByteArray} {k : Nat}
theorem at_yes (h : k < l.length) (h1 : l[k].name = s) (h2 : ∀ j, j < k → ∀ hj : j < l.length, l[j].name ≠ s) : atI l s = k ∧ atA l s = l[k] ∧ atB l s = true := by
  have e : atI l s = k := (List.findIdx_eq h).2 ⟨by simpa using h1, fun j hj => by simpa using h2 j hj (by omega)⟩
  refine ⟨e, ?_, ?_⟩
  · unfold atA; rw [e, List.getElem?_eq_getElem h]; rfl
  · unfold atB; rw [e]; simpa using h
theorem at_no (h2 : ∀ j, j < l.length → ∀ hj : j < l.length, l[j].name ≠ s) : atI l s = l.length ∧ atA l s = zA ∧ atB l s = false := by
  have e : atI l s = l.length := List.findIdx_eq_length.2 fun x hx => by
    obtain ⟨j, hj, rfl⟩ := List.mem_iff_getElem.1 hx
    simpa using h2 j hj hj
  refine ⟨e, ?_, ?_⟩
  · unfold atA; rw [e, List.getElem?_eq_none (Nat.le_refl _)]; rfl
  · unfold atB; rw [e]; simp
end
theorem zA_at (B : Nat) (w : World) : AttAt B w zA [.string ⟨#[]⟩, .bool false, .int .i64 0, .slice none 0 0] :=
  ⟨none, 0, rfl, SR.empty _ _ _ _, ⟨by show (0 : Nat) ≤ 140737488351232; omega, by simp [zA], by unfold I64 zA; dsimp only; omega, by simp [zA]⟩⟩
theorem nA_zA : nA zA = zA := rfl
theorem Bx.drew11 {w W : World} {g : Nat} {cs : Array Value} {T : TypeId} (h : Bx w g cs T W) (n : Nat) : Bx w g cs T (W.drewN n) := ⟨h.1, h.2.1, below_drewN h.2.2 n⟩

set_option maxRecDepth 100000 in
set_option maxHeartbeats 1000000 in
theorem attr_any (n : Nod) (cn : List Value) (s : ByteArray) (w : World) (hn : NodAt w.heap.size w n cn) :
    Calls Tryz.prog 80 #[.agg cn.toArray, .string s] w fun e w' => ∃ ca, e = .returned (.tuple #[.agg ca.toArray, .bool (atB n.attrs s)]) ∧ AttAt w.heap.size w' (atA n.attrs s) ca ∧ Below w.heap.size w w' := by
  obtain ⟨A, c, D, d, rfl, -, hd, ok⟩ := hn
  have hal := ok.alen
  have HB := Lib.hid ((Bx.start w #[.string n.op, .slice A n.ins.length c, .string n.out, .slice D n.attrs.length d] 26).more (.cells #[.string ⟨#[]⟩, .bool false, .int .i64 0, .slice none 0 0] 94))
  have HZ := Lib.hid (Bx.two w (.cells #[.string n.op, .slice A n.ins.length c, .string n.out, .slice D n.attrs.length d] 26) #[.string ⟨#[]⟩, .bool false, .int .i64 0, .slice none 0 0] 94)
  obtain ⟨x0, x1, x2, x3⟩ := HB.out.four
  have HD := Lib.hid hd
  clear hd ok
  go_enter Tryz.func80, Tryz.ntmps80
  go_wp2_with fail
  clear x0 x1 x2 x3
  go_loopw [7, 11] (fun _ i wr => ∃ (k : Nat) (K : Int), i = .int .i64 K ∧ K = (k : Nat) ∧ k ≤ n.attrs.length ∧ Bx w (w.heap.size + 1) #[.string ⟨#[]⟩, .bool false, .int .i64 0, .slice none 0 0] 94 wr ∧ ∀ j, j < k → ∀ hj : j < n.attrs.length, n.attrs[j].name ≠ s) (fun _ i _ => n.attrs.length - (intOf i).toNat)
  case atStart => exact ⟨0, _, rfl, rfl, by omega, HZ.out, fun j hj => absurd hj (by omega)⟩
  case round =>
    obtain ⟨k, K, rfl, rfl, hk, hbx, hno⟩ := hrel
    have H1 := Lib.hid hbx
    have HNO := Lib.hid hno
    clear hbx hno
    have hbz := H1.out.all.size
    by_cases hlt : k < n.attrs.length
    · obtain ⟨b, o, cs, rfl, hb, hp, hcx⟩ := (HD.out.below ek_att H1.out.all).at_ ek_att hlt
      have HP := Lib.hid hp
      have HY := Lib.hid (fun h => at_yes hlt h HNO.out)
      have HN := Lib.hid (fun (h : n.attrs[k].name ≠ s) => show ∀ j, j < k + 1 → ∀ hj : j < n.attrs.length, n.attrs[j].name ≠ s from fun j hj hj2 => by
        by_cases e : j = k
        · subst e; exact h
        · exact HNO.out j (by omega) hj2)
      obtain ⟨A1, c1, rfl⟩ := AttAt.shape hp
      clear hp HNO
      generalize n.attrs[k] = u at *
      have p0 := hcx 0 _ rfl
      have p1 := hcx 1 _ rfl
      have p2 := hcx 2 _ rfl
      have p3 := hcx 3 _ rfl
      simp only [Nat.add_zero] at p0
      clear hcx
      have H2 := Lib.hid (H1.out.more (.cells #[.string u.name, .bool u.one, .int .i64 u.int, .slice A1 u.ints.length c1] 94))
      by_cases hs : u.name = s
      · have e1 := teq_yes hs
        have HE := Lib.hid (HY.out hs)
        clear hs HY HN HD HB HZ
        obtain ⟨y0, y1, y2, y3⟩ := H2.out.four
        have f0 := fun i => H2.out.free i
        obtain ⟨wE, hE, hxE⟩ := name_world10 (P := fun W => Bx w (w.heap.size + 1) #[.string u.name, .bool u.one, .int .i64 u.int, .slice A1 u.ints.length c1] 94 W ∧ AttAt w.heap.size W u [.string u.name, .bool u.one, .int .i64 u.int, .slice A1 u.ints.length c1])
          ⟨H2.out.four_put (by omega) (.string u.name) (.bool u.one) (.int .i64 u.int) (.slice A1 u.ints.length c1), ek_att.below HP.out (((((((Below.refl w.heap.size wr).alloc hbz _).setCell (p := ⟨w.heap.size + 1, 0, none⟩) (by simp) _).setCell (p := ⟨w.heap.size + 1, 1, none⟩) (by simp) _).setCell (p := ⟨w.heap.size + 1, 2, none⟩) (by simp) _).setCell (p := ⟨w.heap.size + 1, 3, none⟩) (by simp) _))⟩
        have HF := Lib.hid hxE
        clear hxE
        go_wp2_with fail
        obtain ⟨z0, z1, z2, z3⟩ := HF.out.1.four
        rw [HE.out.2.1, HE.out.2.2]
        exact bodyPost_ret (v := .tuple #[.agg #[.string u.name, .bool u.one, .int .i64 u.int, .slice A1 u.ints.length c1], .bool true]) (by simp [results, Tryz.results80, go_sem, z0, z1, z2, z3]) rfl ⟨[.string u.name, .bool u.one, .int .i64 u.int, .slice A1 u.ints.length c1], rfl, HF.out.2, HF.out.1.all⟩
      · have e1 := teq_no hs
        have HE := Lib.hid (HN.out hs)
        clear hs HY HN
        go_wp2_with fail
        go_roundw
        case rel => exact ⟨k + 1, _, rfl, by omega, by omega, H2.out, HE.out⟩
        case measure => simp [intOf]; omega
    · obtain rfl : k = n.attrs.length := by omega
      have HE := Lib.hid (at_no HNO.out)
      clear HNO HD HB HZ
      obtain ⟨y0, y1, y2, y3⟩ := H1.out.four
      have f0 := fun i => H1.out.free i
      obtain ⟨wE, hE, hxE⟩ := name_world10 (P := fun W => Bx w (w.heap.size + 1) #[.string ⟨#[]⟩, .bool false, .int .i64 0, .slice none 0 0] 94 W)
          (H1.out.four_put (by omega) (.string ⟨#[]⟩) (.bool false) (.int .i64 0) (.slice none 0 0))
      have HF := Lib.hid hxE
      clear hxE
      go_wp2_with fail
      obtain ⟨z0, z1, z2, z3⟩ := HF.out.four
      rw [HE.out.2.1, HE.out.2.2]
      exact bodyPost_ret (v := .tuple #[.agg #[.string ⟨#[]⟩, .bool false, .int .i64 0, .slice none 0 0], .bool false]) (by simp [results, Tryz.results80, go_sem, z0, z1, z2, z3]) rfl ⟨[.string ⟨#[]⟩, .bool false, .int .i64 0, .slice none 0 0], rfl, zA_at _ _, HF.out.all⟩
theorem oatt_set4 {w : World} {B b : Nat} {T : TypeId} {a : Att} {cs : List Value} {c0 c1 c2 c3 : Value} (h : OAtt B w a cs) (hb : w.heap[b]? = some (.cells #[c0, c1, c2, c3] T (0, 0))) (h1 : T ≠ 2) (v0 v1 v2 v3 : Value) :
    OAtt B ((((w.setCell ⟨b, 0, none⟩ v0).setCell ⟨b, 1, none⟩ v1).setCell ⟨b, 2, none⟩ v2).setCell ⟨b, 3, none⟩ v3) a cs := by
  have g1 := heap_setCell_same w b 0 _ T v0 hb
  have g2 := heap_setCell_same _ b 1 _ T v1 g1
  have g3 := heap_setCell_same _ b 2 _ T v2 g2
  exact eo_att.set (eo_att.set (eo_att.set (eo_att.set h hb h1) g1 h1) g2 h1) g3 h1
/-- the row of a name -/
def rowB (l : List Att) (s : ByteArray) : Bool := atB l s && !(atA l s).one
def rowL (l : List Att) (s : ByteArray) : List Int := if rowB l s then (atA l s).ints else []
theorem AttAt.ok {B : Nat} {w : World} {a : Att} {A : Option Addr} {c : Nat} (h : AttAt B w a [.string a.name, .bool a.one, .int .i64 a.int, .slice A a.ints.length c]) : SR w B 1 A a.ints.length (iv a.ints) ∧ AOk a := by
  obtain ⟨A2, c2, hsh, hsr, hok⟩ := h
  simp only [List.cons.injEq, and_true, Value.slice.injEq, true_and] at hsh
  obtain ⟨rfl, rfl⟩ := hsh
  exact ⟨hsr, hok⟩
set_option maxRecDepth 100000 in
set_option maxHeartbeats 1000000 in
theorem One_any (n : Nod) (cn : List Value) (s : ByteArray) (o : Int) (w : World) (hn : NodAt w.heap.size w n cn) :
    Calls Tryz.prog 54 #[.agg cn.toArray, .string s, .int .i64 o] w fun e w' => e = .returned (.int .i64 (if (atA n.attrs s).one then (atA n.attrs s).int else o)) ∧ Below w.heap.size w w' := by
  have hn0 := hn
  obtain ⟨A, c, D, d, rfl⟩ := NodAt.shape hn0
  have HB := Lib.hid (Bx.start w #[.string n.op, .slice A n.ins.length c, .string n.out, .slice D n.attrs.length d] 26)
  obtain ⟨x0, x1, x2, x3⟩ := HB.out.four
  have HC := Lib.hid (attr_any n [.string n.op, .slice A n.ins.length c, .string n.out, .slice D n.attrs.length d] s _ (ek_nod.more (ek_nod.below hn HB.out.all) HB.out.all.size))
  clear hn hn0
  generalize atA n.attrs s = u at *
  obtain ⟨un, uo, ui, ul⟩ := u
  cases uo
  all_goals
    go_enter Tryz.func54, Tryz.ntmps54
    go_wp2_with fail
    refine HC.out.mono ?_
    rintro e w1 ⟨ca, rfl, hat, hb⟩
    have H1 := Lib.hid (HB.out.below hb)
    obtain ⟨A1, c1, rfl⟩ := AttAt.shape hat
    clear hat hb HB HC x0 x1 x2 x3
    have H2 := Lib.hid (fun uo => H1.out.more (.cells #[.string un, .bool uo, .int .i64 ui, .slice A1 ul.length c1] 94))
    go_wp2_with fail
    go_ret
    exact ⟨by simp, (H2.out _).all⟩
end Go.Proofs.YtiniicehfjgpgaaGreat
/- The walk of Clone: a model in memory of its own. -/
namespace Go.Proofs.YtiniicehfjgpgaaGreat
open Go.RowKit M7 M10

/-- nodes of the call's own -/
def ONods (w : World) (B : Nat) (v : Value) (l : List Nod) : Prop := ∃ css, Ap css ∧ Al (ONod B w) l css ∧ (∀ c ∈ css, c.length = 4) ∧ w.ownsRow B 26 4 v l.length css.flatten
section
variable {w w' : World} {B B' : Nat} {v : Value} {l : List Nod}
theorem ONods.dw (h : ONods w B v l) : DW ONod w B 26 4 v l := by
  obtain ⟨css, _, h1, h2, h3⟩ := h; exact ⟨css, h1, h2, h3⟩
theorem ONods.keep (h : ONods w B v l) (hb : Below w.heap.size w w') : ONods w' B v l := by
  obtain ⟨css, h0, h1, h2, h3⟩ := h
  exact ⟨css, h0, h1.mono fun _ _ hp => eo_nod.keep hp hb, h2, own_keep h3 hb⟩
theorem ONods.base (h : ONods w B v l) (hb : B' ≤ B) : ONods w B' v l := by
  obtain ⟨css, h0, h1, h2, h3⟩ := h
  exact ⟨css, h0, h1.mono fun _ _ hp => eo_nod.base hp hb, h2, own_base h3 hb⟩
theorem ONods.set (h : ONods w B v l) {g : Nat} {cur : Array Value} {T2 : TypeId} {i : Nat} {u : Value} (hg : w.heap[g]? = some (.cells cur T2 (0, 0))) (hf : T2 ≠ 2 ∧ T2 ≠ 9 ∧ T2 ≠ 94) (hT : T2 ≠ 26) : ONods (w.setCell ⟨g, i, none⟩ u) B v l := by
  obtain ⟨css, h0, h1, h2, h3⟩ := h
  exact ⟨css, h0, h1.mono fun _ _ hp => eo_nod.set hp hg hf, h2, own_set h3 (own_far h3 hg hT) i u⟩
end
/-- a model of the call's own -/
structure OMod (w : World) (B : Nat) (m : Mod) (v1 v2 v3 v4 : Value) : Prop where
  inputs : DW OInf w B 38 3 v1 m.inputs
  outputs : DW OInf w B 38 3 v2 m.outputs
  inits : DW OTen w B 98 4 v3 m.inits
  nodes : ONods w B v4 m.nodes
section
variable {w w' : World} {B B' : Nat} {m : Mod} {v1 v2 v3 v4 : Value}
theorem OMod.keep (h : OMod w B m v1 v2 v3 v4) (hb : Below w.heap.size w w') : OMod w' B m v1 v2 v3 v4 := ⟨h.inputs.keep eo_inf hb, h.outputs.keep eo_inf hb, h.inits.keep eo_ten hb, h.nodes.keep hb⟩
theorem OMod.set (h : OMod w B m v1 v2 v3 v4) {g : Nat} {cur : Array Value} {i : Nat} {u : Value} (hg : w.heap[g]? = some (.cells cur 56 (0, 0))) : OMod (w.setCell ⟨g, i, none⟩ u) B m v1 v2 v3 v4 :=
  ⟨h.inputs.set eo_inf hg (by decide) (by decide), h.outputs.set eo_inf hg (by decide) (by decide), h.inits.set eo_ten hg (by decide) (by decide), h.nodes.set hg (by decide) (by decide)⟩
theorem OMod.read {A1 A2 A3 A4 : Option Addr} {c1 c2 c3 c4 : Nat} (h : OMod w B m (.slice A1 m.inputs.length c1) (.slice A2 m.outputs.length c2) (.slice A3 m.inits.length c3) (.slice A4 m.nodes.length c4))
    (ho : I64 m.opset) (h1 : m.inputs.length * 48 ≤ 140737488351232) (h2 : m.outputs.length * 48 ≤ 140737488351232) (h3 : m.inits.length * 64 ≤ 140737488351232) (h4 : m.nodes.length * 80 ≤ 140737488351232) : ModAt w.heap.size w m A1 A2 A3 A4 :=
  ⟨h.inputs.read fun _ _ _ hp => hp.at_, h.outputs.read fun _ _ _ hp => hp.at_, h.inits.read fun _ _ _ hp => hp.at_, h.nodes.dw.read fun _ _ _ hp => hp.at_, ho, h1, h2, h3, h4⟩
end
theorem Bx.five_put {w W : World} {g : Nat} {a0 a1 a2 a3 a4 : Value} {T : TypeId} (h : Bx w g #[a0, a1, a2, a3, a4] T W) (hg : w.heap.size ≤ g) (v0 v1 v2 v3 v4 : Value) :
    Bx w g #[v0, v1, v2, v3, v4] T (((((W.setCell ⟨g, 0, none⟩ v0).setCell ⟨g, 1, none⟩ v1).setCell ⟨g, 2, none⟩ v2).setCell ⟨g, 3, none⟩ v3).setCell ⟨g, 4, none⟩ v4) :=
  ((((h.set hg 0 v0).set hg 1 v1).set hg 2 v2).set hg 3 v3).set hg 4 v4
theorem OMod.set5 {w : World} {B g : Nat} {m : Mod} {v1 v2 v3 v4 : Value} {cur : Array Value} (h : OMod w B m v1 v2 v3 v4) (hg : w.heap[g]? = some (.cells cur 56 (0, 0))) (u0 u1 u2 u3 u4 : Value) :
    OMod (((((w.setCell ⟨g, 0, none⟩ u0).setCell ⟨g, 1, none⟩ u1).setCell ⟨g, 2, none⟩ u2).setCell ⟨g, 3, none⟩ u3).setCell ⟨g, 4, none⟩ u4) B m v1 v2 v3 v4 := by
  have g1 := heap_setCell_same w g 0 _ 56 u0 hg
  have g2 := heap_setCell_same _ g 1 _ 56 u1 g1
  have g3 := heap_setCell_same _ g 2 _ 56 u2 g2
  have g4 := heap_setCell_same _ g 3 _ 56 u3 g3
  exact ((((h.set hg).set g1).set g2).set g3).set g4
theorem Bx.far_set5 {w W : World} {g : Nat} {cs : Array Value} {T : TypeId} (h : Bx w g cs T W) {b : Nat} (v0 v1 v2 v3 v4 : Value) (hne : g ≠ b) (hb : w.heap.size ≤ b) : Bx w g cs T (((((W.setCell ⟨b, 0, none⟩ v0).setCell ⟨b, 1, none⟩ v1).setCell ⟨b, 2, none⟩ v2).setCell ⟨b, 3, none⟩ v3).setCell ⟨b, 4, none⟩ v4) :=
  ((((h.far_set v0 hne hb).far_set v1 hne hb).far_set v2 hne hb).far_set v3 hne hb).far_set v4 hne hb
theorem Bx.drew10 {w W : World} {g : Nat} {cs : Array Value} {T : TypeId} (h : Bx w g cs T W) : Bx w g cs T W.drew := ⟨h.1, h.2.1, h.2.2.drew⟩
/-- two blocks of the call's own -/
structure MTwo (w : World) (g h : Nat) (cs ds : Array Value) (T : TypeId) (W : World) : Prop where
  a : Bx w g cs T W
  b : Bx w h ds T W
theorem MTwo.below {w W W' : World} {g h : Nat} {cs ds : Array Value} {T : TypeId} (x : MTwo w g h cs ds T W) (hb : Below W.heap.size W W') : MTwo w g h cs ds T W' := ⟨x.a.below hb, x.b.below hb⟩

end Go.Proofs.YtiniicehfjgpgaaGreat
/- The walks of the document's own answers: are two models alike; where is the first of a name. -/
namespace Go.Proofs.YtiniicehfjgpgaaGreat
open Go.RowKit M7 M10 Go.Sort

set_option maxRecDepth 100000 in
theorem rints10_any (A B : Option Addr) (c d : Nat) (l m : List Int) (w : World) (hm : m.length ≤ maxLen) (ha : SR w w.heap.size 1 A l.length (iv l)) (hb : SR w w.heap.size 1 B m.length (iv m)) :
    Calls Tryz.prog 40 #[.slice A l.length c, .slice B m.length d] w fun e w' => e = .returned (.bool (decide (l = m))) ∧ Below w.heap.size w w' := by
  unfold maxLen at hm
  by_cases hlm : l.length = m.length
  · have hlm' : ((l.length : Int) != (m.length : Int)) = false := by simp; omega
    rw [hlm] at ha hlm' ⊢
    have HLM := Lib.hid hlm
    clear hlm
    go_enter Tryz.func40, Tryz.ntmps40
    go_wp2
    go_loopw [5] (fun i wr => ∃ (k : Nat) (K : Int), i = .int .i64 K ∧ K = (k : Nat) ∧ k ≤ m.length ∧ Below w.heap.size w wr ∧ l.take k = m.take k) (fun i _ => m.length - (intOf i).toNat)
    case atStart => exact ⟨0, _, rfl, rfl, by omega, Below.refl _ _, rfl⟩
    case round =>
      obtain ⟨k, K, rfl, rfl, hk, hbw, htk⟩ := hrel
      have HT := Lib.hid htk
      clear htk
      by_cases hlt : k < m.length
      · have hlt' : k < l.length := by rw [HLM.out]; exact hlt
        have ha' : SR w w.heap.size 1 A l.length (iv l) := by rw [HLM.out]; exact ha
        obtain ⟨b1, o1, rfl, hb1, x0⟩ := int_at (ha'.below hbw) hlt'
        obtain ⟨b2, o2, rfl, hb2, y0⟩ := int_at (hb.below hbw) hlt
        have HB := Lib.hid hbw
        have HY := Lib.hid (take_same_yes HT.out hlt' hlt)
        have HN := Lib.hid (take_same_no (l := l) (m := m) hlt' hlt)
        clear ha hb hbw ha'
        generalize l[k] = u at *
        generalize m[k] = v at *
        clear hlt'
        by_cases huv : u = v
        · subst huv
          have HE := Lib.hid (HY.out rfl)
          go_wp2_with fail
          go_quiet (fail)
          go_wp2_with fail
          go_roundw
          case rel => exact ⟨k + 1, _, rfl, by omega, by omega, below_drewN HB.out _, HE.out⟩
          case measure => simp [intOf]; omega
        · have HE := Lib.hid (HN.out huv)
          have huv' : (u != v) = true := by simpa using huv
          clear huv
          go_wp2_with fail
          go_quiet (fail)
          go_wp2_with fail
          go_ret
          rw [decide_eq_false HE.out]
          exact ⟨rfl, below_drewN HB.out _⟩
      · obtain rfl : k = m.length := by omega
        go_wp2
        go_ret
        rw [decide_eq_true (take_same_all HLM.out HT.out)]
        exact ⟨rfl, hbw⟩
  · have hlm' : ((l.length : Int) != (m.length : Int)) = true := by simp; omega
    have HE : Hid (decide (l = m) = false) := Lib.hid (decide_eq_false fun h => hlm (by rw [h]))
    clear hlm ha hb
    go_enter Tryz.func40, Tryz.ntmps40
    go_wp2_with fail
    go_ret
    rw [HE.out]
    exact ⟨rfl, Below.refl _ _⟩

set_option maxRecDepth 100000 in
set_option maxHeartbeats 1000000 in
theorem rattr_any (a b : Att) (ca cb : List Value) (w : World) (hi : AttAt w.heap.size w a ca) (hj : AttAt w.heap.size w b cb) :
    Calls Tryz.prog 39 #[.agg ca.toArray, .agg cb.toArray] w fun e w' => e = .returned (.bool (sameA a b)) ∧ Below w.heap.size w w' := by
  obtain ⟨A, c, rfl, ha, oi⟩ := hi
  obtain ⟨B, d, rfl, hb, oj⟩ := hj
  have hlen := oj.len
  have hbx := Bx.start w #[.string a.name, .bool a.one, .int .i64 a.int, .slice A a.ints.length c] 62
  have HBX := Lib.hid (hbx.more (.cells #[.string b.name, .bool b.one, .int .i64 b.int, .slice B b.ints.length d] 62))
  have HS := Lib.hid (rints10_any A B c d a.ints b.ints _ (by unfold maxLen; omega) ((ha.below HBX.out.all).more HBX.out.all.size) ((hb.below HBX.out.all).more HBX.out.all.size))
  clear hbx ha hb oi oj hlen
  obtain ⟨tn, tb, tk, tl⟩ := a
  obtain ⟨un, ub, uk, ul⟩ := b
  dsimp only at *
  unfold sameA
  dsimp only
  by_cases h1 : tn = un
  · have e1 := teq_yes h1
    rw [decide_eq_true h1]
    clear h1
    cases tb <;> cases ub
    · go_enter Tryz.func39, Tryz.ntmps39
      go_wp2_with fail
      refine HS.out.mono ?_
      rintro e w1 ⟨rfl, hb1⟩
      have H1 := Lib.hid (HBX.out.below hb1)
      clear hb1
      go_wp2_with fail
      go_ret
      exact ⟨by simp, H1.out.all⟩
    · clear HS
      go_enter Tryz.func39, Tryz.ntmps39
      go_wp2_with fail
      go_ret
      exact ⟨by simp, HBX.out.all⟩
    · clear HS
      go_enter Tryz.func39, Tryz.ntmps39
      go_wp2_with fail
      go_ret
      exact ⟨by simp, HBX.out.all⟩
    · clear HS
      by_cases h2 : tk = uk
      · have e2 : (tk == uk) = true := by simpa using h2
        rw [decide_eq_true h2]
        clear h2
        go_enter Tryz.func39, Tryz.ntmps39
        go_wp2_with fail
        go_ret
        exact ⟨by simp, HBX.out.all⟩
      · have e2 : (tk == uk) = false := by simpa using h2
        rw [decide_eq_false h2]
        clear h2
        go_enter Tryz.func39, Tryz.ntmps39
        go_wp2_with fail
        go_ret
        exact ⟨by simp, HBX.out.all⟩
  · have e1 := teq_no h1
    rw [decide_eq_false h1]
    clear h1 HS
    cases tb <;> cases ub
    all_goals
      go_enter Tryz.func39, Tryz.ntmps39
      go_wp2_with fail
      go_ret
      exact ⟨by simp, HBX.out.all⟩


theorem rinfo_no {i j : Inf} (h : i.name ≠ j.name ∨ i.kind ≠ j.kind ∨ i.dims ≠ j.dims) : sameI i j = false := by
  unfold sameI
  rcases h with h | h | h <;> simp [h]
theorem rinfo_yes {i j : Inf} (h1 : i.name = j.name) (h2 : i.kind = j.kind) (h3 : i.dims = j.dims) : sameI i j = true := by
  unfold sameI; simp [h1, h2, h3]
theorem sameN_op {n o : Nod} (h : n.op ≠ o.op) : sameN n o = false := by unfold sameN; simp [h]
theorem sameN_out {n o : Nod} (h : n.out ≠ o.out) : sameN n o = false := by unfold sameN; simp [h]
theorem sameN_ins {n o : Nod} (h : decide (n.ins = o.ins) = false) : sameN n o = false := by unfold sameN; simp [h]
theorem sameN_attrs {n o : Nod} (h : eqAll sameA n.attrs o.attrs = false) : sameN n o = false := by unfold sameN; simp [h]
theorem sameN_yes {n o : Nod} (h1 : n.op = o.op) (h2 : decide (n.ins = o.ins) = true) (h3 : n.out = o.out) (h4 : eqAll sameA n.attrs o.attrs = true) : sameN n o = true := by unfold sameN; rw [h2, h4]; simp [h1, h3]
theorem sameM_opset {n o : Mod} (h : n.opset ≠ o.opset) : sameM n o = false := by unfold sameM; simp [h]
theorem sameM_inputs {n o : Mod} (h : eqAll sameI n.inputs o.inputs = false) : sameM n o = false := by unfold sameM; simp [h]
theorem sameM_outputs {n o : Mod} (h : eqAll sameI n.outputs o.outputs = false) : sameM n o = false := by unfold sameM; simp [h]
theorem sameM_inits {n o : Mod} (h : eqAll sameT n.inits o.inits = false) : sameM n o = false := by unfold sameM; simp [h]
theorem sameM_nodes {n o : Mod} (h : eqAll sameN n.nodes o.nodes = false) : sameM n o = false := by unfold sameM; simp [h]
theorem sameM_yes {n o : Mod} (h0 : n.opset = o.opset) (h1 : eqAll sameI n.inputs o.inputs = true) (h2 : eqAll sameI n.outputs o.outputs = true) (h3 : eqAll sameT n.inits o.inits = true) (h4 : eqAll sameN n.nodes o.nodes = true) : sameM n o = true := by unfold sameM; rw [h1, h2, h3, h4]; simp [h0]
theorem decide_len {α : Type} [DecidableEq α] {l m : List α} (h : l.length ≠ m.length) : decide (l = m) = false := decide_eq_false fun e => h (by rw [e])


set_option maxRecDepth 100000 in
set_option maxHeartbeats 4000000 in
theorem rnode_any (n o : Nod) (cn co : List Value) (w : World) (hi : NodAt w.heap.size w n cn) (hj : NodAt w.heap.size w o co) :
    Calls Tryz.prog 10 #[.agg cn.toArray, .agg co.toArray] w fun e w' => e = .returned (.bool (sameN n o)) ∧ Below w.heap.size w w' := by
  obtain ⟨A, c, D, e, rfl, ha, hd, oi⟩ := hi
  obtain ⟨A', c', D', e', rfl, ha', hd', oj⟩ := hj
  have hl1 := oi.len
  have hl2 := oi.alen
  have HA := Lib.hid ha
  have HA2 := Lib.hid ha'
  have HD := Lib.hid hd
  have HD2 := Lib.hid hd'
  have HT0 := Lib.hid (show MTwo w w.heap.size (w.heap.size + 1) #[.string n.op, .slice A n.ins.length c, .string n.out, .slice D n.attrs.length e] #[.string o.op, .slice A' o.ins.length c', .string o.out, .slice D' o.attrs.length e'] 32 _ from
    ⟨(Bx.start w #[.string n.op, .slice A n.ins.length c, .string n.out, .slice D n.attrs.length e] 32).more (.cells #[.string o.op, .slice A' o.ins.length c', .string o.out, .slice D' o.attrs.length e'] 32), Bx.two w (.cells #[.string n.op, .slice A n.ins.length c, .string n.out, .slice D n.attrs.length e] 32) #[.string o.op, .slice A' o.ins.length c', .string o.out, .slice D' o.attrs.length e'] 32⟩)
  clear ha ha' hd hd' oi oj
  obtain ⟨n1, n2, n3, n4⟩ := n
  obtain ⟨o1, o2, o3, o4⟩ := o
  dsimp only at *
  by_cases h1 : n1 = o1
  case neg =>
    have e1 := teq_no h1
    have HE := Lib.hid (sameN_op (n := ⟨n1, n2, n3, n4⟩) (o := ⟨o1, o2, o3, o4⟩) h1)
    clear h1 HA HA2 HD HD2
    go_enter Tryz.func10, Tryz.ntmps10
    go_wp2_with fail
    go_ret
    rw [HE.out]
    exact ⟨rfl, HT0.out.a.all⟩
  have e1 := teq_yes h1
  by_cases h3 : n3 = o3
  case neg =>
    have e3 := teq_no h3
    have HE := Lib.hid (sameN_out (n := ⟨n1, n2, n3, n4⟩) (o := ⟨o1, o2, o3, o4⟩) h3)
    clear h1 h3 HA HA2 HD HD2
    go_enter Tryz.func10, Tryz.ntmps10
    go_wp2_with fail
    go_ret
    rw [HE.out]
    exact ⟨rfl, HT0.out.a.all⟩
  have e3 := teq_yes h3
  by_cases h2 : n2.length = o2.length
  case neg =>
    have e2 : ((n2.length : Int) != (o2.length : Int)) = true := by simp; omega
    have HE := Lib.hid (sameN_ins (n := ⟨n1, n2, n3, n4⟩) (o := ⟨o1, o2, o3, o4⟩) (decide_len h2))
    clear h1 h3 h2 HA HA2 HD HD2
    go_enter Tryz.func10, Tryz.ntmps10
    go_wp2_with fail
    go_ret
    rw [HE.out]
    exact ⟨rfl, HT0.out.a.all⟩
  have e2 : ((n2.length : Int) != (o2.length : Int)) = false := by simp; omega
  by_cases h4 : n4.length = o4.length
  case neg =>
    have e4 : ((n4.length : Int) != (o4.length : Int)) = true := by simp; omega
    have HE := Lib.hid (sameN_attrs (n := ⟨n1, n2, n3, n4⟩) (o := ⟨o1, o2, o3, o4⟩) (eqAll_len h4))
    clear h1 h3 h2 h4 HA HA2 HD HD2
    go_enter Tryz.func10, Tryz.ntmps10
    go_wp2_with fail
    go_ret
    rw [HE.out]
    exact ⟨rfl, HT0.out.a.all⟩
  have e4 : ((n4.length : Int) != (o4.length : Int)) = false := by simp; omega
  have HL2 := Lib.hid h2
  have HL4 := Lib.hid h4
  have HYES := Lib.hid (fun (h2 : decide (n2 = o2) = true) (h4 : eqAll sameA n4 o4 = true) => sameN_yes (n := ⟨n1, n2, n3, n4⟩) (o := ⟨o1, o2, o3, o4⟩) h1 h2 h3 h4)
  have HNI := Lib.hid (fun h => sameN_ins (n := ⟨n1, n2, n3, n4⟩) (o := ⟨o1, o2, o3, o4⟩) h)
  have HNA := Lib.hid (fun h => sameN_attrs (n := ⟨n1, n2, n3, n4⟩) (o := ⟨o1, o2, o3, o4⟩) h)
  clear h1 h2 h3 h4
  go_enter Tryz.func10, Tryz.ntmps10
  go_wp2_with fail
  clear e1 e2 e3 e4
  go_loopw [5] (fun i wr => ∃ (k : Nat) (K : Int), i = .int .i64 K ∧ K = (k : Nat) ∧ k ≤ n2.length ∧ MTwo w w.heap.size (w.heap.size + 1) #[.string n1, .slice A n2.length c, .string n3, .slice D n4.length e] #[.string o1, .slice A' o2.length c', .string o3, .slice D' o4.length e'] 32 wr ∧ eqTo (fun a b => decide (a = b)) n2 o2 k) (fun i _ => n2.length - (intOf i).toNat)
  case atStart => exact ⟨0, _, rfl, rfl, by omega, HT0.out, eqTo_zero _ _⟩
  case round =>
    obtain ⟨k, K, rfl, rfl, hk, hbx, htk⟩ := hrel
    have HT := Lib.hid htk
    have HX := Lib.hid hbx
    clear htk hbx
    have hbz := HX.out.a.all.size
    obtain ⟨x0, x1, x2, x3⟩ := HX.out.a.four
    obtain ⟨y0, y1, y2, y3⟩ := HX.out.b.four
    by_cases hlt : k < n2.length
    · have hlt' : k < o2.length := by rw [← HL2.out]; exact hlt
      obtain ⟨b1, p1, rfl, hb1, z0⟩ := m_txt_at (HA.out.below HX.out.a.all) hlt
      obtain ⟨b2, p2, rfl, hb2, z1⟩ := m_txt_at (HA2.out.below HX.out.a.all) hlt'
      have HY := Lib.hid (fun h => eqTo_succ HT.out hlt hlt' h)
      have HN := Lib.hid (eqTo_no (l := n2) (m := o2) hlt hlt')
      generalize n2[k] = u at *
      generalize o2[k] = v at *
      by_cases huv : u = v
      · have HE := Lib.hid (HY.out (decide_eq_true huv))
        have hn := teq_yes huv
        clear huv
        go_wp2_with fail
        go_quiet (fail)
        go_wp2_with fail
        go_roundw
        case rel => exact ⟨k + 1, _, rfl, by omega, by omega, ⟨HX.out.a.drew11 _, HX.out.b.drew11 _⟩, HE.out⟩
        case measure => simp [intOf]; omega
      · have HE := Lib.hid (HNI.out (HN.out huv))
        have hn := teq_no huv
        clear huv
        go_wp2_with fail
        go_quiet (fail)
        go_wp2_with fail
        go_ret
        rw [HE.out]
        exact ⟨rfl, (HX.out.a.drew11 _).all⟩
    · obtain rfl : k = n2.length := by omega
      have HINS := Lib.hid (eqTo_yes HL2.out HT.out)
      have HX2 := Lib.hid HX.out
      clear HT HX hk hlt HA HA2
      go_wp2_with fail
      clear x0 x1 x2 x3 y0 y1 y2 y3
      go_loopw [6] (fun i wr => ∃ (k : Nat) (K : Int), i = .int .i64 K ∧ K = (k : Nat) ∧ k ≤ n4.length ∧ MTwo w w.heap.size (w.heap.size + 1) #[.string n1, .slice A n2.length c, .string n3, .slice D n4.length e] #[.string o1, .slice A' o2.length c', .string o3, .slice D' o4.length e'] 32 wr ∧ eqTo sameA n4 o4 k) (fun i _ => n4.length - (intOf i).toNat)
      case atStart => exact ⟨0, _, rfl, rfl, by omega, HX2.out, eqTo_zero _ _⟩
      case round =>
        obtain ⟨k, K, rfl, rfl, hk, hbx, htk⟩ := hrel
        have HT := Lib.hid htk
        have HX := Lib.hid hbx
        clear htk hbx
        have hbz := HX.out.a.all.size
        obtain ⟨x0, x1, x2, x3⟩ := HX.out.a.four
        obtain ⟨y0, y1, y2, y3⟩ := HX.out.b.four
        by_cases hlt : k < n4.length
        · have hlt' : k < o4.length := by rw [← HL4.out]; exact hlt
          obtain ⟨b1, o1, cx, rfl, hb1, hpx, hcx⟩ := (HD.out.below ek_att HX.out.a.all).at_ ek_att hlt
          obtain ⟨b2, o2, cy, rfl, hb2, hpy, hcy⟩ := (HD2.out.below ek_att HX.out.a.all).at_ ek_att hlt'
          have HY := Lib.hid (fun h => eqTo_succ HT.out hlt hlt' h)
          have HN := Lib.hid (eqAll_no (f := sameA) hlt hlt')
          have HPX := Lib.hid hpx
          have HPY := Lib.hid hpy
          clear hpx hpy
          generalize n4[k] = u at *
          generalize o4[k] = v at *
          obtain ⟨A1, c1, rfl⟩ := AttAt.shape HPX.out
          obtain ⟨A2, c2, rfl⟩ := AttAt.shape HPY.out
          have p0 := hcx 0 _ rfl
          have p1 := hcx 1 _ rfl
          have p2 := hcx 2 _ rfl
          have p3 := hcx 3 _ rfl
          have r0 := hcy 0 _ rfl
          have r1 := hcy 1 _ rfl
          have r2 := hcy 2 _ rfl
          have r3 := hcy 3 _ rfl
          simp only [Nat.add_zero] at p0 r0
          clear hcx hcy
          have HC := Lib.hid (fun dd os => rattr_any u v [.string u.name, .bool u.one, .int .i64 u.int, .slice A1 u.ints.length c1] [.string v.name, .bool v.one, .int .i64 v.int, .slice A2 v.ints.length c2] (grow (redrawn wr dd) os) (ek_att.more (ek_att.below HPX.out ((below_regrown wr dd os).mono hbz)) (Nat.le_trans hbz (below_regrown wr dd os).size)) (ek_att.more (ek_att.below HPY.out ((below_regrown wr dd os).mono hbz)) (Nat.le_trans hbz (below_regrown wr dd os).size)))
          have q0 := fun d os => cell_regrown p0 d os
          have q1 := fun d os => cell_regrown p1 d os
          have q2 := fun d os => cell_regrown p2 d os
          have q3 := fun d os => cell_regrown p3 d os
          have s0 := fun d os => cell_regrown r0 d os
          have s1 := fun d os => cell_regrown r1 d os
          have s2 := fun d os => cell_regrown r2 d os
          have s3 := fun d os => cell_regrown r3 d os
          have qx0 := fun d os => cell_regrown x0 d os
          have qy0 := fun d os => cell_regrown y0 d os
          have qx1 := fun d os => cell_regrown x1 d os
          have qy1 := fun d os => cell_regrown y1 d os
          have qx2 := fun d os => cell_regrown x2 d os
          have qy2 := fun d os => cell_regrown y2 d os
          have qx3 := fun d os => cell_regrown x3 d os
          have qy3 := fun d os => cell_regrown y3 d os
          clear p0 p1 p2 p3 r0 r1 r2 r3 HPX HPY
          cases huv : sameA u v
          · have HE := Lib.hid (HNA.out (HN.out huv))
            rw [huv] at HC
            clear huv HN HY
            go_wp2_with fail
            refine wp_region_quiet_below (by kernel_rfl) (by kernel_rfl) ?_
            repeat (go_big_quiet_step ((go_at_call 39; exact Calls.regrown_of (HC.out _ _))))
            refine wpQuiet_nil ?_
            rintro w9 ⟨p, rfl⟩
            have H2 := Lib.hid (HX.out.below (below_regrown wr p.d p.os))
            clear qx0 qy0 x0 y0 qx1 qy1 x1 y1 qx2 qy2 x2 y2 qx3 qy3 x3 y3 q0 q1 q2 q3 s0 s1 s2 s3 HC
            generalize grow (redrawn wr p.d) p.os = w9 at H2 ⊢
            go_wp2_with fail
            go_ret
            rw [HE.out]
            exact ⟨rfl, H2.out.a.all⟩
          · have HE := Lib.hid (HY.out huv)
            rw [huv] at HC
            clear huv HN HY
            go_wp2_with fail
            refine wp_region_quiet_below (by kernel_rfl) (by kernel_rfl) ?_
            repeat (go_big_quiet_step ((go_at_call 39; exact Calls.regrown_of (HC.out _ _))))
            refine wpQuiet_nil ?_
            rintro w9 ⟨p, rfl⟩
            have H2 := Lib.hid (HX.out.below (below_regrown wr p.d p.os))
            clear qx0 qy0 x0 y0 qx1 qy1 x1 y1 qx2 qy2 x2 y2 qx3 qy3 x3 y3 q0 q1 q2 q3 s0 s1 s2 s3 HC
            generalize grow (redrawn wr p.d) p.os = w9 at H2 ⊢
            go_wp2_with fail
            go_roundw
            case rel => exact ⟨k + 1, _, rfl, by omega, by omega, H2.out, HE.out⟩
            case measure => simp [intOf]; omega
        · obtain rfl : k = n4.length := by omega
          have HALL := Lib.hid (eqAll_yes HL4.out HT.out)
          clear HT
          have HE := Lib.hid (HYES.out HINS.out HALL.out)
          go_wp2_with fail
          go_ret
          rw [HE.out]
          exact ⟨rfl, HX.out.a.all⟩

end Go.Proofs.YtiniicehfjgpgaaGreat
/- The walks of the document's Same of models, of Find and Init. -/
namespace Go.Proofs.YtiniicehfjgpgaaGreat
open Go.RowKit M7 M10 Go.Sort
/-- the place of the first that is so, or -1 -/
def fndI {α : Type} (p : α → Bool) (l : List α) : Int := if l.findIdx p < l.length then ((l.findIdx p : Nat) : Int) else -1
theorem fndI_yes {α : Type} {p : α → Bool} {l : List α} {k : Nat} (hk : k < l.length) (h1 : p l[k] = true) (h2 : ∀ j (hj : j < k), p (l[j]'(by omega)) = false) : fndI p l = (k : Int) := by
  unfold fndI; rw [(List.findIdx_eq hk).2 ⟨h1, h2⟩, if_pos hk]
theorem fndI_no {α : Type} {p : α → Bool} {l : List α} (h : ∀ j (hj : j < l.length), p l[j] = false) : fndI p l = -1 := by
  have e : l.findIdx p = l.length := List.findIdx_eq_length.2 fun x hx => by
    obtain ⟨j, hj, rfl⟩ := List.mem_iff_getElem.1 hx
    exact h j hj
  unfold fndI; rw [e, if_neg (Nat.lt_irrefl _)]


set_option maxRecDepth 100000 in
theorem rfind_any (A : Option Addr) (c : Nat) (l : List Att) (s : ByteArray) (w : World) (hl : l.length ≤ maxLen) (ha : DR AttAt w w.heap.size 4 A l) :
    Calls Tryz.prog 20 #[.slice A l.length c, .string s] w fun e w' => e = .returned (.int .i64 (fndI (fun a => decide (a.name = s)) l)) ∧ Below w.heap.size w w' := by
  unfold maxLen at hl
  have HD := Lib.hid ha
  clear ha
  go_enter Tryz.func20, Tryz.ntmps20
  go_wp2_with fail
  go_loopw [5] (fun i wr => ∃ (k : Nat) (K : Int), i = .int .i64 K ∧ K = (k : Nat) ∧ k ≤ l.length ∧ wr = w ∧ ∀ j, j < k → ∀ hj : j < l.length, l[j].name ≠ s) (fun i _ => l.length - (intOf i).toNat)
  case atStart => exact ⟨0, _, rfl, rfl, by omega, rfl, fun j hj => absurd hj (by omega)⟩
  case round =>
    obtain ⟨k, K, rfl, rfl, hk, rfl, hno⟩ := hrel
    have HNO := Lib.hid hno
    clear hno
    by_cases hlt : k < l.length
    · obtain ⟨b, o, cs, rfl, hb, hp, hcx⟩ := HD.out.at_ ek_att hlt
      have HY := Lib.hid (fun (h : l[k].name = s) => fndI_yes (p := fun a => decide (a.name = s)) hlt (by simpa using h) (fun j hj => by simpa using HNO.out j hj (by omega)))
      have HN := Lib.hid (fun (h : l[k].name ≠ s) => show ∀ j, j < k + 1 → ∀ hj : j < l.length, l[j].name ≠ s from fun j hj hj2 => by
        by_cases e : j = k
        · subst e; exact h
        · exact HNO.out j (by omega) hj2)
      obtain ⟨A1, c1, rfl⟩ := AttAt.shape hp
      clear hp HNO
      generalize l[k] = u at *
      have p0 := hcx 0 _ rfl
      simp only [Nat.add_zero] at p0
      clear hcx
      by_cases hs : u.name = s
      · have e1 := teq_yes hs
        have HE := Lib.hid (HY.out hs)
        clear hs HY HN HD
        go_wp2_with fail
        go_ret
        rw [HE.out]
        exact ⟨rfl, Below.refl _ _⟩
      · have e1 := teq_no hs
        have HE := Lib.hid (HN.out hs)
        clear hs HY HN
        go_wp2_with fail
        go_roundw
        case rel => exact ⟨k + 1, _, rfl, by omega, by omega, trivial, HE.out⟩
        case measure => simp [intOf]; omega
    · obtain rfl : k = l.length := by omega
      have e := fndI_no (p := fun a => decide (a.name = s)) (l := l) (fun j hj => by simpa using HNO.out j hj hj)
      have HE := Lib.hid e
      clear e HNO
      go_wp2_with fail
      go_ret
      rw [HE.out]
      exact ⟨rfl, Below.refl _ _⟩


end Go.Proofs.YtiniicehfjgpgaaGreat
/- The walks of the law's Infos and Node: what the document's types hold of what is the program's. -/
namespace Go.Proofs.YtiniicehfjgpgaaGreat
open Go.RowKit M7 M10 Go.Sort

/-- a row of the call's own, whose elements' own parts lie where they lay -/
def RR {α : Type} (P : Nat → World → α → List Value → Prop) (w : World) (B : Nat) (T : TypeId) (size : Nat) (v : Value) (l : List α) : Prop :=
  ∃ css, Al (P B w) l css ∧ (∀ c ∈ css, c.length = size) ∧ w.ownsRow B T size v l.length css.flatten
/-- what stays of such an element -/
structure Er {α : Type} (P : Nat → World → α → List Value → Prop) (far : TypeId → Prop) (size : Nat) : Prop where
  len : ∀ {B w a cs}, P B w a cs → cs.length = size
  keep : ∀ {B w w' a cs}, P B w a cs → Below w.heap.size w w' → B ≤ w.heap.size → P B w' a cs
  set : ∀ {B w a cs g cur T i u}, P B w a cs → w.heap[g]? = some (.cells cur T (0, 0)) → far T → B ≤ g → P B (w.setCell ⟨g, i, none⟩ u) a cs
  grown : ∀ {B w w' a cs n s e v ys}, P B w a cs → w.ownsRow B e s v n ys → far e → w.grownBy w' v.ownBlock → B ≤ w.heap.size → P B w' a cs
theorem below_grown {B s n : Nat} {e : TypeId} {v : Value} {ys : List Value} {w w' : World} (h : w.ownsRow B e s v n ys) (hg : w.grownBy w' v.ownBlock) (hB : B ≤ w.heap.size) : Below B w w' :=
  (Below.refl B w).grown hg hB fun _ hq => (own_blk h hq).1
theorem er_of_ek {α : Type} {P : Nat → World → α → List Value → Prop} {size : Nat} (h : Ek P size) : Er P (fun _ => True) size :=
  ⟨fun hp => h.len hp, fun hp hb hB => h.below hp (hb.mono hB), fun {B w _ _ g _ _ i u} hp _ _ hB => h.below hp ((Below.refl B w).setCell (p := ⟨g, i, none⟩) hB u), fun hp ho _ hg hB => h.below hp (below_grown ho hg hB)⟩
section
variable {α : Type} {P : Nat → World → α → List Value → Prop} {far : TypeId → Prop} {w w' : World} {B size n : Nat} {T : TypeId} {v : Value} {l : List α}
theorem RR.nil (w : World) (B : Nat) (T : TypeId) (size : Nat) : RR P w B T size (.slice none 0 0) [] := ⟨[], trivial, by simp, World.ownsRow_nil _ _ _ _⟩
theorem RR.keep (h : RR P w B T size v l) (hr : Er P far size) (hb : Below w.heap.size w w') (hB : B ≤ w.heap.size) : RR P w' B T size v l := by
  obtain ⟨css, ha, hl, ho⟩ := h
  exact ⟨css, ha.mono fun _ _ hp => hr.keep hp hb hB, hl, own_keep ho hb⟩
theorem RR.set (h : RR P w B T size v l) (hr : Er P far size) {g : Nat} {cur : Array Value} {T2 : TypeId} {i : Nat} {u : Value} (hg : w.heap[g]? = some (.cells cur T2 (0, 0))) (hf : far T2) (hT : T2 ≠ T) (hB : B ≤ g) : RR P (w.setCell ⟨g, i, none⟩ u) B T size v l := by
  obtain ⟨css, ha, hl, ho⟩ := h
  exact ⟨css, ha.mono fun _ _ hp => hr.set hp hg hf hB, hl, own_set ho (own_far ho hg hT) i u⟩
theorem RR.grown (h : RR P w B T size v l) (hr : Er P far size) {e : TypeId} {s n : Nat} {u : Value} {ys : List Value} (ho : w.ownsRow B e s u n ys) (hf : far e) (hT : T ≠ e) (hg : w.grownBy w' u.ownBlock) (hB : B ≤ w.heap.size) : RR P w' B T size v l := by
  obtain ⟨css, ha, hl, hw⟩ := h
  exact ⟨css, ha.mono fun _ _ hp => hr.grown hp ho hf hg hB, hl, own_grown_far hw ho hT hg⟩
theorem RR.form (h : RR P w B T size v l) : ∃ A c, v = .slice A l.length c := by
  obtain ⟨css, _, _, ho⟩ := h
  obtain ⟨A, c, hv, _⟩ := own_form ho
  exact ⟨A, c, hv⟩
theorem RR.read {Q : Nat → World → α → List Value → Prop} {A : Option Addr} {c : Nat} (h : RR P w B T size (.slice A l.length c) l) (hm : ∀ a cs, a ∈ l → P B w a cs → Q w.heap.size w a cs) : DR Q w w.heap.size size A l := by
  obtain ⟨css, ha, hl, ho⟩ := h
  exact ⟨css, Al.of_get ha.len fun k h1 h2 => hm _ _ (List.getElem_mem h1) (ha.get h1 h2), SR.of_own ho⟩
end
theorem flatten_snoc (css : List (List Value)) (c : List Value) : (css ++ [c]).flatten = css.flatten ++ c := by simp
theorem infoRInfo : (Tryz.prog.info? 42).map (fun i => (i.zero, i.size, i.bytes)) = some (some (.agg #[.string ⟨#[]⟩, .int .i64 0, .slice none 0 0]), 3, 48) := by kernel_rfl
theorem infoRAttr : (Tryz.prog.info? 62).map (fun i => (i.zero, i.size, i.bytes)) = some (some (.agg #[.string ⟨#[]⟩, .bool false, .int .i64 0, .slice none 0 0]), 4, 56) := by kernel_rfl
theorem infoRNode : (Tryz.prog.info? 32).map (fun i => (i.zero, i.size, i.bytes)) = some (some (.agg #[.string ⟨#[]⟩, .slice none 0 0, .string ⟨#[]⟩, .slice none 0 0]), 4, 80) := by kernel_rfl

set_option maxRecDepth 100000 in
theorem linfos_any (B : Nat) (l : List Inf) (A : Option Addr) (c : Nat) (w : World) (hB : B ≤ w.heap.size) (hl : l.length * 48 ≤ 140737488351232) (ha : DR InfAt w B 3 A l) :
    Calls Tryz.prog 13 #[.slice A l.length c] w fun e w' => ∃ v, e = .returned v ∧ RR InfAt w' B 42 3 v l ∧ Below w.heap.size w w' := by
  obtain ⟨i0, hi0, hz0, hz1, hz2⟩ := info_parts infoRInfo
  have HB0 := Lib.hid hB
  go_enter Tryz.func13, Tryz.ntmps13
  go_wp2_with fail
  go_loopw [3, 5, 8] (fun v _ i wr => ∃ (k : Nat) (K : Int) (css : List (List Value)), i = .int .i64 K ∧ K = (k : Nat) ∧ k ≤ l.length ∧ Al (InfAt B wr) (l.take k) css ∧ wr.ownsRow w.heap.size 42 3 v k css.flatten ∧ Below w.heap.size w wr) (fun _ _ i _ => l.length - (intOf i).toNat)
  case atStart => exact ⟨0, _, [], rfl, rfl, by omega, by rw [List.take_zero]; exact trivial, World.ownsRow_nil _ _ _ _, Below.refl _ _⟩
  case round =>
    obtain ⟨k, K, css, rfl, rfl, hk, hal, hown, hb⟩ := hrel
    obtain ⟨V, vc, rfl, -, -⟩ := own_form hown
    have HAL := Lib.hid hal
    clear hal
    by_cases hlt : k < l.length
    · obtain ⟨b, o, cs, rfl, hbb, hp, hcx⟩ := (ha.below ek_inf (hb.mono hB)).at_ ek_inf hlt
      have hz := hb.size
      have HS := Lib.hid (fun (W : World) (cs : List Value) (hp : InfAt B W l[k] cs) (hal : Al (InfAt B W) (l.take k) css) => show Al (InfAt B W) (l.take (k + 1)) (css ++ [cs]) from by rw [List.take_succ_eq_append_getElem hlt]; exact hal.snoc hp)
      have HB := Lib.hid hb
      have HP := Lib.hid hp
      clear hb
      obtain ⟨A1, c1, rfl⟩ := InfAt.shape hp
      clear hp
      generalize l[k] = u at *
      have p0 := hcx 0 _ rfl
      have p1 := hcx 1 _ rfl
      have p2 := hcx 2 _ rfl
      simp only [Nat.add_zero] at p0
      clear hcx
      go_wp2_with (at_builtin; refine wpList_append_own _ rfl _ _ 48 rfl w.heap.size 42 i0 _ 3 48 Tryz.underlying48 hi0 hz0 hz1 hz2 rfl (by decide) _ _ _ rfl ((hown.alloc _).alloc _) ⟨wr.heap.size + 1, 0, none⟩ 1 1 [.string u.name, .int .i64 u.kind, .slice A1 u.dims.length c1] rfl rfl (cells_new2 _ _ _ _) ?c2 ?c3 ?c4 ?c5 ?_)
      case c2 => intro u hu; simp at hu; rcases hu with rfl | rfl | rfl <;> rfl
      case c3 => unfold maxLen; omega
      case c4 => omega
      case c5 => simp; omega
      intro v' w2 hown' hgrow _
      rw [← flatten_snoc] at hown'
      have hb3 := ((HB.out.alloc hz _).alloc (by simp; omega) _).grown hgrow (by simp; omega) (fun q hq => (hown.lt q hq).1)
      have hb4 : Below w.heap.size wr w2 := ((((Below.refl w.heap.size wr).alloc hz _).alloc (by simp; omega) _).grown hgrow (by simp; omega) (fun q hq => (hown.lt q hq).1))
      have HO := Lib.hid (And.intro hown' (And.intro hb3 (HS.out w2 _ (ek_inf.below HP.out (hb4.mono HB0.out)) (HAL.out.mono fun _ _ hq => ek_inf.below hq (hb4.mono HB0.out)))))
      clear hgrow hown' hown hb3 hb4 p0 p1 p2
      go_wp2_with fail
      go_roundw
      case rel => exact ⟨k + 1, _, _, rfl, by omega, by omega, HO.out.2.2, HO.out.1, HO.out.2.1⟩
      case measure => simp [intOf]; omega
    · obtain rfl : k = l.length := by omega
      have hal := HAL.out
      rw [List.take_length] at hal
      have HO := Lib.hid (And.intro hown (And.intro hb hal))
      clear hown hb hal HAL
      go_wp2_with fail
      go_ret
      exact ⟨_, rfl, ⟨css, HO.out.2.2, ek_inf.all HO.out.2.2, own_base HO.out.1 HB0.out⟩, HO.out.2.1⟩
theorem er_inf : Er InfAt (fun _ => True) 3 := er_of_ek ek_inf
theorem er_ten : Er TenAt (fun _ => True) 4 := er_of_ek ek_ten
theorem er_att : Er AttAt (fun _ => True) 4 := er_of_ek ek_att
def RNod (B : Nat) (w : World) (n : Nod) (cs : List Value) : Prop :=
  ∃ A c v, cs = [.string n.op, .slice A n.ins.length c, .string n.out, v] ∧ SR w B 1 A n.ins.length (m_tx n.ins) ∧ RR AttAt w B 62 4 v n.attrs ∧ NOk n
theorem RNod.shape {B : Nat} {w : World} {n : Nod} {cs : List Value} (h : RNod B w n cs) : ∃ A c A' c', cs = [.string n.op, .slice A n.ins.length c, .string n.out, .slice A' n.attrs.length c'] := by
  obtain ⟨A, c, v, h, _, hr, _⟩ := h
  obtain ⟨A', c', rfl⟩ := hr.form
  exact ⟨A, c, A', c', h⟩
theorem RNod.at_ {B : Nat} {w : World} {n : Nod} {cs : List Value} (h : RNod B w n cs) (hB : B ≤ w.heap.size) : NodAt w.heap.size w n cs := by
  obtain ⟨A, c, v, rfl, hs, hr, ok⟩ := h
  obtain ⟨A', c', rfl⟩ := hr.form
  exact ⟨A, c, A', c', rfl, hs.more hB, hr.read fun _ _ _ hp => ek_att.more hp hB, ok⟩
theorem er_nod : Er RNod (fun T => T ≠ 62) 4 :=
  ⟨fun ⟨_, _, _, h, _⟩ => by rw [h]; rfl,
   fun ⟨A, c, v, h, hs, hr, ok⟩ hb hB => ⟨A, c, v, h, hs.below (hb.mono hB), hr.keep er_att hb hB, ok⟩,
   fun {B w _ _ g _ _ i u} ⟨A, c, v, h, hs, hr, ok⟩ hg hf hB => ⟨A, c, v, h, hs.below ((Below.refl B w).setCell (p := ⟨g, i, none⟩) hB u), hr.set er_att hg trivial hf hB, ok⟩,
   fun ⟨A, c, v, h, hs, hr, ok⟩ ho hf hg hB => ⟨A, c, v, h, hs.below (below_grown ho hg hB), hr.grown er_att ho trivial (fun e => hf e.symm) hg hB, ok⟩⟩

theorem rnod_set4 {w : World} {B b : Nat} {T : TypeId} {a : Nod} {cs : List Value} {c0 c1 c2 c3 : Value} (h : RNod B w a cs) (hb : w.heap[b]? = some (.cells #[c0, c1, c2, c3] T (0, 0))) (h1 : T ≠ 62) (hB : B ≤ b) (v0 v1 v2 v3 : Value) :
    RNod B ((((w.setCell ⟨b, 0, none⟩ v0).setCell ⟨b, 1, none⟩ v1).setCell ⟨b, 2, none⟩ v2).setCell ⟨b, 3, none⟩ v3) a cs := by
  have g1 := heap_setCell_same w b 0 _ T v0 hb
  have g2 := heap_setCell_same _ b 1 _ T v1 g1
  have g3 := heap_setCell_same _ b 2 _ T v2 g2
  exact er_nod.set (er_nod.set (er_nod.set (er_nod.set h hb h1 hB) g1 h1 hB) g2 h1 hB) g3 h1 hB

set_option maxRecDepth 100000 in
set_option maxHeartbeats 2000000 in
theorem lnode_any (B : Nat) (n : Nod) (cn : List Value) (w : World) (hB : B ≤ w.heap.size) (hn : NodAt B w n cn) :
    Calls Tryz.prog 11 #[.agg cn.toArray] w fun e w' => ∃ cs, e = .returned (.agg cs.toArray) ∧ RNod B w' n cs ∧ Below w.heap.size w w' := by
  obtain ⟨i0, hi0, hz0, hz1, hz2⟩ := info_parts infoRAttr
  obtain ⟨A, c, D, d, rfl, hs, hd, ok⟩ := hn
  have hal := ok.alen
  have HB0 := Lib.hid hB
  have HD := Lib.hid hd
  have HSR := Lib.hid hs
  have OK := Lib.hid ok
  have HA := Lib.hid (Bx.start w #[.string n.op, .slice A n.ins.length c, .string n.out, .slice D n.attrs.length d] 26)
  have HZ := Lib.hid ((Bx.two w (.cells #[.string n.op, .slice A n.ins.length c, .string n.out, .slice D n.attrs.length d] 26) #[.string ⟨#[]⟩, .slice none 0 0, .string ⟨#[]⟩, .slice none 0 0] 32).more (.cells #[.string n.op, .slice A n.ins.length c, .string n.out, .slice none 0 0] 32))
  have HX := Lib.hid ((Bx.two w (.cells #[.string n.op, .slice A n.ins.length c, .string n.out, .slice D n.attrs.length d] 26) #[.string ⟨#[]⟩, .slice none 0 0, .string ⟨#[]⟩, .slice none 0 0] 32).next #[.string n.op, .slice A n.ins.length c, .string n.out, .slice none 0 0] 32)
  rw [show ((w.alloc (.cells #[.string n.op, .slice A n.ins.length c, .string n.out, .slice D n.attrs.length d] 26)).alloc (.cells #[.string ⟨#[]⟩, .slice none 0 0, .string ⟨#[]⟩, .slice none 0 0] 32)).heap.size = w.heap.size + 1 + 1 by simp] at HX
  have HAA := Lib.hid ((HA.out.more (.cells #[.string ⟨#[]⟩, .slice none 0 0, .string ⟨#[]⟩, .slice none 0 0] 32)).more (.cells #[.string n.op, .slice A n.ins.length c, .string n.out, .slice none 0 0] 32))
  obtain ⟨a0, a1, a2, a3⟩ := HAA.out.four
  clear hs hd ok
  go_enter Tryz.func11, Tryz.ntmps11
  go_wp2_with fail
  clear a0 a1 a2 a3
  go_loopw [5, 16] (fun _ i wr => ∃ (k : Nat) (K : Int) (css : List (List Value)) (V : Value), i = .int .i64 K ∧ K = (k : Nat) ∧ k ≤ n.attrs.length ∧ Bx w (w.heap.size + 1) #[.string ⟨#[]⟩, .slice none 0 0, .string ⟨#[]⟩, .slice none 0 0] 32 wr ∧ Bx w (w.heap.size + 1 + 1) #[.string n.op, .slice A n.ins.length c, .string n.out, V] 32 wr ∧ Al (AttAt B wr) (n.attrs.take k) css ∧ wr.ownsRow w.heap.size 62 4 V k css.flatten) (fun _ i _ => n.attrs.length - (intOf i).toNat)
  case atStart => exact ⟨0, _, [], _, rfl, rfl, by omega, HZ.out, HX.out, by rw [List.take_zero]; exact trivial, World.ownsRow_nil _ _ _ _⟩
  case round =>
    obtain ⟨k, K, css, V, rfl, rfl, hk, hbz, hbx, hal2, hown⟩ := hrel
    obtain ⟨va, vc, rfl, -, -⟩ := own_form hown
    have HZ1 := Lib.hid hbz
    have HX1 := Lib.hid hbx
    have HAL := Lib.hid hal2
    have hz := hbx.all.size
    clear hbz hbx hal2 HZ HX HA HAA
    by_cases hlt : k < n.attrs.length
    · obtain ⟨b, o, cs, rfl, hbb, hp, hcx⟩ := (HD.out.below ek_att (HX1.out.all.mono HB0.out)).at_ ek_att hlt
      have HS := Lib.hid (fun (W : World) (cs : List Value) (hp : AttAt B W n.attrs[k] cs) (hal : Al (AttAt B W) (n.attrs.take k) css) => show Al (AttAt B W) (n.attrs.take (k + 1)) (css ++ [cs]) from by rw [List.take_succ_eq_append_getElem hlt]; exact hal.snoc hp)
      have HP := Lib.hid hp
      obtain ⟨A1, c1, rfl⟩ := AttAt.shape hp
      clear hp
      generalize n.attrs[k] = u at *
      have p0 := hcx 0 _ rfl
      have p1 := hcx 1 _ rfl
      have p2 := hcx 2 _ rfl
      have p3 := hcx 3 _ rfl
      simp only [Nat.add_zero] at p0
      clear hcx
      obtain ⟨x0, x1, x2, x3⟩ := (HX1.out.more (.cells #[.string u.name, .bool u.one, .int .i64 u.int, .slice A1 u.ints.length c1] 94)).four
      go_wp2_with (at_builtin; refine wpList_append_own _ rfl _ _ 30 rfl w.heap.size 62 i0 _ 4 56 Tryz.underlying30 hi0 hz0 hz1 hz2 rfl (by decide) _ _ _ rfl ((hown.alloc _).alloc _) ⟨wr.heap.size + 1, 0, none⟩ 1 1 [.string u.name, .bool u.one, .int .i64 u.int, .slice A1 u.ints.length c1] rfl rfl (cells_new2 _ _ _ _) ?c2 ?c3 ?c4 ?c5 ?_)
      case c2 => intro u hu; simp at hu; rcases hu with rfl | rfl | rfl | rfl <;> rfl
      case c3 => unfold maxLen; omega
      case c4 => omega
      case c5 => simp; omega
      intro v' w2 hown' hgrow _
      obtain ⟨va2, vc2, rfl, -, -⟩ := own_form hown'
      rw [← flatten_snoc] at hown'
      have hfar := own_far ((hown.alloc (.cells #[.string u.name, .bool u.one, .int .i64 u.int, .slice A1 u.ints.length c1] 94)).alloc (.cells #[.string u.name, .bool u.one, .int .i64 u.int, .slice A1 u.ints.length c1] 62)) ((HX1.out.more _).more _).1 (by decide)
      have hfar2 := own_far ((hown.alloc (.cells #[.string u.name, .bool u.one, .int .i64 u.int, .slice A1 u.ints.length c1] 94)).alloc (.cells #[.string u.name, .bool u.one, .int .i64 u.int, .slice A1 u.ints.length c1] 62)) ((HZ1.out.more _).more _).1 (by decide)
      have HX2 := Lib.hid (((HX1.out.more (.cells #[.string u.name, .bool u.one, .int .i64 u.int, .slice A1 u.ints.length c1] 94)).more (.cells #[.string u.name, .bool u.one, .int .i64 u.int, .slice A1 u.ints.length c1] 62)).grown hgrow hfar (fun q hq => (hown.lt q hq).1))
      have HZ2 := Lib.hid (((HZ1.out.more (.cells #[.string u.name, .bool u.one, .int .i64 u.int, .slice A1 u.ints.length c1] 94)).more (.cells #[.string u.name, .bool u.one, .int .i64 u.int, .slice A1 u.ints.length c1] 62)).grown hgrow hfar2 (fun q hq => (hown.lt q hq).1))
      have hb4 : Below w.heap.size wr w2 := ((((Below.refl w.heap.size wr).alloc hz _).alloc (by simp; omega) _).grown hgrow (by simp; omega) (fun q hq => (hown.lt q hq).1))
      have HO := Lib.hid (And.intro hown' (HS.out w2 _ (ek_att.below HP.out (hb4.mono HB0.out)) (HAL.out.mono fun _ _ hq => ek_att.below hq (hb4.mono HB0.out))))
      clear hgrow hown' hown hfar hfar2 hb4 p0 p1 p2 p3 x0 x1 x2 x3
      obtain ⟨y0, y1, y2, y3⟩ := HX2.out.four
      have f0 := fun i => HX2.out.free i
      obtain ⟨w3, hw3, hx3⟩ := name_world10 (P := fun W => Bx w (w.heap.size + 1) #[.string ⟨#[]⟩, .slice none 0 0, .string ⟨#[]⟩, .slice none 0 0] 32 W ∧ Bx w (w.heap.size + 1 + 1) #[.string n.op, .slice A n.ins.length c, .string n.out, .slice va2 (k + 1) vc2] 32 W ∧ Al (AttAt B W) (n.attrs.take (k + 1)) (css ++ [([.string u.name, .bool u.one, .int .i64 u.int, .slice A1 u.ints.length c1] : List Value)]) ∧ W.ownsRow w.heap.size 62 4 (.slice va2 (k + 1) vc2) (k + 1) (css ++ [([.string u.name, .bool u.one, .int .i64 u.int, .slice A1 u.ints.length c1] : List Value)]).flatten)
        ⟨HZ2.out.far_set (.slice va2 (k + 1) vc2) (by omega) (by omega), HX2.out.set (by omega) 3 (.slice va2 (k + 1) vc2), HO.out.2.mono fun _ _ hq => ek_att.below hq ((Below.refl B w2).setCell (p := ⟨w.heap.size + 1 + 1, 3, none⟩) (by have := HB0.out; show B ≤ w.heap.size + 1 + 1; omega) _), own_set HO.out.1 (own_far HO.out.1 HX2.out.1 (by decide)) 3 (.slice va2 (k + 1) vc2)⟩
      have HW := Lib.hid hx3
      clear hx3
      go_wp2_with fail
      go_roundw
      case rel => exact ⟨k + 1, _, _, _, rfl, by omega, by omega, HW.out.1, HW.out.2.1, HW.out.2.2.1, HW.out.2.2.2⟩
      case measure => simp [intOf]; omega
    · obtain rfl : k = n.attrs.length := by omega
      have hal := HAL.out
      rw [List.take_length] at hal
      have HO := Lib.hid (And.intro hown hal)
      clear hown hal HAL HD
      obtain ⟨x0, x1, x2, x3⟩ := HX1.out.four
      obtain ⟨z0, z1, z2, z3⟩ := HZ1.out.four
      have f0 := fun i => HZ1.out.free i
      obtain ⟨w3, hw3, hx3⟩ := name_world10 (P := fun W => Bx w (w.heap.size + 1) #[.string n.op, .slice A n.ins.length c, .string n.out, .slice va n.attrs.length vc] 32 W ∧ RNod B W n [.string n.op, .slice A n.ins.length c, .string n.out, .slice va n.attrs.length vc])
        ⟨HZ1.out.four_put (by omega) (.string n.op) (.slice A n.ins.length c) (.string n.out) (.slice va n.attrs.length vc), rnod_set4 ⟨A, c, _, rfl, HSR.out.below (HX1.out.all.mono HB0.out), ⟨css, HO.out.2, ek_att.all HO.out.2, own_base HO.out.1 HB0.out⟩, OK.out⟩ HZ1.out.1 (by decide) (by have := HB0.out; omega) (.string n.op) (.slice A n.ins.length c) (.string n.out) (.slice va n.attrs.length vc)⟩
      have HW := Lib.hid hx3
      clear hx3
      go_wp2_with fail
      obtain ⟨y0, y1, y2, y3⟩ := HW.out.1.four
      exact bodyPost_ret (v := .agg #[.string n.op, .slice A n.ins.length c, .string n.out, .slice va n.attrs.length vc]) (by simp [results, Tryz.results11, go_sem, y0, y1, y2, y3]) rfl ⟨[.string n.op, .slice A n.ins.length c, .string n.out, .slice va n.attrs.length vc], rfl, HW.out.2, HW.out.1.all⟩
end Go.Proofs.YtiniicehfjgpgaaGreat
/- The walk of the law's Small: it answers, whatever it is. -/
namespace Go.Proofs.YtiniicehfjgpgaaGreat
open Go.RowKit M7 M10 Go.Sort

structure Two2 (w : World) (bc lc : Array Value) (W : World) : Prop where
  a : Bx w w.heap.size bc 56 W
  b : Bx w (w.heap.size + 1) lc 50 W
theorem Two2.more {w W : World} {bc lc : Array Value} (h : Two2 w bc lc W) (o : Obj) : Two2 w bc lc (W.alloc o) := ⟨h.a.more o, h.b.more o⟩
theorem two_lists {w W : World} {m : Mod} {A1 A2 A3 A4 : Option Addr} {c1 c2 k : Nat} {bc : Array Value} (h : Two2 w bc #[.slice A1 m.inputs.length c1, .slice A2 m.outputs.length c2] W) (hm : ModAt w.heap.size w m A1 A2 A3 A4) (hk : k < 2) :
    ∃ (A : Option Addr) (c : Nat) (l : List Inf), W.cell? ⟨w.heap.size + 1, k, none⟩ = some (.slice A l.length c) ∧ DR InfAt w w.heap.size 3 A l ∧ l.length * 48 ≤ 140737488351232 := by
  obtain rfl | rfl : k = 0 ∨ k = 1 := by omega
  · exact ⟨A1, c1, m.inputs, h.b.cell 0, hm.inputs, hm.len1⟩
  · exact ⟨A2, c2, m.outputs, h.b.cell 1, hm.outputs, hm.len2⟩

set_option maxRecDepth 100000 in
set_option maxHeartbeats 8000000 in
theorem lsmall_any (m : Mod) (A1 A2 A3 A4 : Option Addr) (c1 c2 c3 c4 : Nat) (w : World) (hm : ModAt w.heap.size w m A1 A2 A3 A4) :
    Calls Tryz.prog 14 #[.agg (mv m.opset A1 m.inputs.length c1 A2 m.outputs.length c2 A3 m.inits.length c3 A4 m.nodes.length c4)] w fun e w' => ∃ b, e = .returned (.bool b) ∧ Below w.heap.size w w' := by
  have HM := Lib.hid hm
  obtain ⟨BC, HX0, HF⟩ : ∃ BC, Hid (Two2 w BC #[.slice A1 m.inputs.length c1, .slice A2 m.outputs.length c2] ((w.alloc (.cells #[.int .i64 m.opset, .slice A1 m.inputs.length c1, .slice A2 m.outputs.length c2, .slice A3 m.inits.length c3, .slice A4 m.nodes.length c4] 56)).alloc (.cells #[.slice A1 m.inputs.length c1, .slice A2 m.outputs.length c2] 50))) ∧ Hid (∀ W, Two2 w BC #[.slice A1 m.inputs.length c1, .slice A2 m.outputs.length c2] W → W.cell? ⟨w.heap.size, 0, none⟩ = some (.int .i64 m.opset) ∧ W.cell? ⟨w.heap.size, 1, none⟩ = some (.slice A1 m.inputs.length c1) ∧ W.cell? ⟨w.heap.size, 2, none⟩ = some (.slice A2 m.outputs.length c2) ∧ W.cell? ⟨w.heap.size, 3, none⟩ = some (.slice A3 m.inits.length c3) ∧ W.cell? ⟨w.heap.size, 4, none⟩ = some (.slice A4 m.nodes.length c4)) :=
    ⟨#[.int .i64 m.opset, .slice A1 m.inputs.length c1, .slice A2 m.outputs.length c2, .slice A3 m.inits.length c3, .slice A4 m.nodes.length c4], Lib.hid ⟨(Bx.start w #[.int .i64 m.opset, .slice A1 m.inputs.length c1, .slice A2 m.outputs.length c2, .slice A3 m.inits.length c3, .slice A4 m.nodes.length c4] 56).more (.cells #[.slice A1 m.inputs.length c1, .slice A2 m.outputs.length c2] 50), Bx.two w (.cells #[.int .i64 m.opset, .slice A1 m.inputs.length c1, .slice A2 m.outputs.length c2, .slice A3 m.inits.length c3, .slice A4 m.nodes.length c4] 56) #[.slice A1 m.inputs.length c1, .slice A2 m.outputs.length c2] 50⟩, Lib.hid fun _ h => h.a.five⟩
  obtain ⟨a0, a1, a2, a3, a4⟩ := (Bx.start w #[.int .i64 m.opset, .slice A1 m.inputs.length c1, .slice A2 m.outputs.length c2, .slice A3 m.inits.length c3, .slice A4 m.nodes.length c4] 56).five
  have hl3 := hm.len3
  have hl4 := hm.len4
  clear hm
  unfold mv
  go_enter Tryz.func14, Tryz.ntmps14
  go_wp2_with fail
  clear a0 a1 a2 a3 a4
  go_loopw [3, 5, 22] (fun s _ i wr => ∃ (k : Nat) (K N : Int), i = .int .i64 K ∧ s = .int .i64 N ∧ K = (k : Nat) ∧ k ≤ 2 ∧ Two2 w BC #[.slice A1 m.inputs.length c1, .slice A2 m.outputs.length c2] wr) (fun _ _ i _ => 2 - (intOf i).toNat)
  case atStart => exact ⟨0, _, _, rfl, rfl, rfl, by omega, HX0.out⟩
  case round =>
    obtain ⟨k0, K0, N0, rfl, rfl, rfl, hk0, hx⟩ := hrel
    have HX1 := Lib.hid hx
    clear hx
    by_cases hlt0 : k0 < 2
    · obtain ⟨A, c, l, hcell, hdr, hlen⟩ := two_lists HX1.out HM.out hlt0
      have HD := Lib.hid hdr
      clear hdr
      go_wp2_with fail
      go_loopw [3, 7, 28] (fun s _ i wr => ∃ (k : Nat) (K N : Int), i = .int .i64 K ∧ s = .int .i64 N ∧ K = (k : Nat) ∧ k ≤ l.length ∧ Two2 w BC #[.slice A1 m.inputs.length c1, .slice A2 m.outputs.length c2] wr) (fun _ _ i _ => l.length - (intOf i).toNat)
      case atStart => exact ⟨0, _, _, rfl, rfl, rfl, by omega, HX1.out⟩
      case round =>
        obtain ⟨k, K, N, rfl, rfl, rfl, hk, hx⟩ := hrel
        have HXa := Lib.hid hx
        clear hx
        by_cases hlt : k < l.length
        · obtain ⟨b, o, cs, rfl, hbb, hp, hcx⟩ := (HD.out.below ek_inf HXa.out.a.all).at_ ek_inf hlt
          obtain ⟨U1, e1, rfl⟩ := InfAt.shape hp
          clear hp
          generalize l[k] = u at *
          have p0 := hcx 0 _ rfl
          have p1 := hcx 1 _ rfl
          have p2 := hcx 2 _ rfl
          simp only [Nat.add_zero] at p0
          clear hcx
          have HY := Lib.hid (HXa.out.more (.cells #[.string u.name, .int .i64 u.kind, .slice U1 u.dims.length e1] 38))
          go_wp2_with fail
          go_roundw
          case rel => exact ⟨k + 1, _, _, rfl, rfl, by omega, by omega, HY.out⟩
          case measure => simp [intOf]; omega
        · obtain rfl : k = l.length := by omega
          go_wp2_with fail
          go_roundw
          case rel => exact ⟨k0 + 1, _, _, rfl, rfl, by omega, by omega, HXa.out⟩
          case measure => simp [intOf]; omega
    · obtain rfl : k0 = 2 := by omega
      obtain ⟨a0, a1, a2, a3, a4⟩ := HF.out _ HX1.out
      go_wp2_with fail
      clear a0 a1 a2 a3 a4 hk0 hlt0
      go_loopw [3, 9, 47] (fun s _ i wr => ∃ (k : Nat) (K N : Int), i = .int .i64 K ∧ s = .int .i64 N ∧ K = (k : Nat) ∧ k ≤ m.inits.length ∧ Two2 w BC #[.slice A1 m.inputs.length c1, .slice A2 m.outputs.length c2] wr) (fun _ _ i _ => m.inits.length - (intOf i).toNat)
      case atStart => exact ⟨0, _, _, rfl, rfl, rfl, by omega, HX1.out⟩
      case round =>
        obtain ⟨k, K, N, rfl, rfl, rfl, hk, hx⟩ := hrel
        have HX3 := Lib.hid hx
        clear hx
        by_cases hlt : k < m.inits.length
        · obtain ⟨b, o, cs, rfl, hbb, hp, hcx⟩ := (HM.out.inits.below ek_ten HX3.out.a.all).at_ ek_ten hlt
          obtain ⟨U1, e1, rfl⟩ := TenAt.shape hp
          clear hp
          generalize m.inits[k] = u at *
          have p0 := hcx 0 _ rfl
          have p1 := hcx 1 _ rfl
          have p2 := hcx 2 _ rfl
          have p3 := hcx 3 _ rfl
          simp only [Nat.add_zero] at p0
          clear hcx
          have HY := Lib.hid (HX3.out.more (.cells #[.string u.name, .int .i64 u.kind, .slice U1 u.dims.length e1, .string u.data] 98))
          go_wp2_with fail
          go_roundw
          case rel => exact ⟨k + 1, _, _, rfl, rfl, by omega, by omega, HY.out⟩
          case measure => simp [intOf]; omega
        · obtain rfl : k = m.inits.length := by omega
          obtain ⟨a0, a1, a2, a3, a4⟩ := HF.out _ HX3.out
          go_wp2_with fail
          clear a0 a1 a2 a3 a4 hk hlt
          go_loopw [3, 11, 69] (fun s _ i wr => ∃ (k : Nat) (K N : Int), i = .int .i64 K ∧ s = .int .i64 N ∧ K = (k : Nat) ∧ k ≤ m.nodes.length ∧ Two2 w BC #[.slice A1 m.inputs.length c1, .slice A2 m.outputs.length c2] wr) (fun _ _ i _ => m.nodes.length - (intOf i).toNat)
          case atStart => exact ⟨0, _, _, rfl, rfl, rfl, by omega, HX3.out⟩
          case round =>
            obtain ⟨k9, K9, N9, rfl, rfl, rfl, hk9, hx⟩ := hrel
            have HX4 := Lib.hid hx
            clear hx
            by_cases hlt9 : k9 < m.nodes.length
            · obtain ⟨w9, hw9⟩ : ∃ w9, w9 = wr := ⟨_, rfl⟩
              obtain ⟨b, o, cs, rfl, hbb, hp, hcy⟩ := HM.out.nodes.at_ ek_nod hlt9
              have hcx := fun j u (hj : cs[j]? = some u) => (HX4.out.a.all.cell (p := ⟨b, o + k9 * 4 + j, none⟩) hbb).trans (hcy j u hj)
              clear hcy
              obtain ⟨V1, f1, D1, g1, rfl, htx, hda, hnok⟩ := hp
              have HTX := Lib.hid htx
              have HDA := Lib.hid hda
              have hz1 := hnok.len
              have hz2 := hnok.alen
              clear htx hda hnok
              generalize m.nodes[k9] = v at *
              have p0 := hcx 0 _ rfl
              have p1 := hcx 1 _ rfl
              have p2 := hcx 2 _ rfl
              have p3 := hcx 3 _ rfl
              simp only [Nat.add_zero] at p0
              clear hcx
              subst hw9
              have HY4 := Lib.hid (HX4.out.more (.cells #[.string v.op, .slice V1 v.ins.length f1, .string v.out, .slice D1 v.attrs.length g1] 26))
              have HN9 := Lib.hid (HX4.out.a.next #[.string v.op, .slice V1 v.ins.length f1, .string v.out, .slice D1 v.attrs.length g1] 26)
              go_wp2_with fail
              clear p0 p1 p2 p3
              go_loopw [3, 13, 86] (fun s _ i wr => ∃ (k : Nat) (K N : Int), i = .int .i64 K ∧ s = .int .i64 N ∧ K = (k : Nat) ∧ k ≤ v.ins.length ∧ Two2 w BC #[.slice A1 m.inputs.length c1, .slice A2 m.outputs.length c2] wr ∧ Bx w w9.heap.size #[.string v.op, .slice V1 v.ins.length f1, .string v.out, .slice D1 v.attrs.length g1] 26 wr) (fun _ _ i _ => v.ins.length - (intOf i).toNat)
              case atStart => exact ⟨0, _, _, rfl, rfl, rfl, by omega, HY4.out, HN9.out⟩
              case round =>
                obtain ⟨k, K, N, rfl, rfl, rfl, hk, hx, hn⟩ := hrel
                have HX5 := Lib.hid hx
                have HN9 := Lib.hid hn
                clear hx hn
                by_cases hlt : k < v.ins.length
                · obtain ⟨b, o, rfl, hbb, p0⟩ := m_txt_at (HTX.out.below HX5.out.a.all) hlt
                  generalize v.ins[k] = u at *
                  go_wp2_with fail
                  go_roundw
                  case rel => exact ⟨k + 1, _, _, rfl, rfl, by omega, by omega, HX5.out, HN9.out⟩
                  case measure => simp [intOf]; omega
                · obtain rfl : k = v.ins.length := by omega
                  obtain ⟨b0, b1, b2, b3⟩ := HN9.out.four
                  go_wp2_with fail
                  clear b0 b1 b2 b3 hk hlt
                  go_loopw [3, 15, 99] (fun s _ i wr => ∃ (k : Nat) (K N : Int), i = .int .i64 K ∧ s = .int .i64 N ∧ K = (k : Nat) ∧ k ≤ v.attrs.length ∧ Two2 w BC #[.slice A1 m.inputs.length c1, .slice A2 m.outputs.length c2] wr) (fun _ _ i _ => v.attrs.length - (intOf i).toNat)
                  case atStart => exact ⟨0, _, _, rfl, rfl, rfl, by omega, HX5.out⟩
                  case round =>
                    obtain ⟨k, K, N, rfl, rfl, rfl, hk, hx⟩ := hrel
                    have HX6 := Lib.hid hx
                    clear hx
                    by_cases hlt : k < v.attrs.length
                    · obtain ⟨b, o, cs, rfl, hbb, hp, hcx⟩ := (HDA.out.below ek_att HX6.out.a.all).at_ ek_att hlt
                      obtain ⟨U1, e1, rfl⟩ := AttAt.shape hp
                      clear hp
                      generalize v.attrs[k] = u at *
                      have p0 := hcx 0 _ rfl
                      have p1 := hcx 1 _ rfl
                      have p2 := hcx 2 _ rfl
                      have p3 := hcx 3 _ rfl
                      simp only [Nat.add_zero] at p0
                      clear hcx
                      have HY := Lib.hid (HX6.out.more (.cells #[.string u.name, .bool u.one, .int .i64 u.int, .slice U1 u.ints.length e1] 94))
                      go_wp2_with fail
                      go_roundw
                      case rel => exact ⟨k + 1, _, _, rfl, rfl, by omega, by omega, HY.out⟩
                      case measure => simp [intOf]; omega
                    · obtain rfl : k = v.attrs.length := by omega
                      go_wp2_with fail
                      go_roundw
                      case rel => exact ⟨k9 + 1, _, _, rfl, rfl, by omega, by omega, HX6.out⟩
                      case measure => simp [intOf]; omega
            · obtain rfl : k9 = m.nodes.length := by omega
              have HB := Lib.hid HX4.out.a.all
              go_wp2_with fail
              go_ret
              exact ⟨_, rfl, HB.out⟩
end Go.Proofs.YtiniicehfjgpgaaGreat
/- The walk of the law's Small where what it counts is no more than an int bears: what it tells. -/
namespace Go.Proofs.YtiniicehfjgpgaaGreat
open Go.RowKit M7 M10 Go.Sort

def sumf {α : Type} (f : α → Nat) (l : List α) : Nat := (l.map f).sum
theorem sumf_succ {α : Type} (f : α → Nat) {l : List α} {k : Nat} (h : k < l.length) : sumf f (l.take (k + 1)) = sumf f (l.take k) + f l[k] := by
  unfold sumf
  rw [List.take_succ_eq_append_getElem h, List.map_append, List.sum_append, List.map_singleton, List.sum_singleton]
theorem sumf_le {α : Type} (f : α → Nat) (l : List α) (k : Nat) : sumf f (l.take k) ≤ sumf f l := by
  have h : sumf f l = sumf f (l.take k) + sumf f (l.drop k) := by
    unfold sumf
    rw [← List.sum_append, ← List.map_append, List.take_append_drop]
  omega
theorem sumf_nil {α : Type} (f : α → Nat) (l : List α) : sumf f (l.take 0) = 0 := by rw [List.take_zero]; rfl
theorem sumf_all {α : Type} (f : α → Nat) (l : List α) : sumf f (l.take l.length) = sumf f l := by rw [List.take_length]
def cI (i : Inf) : Nat := 1 + i.name.size + i.dims.length
def cT (t : Ten) : Nat := 1 + t.name.size + t.dims.length + t.data.size
def cS (s : ByteArray) : Nat := 1 + s.size
def cA (a : Att) : Nat := 1 + a.name.size + a.ints.length
def cN (n : Nod) : Nat := 1 + n.op.size + n.out.size + sumf cS n.ins + sumf cA n.attrs
/-- what Small counts of the first lists -/
def pre (m : Mod) (k : Nat) : Nat := if k = 0 then 0 else if k = 1 then sumf cI m.inputs else sumf cI m.inputs + sumf cI m.outputs
def cM (m : Mod) : Nat := sumf cI m.inputs + sumf cI m.outputs + sumf cT m.inits + sumf cN m.nodes
theorem two_listsX {w W : World} {m : Mod} {A1 A2 A3 A4 : Option Addr} {c1 c2 k : Nat} {bc : Array Value} (h : Two2 w bc #[.slice A1 m.inputs.length c1, .slice A2 m.outputs.length c2] W) (hm : ModAt w.heap.size w m A1 A2 A3 A4) (hk : k < 2) :
    ∃ (A : Option Addr) (c : Nat) (l : List Inf), W.cell? ⟨w.heap.size + 1, k, none⟩ = some (.slice A l.length c) ∧ DR InfAt w w.heap.size 3 A l ∧ l.length * 48 ≤ 140737488351232 ∧ pre m (k + 1) = pre m k + sumf cI l := by
  obtain rfl | rfl : k = 0 ∨ k = 1 := by omega
  · exact ⟨A1, c1, m.inputs, h.b.cell 0, hm.inputs, hm.len1, by simp [pre]⟩
  · exact ⟨A2, c2, m.outputs, h.b.cell 1, hm.outputs, hm.len2, by simp [pre]⟩
theorem pre_le (m : Mod) (k : Nat) : pre m k ≤ sumf cI m.inputs + sumf cI m.outputs := by
  unfold pre
  split
  · omega
  · split <;> omega

set_option maxRecDepth 100000 in
set_option maxHeartbeats 8000000 in
theorem lsmallX_any (m : Mod) (A1 A2 A3 A4 : Option Addr) (c1 c2 c3 c4 : Nat) (w : World) (hm : ModAt w.heap.size w m A1 A2 A3 A4) (hT : cM m ≤ 1099511627776) :
    Calls Tryz.prog 14 #[.agg (mv m.opset A1 m.inputs.length c1 A2 m.outputs.length c2 A3 m.inits.length c3 A4 m.nodes.length c4)] w fun e w' => e = .returned (.bool (decide (cM m ≤ 6000))) ∧ Below w.heap.size w w' := by
  have HM := Lib.hid hm
  obtain ⟨BC, HX0, HF⟩ : ∃ BC, Hid (Two2 w BC #[.slice A1 m.inputs.length c1, .slice A2 m.outputs.length c2] ((w.alloc (.cells #[.int .i64 m.opset, .slice A1 m.inputs.length c1, .slice A2 m.outputs.length c2, .slice A3 m.inits.length c3, .slice A4 m.nodes.length c4] 56)).alloc (.cells #[.slice A1 m.inputs.length c1, .slice A2 m.outputs.length c2] 50))) ∧ Hid (∀ W, Two2 w BC #[.slice A1 m.inputs.length c1, .slice A2 m.outputs.length c2] W → W.cell? ⟨w.heap.size, 0, none⟩ = some (.int .i64 m.opset) ∧ W.cell? ⟨w.heap.size, 1, none⟩ = some (.slice A1 m.inputs.length c1) ∧ W.cell? ⟨w.heap.size, 2, none⟩ = some (.slice A2 m.outputs.length c2) ∧ W.cell? ⟨w.heap.size, 3, none⟩ = some (.slice A3 m.inits.length c3) ∧ W.cell? ⟨w.heap.size, 4, none⟩ = some (.slice A4 m.nodes.length c4)) :=
    ⟨#[.int .i64 m.opset, .slice A1 m.inputs.length c1, .slice A2 m.outputs.length c2, .slice A3 m.inits.length c3, .slice A4 m.nodes.length c4], Lib.hid ⟨(Bx.start w #[.int .i64 m.opset, .slice A1 m.inputs.length c1, .slice A2 m.outputs.length c2, .slice A3 m.inits.length c3, .slice A4 m.nodes.length c4] 56).more (.cells #[.slice A1 m.inputs.length c1, .slice A2 m.outputs.length c2] 50), Bx.two w (.cells #[.int .i64 m.opset, .slice A1 m.inputs.length c1, .slice A2 m.outputs.length c2, .slice A3 m.inits.length c3, .slice A4 m.nodes.length c4] 56) #[.slice A1 m.inputs.length c1, .slice A2 m.outputs.length c2] 50⟩, Lib.hid fun _ h => h.a.five⟩
  obtain ⟨a0, a1, a2, a3, a4⟩ := (Bx.start w #[.int .i64 m.opset, .slice A1 m.inputs.length c1, .slice A2 m.outputs.length c2, .slice A3 m.inits.length c3, .slice A4 m.nodes.length c4] 56).five
  have hTT : cM m = sumf cI m.inputs + sumf cI m.outputs + sumf cT m.inits + sumf cN m.nodes := rfl
  have HCM := Lib.hid hTT
  have hT2 : sumf cI m.inputs + sumf cI m.outputs + sumf cT m.inits + sumf cN m.nodes ≤ 1099511627776 := by rw [← hTT]; exact hT
  clear hTT hT
  have hl3 := hm.len3
  have hl4 := hm.len4
  clear hm
  unfold mv
  go_enter Tryz.func14, Tryz.ntmps14
  go_wp2_with fail
  clear a0 a1 a2 a3 a4
  go_loopw [3, 5, 22] (fun s _ i wr => ∃ (k : Nat) (K N : Int), i = .int .i64 K ∧ s = .int .i64 N ∧ K = (k : Nat) ∧ N = ((pre m k : Nat) : Int) ∧ k ≤ 2 ∧ Two2 w BC #[.slice A1 m.inputs.length c1, .slice A2 m.outputs.length c2] wr) (fun _ _ i _ => 2 - (intOf i).toNat)
  case atStart => exact ⟨0, _, _, rfl, rfl, rfl, rfl, by omega, HX0.out⟩
  case round =>
    obtain ⟨k0, K0, N0, rfl, rfl, rfl, hN0, hk0, hx⟩ := hrel
    have hpl := pre_le m k0
    have hn0 : 0 ≤ N0 ∧ N0 ≤ 1099511627776 := by omega
    obtain ⟨hn0, hn1⟩ := hn0
    have HX1 := Lib.hid hx
    clear hx
    by_cases hlt0 : k0 < 2
    · obtain ⟨A, c, l, hcell, hdr, hlen, hpre⟩ := two_listsX HX1.out HM.out hlt0
      have hpl1 := pre_le m (k0 + 1)
      have HPRE := Lib.hid hpre
      have HN0 := Lib.hid hN0
      have hsl : (pre m k0 : Int) + (sumf cI l : Int) ≤ 1099511627776 := by omega
      have HSL := Lib.hid hsl
      clear hsl hpre hpl1 hpl
      have HD := Lib.hid hdr
      clear hdr
      go_wp2_with fail
      go_loopw [3, 7, 28] (fun s _ i wr => ∃ (k : Nat) (K N : Int), i = .int .i64 K ∧ s = .int .i64 N ∧ K = (k : Nat) ∧ N = ((pre m k0 + sumf cI (l.take k) : Nat) : Int) ∧ k ≤ l.length ∧ Two2 w BC #[.slice A1 m.inputs.length c1, .slice A2 m.outputs.length c2] wr) (fun _ _ i _ => l.length - (intOf i).toNat)
      case atStart => exact ⟨0, _, _, rfl, rfl, rfl, by rw [sumf_nil]; exact HN0.out, by omega, HX1.out⟩
      case round =>
        obtain ⟨k, K, N, rfl, rfl, rfl, hN, hk, hx⟩ := hrel
        have HNN := Lib.hid hN
        have HXa := Lib.hid hx
        clear hx
        by_cases hlt : k < l.length
        · obtain ⟨b, o, cs, rfl, hbb, hp, hcx⟩ := (HD.out.below ek_inf HXa.out.a.all).at_ ek_inf hlt
          obtain ⟨U1, e1, rfl⟩ := InfAt.shape hp
          clear hp
          have hsc := sumf_succ cI hlt
          have hsb := sumf_le cI l (k + 1)
          have hbd := HSL.out
          have hn2 : 0 ≤ N ∧ N ≤ 1099511627776 := by omega
          obtain ⟨hn2, hn3⟩ := hn2
          generalize l[k] = u at *
          have hcu : cI u = 1 + u.name.size + u.dims.length := rfl
          have hb1 : u.name.size ≤ 1099511627776 ∧ u.dims.length ≤ 1099511627776 := by omega
          obtain ⟨hb1, hb2⟩ := hb1
          have HSC := Lib.hid (And.intro hsc hcu)
          clear hsc hsb hbd hcu hN
          have p0 := hcx 0 _ rfl
          have p1 := hcx 1 _ rfl
          have p2 := hcx 2 _ rfl
          simp only [Nat.add_zero] at p0
          clear hcx
          have HY := Lib.hid (HXa.out.more (.cells #[.string u.name, .int .i64 u.kind, .slice U1 u.dims.length e1] 38))
          go_wp2_with fail
          go_roundw
          case rel => exact ⟨k + 1, _, _, rfl, rfl, by omega, by have h1 := HSC.out; have h2 := HNN.out; omega, by omega, HY.out⟩
          case measure => simp [intOf]; omega
        · obtain rfl : k = l.length := by omega
          rw [sumf_all, ← HPRE.out] at HNN
          go_wp2_with fail
          go_roundw
          case rel => exact ⟨k0 + 1, _, _, rfl, rfl, by omega, HNN.out, by omega, HXa.out⟩
          case measure => simp [intOf]; omega
    · obtain rfl : k0 = 2 := by omega
      have HN0 := Lib.hid (show N0 = ((sumf cI m.inputs + sumf cI m.outputs : Nat) : Int) from hN0)
      clear hpl hN0
      obtain ⟨a0, a1, a2, a3, a4⟩ := HF.out _ HX1.out
      go_wp2_with fail
      clear a0 a1 a2 a3 a4 hk0 hlt0
      go_loopw [3, 9, 47] (fun s _ i wr => ∃ (k : Nat) (K N : Int), i = .int .i64 K ∧ s = .int .i64 N ∧ K = (k : Nat) ∧ N = ((sumf cI m.inputs + sumf cI m.outputs + sumf cT (m.inits.take k) : Nat) : Int) ∧ k ≤ m.inits.length ∧ Two2 w BC #[.slice A1 m.inputs.length c1, .slice A2 m.outputs.length c2] wr) (fun _ _ i _ => m.inits.length - (intOf i).toNat)
      case atStart => exact ⟨0, _, _, rfl, rfl, rfl, by rw [sumf_nil]; exact HN0.out, by omega, HX1.out⟩
      case round =>
        obtain ⟨k, K, N, rfl, rfl, rfl, hN, hk, hx⟩ := hrel
        have HNN := Lib.hid hN
        have HX3 := Lib.hid hx
        clear hx
        by_cases hlt : k < m.inits.length
        · obtain ⟨b, o, cs, rfl, hbb, hp, hcx⟩ := (HM.out.inits.below ek_ten HX3.out.a.all).at_ ek_ten hlt
          obtain ⟨U1, e1, rfl⟩ := TenAt.shape hp
          clear hp
          have hsc := sumf_succ cT hlt
          have hsb := sumf_le cT m.inits (k + 1)
          have hbd := hT2
          have hn2 : 0 ≤ N ∧ N ≤ 1099511627776 := by omega
          obtain ⟨hn2, hn3⟩ := hn2
          generalize m.inits[k] = u at *
          have hcu : cT u = 1 + u.name.size + u.dims.length + u.data.size := rfl
          have hb1 : u.name.size ≤ 1099511627776 ∧ u.dims.length ≤ 1099511627776 ∧ u.data.size ≤ 1099511627776 := by omega
          obtain ⟨hb1, hb2, hb3⟩ := hb1
          have HSC := Lib.hid (And.intro hsc hcu)
          clear hsc hsb hbd hcu hN
          have p0 := hcx 0 _ rfl
          have p1 := hcx 1 _ rfl
          have p2 := hcx 2 _ rfl
          have p3 := hcx 3 _ rfl
          simp only [Nat.add_zero] at p0
          clear hcx
          have HY := Lib.hid (HX3.out.more (.cells #[.string u.name, .int .i64 u.kind, .slice U1 u.dims.length e1, .string u.data] 98))
          go_wp2_with fail
          go_roundw
          case rel => exact ⟨k + 1, _, _, rfl, rfl, by omega, by have h1 := HSC.out; have h2 := HNN.out; omega, by omega, HY.out⟩
          case measure => simp [intOf]; omega
        · obtain rfl : k = m.inits.length := by omega
          rw [sumf_all] at HNN
          clear hN
          obtain ⟨a0, a1, a2, a3, a4⟩ := HF.out _ HX3.out
          go_wp2_with fail
          clear a0 a1 a2 a3 a4 hk hlt
          go_loopw [3, 11, 69] (fun s _ i wr => ∃ (k : Nat) (K N : Int), i = .int .i64 K ∧ s = .int .i64 N ∧ K = (k : Nat) ∧ N = ((sumf cI m.inputs + sumf cI m.outputs + sumf cT m.inits + sumf cN (m.nodes.take k) : Nat) : Int) ∧ k ≤ m.nodes.length ∧ Two2 w BC #[.slice A1 m.inputs.length c1, .slice A2 m.outputs.length c2] wr) (fun _ _ i _ => m.nodes.length - (intOf i).toNat)
          case atStart => exact ⟨0, _, _, rfl, rfl, rfl, by rw [sumf_nil]; exact HNN.out, by omega, HX3.out⟩
          case round =>
            obtain ⟨k9, K9, N9, rfl, rfl, rfl, hN9, hk9, hx⟩ := hrel
            have HN9' := Lib.hid hN9
            have hs9 := sumf_le cN m.nodes k9
            have hn9 : 0 ≤ N9 ∧ N9 ≤ 1099511627776 := by omega
            obtain ⟨hn9, hn10⟩ := hn9
            clear hs9
            have HX4 := Lib.hid hx
            clear hx
            by_cases hlt9 : k9 < m.nodes.length
            · obtain ⟨w9, hw9⟩ : ∃ w9, w9 = wr := ⟨_, rfl⟩
              obtain ⟨b, o, cs, rfl, hbb, hp, hcy⟩ := HM.out.nodes.at_ ek_nod hlt9
              have hcx := fun j u (hj : cs[j]? = some u) => (HX4.out.a.all.cell (p := ⟨b, o + k9 * 4 + j, none⟩) hbb).trans (hcy j u hj)
              clear hcy
              obtain ⟨V1, f1, D1, g1, rfl, htx, hda, hnok⟩ := hp
              have HTX := Lib.hid htx
              have HDA := Lib.hid hda
              have hz1 := hnok.len
              have hz2 := hnok.alen
              clear htx hda hnok
              have hsc9 := sumf_succ cN hlt9
              have hsb9 := sumf_le cN m.nodes (k9 + 1)
              generalize m.nodes[k9] = v at *
              have hcv : cN v = 1 + v.op.size + v.out.size + sumf cS v.ins + sumf cA v.attrs := rfl
              have hbv : N9 + (1 + (v.op.size : Int) + (v.out.size : Int) + (sumf cS v.ins : Int) + (sumf cA v.attrs : Int)) ≤ 1099511627776 := by omega
              have HBV := Lib.hid hbv
              have hb1 : v.op.size ≤ 1099511627776 ∧ v.out.size ≤ 1099511627776 := by omega
              obtain ⟨hb1, hb2⟩ := hb1
              have HSC9 := Lib.hid (And.intro hsc9 hcv)
              clear hsc9 hsb9 hcv hbv hN9
              have p0 := hcx 0 _ rfl
              have p1 := hcx 1 _ rfl
              have p2 := hcx 2 _ rfl
              have p3 := hcx 3 _ rfl
              simp only [Nat.add_zero] at p0
              clear hcx
              subst hw9
              have HY4 := Lib.hid (HX4.out.more (.cells #[.string v.op, .slice V1 v.ins.length f1, .string v.out, .slice D1 v.attrs.length g1] 26))
              have HN9 := Lib.hid (HX4.out.a.next #[.string v.op, .slice V1 v.ins.length f1, .string v.out, .slice D1 v.attrs.length g1] 26)
              go_wp2_with fail
              clear p0 p1 p2 p3
              go_loopw [3, 13, 86] (fun s _ i wr => ∃ (k : Nat) (K N : Int), i = .int .i64 K ∧ s = .int .i64 N ∧ K = (k : Nat) ∧ N = N9 + (1 + (v.op.size : Int) + (v.out.size : Int)) + ((sumf cS (v.ins.take k) : Nat) : Int) ∧ k ≤ v.ins.length ∧ Two2 w BC #[.slice A1 m.inputs.length c1, .slice A2 m.outputs.length c2] wr ∧ Bx w w9.heap.size #[.string v.op, .slice V1 v.ins.length f1, .string v.out, .slice D1 v.attrs.length g1] 26 wr) (fun _ _ i _ => v.ins.length - (intOf i).toNat)
              case atStart => exact ⟨0, _, _, rfl, rfl, rfl, by rw [sumf_nil]; omega, by omega, HY4.out, HN9.out⟩
              case round =>
                obtain ⟨k, K, N, rfl, rfl, rfl, hN, hk, hx, hn⟩ := hrel
                have HNN := Lib.hid hN
                have HX5 := Lib.hid hx
                have HN9 := Lib.hid hn
                clear hx hn
                by_cases hlt : k < v.ins.length
                · obtain ⟨b, o, rfl, hbb, p0⟩ := m_txt_at (HTX.out.below HX5.out.a.all) hlt
                  have hsc := sumf_succ cS hlt
                  have hsb := sumf_le cS v.ins (k + 1)
                  have hbd := HBV.out
                  have hn2 : 0 ≤ N ∧ N ≤ 1099511627776 := by omega
                  obtain ⟨hn2, hn3⟩ := hn2
                  generalize v.ins[k] = u at *
                  have hcu : cS u = 1 + u.size := rfl
                  have hb3 : u.size ≤ 1099511627776 := by omega
                  have HSC := Lib.hid (And.intro hsc hcu)
                  clear hsc hsb hbd hcu hN
                  go_wp2_with fail
                  go_roundw
                  case rel => exact ⟨k + 1, _, _, rfl, rfl, by omega, by have h1 := HSC.out; have h2 := HNN.out; omega, by omega, HX5.out, HN9.out⟩
                  case measure => simp [intOf]; omega
                · obtain rfl : k = v.ins.length := by omega
                  rw [sumf_all] at HNN
                  clear hN
                  obtain ⟨b0, b1, b2, b3⟩ := HN9.out.four
                  go_wp2_with fail
                  clear b0 b1 b2 b3 hk hlt
                  go_loopw [3, 15, 99] (fun s _ i wr => ∃ (k : Nat) (K N : Int), i = .int .i64 K ∧ s = .int .i64 N ∧ K = (k : Nat) ∧ N = N9 + (1 + (v.op.size : Int) + (v.out.size : Int)) + (sumf cS v.ins : Int) + ((sumf cA (v.attrs.take k) : Nat) : Int) ∧ k ≤ v.attrs.length ∧ Two2 w BC #[.slice A1 m.inputs.length c1, .slice A2 m.outputs.length c2] wr) (fun _ _ i _ => v.attrs.length - (intOf i).toNat)
                  case atStart => exact ⟨0, _, _, rfl, rfl, rfl, by rw [sumf_nil]; have := HNN.out; omega, by omega, HX5.out⟩
                  case round =>
                    obtain ⟨k, K, N, rfl, rfl, rfl, hN, hk, hx⟩ := hrel
                    have HNF := Lib.hid hN
                    have HX6 := Lib.hid hx
                    clear hx
                    by_cases hlt : k < v.attrs.length
                    · obtain ⟨b, o, cs, rfl, hbb, hp, hcx⟩ := (HDA.out.below ek_att HX6.out.a.all).at_ ek_att hlt
                      obtain ⟨U1, e1, rfl⟩ := AttAt.shape hp
                      clear hp
                      have hsc := sumf_succ cA hlt
                      have hsb := sumf_le cA v.attrs (k + 1)
                      have hbd := HBV.out
                      have hn2 : 0 ≤ N ∧ N ≤ 1099511627776 := by omega
                      obtain ⟨hn2, hn3⟩ := hn2
                      generalize v.attrs[k] = u at *
                      have hcu : cA u = 1 + u.name.size + u.ints.length := rfl
                      have hb3 : u.name.size ≤ 1099511627776 ∧ u.ints.length ≤ 1099511627776 := by omega
                      obtain ⟨hb3, hb4⟩ := hb3
                      have HSC := Lib.hid (And.intro hsc hcu)
                      clear hsc hsb hbd hcu hN
                      have p0 := hcx 0 _ rfl
                      have p1 := hcx 1 _ rfl
                      have p2 := hcx 2 _ rfl
                      have p3 := hcx 3 _ rfl
                      simp only [Nat.add_zero] at p0
                      clear hcx
                      have HY := Lib.hid (HX6.out.more (.cells #[.string u.name, .bool u.one, .int .i64 u.int, .slice U1 u.ints.length e1] 94))
                      go_wp2_with fail
                      go_roundw
                      case rel => exact ⟨k + 1, _, _, rfl, rfl, by omega, by have h1 := HSC.out; have h2 := HNF.out; omega, by omega, HY.out⟩
                      case measure => simp [intOf]; omega
                    · obtain rfl : k = v.attrs.length := by omega
                      rw [sumf_all] at HNF
                      clear hN
                      go_wp2_with fail
                      go_roundw
                      case rel => exact ⟨k9 + 1, _, _, rfl, rfl, by omega, by have h1 := HSC9.out; have h2 := HNF.out; have h3 := HN9'.out; omega, by omega, HX6.out⟩
                      case measure => simp [intOf]; omega
            · obtain rfl : k9 = m.nodes.length := by omega
              have HB := Lib.hid HX4.out.a.all
              rw [sumf_all, ← HCM.out] at HN9'
              have HDE := Lib.hid (show decide (N9 ≤ 6000) = decide (cM m ≤ 6000) by have := HN9'.out; rw [decide_eq_decide]; omega)
              clear hN9
              cases hd : decide (N9 ≤ 6000)
              · rw [hd] at HDE
                have hd2 : ¬ N9 ≤ 6000 := of_decide_eq_false hd
                go_wp2_with fail
                go_ret
                rw [← HDE.out]
                exact ⟨rfl, HB.out⟩
              · rw [hd] at HDE
                have hd2 : N9 ≤ 6000 := of_decide_eq_true hd
                go_wp2_with fail
                go_ret
                rw [← HDE.out]
                exact ⟨rfl, HB.out⟩
end Go.Proofs.YtiniicehfjgpgaaGreat
/- The law's Infos once more: the infos' own lists lie where they lay, the row is new. -/
namespace Go.Proofs.YtiniicehfjgpgaaGreat
open Go.RowKit M7 M10 Go.Sort

def InfB (B B' : Nat) (w : World) (i : Inf) (cs : List Value) : Prop := InfAt B w i cs ∧ B ≤ B'
theorem ek_infB (B : Nat) : Ek (InfB B) 3 := ⟨fun h => ek_inf.len h.1, fun h hb => ⟨ek_inf.below h.1 (hb.mono h.2), h.2⟩, fun h hB => ⟨h.1, Nat.le_trans h.2 hB⟩⟩

set_option maxRecDepth 100000 in
theorem linfosX_any (B : Nat) (l : List Inf) (A : Option Addr) (c : Nat) (w : World) (hB : B ≤ w.heap.size) (hl : l.length * 48 ≤ 140737488351232) (ha : DR (InfB B) w w.heap.size 3 A l) :
    Calls Tryz.prog 13 #[.slice A l.length c] w fun e w' => ∃ v, e = .returned v ∧ RR InfAt w' B 42 3 v l ∧ (∀ g, v.ownBlock = some g → w.heap.size ≤ g) ∧ Below w.heap.size w w' := by
  obtain ⟨i0, hi0, hz0, hz1, hz2⟩ := info_parts infoRInfo
  have HB0 := Lib.hid hB
  go_enter Tryz.func13, Tryz.ntmps13
  go_wp2_with fail
  go_loopw [3, 5, 8] (fun v _ i wr => ∃ (k : Nat) (K : Int) (css : List (List Value)), i = .int .i64 K ∧ K = (k : Nat) ∧ k ≤ l.length ∧ Al (InfAt B wr) (l.take k) css ∧ wr.ownsRow w.heap.size 42 3 v k css.flatten ∧ Below w.heap.size w wr) (fun _ _ i _ => l.length - (intOf i).toNat)
  case atStart => exact ⟨0, _, [], rfl, rfl, by omega, by rw [List.take_zero]; exact trivial, World.ownsRow_nil _ _ _ _, Below.refl _ _⟩
  case round =>
    obtain ⟨k, K, css, rfl, rfl, hk, hal, hown, hb⟩ := hrel
    obtain ⟨V, vc, rfl, -, -⟩ := own_form hown
    have HAL := Lib.hid hal
    clear hal
    by_cases hlt : k < l.length
    · obtain ⟨b, o, cs, rfl, hbb, hp, hcx⟩ := (ha.below (ek_infB B) hb).at_ (ek_infB B) hlt
      obtain ⟨hp, -⟩ := hp
      have hz := hb.size
      have HS := Lib.hid (fun (W : World) (cs : List Value) (hp : InfAt B W l[k] cs) (hal : Al (InfAt B W) (l.take k) css) => show Al (InfAt B W) (l.take (k + 1)) (css ++ [cs]) from by rw [List.take_succ_eq_append_getElem hlt]; exact hal.snoc hp)
      have HB := Lib.hid hb
      have HP := Lib.hid hp
      clear hb
      obtain ⟨A1, c1, rfl⟩ := InfAt.shape hp
      clear hp
      generalize l[k] = u at *
      have p0 := hcx 0 _ rfl
      have p1 := hcx 1 _ rfl
      have p2 := hcx 2 _ rfl
      simp only [Nat.add_zero] at p0
      clear hcx
      go_wp2_with (at_builtin; refine wpList_append_own _ rfl _ _ 48 rfl w.heap.size 42 i0 _ 3 48 Tryz.underlying48 hi0 hz0 hz1 hz2 rfl (by decide) _ _ _ rfl ((hown.alloc _).alloc _) ⟨wr.heap.size + 1, 0, none⟩ 1 1 [.string u.name, .int .i64 u.kind, .slice A1 u.dims.length c1] rfl rfl (cells_new2 _ _ _ _) ?c2 ?c3 ?c4 ?c5 ?_)
      case c2 => intro u hu; simp at hu; rcases hu with rfl | rfl | rfl <;> rfl
      case c3 => unfold maxLen; omega
      case c4 => omega
      case c5 => simp; omega
      intro v' w2 hown' hgrow _
      rw [← flatten_snoc] at hown'
      have hb3 := ((HB.out.alloc hz _).alloc (by simp; omega) _).grown hgrow (by simp; omega) (fun q hq => (hown.lt q hq).1)
      have hb4 : Below w.heap.size wr w2 := ((((Below.refl w.heap.size wr).alloc hz _).alloc (by simp; omega) _).grown hgrow (by simp; omega) (fun q hq => (hown.lt q hq).1))
      have HO := Lib.hid (And.intro hown' (And.intro hb3 (HS.out w2 _ (ek_inf.below HP.out (hb4.mono HB0.out)) (HAL.out.mono fun _ _ hq => ek_inf.below hq (hb4.mono HB0.out)))))
      clear hgrow hown' hown hb3 hb4 p0 p1 p2
      go_wp2_with fail
      go_roundw
      case rel => exact ⟨k + 1, _, _, rfl, by omega, by omega, HO.out.2.2, HO.out.1, HO.out.2.1⟩
      case measure => simp [intOf]; omega
    · obtain rfl : k = l.length := by omega
      have hal := HAL.out
      rw [List.take_length] at hal
      have HO := Lib.hid (And.intro hown (And.intro hb hal))
      clear hown hb hal HAL
      go_wp2_with fail
      go_ret
      exact ⟨_, rfl, ⟨css, HO.out.2.2, ek_inf.all HO.out.2.2, own_base HO.out.1 HB0.out⟩, fun g hg => (own_blk HO.out.1 hg).1, HO.out.2.1⟩
/-- the infos of one info: its one element -/
theorem rr_oneX {w : World} {B : Nat} {v : Value} {i : Inf} (h : RR InfAt w B 42 3 v [i]) :
    ∃ g c A k, v = .slice (some ⟨g, 0, none⟩) 1 c ∧ g < w.heap.size ∧ w.cell? ⟨g, 0, none⟩ = some (.string i.name) ∧ w.cell? ⟨g, 1, none⟩ = some (.int .i64 i.kind) ∧ w.cell? ⟨g, 2, none⟩ = some (.slice A i.dims.length k) ∧ InfAt B w i [.string i.name, .int .i64 i.kind, .slice A i.dims.length k] := by
  obtain ⟨css, hal, hcl, hown⟩ := h
  obtain ⟨g, c, cur, rfl, -, hg⟩ := own_addr hown (by simp)
  match css, hal with
  | [cs], hal =>
    obtain ⟨A, k, rfl⟩ := InfAt.shape hal.1
    exact ⟨g, c, A, k, rfl, blk_lt hg, hown.cellAt 0 (by simp), hown.cellAt 1 (by simp), hown.cellAt 2 (by simp), hal.1⟩
theorem dr_litX (w : World) (B : Nat) (i : Inf) (A : Option Addr) (k : Nat) (T : TypeId) (hB : B ≤ w.heap.size) (h : InfAt B w i [.string i.name, .int .i64 i.kind, .slice A i.dims.length k]) :
    DR (InfB B) (w.alloc (.cells #[.string i.name, .int .i64 i.kind, .slice A i.dims.length k] T)) (w.alloc (.cells #[.string i.name, .int .i64 i.kind, .slice A i.dims.length k] T)).heap.size 3 (some ⟨w.heap.size, 0, none⟩) [i] := by
  have hz : (w.alloc (.cells #[.string i.name, .int .i64 i.kind, .slice A i.dims.length k] T)).heap.size = w.heap.size + 1 := by simp
  rw [hz]
  exact ⟨[[.string i.name, .int .i64 i.kind, .slice A i.dims.length k]], ⟨⟨ek_inf.below h (((Below.refl _ _).alloc (Nat.le_refl _) _).mono hB), by omega⟩, trivial⟩, SR.lit w _ T rfl⟩
/-- a held region's condition made stronger on the way -/
theorem wpAnyH_weaken {P : Program} {md : Region.Mode} {ops : Array Oper} {Q : Exit → Act → World → Prop} {S S' : World → Prop} (hS : ∀ w, S' w → S w) :
    ∀ (fuel : Nat) (listed : Array Bool) (a : Act) (w : World), wpAnyH P md ops Q S' fuel listed a w → wpAnyH P md ops Q S fuel listed a w
  | 0, _, _, _, h => h
  | fuel + 1, _, _, _, h => ⟨h.1, fun i hi => wpOp_mono (fun a' w' h' => ⟨hS _ h'.1, wpAnyH_weaken hS fuel _ a' w' h'.2⟩) (h.2 i hi)⟩
end Go.Proofs.YtiniicehfjgpgaaGreat
/- Arguments that are a node and an info, opened with what they count: no more than the bulk of what is read. -/
namespace Go.Proofs.YtiniicehfjgpgaaGreat
open Go.RowKit M7 M10 Go.ChangeShapes Go.WideShapes Go.Deep

theorem bulk_one {H : Type} (d : DataW H) : 1 ≤ Rows.uptoBulk d := by
  cases d with
  | lit l => cases l <;> simp [Rows.uptoBulk]
  | nil => simp [Rows.uptoBulk]
  | ptr d => simp [Rows.uptoBulk]
  | slice elems spare => simp [Rows.uptoBulk]
  | agg parts => simp [Rows.uptoBulk]
  | iface t d => simp [Rows.uptoBulk]
  | map entries => simp [Rows.uptoBulk]
  | held h => simp [Rows.uptoBulk]
theorem bulk_slice {H : Type} (a b : List (DataW H)) : Rows.uptoBulkAll a + 1 ≤ Rows.uptoBulk (.slice a b) := by
  simp only [Rows.uptoBulk]; omega
theorem bulk_text {H : Type} (b : List UInt8) : Rows.uptoBulk (DataW.lit (H := H) (.string b)) = b.length + 1 := by simp [Rows.uptoBulk]
theorem sumf_one {α : Type} (l : List α) : sumf (fun _ => 1) l = l.length := by
  induction l with
  | nil => rfl
  | cons a l ih => unfold sumf at *; simp only [List.map_cons, List.sum_cons, ih, List.length_cons]; omega
theorem sumf_bulk {H α : Type} {f : Nat → α} {D : Nat → DataW H} {cost : α → Nat} : ∀ (r : List Nat), (∀ i ∈ r, cost (f i) ≤ Rows.uptoBulk (D i)) → sumf cost (r.map f) ≤ Rows.uptoBulkAll (r.map D)
  | [], _ => Nat.zero_le _
  | i :: r, h => by
    have h1 := sumf_bulk r fun j hj => h j (List.mem_cons_of_mem _ hj)
    have h2 := h i List.mem_cons_self
    have e : sumf cost ((i :: r).map f) = cost (f i) + sumf cost (r.map f) := by unfold sumf; simp
    rw [e, List.map_cons, Rows.uptoBulkAll]
    omega
theorem agg_three {H : Type} {l : List (DataW H)} {a b c : DataW H} (hl : l.length = 3) (h0 : l[0]? = some a) (h1 : l[1]? = some b) (h2 : l[2]? = some c) : Rows.uptoBulk (.agg l) = Rows.uptoBulk a + Rows.uptoBulk b + Rows.uptoBulk c + 1 := by
  match l, hl with
  | [x, y, z], _ =>
    simp only [List.getElem?_cons_zero, List.getElem?_cons_succ, Option.some.injEq] at h0 h1 h2
    subst h0; subst h1; subst h2
    simp only [Rows.uptoBulk, Rows.uptoBulkAll]; omega
theorem agg_four {H : Type} {l : List (DataW H)} {a b c d : DataW H} (hl : l.length = 4) (h0 : l[0]? = some a) (h1 : l[1]? = some b) (h2 : l[2]? = some c) (h3 : l[3]? = some d) : Rows.uptoBulk (.agg l) = Rows.uptoBulk a + Rows.uptoBulk b + Rows.uptoBulk c + Rows.uptoBulk d + 1 := by
  match l, hl with
  | [x, y, z, u], _ =>
    simp only [List.getElem?_cons_zero, List.getElem?_cons_succ, Option.some.injEq] at h0 h1 h2 h3
    subst h0; subst h1; subst h2; subst h3
    simp only [Rows.uptoBulk, Rows.uptoBulkAll]; omega
section
variable {H : Type} {enc : TypeId × Value → H} {P : Program} {w : World} {base : Nat} {spare : Nat → Bool} {held : Bool}
theorem open_deepC {α : Type} [Inhabited α] (size : Nat) (hpos : 0 < size) (Q : α → List Value → Prop) (cost : α → Nat) {t e : TypeId} (ht : P.underlying t = some (.slice e)) (hc : P.cellsOf e = size)
    (elem : ∀ n cs x, DataW.trod enc P w base spare held n e cs = some x → cs.length = size → (∀ n ∈ x.1.weights P e, n ≤ reachBytes) → ∃ a, Q a cs ∧ cost a ≤ Rows.uptoBulk x.1)
    {fuel : Nat} {cs : List Value} {x : DataW H × List MemPlace} (h : DataW.trod enc P w base spare held fuel t cs = some x) (hz : ∀ n ∈ x.1.weights P t, n ≤ reachBytes) :
    ∃ (A : Option Addr) (c : Nat) (l : List α) (css : List (List Value)), cs = [.slice A l.length c] ∧ l.length = css.length ∧ (∀ k (h1 : k < l.length) (h2 : k < css.length), Q l[k] css[k]) ∧ (∀ c ∈ css, c.length = size) ∧
      SR w w.heap.size size A l.length css.flatten ∧ l.length * P.bytesOf e ≤ reachBytes ∧ sumf cost l ≤ Rows.uptoBulk x.1 := by
  rcases open_slice ht h with ⟨rfl, rfl⟩ | ⟨a, len, cap, m, n, D, Pl, rfl, hb, hl, hm, hmm, rfl, hx⟩
  · exact ⟨none, 0, [], [], rfl, rfl, fun k h1 => absurd h1 (by simp), by simp, SR.empty _ _ _ _, by simp, Nat.zero_le _⟩
  · have hlm : len ≤ m := by rw [hmm]; split <;> omega
    rw [hc] at hx
    have hw : ∀ i, i < len → ∀ n ∈ (D i).weights P e, n ≤ reachBytes := by
      intro i hi n hn
      refine hz n ?_
      simp only [DataW.weights, ht]
      exact List.mem_cons_of_mem _ (List.mem_append_left _ (weights_deep (List.mem_map.2 ⟨i, List.mem_range.2 hi, rfl⟩) n hn))
    have hone : ∀ i, i < len → ∃ q : α × List Value, (Q q.1 q.2 ∧ cost q.1 ≤ Rows.uptoBulk (D i)) ∧ q.2.length = size ∧ ∀ j, j < size → w.cell? ((a.add (i * size)).add j) = q.2[j]? := by
      intro i hi
      obtain ⟨cs', h1, h2⟩ := hx i (by omega)
      obtain ⟨_, hlen, hcell⟩ := World.cells?_some h1
      obtain ⟨v, hv⟩ := elem _ _ _ h2 hlen (hw i hi)
      exact ⟨(v, cs'), hv, hlen, hcell⟩
    obtain ⟨F, hF⟩ := choose_lt hone
    have hlen : ((List.range len).map fun i => (F i).1).length = len := by simp
    have hszs : ∀ c ∈ (List.range len).map fun i => (F i).2, c.length = size := by
      intro c hc'
      obtain ⟨i, hi, rfl⟩ := List.mem_map.1 hc'
      exact (hF i (List.mem_range.1 hi)).2.1
    refine ⟨some a, cap, (List.range len).map fun i => (F i).1, (List.range len).map fun i => (F i).2, by rw [hlen], by simp, ?_, hszs, ⟨?_, ?_⟩, ?_, ?_⟩
    · intro k h1 h2
      simp only [List.getElem_map, List.getElem_range]
      exact (hF k (by simpa using h1)).1.1
    · rw [flat_len_deep hszs]; simp
    · intro h0
      rw [hlen] at h0
      have hcell0 := (hF 0 h0).2.2 0 hpos
      have hl0 := (hF 0 h0).2.1
      rw [List.getElem?_eq_getElem (by omega)] at hcell0
      have h00 : w.cell? a = some ((F 0).2[0]'(by omega)) := by simpa [Addr.add] using hcell0
      obtain ⟨ha, hab⟩ := plain_cell h00
      refine ⟨a.block, a.off, by rw [← ha], hab, fun j u hj => ?_⟩
      have hjl := (List.getElem?_eq_some_iff.1 hj).1
      rw [flat_len_deep hszs] at hjl
      simp only [List.length_map, List.length_range] at hjl
      have hk : j / size < len := Nat.div_lt_of_lt_mul (by rw [Nat.mul_comm]; exact hjl)
      have hr : j % size < size := Nat.mod_lt _ hpos
      have hjd : j / size * size + j % size = j := by rw [Nat.mul_comm]; exact Nat.div_add_mod j size
      have hat := flat_at_deep (size := size) hszs (k := j / size) (by simpa using hk) (j % size) hr
      rw [hjd] at hat
      rw [hat] at hj
      simp only [List.getElem_map, List.getElem_range] at hj
      have hcl := (hF (j / size) hk).2.2 (j % size) hr
      rw [hj, ha, Addr.add_mid, Addr.add_mid] at hcl
      rw [← hjd, ← Nat.add_assoc]
      exact hcl
    · have hw3 := hz ((((List.range len).map D).length + ((List.range (m - len)).map fun j => D (len + j)).length) * P.bytesOf e) (by simp only [DataW.weights, ht]; exact List.mem_cons_self)
      rw [hlen]
      simp only [List.length_map, List.length_range] at hw3
      exact Nat.le_trans (Nat.mul_le_mul_right _ (by omega)) hw3
    · have h1 := sumf_bulk (f := fun i => (F i).1) (D := D) (cost := cost) (List.range len) fun i hi => (hF i (List.mem_range.1 hi)).1.2
      have h2 := bulk_slice ((List.range len).map D) ((List.range (m - len)).map fun j => D (len + j))
      exact Nat.le_trans h1 (Nat.le_trans (Nat.le_succ _) h2)
theorem open_fieldsC {e : TypeId} {fs : Array Field} {ts : List TypeId} (hu : P.underlying e = some (.struct fs)) (ho : fs.toList.map (fun f => (f.offset, f.type)) = (List.range ts.length).zip ts) (h1 : ∀ t ∈ ts, P.cellsOf t = 1)
    {fuel : Nat} {cs : List Value} {x : DataW H × List MemPlace} (h : DataW.trod enc P w base spare held fuel e cs = some x) (hcs : cs.length = ts.length) (hz : ∀ n ∈ x.1.weights P e, n ≤ reachBytes) :
    ∃ n parts, x.1 = .agg parts ∧ parts.length = ts.length ∧ ∀ i (hi : i < ts.length) (hc : i < cs.length), ∃ y, DataW.trod enc P w base spare held n ts[i] [cs[i]] = some y ∧ (∀ n ∈ y.1.weights P ts[i], n ≤ reachBytes) ∧ parts[i]? = some y.1 := by
  obtain ⟨xs, n, rfl, rfl, hlen, hxl, hf⟩ := DataW.trod_struct hu h
  have hfl : fs.toList.length = ts.length := by
    have := congrArg List.length ho
    simpa using this
  refine ⟨n, xs.map fun y => y.1, rfl, by rw [List.length_map, hxl]; simpa using hfl, fun i hi hc => ?_⟩
  have hif : i < fs.toList.length := by omega
  have hget := congrArg (fun l => l[i]?) ho
  simp only [List.getElem?_map, List.getElem?_eq_getElem hif, Option.map_some] at hget
  rw [List.getElem?_eq_getElem (by simp; omega)] at hget
  simp only [List.getElem_zip, List.getElem_range, Option.some.injEq, Prod.mk.injEq] at hget
  have hfi := hf i fs.toList[i] (by rw [← Array.getElem?_toList, List.getElem?_eq_getElem hif])
  rw [hget.1, hget.2, h1 _ (List.getElem_mem hi)] at hfi
  have hdt : (cs.drop i).take 1 = [cs[i]] := by rw [List.drop_eq_getElem_cons hc]; rfl
  rw [hdt] at hfi
  have hix : i < xs.length := by rw [hxl]; simpa using hif
  rw [List.getElem?_eq_getElem hix] at hfi
  refine ⟨xs[i], hfi, fun n hn => hz n ?_, by rw [List.getElem?_map, List.getElem?_eq_getElem hix]; rfl⟩
  simp only [DataW.weights, hu]
  exact DataW.weights_mem_each (j := i) (t := ts[i]) (d := xs[i].1) (by rw [List.getElem?_map, List.getElem?_eq_getElem hif, ← hget.2]; rfl) (by rw [List.getElem?_map, List.getElem?_eq_getElem hix]; rfl) n hn
end
section
variable {H : Type} {enc : TypeId × Value → H} {w : World} {base : Nat} {spare : Nat → Bool} {held : Bool}
theorem deep_intsC {fuel : Nat} {c : Value} {y : DataW H × List MemPlace} (h : DataW.trod enc Tryz.prog w base spare held fuel 36 [c] = some y) (hz : ∀ n ∈ y.1.weights Tryz.prog 36, n ≤ reachBytes) :
    ∃ (A : Option Addr) (cc : Nat) (l : List Int), c = .slice A l.length cc ∧ SR w w.heap.size 1 A l.length (iv l) ∧ l.length * 8 ≤ 140737488351232 ∧ (∀ n ∈ l, I64 n) ∧ l.length ≤ Rows.uptoBulk y.1 := by
  obtain ⟨A, cc, l, css, e, hl, hq, _, hs, hb, hcost⟩ := open_deepC 1 (by omega) (fun (a : Int) cs => cs = [.int .i64 a] ∧ I64 a) (fun _ => 1) Tryz.underlying36 (by kernel_rfl) (fun n cs x hx _ _ => by
    obtain ⟨a, e, -, hw⟩ := DataW.trod_int Tryz.underlying2 hx
    exact ⟨a, ⟨e, bounds_i64 hw⟩, bulk_one _⟩) h hz
  simp only [List.cons.injEq, and_true] at e
  rw [bytesInt10, reach10] at hb
  rw [one_flat (mk := Value.int .i64) hl (fun k h1 h2 => (hq k h1 h2).1)] at hs
  refine ⟨A, cc, l, e, hs, hb, fun n hn => ?_, by rw [sumf_one] at hcost; exact hcost⟩
  obtain ⟨k, hk, rfl⟩ := List.mem_iff_getElem.1 hn
  exact (hq k hk (by omega)).2
theorem deep_textC {fuel : Nat} {c : Value} {y : DataW H × List MemPlace} (h : DataW.trod enc Tryz.prog w base spare held fuel 9 [c] = some y) (hz : ∀ n ∈ y.1.weights Tryz.prog 9, n ≤ reachBytes) :
    ∃ s : ByteArray, c = .string s ∧ s.size ≤ 140737488351232 ∧ 1 + s.size ≤ Rows.uptoBulk y.1 := by
  obtain ⟨a, e, r, _⟩ := DataW.trod_string Tryz.underlying9 h
  simp only [List.cons.injEq, and_true] at e
  refine ⟨a, e, ?_, by rw [r, bulk_text]; simp; omega⟩
  have := hz a.data.toList.length (by rw [r]; simp [DataW.weights])
  rw [reach10] at this
  simpa using this
theorem deep_textsC {fuel : Nat} {c : Value} {y : DataW H × List MemPlace} (h : DataW.trod enc Tryz.prog w base spare held fuel 23 [c] = some y) (hz : ∀ n ∈ y.1.weights Tryz.prog 23, n ≤ reachBytes) :
    ∃ (A : Option Addr) (cc : Nat) (l : List ByteArray), c = .slice A l.length cc ∧ SR w w.heap.size 1 A l.length (m_tx l) ∧ l.length * 16 ≤ 140737488351232 ∧ (∀ n ∈ l, n.size ≤ 140737488351232) ∧ sumf cS l ≤ Rows.uptoBulk y.1 := by
  obtain ⟨A, cc, l, css, e, hl, hq, _, hs, hb, hcost⟩ := open_deepC 1 (by omega) (fun (a : ByteArray) cs => cs = [.string a] ∧ a.size ≤ 140737488351232) cS Tryz.underlying23 (by kernel_rfl) (fun n cs x hx hcl hw => by
    match cs, hcl with
    | [c], _ =>
      obtain ⟨a, e, hs, hbk⟩ := deep_textC hx hw
      exact ⟨a, ⟨by rw [e], hs⟩, hbk⟩) h hz
  simp only [List.cons.injEq, and_true] at e
  rw [bytesStr10, reach10] at hb
  rw [one_flat (mk := Value.string) hl (fun k h1 h2 => (hq k h1 h2).1)] at hs
  refine ⟨A, cc, l, e, hs, hb, fun n hn => ?_, hcost⟩
  obtain ⟨k, hk, rfl⟩ := List.mem_iff_getElem.1 hn
  exact (hq k hk (by omega)).2
set_option maxRecDepth 100000 in
theorem deep_infC {fuel : Nat} {cs : List Value} {x : DataW H × List MemPlace} (h : DataW.trod enc Tryz.prog w base spare held fuel 38 cs = some x) (hcs : cs.length = 3) (hz : ∀ n ∈ x.1.weights Tryz.prog 38, n ≤ reachBytes) :
    ∃ i, InfAt w.heap.size w i cs ∧ cI i ≤ Rows.uptoBulk x.1 := by
  have ho := off_inf
  cases hu : Tryz.prog.underlying 38 with
  | none => rw [hu] at ho; simp at ho
  | some ds =>
    rw [hu] at ho
    cases ds with
    | struct fs =>
      simp only at ho
      obtain ⟨n, parts, hx, hpl, hf⟩ := open_fieldsC (ts := [9, 35, 36]) hu (by rw [ho]; rfl) one_inf h (by simpa using hcs) hz
      match cs, hcs with
      | [v0, v1, v2], _ =>
        obtain ⟨y0, h0, z0, q0⟩ := hf 0 (by simp) (by simp)
        obtain ⟨y1, h1, z1, q1⟩ := hf 1 (by simp) (by simp)
        obtain ⟨y2, h2, z2, q2⟩ := hf 2 (by simp) (by simp)
        simp only [List.getElem_cons_zero, List.getElem_cons_succ] at h0 z0 h1 z1 h2 z2
        have hb := agg_three hpl q0 q1 q2
        rw [← hx] at hb
        obtain ⟨s0, rfl, b0, k0⟩ := deep_textC h0 z0
        obtain ⟨n1, e1, -, b1⟩ := DataW.trod_int Tryz.underlying35 h1
        simp only [List.cons.injEq, and_true] at e1
        subst e1
        obtain ⟨A2, c2, l2, rfl, r2, b2, i2, k2⟩ := deep_intsC h2 z2
        exact ⟨⟨s0, n1, l2⟩, ⟨A2, c2, rfl, r2, ⟨b0, b1, b2, i2⟩⟩, by rw [hb]; show 1 + s0.size + l2.length ≤ _; omega⟩
    | _ => simp at ho
set_option maxRecDepth 100000 in
theorem deep_attC {fuel : Nat} {cs : List Value} {x : DataW H × List MemPlace} (h : DataW.trod enc Tryz.prog w base spare held fuel 94 cs = some x) (hcs : cs.length = 4) (hz : ∀ n ∈ x.1.weights Tryz.prog 94, n ≤ reachBytes) :
    ∃ i, AttAt w.heap.size w i cs ∧ cA i ≤ Rows.uptoBulk x.1 := by
  have ho := off_att
  cases hu : Tryz.prog.underlying 94 with
  | none => rw [hu] at ho; simp at ho
  | some ds =>
    rw [hu] at ho
    cases ds with
    | struct fs =>
      simp only at ho
      obtain ⟨n, parts, hx, hpl, hf⟩ := open_fieldsC (ts := [9, 4, 2, 36]) hu (by rw [ho]; rfl) one_att h (by simpa using hcs) hz
      match cs, hcs with
      | [v0, v1, v2, v3], _ =>
        obtain ⟨y0, h0, z0, q0⟩ := hf 0 (by simp) (by simp)
        obtain ⟨y1, h1, z1, q1⟩ := hf 1 (by simp) (by simp)
        obtain ⟨y2, h2, z2, q2⟩ := hf 2 (by simp) (by simp)
        obtain ⟨y3, h3, z3, q3⟩ := hf 3 (by simp) (by simp)
        simp only [List.getElem_cons_zero, List.getElem_cons_succ] at h0 z0 h1 z1 h2 z2 h3 z3
        have hb := agg_four hpl q0 q1 q2 q3
        rw [← hx] at hb
        obtain ⟨s0, rfl, b0, k0⟩ := deep_textC h0 z0
        obtain ⟨n1, e1, -⟩ := DataW.trod_bool Tryz.underlying4 h1
        simp only [List.cons.injEq, and_true] at e1
        subst e1
        obtain ⟨n2, e2, -, b2⟩ := DataW.trod_int Tryz.underlying2 h2
        simp only [List.cons.injEq, and_true] at e2
        subst e2
        obtain ⟨A3, c3, l3, rfl, r3, b3, i3, k3⟩ := deep_intsC h3 z3
        exact ⟨⟨s0, n1, n2, l3⟩, ⟨A3, c3, rfl, r3, ⟨b0, b3, bounds_i64 b2, i3⟩⟩, by rw [hb]; show 1 + s0.size + l3.length ≤ _; omega⟩
    | _ => simp at ho
set_option maxRecDepth 100000 in
theorem deep_nodC {fuel : Nat} {cs : List Value} {x : DataW H × List MemPlace} (h : DataW.trod enc Tryz.prog w base spare held fuel 26 cs = some x) (hcs : cs.length = 4) (hz : ∀ n ∈ x.1.weights Tryz.prog 26, n ≤ reachBytes) :
    ∃ i, NodAt w.heap.size w i cs ∧ cN i ≤ Rows.uptoBulk x.1 := by
  have ho := off_nod
  cases hu : Tryz.prog.underlying 26 with
  | none => rw [hu] at ho; simp at ho
  | some ds =>
    rw [hu] at ho
    cases ds with
    | struct fs =>
      simp only at ho
      obtain ⟨n, parts, hx, hpl, hf⟩ := open_fieldsC (ts := [9, 23, 9, 24]) hu (by rw [ho]; rfl) one_nod h (by simpa using hcs) hz
      match cs, hcs with
      | [v0, v1, v2, v3], _ =>
        obtain ⟨y0, h0, z0, q0⟩ := hf 0 (by simp) (by simp)
        obtain ⟨y1, h1, z1, q1⟩ := hf 1 (by simp) (by simp)
        obtain ⟨y2, h2, z2, q2⟩ := hf 2 (by simp) (by simp)
        obtain ⟨y3, h3, z3, q3⟩ := hf 3 (by simp) (by simp)
        simp only [List.getElem_cons_zero, List.getElem_cons_succ] at h0 z0 h1 z1 h2 z2 h3 z3
        have hb := agg_four hpl q0 q1 q2 q3
        rw [← hx] at hb
        obtain ⟨s0, rfl, b0, k0⟩ := deep_textC h0 z0
        obtain ⟨A1, c1, l1, rfl, r1, b1, i1, k1⟩ := deep_textsC h1 z1
        obtain ⟨s2, rfl, b2, k2⟩ := deep_textC h2 z2
        obtain ⟨A3, c3, l3, css3, e3, hl3, hq3, hs3, r3, b3, k3⟩ := open_deepC 4 (by omega) (fun a cs => AttAt w.heap.size w a cs) cA Tryz.underlying24 (by kernel_rfl) (fun n cs x hx hcl hw => deep_attC hx hcl hw) h3 z3
        simp only [List.cons.injEq, and_true] at e3
        subst e3
        rw [show Tryz.prog.bytesOf 94 = 56 by kernel_rfl, reach10] at b3
        have d3 : DR AttAt w w.heap.size 4 A3 l3 := ⟨css3, Al.of_get hl3 hq3, r3⟩
        exact ⟨⟨s0, l1, s2, l3⟩, ⟨A1, c1, A3, c3, rfl, r1, d3, ⟨b0, b2, i1, b1, b3⟩⟩, by rw [hb]; show 1 + s0.size + s2.size + sumf cS l1 + sumf cA l3 ≤ _; omega⟩
    | _ => simp at ho
end
end Go.Proofs.YtiniicehfjgpgaaGreat
