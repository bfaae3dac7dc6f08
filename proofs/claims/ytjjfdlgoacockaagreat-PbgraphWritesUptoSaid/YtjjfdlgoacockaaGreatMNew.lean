import Derived.Test.YtjjfdlgoacockaaGreatTCheck
import Derived.Test.YtjjfdlgoacockaaGreatBRead
import Derived.Test.YtjjfdlgoacockaaGreatAppend
import Derived.Test.YtjjfdlgoacockaaGreatOpenRow
import Derived.Test.YtjjfdlgoacockaaGreatMath
import Derived.Deep.RegionHeld
import Derived.Lib.QuietBelow
import Derived.BigQuiet
import Derived.Outline
import Derived.WalkSpells
import Derived.WalkMore
namespace Go.Proofs.YtjjfdlgoacockaaGreat
open Go.RowKit M7 M10

def MNewRes (T : TypeId) (size n : Nat) (cs : List Value) (B : Nat) (w : World) (e : Ending) (w' : World) : Prop :=
  ∃ v, e = .returned v ∧ w'.ownsRow B T size v n cs ∧ Below B w w'
theorem size_of_info {P : Program} {T : TypeId} {i : TypeInfo} {s : Nat} (hi : P.info? T = some i) (h : i.size = s) : (P.info? T).map (·.size) = some s := by rw [hi]; simp [h]

set_option maxRecDepth 100000 in
theorem new_ints (A : Option Addr) (n c : Nat) (cs : List Value) (w : World) (hn : n * 8 ≤ 140737488351232) (hs : SR w w.heap.size 1 A n cs) (h1 : ∀ v ∈ cs, v.oneCell' = true) :
    Calls Tryz.prog 186 #[.slice A n c] w (MNewRes 2 1 n cs w.heap.size w) := by
  obtain ⟨i0, hi0, hz0, hz1, hz2⟩ := info_parts infoInt64
  have hcl := hs.1
  by_cases h0 : n = 0
  · subst h0
    have HN := Lib.hid (List.eq_nil_of_length_eq_zero (l := cs) (by simpa using hcl))
    clear hs h1 hn hcl
    go_enter Tryz.func186, Tryz.ntmps186
    go_wp2_with fail
    go_ret
    rw [HN.out]
    exact ⟨_, rfl, World.ownsRow_nil _ _ _ _, Below.refl _ _⟩
  · have hpos : 0 < n := by omega
    have h0' : ((n : Int) == 0) = false := by rw [beq_eq_false_iff_ne]; omega
    obtain ⟨b, o, rfl, hb, hr⟩ := hs.2 hpos
    have HS := Lib.hid hs
    have H1 := Lib.hid h1
    have HCL := Lib.hid hcl
    have HSZ := Lib.hid (size_of_info hi0 hz1)
    clear hs hr h1 h0 hcl
    have hL : (n : Int) = ((n : Nat) : Int) := rfl
    go_enter Tryz.func186, Tryz.ntmps186
    go_wp2_with (at_make; refine wpList_make_full _ rfl _ _ 83 rfl w.heap.size 2 i0 _ 1 Tryz.underlying83 hi0 hz0 hz1 .i64 .i64 _ _ n rfl rfl rfl rfl (by rw [hz2]; omega) (by unfold maxLen; omega) (Nat.le_refl _) ?_)
    intro w1 hown hgrow
    have HB1 := Lib.hid ((Below.refl w.heap.size w).grown hgrow (Nat.le_refl _) (fun q hq => by cases hq))
    have HOW := Lib.hid hown
    have HSR := Lib.hid (HS.out.below HB1.out).cells
    clear hown hgrow
    obtain ⟨w2, hcp, hown2, hb2⟩ := copy_whole (P := Tryz.prog) (dT := 83) (sT := 83) (ty := 3) (sCap := c) Tryz.underlying83 HSZ.out HOW.out hpos HCL.out (HSR.out _ rfl) H1.out
    have HR := Lib.hid (And.intro hown2 (HB1.out.trans hb2))
    clear hown2 hb2
    go_wp2_with fail
    go_ret
    exact ⟨_, rfl, HR.out.1, HR.out.2⟩

theorem infoInfo10 : (Tryz.prog.info? 106).map (fun i => (i.zero, i.size, i.bytes)) = some (some (.agg #[.string ⟨#[]⟩, .int .i64 0, .slice none 0 0]), 3, 48) := by kernel_rfl
theorem infoTen10 : (Tryz.prog.info? 98).map (fun i => (i.zero, i.size, i.bytes)) = some (some (.agg #[.string ⟨#[]⟩, .int .i64 0, .slice none 0 0, .string ⟨#[]⟩]), 4, 64) := by kernel_rfl
theorem infoNode10 : (Tryz.prog.info? 102).map (fun i => (i.zero, i.size, i.bytes)) = some (some (.agg #[.string ⟨#[]⟩, .slice none 0 0, .string ⟨#[]⟩, .slice none 0 0]), 4, 80) := by kernel_rfl
end Go.Proofs.YtjjfdlgoacockaaGreat
namespace Go.Proofs.YtjjfdlgoacockaaGreat
open Go.RowKit

section
variable {w w' : World} {B : Nat} {vs : List Value} {ps : List (List Int)}
theorem own_grown_far {B' n m size size' : Nat} {e e' : TypeId} {u v : Value} {xs ys : List Value} (h : w.ownsRow B e size u n xs) (hv : w.ownsRow B' e' size' v m ys) (he : e ≠ e') (hg : w.grownBy w' v.ownBlock) : w'.ownsRow B e size u n xs := by
  refine ⟨h.1, ?_⟩
  rcases h.2 with hn | ⟨g, cap, cur, hu, hB, hgg, r⟩
  · exact .inl hn
  · exact .inr ⟨g, cap, cur, hu, hB, blk_grown hgg hg (own_far hv hgg he), r⟩
end
end Go.Proofs.YtjjfdlgoacockaaGreat
namespace Go.Proofs.YtjjfdlgoacockaaGreat
open Go.RowKit M7 M10

theorem own_addr {w : World} {base size n : Nat} {e : TypeId} {v : Value} {xs : List Value} (h : w.ownsRow base e size v n xs) (hn : 0 < n) :
    ∃ g c cur, v = .slice (some ⟨g, 0, none⟩) n c ∧ base ≤ g ∧ w.heap[g]? = some (.cells cur e (0, 0)) := by
  rcases h.2 with ⟨_, h0⟩ | ⟨g, cap, cur, hv, hB, hg, _⟩
  · omega
  · exact ⟨g, cap, cur, hv, hB, hg⟩
theorem own_blk {w : World} {base size n : Nat} {e : TypeId} {v : Value} {xs : List Value} (h : w.ownsRow base e size v n xs) {g : Nat} (hg : v.ownBlock = some g) : base ≤ g ∧ g < w.heap.size := by
  rcases h.2 with ⟨rfl, _⟩ | ⟨g2, cap, cur, rfl, hB, hh, _⟩
  · simp [Value.ownBlock] at hg
  · simp only [Value.ownBlock, Option.some.injEq] at hg
    subst hg
    exact ⟨hB, blk_lt hh⟩
def DW {α : Type} (Q : Nat → World → α → List Value → Prop) (w : World) (B : Nat) (T : TypeId) (size : Nat) (v : Value) (l : List α) : Prop :=
  ∃ css, Al (Q B w) l css ∧ (∀ c ∈ css, c.length = size) ∧ w.ownsRow B T size v l.length css.flatten
structure Eo {α : Type} (Q : Nat → World → α → List Value → Prop) (far : TypeId → Prop) (size : Nat) : Prop where
  len : ∀ {B w a cs}, Q B w a cs → cs.length = size
  keep : ∀ {B w w' a cs}, Q B w a cs → Below w.heap.size w w' → Q B w' a cs
  base : ∀ {B B' w a cs}, Q B w a cs → B' ≤ B → Q B' w a cs
  set : ∀ {B w a cs g cur T i u}, Q B w a cs → w.heap[g]? = some (.cells cur T (0, 0)) → far T → Q B (w.setCell ⟨g, i, none⟩ u) a cs
section
variable {α : Type} {Q : Nat → World → α → List Value → Prop} {far : TypeId → Prop} {w w' : World} {B B' size n : Nat} {T : TypeId} {v : Value} {l : List α}
theorem DW.keep (h : DW Q w B T n v l) (hq : Eo Q far size) (hb : Below w.heap.size w w') : DW Q w' B T n v l := by
  obtain ⟨css, ha, hl, ho⟩ := h
  exact ⟨css, ha.mono fun _ _ hp => hq.keep hp hb, hl, own_keep ho hb⟩
theorem DW.base (h : DW Q w B T n v l) (hq : Eo Q far size) (hB : B' ≤ B) : DW Q w B' T n v l := by
  obtain ⟨css, ha, hl, ho⟩ := h
  exact ⟨css, ha.mono fun _ _ hp => hq.base hp hB, hl, own_base ho hB⟩
theorem DW.set (h : DW Q w B T n v l) (hq : Eo Q far size) {g : Nat} {cur : Array Value} {T2 : TypeId} {i : Nat} {u : Value} (hg : w.heap[g]? = some (.cells cur T2 (0, 0))) (hf : far T2) (hT : T2 ≠ T) : DW Q (w.setCell ⟨g, i, none⟩ u) B T n v l := by
  obtain ⟨css, ha, hl, ho⟩ := h
  exact ⟨css, ha.mono fun _ _ hp => hq.set hp hg hf, hl, own_set ho (own_far ho hg hT) i u⟩
theorem DW.form (h : DW Q w B T n v l) : ∃ A c, v = .slice A l.length c := by
  obtain ⟨css, _, _, ho⟩ := h
  obtain ⟨A, c, hv, _⟩ := own_form ho
  exact ⟨A, c, hv⟩
theorem DW.read {P : Nat → World → α → List Value → Prop} {A : Option Addr} {c : Nat} (h : DW Q w B T n (.slice A l.length c) l) (hm : ∀ a cs, a ∈ l → Q B w a cs → P w.heap.size w a cs) : DR P w w.heap.size n A l := by
  obtain ⟨css, ha, hl, ho⟩ := h
  refine ⟨css, Al.of_get ha.len fun k h1 h2 => hm _ _ (List.getElem_mem h1) (ha.get h1 h2), SR.of_own ho⟩
end
def OInf (B : Nat) (w : World) (i : Inf) (cs : List Value) : Prop :=
  ∃ v, cs = [.string i.name, .int .i64 i.kind, v] ∧ w.ownsRow B 2 1 v i.dims.length (iv i.dims) ∧ IOk i
def OTen (B : Nat) (w : World) (t : Ten) (cs : List Value) : Prop :=
  ∃ v, cs = [.string t.name, .int .i64 t.kind, v, .string t.data] ∧ w.ownsRow B 2 1 v t.dims.length (iv t.dims) ∧ TOk t
def OAtt (B : Nat) (w : World) (a : Att) (cs : List Value) : Prop :=
  ∃ v, cs = [.string a.name, .bool a.one, .int .i64 a.int, v] ∧ w.ownsRow B 2 1 v a.ints.length (iv a.ints) ∧ AOk a
def ONod (B : Nat) (w : World) (n : Nod) (cs : List Value) : Prop :=
  ∃ v u, cs = [.string n.op, v, .string n.out, u] ∧ w.ownsRow B 9 1 v n.ins.length (m_tx n.ins) ∧ DW OAtt w B 108 4 u n.attrs ∧ NOk n
theorem OInf.shape {B : Nat} {w : World} {i : Inf} {cs : List Value} (h : OInf B w i cs) : ∃ A c, cs = [.string i.name, .int .i64 i.kind, .slice A i.dims.length c] := by
  obtain ⟨v, h, ho, _⟩ := h; obtain ⟨A, c, rfl, _⟩ := own_form ho; exact ⟨A, c, h⟩
theorem OTen.shape {B : Nat} {w : World} {t : Ten} {cs : List Value} (h : OTen B w t cs) : ∃ A c, cs = [.string t.name, .int .i64 t.kind, .slice A t.dims.length c, .string t.data] := by
  obtain ⟨v, h, ho, _⟩ := h; obtain ⟨A, c, rfl, _⟩ := own_form ho; exact ⟨A, c, h⟩
theorem ONod.shape {B : Nat} {w : World} {n : Nod} {cs : List Value} (h : ONod B w n cs) : ∃ A c A' c', cs = [.string n.op, .slice A n.ins.length c, .string n.out, .slice A' n.attrs.length c'] := by
  obtain ⟨v, u, h, ho, hd, _⟩ := h; obtain ⟨A, c, rfl, _⟩ := own_form ho; obtain ⟨A', c', rfl⟩ := hd.form; exact ⟨A, c, A', c', h⟩
theorem eo_inf : Eo OInf (fun T => T ≠ 2) 3 := ⟨fun ⟨_, h, _⟩ => by rw [h]; rfl, fun ⟨v, h, ho, k⟩ hb => ⟨v, h, own_keep ho hb, k⟩, fun ⟨v, h, ho, k⟩ hb => ⟨v, h, own_base ho hb, k⟩, fun ⟨v, h, ho, k⟩ hg hf => ⟨v, h, own_set ho (own_far ho hg hf) _ _, k⟩⟩
theorem eo_ten : Eo OTen (fun T => T ≠ 2) 4 := ⟨fun ⟨_, h, _⟩ => by rw [h]; rfl, fun ⟨v, h, ho, k⟩ hb => ⟨v, h, own_keep ho hb, k⟩, fun ⟨v, h, ho, k⟩ hb => ⟨v, h, own_base ho hb, k⟩, fun ⟨v, h, ho, k⟩ hg hf => ⟨v, h, own_set ho (own_far ho hg hf) _ _, k⟩⟩
theorem eo_att : Eo OAtt (fun T => T ≠ 2) 4 := ⟨fun ⟨_, h, _⟩ => by rw [h]; rfl, fun ⟨v, h, ho, k⟩ hb => ⟨v, h, own_keep ho hb, k⟩, fun ⟨v, h, ho, k⟩ hb => ⟨v, h, own_base ho hb, k⟩, fun ⟨v, h, ho, k⟩ hg hf => ⟨v, h, own_set ho (own_far ho hg hf) _ _, k⟩⟩
theorem eo_nod : Eo ONod (fun T => T ≠ 2 ∧ T ≠ 9 ∧ T ≠ 108) 4 :=
  ⟨fun ⟨_, _, h, _⟩ => by rw [h]; rfl, fun ⟨v, u, h, ho, hd, k⟩ hb => ⟨v, u, h, own_keep ho hb, hd.keep eo_att hb, k⟩, fun ⟨v, u, h, ho, hd, k⟩ hb => ⟨v, u, h, own_base ho hb, hd.base eo_att hb, k⟩,
    fun ⟨v, u, h, ho, hd, k⟩ hg hf => ⟨v, u, h, own_set ho (own_far ho hg hf.2.1) _ _, hd.set eo_att hg hf.1 hf.2.2, k⟩⟩
theorem OInf.at_ {B : Nat} {w : World} {i : Inf} {cs : List Value} (h : OInf B w i cs) : InfAt w.heap.size w i cs := by
  obtain ⟨v, rfl, ho, k⟩ := h; obtain ⟨A, c, rfl, _⟩ := own_form ho; exact ⟨A, c, rfl, SR.of_own ho, k⟩
theorem OTen.at_ {B : Nat} {w : World} {i : Ten} {cs : List Value} (h : OTen B w i cs) : TenAt w.heap.size w i cs := by
  obtain ⟨v, rfl, ho, k⟩ := h; obtain ⟨A, c, rfl, _⟩ := own_form ho; exact ⟨A, c, rfl, SR.of_own ho, k⟩
theorem OAtt.at_ {B : Nat} {w : World} {i : Att} {cs : List Value} (h : OAtt B w i cs) : AttAt w.heap.size w i cs := by
  obtain ⟨v, rfl, ho, k⟩ := h; obtain ⟨A, c, rfl, _⟩ := own_form ho; exact ⟨A, c, rfl, SR.of_own ho, k⟩
theorem ONod.at_ {B : Nat} {w : World} {i : Nod} {cs : List Value} (h : ONod B w i cs) : NodAt w.heap.size w i cs := by
  obtain ⟨v, u, rfl, ho, hd, k⟩ := h; obtain ⟨A, c, rfl, _⟩ := own_form ho; obtain ⟨A', c', rfl⟩ := hd.form
  exact ⟨A, c, A', c', rfl, SR.of_own ho, hd.read fun _ _ _ hp => hp.at_, k⟩
section
variable {α : Type} {Q : Nat → World → α → List Value → Prop} {far : TypeId → Prop} {w wr w2 : World} {size k : Nat} {T : TypeId} {v : Value} {l : List α} {css done : List (List Value)}
theorem own_cur {w : World} {base size n g c : Nat} {e : TypeId} {xs : List Value} (h : w.ownsRow base e size (.slice (some ⟨g, 0, none⟩) n c) n xs) : base ≤ g ∧ ∃ cur, w.heap[g]? = some (.cells cur e (0, 0)) := by
  rcases h.2 with ⟨hv, _⟩ | ⟨g2, cap, cur, hv, hB, hg, _⟩
  · simp at hv
  · simp only [Value.slice.injEq, Option.some.injEq, Addr.mk.injEq, and_true, true_and] at hv
    obtain ⟨rfl, rfl⟩ := hv
    exact ⟨hB, cur, hg⟩
end
end Go.Proofs.YtjjfdlgoacockaaGreat
namespace Go.Proofs.YtjjfdlgoacockaaGreat
open Go.RowKit M6 M7

end Go.Proofs.YtjjfdlgoacockaaGreat
namespace Go.Proofs.YtjjfdlgoacockaaGreat
open Go.RowKit M7 M10

theorem name_world10 {P : World → Prop} {W : World} (h : P W) : ∃ W', W = W' ∧ P W' := ⟨W, rfl, h⟩
theorem own_set4 {w : World} {B size n b : Nat} {e T : TypeId} {v : Value} {xs : List Value} {c0 c1 c2 c3 : Value} (h : w.ownsRow B e size v n xs) (hb : w.heap[b]? = some (.cells #[c0, c1, c2, c3] T (0, 0))) (hT : T ≠ e) (v0 v1 v2 v3 : Value) :
    ((((w.setCell ⟨b, 0, none⟩ v0).setCell ⟨b, 1, none⟩ v1).setCell ⟨b, 2, none⟩ v2).setCell ⟨b, 3, none⟩ v3).ownsRow B e size v n xs :=
  own_set (own_set (own_set (own_set h (own_far h hb hT) 0 v0) (own_far h hb hT) 1 v1) (own_far h hb hT) 2 v2) (own_far h hb hT) 3 v3


set_option maxRecDepth 100000 in
theorem m_number_any (s : ByteArray) (n : Int) (w : World) :
    Calls Tryz.prog 107 #[.string s, .int .i64 n] w fun e w' => e = .returned (.agg #[.string s, .bool true, .int .i64 n, .slice none 0 0]) ∧ Below w.heap.size w w' := by
  have HB := Lib.hid (Bx.start w #[.string s, .bool true, .int .i64 n, .slice none 0 0] 108)
  go_enter Tryz.func107, Tryz.ntmps107
  go_wp2_with fail
  obtain ⟨y0, y1, y2, y3⟩ := HB.out.four
  exact bodyPost_ret (v := .agg #[.string s, .bool true, .int .i64 n, .slice none 0 0]) (by simp [results, Tryz.results107, go_sem, y0, y1, y2, y3]) rfl ⟨rfl, HB.out.all⟩

set_option maxRecDepth 100000 in
theorem row_any (s : ByteArray) (A : Option Addr) (c : Nat) (l : List Int) (w : World) (hl : l.length * 8 ≤ 140737488351232) (hs : SR w w.heap.size 1 A l.length (iv l)) :
    Calls Tryz.prog 178 #[.string s, .slice A l.length c] w fun e w' => ∃ v, e = .returned (.agg #[.string s, .bool false, .int .i64 0, v]) ∧ w'.ownsRow w.heap.size 2 1 v l.length (iv l) ∧ Below w.heap.size w w' := by
  have HB := Lib.hid (Bx.start w #[.string ⟨#[]⟩, .bool false, .int .i64 0, .slice none 0 0] 108)
  have HN := Lib.hid (new_ints A l.length c (iv l) (w.alloc (.cells #[.string ⟨#[]⟩, .bool false, .int .i64 0, .slice none 0 0] 108)) hl ((hs.below HB.out.all).more HB.out.all.size) iv_oneCell)
  clear hs
  go_enter Tryz.func178, Tryz.ntmps178
  go_wp2_with fail
  refine HN.out.mono ?_
  rintro e w1 ⟨v, rfl, hown, hb⟩
  obtain ⟨A2, c2, rfl, -, -⟩ := own_form hown
  have H1 := Lib.hid (HB.out.below hb)
  have HOW := Lib.hid (own_base hown HB.out.all.size)
  clear hown hb HB HN
  obtain ⟨x0, x1, x2, x3⟩ := H1.out.four
  have f0 := fun i => H1.out.free i
  obtain ⟨wE, hE, hxE⟩ := name_world10 (P := fun W => Bx w w.heap.size #[.string s, .bool false, .int .i64 0, .slice A2 l.length c2] 108 W ∧ W.ownsRow w.heap.size 2 1 (.slice A2 l.length c2) l.length (iv l))
    ⟨H1.out.four_put (Nat.le_refl _) (.string s) (.bool false) (.int .i64 0) (.slice A2 l.length c2), own_set4 HOW.out H1.out.1 (by decide) (.string s) (.bool false) (.int .i64 0) (.slice A2 l.length c2)⟩
  have HE := Lib.hid hxE
  clear hxE HOW
  go_wp2_with fail
  obtain ⟨y0, y1, y2, y3⟩ := HE.out.1.four
  exact bodyPost_ret (v := .agg #[.string s, .bool false, .int .i64 0, .slice A2 l.length c2]) (by simp [results, Tryz.results178, go_sem, y0, y1, y2, y3]) rfl ⟨_, rfl, HE.out.2, HE.out.1.all⟩

end Go.Proofs.YtjjfdlgoacockaaGreat
namespace Go.Proofs.YtjjfdlgoacockaaGreat
open Go.RowKit M7 M10

def atI (l : List Att) (s : ByteArray) : Nat := l.findIdx fun a => decide (a.name = s)
def zA : Att := ⟨⟨#[]⟩, false, 0, []⟩
def atA (l : List Att) (s : ByteArray) : Att := (l[atI l s]?).getD zA
def atB (l : List Att) (s : ByteArray) : Bool := decide (atI l s < l.length)
section
variable {l : List Att} {s : ByteArray} {k : Nat}
theorem at_yes (h : k < l.length) (h1 : l[k].name = s) (h2 : ∀ j, j < k → ∀ hj : j < l.length, l[j].name ≠ s) : atI l s = k ∧ atA l s = l[k] ∧ atB l s = true := by
  have e : atI l s = k := (List.findIdx_eq h).2 ⟨by simpa using h1, fun j hj => by simpa using h2 j hj (by omega)⟩
  refine ⟨e, ?_, ?_⟩
  · unfold atA; rw [e, List.getElem?_eq_getElem h]; rfl
  · unfold atB; rw [e]; simpa using h
theorem at_no (h2 : ∀ j, j < l.length → ∀ hj : j < l.length, l[j].name ≠ s) : atI l s = l.length ∧ atA l s = zA ∧ atB l s = false := by
  have e : atI l s = l.length := List.findIdx_eq_length.2 fun x hx => by
    obtain ⟨j, hj, rfl⟩ := List.mem_iff_getElem.1 hx
    simpa using h2 j hj hj
  refine ⟨e, ?_, ?_⟩
  · unfold atA; rw [e, List.getElem?_eq_none (Nat.le_refl _)]; rfl
  · unfold atB; rw [e]; simp
end
theorem zA_at (B : Nat) (w : World) : AttAt B w zA [.string ⟨#[]⟩, .bool false, .int .i64 0, .slice none 0 0] :=
  ⟨none, 0, rfl, SR.empty _ _ _ _, ⟨by show (0 : Nat) ≤ 140737488351232; omega, by simp [zA], by unfold I64 zA; dsimp only; omega, by simp [zA]⟩⟩
theorem Bx.drew11 {w W : World} {g : Nat} {cs : Array Value} {T : TypeId} (h : Bx w g cs T W) (n : Nat) : Bx w g cs T (W.drewN n) := ⟨h.1, h.2.1, below_drewN h.2.2 n⟩

set_option maxRecDepth 100000 in
set_option maxHeartbeats 1000000 in
theorem attr_any (n : Nod) (cn : List Value) (s : ByteArray) (w : World) (hn : NodAt w.heap.size w n cn) :
    Calls Tryz.prog 152 #[.agg cn.toArray, .string s] w fun e w' => ∃ ca, e = .returned (.tuple #[.agg ca.toArray, .bool (atB n.attrs s)]) ∧ AttAt w.heap.size w' (atA n.attrs s) ca ∧ Below w.heap.size w w' := by
  obtain ⟨A, c, D, d, rfl, -, hd, ok⟩ := hn
  have hal := ok.alen
  have HB := Lib.hid ((Bx.start w #[.string n.op, .slice A n.ins.length c, .string n.out, .slice D n.attrs.length d] 102).more (.cells #[.string ⟨#[]⟩, .bool false, .int .i64 0, .slice none 0 0] 108))
  have HZ := Lib.hid (Bx.two w (.cells #[.string n.op, .slice A n.ins.length c, .string n.out, .slice D n.attrs.length d] 102) #[.string ⟨#[]⟩, .bool false, .int .i64 0, .slice none 0 0] 108)
  obtain ⟨x0, x1, x2, x3⟩ := HB.out.four
  have HD := Lib.hid hd
  clear hd ok
  go_enter Tryz.func152, Tryz.ntmps152
  go_wp2_with fail
  clear x0 x1 x2 x3
  go_loopw [7, 11] (fun _ i wr => ∃ (k : Nat) (K : Int), i = .int .i64 K ∧ K = (k : Nat) ∧ k ≤ n.attrs.length ∧ Bx w (w.heap.size + 1) #[.string ⟨#[]⟩, .bool false, .int .i64 0, .slice none 0 0] 108 wr ∧ ∀ j, j < k → ∀ hj : j < n.attrs.length, n.attrs[j].name ≠ s) (fun _ i _ => n.attrs.length - (intOf i).toNat)
  case atStart => exact ⟨0, _, rfl, rfl, by omega, HZ.out, fun j hj => absurd hj (by omega)⟩
  case round =>
    obtain ⟨k, K, rfl, rfl, hk, hbx, hno⟩ := hrel
    have H1 := Lib.hid hbx
    have HNO := Lib.hid hno
    clear hbx hno
    have hbz := H1.out.all.size
    by_cases hlt : k < n.attrs.length
    · obtain ⟨b, o, cs, rfl, hb, hp, hcx⟩ := (HD.out.below ek_att H1.out.all).at_ ek_att hlt
      have HP := Lib.hid hp
      have HY := Lib.hid (fun h => at_yes hlt h HNO.out)
      have HN := Lib.hid (fun (h : n.attrs[k].name ≠ s) => show ∀ j, j < k + 1 → ∀ hj : j < n.attrs.length, n.attrs[j].name ≠ s from fun j hj hj2 => by
        by_cases e : j = k
        · subst e; exact h
        · exact HNO.out j (by omega) hj2)
      obtain ⟨A1, c1, rfl⟩ := AttAt.shape hp
      clear hp HNO
      generalize n.attrs[k] = u at *
      have p0 := hcx 0 _ rfl
      have p1 := hcx 1 _ rfl
      have p2 := hcx 2 _ rfl
      have p3 := hcx 3 _ rfl
      simp only [Nat.add_zero] at p0
      clear hcx
      have H2 := Lib.hid (H1.out.more (.cells #[.string u.name, .bool u.one, .int .i64 u.int, .slice A1 u.ints.length c1] 108))
      by_cases hs : u.name = s
      · have e1 := teq_yes hs
        have HE := Lib.hid (HY.out hs)
        clear hs HY HN HD HB HZ
        obtain ⟨y0, y1, y2, y3⟩ := H2.out.four
        have f0 := fun i => H2.out.free i
        obtain ⟨wE, hE, hxE⟩ := name_world10 (P := fun W => Bx w (w.heap.size + 1) #[.string u.name, .bool u.one, .int .i64 u.int, .slice A1 u.ints.length c1] 108 W ∧ AttAt w.heap.size W u [.string u.name, .bool u.one, .int .i64 u.int, .slice A1 u.ints.length c1])
          ⟨H2.out.four_put (by omega) (.string u.name) (.bool u.one) (.int .i64 u.int) (.slice A1 u.ints.length c1), ek_att.below HP.out (((((((Below.refl w.heap.size wr).alloc hbz _).setCell (p := ⟨w.heap.size + 1, 0, none⟩) (by simp) _).setCell (p := ⟨w.heap.size + 1, 1, none⟩) (by simp) _).setCell (p := ⟨w.heap.size + 1, 2, none⟩) (by simp) _).setCell (p := ⟨w.heap.size + 1, 3, none⟩) (by simp) _))⟩
        have HF := Lib.hid hxE
        clear hxE
        go_wp2_with fail
        obtain ⟨z0, z1, z2, z3⟩ := HF.out.1.four
        rw [HE.out.2.1, HE.out.2.2]
        exact bodyPost_ret (v := .tuple #[.agg #[.string u.name, .bool u.one, .int .i64 u.int, .slice A1 u.ints.length c1], .bool true]) (by simp [results, Tryz.results152, go_sem, z0, z1, z2, z3]) rfl ⟨[.string u.name, .bool u.one, .int .i64 u.int, .slice A1 u.ints.length c1], rfl, HF.out.2, HF.out.1.all⟩
      · have e1 := teq_no hs
        have HE := Lib.hid (HN.out hs)
        clear hs HY HN
        go_wp2_with fail
        go_roundw
        case rel => exact ⟨k + 1, _, rfl, by omega, by omega, H2.out, HE.out⟩
        case measure => simp [intOf]; omega
    · obtain rfl : k = n.attrs.length := by omega
      have HE := Lib.hid (at_no HNO.out)
      clear HNO HD HB HZ
      obtain ⟨y0, y1, y2, y3⟩ := H1.out.four
      have f0 := fun i => H1.out.free i
      obtain ⟨wE, hE, hxE⟩ := name_world10 (P := fun W => Bx w (w.heap.size + 1) #[.string ⟨#[]⟩, .bool false, .int .i64 0, .slice none 0 0] 108 W)
          (H1.out.four_put (by omega) (.string ⟨#[]⟩) (.bool false) (.int .i64 0) (.slice none 0 0))
      have HF := Lib.hid hxE
      clear hxE
      go_wp2_with fail
      obtain ⟨z0, z1, z2, z3⟩ := HF.out.four
      rw [HE.out.2.1, HE.out.2.2]
      exact bodyPost_ret (v := .tuple #[.agg #[.string ⟨#[]⟩, .bool false, .int .i64 0, .slice none 0 0], .bool false]) (by simp [results, Tryz.results152, go_sem, z0, z1, z2, z3]) rfl ⟨[.string ⟨#[]⟩, .bool false, .int .i64 0, .slice none 0 0], rfl, zA_at _ _, HF.out.all⟩
set_option maxRecDepth 100000 in
set_option maxHeartbeats 1000000 in
theorem One_any (n : Nod) (cn : List Value) (s : ByteArray) (o : Int) (w : World) (hn : NodAt w.heap.size w n cn) :
    Calls Tryz.prog 108 #[.agg cn.toArray, .string s, .int .i64 o] w fun e w' => e = .returned (.int .i64 (if (atA n.attrs s).one then (atA n.attrs s).int else o)) ∧ Below w.heap.size w w' := by
  have hn0 := hn
  obtain ⟨A, c, D, d, rfl⟩ := NodAt.shape hn0
  have HB := Lib.hid (Bx.start w #[.string n.op, .slice A n.ins.length c, .string n.out, .slice D n.attrs.length d] 102)
  obtain ⟨x0, x1, x2, x3⟩ := HB.out.four
  have HC := Lib.hid (attr_any n [.string n.op, .slice A n.ins.length c, .string n.out, .slice D n.attrs.length d] s _ (ek_nod.more (ek_nod.below hn HB.out.all) HB.out.all.size))
  clear hn hn0
  generalize atA n.attrs s = u at *
  obtain ⟨un, uo, ui, ul⟩ := u
  cases uo
  all_goals
    go_enter Tryz.func108, Tryz.ntmps108
    go_wp2_with fail
    refine HC.out.mono ?_
    rintro e w1 ⟨ca, rfl, hat, hb⟩
    have H1 := Lib.hid (HB.out.below hb)
    obtain ⟨A1, c1, rfl⟩ := AttAt.shape hat
    clear hat hb HB HC x0 x1 x2 x3
    have H2 := Lib.hid (fun uo => H1.out.more (.cells #[.string un, .bool uo, .int .i64 ui, .slice A1 ul.length c1] 108))
    go_wp2_with fail
    go_ret
    exact ⟨by simp, (H2.out _).all⟩
end Go.Proofs.YtjjfdlgoacockaaGreat
namespace Go.Proofs.YtjjfdlgoacockaaGreat
open Go.RowKit M7 M10

section
variable {w w' : World} {B B' : Nat} {v : Value} {l : List Nod}
end
section
variable {w w' : World} {B B' : Nat} {m : Mod} {v1 v2 v3 v4 : Value}
end
theorem Bx.five_put {w W : World} {g : Nat} {a0 a1 a2 a3 a4 : Value} {T : TypeId} (h : Bx w g #[a0, a1, a2, a3, a4] T W) (hg : w.heap.size ≤ g) (v0 v1 v2 v3 v4 : Value) :
    Bx w g #[v0, v1, v2, v3, v4] T (((((W.setCell ⟨g, 0, none⟩ v0).setCell ⟨g, 1, none⟩ v1).setCell ⟨g, 2, none⟩ v2).setCell ⟨g, 3, none⟩ v3).setCell ⟨g, 4, none⟩ v4) :=
  ((((h.set hg 0 v0).set hg 1 v1).set hg 2 v2).set hg 3 v3).set hg 4 v4
theorem Bx.far_set5 {w W : World} {g : Nat} {cs : Array Value} {T : TypeId} (h : Bx w g cs T W) {b : Nat} (v0 v1 v2 v3 v4 : Value) (hne : g ≠ b) (hb : w.heap.size ≤ b) : Bx w g cs T (((((W.setCell ⟨b, 0, none⟩ v0).setCell ⟨b, 1, none⟩ v1).setCell ⟨b, 2, none⟩ v2).setCell ⟨b, 3, none⟩ v3).setCell ⟨b, 4, none⟩ v4) :=
  ((((h.far_set v0 hne hb).far_set v1 hne hb).far_set v2 hne hb).far_set v3 hne hb).far_set v4 hne hb
theorem Bx.drew10 {w W : World} {g : Nat} {cs : Array Value} {T : TypeId} (h : Bx w g cs T W) : Bx w g cs T W.drew := ⟨h.1, h.2.1, h.2.2.drew⟩
structure MTwo (w : World) (g h : Nat) (cs ds : Array Value) (T : TypeId) (W : World) : Prop where
  a : Bx w g cs T W
  b : Bx w h ds T W
theorem MTwo.below {w W W' : World} {g h : Nat} {cs ds : Array Value} {T : TypeId} (x : MTwo w g h cs ds T W) (hb : Below W.heap.size W W') : MTwo w g h cs ds T W' := ⟨x.a.below hb, x.b.below hb⟩

end Go.Proofs.YtjjfdlgoacockaaGreat
namespace Go.Proofs.YtjjfdlgoacockaaGreat
open Go.RowKit M7 M10 Go.Sort

set_option maxRecDepth 100000 in
theorem rints10_any (A B : Option Addr) (c d : Nat) (l m : List Int) (w : World) (hm : m.length ≤ maxLen) (ha : SR w w.heap.size 1 A l.length (iv l)) (hb : SR w w.heap.size 1 B m.length (iv m)) :
    Calls Tryz.prog 87 #[.slice A l.length c, .slice B m.length d] w fun e w' => e = .returned (.bool (decide (l = m))) ∧ Below w.heap.size w w' := by
  unfold maxLen at hm
  by_cases hlm : l.length = m.length
  · have hlm' : ((l.length : Int) != (m.length : Int)) = false := by simp; omega
    rw [hlm] at ha hlm' ⊢
    have HLM := Lib.hid hlm
    clear hlm
    go_enter Tryz.func87, Tryz.ntmps87
    go_wp2
    go_loopw [5] (fun i wr => ∃ (k : Nat) (K : Int), i = .int .i64 K ∧ K = (k : Nat) ∧ k ≤ m.length ∧ Below w.heap.size w wr ∧ l.take k = m.take k) (fun i _ => m.length - (intOf i).toNat)
    case atStart => exact ⟨0, _, rfl, rfl, by omega, Below.refl _ _, rfl⟩
    case round =>
      obtain ⟨k, K, rfl, rfl, hk, hbw, htk⟩ := hrel
      have HT := Lib.hid htk
      clear htk
      by_cases hlt : k < m.length
      · have hlt' : k < l.length := by rw [HLM.out]; exact hlt
        have ha' : SR w w.heap.size 1 A l.length (iv l) := by rw [HLM.out]; exact ha
        obtain ⟨b1, o1, rfl, hb1, x0⟩ := int_at (ha'.below hbw) hlt'
        obtain ⟨b2, o2, rfl, hb2, y0⟩ := int_at (hb.below hbw) hlt
        have HB := Lib.hid hbw
        have HY := Lib.hid (take_same_yes HT.out hlt' hlt)
        have HN := Lib.hid (take_same_no (l := l) (m := m) hlt' hlt)
        clear ha hb hbw ha'
        generalize l[k] = u at *
        generalize m[k] = v at *
        clear hlt'
        by_cases huv : u = v
        · subst huv
          have HE := Lib.hid (HY.out rfl)
          go_wp2_with fail
          go_quiet (fail)
          go_wp2_with fail
          go_roundw
          case rel => exact ⟨k + 1, _, rfl, by omega, by omega, below_drewN HB.out _, HE.out⟩
          case measure => simp [intOf]; omega
        · have HE := Lib.hid (HN.out huv)
          have huv' : (u != v) = true := by simpa using huv
          clear huv
          go_wp2_with fail
          go_quiet (fail)
          go_wp2_with fail
          go_ret
          rw [decide_eq_false HE.out]
          exact ⟨rfl, below_drewN HB.out _⟩
      · obtain rfl : k = m.length := by omega
        go_wp2
        go_ret
        rw [decide_eq_true (take_same_all HLM.out HT.out)]
        exact ⟨rfl, hbw⟩
  · have hlm' : ((l.length : Int) != (m.length : Int)) = true := by simp; omega
    have HE : Hid (decide (l = m) = false) := Lib.hid (decide_eq_false fun h => hlm (by rw [h]))
    clear hlm ha hb
    go_enter Tryz.func87, Tryz.ntmps87
    go_wp2_with fail
    go_ret
    rw [HE.out]
    exact ⟨rfl, Below.refl _ _⟩

set_option maxRecDepth 100000 in
set_option maxHeartbeats 1000000 in
theorem rattr_any (a b : Att) (ca cb : List Value) (w : World) (hi : AttAt w.heap.size w a ca) (hj : AttAt w.heap.size w b cb) :
    Calls Tryz.prog 88 #[.agg ca.toArray, .agg cb.toArray] w fun e w' => e = .returned (.bool (sameA a b)) ∧ Below w.heap.size w w' := by
  obtain ⟨A, c, rfl, ha, oi⟩ := hi
  obtain ⟨B, d, rfl, hb, oj⟩ := hj
  have hlen := oj.len
  have hbx := Bx.start w #[.string a.name, .bool a.one, .int .i64 a.int, .slice A a.ints.length c] 129
  have HBX := Lib.hid (hbx.more (.cells #[.string b.name, .bool b.one, .int .i64 b.int, .slice B b.ints.length d] 129))
  have HS := Lib.hid (rints10_any A B c d a.ints b.ints _ (by unfold maxLen; omega) ((ha.below HBX.out.all).more HBX.out.all.size) ((hb.below HBX.out.all).more HBX.out.all.size))
  clear hbx ha hb oi oj hlen
  obtain ⟨tn, tb, tk, tl⟩ := a
  obtain ⟨un, ub, uk, ul⟩ := b
  dsimp only at *
  unfold sameA
  dsimp only
  by_cases h1 : tn = un
  · have e1 := teq_yes h1
    rw [decide_eq_true h1]
    clear h1
    cases tb <;> cases ub
    · go_enter Tryz.func88, Tryz.ntmps88
      go_wp2_with fail
      refine HS.out.mono ?_
      rintro e w1 ⟨rfl, hb1⟩
      have H1 := Lib.hid (HBX.out.below hb1)
      clear hb1
      go_wp2_with fail
      go_ret
      exact ⟨by simp, H1.out.all⟩
    · clear HS
      go_enter Tryz.func88, Tryz.ntmps88
      go_wp2_with fail
      go_ret
      exact ⟨by simp, HBX.out.all⟩
    · clear HS
      go_enter Tryz.func88, Tryz.ntmps88
      go_wp2_with fail
      go_ret
      exact ⟨by simp, HBX.out.all⟩
    · clear HS
      by_cases h2 : tk = uk
      · have e2 : (tk == uk) = true := by simpa using h2
        rw [decide_eq_true h2]
        clear h2
        go_enter Tryz.func88, Tryz.ntmps88
        go_wp2_with fail
        go_ret
        exact ⟨by simp, HBX.out.all⟩
      · have e2 : (tk == uk) = false := by simpa using h2
        rw [decide_eq_false h2]
        clear h2
        go_enter Tryz.func88, Tryz.ntmps88
        go_wp2_with fail
        go_ret
        exact ⟨by simp, HBX.out.all⟩
  · have e1 := teq_no h1
    rw [decide_eq_false h1]
    clear h1 HS
    cases tb <;> cases ub
    all_goals
      go_enter Tryz.func88, Tryz.ntmps88
      go_wp2_with fail
      go_ret
      exact ⟨by simp, HBX.out.all⟩


theorem rinfo_no {i j : Inf} (h : i.name ≠ j.name ∨ i.kind ≠ j.kind ∨ i.dims ≠ j.dims) : sameI i j = false := by
  unfold sameI
  rcases h with h | h | h <;> simp [h]
theorem rinfo_yes {i j : Inf} (h1 : i.name = j.name) (h2 : i.kind = j.kind) (h3 : i.dims = j.dims) : sameI i j = true := by
  unfold sameI; simp [h1, h2, h3]
set_option maxRecDepth 100000 in
set_option maxHeartbeats 2000000 in
theorem rinfos_any (A B : Option Addr) (c d : Nat) (l m : List Inf) (w : World) (hm : m.length ≤ maxLen) (ha : DR InfAt w w.heap.size 3 A l) (hb : DR InfAt w w.heap.size 3 B m) :
    Calls Tryz.prog 30 #[.slice A l.length c, .slice B m.length d] w fun e w' => e = .returned (.bool (eqAll sameI l m)) ∧ Below w.heap.size w w' := by
  unfold maxLen at hm
  by_cases hlm : l.length = m.length
  · have hlm' : ((l.length : Int) != (m.length : Int)) = false := by simp; omega
    have HL := Lib.hid hlm
    rw [hlm] at hlm' ⊢
    clear hlm
    go_enter Tryz.func30, Tryz.ntmps30
    go_wp2_with fail
    go_loopw [5] (fun i wr => ∃ (k : Nat) (K : Int), i = .int .i64 K ∧ K = (k : Nat) ∧ k ≤ m.length ∧ Below w.heap.size w wr ∧ eqTo sameI l m k) (fun i _ => m.length - (intOf i).toNat)
    case atStart => exact ⟨0, _, rfl, rfl, by omega, Below.refl _ _, eqTo_zero _ _⟩
    case round =>
      obtain ⟨k, K, rfl, rfl, hk, hbw, htk⟩ := hrel
      have HT := Lib.hid htk
      clear htk
      have hbz := hbw.size
      by_cases hlt : k < m.length
      · have hlt' : k < l.length := by rw [HL.out]; exact hlt
        obtain ⟨b1, o1, cx, rfl, hb1, hpx, hcx⟩ := (ha.below ek_inf hbw).at_ ek_inf hlt'
        obtain ⟨b2, o2, cy, rfl, hb2, hpy, hcy⟩ := (hb.below ek_inf hbw).at_ ek_inf hlt
        have HB := Lib.hid hbw
        have HY := Lib.hid (fun h => eqTo_succ HT.out hlt' hlt h)
        have HN := Lib.hid (eqAll_no (f := sameI) hlt' hlt)
        clear ha hb hbw
        generalize l[k] = u at *
        generalize m[k] = v at *
        clear hlt'
        obtain ⟨A1, c1, rfl, hs1, ok1⟩ := hpx
        obtain ⟨A2, c2, rfl, hs2, ok2⟩ := hpy
        have p0 := hcx 0 _ rfl
        have p1 := hcx 1 _ rfl
        have p2 := hcx 2 _ rfl
        have r0 := hcy 0 _ rfl
        have r1 := hcy 1 _ rfl
        have r2 := hcy 2 _ rfl
        simp only [Nat.add_zero] at p0 r0
        clear hcx hcy
        obtain ⟨tn, tk, tl⟩ := u
        obtain ⟨un, uk, ul⟩ := v
        dsimp only at *
        have HC := Lib.hid (fun dd os => rints10_any A1 A2 c1 c2 tl ul (grow (redrawn wr dd) os) (by have := ok2.len; dsimp only at this; unfold maxLen; omega) ((hs1.below ((below_regrown wr dd os).mono hbz)).more (Nat.le_trans hbz (below_regrown wr dd os).size)) ((hs2.below ((below_regrown wr dd os).mono hbz)).more (Nat.le_trans hbz (below_regrown wr dd os).size)))
        have q0 := fun d os => cell_regrown p0 d os
        have q1 := fun d os => cell_regrown p1 d os
        have q2 := fun d os => cell_regrown p2 d os
        have s0 := fun d os => cell_regrown r0 d os
        have s1 := fun d os => cell_regrown r1 d os
        have s2 := fun d os => cell_regrown r2 d os
        clear p0 p1 p2 r0 r1 r2 hs1 hs2 ok1 ok2
        by_cases h1 : tn = un
        · have e1 := teq_yes h1
          by_cases h2 : tk = uk
          · have e2 : (tk != uk) = false := by simpa using h2
            by_cases h3 : tl = ul
            · rw [decide_eq_true h3] at HC
              have HE := Lib.hid (HY.out (rinfo_yes h1 h2 h3))
              clear h1 h2 h3 HY HN
              go_wp2_with fail
              refine wp_region_quiet_below (by kernel_rfl) (by kernel_rfl) ?_
              repeat (go_big_quiet_step ((go_at_call 87; exact Calls.regrown_of (HC.out _ _))))
              refine wpQuiet_nil ?_
              rintro w2 ⟨p, rfl⟩
              have H2 := Lib.hid (HB.out.trans ((below_regrown wr p.d p.os).mono hbz))
              clear q0 q1 q2 s0 s1 s2 HC
              generalize grow (redrawn wr p.d) p.os = w2 at H2 ⊢
              go_wp2_with fail
              go_roundw
              case rel => exact ⟨k + 1, _, rfl, by omega, by omega, H2.out, HE.out⟩
              case measure => simp [intOf]; omega
            · rw [decide_eq_false h3] at HC
              have HE := Lib.hid (HN.out (rinfo_no (.inr (.inr h3))))
              clear h1 h2 h3 HY HN
              go_wp2_with fail
              refine wp_region_quiet_below (by kernel_rfl) (by kernel_rfl) ?_
              repeat (go_big_quiet_step ((go_at_call 87; exact Calls.regrown_of (HC.out _ _))))
              refine wpQuiet_nil ?_
              rintro w2 ⟨p, rfl⟩
              have H2 := Lib.hid (HB.out.trans ((below_regrown wr p.d p.os).mono hbz))
              clear q0 q1 q2 s0 s1 s2 HC
              generalize grow (redrawn wr p.d) p.os = w2 at H2 ⊢
              go_wp2_with fail
              go_ret
              rw [HE.out]
              exact ⟨rfl, H2.out⟩
          · have e2 : (tk != uk) = true := by simpa using h2
            have HE := Lib.hid (HN.out (rinfo_no (.inr (.inl h2))))
            clear h1 h2 HY HN HC
            go_wp2_with fail
            refine wp_region_quiet_below (by kernel_rfl) (by kernel_rfl) ?_
            repeat (go_big_quiet_step (fail))
            refine wpQuiet_nil ?_
            rintro w2 ⟨p, rfl⟩
            have H2 := Lib.hid (HB.out.trans ((below_regrown wr p.d p.os).mono hbz))
            clear q0 q1 q2 s0 s1 s2
            generalize grow (redrawn wr p.d) p.os = w2 at H2 ⊢
            go_wp2_with fail
            go_ret
            rw [HE.out]
            exact ⟨rfl, H2.out⟩
        · have e1 := teq_no h1
          have HE := Lib.hid (HN.out (rinfo_no (.inl h1)))
          clear h1 HY HN HC
          go_wp2_with fail
          refine wp_region_quiet_below (by kernel_rfl) (by kernel_rfl) ?_
          repeat (go_big_quiet_step (fail))
          refine wpQuiet_nil ?_
          rintro w2 ⟨p, rfl⟩
          have H2 := Lib.hid (HB.out.trans ((below_regrown wr p.d p.os).mono hbz))
          clear q0 q1 q2 s0 s1 s2
          generalize grow (redrawn wr p.d) p.os = w2 at H2 ⊢
          go_wp2_with fail
          go_ret
          rw [HE.out]
          exact ⟨rfl, H2.out⟩
      · obtain rfl : k = m.length := by omega
        clear ha hb
        go_wp2_with fail
        go_ret
        rw [eqAll_yes HL.out (by rw [HL.out]; exact HT.out)]
        exact ⟨rfl, hbw⟩
  · have hlm' : ((l.length : Int) != (m.length : Int)) = true := by simp; omega
    have HE := Lib.hid (eqAll_len (f := sameI) hlm)
    clear hlm ha hb
    go_enter Tryz.func30, Tryz.ntmps30
    go_wp2_with fail
    go_ret
    rw [HE.out]
    exact ⟨rfl, Below.refl _ _⟩


theorem rten_any (t u : Ten) (ct cu : List Value) (w : World) (ht : TenAt w.heap.size w t ct) (hu : TenAt w.heap.size w u cu) :
    Calls Tryz.prog 31 #[.agg ct.toArray, .agg cu.toArray] w fun e w' => e = .returned (.bool (sameT t u)) ∧ Below w.heap.size w w' := by
  obtain ⟨A, c, rfl, ha, ot⟩ := ht
  obtain ⟨B, d, rfl, hb, ou⟩ := hu
  exact rsame_wide t u A B c d w (ot.tok ha) (ou.tok hb) (by have := ot.len; omega)
theorem sameN_op {n o : Nod} (h : n.op ≠ o.op) : sameN n o = false := by unfold sameN; simp [h]
theorem sameN_out {n o : Nod} (h : n.out ≠ o.out) : sameN n o = false := by unfold sameN; simp [h]
theorem sameN_ins {n o : Nod} (h : decide (n.ins = o.ins) = false) : sameN n o = false := by unfold sameN; simp [h]
theorem sameN_attrs {n o : Nod} (h : eqAll sameA n.attrs o.attrs = false) : sameN n o = false := by unfold sameN; simp [h]
theorem sameN_yes {n o : Nod} (h1 : n.op = o.op) (h2 : decide (n.ins = o.ins) = true) (h3 : n.out = o.out) (h4 : eqAll sameA n.attrs o.attrs = true) : sameN n o = true := by unfold sameN; rw [h2, h4]; simp [h1, h3]
theorem sameM_opset {n o : Mod} (h : n.opset ≠ o.opset) : sameM n o = false := by unfold sameM; simp [h]
theorem sameM_inputs {n o : Mod} (h : eqAll sameI n.inputs o.inputs = false) : sameM n o = false := by unfold sameM; simp [h]
theorem sameM_outputs {n o : Mod} (h : eqAll sameI n.outputs o.outputs = false) : sameM n o = false := by unfold sameM; simp [h]
theorem sameM_inits {n o : Mod} (h : eqAll sameT n.inits o.inits = false) : sameM n o = false := by unfold sameM; simp [h]
theorem sameM_nodes {n o : Mod} (h : eqAll sameN n.nodes o.nodes = false) : sameM n o = false := by unfold sameM; simp [h]
theorem sameM_yes {n o : Mod} (h0 : n.opset = o.opset) (h1 : eqAll sameI n.inputs o.inputs = true) (h2 : eqAll sameI n.outputs o.outputs = true) (h3 : eqAll sameT n.inits o.inits = true) (h4 : eqAll sameN n.nodes o.nodes = true) : sameM n o = true := by unfold sameM; rw [h1, h2, h3, h4]; simp [h0]
theorem decide_len {α : Type} [DecidableEq α] {l m : List α} (h : l.length ≠ m.length) : decide (l = m) = false := decide_eq_false fun e => h (by rw [e])


set_option maxRecDepth 100000 in
set_option maxHeartbeats 4000000 in
theorem rnode_any (n o : Nod) (cn co : List Value) (w : World) (hi : NodAt w.heap.size w n cn) (hj : NodAt w.heap.size w o co) :
    Calls Tryz.prog 32 #[.agg cn.toArray, .agg co.toArray] w fun e w' => e = .returned (.bool (sameN n o)) ∧ Below w.heap.size w w' := by
  obtain ⟨A, c, D, e, rfl, ha, hd, oi⟩ := hi
  obtain ⟨A', c', D', e', rfl, ha', hd', oj⟩ := hj
  have hl1 := oi.len
  have hl2 := oi.alen
  have HA := Lib.hid ha
  have HA2 := Lib.hid ha'
  have HD := Lib.hid hd
  have HD2 := Lib.hid hd'
  have HT0 := Lib.hid (show MTwo w w.heap.size (w.heap.size + 1) #[.string n.op, .slice A n.ins.length c, .string n.out, .slice D n.attrs.length e] #[.string o.op, .slice A' o.ins.length c', .string o.out, .slice D' o.attrs.length e'] 80 _ from
    ⟨(Bx.start w #[.string n.op, .slice A n.ins.length c, .string n.out, .slice D n.attrs.length e] 80).more (.cells #[.string o.op, .slice A' o.ins.length c', .string o.out, .slice D' o.attrs.length e'] 80), Bx.two w (.cells #[.string n.op, .slice A n.ins.length c, .string n.out, .slice D n.attrs.length e] 80) #[.string o.op, .slice A' o.ins.length c', .string o.out, .slice D' o.attrs.length e'] 80⟩)
  clear ha ha' hd hd' oi oj
  obtain ⟨n1, n2, n3, n4⟩ := n
  obtain ⟨o1, o2, o3, o4⟩ := o
  dsimp only at *
  by_cases h1 : n1 = o1
  case neg =>
    have e1 := teq_no h1
    have HE := Lib.hid (sameN_op (n := ⟨n1, n2, n3, n4⟩) (o := ⟨o1, o2, o3, o4⟩) h1)
    clear h1 HA HA2 HD HD2
    go_enter Tryz.func32, Tryz.ntmps32
    go_wp2_with fail
    go_ret
    rw [HE.out]
    exact ⟨rfl, HT0.out.a.all⟩
  have e1 := teq_yes h1
  by_cases h3 : n3 = o3
  case neg =>
    have e3 := teq_no h3
    have HE := Lib.hid (sameN_out (n := ⟨n1, n2, n3, n4⟩) (o := ⟨o1, o2, o3, o4⟩) h3)
    clear h1 h3 HA HA2 HD HD2
    go_enter Tryz.func32, Tryz.ntmps32
    go_wp2_with fail
    go_ret
    rw [HE.out]
    exact ⟨rfl, HT0.out.a.all⟩
  have e3 := teq_yes h3
  by_cases h2 : n2.length = o2.length
  case neg =>
    have e2 : ((n2.length : Int) != (o2.length : Int)) = true := by simp; omega
    have HE := Lib.hid (sameN_ins (n := ⟨n1, n2, n3, n4⟩) (o := ⟨o1, o2, o3, o4⟩) (decide_len h2))
    clear h1 h3 h2 HA HA2 HD HD2
    go_enter Tryz.func32, Tryz.ntmps32
    go_wp2_with fail
    go_ret
    rw [HE.out]
    exact ⟨rfl, HT0.out.a.all⟩
  have e2 : ((n2.length : Int) != (o2.length : Int)) = false := by simp; omega
  by_cases h4 : n4.length = o4.length
  case neg =>
    have e4 : ((n4.length : Int) != (o4.length : Int)) = true := by simp; omega
    have HE := Lib.hid (sameN_attrs (n := ⟨n1, n2, n3, n4⟩) (o := ⟨o1, o2, o3, o4⟩) (eqAll_len h4))
    clear h1 h3 h2 h4 HA HA2 HD HD2
    go_enter Tryz.func32, Tryz.ntmps32
    go_wp2_with fail
    go_ret
    rw [HE.out]
    exact ⟨rfl, HT0.out.a.all⟩
  have e4 : ((n4.length : Int) != (o4.length : Int)) = false := by simp; omega
  have HL2 := Lib.hid h2
  have HL4 := Lib.hid h4
  have HYES := Lib.hid (fun (h2 : decide (n2 = o2) = true) (h4 : eqAll sameA n4 o4 = true) => sameN_yes (n := ⟨n1, n2, n3, n4⟩) (o := ⟨o1, o2, o3, o4⟩) h1 h2 h3 h4)
  have HNI := Lib.hid (fun h => sameN_ins (n := ⟨n1, n2, n3, n4⟩) (o := ⟨o1, o2, o3, o4⟩) h)
  have HNA := Lib.hid (fun h => sameN_attrs (n := ⟨n1, n2, n3, n4⟩) (o := ⟨o1, o2, o3, o4⟩) h)
  clear h1 h2 h3 h4
  go_enter Tryz.func32, Tryz.ntmps32
  go_wp2_with fail
  clear e1 e2 e3 e4
  go_loopw [5] (fun i wr => ∃ (k : Nat) (K : Int), i = .int .i64 K ∧ K = (k : Nat) ∧ k ≤ n2.length ∧ MTwo w w.heap.size (w.heap.size + 1) #[.string n1, .slice A n2.length c, .string n3, .slice D n4.length e] #[.string o1, .slice A' o2.length c', .string o3, .slice D' o4.length e'] 80 wr ∧ eqTo (fun a b => decide (a = b)) n2 o2 k) (fun i _ => n2.length - (intOf i).toNat)
  case atStart => exact ⟨0, _, rfl, rfl, by omega, HT0.out, eqTo_zero _ _⟩
  case round =>
    obtain ⟨k, K, rfl, rfl, hk, hbx, htk⟩ := hrel
    have HT := Lib.hid htk
    have HX := Lib.hid hbx
    clear htk hbx
    have hbz := HX.out.a.all.size
    obtain ⟨x0, x1, x2, x3⟩ := HX.out.a.four
    obtain ⟨y0, y1, y2, y3⟩ := HX.out.b.four
    by_cases hlt : k < n2.length
    · have hlt' : k < o2.length := by rw [← HL2.out]; exact hlt
      obtain ⟨b1, p1, rfl, hb1, z0⟩ := m_txt_at (HA.out.below HX.out.a.all) hlt
      obtain ⟨b2, p2, rfl, hb2, z1⟩ := m_txt_at (HA2.out.below HX.out.a.all) hlt'
      have HY := Lib.hid (fun h => eqTo_succ HT.out hlt hlt' h)
      have HN := Lib.hid (eqTo_no (l := n2) (m := o2) hlt hlt')
      generalize n2[k] = u at *
      generalize o2[k] = v at *
      by_cases huv : u = v
      · have HE := Lib.hid (HY.out (decide_eq_true huv))
        have hn := teq_yes huv
        clear huv
        go_wp2_with fail
        go_quiet (fail)
        go_wp2_with fail
        go_roundw
        case rel => exact ⟨k + 1, _, rfl, by omega, by omega, ⟨HX.out.a.drew11 _, HX.out.b.drew11 _⟩, HE.out⟩
        case measure => simp [intOf]; omega
      · have HE := Lib.hid (HNI.out (HN.out huv))
        have hn := teq_no huv
        clear huv
        go_wp2_with fail
        go_quiet (fail)
        go_wp2_with fail
        go_ret
        rw [HE.out]
        exact ⟨rfl, (HX.out.a.drew11 _).all⟩
    · obtain rfl : k = n2.length := by omega
      have HINS := Lib.hid (eqTo_yes HL2.out HT.out)
      have HX2 := Lib.hid HX.out
      clear HT HX hk hlt HA HA2
      go_wp2_with fail
      clear x0 x1 x2 x3 y0 y1 y2 y3
      go_loopw [6] (fun i wr => ∃ (k : Nat) (K : Int), i = .int .i64 K ∧ K = (k : Nat) ∧ k ≤ n4.length ∧ MTwo w w.heap.size (w.heap.size + 1) #[.string n1, .slice A n2.length c, .string n3, .slice D n4.length e] #[.string o1, .slice A' o2.length c', .string o3, .slice D' o4.length e'] 80 wr ∧ eqTo sameA n4 o4 k) (fun i _ => n4.length - (intOf i).toNat)
      case atStart => exact ⟨0, _, rfl, rfl, by omega, HX2.out, eqTo_zero _ _⟩
      case round =>
        obtain ⟨k, K, rfl, rfl, hk, hbx, htk⟩ := hrel
        have HT := Lib.hid htk
        have HX := Lib.hid hbx
        clear htk hbx
        have hbz := HX.out.a.all.size
        obtain ⟨x0, x1, x2, x3⟩ := HX.out.a.four
        obtain ⟨y0, y1, y2, y3⟩ := HX.out.b.four
        by_cases hlt : k < n4.length
        · have hlt' : k < o4.length := by rw [← HL4.out]; exact hlt
          obtain ⟨b1, o1, cx, rfl, hb1, hpx, hcx⟩ := (HD.out.below ek_att HX.out.a.all).at_ ek_att hlt
          obtain ⟨b2, o2, cy, rfl, hb2, hpy, hcy⟩ := (HD2.out.below ek_att HX.out.a.all).at_ ek_att hlt'
          have HY := Lib.hid (fun h => eqTo_succ HT.out hlt hlt' h)
          have HN := Lib.hid (eqAll_no (f := sameA) hlt hlt')
          have HPX := Lib.hid hpx
          have HPY := Lib.hid hpy
          clear hpx hpy
          generalize n4[k] = u at *
          generalize o4[k] = v at *
          obtain ⟨A1, c1, rfl⟩ := AttAt.shape HPX.out
          obtain ⟨A2, c2, rfl⟩ := AttAt.shape HPY.out
          have p0 := hcx 0 _ rfl
          have p1 := hcx 1 _ rfl
          have p2 := hcx 2 _ rfl
          have p3 := hcx 3 _ rfl
          have r0 := hcy 0 _ rfl
          have r1 := hcy 1 _ rfl
          have r2 := hcy 2 _ rfl
          have r3 := hcy 3 _ rfl
          simp only [Nat.add_zero] at p0 r0
          clear hcx hcy
          have HC := Lib.hid (fun dd os => rattr_any u v [.string u.name, .bool u.one, .int .i64 u.int, .slice A1 u.ints.length c1] [.string v.name, .bool v.one, .int .i64 v.int, .slice A2 v.ints.length c2] (grow (redrawn wr dd) os) (ek_att.more (ek_att.below HPX.out ((below_regrown wr dd os).mono hbz)) (Nat.le_trans hbz (below_regrown wr dd os).size)) (ek_att.more (ek_att.below HPY.out ((below_regrown wr dd os).mono hbz)) (Nat.le_trans hbz (below_regrown wr dd os).size)))
          have q0 := fun d os => cell_regrown p0 d os
          have q1 := fun d os => cell_regrown p1 d os
          have q2 := fun d os => cell_regrown p2 d os
          have q3 := fun d os => cell_regrown p3 d os
          have s0 := fun d os => cell_regrown r0 d os
          have s1 := fun d os => cell_regrown r1 d os
          have s2 := fun d os => cell_regrown r2 d os
          have s3 := fun d os => cell_regrown r3 d os
          have qx0 := fun d os => cell_regrown x0 d os
          have qy0 := fun d os => cell_regrown y0 d os
          have qx1 := fun d os => cell_regrown x1 d os
          have qy1 := fun d os => cell_regrown y1 d os
          have qx2 := fun d os => cell_regrown x2 d os
          have qy2 := fun d os => cell_regrown y2 d os
          have qx3 := fun d os => cell_regrown x3 d os
          have qy3 := fun d os => cell_regrown y3 d os
          clear p0 p1 p2 p3 r0 r1 r2 r3 HPX HPY
          cases huv : sameA u v
          · have HE := Lib.hid (HNA.out (HN.out huv))
            rw [huv] at HC
            clear huv HN HY
            go_wp2_with fail
            refine wp_region_quiet_below (by kernel_rfl) (by kernel_rfl) ?_
            repeat (go_big_quiet_step ((go_at_call 88; exact Calls.regrown_of (HC.out _ _))))
            refine wpQuiet_nil ?_
            rintro w9 ⟨p, rfl⟩
            have H2 := Lib.hid (HX.out.below (below_regrown wr p.d p.os))
            clear qx0 qy0 x0 y0 qx1 qy1 x1 y1 qx2 qy2 x2 y2 qx3 qy3 x3 y3 q0 q1 q2 q3 s0 s1 s2 s3 HC
            generalize grow (redrawn wr p.d) p.os = w9 at H2 ⊢
            go_wp2_with fail
            go_ret
            rw [HE.out]
            exact ⟨rfl, H2.out.a.all⟩
          · have HE := Lib.hid (HY.out huv)
            rw [huv] at HC
            clear huv HN HY
            go_wp2_with fail
            refine wp_region_quiet_below (by kernel_rfl) (by kernel_rfl) ?_
            repeat (go_big_quiet_step ((go_at_call 88; exact Calls.regrown_of (HC.out _ _))))
            refine wpQuiet_nil ?_
            rintro w9 ⟨p, rfl⟩
            have H2 := Lib.hid (HX.out.below (below_regrown wr p.d p.os))
            clear qx0 qy0 x0 y0 qx1 qy1 x1 y1 qx2 qy2 x2 y2 qx3 qy3 x3 y3 q0 q1 q2 q3 s0 s1 s2 s3 HC
            generalize grow (redrawn wr p.d) p.os = w9 at H2 ⊢
            go_wp2_with fail
            go_roundw
            case rel => exact ⟨k + 1, _, rfl, by omega, by omega, H2.out, HE.out⟩
            case measure => simp [intOf]; omega
        · obtain rfl : k = n4.length := by omega
          have HALL := Lib.hid (eqAll_yes HL4.out HT.out)
          clear HT
          have HE := Lib.hid (HYES.out HINS.out HALL.out)
          go_wp2_with fail
          go_ret
          rw [HE.out]
          exact ⟨rfl, HX.out.a.all⟩

end Go.Proofs.YtjjfdlgoacockaaGreat
namespace Go.Proofs.YtjjfdlgoacockaaGreat
open Go.RowKit M7 M10 Go.Sort
def fndI {α : Type} (p : α → Bool) (l : List α) : Int := if l.findIdx p < l.length then ((l.findIdx p : Nat) : Int) else -1
theorem fndI_yes {α : Type} {p : α → Bool} {l : List α} {k : Nat} (hk : k < l.length) (h1 : p l[k] = true) (h2 : ∀ j (hj : j < k), p (l[j]'(by omega)) = false) : fndI p l = (k : Int) := by
  unfold fndI; rw [(List.findIdx_eq hk).2 ⟨h1, h2⟩, if_pos hk]
theorem fndI_no {α : Type} {p : α → Bool} {l : List α} (h : ∀ j (hj : j < l.length), p l[j] = false) : fndI p l = -1 := by
  have e : l.findIdx p = l.length := List.findIdx_eq_length.2 fun x hx => by
    obtain ⟨j, hj, rfl⟩ := List.mem_iff_getElem.1 hx
    exact h j hj
  unfold fndI; rw [e, if_neg (Nat.lt_irrefl _)]


set_option maxRecDepth 100000 in
set_option maxHeartbeats 4000000 in
theorem rmodel_any (m n : Mod) (A1 A2 A3 A4 B1 B2 B3 B4 : Option Addr) (c1 c2 c3 c4 d1 d2 d3 d4 : Nat) (w : World) (hm : ModAt w.heap.size w m A1 A2 A3 A4) (hn : ModAt w.heap.size w n B1 B2 B3 B4) :
    Calls Tryz.prog 9 #[.agg (mv m.opset A1 m.inputs.length c1 A2 m.outputs.length c2 A3 m.inits.length c3 A4 m.nodes.length c4), .agg (mv n.opset B1 n.inputs.length d1 B2 n.outputs.length d2 B3 n.inits.length d3 B4 n.nodes.length d4)] w fun e w' => e = .returned (.bool (sameM m n)) ∧ Below w.heap.size w w' := by
  have HT0 := Lib.hid (show MTwo w w.heap.size (w.heap.size + 1) (mv m.opset A1 m.inputs.length c1 A2 m.outputs.length c2 A3 m.inits.length c3 A4 m.nodes.length c4) (mv n.opset B1 n.inputs.length d1 B2 n.outputs.length d2 B3 n.inits.length d3 B4 n.nodes.length d4) 42 _ from ⟨(Bx.start w (mv m.opset A1 m.inputs.length c1 A2 m.outputs.length c2 A3 m.inits.length c3 A4 m.nodes.length c4) 42).more (.cells (mv n.opset B1 n.inputs.length d1 B2 n.outputs.length d2 B3 n.inits.length d3 B4 n.nodes.length d4) 42), Bx.two w (.cells (mv m.opset A1 m.inputs.length c1 A2 m.outputs.length c2 A3 m.inits.length c3 A4 m.nodes.length c4) 42) (mv n.opset B1 n.inputs.length d1 B2 n.outputs.length d2 B3 n.inits.length d3 B4 n.nodes.length d4) 42⟩)
  have H1 := Lib.hid (fun W (h : Below w.heap.size w W) => rinfos_any A1 B1 c1 d1 m.inputs n.inputs W (by have := hn.len1; unfold maxLen; omega) ((hm.inputs.below ek_inf h).more ek_inf h.size) ((hn.inputs.below ek_inf h).more ek_inf h.size))
  have H2 := Lib.hid (fun W (h : Below w.heap.size w W) => rinfos_any A2 B2 c2 d2 m.outputs n.outputs W (by have := hn.len2; unfold maxLen; omega) ((hm.outputs.below ek_inf h).more ek_inf h.size) ((hn.outputs.below ek_inf h).more ek_inf h.size))
  have HD3 := Lib.hid hm.inits
  have HE3 := Lib.hid hn.inits
  have HD4 := Lib.hid hm.nodes
  have HE4 := Lib.hid hn.nodes
  have hl3 := hm.len3
  have hl4 := hm.len4
  clear hm hn
  obtain ⟨m0, m1, m2, m3, m4⟩ := m
  obtain ⟨n0, n1, n2, n3, n4⟩ := n
  unfold mv at *
  dsimp only at *
  by_cases h0 : m0 = n0
  case neg =>
    have e1 : (m0 != n0) = true := by simpa using h0
    have HE := Lib.hid (sameM_opset (n := ⟨m0, m1, m2, m3, m4⟩) (o := ⟨n0, n1, n2, n3, n4⟩) h0)
    clear h0 H1 H2 HD3 HE3 HD4 HE4
    go_enter Tryz.func9, Tryz.ntmps9
    go_wp2_with fail
    go_ret
    rw [HE.out]
    exact ⟨rfl, HT0.out.a.all⟩
  have e1 : (m0 != n0) = false := by simpa using h0
  cases r1 : eqAll sameI m1 n1
  case false =>
    have HE := Lib.hid (sameM_inputs (n := ⟨m0, m1, m2, m3, m4⟩) (o := ⟨n0, n1, n2, n3, n4⟩) r1)
    clear h0 H2 HD3 HE3 HD4 HE4
    go_enter Tryz.func9, Tryz.ntmps9
    go_wp2_with fail
    refine (H1.out _ HT0.out.a.all).mono ?_
    rintro e w1 ⟨rfl, hb1⟩
    have HT1 := Lib.hid (HT0.out.below hb1)
    clear hb1
    rw [r1]
    obtain ⟨x0, x1, x2, x3, x4⟩ := HT1.out.a.five
    obtain ⟨y0, y1, y2, y3, y4⟩ := HT1.out.b.five
    go_wp2_with fail
    clear x0 x1 x2 x3 x4 y0 y1 y2 y3 y4
    go_ret
    rw [HE.out]
    exact ⟨rfl, HT1.out.a.all⟩
  cases r2 : eqAll sameI m2 n2
  case false =>
    have HE := Lib.hid (sameM_outputs (n := ⟨m0, m1, m2, m3, m4⟩) (o := ⟨n0, n1, n2, n3, n4⟩) r2)
    clear h0 HD3 HE3 HD4 HE4
    go_enter Tryz.func9, Tryz.ntmps9
    go_wp2_with fail
    refine (H1.out _ HT0.out.a.all).mono ?_
    rintro e w1 ⟨rfl, hb1⟩
    have HT1 := Lib.hid (HT0.out.below hb1)
    clear hb1
    rw [r1]
    obtain ⟨x0, x1, x2, x3, x4⟩ := HT1.out.a.five
    obtain ⟨y0, y1, y2, y3, y4⟩ := HT1.out.b.five
    go_wp2_with fail
    clear x0 x1 x2 x3 x4 y0 y1 y2 y3 y4
    refine (H2.out _ HT1.out.a.all).mono ?_
    rintro e w2 ⟨rfl, hb1⟩
    have HT2 := Lib.hid (HT1.out.below hb1)
    clear hb1
    rw [r2]
    obtain ⟨x0, x1, x2, x3, x4⟩ := HT2.out.a.five
    obtain ⟨y0, y1, y2, y3, y4⟩ := HT2.out.b.five
    go_wp2_with fail
    clear x0 x1 x2 x3 x4 y0 y1 y2 y3 y4
    go_ret
    rw [HE.out]
    exact ⟨rfl, HT2.out.a.all⟩
  by_cases h3 : m3.length = n3.length
  case neg =>
    have e3 : ((m3.length : Int) != (n3.length : Int)) = true := by simp; omega
    have HE := Lib.hid (sameM_inits (n := ⟨m0, m1, m2, m3, m4⟩) (o := ⟨n0, n1, n2, n3, n4⟩) (eqAll_len h3))
    clear h0 h3 HD3 HE3 HD4 HE4
    go_enter Tryz.func9, Tryz.ntmps9
    go_wp2_with fail
    refine (H1.out _ HT0.out.a.all).mono ?_
    rintro e w1 ⟨rfl, hb1⟩
    have HT1 := Lib.hid (HT0.out.below hb1)
    clear hb1
    rw [r1]
    obtain ⟨x0, x1, x2, x3, x4⟩ := HT1.out.a.five
    obtain ⟨y0, y1, y2, y3, y4⟩ := HT1.out.b.five
    go_wp2_with fail
    clear x0 x1 x2 x3 x4 y0 y1 y2 y3 y4
    refine (H2.out _ HT1.out.a.all).mono ?_
    rintro e w2 ⟨rfl, hb1⟩
    have HT2 := Lib.hid (HT1.out.below hb1)
    clear hb1
    rw [r2]
    obtain ⟨x0, x1, x2, x3, x4⟩ := HT2.out.a.five
    obtain ⟨y0, y1, y2, y3, y4⟩ := HT2.out.b.five
    go_wp2_with fail
    clear x0 x1 x2 x3 x4 y0 y1 y2 y3 y4
    go_ret
    rw [HE.out]
    exact ⟨rfl, HT2.out.a.all⟩
  have e3 : ((m3.length : Int) != (n3.length : Int)) = false := by simp; omega
  by_cases h4 : m4.length = n4.length
  case neg =>
    have e4 : ((m4.length : Int) != (n4.length : Int)) = true := by simp; omega
    have HE := Lib.hid (sameM_nodes (n := ⟨m0, m1, m2, m3, m4⟩) (o := ⟨n0, n1, n2, n3, n4⟩) (eqAll_len h4))
    clear h0 h3 h4 HD3 HE3 HD4 HE4
    go_enter Tryz.func9, Tryz.ntmps9
    go_wp2_with fail
    refine (H1.out _ HT0.out.a.all).mono ?_
    rintro e w1 ⟨rfl, hb1⟩
    have HT1 := Lib.hid (HT0.out.below hb1)
    clear hb1
    rw [r1]
    obtain ⟨x0, x1, x2, x3, x4⟩ := HT1.out.a.five
    obtain ⟨y0, y1, y2, y3, y4⟩ := HT1.out.b.five
    go_wp2_with fail
    clear x0 x1 x2 x3 x4 y0 y1 y2 y3 y4
    refine (H2.out _ HT1.out.a.all).mono ?_
    rintro e w2 ⟨rfl, hb1⟩
    have HT2 := Lib.hid (HT1.out.below hb1)
    clear hb1
    rw [r2]
    obtain ⟨x0, x1, x2, x3, x4⟩ := HT2.out.a.five
    obtain ⟨y0, y1, y2, y3, y4⟩ := HT2.out.b.five
    go_wp2_with fail
    clear x0 x1 x2 x3 x4 y0 y1 y2 y3 y4
    go_ret
    rw [HE.out]
    exact ⟨rfl, HT2.out.a.all⟩
  have e4 : ((m4.length : Int) != (n4.length : Int)) = false := by simp; omega
  have HL3 := Lib.hid h3
  have HL4 := Lib.hid h4
  have HYES := Lib.hid (fun (h3 : eqAll sameT m3 n3 = true) (h4 : eqAll sameN m4 n4 = true) => sameM_yes (n := ⟨m0, m1, m2, m3, m4⟩) (o := ⟨n0, n1, n2, n3, n4⟩) h0 r1 r2 h3 h4)
  have HF3 := Lib.hid (fun h => sameM_inits (n := ⟨m0, m1, m2, m3, m4⟩) (o := ⟨n0, n1, n2, n3, n4⟩) h)
  have HF4 := Lib.hid (fun h => sameM_nodes (n := ⟨m0, m1, m2, m3, m4⟩) (o := ⟨n0, n1, n2, n3, n4⟩) h)
  clear h0 h3 h4
  go_enter Tryz.func9, Tryz.ntmps9
  go_wp2_with fail
  refine (H1.out _ HT0.out.a.all).mono ?_
  rintro e w1 ⟨rfl, hb1⟩
  have HT1 := Lib.hid (HT0.out.below hb1)
  clear hb1
  rw [r1]
  obtain ⟨x0, x1, x2, x3, x4⟩ := HT1.out.a.five
  obtain ⟨y0, y1, y2, y3, y4⟩ := HT1.out.b.five
  go_wp2_with fail
  clear x0 x1 x2 x3 x4 y0 y1 y2 y3 y4
  refine (H2.out _ HT1.out.a.all).mono ?_
  rintro e w2 ⟨rfl, hb1⟩
  have HT2 := Lib.hid (HT1.out.below hb1)
  clear hb1
  rw [r2]
  obtain ⟨x0, x1, x2, x3, x4⟩ := HT2.out.a.five
  obtain ⟨y0, y1, y2, y3, y4⟩ := HT2.out.b.five
  go_wp2_with fail
  clear x0 x1 x2 x3 x4 y0 y1 y2 y3 y4
  clear e1 e3 e4 r1 r2 H1 H2
  go_loopw [5] (fun i wr => ∃ (k : Nat) (K : Int), i = .int .i64 K ∧ K = (k : Nat) ∧ k ≤ m3.length ∧ MTwo w w.heap.size (w.heap.size + 1) #[.int .i64 m0, .slice A1 m1.length c1, .slice A2 m2.length c2, .slice A3 m3.length c3, .slice A4 m4.length c4] #[.int .i64 n0, .slice B1 n1.length d1, .slice B2 n2.length d2, .slice B3 n3.length d3, .slice B4 n4.length d4] 42 wr ∧ eqTo sameT m3 n3 k) (fun i _ => m3.length - (intOf i).toNat)
  case atStart => exact ⟨0, _, rfl, rfl, by omega, HT2.out, eqTo_zero _ _⟩
  case round =>
    obtain ⟨k, K, rfl, rfl, hk, hbx, htk⟩ := hrel
    have HT := Lib.hid htk
    have HX := Lib.hid hbx
    clear htk hbx
    have hbz := HX.out.a.all.size
    obtain ⟨x0, x1, x2, x3, x4⟩ := HX.out.a.five
    obtain ⟨y0, y1, y2, y3, y4⟩ := HX.out.b.five
    by_cases hlt : k < m3.length
    · have hlt' : k < n3.length := by rw [← HL3.out]; exact hlt
      obtain ⟨b1, o1, cx, rfl, hb1, hpx, hcx⟩ := (HD3.out.below ek_ten HX.out.a.all).at_ ek_ten hlt
      obtain ⟨b2, o2, cy, rfl, hb2, hpy, hcy⟩ := (HE3.out.below ek_ten HX.out.a.all).at_ ek_ten hlt'
      have HY := Lib.hid (fun h => eqTo_succ HT.out hlt hlt' h)
      have HN := Lib.hid (eqAll_no (f := sameT) hlt hlt')
      have HPX := Lib.hid hpx
      have HPY := Lib.hid hpy
      clear hpx hpy
      generalize m3[k] = u at *
      generalize n3[k] = v at *
      obtain ⟨A1, c1, rfl⟩ := TenAt.shape HPX.out
      obtain ⟨A2, c2, rfl⟩ := TenAt.shape HPY.out
      have p0 := hcx 0 _ rfl
      have p1 := hcx 1 _ rfl
      have p2 := hcx 2 _ rfl
      have p3 := hcx 3 _ rfl
      have r0 := hcy 0 _ rfl
      have r1 := hcy 1 _ rfl
      have r2 := hcy 2 _ rfl
      have r3 := hcy 3 _ rfl
      simp only [Nat.add_zero] at p0 r0
      clear hcx hcy
      have HC := Lib.hid (fun dd os => rten_any u v [.string u.name, .int .i64 u.kind, .slice A1 u.dims.length c1, .string u.data] [.string v.name, .int .i64 v.kind, .slice A2 v.dims.length c2, .string v.data] (grow (redrawn wr dd) os) (ek_ten.more (ek_ten.below HPX.out ((below_regrown wr dd os).mono hbz)) (Nat.le_trans hbz (below_regrown wr dd os).size)) (ek_ten.more (ek_ten.below HPY.out ((below_regrown wr dd os).mono hbz)) (Nat.le_trans hbz (below_regrown wr dd os).size)))
      have q0 := fun d os => cell_regrown p0 d os
      have q1 := fun d os => cell_regrown p1 d os
      have q2 := fun d os => cell_regrown p2 d os
      have q3 := fun d os => cell_regrown p3 d os
      have s0 := fun d os => cell_regrown r0 d os
      have s1 := fun d os => cell_regrown r1 d os
      have s2 := fun d os => cell_regrown r2 d os
      have s3 := fun d os => cell_regrown r3 d os
      have qx0 := fun d os => cell_regrown x0 d os
      have qy0 := fun d os => cell_regrown y0 d os
      have qx1 := fun d os => cell_regrown x1 d os
      have qy1 := fun d os => cell_regrown y1 d os
      have qx2 := fun d os => cell_regrown x2 d os
      have qy2 := fun d os => cell_regrown y2 d os
      have qx3 := fun d os => cell_regrown x3 d os
      have qy3 := fun d os => cell_regrown y3 d os
      have qx4 := fun d os => cell_regrown x4 d os
      have qy4 := fun d os => cell_regrown y4 d os
      clear p0 p1 p2 p3 r0 r1 r2 r3 HPX HPY
      cases huv : sameT u v
      · have HE := Lib.hid (HF3.out (HN.out huv))
        rw [huv] at HC
        clear huv HN HY
        go_wp2_with fail
        refine wp_region_quiet_below (by kernel_rfl) (by kernel_rfl) ?_
        repeat (go_big_quiet_step ((go_at_call 31; exact Calls.regrown_of (HC.out _ _))))
        refine wpQuiet_nil ?_
        rintro w9 ⟨p, rfl⟩
        have H2 := Lib.hid (HX.out.below (below_regrown wr p.d p.os))
        clear qx0 qy0 x0 y0 qx1 qy1 x1 y1 qx2 qy2 x2 y2 qx3 qy3 x3 y3 qx4 qy4 x4 y4 q0 q1 q2 q3 s0 s1 s2 s3 HC
        generalize grow (redrawn wr p.d) p.os = w9 at H2 ⊢
        go_wp2_with fail
        go_ret
        rw [HE.out]
        exact ⟨rfl, H2.out.a.all⟩
      · have HE := Lib.hid (HY.out huv)
        rw [huv] at HC
        clear huv HN HY
        go_wp2_with fail
        refine wp_region_quiet_below (by kernel_rfl) (by kernel_rfl) ?_
        repeat (go_big_quiet_step ((go_at_call 31; exact Calls.regrown_of (HC.out _ _))))
        refine wpQuiet_nil ?_
        rintro w9 ⟨p, rfl⟩
        have H2 := Lib.hid (HX.out.below (below_regrown wr p.d p.os))
        clear qx0 qy0 x0 y0 qx1 qy1 x1 y1 qx2 qy2 x2 y2 qx3 qy3 x3 y3 qx4 qy4 x4 y4 q0 q1 q2 q3 s0 s1 s2 s3 HC
        generalize grow (redrawn wr p.d) p.os = w9 at H2 ⊢
        go_wp2_with fail
        go_roundw
        case rel => exact ⟨k + 1, _, rfl, by omega, by omega, H2.out, HE.out⟩
        case measure => simp [intOf]; omega
    · obtain rfl : k = m3.length := by omega
      have HALL := Lib.hid (eqAll_yes HL3.out HT.out)
      clear HT
      have HTEN := Lib.hid HALL.out
      have HX2 := Lib.hid HX.out
      clear HALL HX hk hlt
      go_wp2_with fail
      clear x0 x1 x2 x3 x4 y0 y1 y2 y3 y4
      go_loopw [6] (fun i wr => ∃ (k : Nat) (K : Int), i = .int .i64 K ∧ K = (k : Nat) ∧ k ≤ m4.length ∧ MTwo w w.heap.size (w.heap.size + 1) #[.int .i64 m0, .slice A1 m1.length c1, .slice A2 m2.length c2, .slice A3 m3.length c3, .slice A4 m4.length c4] #[.int .i64 n0, .slice B1 n1.length d1, .slice B2 n2.length d2, .slice B3 n3.length d3, .slice B4 n4.length d4] 42 wr ∧ eqTo sameN m4 n4 k) (fun i _ => m4.length - (intOf i).toNat)
      case atStart => exact ⟨0, _, rfl, rfl, by omega, HX2.out, eqTo_zero _ _⟩
      case round =>
        obtain ⟨k, K, rfl, rfl, hk, hbx, htk⟩ := hrel
        have HT := Lib.hid htk
        have HX := Lib.hid hbx
        clear htk hbx
        have hbz := HX.out.a.all.size
        obtain ⟨x0, x1, x2, x3, x4⟩ := HX.out.a.five
        obtain ⟨y0, y1, y2, y3, y4⟩ := HX.out.b.five
        by_cases hlt : k < m4.length
        · have hlt' : k < n4.length := by rw [← HL4.out]; exact hlt
          obtain ⟨b1, o1, cx, rfl, hb1, hpx, hcx⟩ := (HD4.out.below ek_nod HX.out.a.all).at_ ek_nod hlt
          obtain ⟨b2, o2, cy, rfl, hb2, hpy, hcy⟩ := (HE4.out.below ek_nod HX.out.a.all).at_ ek_nod hlt'
          have HY := Lib.hid (fun h => eqTo_succ HT.out hlt hlt' h)
          have HN := Lib.hid (eqAll_no (f := sameN) hlt hlt')
          have HPX := Lib.hid hpx
          have HPY := Lib.hid hpy
          clear hpx hpy
          generalize m4[k] = u at *
          generalize n4[k] = v at *
          obtain ⟨A1, c1, D1, e1, rfl⟩ := NodAt.shape HPX.out
          obtain ⟨A2, c2, D2, e2, rfl⟩ := NodAt.shape HPY.out
          have p0 := hcx 0 _ rfl
          have p1 := hcx 1 _ rfl
          have p2 := hcx 2 _ rfl
          have p3 := hcx 3 _ rfl
          have r0 := hcy 0 _ rfl
          have r1 := hcy 1 _ rfl
          have r2 := hcy 2 _ rfl
          have r3 := hcy 3 _ rfl
          simp only [Nat.add_zero] at p0 r0
          clear hcx hcy
          have HC := Lib.hid (fun dd os => rnode_any u v [.string u.op, .slice A1 u.ins.length c1, .string u.out, .slice D1 u.attrs.length e1] [.string v.op, .slice A2 v.ins.length c2, .string v.out, .slice D2 v.attrs.length e2] (grow (redrawn wr dd) os) (ek_nod.more (ek_nod.below HPX.out ((below_regrown wr dd os).mono hbz)) (Nat.le_trans hbz (below_regrown wr dd os).size)) (ek_nod.more (ek_nod.below HPY.out ((below_regrown wr dd os).mono hbz)) (Nat.le_trans hbz (below_regrown wr dd os).size)))
          have q0 := fun d os => cell_regrown p0 d os
          have q1 := fun d os => cell_regrown p1 d os
          have q2 := fun d os => cell_regrown p2 d os
          have q3 := fun d os => cell_regrown p3 d os
          have s0 := fun d os => cell_regrown r0 d os
          have s1 := fun d os => cell_regrown r1 d os
          have s2 := fun d os => cell_regrown r2 d os
          have s3 := fun d os => cell_regrown r3 d os
          have qx0 := fun d os => cell_regrown x0 d os
          have qy0 := fun d os => cell_regrown y0 d os
          have qx1 := fun d os => cell_regrown x1 d os
          have qy1 := fun d os => cell_regrown y1 d os
          have qx2 := fun d os => cell_regrown x2 d os
          have qy2 := fun d os => cell_regrown y2 d os
          have qx3 := fun d os => cell_regrown x3 d os
          have qy3 := fun d os => cell_regrown y3 d os
          have qx4 := fun d os => cell_regrown x4 d os
          have qy4 := fun d os => cell_regrown y4 d os
          clear p0 p1 p2 p3 r0 r1 r2 r3 HPX HPY
          cases huv : sameN u v
          · have HE := Lib.hid (HF4.out (HN.out huv))
            rw [huv] at HC
            clear huv HN HY
            go_wp2_with fail
            refine wp_region_quiet_below (by kernel_rfl) (by kernel_rfl) ?_
            repeat (go_big_quiet_step ((go_at_call 32; exact Calls.regrown_of (HC.out _ _))))
            refine wpQuiet_nil ?_
            rintro w9 ⟨p, rfl⟩
            have H2 := Lib.hid (HX.out.below (below_regrown wr p.d p.os))
            clear qx0 qy0 x0 y0 qx1 qy1 x1 y1 qx2 qy2 x2 y2 qx3 qy3 x3 y3 qx4 qy4 x4 y4 q0 q1 q2 q3 s0 s1 s2 s3 HC
            generalize grow (redrawn wr p.d) p.os = w9 at H2 ⊢
            go_wp2_with fail
            go_ret
            rw [HE.out]
            exact ⟨rfl, H2.out.a.all⟩
          · have HE := Lib.hid (HY.out huv)
            rw [huv] at HC
            clear huv HN HY
            go_wp2_with fail
            refine wp_region_quiet_below (by kernel_rfl) (by kernel_rfl) ?_
            repeat (go_big_quiet_step ((go_at_call 32; exact Calls.regrown_of (HC.out _ _))))
            refine wpQuiet_nil ?_
            rintro w9 ⟨p, rfl⟩
            have H2 := Lib.hid (HX.out.below (below_regrown wr p.d p.os))
            clear qx0 qy0 x0 y0 qx1 qy1 x1 y1 qx2 qy2 x2 y2 qx3 qy3 x3 y3 qx4 qy4 x4 y4 q0 q1 q2 q3 s0 s1 s2 s3 HC
            generalize grow (redrawn wr p.d) p.os = w9 at H2 ⊢
            go_wp2_with fail
            go_roundw
            case rel => exact ⟨k + 1, _, rfl, by omega, by omega, H2.out, HE.out⟩
            case measure => simp [intOf]; omega
        · obtain rfl : k = m4.length := by omega
          have HALL := Lib.hid (eqAll_yes HL4.out HT.out)
          clear HT
          have HE := Lib.hid (HYES.out HTEN.out HALL.out)
          go_wp2_with fail
          go_ret
          rw [HE.out]
          exact ⟨rfl, HX.out.a.all⟩



set_option maxRecDepth 100000 in
theorem rfind_any (A : Option Addr) (c : Nat) (l : List Att) (s : ByteArray) (w : World) (hl : l.length ≤ maxLen) (ha : DR AttAt w w.heap.size 4 A l) :
    Calls Tryz.prog 54 #[.slice A l.length c, .string s] w fun e w' => e = .returned (.int .i64 (fndI (fun a => decide (a.name = s)) l)) ∧ Below w.heap.size w w' := by
  unfold maxLen at hl
  have HD := Lib.hid ha
  clear ha
  go_enter Tryz.func54, Tryz.ntmps54
  go_wp2_with fail
  go_loopw [5] (fun i wr => ∃ (k : Nat) (K : Int), i = .int .i64 K ∧ K = (k : Nat) ∧ k ≤ l.length ∧ wr = w ∧ ∀ j, j < k → ∀ hj : j < l.length, l[j].name ≠ s) (fun i _ => l.length - (intOf i).toNat)
  case atStart => exact ⟨0, _, rfl, rfl, by omega, rfl, fun j hj => absurd hj (by omega)⟩
  case round =>
    obtain ⟨k, K, rfl, rfl, hk, rfl, hno⟩ := hrel
    have HNO := Lib.hid hno
    clear hno
    by_cases hlt : k < l.length
    · obtain ⟨b, o, cs, rfl, hb, hp, hcx⟩ := HD.out.at_ ek_att hlt
      have HY := Lib.hid (fun (h : l[k].name = s) => fndI_yes (p := fun a => decide (a.name = s)) hlt (by simpa using h) (fun j hj => by simpa using HNO.out j hj (by omega)))
      have HN := Lib.hid (fun (h : l[k].name ≠ s) => show ∀ j, j < k + 1 → ∀ hj : j < l.length, l[j].name ≠ s from fun j hj hj2 => by
        by_cases e : j = k
        · subst e; exact h
        · exact HNO.out j (by omega) hj2)
      obtain ⟨A1, c1, rfl⟩ := AttAt.shape hp
      clear hp HNO
      generalize l[k] = u at *
      have p0 := hcx 0 _ rfl
      simp only [Nat.add_zero] at p0
      clear hcx
      by_cases hs : u.name = s
      · have e1 := teq_yes hs
        have HE := Lib.hid (HY.out hs)
        clear hs HY HN HD
        go_wp2_with fail
        go_ret
        rw [HE.out]
        exact ⟨rfl, Below.refl _ _⟩
      · have e1 := teq_no hs
        have HE := Lib.hid (HN.out hs)
        clear hs HY HN
        go_wp2_with fail
        go_roundw
        case rel => exact ⟨k + 1, _, rfl, by omega, by omega, trivial, HE.out⟩
        case measure => simp [intOf]; omega
    · obtain rfl : k = l.length := by omega
      have e := fndI_no (p := fun a => decide (a.name = s)) (l := l) (fun j hj => by simpa using HNO.out j hj hj)
      have HE := Lib.hid e
      clear e HNO
      go_wp2_with fail
      go_ret
      rw [HE.out]
      exact ⟨rfl, Below.refl _ _⟩


end Go.Proofs.YtjjfdlgoacockaaGreat
namespace Go.Proofs.YtjjfdlgoacockaaGreat
open Go.RowKit M7 M10 Go.Sort

def RR {α : Type} (P : Nat → World → α → List Value → Prop) (w : World) (B : Nat) (T : TypeId) (size : Nat) (v : Value) (l : List α) : Prop :=
  ∃ css, Al (P B w) l css ∧ (∀ c ∈ css, c.length = size) ∧ w.ownsRow B T size v l.length css.flatten
structure Er {α : Type} (P : Nat → World → α → List Value → Prop) (far : TypeId → Prop) (size : Nat) : Prop where
  len : ∀ {B w a cs}, P B w a cs → cs.length = size
  keep : ∀ {B w w' a cs}, P B w a cs → Below w.heap.size w w' → B ≤ w.heap.size → P B w' a cs
  set : ∀ {B w a cs g cur T i u}, P B w a cs → w.heap[g]? = some (.cells cur T (0, 0)) → far T → B ≤ g → P B (w.setCell ⟨g, i, none⟩ u) a cs
  grown : ∀ {B w w' a cs n s e v ys}, P B w a cs → w.ownsRow B e s v n ys → far e → w.grownBy w' v.ownBlock → B ≤ w.heap.size → P B w' a cs
theorem below_grown {B s n : Nat} {e : TypeId} {v : Value} {ys : List Value} {w w' : World} (h : w.ownsRow B e s v n ys) (hg : w.grownBy w' v.ownBlock) (hB : B ≤ w.heap.size) : Below B w w' :=
  (Below.refl B w).grown hg hB fun _ hq => (own_blk h hq).1
theorem er_of_ek {α : Type} {P : Nat → World → α → List Value → Prop} {size : Nat} (h : Ek P size) : Er P (fun _ => True) size :=
  ⟨fun hp => h.len hp, fun hp hb hB => h.below hp (hb.mono hB), fun {B w _ _ g _ _ i u} hp _ _ hB => h.below hp ((Below.refl B w).setCell (p := ⟨g, i, none⟩) hB u), fun hp ho _ hg hB => h.below hp (below_grown ho hg hB)⟩
section
variable {α : Type} {P : Nat → World → α → List Value → Prop} {far : TypeId → Prop} {w w' : World} {B size n : Nat} {T : TypeId} {v : Value} {l : List α}
theorem RR.nil (w : World) (B : Nat) (T : TypeId) (size : Nat) : RR P w B T size (.slice none 0 0) [] := ⟨[], trivial, by simp, World.ownsRow_nil _ _ _ _⟩
theorem RR.keep (h : RR P w B T size v l) (hr : Er P far size) (hb : Below w.heap.size w w') (hB : B ≤ w.heap.size) : RR P w' B T size v l := by
  obtain ⟨css, ha, hl, ho⟩ := h
  exact ⟨css, ha.mono fun _ _ hp => hr.keep hp hb hB, hl, own_keep ho hb⟩
theorem RR.set (h : RR P w B T size v l) (hr : Er P far size) {g : Nat} {cur : Array Value} {T2 : TypeId} {i : Nat} {u : Value} (hg : w.heap[g]? = some (.cells cur T2 (0, 0))) (hf : far T2) (hT : T2 ≠ T) (hB : B ≤ g) : RR P (w.setCell ⟨g, i, none⟩ u) B T size v l := by
  obtain ⟨css, ha, hl, ho⟩ := h
  exact ⟨css, ha.mono fun _ _ hp => hr.set hp hg hf hB, hl, own_set ho (own_far ho hg hT) i u⟩
theorem RR.grown (h : RR P w B T size v l) (hr : Er P far size) {e : TypeId} {s n : Nat} {u : Value} {ys : List Value} (ho : w.ownsRow B e s u n ys) (hf : far e) (hT : T ≠ e) (hg : w.grownBy w' u.ownBlock) (hB : B ≤ w.heap.size) : RR P w' B T size v l := by
  obtain ⟨css, ha, hl, hw⟩ := h
  exact ⟨css, ha.mono fun _ _ hp => hr.grown hp ho hf hg hB, hl, own_grown_far hw ho hT hg⟩
theorem RR.form (h : RR P w B T size v l) : ∃ A c, v = .slice A l.length c := by
  obtain ⟨css, _, _, ho⟩ := h
  obtain ⟨A, c, hv, _⟩ := own_form ho
  exact ⟨A, c, hv⟩
theorem RR.read {Q : Nat → World → α → List Value → Prop} {A : Option Addr} {c : Nat} (h : RR P w B T size (.slice A l.length c) l) (hm : ∀ a cs, a ∈ l → P B w a cs → Q w.heap.size w a cs) : DR Q w w.heap.size size A l := by
  obtain ⟨css, ha, hl, ho⟩ := h
  exact ⟨css, Al.of_get ha.len fun k h1 h2 => hm _ _ (List.getElem_mem h1) (ha.get h1 h2), SR.of_own ho⟩
end
theorem flatten_snoc (css : List (List Value)) (c : List Value) : (css ++ [c]).flatten = css.flatten ++ c := by simp
theorem infoRInfo : (Tryz.prog.info? 89).map (fun i => (i.zero, i.size, i.bytes)) = some (some (.agg #[.string ⟨#[]⟩, .int .i64 0, .slice none 0 0]), 3, 48) := by kernel_rfl
theorem infoRAttr : (Tryz.prog.info? 129).map (fun i => (i.zero, i.size, i.bytes)) = some (some (.agg #[.string ⟨#[]⟩, .bool false, .int .i64 0, .slice none 0 0]), 4, 56) := by kernel_rfl
theorem infoRTen : (Tryz.prog.info? 85).map (fun i => (i.zero, i.size, i.bytes)) = some (some (.agg #[.string ⟨#[]⟩, .int .i64 0, .slice none 0 0, .string ⟨#[]⟩]), 4, 64) := by kernel_rfl
theorem infoRNode : (Tryz.prog.info? 80).map (fun i => (i.zero, i.size, i.bytes)) = some (some (.agg #[.string ⟨#[]⟩, .slice none 0 0, .string ⟨#[]⟩, .slice none 0 0]), 4, 80) := by kernel_rfl

set_option maxRecDepth 100000 in
theorem linfos_any (B : Nat) (l : List Inf) (A : Option Addr) (c : Nat) (w : World) (hB : B ≤ w.heap.size) (hl : l.length * 48 ≤ 140737488351232) (ha : DR InfAt w B 3 A l) :
    Calls Tryz.prog 33 #[.slice A l.length c] w fun e w' => ∃ v, e = .returned v ∧ RR InfAt w' B 89 3 v l ∧ Below w.heap.size w w' := by
  obtain ⟨i0, hi0, hz0, hz1, hz2⟩ := info_parts infoRInfo
  have HB0 := Lib.hid hB
  go_enter Tryz.func33, Tryz.ntmps33
  go_wp2_with fail
  go_loopw [3, 5, 8] (fun v _ i wr => ∃ (k : Nat) (K : Int) (css : List (List Value)), i = .int .i64 K ∧ K = (k : Nat) ∧ k ≤ l.length ∧ Al (InfAt B wr) (l.take k) css ∧ wr.ownsRow w.heap.size 89 3 v k css.flatten ∧ Below w.heap.size w wr) (fun _ _ i _ => l.length - (intOf i).toNat)
  case atStart => exact ⟨0, _, [], rfl, rfl, by omega, by rw [List.take_zero]; exact trivial, World.ownsRow_nil _ _ _ _, Below.refl _ _⟩
  case round =>
    obtain ⟨k, K, css, rfl, rfl, hk, hal, hown, hb⟩ := hrel
    obtain ⟨V, vc, rfl, -, -⟩ := own_form hown
    have HAL := Lib.hid hal
    clear hal
    by_cases hlt : k < l.length
    · obtain ⟨b, o, cs, rfl, hbb, hp, hcx⟩ := (ha.below ek_inf (hb.mono hB)).at_ ek_inf hlt
      have hz := hb.size
      have HS := Lib.hid (fun (W : World) (cs : List Value) (hp : InfAt B W l[k] cs) (hal : Al (InfAt B W) (l.take k) css) => show Al (InfAt B W) (l.take (k + 1)) (css ++ [cs]) from by rw [List.take_succ_eq_append_getElem hlt]; exact hal.snoc hp)
      have HB := Lib.hid hb
      have HP := Lib.hid hp
      clear hb
      obtain ⟨A1, c1, rfl⟩ := InfAt.shape hp
      clear hp
      generalize l[k] = u at *
      have p0 := hcx 0 _ rfl
      have p1 := hcx 1 _ rfl
      have p2 := hcx 2 _ rfl
      simp only [Nat.add_zero] at p0
      clear hcx
      go_wp2_with (at_builtin; refine wpList_append_own _ rfl _ _ 38 rfl w.heap.size 89 i0 _ 3 48 Tryz.underlying38 hi0 hz0 hz1 hz2 rfl (by decide) _ _ _ rfl ((hown.alloc _).alloc _) ⟨wr.heap.size + 1, 0, none⟩ 1 1 [.string u.name, .int .i64 u.kind, .slice A1 u.dims.length c1] rfl rfl (cells_new2 _ _ _ _) ?c2 ?c3 ?c4 ?c5 ?_)
      case c2 => intro u hu; simp at hu; rcases hu with rfl | rfl | rfl <;> rfl
      case c3 => unfold maxLen; omega
      case c4 => omega
      case c5 => simp; omega
      intro v' w2 hown' hgrow _
      rw [← flatten_snoc] at hown'
      have hb3 := ((HB.out.alloc hz _).alloc (by simp; omega) _).grown hgrow (by simp; omega) (fun q hq => (hown.lt q hq).1)
      have hb4 : Below w.heap.size wr w2 := ((((Below.refl w.heap.size wr).alloc hz _).alloc (by simp; omega) _).grown hgrow (by simp; omega) (fun q hq => (hown.lt q hq).1))
      have HO := Lib.hid (And.intro hown' (And.intro hb3 (HS.out w2 _ (ek_inf.below HP.out (hb4.mono HB0.out)) (HAL.out.mono fun _ _ hq => ek_inf.below hq (hb4.mono HB0.out)))))
      clear hgrow hown' hown hb3 hb4 p0 p1 p2
      go_wp2_with fail
      go_roundw
      case rel => exact ⟨k + 1, _, _, rfl, by omega, by omega, HO.out.2.2, HO.out.1, HO.out.2.1⟩
      case measure => simp [intOf]; omega
    · obtain rfl : k = l.length := by omega
      have hal := HAL.out
      rw [List.take_length] at hal
      have HO := Lib.hid (And.intro hown (And.intro hb hal))
      clear hown hb hal HAL
      go_wp2_with fail
      go_ret
      exact ⟨_, rfl, ⟨css, HO.out.2.2, ek_inf.all HO.out.2.2, own_base HO.out.1 HB0.out⟩, HO.out.2.1⟩
theorem er_inf : Er InfAt (fun _ => True) 3 := er_of_ek ek_inf
theorem er_ten : Er TenAt (fun _ => True) 4 := er_of_ek ek_ten
theorem er_att : Er AttAt (fun _ => True) 4 := er_of_ek ek_att
def RNod (B : Nat) (w : World) (n : Nod) (cs : List Value) : Prop :=
  ∃ A c v, cs = [.string n.op, .slice A n.ins.length c, .string n.out, v] ∧ SR w B 1 A n.ins.length (m_tx n.ins) ∧ RR AttAt w B 129 4 v n.attrs ∧ NOk n
theorem RNod.shape {B : Nat} {w : World} {n : Nod} {cs : List Value} (h : RNod B w n cs) : ∃ A c A' c', cs = [.string n.op, .slice A n.ins.length c, .string n.out, .slice A' n.attrs.length c'] := by
  obtain ⟨A, c, v, h, _, hr, _⟩ := h
  obtain ⟨A', c', rfl⟩ := hr.form
  exact ⟨A, c, A', c', h⟩
theorem RNod.at_ {B : Nat} {w : World} {n : Nod} {cs : List Value} (h : RNod B w n cs) (hB : B ≤ w.heap.size) : NodAt w.heap.size w n cs := by
  obtain ⟨A, c, v, rfl, hs, hr, ok⟩ := h
  obtain ⟨A', c', rfl⟩ := hr.form
  exact ⟨A, c, A', c', rfl, hs.more hB, hr.read fun _ _ _ hp => ek_att.more hp hB, ok⟩
theorem er_nod : Er RNod (fun T => T ≠ 129) 4 :=
  ⟨fun ⟨_, _, _, h, _⟩ => by rw [h]; rfl,
   fun ⟨A, c, v, h, hs, hr, ok⟩ hb hB => ⟨A, c, v, h, hs.below (hb.mono hB), hr.keep er_att hb hB, ok⟩,
   fun {B w _ _ g _ _ i u} ⟨A, c, v, h, hs, hr, ok⟩ hg hf hB => ⟨A, c, v, h, hs.below ((Below.refl B w).setCell (p := ⟨g, i, none⟩) hB u), hr.set er_att hg trivial hf hB, ok⟩,
   fun ⟨A, c, v, h, hs, hr, ok⟩ ho hf hg hB => ⟨A, c, v, h, hs.below (below_grown ho hg hB), hr.grown er_att ho trivial (fun e => hf e.symm) hg hB, ok⟩⟩

theorem rnod_set4 {w : World} {B b : Nat} {T : TypeId} {a : Nod} {cs : List Value} {c0 c1 c2 c3 : Value} (h : RNod B w a cs) (hb : w.heap[b]? = some (.cells #[c0, c1, c2, c3] T (0, 0))) (h1 : T ≠ 129) (hB : B ≤ b) (v0 v1 v2 v3 : Value) :
    RNod B ((((w.setCell ⟨b, 0, none⟩ v0).setCell ⟨b, 1, none⟩ v1).setCell ⟨b, 2, none⟩ v2).setCell ⟨b, 3, none⟩ v3) a cs := by
  have g1 := heap_setCell_same w b 0 _ T v0 hb
  have g2 := heap_setCell_same _ b 1 _ T v1 g1
  have g3 := heap_setCell_same _ b 2 _ T v2 g2
  exact er_nod.set (er_nod.set (er_nod.set (er_nod.set h hb h1 hB) g1 h1 hB) g2 h1 hB) g3 h1 hB

set_option maxRecDepth 100000 in
set_option maxHeartbeats 2000000 in
theorem lnode_any (B : Nat) (n : Nod) (cn : List Value) (w : World) (hB : B ≤ w.heap.size) (hn : NodAt B w n cn) :
    Calls Tryz.prog 35 #[.agg cn.toArray] w fun e w' => ∃ cs, e = .returned (.agg cs.toArray) ∧ RNod B w' n cs ∧ Below w.heap.size w w' := by
  obtain ⟨i0, hi0, hz0, hz1, hz2⟩ := info_parts infoRAttr
  obtain ⟨A, c, D, d, rfl, hs, hd, ok⟩ := hn
  have hal := ok.alen
  have HB0 := Lib.hid hB
  have HD := Lib.hid hd
  have HSR := Lib.hid hs
  have OK := Lib.hid ok
  have HA := Lib.hid (Bx.start w #[.string n.op, .slice A n.ins.length c, .string n.out, .slice D n.attrs.length d] 102)
  have HZ := Lib.hid ((Bx.two w (.cells #[.string n.op, .slice A n.ins.length c, .string n.out, .slice D n.attrs.length d] 102) #[.string ⟨#[]⟩, .slice none 0 0, .string ⟨#[]⟩, .slice none 0 0] 80).more (.cells #[.string n.op, .slice A n.ins.length c, .string n.out, .slice none 0 0] 80))
  have HX := Lib.hid ((Bx.two w (.cells #[.string n.op, .slice A n.ins.length c, .string n.out, .slice D n.attrs.length d] 102) #[.string ⟨#[]⟩, .slice none 0 0, .string ⟨#[]⟩, .slice none 0 0] 80).next #[.string n.op, .slice A n.ins.length c, .string n.out, .slice none 0 0] 80)
  rw [show ((w.alloc (.cells #[.string n.op, .slice A n.ins.length c, .string n.out, .slice D n.attrs.length d] 102)).alloc (.cells #[.string ⟨#[]⟩, .slice none 0 0, .string ⟨#[]⟩, .slice none 0 0] 80)).heap.size = w.heap.size + 1 + 1 by simp] at HX
  have HAA := Lib.hid ((HA.out.more (.cells #[.string ⟨#[]⟩, .slice none 0 0, .string ⟨#[]⟩, .slice none 0 0] 80)).more (.cells #[.string n.op, .slice A n.ins.length c, .string n.out, .slice none 0 0] 80))
  obtain ⟨a0, a1, a2, a3⟩ := HAA.out.four
  clear hs hd ok
  go_enter Tryz.func35, Tryz.ntmps35
  go_wp2_with fail
  clear a0 a1 a2 a3
  go_loopw [5, 16] (fun _ i wr => ∃ (k : Nat) (K : Int) (css : List (List Value)) (V : Value), i = .int .i64 K ∧ K = (k : Nat) ∧ k ≤ n.attrs.length ∧ Bx w (w.heap.size + 1) #[.string ⟨#[]⟩, .slice none 0 0, .string ⟨#[]⟩, .slice none 0 0] 80 wr ∧ Bx w (w.heap.size + 1 + 1) #[.string n.op, .slice A n.ins.length c, .string n.out, V] 80 wr ∧ Al (AttAt B wr) (n.attrs.take k) css ∧ wr.ownsRow w.heap.size 129 4 V k css.flatten) (fun _ i _ => n.attrs.length - (intOf i).toNat)
  case atStart => exact ⟨0, _, [], _, rfl, rfl, by omega, HZ.out, HX.out, by rw [List.take_zero]; exact trivial, World.ownsRow_nil _ _ _ _⟩
  case round =>
    obtain ⟨k, K, css, V, rfl, rfl, hk, hbz, hbx, hal2, hown⟩ := hrel
    obtain ⟨va, vc, rfl, -, -⟩ := own_form hown
    have HZ1 := Lib.hid hbz
    have HX1 := Lib.hid hbx
    have HAL := Lib.hid hal2
    have hz := hbx.all.size
    clear hbz hbx hal2 HZ HX HA HAA
    by_cases hlt : k < n.attrs.length
    · obtain ⟨b, o, cs, rfl, hbb, hp, hcx⟩ := (HD.out.below ek_att (HX1.out.all.mono HB0.out)).at_ ek_att hlt
      have HS := Lib.hid (fun (W : World) (cs : List Value) (hp : AttAt B W n.attrs[k] cs) (hal : Al (AttAt B W) (n.attrs.take k) css) => show Al (AttAt B W) (n.attrs.take (k + 1)) (css ++ [cs]) from by rw [List.take_succ_eq_append_getElem hlt]; exact hal.snoc hp)
      have HP := Lib.hid hp
      obtain ⟨A1, c1, rfl⟩ := AttAt.shape hp
      clear hp
      generalize n.attrs[k] = u at *
      have p0 := hcx 0 _ rfl
      have p1 := hcx 1 _ rfl
      have p2 := hcx 2 _ rfl
      have p3 := hcx 3 _ rfl
      simp only [Nat.add_zero] at p0
      clear hcx
      obtain ⟨x0, x1, x2, x3⟩ := (HX1.out.more (.cells #[.string u.name, .bool u.one, .int .i64 u.int, .slice A1 u.ints.length c1] 108)).four
      go_wp2_with (at_builtin; refine wpList_append_own _ rfl _ _ 78 rfl w.heap.size 129 i0 _ 4 56 Tryz.underlying78 hi0 hz0 hz1 hz2 rfl (by decide) _ _ _ rfl ((hown.alloc _).alloc _) ⟨wr.heap.size + 1, 0, none⟩ 1 1 [.string u.name, .bool u.one, .int .i64 u.int, .slice A1 u.ints.length c1] rfl rfl (cells_new2 _ _ _ _) ?c2 ?c3 ?c4 ?c5 ?_)
      case c2 => intro u hu; simp at hu; rcases hu with rfl | rfl | rfl | rfl <;> rfl
      case c3 => unfold maxLen; omega
      case c4 => omega
      case c5 => simp; omega
      intro v' w2 hown' hgrow _
      obtain ⟨va2, vc2, rfl, -, -⟩ := own_form hown'
      rw [← flatten_snoc] at hown'
      have hfar := own_far ((hown.alloc (.cells #[.string u.name, .bool u.one, .int .i64 u.int, .slice A1 u.ints.length c1] 108)).alloc (.cells #[.string u.name, .bool u.one, .int .i64 u.int, .slice A1 u.ints.length c1] 129)) ((HX1.out.more _).more _).1 (by decide)
      have hfar2 := own_far ((hown.alloc (.cells #[.string u.name, .bool u.one, .int .i64 u.int, .slice A1 u.ints.length c1] 108)).alloc (.cells #[.string u.name, .bool u.one, .int .i64 u.int, .slice A1 u.ints.length c1] 129)) ((HZ1.out.more _).more _).1 (by decide)
      have HX2 := Lib.hid (((HX1.out.more (.cells #[.string u.name, .bool u.one, .int .i64 u.int, .slice A1 u.ints.length c1] 108)).more (.cells #[.string u.name, .bool u.one, .int .i64 u.int, .slice A1 u.ints.length c1] 129)).grown hgrow hfar (fun q hq => (hown.lt q hq).1))
      have HZ2 := Lib.hid (((HZ1.out.more (.cells #[.string u.name, .bool u.one, .int .i64 u.int, .slice A1 u.ints.length c1] 108)).more (.cells #[.string u.name, .bool u.one, .int .i64 u.int, .slice A1 u.ints.length c1] 129)).grown hgrow hfar2 (fun q hq => (hown.lt q hq).1))
      have hb4 : Below w.heap.size wr w2 := ((((Below.refl w.heap.size wr).alloc hz _).alloc (by simp; omega) _).grown hgrow (by simp; omega) (fun q hq => (hown.lt q hq).1))
      have HO := Lib.hid (And.intro hown' (HS.out w2 _ (ek_att.below HP.out (hb4.mono HB0.out)) (HAL.out.mono fun _ _ hq => ek_att.below hq (hb4.mono HB0.out))))
      clear hgrow hown' hown hfar hfar2 hb4 p0 p1 p2 p3 x0 x1 x2 x3
      obtain ⟨y0, y1, y2, y3⟩ := HX2.out.four
      have f0 := fun i => HX2.out.free i
      obtain ⟨w3, hw3, hx3⟩ := name_world10 (P := fun W => Bx w (w.heap.size + 1) #[.string ⟨#[]⟩, .slice none 0 0, .string ⟨#[]⟩, .slice none 0 0] 80 W ∧ Bx w (w.heap.size + 1 + 1) #[.string n.op, .slice A n.ins.length c, .string n.out, .slice va2 (k + 1) vc2] 80 W ∧ Al (AttAt B W) (n.attrs.take (k + 1)) (css ++ [([.string u.name, .bool u.one, .int .i64 u.int, .slice A1 u.ints.length c1] : List Value)]) ∧ W.ownsRow w.heap.size 129 4 (.slice va2 (k + 1) vc2) (k + 1) (css ++ [([.string u.name, .bool u.one, .int .i64 u.int, .slice A1 u.ints.length c1] : List Value)]).flatten)
        ⟨HZ2.out.far_set (.slice va2 (k + 1) vc2) (by omega) (by omega), HX2.out.set (by omega) 3 (.slice va2 (k + 1) vc2), HO.out.2.mono fun _ _ hq => ek_att.below hq ((Below.refl B w2).setCell (p := ⟨w.heap.size + 1 + 1, 3, none⟩) (by have := HB0.out; show B ≤ w.heap.size + 1 + 1; omega) _), own_set HO.out.1 (own_far HO.out.1 HX2.out.1 (by decide)) 3 (.slice va2 (k + 1) vc2)⟩
      have HW := Lib.hid hx3
      clear hx3
      go_wp2_with fail
      go_roundw
      case rel => exact ⟨k + 1, _, _, _, rfl, by omega, by omega, HW.out.1, HW.out.2.1, HW.out.2.2.1, HW.out.2.2.2⟩
      case measure => simp [intOf]; omega
    · obtain rfl : k = n.attrs.length := by omega
      have hal := HAL.out
      rw [List.take_length] at hal
      have HO := Lib.hid (And.intro hown hal)
      clear hown hal HAL HD
      obtain ⟨x0, x1, x2, x3⟩ := HX1.out.four
      obtain ⟨z0, z1, z2, z3⟩ := HZ1.out.four
      have f0 := fun i => HZ1.out.free i
      obtain ⟨w3, hw3, hx3⟩ := name_world10 (P := fun W => Bx w (w.heap.size + 1) #[.string n.op, .slice A n.ins.length c, .string n.out, .slice va n.attrs.length vc] 80 W ∧ RNod B W n [.string n.op, .slice A n.ins.length c, .string n.out, .slice va n.attrs.length vc])
        ⟨HZ1.out.four_put (by omega) (.string n.op) (.slice A n.ins.length c) (.string n.out) (.slice va n.attrs.length vc), rnod_set4 ⟨A, c, _, rfl, HSR.out.below (HX1.out.all.mono HB0.out), ⟨css, HO.out.2, ek_att.all HO.out.2, own_base HO.out.1 HB0.out⟩, OK.out⟩ HZ1.out.1 (by decide) (by have := HB0.out; omega) (.string n.op) (.slice A n.ins.length c) (.string n.out) (.slice va n.attrs.length vc)⟩
      have HW := Lib.hid hx3
      clear hx3
      go_wp2_with fail
      obtain ⟨y0, y1, y2, y3⟩ := HW.out.1.four
      exact bodyPost_ret (v := .agg #[.string n.op, .slice A n.ins.length c, .string n.out, .slice va n.attrs.length vc]) (by simp [results, Tryz.results35, go_sem, y0, y1, y2, y3]) rfl ⟨[.string n.op, .slice A n.ins.length c, .string n.out, .slice va n.attrs.length vc], rfl, HW.out.2, HW.out.1.all⟩
end Go.Proofs.YtjjfdlgoacockaaGreat
namespace Go.Proofs.YtjjfdlgoacockaaGreat
open Go.RowKit M7 M10 Go.Sort

structure Two2 (w : World) (bc lc : Array Value) (W : World) : Prop where
  a : Bx w w.heap.size bc 34 W
  b : Bx w (w.heap.size + 1) lc 30 W
theorem Two2.more {w W : World} {bc lc : Array Value} (h : Two2 w bc lc W) (o : Obj) : Two2 w bc lc (W.alloc o) := ⟨h.a.more o, h.b.more o⟩
end Go.Proofs.YtjjfdlgoacockaaGreat
namespace Go.Proofs.YtjjfdlgoacockaaGreat
open Go.RowKit M7 M10 Go.Sort

def sumf {α : Type} (f : α → Nat) (l : List α) : Nat := (l.map f).sum
theorem sumf_succ {α : Type} (f : α → Nat) {l : List α} {k : Nat} (h : k < l.length) : sumf f (l.take (k + 1)) = sumf f (l.take k) + f l[k] := by
  unfold sumf
  rw [List.take_succ_eq_append_getElem h, List.map_append, List.sum_append, List.map_singleton, List.sum_singleton]
theorem sumf_le {α : Type} (f : α → Nat) (l : List α) (k : Nat) : sumf f (l.take k) ≤ sumf f l := by
  have h : sumf f l = sumf f (l.take k) + sumf f (l.drop k) := by
    unfold sumf
    rw [← List.sum_append, ← List.map_append, List.take_append_drop]
  omega
theorem sumf_nil {α : Type} (f : α → Nat) (l : List α) : sumf f (l.take 0) = 0 := by rw [List.take_zero]; rfl
theorem sumf_all {α : Type} (f : α → Nat) (l : List α) : sumf f (l.take l.length) = sumf f l := by rw [List.take_length]
def cI (i : Inf) : Nat := 1 + i.name.size + i.dims.length
def cT (t : Ten) : Nat := 1 + t.name.size + t.dims.length + t.data.size
def cS (s : ByteArray) : Nat := 1 + s.size
def cA (a : Att) : Nat := 1 + a.name.size + a.ints.length
def cN (n : Nod) : Nat := 1 + n.op.size + n.out.size + sumf cS n.ins + sumf cA n.attrs
def pre (m : Mod) (k : Nat) : Nat := if k = 0 then 0 else if k = 1 then sumf cI m.inputs else sumf cI m.inputs + sumf cI m.outputs
def cM (m : Mod) : Nat := sumf cI m.inputs + sumf cI m.outputs + sumf cT m.inits + sumf cN m.nodes
theorem two_listsX {w W : World} {m : Mod} {A1 A2 A3 A4 : Option Addr} {c1 c2 k : Nat} {bc : Array Value} (h : Two2 w bc #[.slice A1 m.inputs.length c1, .slice A2 m.outputs.length c2] W) (hm : ModAt w.heap.size w m A1 A2 A3 A4) (hk : k < 2) :
    ∃ (A : Option Addr) (c : Nat) (l : List Inf), W.cell? ⟨w.heap.size + 1, k, none⟩ = some (.slice A l.length c) ∧ DR InfAt w w.heap.size 3 A l ∧ l.length * 48 ≤ 140737488351232 ∧ pre m (k + 1) = pre m k + sumf cI l := by
  obtain rfl | rfl : k = 0 ∨ k = 1 := by omega
  · exact ⟨A1, c1, m.inputs, h.b.cell 0, hm.inputs, hm.len1, by simp [pre]⟩
  · exact ⟨A2, c2, m.outputs, h.b.cell 1, hm.outputs, hm.len2, by simp [pre]⟩
theorem pre_le (m : Mod) (k : Nat) : pre m k ≤ sumf cI m.inputs + sumf cI m.outputs := by
  unfold pre
  split
  · omega
  · split <;> omega

set_option maxRecDepth 100000 in
set_option maxHeartbeats 8000000 in
theorem lsmallX_any (m : Mod) (A1 A2 A3 A4 : Option Addr) (c1 c2 c3 c4 : Nat) (w : World) (hm : ModAt w.heap.size w m A1 A2 A3 A4) (hT : cM m ≤ 1099511627776) :
    Calls Tryz.prog 11 #[.agg (mv m.opset A1 m.inputs.length c1 A2 m.outputs.length c2 A3 m.inits.length c3 A4 m.nodes.length c4)] w fun e w' => e = .returned (.bool (decide (cM m ≤ 6000))) ∧ Below w.heap.size w w' := by
  have HM := Lib.hid hm
  obtain ⟨BC, HX0, HF⟩ : ∃ BC, Hid (Two2 w BC #[.slice A1 m.inputs.length c1, .slice A2 m.outputs.length c2] ((w.alloc (.cells #[.int .i64 m.opset, .slice A1 m.inputs.length c1, .slice A2 m.outputs.length c2, .slice A3 m.inits.length c3, .slice A4 m.nodes.length c4] 34)).alloc (.cells #[.slice A1 m.inputs.length c1, .slice A2 m.outputs.length c2] 30))) ∧ Hid (∀ W, Two2 w BC #[.slice A1 m.inputs.length c1, .slice A2 m.outputs.length c2] W → W.cell? ⟨w.heap.size, 0, none⟩ = some (.int .i64 m.opset) ∧ W.cell? ⟨w.heap.size, 1, none⟩ = some (.slice A1 m.inputs.length c1) ∧ W.cell? ⟨w.heap.size, 2, none⟩ = some (.slice A2 m.outputs.length c2) ∧ W.cell? ⟨w.heap.size, 3, none⟩ = some (.slice A3 m.inits.length c3) ∧ W.cell? ⟨w.heap.size, 4, none⟩ = some (.slice A4 m.nodes.length c4)) :=
    ⟨#[.int .i64 m.opset, .slice A1 m.inputs.length c1, .slice A2 m.outputs.length c2, .slice A3 m.inits.length c3, .slice A4 m.nodes.length c4], Lib.hid ⟨(Bx.start w #[.int .i64 m.opset, .slice A1 m.inputs.length c1, .slice A2 m.outputs.length c2, .slice A3 m.inits.length c3, .slice A4 m.nodes.length c4] 34).more (.cells #[.slice A1 m.inputs.length c1, .slice A2 m.outputs.length c2] 30), Bx.two w (.cells #[.int .i64 m.opset, .slice A1 m.inputs.length c1, .slice A2 m.outputs.length c2, .slice A3 m.inits.length c3, .slice A4 m.nodes.length c4] 34) #[.slice A1 m.inputs.length c1, .slice A2 m.outputs.length c2] 30⟩, Lib.hid fun _ h => h.a.five⟩
  obtain ⟨a0, a1, a2, a3, a4⟩ := (Bx.start w #[.int .i64 m.opset, .slice A1 m.inputs.length c1, .slice A2 m.outputs.length c2, .slice A3 m.inits.length c3, .slice A4 m.nodes.length c4] 34).five
  have hTT : cM m = sumf cI m.inputs + sumf cI m.outputs + sumf cT m.inits + sumf cN m.nodes := rfl
  have HCM := Lib.hid hTT
  have hT2 : sumf cI m.inputs + sumf cI m.outputs + sumf cT m.inits + sumf cN m.nodes ≤ 1099511627776 := by rw [← hTT]; exact hT
  clear hTT hT
  have hl3 := hm.len3
  have hl4 := hm.len4
  clear hm
  unfold mv
  go_enter Tryz.func11, Tryz.ntmps11
  go_wp2_with fail
  clear a0 a1 a2 a3 a4
  go_loopw [3, 5, 22] (fun s _ i wr => ∃ (k : Nat) (K N : Int), i = .int .i64 K ∧ s = .int .i64 N ∧ K = (k : Nat) ∧ N = ((pre m k : Nat) : Int) ∧ k ≤ 2 ∧ Two2 w BC #[.slice A1 m.inputs.length c1, .slice A2 m.outputs.length c2] wr) (fun _ _ i _ => 2 - (intOf i).toNat)
  case atStart => exact ⟨0, _, _, rfl, rfl, rfl, rfl, by omega, HX0.out⟩
  case round =>
    obtain ⟨k0, K0, N0, rfl, rfl, rfl, hN0, hk0, hx⟩ := hrel
    have hpl := pre_le m k0
    have hn0 : 0 ≤ N0 ∧ N0 ≤ 1099511627776 := by omega
    obtain ⟨hn0, hn1⟩ := hn0
    have HX1 := Lib.hid hx
    clear hx
    by_cases hlt0 : k0 < 2
    · obtain ⟨A, c, l, hcell, hdr, hlen, hpre⟩ := two_listsX HX1.out HM.out hlt0
      have hpl1 := pre_le m (k0 + 1)
      have HPRE := Lib.hid hpre
      have HN0 := Lib.hid hN0
      have hsl : (pre m k0 : Int) + (sumf cI l : Int) ≤ 1099511627776 := by omega
      have HSL := Lib.hid hsl
      clear hsl hpre hpl1 hpl
      have HD := Lib.hid hdr
      clear hdr
      go_wp2_with fail
      go_loopw [3, 7, 28] (fun s _ i wr => ∃ (k : Nat) (K N : Int), i = .int .i64 K ∧ s = .int .i64 N ∧ K = (k : Nat) ∧ N = ((pre m k0 + sumf cI (l.take k) : Nat) : Int) ∧ k ≤ l.length ∧ Two2 w BC #[.slice A1 m.inputs.length c1, .slice A2 m.outputs.length c2] wr) (fun _ _ i _ => l.length - (intOf i).toNat)
      case atStart => exact ⟨0, _, _, rfl, rfl, rfl, by rw [sumf_nil]; exact HN0.out, by omega, HX1.out⟩
      case round =>
        obtain ⟨k, K, N, rfl, rfl, rfl, hN, hk, hx⟩ := hrel
        have HNN := Lib.hid hN
        have HXa := Lib.hid hx
        clear hx
        by_cases hlt : k < l.length
        · obtain ⟨b, o, cs, rfl, hbb, hp, hcx⟩ := (HD.out.below ek_inf HXa.out.a.all).at_ ek_inf hlt
          obtain ⟨U1, e1, rfl⟩ := InfAt.shape hp
          clear hp
          have hsc := sumf_succ cI hlt
          have hsb := sumf_le cI l (k + 1)
          have hbd := HSL.out
          have hn2 : 0 ≤ N ∧ N ≤ 1099511627776 := by omega
          obtain ⟨hn2, hn3⟩ := hn2
          generalize l[k] = u at *
          have hcu : cI u = 1 + u.name.size + u.dims.length := rfl
          have hb1 : u.name.size ≤ 1099511627776 ∧ u.dims.length ≤ 1099511627776 := by omega
          obtain ⟨hb1, hb2⟩ := hb1
          have HSC := Lib.hid (And.intro hsc hcu)
          clear hsc hsb hbd hcu hN
          have p0 := hcx 0 _ rfl
          have p1 := hcx 1 _ rfl
          have p2 := hcx 2 _ rfl
          simp only [Nat.add_zero] at p0
          clear hcx
          have HY := Lib.hid (HXa.out.more (.cells #[.string u.name, .int .i64 u.kind, .slice U1 u.dims.length e1] 106))
          go_wp2_with fail
          go_roundw
          case rel => exact ⟨k + 1, _, _, rfl, rfl, by omega, by have h1 := HSC.out; have h2 := HNN.out; omega, by omega, HY.out⟩
          case measure => simp [intOf]; omega
        · obtain rfl : k = l.length := by omega
          rw [sumf_all, ← HPRE.out] at HNN
          go_wp2_with fail
          go_roundw
          case rel => exact ⟨k0 + 1, _, _, rfl, rfl, by omega, HNN.out, by omega, HXa.out⟩
          case measure => simp [intOf]; omega
    · obtain rfl : k0 = 2 := by omega
      have HN0 := Lib.hid (show N0 = ((sumf cI m.inputs + sumf cI m.outputs : Nat) : Int) from hN0)
      clear hpl hN0
      obtain ⟨a0, a1, a2, a3, a4⟩ := HF.out _ HX1.out
      go_wp2_with fail
      clear a0 a1 a2 a3 a4 hk0 hlt0
      go_loopw [3, 9, 47] (fun s _ i wr => ∃ (k : Nat) (K N : Int), i = .int .i64 K ∧ s = .int .i64 N ∧ K = (k : Nat) ∧ N = ((sumf cI m.inputs + sumf cI m.outputs + sumf cT (m.inits.take k) : Nat) : Int) ∧ k ≤ m.inits.length ∧ Two2 w BC #[.slice A1 m.inputs.length c1, .slice A2 m.outputs.length c2] wr) (fun _ _ i _ => m.inits.length - (intOf i).toNat)
      case atStart => exact ⟨0, _, _, rfl, rfl, rfl, by rw [sumf_nil]; exact HN0.out, by omega, HX1.out⟩
      case round =>
        obtain ⟨k, K, N, rfl, rfl, rfl, hN, hk, hx⟩ := hrel
        have HNN := Lib.hid hN
        have HX3 := Lib.hid hx
        clear hx
        by_cases hlt : k < m.inits.length
        · obtain ⟨b, o, cs, rfl, hbb, hp, hcx⟩ := (HM.out.inits.below ek_ten HX3.out.a.all).at_ ek_ten hlt
          obtain ⟨U1, e1, rfl⟩ := TenAt.shape hp
          clear hp
          have hsc := sumf_succ cT hlt
          have hsb := sumf_le cT m.inits (k + 1)
          have hbd := hT2
          have hn2 : 0 ≤ N ∧ N ≤ 1099511627776 := by omega
          obtain ⟨hn2, hn3⟩ := hn2
          generalize m.inits[k] = u at *
          have hcu : cT u = 1 + u.name.size + u.dims.length + u.data.size := rfl
          have hb1 : u.name.size ≤ 1099511627776 ∧ u.dims.length ≤ 1099511627776 ∧ u.data.size ≤ 1099511627776 := by omega
          obtain ⟨hb1, hb2, hb3⟩ := hb1
          have HSC := Lib.hid (And.intro hsc hcu)
          clear hsc hsb hbd hcu hN
          have p0 := hcx 0 _ rfl
          have p1 := hcx 1 _ rfl
          have p2 := hcx 2 _ rfl
          have p3 := hcx 3 _ rfl
          simp only [Nat.add_zero] at p0
          clear hcx
          have HY := Lib.hid (HX3.out.more (.cells #[.string u.name, .int .i64 u.kind, .slice U1 u.dims.length e1, .string u.data] 98))
          go_wp2_with fail
          go_roundw
          case rel => exact ⟨k + 1, _, _, rfl, rfl, by omega, by have h1 := HSC.out; have h2 := HNN.out; omega, by omega, HY.out⟩
          case measure => simp [intOf]; omega
        · obtain rfl : k = m.inits.length := by omega
          rw [sumf_all] at HNN
          clear hN
          obtain ⟨a0, a1, a2, a3, a4⟩ := HF.out _ HX3.out
          go_wp2_with fail
          clear a0 a1 a2 a3 a4 hk hlt
          go_loopw [3, 11, 69] (fun s _ i wr => ∃ (k : Nat) (K N : Int), i = .int .i64 K ∧ s = .int .i64 N ∧ K = (k : Nat) ∧ N = ((sumf cI m.inputs + sumf cI m.outputs + sumf cT m.inits + sumf cN (m.nodes.take k) : Nat) : Int) ∧ k ≤ m.nodes.length ∧ Two2 w BC #[.slice A1 m.inputs.length c1, .slice A2 m.outputs.length c2] wr) (fun _ _ i _ => m.nodes.length - (intOf i).toNat)
          case atStart => exact ⟨0, _, _, rfl, rfl, rfl, by rw [sumf_nil]; exact HNN.out, by omega, HX3.out⟩
          case round =>
            obtain ⟨k9, K9, N9, rfl, rfl, rfl, hN9, hk9, hx⟩ := hrel
            have HN9' := Lib.hid hN9
            have hs9 := sumf_le cN m.nodes k9
            have hn9 : 0 ≤ N9 ∧ N9 ≤ 1099511627776 := by omega
            obtain ⟨hn9, hn10⟩ := hn9
            clear hs9
            have HX4 := Lib.hid hx
            clear hx
            by_cases hlt9 : k9 < m.nodes.length
            · obtain ⟨w9, hw9⟩ : ∃ w9, w9 = wr := ⟨_, rfl⟩
              obtain ⟨b, o, cs, rfl, hbb, hp, hcy⟩ := HM.out.nodes.at_ ek_nod hlt9
              have hcx := fun j u (hj : cs[j]? = some u) => (HX4.out.a.all.cell (p := ⟨b, o + k9 * 4 + j, none⟩) hbb).trans (hcy j u hj)
              clear hcy
              obtain ⟨V1, f1, D1, g1, rfl, htx, hda, hnok⟩ := hp
              have HTX := Lib.hid htx
              have HDA := Lib.hid hda
              have hz1 := hnok.len
              have hz2 := hnok.alen
              clear htx hda hnok
              have hsc9 := sumf_succ cN hlt9
              have hsb9 := sumf_le cN m.nodes (k9 + 1)
              generalize m.nodes[k9] = v at *
              have hcv : cN v = 1 + v.op.size + v.out.size + sumf cS v.ins + sumf cA v.attrs := rfl
              have hbv : N9 + (1 + (v.op.size : Int) + (v.out.size : Int) + (sumf cS v.ins : Int) + (sumf cA v.attrs : Int)) ≤ 1099511627776 := by omega
              have HBV := Lib.hid hbv
              have hb1 : v.op.size ≤ 1099511627776 ∧ v.out.size ≤ 1099511627776 := by omega
              obtain ⟨hb1, hb2⟩ := hb1
              have HSC9 := Lib.hid (And.intro hsc9 hcv)
              clear hsc9 hsb9 hcv hbv hN9
              have p0 := hcx 0 _ rfl
              have p1 := hcx 1 _ rfl
              have p2 := hcx 2 _ rfl
              have p3 := hcx 3 _ rfl
              simp only [Nat.add_zero] at p0
              clear hcx
              subst hw9
              have HY4 := Lib.hid (HX4.out.more (.cells #[.string v.op, .slice V1 v.ins.length f1, .string v.out, .slice D1 v.attrs.length g1] 102))
              have HN9 := Lib.hid (HX4.out.a.next #[.string v.op, .slice V1 v.ins.length f1, .string v.out, .slice D1 v.attrs.length g1] 102)
              go_wp2_with fail
              clear p0 p1 p2 p3
              go_loopw [3, 13, 86] (fun s _ i wr => ∃ (k : Nat) (K N : Int), i = .int .i64 K ∧ s = .int .i64 N ∧ K = (k : Nat) ∧ N = N9 + (1 + (v.op.size : Int) + (v.out.size : Int)) + ((sumf cS (v.ins.take k) : Nat) : Int) ∧ k ≤ v.ins.length ∧ Two2 w BC #[.slice A1 m.inputs.length c1, .slice A2 m.outputs.length c2] wr ∧ Bx w w9.heap.size #[.string v.op, .slice V1 v.ins.length f1, .string v.out, .slice D1 v.attrs.length g1] 102 wr) (fun _ _ i _ => v.ins.length - (intOf i).toNat)
              case atStart => exact ⟨0, _, _, rfl, rfl, rfl, by rw [sumf_nil]; omega, by omega, HY4.out, HN9.out⟩
              case round =>
                obtain ⟨k, K, N, rfl, rfl, rfl, hN, hk, hx, hn⟩ := hrel
                have HNN := Lib.hid hN
                have HX5 := Lib.hid hx
                have HN9 := Lib.hid hn
                clear hx hn
                by_cases hlt : k < v.ins.length
                · obtain ⟨b, o, rfl, hbb, p0⟩ := m_txt_at (HTX.out.below HX5.out.a.all) hlt
                  have hsc := sumf_succ cS hlt
                  have hsb := sumf_le cS v.ins (k + 1)
                  have hbd := HBV.out
                  have hn2 : 0 ≤ N ∧ N ≤ 1099511627776 := by omega
                  obtain ⟨hn2, hn3⟩ := hn2
                  generalize v.ins[k] = u at *
                  have hcu : cS u = 1 + u.size := rfl
                  have hb3 : u.size ≤ 1099511627776 := by omega
                  have HSC := Lib.hid (And.intro hsc hcu)
                  clear hsc hsb hbd hcu hN
                  go_wp2_with fail
                  go_roundw
                  case rel => exact ⟨k + 1, _, _, rfl, rfl, by omega, by have h1 := HSC.out; have h2 := HNN.out; omega, by omega, HX5.out, HN9.out⟩
                  case measure => simp [intOf]; omega
                · obtain rfl : k = v.ins.length := by omega
                  rw [sumf_all] at HNN
                  clear hN
                  obtain ⟨b0, b1, b2, b3⟩ := HN9.out.four
                  go_wp2_with fail
                  clear b0 b1 b2 b3 hk hlt
                  go_loopw [3, 15, 99] (fun s _ i wr => ∃ (k : Nat) (K N : Int), i = .int .i64 K ∧ s = .int .i64 N ∧ K = (k : Nat) ∧ N = N9 + (1 + (v.op.size : Int) + (v.out.size : Int)) + (sumf cS v.ins : Int) + ((sumf cA (v.attrs.take k) : Nat) : Int) ∧ k ≤ v.attrs.length ∧ Two2 w BC #[.slice A1 m.inputs.length c1, .slice A2 m.outputs.length c2] wr) (fun _ _ i _ => v.attrs.length - (intOf i).toNat)
                  case atStart => exact ⟨0, _, _, rfl, rfl, rfl, by rw [sumf_nil]; have := HNN.out; omega, by omega, HX5.out⟩
                  case round =>
                    obtain ⟨k, K, N, rfl, rfl, rfl, hN, hk, hx⟩ := hrel
                    have HNF := Lib.hid hN
                    have HX6 := Lib.hid hx
                    clear hx
                    by_cases hlt : k < v.attrs.length
                    · obtain ⟨b, o, cs, rfl, hbb, hp, hcx⟩ := (HDA.out.below ek_att HX6.out.a.all).at_ ek_att hlt
                      obtain ⟨U1, e1, rfl⟩ := AttAt.shape hp
                      clear hp
                      have hsc := sumf_succ cA hlt
                      have hsb := sumf_le cA v.attrs (k + 1)
                      have hbd := HBV.out
                      have hn2 : 0 ≤ N ∧ N ≤ 1099511627776 := by omega
                      obtain ⟨hn2, hn3⟩ := hn2
                      generalize v.attrs[k] = u at *
                      have hcu : cA u = 1 + u.name.size + u.ints.length := rfl
                      have hb3 : u.name.size ≤ 1099511627776 ∧ u.ints.length ≤ 1099511627776 := by omega
                      obtain ⟨hb3, hb4⟩ := hb3
                      have HSC := Lib.hid (And.intro hsc hcu)
                      clear hsc hsb hbd hcu hN
                      have p0 := hcx 0 _ rfl
                      have p1 := hcx 1 _ rfl
                      have p2 := hcx 2 _ rfl
                      have p3 := hcx 3 _ rfl
                      simp only [Nat.add_zero] at p0
                      clear hcx
                      have HY := Lib.hid (HX6.out.more (.cells #[.string u.name, .bool u.one, .int .i64 u.int, .slice U1 u.ints.length e1] 108))
                      go_wp2_with fail
                      go_roundw
                      case rel => exact ⟨k + 1, _, _, rfl, rfl, by omega, by have h1 := HSC.out; have h2 := HNF.out; omega, by omega, HY.out⟩
                      case measure => simp [intOf]; omega
                    · obtain rfl : k = v.attrs.length := by omega
                      rw [sumf_all] at HNF
                      clear hN
                      go_wp2_with fail
                      go_roundw
                      case rel => exact ⟨k9 + 1, _, _, rfl, rfl, by omega, by have h1 := HSC9.out; have h2 := HNF.out; have h3 := HN9'.out; omega, by omega, HX6.out⟩
                      case measure => simp [intOf]; omega
            · obtain rfl : k9 = m.nodes.length := by omega
              have HB := Lib.hid HX4.out.a.all
              rw [sumf_all, ← HCM.out] at HN9'
              have HDE := Lib.hid (show decide (N9 ≤ 6000) = decide (cM m ≤ 6000) by have := HN9'.out; rw [decide_eq_decide]; omega)
              clear hN9
              cases hd : decide (N9 ≤ 6000)
              · rw [hd] at HDE
                have hd2 : ¬ N9 ≤ 6000 := of_decide_eq_false hd
                go_wp2_with fail
                go_ret
                rw [← HDE.out]
                exact ⟨rfl, HB.out⟩
              · rw [hd] at HDE
                have hd2 : N9 ≤ 6000 := of_decide_eq_true hd
                go_wp2_with fail
                go_ret
                rw [← HDE.out]
                exact ⟨rfl, HB.out⟩
end Go.Proofs.YtjjfdlgoacockaaGreat
namespace Go.Proofs.YtjjfdlgoacockaaGreat
open Go.RowKit M7 M10 Go.ChangeShapes Go.WideShapes Go.Deep

theorem bulk_one {H : Type} (d : DataW H) : 1 ≤ Rows.uptoBulk d := by
  cases d with
  | lit l => cases l <;> simp [Rows.uptoBulk]
  | nil => simp [Rows.uptoBulk]
  | ptr d => simp [Rows.uptoBulk]
  | slice elems spare => simp [Rows.uptoBulk]
  | agg parts => simp [Rows.uptoBulk]
  | iface t d => simp [Rows.uptoBulk]
  | map entries => simp [Rows.uptoBulk]
  | held h => simp [Rows.uptoBulk]
theorem bulk_slice {H : Type} (a b : List (DataW H)) : Rows.uptoBulkAll a + 1 ≤ Rows.uptoBulk (.slice a b) := by
  simp only [Rows.uptoBulk]; omega
theorem bulk_text {H : Type} (b : List UInt8) : Rows.uptoBulk (DataW.lit (H := H) (.string b)) = b.length + 1 := by simp [Rows.uptoBulk]
theorem sumf_one {α : Type} (l : List α) : sumf (fun _ => 1) l = l.length := by
  induction l with
  | nil => rfl
  | cons a l ih => unfold sumf at *; simp only [List.map_cons, List.sum_cons, ih, List.length_cons]; omega
theorem sumf_bulk {H α : Type} {f : Nat → α} {D : Nat → DataW H} {cost : α → Nat} : ∀ (r : List Nat), (∀ i ∈ r, cost (f i) ≤ Rows.uptoBulk (D i)) → sumf cost (r.map f) ≤ Rows.uptoBulkAll (r.map D)
  | [], _ => Nat.zero_le _
  | i :: r, h => by
    have h1 := sumf_bulk r fun j hj => h j (List.mem_cons_of_mem _ hj)
    have h2 := h i List.mem_cons_self
    have e : sumf cost ((i :: r).map f) = cost (f i) + sumf cost (r.map f) := by unfold sumf; simp
    rw [e, List.map_cons, Rows.uptoBulkAll]
    omega
theorem agg_three {H : Type} {l : List (DataW H)} {a b c : DataW H} (hl : l.length = 3) (h0 : l[0]? = some a) (h1 : l[1]? = some b) (h2 : l[2]? = some c) : Rows.uptoBulk (.agg l) = Rows.uptoBulk a + Rows.uptoBulk b + Rows.uptoBulk c + 1 := by
  match l, hl with
  | [x, y, z], _ =>
    simp only [List.getElem?_cons_zero, List.getElem?_cons_succ, Option.some.injEq] at h0 h1 h2
    subst h0; subst h1; subst h2
    simp only [Rows.uptoBulk, Rows.uptoBulkAll]; omega
theorem agg_four {H : Type} {l : List (DataW H)} {a b c d : DataW H} (hl : l.length = 4) (h0 : l[0]? = some a) (h1 : l[1]? = some b) (h2 : l[2]? = some c) (h3 : l[3]? = some d) : Rows.uptoBulk (.agg l) = Rows.uptoBulk a + Rows.uptoBulk b + Rows.uptoBulk c + Rows.uptoBulk d + 1 := by
  match l, hl with
  | [x, y, z, u], _ =>
    simp only [List.getElem?_cons_zero, List.getElem?_cons_succ, Option.some.injEq] at h0 h1 h2 h3
    subst h0; subst h1; subst h2; subst h3
    simp only [Rows.uptoBulk, Rows.uptoBulkAll]; omega
section
variable {H : Type} {enc : TypeId × Value → H} {P : Program} {w : World} {base : Nat} {spare : Nat → Bool} {held : Bool}
theorem open_deepC {α : Type} [Inhabited α] (size : Nat) (hpos : 0 < size) (Q : α → List Value → Prop) (cost : α → Nat) {t e : TypeId} (ht : P.underlying t = some (.slice e)) (hc : P.cellsOf e = size)
    (elem : ∀ n cs x, DataW.trod enc P w base spare held n e cs = some x → cs.length = size → (∀ n ∈ x.1.weights P e, n ≤ reachBytes) → ∃ a, Q a cs ∧ cost a ≤ Rows.uptoBulk x.1)
    {fuel : Nat} {cs : List Value} {x : DataW H × List MemPlace} (h : DataW.trod enc P w base spare held fuel t cs = some x) (hz : ∀ n ∈ x.1.weights P t, n ≤ reachBytes) :
    ∃ (A : Option Addr) (c : Nat) (l : List α) (css : List (List Value)), cs = [.slice A l.length c] ∧ l.length = css.length ∧ (∀ k (h1 : k < l.length) (h2 : k < css.length), Q l[k] css[k]) ∧ (∀ c ∈ css, c.length = size) ∧
      SR w w.heap.size size A l.length css.flatten ∧ l.length * P.bytesOf e ≤ reachBytes ∧ sumf cost l ≤ Rows.uptoBulk x.1 := by
  rcases open_slice ht h with ⟨rfl, rfl⟩ | ⟨a, len, cap, m, n, D, Pl, rfl, hb, hl, hm, hmm, rfl, hx⟩
  · exact ⟨none, 0, [], [], rfl, rfl, fun k h1 => absurd h1 (by simp), by simp, SR.empty _ _ _ _, by simp, Nat.zero_le _⟩
  · have hlm : len ≤ m := by rw [hmm]; split <;> omega
    rw [hc] at hx
    have hw : ∀ i, i < len → ∀ n ∈ (D i).weights P e, n ≤ reachBytes := by
      intro i hi n hn
      refine hz n ?_
      simp only [DataW.weights, ht]
      exact List.mem_cons_of_mem _ (List.mem_append_left _ (weights_deep (List.mem_map.2 ⟨i, List.mem_range.2 hi, rfl⟩) n hn))
    have hone : ∀ i, i < len → ∃ q : α × List Value, (Q q.1 q.2 ∧ cost q.1 ≤ Rows.uptoBulk (D i)) ∧ q.2.length = size ∧ ∀ j, j < size → w.cell? ((a.add (i * size)).add j) = q.2[j]? := by
      intro i hi
      obtain ⟨cs', h1, h2⟩ := hx i (by omega)
      obtain ⟨_, hlen, hcell⟩ := World.cells?_some h1
      obtain ⟨v, hv⟩ := elem _ _ _ h2 hlen (hw i hi)
      exact ⟨(v, cs'), hv, hlen, hcell⟩
    obtain ⟨F, hF⟩ := choose_lt hone
    have hlen : ((List.range len).map fun i => (F i).1).length = len := by simp
    have hszs : ∀ c ∈ (List.range len).map fun i => (F i).2, c.length = size := by
      intro c hc'
      obtain ⟨i, hi, rfl⟩ := List.mem_map.1 hc'
      exact (hF i (List.mem_range.1 hi)).2.1
    refine ⟨some a, cap, (List.range len).map fun i => (F i).1, (List.range len).map fun i => (F i).2, by rw [hlen], by simp, ?_, hszs, ⟨?_, ?_⟩, ?_, ?_⟩
    · intro k h1 h2
      simp only [List.getElem_map, List.getElem_range]
      exact (hF k (by simpa using h1)).1.1
    · rw [flat_len_deep hszs]; simp
    · intro h0
      rw [hlen] at h0
      have hcell0 := (hF 0 h0).2.2 0 hpos
      have hl0 := (hF 0 h0).2.1
      rw [List.getElem?_eq_getElem (by omega)] at hcell0
      have h00 : w.cell? a = some ((F 0).2[0]'(by omega)) := by simpa [Addr.add] using hcell0
      obtain ⟨ha, hab⟩ := plain_cell h00
      refine ⟨a.block, a.off, by rw [← ha], hab, fun j u hj => ?_⟩
      have hjl := (List.getElem?_eq_some_iff.1 hj).1
      rw [flat_len_deep hszs] at hjl
      simp only [List.length_map, List.length_range] at hjl
      have hk : j / size < len := Nat.div_lt_of_lt_mul (by rw [Nat.mul_comm]; exact hjl)
      have hr : j % size < size := Nat.mod_lt _ hpos
      have hjd : j / size * size + j % size = j := by rw [Nat.mul_comm]; exact Nat.div_add_mod j size
      have hat := flat_at_deep (size := size) hszs (k := j / size) (by simpa using hk) (j % size) hr
      rw [hjd] at hat
      rw [hat] at hj
      simp only [List.getElem_map, List.getElem_range] at hj
      have hcl := (hF (j / size) hk).2.2 (j % size) hr
      rw [hj, ha, Addr.add_mid, Addr.add_mid] at hcl
      rw [← hjd, ← Nat.add_assoc]
      exact hcl
    · have hw3 := hz ((((List.range len).map D).length + ((List.range (m - len)).map fun j => D (len + j)).length) * P.bytesOf e) (by simp only [DataW.weights, ht]; exact List.mem_cons_self)
      rw [hlen]
      simp only [List.length_map, List.length_range] at hw3
      exact Nat.le_trans (Nat.mul_le_mul_right _ (by omega)) hw3
    · have h1 := sumf_bulk (f := fun i => (F i).1) (D := D) (cost := cost) (List.range len) fun i hi => (hF i (List.mem_range.1 hi)).1.2
      have h2 := bulk_slice ((List.range len).map D) ((List.range (m - len)).map fun j => D (len + j))
      exact Nat.le_trans h1 (Nat.le_trans (Nat.le_succ _) h2)
theorem open_fieldsC {e : TypeId} {fs : Array Field} {ts : List TypeId} (hu : P.underlying e = some (.struct fs)) (ho : fs.toList.map (fun f => (f.offset, f.type)) = (List.range ts.length).zip ts) (h1 : ∀ t ∈ ts, P.cellsOf t = 1)
    {fuel : Nat} {cs : List Value} {x : DataW H × List MemPlace} (h : DataW.trod enc P w base spare held fuel e cs = some x) (hcs : cs.length = ts.length) (hz : ∀ n ∈ x.1.weights P e, n ≤ reachBytes) :
    ∃ n parts, x.1 = .agg parts ∧ parts.length = ts.length ∧ ∀ i (hi : i < ts.length) (hc : i < cs.length), ∃ y, DataW.trod enc P w base spare held n ts[i] [cs[i]] = some y ∧ (∀ n ∈ y.1.weights P ts[i], n ≤ reachBytes) ∧ parts[i]? = some y.1 := by
  obtain ⟨xs, n, rfl, rfl, hlen, hxl, hf⟩ := DataW.trod_struct hu h
  have hfl : fs.toList.length = ts.length := by
    have := congrArg List.length ho
    simpa using this
  refine ⟨n, xs.map fun y => y.1, rfl, by rw [List.length_map, hxl]; simpa using hfl, fun i hi hc => ?_⟩
  have hif : i < fs.toList.length := by omega
  have hget := congrArg (fun l => l[i]?) ho
  simp only [List.getElem?_map, List.getElem?_eq_getElem hif, Option.map_some] at hget
  rw [List.getElem?_eq_getElem (by simp; omega)] at hget
  simp only [List.getElem_zip, List.getElem_range, Option.some.injEq, Prod.mk.injEq] at hget
  have hfi := hf i fs.toList[i] (by rw [← Array.getElem?_toList, List.getElem?_eq_getElem hif])
  rw [hget.1, hget.2, h1 _ (List.getElem_mem hi)] at hfi
  have hdt : (cs.drop i).take 1 = [cs[i]] := by rw [List.drop_eq_getElem_cons hc]; rfl
  rw [hdt] at hfi
  have hix : i < xs.length := by rw [hxl]; simpa using hif
  rw [List.getElem?_eq_getElem hix] at hfi
  refine ⟨xs[i], hfi, fun n hn => hz n ?_, by rw [List.getElem?_map, List.getElem?_eq_getElem hix]; rfl⟩
  simp only [DataW.weights, hu]
  exact DataW.weights_mem_each (j := i) (t := ts[i]) (d := xs[i].1) (by rw [List.getElem?_map, List.getElem?_eq_getElem hif, ← hget.2]; rfl) (by rw [List.getElem?_map, List.getElem?_eq_getElem hix]; rfl) n hn
end
section
variable {H : Type} {enc : TypeId × Value → H} {w : World} {base : Nat} {spare : Nat → Bool} {held : Bool}
theorem deep_intsC {fuel : Nat} {c : Value} {y : DataW H × List MemPlace} (h : DataW.trod enc Tryz.prog w base spare held fuel 83 [c] = some y) (hz : ∀ n ∈ y.1.weights Tryz.prog 83, n ≤ reachBytes) :
    ∃ (A : Option Addr) (cc : Nat) (l : List Int), c = .slice A l.length cc ∧ SR w w.heap.size 1 A l.length (iv l) ∧ l.length * 8 ≤ 140737488351232 ∧ (∀ n ∈ l, I64 n) ∧ l.length ≤ Rows.uptoBulk y.1 := by
  obtain ⟨A, cc, l, css, e, hl, hq, _, hs, hb, hcost⟩ := open_deepC 1 (by omega) (fun (a : Int) cs => cs = [.int .i64 a] ∧ I64 a) (fun _ => 1) Tryz.underlying83 (by kernel_rfl) (fun n cs x hx _ _ => by
    obtain ⟨a, e, -, hw⟩ := DataW.trod_int Tryz.underlying2 hx
    exact ⟨a, ⟨e, bounds_i64 hw⟩, bulk_one _⟩) h hz
  simp only [List.cons.injEq, and_true] at e
  rw [bytesInt10, reach10] at hb
  rw [one_flat (mk := Value.int .i64) hl (fun k h1 h2 => (hq k h1 h2).1)] at hs
  refine ⟨A, cc, l, e, hs, hb, fun n hn => ?_, by rw [sumf_one] at hcost; exact hcost⟩
  obtain ⟨k, hk, rfl⟩ := List.mem_iff_getElem.1 hn
  exact (hq k hk (by omega)).2
theorem deep_textC {fuel : Nat} {c : Value} {y : DataW H × List MemPlace} (h : DataW.trod enc Tryz.prog w base spare held fuel 9 [c] = some y) (hz : ∀ n ∈ y.1.weights Tryz.prog 9, n ≤ reachBytes) :
    ∃ s : ByteArray, c = .string s ∧ s.size ≤ 140737488351232 ∧ 1 + s.size ≤ Rows.uptoBulk y.1 := by
  obtain ⟨a, e, r, _⟩ := DataW.trod_string Tryz.underlying9 h
  simp only [List.cons.injEq, and_true] at e
  refine ⟨a, e, ?_, by rw [r, bulk_text]; simp; omega⟩
  have := hz a.data.toList.length (by rw [r]; simp [DataW.weights])
  rw [reach10] at this
  simpa using this
theorem deep_textsC {fuel : Nat} {c : Value} {y : DataW H × List MemPlace} (h : DataW.trod enc Tryz.prog w base spare held fuel 64 [c] = some y) (hz : ∀ n ∈ y.1.weights Tryz.prog 64, n ≤ reachBytes) :
    ∃ (A : Option Addr) (cc : Nat) (l : List ByteArray), c = .slice A l.length cc ∧ SR w w.heap.size 1 A l.length (m_tx l) ∧ l.length * 16 ≤ 140737488351232 ∧ (∀ n ∈ l, n.size ≤ 140737488351232) ∧ sumf cS l ≤ Rows.uptoBulk y.1 := by
  obtain ⟨A, cc, l, css, e, hl, hq, _, hs, hb, hcost⟩ := open_deepC 1 (by omega) (fun (a : ByteArray) cs => cs = [.string a] ∧ a.size ≤ 140737488351232) cS Tryz.underlying64 (by kernel_rfl) (fun n cs x hx hcl hw => by
    match cs, hcl with
    | [c], _ =>
      obtain ⟨a, e, hs, hbk⟩ := deep_textC hx hw
      exact ⟨a, ⟨by rw [e], hs⟩, hbk⟩) h hz
  simp only [List.cons.injEq, and_true] at e
  rw [bytesStr10, reach10] at hb
  rw [one_flat (mk := Value.string) hl (fun k h1 h2 => (hq k h1 h2).1)] at hs
  refine ⟨A, cc, l, e, hs, hb, fun n hn => ?_, hcost⟩
  obtain ⟨k, hk, rfl⟩ := List.mem_iff_getElem.1 hn
  exact (hq k hk (by omega)).2
set_option maxRecDepth 100000 in
theorem deep_infC {fuel : Nat} {cs : List Value} {x : DataW H × List MemPlace} (h : DataW.trod enc Tryz.prog w base spare held fuel 106 cs = some x) (hcs : cs.length = 3) (hz : ∀ n ∈ x.1.weights Tryz.prog 106, n ≤ reachBytes) :
    ∃ i, InfAt w.heap.size w i cs ∧ cI i ≤ Rows.uptoBulk x.1 := by
  have ho := off_inf
  cases hu : Tryz.prog.underlying 106 with
  | none => rw [hu] at ho; simp at ho
  | some ds =>
    rw [hu] at ho
    cases ds with
    | struct fs =>
      simp only at ho
      obtain ⟨n, parts, hx, hpl, hf⟩ := open_fieldsC (ts := [9, 96, 83]) hu (by rw [ho]; rfl) one_inf h (by simpa using hcs) hz
      match cs, hcs with
      | [v0, v1, v2], _ =>
        obtain ⟨y0, h0, z0, q0⟩ := hf 0 (by simp) (by simp)
        obtain ⟨y1, h1, z1, q1⟩ := hf 1 (by simp) (by simp)
        obtain ⟨y2, h2, z2, q2⟩ := hf 2 (by simp) (by simp)
        simp only [List.getElem_cons_zero, List.getElem_cons_succ] at h0 z0 h1 z1 h2 z2
        have hb := agg_three hpl q0 q1 q2
        rw [← hx] at hb
        obtain ⟨s0, rfl, b0, k0⟩ := deep_textC h0 z0
        obtain ⟨n1, e1, -, b1⟩ := DataW.trod_int Tryz.underlying96 h1
        simp only [List.cons.injEq, and_true] at e1
        subst e1
        obtain ⟨A2, c2, l2, rfl, r2, b2, i2, k2⟩ := deep_intsC h2 z2
        exact ⟨⟨s0, n1, l2⟩, ⟨A2, c2, rfl, r2, ⟨b0, b1, b2, i2⟩⟩, by rw [hb]; show 1 + s0.size + l2.length ≤ _; omega⟩
    | _ => simp at ho
set_option maxRecDepth 100000 in
theorem deep_attC {fuel : Nat} {cs : List Value} {x : DataW H × List MemPlace} (h : DataW.trod enc Tryz.prog w base spare held fuel 108 cs = some x) (hcs : cs.length = 4) (hz : ∀ n ∈ x.1.weights Tryz.prog 108, n ≤ reachBytes) :
    ∃ i, AttAt w.heap.size w i cs ∧ cA i ≤ Rows.uptoBulk x.1 := by
  have ho := off_att
  cases hu : Tryz.prog.underlying 108 with
  | none => rw [hu] at ho; simp at ho
  | some ds =>
    rw [hu] at ho
    cases ds with
    | struct fs =>
      simp only at ho
      obtain ⟨n, parts, hx, hpl, hf⟩ := open_fieldsC (ts := [9, 4, 2, 83]) hu (by rw [ho]; rfl) one_att h (by simpa using hcs) hz
      match cs, hcs with
      | [v0, v1, v2, v3], _ =>
        obtain ⟨y0, h0, z0, q0⟩ := hf 0 (by simp) (by simp)
        obtain ⟨y1, h1, z1, q1⟩ := hf 1 (by simp) (by simp)
        obtain ⟨y2, h2, z2, q2⟩ := hf 2 (by simp) (by simp)
        obtain ⟨y3, h3, z3, q3⟩ := hf 3 (by simp) (by simp)
        simp only [List.getElem_cons_zero, List.getElem_cons_succ] at h0 z0 h1 z1 h2 z2 h3 z3
        have hb := agg_four hpl q0 q1 q2 q3
        rw [← hx] at hb
        obtain ⟨s0, rfl, b0, k0⟩ := deep_textC h0 z0
        obtain ⟨n1, e1, -⟩ := DataW.trod_bool Tryz.underlying4 h1
        simp only [List.cons.injEq, and_true] at e1
        subst e1
        obtain ⟨n2, e2, -, b2⟩ := DataW.trod_int Tryz.underlying2 h2
        simp only [List.cons.injEq, and_true] at e2
        subst e2
        obtain ⟨A3, c3, l3, rfl, r3, b3, i3, k3⟩ := deep_intsC h3 z3
        exact ⟨⟨s0, n1, n2, l3⟩, ⟨A3, c3, rfl, r3, ⟨b0, b3, bounds_i64 b2, i3⟩⟩, by rw [hb]; show 1 + s0.size + l3.length ≤ _; omega⟩
    | _ => simp at ho
set_option maxRecDepth 100000 in
theorem deep_nodC {fuel : Nat} {cs : List Value} {x : DataW H × List MemPlace} (h : DataW.trod enc Tryz.prog w base spare held fuel 102 cs = some x) (hcs : cs.length = 4) (hz : ∀ n ∈ x.1.weights Tryz.prog 102, n ≤ reachBytes) :
    ∃ i, NodAt w.heap.size w i cs ∧ cN i ≤ Rows.uptoBulk x.1 := by
  have ho := off_nod
  cases hu : Tryz.prog.underlying 102 with
  | none => rw [hu] at ho; simp at ho
  | some ds =>
    rw [hu] at ho
    cases ds with
    | struct fs =>
      simp only at ho
      obtain ⟨n, parts, hx, hpl, hf⟩ := open_fieldsC (ts := [9, 64, 9, 100]) hu (by rw [ho]; rfl) one_nod h (by simpa using hcs) hz
      match cs, hcs with
      | [v0, v1, v2, v3], _ =>
        obtain ⟨y0, h0, z0, q0⟩ := hf 0 (by simp) (by simp)
        obtain ⟨y1, h1, z1, q1⟩ := hf 1 (by simp) (by simp)
        obtain ⟨y2, h2, z2, q2⟩ := hf 2 (by simp) (by simp)
        obtain ⟨y3, h3, z3, q3⟩ := hf 3 (by simp) (by simp)
        simp only [List.getElem_cons_zero, List.getElem_cons_succ] at h0 z0 h1 z1 h2 z2 h3 z3
        have hb := agg_four hpl q0 q1 q2 q3
        rw [← hx] at hb
        obtain ⟨s0, rfl, b0, k0⟩ := deep_textC h0 z0
        obtain ⟨A1, c1, l1, rfl, r1, b1, i1, k1⟩ := deep_textsC h1 z1
        obtain ⟨s2, rfl, b2, k2⟩ := deep_textC h2 z2
        obtain ⟨A3, c3, l3, css3, e3, hl3, hq3, hs3, r3, b3, k3⟩ := open_deepC 4 (by omega) (fun a cs => AttAt w.heap.size w a cs) cA Tryz.underlying100 (by kernel_rfl) (fun n cs x hx hcl hw => deep_attC hx hcl hw) h3 z3
        simp only [List.cons.injEq, and_true] at e3
        subst e3
        rw [show Tryz.prog.bytesOf 108 = 56 by kernel_rfl, reach10] at b3
        have d3 : DR AttAt w w.heap.size 4 A3 l3 := ⟨css3, Al.of_get hl3 hq3, r3⟩
        exact ⟨⟨s0, l1, s2, l3⟩, ⟨A1, c1, A3, c3, rfl, r1, d3, ⟨b0, b2, i1, b1, b3⟩⟩, by rw [hb]; show 1 + s0.size + s2.size + sumf cS l1 + sumf cA l3 ≤ _; omega⟩
    | _ => simp at ho
end
end Go.Proofs.YtjjfdlgoacockaaGreat
namespace Go.Proofs.YtjjfdlgoacockaaGreat
open Go.RowKit M7 M10 Go.ChangeShapes Go.WideShapes Go.Deep

theorem agg_five {H : Type} {l : List (DataW H)} {a b c d e : DataW H} (hl : l.length = 5) (h0 : l[0]? = some a) (h1 : l[1]? = some b) (h2 : l[2]? = some c) (h3 : l[3]? = some d) (h4 : l[4]? = some e) : Rows.uptoBulk (.agg l) = Rows.uptoBulk a + Rows.uptoBulk b + Rows.uptoBulk c + Rows.uptoBulk d + Rows.uptoBulk e + 1 := by
  match l, hl with
  | [x, y, z, u, v], _ =>
    simp only [List.getElem?_cons_zero, List.getElem?_cons_succ, Option.some.injEq] at h0 h1 h2 h3 h4
    subst h0; subst h1; subst h2; subst h3; subst h4
    simp only [Rows.uptoBulk, Rows.uptoBulkAll]; omega
section
variable {H : Type} {enc : TypeId × Value → H} {w : World} {base : Nat} {spare : Nat → Bool} {held : Bool}
set_option maxRecDepth 100000 in
theorem deep_tenC {fuel : Nat} {cs : List Value} {x : DataW H × List MemPlace} (h : DataW.trod enc Tryz.prog w base spare held fuel 98 cs = some x) (hcs : cs.length = 4) (hz : ∀ n ∈ x.1.weights Tryz.prog 98, n ≤ reachBytes) :
    ∃ i, TenAt w.heap.size w i cs ∧ cT i ≤ Rows.uptoBulk x.1 := by
  have ho := off_ten
  cases hu : Tryz.prog.underlying 98 with
  | none => rw [hu] at ho; simp at ho
  | some ds =>
    rw [hu] at ho
    cases ds with
    | struct fs =>
      simp only at ho
      obtain ⟨n, parts, hx, hpl, hf⟩ := open_fieldsC (ts := [9, 96, 83, 9]) hu (by rw [ho]; rfl) one_ten h (by simpa using hcs) hz
      match cs, hcs with
      | [v0, v1, v2, v3], _ =>
        obtain ⟨y0, h0, z0, q0⟩ := hf 0 (by simp) (by simp)
        obtain ⟨y1, h1, z1, q1⟩ := hf 1 (by simp) (by simp)
        obtain ⟨y2, h2, z2, q2⟩ := hf 2 (by simp) (by simp)
        obtain ⟨y3, h3, z3, q3⟩ := hf 3 (by simp) (by simp)
        simp only [List.getElem_cons_zero, List.getElem_cons_succ] at h0 z0 h1 z1 h2 z2 h3 z3
        have hb := agg_four hpl q0 q1 q2 q3
        rw [← hx] at hb
        obtain ⟨s0, rfl, b0, k0⟩ := deep_textC h0 z0
        obtain ⟨n1, e1, -, b1⟩ := DataW.trod_int Tryz.underlying96 h1
        simp only [List.cons.injEq, and_true] at e1
        subst e1
        obtain ⟨A2, c2, l2, rfl, r2, b2, i2, k2⟩ := deep_intsC h2 z2
        obtain ⟨s3, rfl, b3, k3⟩ := deep_textC h3 z3
        exact ⟨⟨s0, n1, l2, s3⟩, ⟨A2, c2, rfl, r2, ⟨b0, b3, b1, b2, i2⟩⟩, by rw [hb]; show 1 + s0.size + l2.length + s3.size ≤ _; omega⟩
    | _ => simp at ho
set_option maxRecDepth 100000 in
theorem deep_modC {fuel : Nat} {cs : List Value} {x : DataW H × List MemPlace} (h : DataW.trod enc Tryz.prog w base spare held fuel 34 cs = some x) (hcs : cs.length = 5) (hz : ∀ n ∈ x.1.weights Tryz.prog 34, n ≤ reachBytes) :
    ∃ (m : Mod) (A1 A2 A3 A4 : Option Addr) (c1 c2 c3 c4 : Nat), cs.toArray = mv m.opset A1 m.inputs.length c1 A2 m.outputs.length c2 A3 m.inits.length c3 A4 m.nodes.length c4 ∧ ModAt w.heap.size w m A1 A2 A3 A4 ∧ cM m ≤ Rows.uptoBulk x.1 := by
  have ho := off_mod
  cases hu : Tryz.prog.underlying 34 with
  | none => rw [hu] at ho; simp at ho
  | some ds =>
    rw [hu] at ho
    cases ds with
    | struct fs =>
      simp only at ho
      obtain ⟨n, parts, hx, hpl, hf⟩ := open_fieldsC (ts := [2, 30, 30, 31, 32]) hu (by rw [ho]; rfl) one_mod h (by simpa using hcs) hz
      match cs, hcs with
      | [v0, v1, v2, v3, v4], _ =>
        obtain ⟨y0, h0, z0, q0⟩ := hf 0 (by simp) (by simp)
        obtain ⟨y1, h1, z1, q1⟩ := hf 1 (by simp) (by simp)
        obtain ⟨y2, h2, z2, q2⟩ := hf 2 (by simp) (by simp)
        obtain ⟨y3, h3, z3, q3⟩ := hf 3 (by simp) (by simp)
        obtain ⟨y4, h4, z4, q4⟩ := hf 4 (by simp) (by simp)
        simp only [List.getElem_cons_zero, List.getElem_cons_succ] at h0 z0 h1 z1 h2 z2 h3 z3 h4 z4
        have hb := agg_five hpl q0 q1 q2 q3 q4
        rw [← hx] at hb
        obtain ⟨n0, e0, -, b0⟩ := DataW.trod_int Tryz.underlying2 h0
        simp only [List.cons.injEq, and_true] at e0
        subst e0
        obtain ⟨A1, c1, l1, css1, e1, hl1, hq1, hs1, r1, b1, k1⟩ := open_deepC 3 (by omega) (fun a cs => InfAt w.heap.size w a cs) cI Tryz.underlying30 (by kernel_rfl) (fun n cs x hx hcl hw => deep_infC hx hcl hw) h1 z1
        simp only [List.cons.injEq, and_true] at e1
        subst e1
        rw [show Tryz.prog.bytesOf 106 = 48 by kernel_rfl, reach10] at b1
        have d1 : DR InfAt w w.heap.size 3 A1 l1 := ⟨css1, Al.of_get hl1 hq1, r1⟩
        obtain ⟨A2, c2, l2, css2, e2, hl2, hq2, hs2, r2, b2, k2⟩ := open_deepC 3 (by omega) (fun a cs => InfAt w.heap.size w a cs) cI Tryz.underlying30 (by kernel_rfl) (fun n cs x hx hcl hw => deep_infC hx hcl hw) h2 z2
        simp only [List.cons.injEq, and_true] at e2
        subst e2
        rw [show Tryz.prog.bytesOf 106 = 48 by kernel_rfl, reach10] at b2
        have d2 : DR InfAt w w.heap.size 3 A2 l2 := ⟨css2, Al.of_get hl2 hq2, r2⟩
        obtain ⟨A3, c3, l3, css3, e3, hl3, hq3, hs3, r3, b3, k3⟩ := open_deepC 4 (by omega) (fun a cs => TenAt w.heap.size w a cs) cT Tryz.underlying31 (by kernel_rfl) (fun n cs x hx hcl hw => deep_tenC hx hcl hw) h3 z3
        simp only [List.cons.injEq, and_true] at e3
        subst e3
        rw [show Tryz.prog.bytesOf 98 = 64 by kernel_rfl, reach10] at b3
        have d3 : DR TenAt w w.heap.size 4 A3 l3 := ⟨css3, Al.of_get hl3 hq3, r3⟩
        obtain ⟨A4, c4, l4, css4, e4, hl4, hq4, hs4, r4, b4, k4⟩ := open_deepC 4 (by omega) (fun a cs => NodAt w.heap.size w a cs) cN Tryz.underlying32 (by kernel_rfl) (fun n cs x hx hcl hw => deep_nodC hx hcl hw) h4 z4
        simp only [List.cons.injEq, and_true] at e4
        subst e4
        rw [show Tryz.prog.bytesOf 102 = 80 by kernel_rfl, reach10] at b4
        have d4 : DR NodAt w w.heap.size 4 A4 l4 := ⟨css4, Al.of_get hl4 hq4, r4⟩
        exact ⟨⟨n0, l1, l2, l3, l4⟩, A1, A2, A3, A4, c1, c2, c3, c4, rfl, ⟨d1, d2, d3, d4, bounds_i64 b0, b1, b2, b3, b4⟩, by rw [hb]; show sumf cI l1 + sumf cI l2 + sumf cT l3 + sumf cN l4 ≤ _; omega⟩
    | _ => simp at ho
end
end Go.Proofs.YtjjfdlgoacockaaGreat
