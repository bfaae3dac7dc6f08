import Derived.Test.YtjjfdlgoacockaaGreatTMade
import Derived.Test.YtjjfdlgoacockaaGreatMath
import Derived.Test.YtjjfdlgoacockaaGreatPWith
import Derived.Test.YtjjfdlgoacockaaGreatPAt
import Derived.Test.YtjjfdlgoacockaaGreatTCheck
import Derived.Test.YtjjfdlgoacockaaGreatLift
import Derived.Test.YtjjfdlgoacockaaGreatSSize
import Derived.Test.YtjjfdlgoacockaaGreatOPart
namespace Go.Proofs.YtjjfdlgoacockaaGreat
open Go.RowKit M2 M3 M9

abbrev wc (nme : ByteArray) (k : Int) (dv : Value) (d0 : ByteArray) (sz : Int) (wh : Int) (d : ByteArray) (hs : Bool) (sv nv bv : Value) : Array Value :=
  #[.string nme, .int .i64 k, dv, .string d0, .int .i64 sz, .int .u64 wh, .string d, .bool hs, sv, nv, bv]
abbrev wa (nme : ByteArray) (k : Int) (dv : Value) (d0 : ByteArray) (sz : Int) (wh : Int) (d : ByteArray) (hs : Bool) (sv nv bv : Value) : Value := .agg (wc nme k dv d0 sz wh d hs sv nv bv)
def Own4 (B : Nat) (r : Rws9) (dv sv nv bv : Value) (W : World) : Prop :=
  W.ownsRow B 2 1 dv r.d.length (iv r.d) ∧ W.ownsRow B 2 1 sv r.s.length (iv r.s) ∧ W.ownsRow B 2 1 nv r.i.length (iv r.i) ∧ W.ownsRow B 9 1 bv r.t.length (p_tv r.t)
theorem Own4.below {B : Nat} {r : Rws9} {dv sv nv bv : Value} {W W' : World} (h : Own4 B r dv sv nv bv W) (hb : Below W.heap.size W W') : Own4 B r dv sv nv bv W' :=
  ⟨own_keep h.1 hb, own_keep h.2.1 hb, own_keep h.2.2.1 hb, own_keep h.2.2.2 hb⟩
theorem Own4.nothing (B : Nat) (W : World) : Own4 B zr (.slice none 0 0) (.slice none 0 0) (.slice none 0 0) (.slice none 0 0) W :=
  ⟨own_nothing _ _ _ _, own_nothing _ _ _ _, own_nothing _ _ _ _, own_nothing _ _ _ _⟩
theorem Own4.set {B g : Nat} {r : Rws9} {dv sv nv bv : Value} {W : World} {cs : Array Value} {T : TypeId} (h : Own4 B r dv sv nv bv W) (hx : W.heap[g]? = some (.cells cs T (0, 0))) (h1 : T ≠ 2) (h2 : T ≠ 9) (i : Nat) (u : Value) : Own4 B r dv sv nv bv (W.setCell ⟨g, i, none⟩ u) :=
  ⟨own_set h.1 (own_far h.1 hx h1) i u, own_set h.2.1 (own_far h.2.1 hx h1) i u, own_set h.2.2.1 (own_far h.2.2.1 hx h1) i u, own_set h.2.2.2 (own_far h.2.2.2 hx h2) i u⟩
def WX (w : World) (g B : Nat) (nme : ByteArray) (k : Int) (d0 : ByteArray) (sz : Int) (wh : Int) (d : ByteArray) (hs : Bool) (r : Rws9) (dv sv nv bv : Value) (W : World) : Prop :=
  Bx w g (wc nme k dv d0 sz wh d hs sv nv bv) 217 W ∧ Own4 B r dv sv nv bv W
section
variable {w W W' : World} {g B : Nat} {nme d0 d nme' d0' d' : ByteArray} {k sz k' sz' : Int} {wh wh' : Int} {hs hs' : Bool} {r r' : Rws9} {dv sv nv bv dv' sv' nv' bv' : Value}
theorem WX.below (h : WX w g B nme k d0 sz wh d hs r dv sv nv bv W) (hb : Below W.heap.size W W') : WX w g B nme k d0 sz wh d hs r dv sv nv bv W' := ⟨h.1.below hb, h.2.below hb⟩
theorem WX.cells (h : WX w g B nme k d0 sz wh d hs r dv sv nv bv W) :
    W.cell? ⟨g, 0, none⟩ = some (.string nme) ∧ W.cell? ⟨g, 1, none⟩ = some (.int .i64 k) ∧ W.cell? ⟨g, 2, none⟩ = some dv ∧ W.cell? ⟨g, 3, none⟩ = some (.string d0) ∧ W.cell? ⟨g, 4, none⟩ = some (.int .i64 sz) ∧ W.cell? ⟨g, 5, none⟩ = some (.int .u64 wh) ∧
    W.cell? ⟨g, 6, none⟩ = some (.string d) ∧ W.cell? ⟨g, 7, none⟩ = some (.bool hs) ∧ W.cell? ⟨g, 8, none⟩ = some sv ∧ W.cell? ⟨g, 9, none⟩ = some nv ∧ W.cell? ⟨g, 10, none⟩ = some bv :=
  ⟨h.1.cell 0, h.1.cell 1, h.1.cell 2, h.1.cell 3, h.1.cell 4, h.1.cell 5, h.1.cell 6, h.1.cell 7, h.1.cell 8, h.1.cell 9, h.1.cell 10⟩
theorem WX.put (h : WX w g B nme k d0 sz wh d hs r dv sv nv bv W) (hg : w.heap.size ≤ g) (ho : Own4 B r' dv' sv' nv' bv' W) :
    WX w g B nme' k' d0' sz' wh' d' hs' r' dv' sv' nv' bv' (((((((((((W.setCell ⟨g, 0, none⟩ (.string nme')).setCell ⟨g, 1, none⟩ (.int .i64 k')).setCell ⟨g, 2, none⟩ dv').setCell ⟨g, 3, none⟩ (.string d0')).setCell ⟨g, 4, none⟩ (.int .i64 sz')).setCell ⟨g, 5, none⟩ (.int .u64 wh')).setCell ⟨g, 6, none⟩ (.string d')).setCell ⟨g, 7, none⟩ (.bool hs')).setCell ⟨g, 8, none⟩ sv').setCell ⟨g, 9, none⟩ nv').setCell ⟨g, 10, none⟩ bv') := by
  have h0 : Bx w g (wc nme' k dv d0 sz wh d hs sv nv bv) 217 _ := h.1.set hg 0 (.string nme')
  have o0 := ho.set h.1.1 (by decide) (by decide) 0 (.string nme')
  have h1 : Bx w g (wc nme' k' dv d0 sz wh d hs sv nv bv) 217 _ := h0.set hg 1 (.int .i64 k')
  have o1 := o0.set h0.1 (by decide) (by decide) 1 (.int .i64 k')
  have h2 : Bx w g (wc nme' k' dv' d0 sz wh d hs sv nv bv) 217 _ := h1.set hg 2 dv'
  have o2 := o1.set h1.1 (by decide) (by decide) 2 dv'
  have h3 : Bx w g (wc nme' k' dv' d0' sz wh d hs sv nv bv) 217 _ := h2.set hg 3 (.string d0')
  have o3 := o2.set h2.1 (by decide) (by decide) 3 (.string d0')
  have h4 : Bx w g (wc nme' k' dv' d0' sz' wh d hs sv nv bv) 217 _ := h3.set hg 4 (.int .i64 sz')
  have o4 := o3.set h3.1 (by decide) (by decide) 4 (.int .i64 sz')
  have h5 : Bx w g (wc nme' k' dv' d0' sz' wh' d hs sv nv bv) 217 _ := h4.set hg 5 (.int .u64 wh')
  have o5 := o4.set h4.1 (by decide) (by decide) 5 (.int .u64 wh')
  have h6 : Bx w g (wc nme' k' dv' d0' sz' wh' d' hs sv nv bv) 217 _ := h5.set hg 6 (.string d')
  have o6 := o5.set h5.1 (by decide) (by decide) 6 (.string d')
  have h7 : Bx w g (wc nme' k' dv' d0' sz' wh' d' hs' sv nv bv) 217 _ := h6.set hg 7 (.bool hs')
  have o7 := o6.set h6.1 (by decide) (by decide) 7 (.bool hs')
  have h8 : Bx w g (wc nme' k' dv' d0' sz' wh' d' hs' sv' nv bv) 217 _ := h7.set hg 8 sv'
  have o8 := o7.set h7.1 (by decide) (by decide) 8 sv'
  have h9 : Bx w g (wc nme' k' dv' d0' sz' wh' d' hs' sv' nv' bv) 217 _ := h8.set hg 9 nv'
  have o9 := o8.set h8.1 (by decide) (by decide) 9 nv'
  have h10 : Bx w g (wc nme' k' dv' d0' sz' wh' d' hs' sv' nv' bv') 217 _ := h9.set hg 10 bv'
  have o10 := o9.set h9.1 (by decide) (by decide) 10 bv'
  exact ⟨h10, o10⟩
theorem WX.start (w : World) : WX w w.heap.size w.heap.size ⟨#[]⟩ 0 ⟨#[]⟩ 0 0 ⟨#[]⟩ false zr (.slice none 0 0) (.slice none 0 0) (.slice none 0 0) (.slice none 0 0) (w.alloc (.cells (wc ⟨#[]⟩ 0 (.slice none 0 0) ⟨#[]⟩ 0 0 ⟨#[]⟩ false (.slice none 0 0) (.slice none 0 0) (.slice none 0 0)) 217)) := ⟨Bx.start w _ _, Own4.nothing _ _⟩
theorem WX.setD {l : List Int} (h : WX w g B nme k d0 sz wh d hs r dv sv nv bv W) (hg : w.heap.size ≤ g) (ho : W.ownsRow B 2 1 dv' l.length (iv l)) : WX w g B nme k d0 sz wh d hs { r with d := l } dv' sv nv bv (W.setCell ⟨g, 2, none⟩ dv') :=
  ⟨h.1.set hg 2 dv', Own4.set (r := { r with d := l }) ⟨ho, h.2.2⟩ h.1.1 (by decide) (by decide) 2 dv'⟩
theorem WX.setS {l : List Int} (h : WX w g B nme k d0 sz wh d hs r dv sv nv bv W) (hg : w.heap.size ≤ g) (ho : W.ownsRow B 2 1 sv' l.length (iv l)) : WX w g B nme k d0 sz wh d hs { r with s := l } dv sv' nv bv (W.setCell ⟨g, 8, none⟩ sv') :=
  ⟨h.1.set hg 8 sv', Own4.set (r := { r with s := l }) ⟨h.2.1, ho, h.2.2.2⟩ h.1.1 (by decide) (by decide) 8 sv'⟩
theorem WX.setI {l : List Int} (h : WX w g B nme k d0 sz wh d hs r dv sv nv bv W) (hg : w.heap.size ≤ g) (ho : W.ownsRow B 2 1 nv' l.length (iv l)) : WX w g B nme k d0 sz wh d hs { r with i := l } dv sv nv' bv (W.setCell ⟨g, 9, none⟩ nv') :=
  ⟨h.1.set hg 9 nv', Own4.set (r := { r with i := l }) ⟨h.2.1, h.2.2.1, ho, h.2.2.2.2⟩ h.1.1 (by decide) (by decide) 9 nv'⟩
theorem WX.setT {l : List ByteArray} (h : WX w g B nme k d0 sz wh d hs r dv sv nv bv W) (hg : w.heap.size ≤ g) (ho : W.ownsRow B 9 1 bv' l.length (p_tv l)) : WX w g B nme k d0 sz wh d hs { r with t := l } dv sv nv bv' (W.setCell ⟨g, 10, none⟩ bv') :=
  ⟨h.1.set hg 10 bv', Own4.set (r := { r with t := l }) ⟨h.2.1, h.2.2.1, h.2.2.2.1, ho⟩ h.1.1 (by decide) (by decide) 10 bv'⟩
end
def b_RowsRes (r : Rws9 × Nat) (w : World) (e : Ending) (w' : World) : Prop :=
  ∃ dv sv nv bv, e = .returned (.tuple #[wa ⟨#[]⟩ 0 dv ⟨#[]⟩ 0 0 ⟨#[]⟩ false sv nv bv, .int .i64 (r.2 : Int)]) ∧ Own4 w.heap.size r.1 dv sv nv bv w' ∧ Below w.heap.size w w'
theorem rowsRes_no {R : Rws9 × Nat} {C : Nat} {w W : World} (h : R = (zr, C)) (hb : Below w.heap.size w W) : b_RowsRes R w (.returned (.tuple #[wa ⟨#[]⟩ 0 (.slice none 0 0) ⟨#[]⟩ 0 0 ⟨#[]⟩ false (.slice none 0 0) (.slice none 0 0) (.slice none 0 0), .int .i64 (C : Int)])) W := by
  subst h; exact ⟨(.slice none 0 0), (.slice none 0 0), (.slice none 0 0), (.slice none 0 0), rfl, Own4.nothing _ _, hb⟩
theorem rowsRes_yes {R : Rws9 × Nat} {r : Rws9} {dv sv nv bv : Value} {w W : World} (h : R = (r, 0)) (ho : Own4 w.heap.size r dv sv nv bv W) (hb : Below w.heap.size w W) : b_RowsRes R w (.returned (.tuple #[wa ⟨#[]⟩ 0 dv ⟨#[]⟩ 0 0 ⟨#[]⟩ false sv nv bv, .int .i64 0])) W := by
  subst h; exact ⟨dv, sv, nv, bv, rfl, ho, hb⟩
theorem name_world {P : World → Prop} {W : World} (h : P W) : ∃ W', W = W' ∧ P W' := ⟨W, rfl, h⟩

set_option maxRecDepth 100000 in
set_option maxHeartbeats 2000000 in
theorem readRows_any (A : Option Addr) (c : Nat) (l : List WFd) (w : World) (hl : l.length ≤ 3000000) (ha : SR w w.heap.size 4 A l.length (fcs l)) (hok : ∀ f ∈ l, FOk f) :
    Calls Tryz.prog 159 #[.slice A l.length c] w (b_RowsRes (rows l) w) := by
  have HX0 := Lib.hid (WX.start w)
  have HC1 := Lib.hid (fun W (h : Below w.heap.size w W) => ints_any A c l 1 W hl ((ha.below h).more h.size) hok)
  have HC5 := Lib.hid (fun W (h : Below w.heap.size w W) => ints_any A c l 5 W hl ((ha.below h).more h.size) hok)
  have HC7 := Lib.hid (fun W (h : Below w.heap.size w W) => ints_any A c l 7 W hl ((ha.below h).more h.size) hok)
  have HC13 := Lib.hid (fun W (h : Below w.heap.size w W) => texts_any A c l 13 W hl ((ha.below h).more h.size))
  unfold rows
  generalize ints (ofNum l 1) [] = R1 at *
  generalize ints (ofNum l 5) [] = R5 at *
  generalize ints (ofNum l 7) [] = R7 at *
  generalize txts (ofNum l 13) [] = R13 at *
  obtain ⟨L1, C1⟩ := R1
  obtain ⟨L5, C5⟩ := R5
  obtain ⟨L7, C7⟩ := R7
  obtain ⟨L13, C13⟩ := R13
  clear ha hok
  go_enter Tryz.func159, Tryz.ntmps159
  go_wp2_with fail
  refine (HC1.out _ HX0.out.1.all).mono ?_
  rintro e w1 ⟨v1, rfl, hown, hb⟩
  dsimp only at hown
  obtain ⟨a1, k1, rfl, -, -⟩ := own_form hown
  have hx := HX0.out.below hb
  have ho := own_base hown HX0.out.1.all.size
  obtain ⟨c0, c1, c2, c3, c4, c5, c6, c7, c8, c9, c10⟩ := hx.cells
  have f0 := fun i => hx.1.free i
  obtain ⟨wA1, hwA1, hxA⟩ := name_world (P := fun W => WX w w.heap.size w.heap.size ⟨#[]⟩ 0 ⟨#[]⟩ 0 0 ⟨#[]⟩ false ⟨L1, [], [], []⟩ (.slice a1 L1.length k1) (.slice none 0 0) (.slice none 0 0) (.slice none 0 0) W) (hx.setD (Nat.le_refl _) ho)
  have HX1 := Lib.hid hxA
  clear hx ho hb hown hxA HC1 HX0
  by_cases hc : C1 ≠ 0
  · have hcb : ((C1 : Int) != 0) = true := by simpa using hc
    have HE := Lib.hid (show rowsOf (L1, C1) (L5, C5) (L7, C7) (L13, C13) = (zr, C1) from by simp [rowsOf, hc])
    obtain ⟨wB, hB, hxB⟩ := name_world (P := fun W => WX w w.heap.size w.heap.size ⟨#[]⟩ 0 ⟨#[]⟩ 0 0 ⟨#[]⟩ false zr (.slice none 0 0) (.slice none 0 0) (.slice none 0 0) (.slice none 0 0) W) (HX1.out.put (Nat.le_refl _) (Own4.nothing _ _))
    have HB := Lib.hid hxB
    obtain ⟨d0, d1, d2, d3, d4, d5, d6, d7, d8, d9, d10⟩ := HX1.out.cells
    have g0 := fun i => HX1.out.1.free i
    clear hc hxB
    go_wp2_with fail
    obtain ⟨e0, e1, e2, e3, e4, e5, e6, e7, e8, e9, e10⟩ := HB.out.cells
    exact bodyPost_ret (v := .tuple #[wa ⟨#[]⟩ 0 (.slice none 0 0) ⟨#[]⟩ 0 0 ⟨#[]⟩ false (.slice none 0 0) (.slice none 0 0) (.slice none 0 0), .int .i64 (C1 : Int)]) (by simp [results, Tryz.results159, go_sem, e0, e1, e2, e3, e4, e5, e6, e7, e8, e9, e10]) rfl (rowsRes_no HE.out HB.out.1.all)
  obtain rfl : C1 = 0 := by omega
  go_wp2_with fail
  clear c0 c1 c2 c3 c4 c5 c6 c7 c8 c9 c10 f0 hwA1
  refine (HC5.out _ HX1.out.1.all).mono ?_
  rintro e w5 ⟨v5, rfl, hown, hb⟩
  dsimp only at hown
  obtain ⟨a5, k5, rfl, -, -⟩ := own_form hown
  have hx := HX1.out.below hb
  have ho := own_base hown HX1.out.1.all.size
  obtain ⟨c0, c1, c2, c3, c4, c5, c6, c7, c8, c9, c10⟩ := hx.cells
  have f0 := fun i => hx.1.free i
  obtain ⟨wA5, hwA5, hxA⟩ := name_world (P := fun W => WX w w.heap.size w.heap.size ⟨#[]⟩ 0 ⟨#[]⟩ 0 0 ⟨#[]⟩ false ⟨L1, L5, [], []⟩ (.slice a1 L1.length k1) (.slice a5 L5.length k5) (.slice none 0 0) (.slice none 0 0) W) (hx.setS (Nat.le_refl _) ho)
  have HX5 := Lib.hid hxA
  clear hx ho hb hown hxA HC5 HX1
  by_cases hc : C5 ≠ 0
  · have hcb : ((C5 : Int) != 0) = true := by simpa using hc
    have HE := Lib.hid (show rowsOf (L1, 0) (L5, C5) (L7, C7) (L13, C13) = (zr, C5) from by simp [rowsOf, hc])
    obtain ⟨wB, hB, hxB⟩ := name_world (P := fun W => WX w w.heap.size w.heap.size ⟨#[]⟩ 0 ⟨#[]⟩ 0 0 ⟨#[]⟩ false zr (.slice none 0 0) (.slice none 0 0) (.slice none 0 0) (.slice none 0 0) W) (HX5.out.put (Nat.le_refl _) (Own4.nothing _ _))
    have HB := Lib.hid hxB
    obtain ⟨d0, d1, d2, d3, d4, d5, d6, d7, d8, d9, d10⟩ := HX5.out.cells
    have g0 := fun i => HX5.out.1.free i
    clear hc hxB
    go_wp2_with fail
    obtain ⟨e0, e1, e2, e3, e4, e5, e6, e7, e8, e9, e10⟩ := HB.out.cells
    exact bodyPost_ret (v := .tuple #[wa ⟨#[]⟩ 0 (.slice none 0 0) ⟨#[]⟩ 0 0 ⟨#[]⟩ false (.slice none 0 0) (.slice none 0 0) (.slice none 0 0), .int .i64 (C5 : Int)]) (by simp [results, Tryz.results159, go_sem, e0, e1, e2, e3, e4, e5, e6, e7, e8, e9, e10]) rfl (rowsRes_no HE.out HB.out.1.all)
  obtain rfl : C5 = 0 := by omega
  go_wp2_with fail
  clear c0 c1 c2 c3 c4 c5 c6 c7 c8 c9 c10 f0 hwA5
  refine (HC7.out _ HX5.out.1.all).mono ?_
  rintro e w7 ⟨v7, rfl, hown, hb⟩
  dsimp only at hown
  obtain ⟨a7, k7, rfl, -, -⟩ := own_form hown
  have hx := HX5.out.below hb
  have ho := own_base hown HX5.out.1.all.size
  obtain ⟨c0, c1, c2, c3, c4, c5, c6, c7, c8, c9, c10⟩ := hx.cells
  have f0 := fun i => hx.1.free i
  obtain ⟨wA7, hwA7, hxA⟩ := name_world (P := fun W => WX w w.heap.size w.heap.size ⟨#[]⟩ 0 ⟨#[]⟩ 0 0 ⟨#[]⟩ false ⟨L1, L5, L7, []⟩ (.slice a1 L1.length k1) (.slice a5 L5.length k5) (.slice a7 L7.length k7) (.slice none 0 0) W) (hx.setI (Nat.le_refl _) ho)
  have HX7 := Lib.hid hxA
  clear hx ho hb hown hxA HC7 HX5
  by_cases hc : C7 ≠ 0
  · have hcb : ((C7 : Int) != 0) = true := by simpa using hc
    have HE := Lib.hid (show rowsOf (L1, 0) (L5, 0) (L7, C7) (L13, C13) = (zr, C7) from by simp [rowsOf, hc])
    obtain ⟨wB, hB, hxB⟩ := name_world (P := fun W => WX w w.heap.size w.heap.size ⟨#[]⟩ 0 ⟨#[]⟩ 0 0 ⟨#[]⟩ false zr (.slice none 0 0) (.slice none 0 0) (.slice none 0 0) (.slice none 0 0) W) (HX7.out.put (Nat.le_refl _) (Own4.nothing _ _))
    have HB := Lib.hid hxB
    obtain ⟨d0, d1, d2, d3, d4, d5, d6, d7, d8, d9, d10⟩ := HX7.out.cells
    have g0 := fun i => HX7.out.1.free i
    clear hc hxB
    go_wp2_with fail
    obtain ⟨e0, e1, e2, e3, e4, e5, e6, e7, e8, e9, e10⟩ := HB.out.cells
    exact bodyPost_ret (v := .tuple #[wa ⟨#[]⟩ 0 (.slice none 0 0) ⟨#[]⟩ 0 0 ⟨#[]⟩ false (.slice none 0 0) (.slice none 0 0) (.slice none 0 0), .int .i64 (C7 : Int)]) (by simp [results, Tryz.results159, go_sem, e0, e1, e2, e3, e4, e5, e6, e7, e8, e9, e10]) rfl (rowsRes_no HE.out HB.out.1.all)
  obtain rfl : C7 = 0 := by omega
  go_wp2_with fail
  clear c0 c1 c2 c3 c4 c5 c6 c7 c8 c9 c10 f0 hwA7
  refine (HC13.out _ HX7.out.1.all).mono ?_
  rintro e w13 ⟨v13, rfl, hown, hb⟩
  dsimp only at hown
  obtain ⟨a13, k13, rfl, -, -⟩ := own_form hown
  have hx := HX7.out.below hb
  have ho := own_base hown HX7.out.1.all.size
  obtain ⟨c0, c1, c2, c3, c4, c5, c6, c7, c8, c9, c10⟩ := hx.cells
  have f0 := fun i => hx.1.free i
  obtain ⟨wA13, hwA13, hxA⟩ := name_world (P := fun W => WX w w.heap.size w.heap.size ⟨#[]⟩ 0 ⟨#[]⟩ 0 0 ⟨#[]⟩ false ⟨L1, L5, L7, L13⟩ (.slice a1 L1.length k1) (.slice a5 L5.length k5) (.slice a7 L7.length k7) (.slice a13 L13.length k13) W) (hx.setT (Nat.le_refl _) ho)
  have HX13 := Lib.hid hxA
  clear hx ho hb hown hxA HC13 HX7
  by_cases hc : C13 ≠ 0
  · have hcb : ((C13 : Int) != 0) = true := by simpa using hc
    have HE := Lib.hid (show rowsOf (L1, 0) (L5, 0) (L7, 0) (L13, C13) = (zr, C13) from by simp [rowsOf, hc])
    obtain ⟨wB, hB, hxB⟩ := name_world (P := fun W => WX w w.heap.size w.heap.size ⟨#[]⟩ 0 ⟨#[]⟩ 0 0 ⟨#[]⟩ false zr (.slice none 0 0) (.slice none 0 0) (.slice none 0 0) (.slice none 0 0) W) (HX13.out.put (Nat.le_refl _) (Own4.nothing _ _))
    have HB := Lib.hid hxB
    obtain ⟨d0, d1, d2, d3, d4, d5, d6, d7, d8, d9, d10⟩ := HX13.out.cells
    have g0 := fun i => HX13.out.1.free i
    clear hc hxB
    go_wp2_with fail
    obtain ⟨e0, e1, e2, e3, e4, e5, e6, e7, e8, e9, e10⟩ := HB.out.cells
    exact bodyPost_ret (v := .tuple #[wa ⟨#[]⟩ 0 (.slice none 0 0) ⟨#[]⟩ 0 0 ⟨#[]⟩ false (.slice none 0 0) (.slice none 0 0) (.slice none 0 0), .int .i64 (C13 : Int)]) (by simp [results, Tryz.results159, go_sem, e0, e1, e2, e3, e4, e5, e6, e7, e8, e9, e10]) rfl (rowsRes_no HE.out HB.out.1.all)
  obtain rfl : C13 = 0 := by omega
  have HE := Lib.hid (show rowsOf (L1, 0) (L5, 0) (L7, 0) (L13, 0) = (⟨L1, L5, L7, L13⟩, 0) from by simp [rowsOf])
  obtain ⟨wB, hB, hxB⟩ := name_world (P := fun W => WX w w.heap.size w.heap.size ⟨#[]⟩ 0 ⟨#[]⟩ 0 0 ⟨#[]⟩ false ⟨L1, L5, L7, L13⟩ (.slice a1 L1.length k1) (.slice a5 L5.length k5) (.slice a7 L7.length k7) (.slice a13 L13.length k13) W) (HX13.out.put (Nat.le_refl _) HX13.out.2)
  have HB := Lib.hid hxB
  obtain ⟨d0, d1, d2, d3, d4, d5, d6, d7, d8, d9, d10⟩ := HX13.out.cells
  have g0 := fun i => HX13.out.1.free i
  clear hxB
  go_wp2_with fail
  obtain ⟨e0, e1, e2, e3, e4, e5, e6, e7, e8, e9, e10⟩ := HB.out.cells
  exact bodyPost_ret (v := .tuple #[wa ⟨#[]⟩ 0 (.slice a1 L1.length k1) ⟨#[]⟩ 0 0 ⟨#[]⟩ false (.slice a5 L5.length k5) (.slice a7 L7.length k7) (.slice a13 L13.length k13), .int .i64 0]) (by simp [results, Tryz.results159, go_sem, e0, e1, e2, e3, e4, e5, e6, e7, e8, e9, e10]) rfl (rowsRes_yes HE.out HB.out.2 HB.out.1.all)
end Go.Proofs.YtjjfdlgoacockaaGreat
namespace Go.Proofs.YtjjfdlgoacockaaGreat
open Go.RowKit M2 M3 M9
open M7 (nm)

theorem Bx.eleven {w W : World} {g : Nat} {a0 a1 a2 a3 a4 a5 a6 a7 a8 a9 a10 : Value} {T : TypeId} (h : Bx w g #[a0, a1, a2, a3, a4, a5, a6, a7, a8, a9, a10] T W) :
    W.cell? ⟨g, 0, none⟩ = some a0 ∧ W.cell? ⟨g, 1, none⟩ = some a1 ∧ W.cell? ⟨g, 2, none⟩ = some a2 ∧ W.cell? ⟨g, 3, none⟩ = some a3 ∧ W.cell? ⟨g, 4, none⟩ = some a4 ∧ W.cell? ⟨g, 5, none⟩ = some a5 ∧ W.cell? ⟨g, 6, none⟩ = some a6 ∧
      W.cell? ⟨g, 7, none⟩ = some a7 ∧ W.cell? ⟨g, 8, none⟩ = some a8 ∧ W.cell? ⟨g, 9, none⟩ = some a9 ∧ W.cell? ⟨g, 10, none⟩ = some a10 :=
  ⟨h.cell 0, h.cell 1, h.cell 2, h.cell 3, h.cell 4, h.cell 5, h.cell 6, h.cell 7, h.cell 8, h.cell 9, h.cell 10⟩
theorem chk_form {wh : Nat} {s : ByteArray} {k : Int} {l : List Int} (h0 : wh ≠ 0) (h1 : wh ≠ 1) : chk wh s k l = (0, 19) := by unfold chk; rw [if_pos ⟨h0, h1⟩]
theorem chk_name {wh : Nat} {s : ByteArray} {k : Int} {l : List Int} (h0 : wh = 0 ∨ wh = 1) (h1 : nm s = false) : chk wh s k l = (0, 8) := by unfold chk; rw [if_neg (by omega), if_pos h1]
theorem chk_kind {wh : Nat} {s : ByteArray} {k : Int} {l : List Int} (h0 : wh = 0 ∨ wh = 1) (h1 : nm s = true) (h2 : kSize k = 0) : chk wh s k l = (0, 5) := by unfold chk; rw [if_neg (by omega), if_neg (by simp [h1]), if_pos h2]
theorem chk_size {wh : Nat} {s : ByteArray} {k : Int} {l : List Int} (h0 : wh = 0 ∨ wh = 1) (h1 : nm s = true) (h2 : kSize k ≠ 0) : chk wh s k l = ((M5.sz l).1 * kSize k, ((M5.sz l).2 : Int)) := by unfold chk; rw [if_neg (by omega), if_neg (by simp [h1]), if_neg h2]

set_option maxRecDepth 100000 in
set_option maxHeartbeats 1000000 in
theorem check_any9 (nme : ByteArray) (k : Int) (A : Option Addr) (c : Nat) (dims : List Int) (d0 : ByteArray) (sz : Int) (wh : Nat) (d : ByteArray) (hs : Bool) (sv nv bv : Value) (w : World)
    (hn : nme.size ≤ maxLen) (hk : (Lit.int .i64 k).wf = true) (hd : SR w w.heap.size 1 A dims.length (iv dims)) (hl : dims.length ≤ maxLen) (hi : ∀ n ∈ dims, I64 n) :
    Calls Tryz.prog 161 #[wa nme k (.slice A dims.length c) d0 sz (wh : Int) d hs sv nv bv] w fun e w' => e = .returned (.tuple #[.int .i64 (chk wh nme k dims).1, .int .i64 (chk wh nme k dims).2]) ∧ Below w.heap.size w w' := by
  have HBX := Lib.hid (Bx.start w (wc nme k (.slice A dims.length c) d0 sz (wh : Int) d hs sv nv bv) 217)
  have HNM := Lib.hid (fun W => name_any nme W hn)
  have HD := Lib.hid (fun W (h : Below w.heap.size w W) => shSize_any A c dims W hl ((hd.below h).more h.size) hi)
  clear hd hi hn
  by_cases h01 : wh = 0 ∨ wh = 1
  · have H01 := Lib.hid h01
    cases hnm : nm nme
    · rw [hnm] at HNM
      have HE := Lib.hid (chk_name (k := k) (l := dims) h01 hnm)
      clear hnm
      rcases h01 with rfl | rfl
      all_goals
        go_enter Tryz.func161, Tryz.ntmps161
        go_wp2_with fail
        refine (HNM.out _).mono ?_
        rintro e w1 ⟨rfl, rfl⟩
        go_wp2_with fail
        go_ret2
        rw [HE.out]
        exact ⟨rfl, HBX.out.all⟩
    · rw [hnm] at HNM
      have HN := Lib.hid hnm
      obtain ⟨s, hsz, hs8⟩ := size_nat k
      obtain ⟨n, hcn, hn6⟩ := count_nat dims
      by_cases hs0 : s = 0
      · subst hs0
        have HE := Lib.hid (chk_kind (l := dims) h01 hnm hsz)
        have HK := Lib.hid (fun W => k_size_any k W hk)
        rw [hsz] at HK
        clear hnm hsz hcn
        rcases h01 with rfl | rfl
        all_goals
          go_enter Tryz.func161, Tryz.ntmps161
          go_wp2_with fail
          refine (HNM.out _).mono ?_
          rintro e w1 ⟨rfl, rfl⟩
          go_wp2_with fail
          refine (HK.out _).mono ?_
          rintro e w1 ⟨rfl, hb1⟩
          have H1 := Lib.hid (HBX.out.below hb1)
          clear hb1 HBX
          go_wp2_with fail
          go_ret2
          rw [HE.out]
          exact ⟨rfl, H1.out.all⟩
      · have hs0' : ¬ (s : Int) = 0 := by omega
        have HE := Lib.hid (chk_size (l := dims) h01 hnm (by rw [hsz]; exact hs0'))
        have HK := Lib.hid (fun W => k_size_any k W hk)
        rw [hsz] at HK HE
        rw [hcn] at HD HE
        have hpp := small_prod hn6 hs8
        clear hnm hsz hcn
        generalize (M5.sz dims).2 = C at *
        rcases h01 with rfl | rfl
        all_goals
          go_enter Tryz.func161, Tryz.ntmps161
          go_wp2_with fail
          refine (HNM.out _).mono ?_
          rintro e w1 ⟨rfl, rfl⟩
          go_wp2_with fail
          refine (HK.out _).mono ?_
          rintro e w1 ⟨rfl, hb1⟩
          have H1 := Lib.hid (HBX.out.below hb1)
          clear hb1 HBX
          obtain ⟨c0, c1, c2, c3, c4, c5, c6, c7, c8, c9, c10⟩ := H1.out.eleven
          go_wp2_with fail
          refine (HD.out _ H1.out.all).mono ?_
          rintro e w2 ⟨rfl, rfl⟩
          go_wp2_with fail
          go_ret2
          rw [HE.out]
          exact ⟨rfl, H1.out.all⟩
  · have hw0 : ((wh : Int) != 0) = true := by simp; omega
    have hw1 : ((wh : Int) != 1) = true := by simp; omega
    have HE := Lib.hid (chk_form (s := nme) (k := k) (l := dims) (wh := wh) (by omega) (by omega))
    clear h01
    go_enter Tryz.func161, Tryz.ntmps161
    go_wp2_with fail
    go_ret2
    rw [HE.out]
    exact ⟨rfl, HBX.out.all⟩

def hasN (s i : List Int) : Bool := decide (s ≠ []) || decide (i ≠ [])
theorem hasN_len (s i : List Int) : hasN s i = (decide (0 < s.length) || decide (0 < i.length)) := by
  unfold hasN
  congr 1 <;> (rw [Bool.eq_iff_iff]; simp [List.length_pos_iff])
set_option maxRecDepth 100000 in
theorem hasNumbers_any (nme : ByteArray) (k : Int) (dv : Value) (d0 : ByteArray) (sz : Int) (wh : Int) (d : ByteArray) (hs : Bool) (A B : Option Addr) (p q : Nat) (s i : List Int) (bv : Value) (w : World) :
    Calls Tryz.prog 162 #[wa nme k dv d0 sz wh d hs (.slice A s.length p) (.slice B i.length q) bv] w fun e w' => e = .returned (.bool (hasN s i)) ∧ Below w.heap.size w w' := by
  rw [hasN_len]
  generalize s.length = n
  generalize i.length = m
  by_cases h1 : 0 < n
  · have HBX := Lib.hid (Bx.start w (wc nme k dv d0 sz wh d hs (.slice A n p) (.slice B m q) bv) 217)
    have hx : (0 : Int) < (n : Int) := by omega
    have HE := Lib.hid (show (decide (0 < n) || decide (0 < m)) = true from by simp [h1])
    generalize (decide (0 < n) || decide (0 < m)) = R at *
    clear h1
    go_enter Tryz.func162, Tryz.ntmps162
    go_wp2_with fail
    go_ret
    rw [HE.out]
    exact ⟨rfl, HBX.out.all⟩
  · obtain rfl : n = 0 := by omega
    have HBX := Lib.hid (Bx.start w (wc nme k dv d0 sz wh d hs (.slice A 0 p) (.slice B m q) bv) 217)
    have HE := Lib.hid (show (decide (0 < 0) || decide (0 < m)) = decide (0 < m) from by simp)
    generalize (decide (0 < 0) || decide (0 < m)) = R at *
    by_cases h2 : 0 < m
    · have hy : (0 : Int) < (m : Int) := by omega
      have HQ := Lib.hid (decide_eq_true h2)
      clear h1 h2
      go_enter Tryz.func162, Tryz.ntmps162
      go_wp2_with fail
      go_ret
      rw [HE.out, HQ.out]
      exact ⟨rfl, HBX.out.all⟩
    · obtain rfl : m = 0 := by omega
      clear h1 h2
      go_enter Tryz.func162, Tryz.ntmps162
      go_wp2_with fail
      go_ret
      rw [HE.out]
      exact ⟨rfl, HBX.out.all⟩
end Go.Proofs.YtjjfdlgoacockaaGreat
namespace Go.Proofs.YtjjfdlgoacockaaGreat
open Go.RowKit M8

def o_In64 (n : Int) : Prop := -9223372036854775808 ≤ n ∧ n ≤ 9223372036854775807
end Go.Proofs.YtjjfdlgoacockaaGreat
