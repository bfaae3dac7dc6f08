/- Four cells of a block, through whatever comes. No walk. -/
import Derived.Test.YtiniicehfjgpgaaGreatTCheck
import Derived.Deep.RegionHeld
namespace Go.Proofs.YtiniicehfjgpgaaGreat
open Go.RowKit M6 M7

/-- what is older than a call is older than what comes behind it -/
theorem kept_lt {W w1 : World} (hb : Below W.heap.size W w1) : (∀ b, b < W.heap.size → b < w1.heap.size) ∧ (∀ b, b < W.heap.size → b < w1.heap.size + 1) ∧ (∀ b, b < W.heap.size → b < w1.heap.size + 1 + 1) ∧ (∀ b, b < W.heap.size → ¬ b = w1.heap.size) ∧ (∀ b, b < W.heap.size → ¬ w1.heap.size = b) ∧ (∀ b, b < W.heap.size → ¬ w1.heap.size + 1 = b) :=
  ⟨fun b h => Nat.lt_of_lt_of_le h hb.size, fun b h => Nat.lt_succ_of_lt (Nat.lt_of_lt_of_le h hb.size), fun b h => Nat.lt_succ_of_lt (Nat.lt_succ_of_lt (Nat.lt_of_lt_of_le h hb.size)), fun b h e => by have := hb.size; omega, fun b h e => by have := hb.size; omega, fun b h e => by have := hb.size; omega⟩
/-- four cells of a block that the call has made -/
def Fx (g : Nat) (a0 a1 a2 a3 : Value) (W : World) : Prop := (W.cell? ⟨g, 0, none⟩ = some a0 ∧ W.cell? ⟨g, 1, none⟩ = some a1 ∧ W.cell? ⟨g, 2, none⟩ = some a2 ∧ W.cell? ⟨g, 3, none⟩ = some a3) ∧ g < W.heap.size
theorem Fx.below {g : Nat} {a0 a1 a2 a3 : Value} {W W' : World} (h : Fx g a0 a1 a2 a3 W) (hb : Below W.heap.size W W') : Fx g a0 a1 a2 a3 W' := by
  obtain ⟨⟨h0, h1, h2, h3⟩, hg⟩ := h
  exact ⟨⟨(hb.cell (p := ⟨g, 0, none⟩) hg).trans h0, (hb.cell (p := ⟨g, 1, none⟩) hg).trans h1, (hb.cell (p := ⟨g, 2, none⟩) hg).trans h2, (hb.cell (p := ⟨g, 3, none⟩) hg).trans h3⟩, Nat.lt_of_lt_of_le hg hb.size⟩
theorem Fx.cells {g : Nat} {a0 a1 a2 a3 : Value} {W : World} (h : Fx g a0 a1 a2 a3 W) : W.cell? ⟨g, 0, none⟩ = some a0 ∧ W.cell? ⟨g, 1, none⟩ = some a1 ∧ W.cell? ⟨g, 2, none⟩ = some a2 ∧ W.cell? ⟨g, 3, none⟩ = some a3 := h.1
theorem Fx.more {g : Nat} {a0 a1 a2 a3 : Value} {W : World} (h : Fx g a0 a1 a2 a3 W) (o : Obj) : Fx g a0 a1 a2 a3 (W.alloc o) := h.below ((Below.refl _ _).alloc (Nat.le_refl _) _)
theorem Fx.drew {g : Nat} {a0 a1 a2 a3 : Value} {W : World} (h : Fx g a0 a1 a2 a3 W) : Fx g a0 a1 a2 a3 W.drew := h
theorem Fx.new {W : World} {g : Nat} {a0 a1 a2 a3 : Value} {T : TypeId} (hg : g = W.heap.size) : Fx g a0 a1 a2 a3 (W.alloc (.cells #[a0, a1, a2, a3] T)) := by
  subst hg
  exact ⟨cells_of4 (heap_alloc_new W _), by simp⟩
theorem Fx.far1 {g b i : Nat} {a0 a1 a2 a3 v : Value} {W : World} (h : Fx g a0 a1 a2 a3 W) (hne : ¬ b = g) : Fx g a0 a1 a2 a3 (W.setCell ⟨b, i, none⟩ v) := by
  obtain ⟨⟨h0, h1, h2, h3⟩, hg⟩ := h
  exact ⟨⟨(World.cell?_setCell_far _ _ _ _ hne).trans h0, (World.cell?_setCell_far _ _ _ _ hne).trans h1, (World.cell?_setCell_far _ _ _ _ hne).trans h2, (World.cell?_setCell_far _ _ _ _ hne).trans h3⟩, by simpa using hg⟩
theorem Fx.put {g : Nat} {v0 v1 v2 v3 : Value} {W : World} (h : Fx g (.string ⟨#[]⟩) (.int .i64 0) (.slice none 0 0) (.string ⟨#[]⟩) W) : Fx g v0 v1 v2 v3 ((((W.setCell ⟨g, 0, none⟩ v0).setCell ⟨g, 1, none⟩ v1).setCell ⟨g, 2, none⟩ v2).setCell ⟨g, 3, none⟩ v3) := by
  obtain ⟨⟨h0, h1, h2, h3⟩, hg⟩ := h
  refine ⟨⟨?_, ?_, ?_, ?_⟩, by simpa using hg⟩
  · rw [World.cell?_setCell_other _ _ _ _ (by simp), World.cell?_setCell_other _ _ _ _ (by simp), World.cell?_setCell_other _ _ _ _ (by simp)]
    exact World.cell?_setCell_same _ _ _ h0
  · rw [World.cell?_setCell_other _ _ _ _ (by simp), World.cell?_setCell_other _ _ _ _ (by simp)]
    exact World.cell?_setCell_same _ _ _ ((World.cell?_setCell_other _ _ _ _ (by simp)).trans h1)
  · rw [World.cell?_setCell_other _ _ _ _ (by simp)]
    exact World.cell?_setCell_same _ _ _ ((World.cell?_setCell_other _ _ _ _ (by simp)).trans ((World.cell?_setCell_other _ _ _ _ (by simp)).trans h2))
  · exact World.cell?_setCell_same _ _ _ ((World.cell?_setCell_other _ _ _ _ (by simp)).trans ((World.cell?_setCell_other _ _ _ _ (by simp)).trans ((World.cell?_setCell_other _ _ _ _ (by simp)).trans h3)))
/-- the cells of a tensor -/
abbrev Tx (g : Nat) (t : Ten) (A : Option Addr) (c : Nat) (W : World) : Prop := Fx g (.string t.name) (.int .i64 t.kind) (.slice A t.dims.length c) (.string t.data) W
/-- the four blocks of the law TensorTells, and what has come since -/
def AllT (w : World) (g7 g8 : Nat) (t u : Ten) (A B : Option Addr) (c d : Nat) (W : World) : Prop := Tx g7 t A c W ∧ Tx g8 u B d W ∧ Tx w.heap.size t A c W ∧ Tx (w.heap.size + 1) u B d W ∧ Below w.heap.size w W
theorem AllT.below {w W W' : World} {g7 g8 : Nat} {t u : Ten} {A B : Option Addr} {c d : Nat} (h : AllT w g7 g8 t u A B c d W) (hb : Below W.heap.size W W') : AllT w g7 g8 t u A B c d W' :=
  ⟨h.1.below hb, h.2.1.below hb, h.2.2.1.below hb, h.2.2.2.1.below hb, step_below h.2.2.2.2 hb⟩
theorem AllT.all {w W : World} {g7 g8 : Nat} {t u : Ten} {A B : Option Addr} {c d : Nat} (h : AllT w g7 g8 t u A B c d W) : Below w.heap.size w W := h.2.2.2.2
/-- .. and the three rows of elements -/
def AllS (w : World) (g7 g8 : Nat) (t u : Ten) (A B : Option Addr) (c d : Nat) (v1 v2 v3 : Value) (ys1 : List Int) (ys2 : List Bool) (ps : List (Int × Int)) (W : World) : Prop :=
  AllT w g7 g8 t u A B c d W ∧ W.ownsRow w.heap.size 2 1 v1 ys1.length (iv ys1) ∧ W.ownsRow w.heap.size 4 1 v2 ys2.length (ys2.map fun p => Value.bool p) ∧ W.ownsRow w.heap.size 166 1 v3 ps.length (ps.map fun p => Value.complex .f64 (fz p.1) (fz p.2))
theorem AllS.below {w W W' : World} {g7 g8 : Nat} {t u : Ten} {A B : Option Addr} {c d : Nat} {v1 v2 v3 : Value} {ys1 : List Int} {ys2 : List Bool} {ps : List (Int × Int)} (h : AllS w g7 g8 t u A B c d v1 v2 v3 ys1 ys2 ps W) (hb : Below W.heap.size W W') : AllS w g7 g8 t u A B c d v1 v2 v3 ys1 ys2 ps W' :=
  ⟨h.1.below hb, own_keep h.2.1 hb, own_keep h.2.2.1 hb, own_keep h.2.2.2 hb⟩
theorem AllS.all {w W : World} {g7 g8 : Nat} {t u : Ten} {A B : Option Addr} {c d : Nat} {v1 v2 v3 : Value} {ys1 : List Int} {ys2 : List Bool} {ps : List (Int × Int)} (h : AllS w g7 g8 t u A B c d v1 v2 v3 ys1 ys2 ps W) : Below w.heap.size w W := h.1.all
theorem AllS.more {w W : World} {g7 g8 : Nat} {t u : Ten} {A B : Option Addr} {c d : Nat} {v1 v2 v3 : Value} {ys1 : List Int} {ys2 : List Bool} {ps : List (Int × Int)} (h : AllS w g7 g8 t u A B c d v1 v2 v3 ys1 ys2 ps W) (o : Obj) : AllS w g7 g8 t u A B c d v1 v2 v3 ys1 ys2 ps (W.alloc o) := h.below ((Below.refl _ _).alloc (Nat.le_refl _) _)
end Go.Proofs.YtiniicehfjgpgaaGreat
