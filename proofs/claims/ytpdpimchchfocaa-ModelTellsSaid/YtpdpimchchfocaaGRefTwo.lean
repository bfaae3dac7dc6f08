/- The walks of the document's own answers: May, Read, Put. -/
import Derived.Test.YtpdpimchchfocaaGPutTwo
import Derived.Lib.QuietBelow
namespace Go.Proofs.Ytpdpimchchfocaa
open Go.RowKit M6 Go.Sort

theorem set2 {w : World} {g : Nat} {t : TypeId} {a0 a1 : Value} (h : w.heap[g]? = some (.cells #[a0, a1] t (0, 0))) (v0 v1 : Value) :
    ((w.setCell ⟨g, 0, none⟩ v0).setCell ⟨g, 1, none⟩ v1).heap[g]? = some (.cells #[v0, v1] t (0, 0)) :=
  heap_setCell_same _ g 1 _ t v1 (heap_setCell_same _ g 0 _ t v0 h)
theorem cells_of2 {w : World} {g : Nat} {t : TypeId} {a0 a1 : Value} (h : w.heap[g]? = some (.cells #[a0, a1] t (0, 0))) :
    w.cell? ⟨g, 0, none⟩ = some a0 ∧ w.cell? ⟨g, 1, none⟩ = some a1 :=
  ⟨cell_of_row w g 0 _ t _ h, cell_of_row w g 1 _ t _ h⟩
/-- two cells of the call's own block, stored -/
theorem put2 {w w3 : World} {t : TypeId} {a0 a1 : Value} (hk : w3.heap[w.heap.size]? = some (.cells #[a0, a1] t (0, 0))) (hb : Below w.heap.size w w3) (v0 v1 : Value) :
    ((w3.setCell ⟨w.heap.size, 0, none⟩ v0).setCell ⟨w.heap.size, 1, none⟩ v1).cell? ⟨w.heap.size, 0, none⟩ = some v0 ∧ ((w3.setCell ⟨w.heap.size, 0, none⟩ v0).setCell ⟨w.heap.size, 1, none⟩ v1).cell? ⟨w.heap.size, 1, none⟩ = some v1 ∧ Below w.heap.size w ((w3.setCell ⟨w.heap.size, 0, none⟩ v0).setCell ⟨w.heap.size, 1, none⟩ v1) := by
  obtain ⟨c0, c1⟩ := cells_of2 (set2 hk v0 v1)
  exact ⟨c0, c1, (hb.setCell (p := ⟨w.heap.size, 0, none⟩) (Nat.le_refl _) v0).setCell (p := ⟨w.heap.size, 1, none⟩) (Nat.le_refl _) v1⟩
/-- both parts may be -/
def mayN (a b : Int) : Bool := decide (a.natAbs ≤ 1048576 ∧ b.natAbs ≤ 1048576)
theorem mayN_yes {a b : Int} (h : a.natAbs ≤ 1048576 ∧ b.natAbs ≤ 1048576) : mayN a b = true := decide_eq_true h
theorem mayN_no {a b : Int} (h : ¬ (a.natAbs ≤ 1048576 ∧ b.natAbs ≤ 1048576)) : mayN a b = false := decide_eq_false h

/-- what the document's Read gives: a struct of two numbers, in memory -/
theorem rdSpec_no {b : ByteArray} (h : b.size = 8) (hno : ∀ i j : Int, i.natAbs ≤ 1048576 → j.natAbs ≤ 1048576 → pr (b.extract 0 4) 4 = sz i → pr (b.extract 4 8) 4 ≠ sz j) : RdSpec b 0 0 17 :=
  .inr (.inr (.inr ⟨h, rfl, rfl, rfl, hno⟩))
def RRes (b : ByteArray) (w : World) (e : Ending) (w' : World) : Prop := ∃ n m c : Int, e = .returned (.tuple #[.agg #[.int .i64 n, .int .i64 m], .int .i64 c]) ∧ RdSpec b n m c ∧ Below w.heap.size w w'
end Go.Proofs.Ytpdpimchchfocaa
