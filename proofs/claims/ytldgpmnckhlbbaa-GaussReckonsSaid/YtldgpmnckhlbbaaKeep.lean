/- A block that stays as it is while others are made or grow. No program is imported. -/
import Derived.Test.YtldgpmnckhlbbaaRow
namespace Go.Proofs.Ytldgpmnckhlbbaa
open Go.RowKit
theorem blk_lt {w : World} {b : Nat} {x : Obj} (h : w.heap[b]? = some x) : b < w.heap.size := (Array.getElem?_eq_some_iff.1 h).1
theorem blk_alloc {w : World} {b : Nat} {x : Obj} (h : w.heap[b]? = some x) (o : Obj) : (w.alloc o).heap[b]? = some x := (heap_alloc_old w o (blk_lt h)).trans h
theorem blk_below {B : Nat} {w w' : World} {b : Nat} {x : Obj} (h : w.heap[b]? = some x) (hb : Below B w w') (hB : b < B) : w'.heap[b]? = some x := (hb.block b hB).trans h
theorem own_far {w : World} {B size n b : Nat} {e T : TypeId} {v : Value} {xs : List Value} {cs : Array Value} {fz : Nat × Nat} (h : w.ownsRow B e size v n xs) (hb : w.heap[b]? = some (.cells cs T fz)) (hT : T ≠ e) : v.ownBlock ≠ some b := by
  rcases h.2 with ⟨rfl, -⟩ | ⟨g, cap, cur, rfl, -, hg, -⟩
  · simp [Value.ownBlock]
  · intro he
    simp only [Value.ownBlock, Option.some.injEq] at he
    subst he
    rw [hg] at hb
    simp only [Option.some.injEq, Obj.cells.injEq] at hb
    exact hT hb.2.1.symm
theorem blk_grown {w w' : World} {row : Option Nat} {b : Nat} {x : Obj} (h : w.heap[b]? = some x) (hg : w.grownBy w' row) (hne : row ≠ some b) : w'.heap[b]? = some x :=
  (hg.block b (blk_lt h) (fun e => hne e.symm)).trans h
/-- a slice literal, just made -/
theorem SR.lit (w : World) (xs : List Value) (T : TypeId) {size n : Nat} (h : xs.length = n * size) : SR (w.alloc (.cells xs.toArray T)) (w.heap.size + 1) size (some ⟨w.heap.size, 0, none⟩) n xs :=
  ⟨h, fun _ => ⟨_, 0, rfl, Nat.lt_succ_self _, fun j u hj => by
    have h1 := cells_new w xs T j u hj
    rw [Addr.add_mid] at h1
    exact h1⟩⟩
end Go.Proofs.Ytldgpmnckhlbbaa
