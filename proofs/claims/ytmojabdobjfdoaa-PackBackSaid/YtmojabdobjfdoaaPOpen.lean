/- Arguments of layer 3, opened: a slice of int64, a slice of bools. -/
import Derived.Test.YtmojabdobjfdoaaPAt
import Derived.Test.YtmojabdobjfdoaaOpenRow
namespace Go.Proofs.Ytmojabdobjfdoaa
open Go.RowKit M1 M2 M3 Go.ChangeShapes Go.WideShapes
section
variable {H : Type} {enc : TypeId × Value → H} {w : World} {base : Nat} {spare : Nat → Bool} {held : Bool}
theorem open_int64s {t : TypeId} {v : Value} {d : DataW H} {p : List MemPlace} (ht : Try.prog.underlying t = some (.slice 2)) (h : DataW.Trod enc Try.prog w base spare held t v d p) (hv : ∃ a l c, v = .slice a l c) :
    ∃ (A : Option Addr) (c : Nat) (l : List Int), v = .slice A l.length c ∧ SR w w.heap.size 1 A l.length (iv l) ∧ l.length ≤ maxLen ∧ ∀ n ∈ l, In64 n :=
  open_row1 (Value.int .i64) In64 ht (by kernel_rfl) (fun n v x hx => by
    obtain ⟨a, e, -, hw⟩ := DataW.trod_int Try.underlying2 hx
    simp only [List.cons.injEq, and_true] at e
    exact ⟨a, e, bounds_i64 hw⟩) h hv
theorem open_boolsl {t : TypeId} {v : Value} {d : DataW H} {p : List MemPlace} (ht : Try.prog.underlying t = some (.slice 4)) (h : DataW.Trod enc Try.prog w base spare held t v d p) (hv : ∃ a l c, v = .slice a l c) :
    ∃ (A : Option Addr) (c : Nat) (l : List Bool), v = .slice A l.length c ∧ SR w w.heap.size 1 A l.length (l.map Value.bool) ∧ l.length ≤ maxLen ∧ ∀ n ∈ l, True :=
  open_row1 Value.bool (fun _ => True) ht (by kernel_rfl) (fun n v x hx => by
    obtain ⟨a, e, -⟩ := DataW.trod_bool Try.underlying4 hx
    simp only [List.cons.injEq, and_true] at e
    exact ⟨a, e, trivial⟩) h hv
end
end Go.Proofs.Ytmojabdobjfdoaa
