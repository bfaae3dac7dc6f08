/- Layer 2: the cells of a field. -/
import Derived.Test.YtmojabdobjfdoaaRows
import Derived.Test.YtmojabdobjfdoaaWMath
import Derived.Test.YtmojabdobjfdoaaKit
import Derived.Test.YtmojabdobjfdoaaRow
import Derived.Outline
import Derived.WalkSpells
import Derived.WalkMore
import Derived.OneCell
namespace Go.Proofs.Ytmojabdobjfdoaa
open Go.RowKit M1 M2

/-- a field's cells -/
def fc (f : WFd) : List Value := [.int .i64 f.num, .int .i64 f.typ, .int .u64 (f.n : Int), .string f.data]
def fcs (l : List WFd) : List Value := l.flatMap fc
theorem fcs_len (l : List WFd) : (fcs l).length = l.length * 4 := by
  induction l with
  | nil => rfl
  | cons f l ih => simp only [fcs, List.flatMap_cons, List.length_append, List.length_cons] at *; rw [ih]; simp [fc]; omega
theorem fcs_append (a b : List WFd) : fcs (a ++ b) = fcs a ++ fcs b := by simp [fcs]
theorem fcs_one (f : WFd) : fcs [f] = fc f := by simp [fcs]
theorem fcs_at (l : List WFd) (k : Nat) (h : k < l.length) (j : Nat) (hj : j < 4) : (fcs l)[k * 4 + j]? = (fc l[k])[j]? := by
  induction l generalizing k with
  | nil => simp at h
  | cons f l ih =>
    have hf : (fc f).length = 4 := rfl
    rw [show fcs (f :: l) = fc f ++ fcs l from rfl]
    cases k with
    | zero => rw [List.getElem?_append_left (by omega)]; simp
    | succ k =>
      rw [List.getElem?_append_right (by omega), hf, show (k + 1) * 4 + j - 4 = k * 4 + j by omega, ih k (by simpa using h)]
      simp
theorem fcs_one_cell {l : List WFd} : ∀ u ∈ fcs l, u.oneCell' = true := by
  intro u hu
  simp only [fcs, List.mem_flatMap, fc] at hu
  obtain ⟨f, _, hu⟩ := hu
  simp at hu
  rcases hu with rfl | rfl | rfl | rfl <;> rfl
theorem infoField : (Try.prog.info? 27).map (fun i => (i.zero, i.size, i.bytes)) = some (some (.agg #[.int .i64 0, .int .i64 0, .int .u64 0, .string ⟨#[]⟩]), 4, 40) := by kernel_rfl
end Go.Proofs.Ytmojabdobjfdoaa
