/- Layer 2: a slice of fields, element by element; the fields of a number, as a list. -/
import Derived.Test.YtmojabdobjfdoaaWCells
namespace Go.Proofs.Ytmojabdobjfdoaa
open Go.RowKit M1 M2

/-- field k of a slice of fields, cell by cell -/
theorem field_at {w : World} {B : Nat} {A : Option Addr} {l : List WFd} (h : SR w B 4 A l.length (fcs l)) {k : Nat} (hk : k < l.length) :
    ∃ b o, A = some ⟨b, o, none⟩ ∧ b < B ∧ w.cell? ⟨b, o + k * 4, none⟩ = some (.int .i64 l[k].num) ∧ w.cell? ⟨b, o + k * 4 + 1, none⟩ = some (.int .i64 l[k].typ) ∧
      w.cell? ⟨b, o + k * 4 + 2, none⟩ = some (.int .u64 (l[k].n : Int)) ∧ w.cell? ⟨b, o + k * 4 + 3, none⟩ = some (.string l[k].data) := by
  obtain ⟨b, o, hA, hb, hc⟩ := h.at_ hk
  refine ⟨b, o, hA, hb, hc 0 (by omega) _ ?_, hc 1 (by omega) _ ?_, hc 2 (by omega) _ ?_, hc 3 (by omega) _ ?_⟩
  all_goals rw [fcs_at l k hk _ (by omega)]; rfl

def ofNum (l : List WFd) (num : Int) : List WFd := l.filter fun f => decide (f.num = num)
theorem ofNum_snoc (l : List WFd) (f : WFd) (num : Int) : ofNum (l ++ [f]) num = if f.num = num then ofNum l num ++ [f] else ofNum l num := by
  unfold ofNum
  rw [List.filter_append]
  by_cases h : f.num = num <;> simp [h]
theorem ofNum_le (l : List WFd) (num : Int) : (ofNum l num).length ≤ l.length := List.length_filter_le _ _
theorem take_succ_at {l : List WFd} {k : Nat} (h : k < l.length) : l.take (k + 1) = l.take k ++ [l[k]] := by
  rw [List.take_succ_eq_append_getElem h]
end Go.Proofs.Ytmojabdobjfdoaa
