/- The walks of layer 2: may a field be, by contract; the cells of a field. -/
import Derived.Test.YtkihbgklfbaiiaaRows
import Derived.Test.YtkihbgklfbaiiaaWMath
import Derived.Test.YtkihbgklfbaiiaaKit
import Derived.Test.YtkihbgklfbaiiaaRow
import Derived.Outline
import Derived.WalkSpells
import Derived.WalkMore
import Derived.OneCell
namespace Go.Proofs.Ytkihbgklfbaiiaa
open Go.RowKit M1 M2

/-- a field's cells -/
def fc (f : WFd) : List Value := [.int .i64 f.num, .int .i64 f.typ, .int .u64 (f.n : Int), .string f.data]
def fcs (l : List WFd) : List Value := l.flatMap fc
theorem fcs_len (l : List WFd) : (fcs l).length = l.length * 4 := by
  induction l with
  | nil => rfl
  | cons f l ih => simp only [fcs, List.flatMap_cons, List.length_append, List.length_cons] at *; rw [ih]; simp [fc]; omega
theorem fcs_append (a b : List WFd) : fcs (a ++ b) = fcs a ++ fcs b := by simp [fcs]
theorem fcs_one (f : WFd) : fcs [f] = fc f := by simp [fcs]
theorem fcs_at (l : List WFd) (k : Nat) (h : k < l.length) (j : Nat) (hj : j < 4) : (fcs l)[k * 4 + j]? = (fc l[k])[j]? := by
  induction l generalizing k with
  | nil => simp at h
  | cons f l ih =>
    have hf : (fc f).length = 4 := rfl
    rw [show fcs (f :: l) = fc f ++ fcs l from rfl]
    cases k with
    | zero => rw [List.getElem?_append_left (by omega)]; simp
    | succ k =>
      rw [List.getElem?_append_right (by omega), hf, show (k + 1) * 4 + j - 4 = k * 4 + j by omega, ih k (by simpa using h)]
      simp
theorem fcs_one_cell {l : List WFd} : ∀ u ∈ fcs l, u.oneCell' = true := by
  intro u hu
  simp only [fcs, List.mem_flatMap, fc] at hu
  obtain ⟨f, _, hu⟩ := hu
  simp at hu
  rcases hu with rfl | rfl | rfl | rfl <;> rfl

theorem may_any (num typ : Int) (n : Int) (d : ByteArray) (w : World) (a1 : -9223372036854775808 ≤ num) (a2 : num ≤ 9223372036854775807) (b1 : -9223372036854775808 ≤ typ) (b2 : typ ≤ 9223372036854775807) :
    Calls Try.prog 25 #[.agg #[.int .i64 num, .int .i64 typ, .int .u64 n, .string d]] w fun e w' => e = .returned (.bool (mayB num typ)) ∧ Below w.heap.size w w' := by
  by_cases h1 : num < 1
  · have hr : mayB num typ = false := by unfold mayB; rw [decide_eq_false_iff_not]; omega
    rw [hr]
    clear hr
    go_enter Try.func25, Try.ntmps25
    go_wp2
    go_ret
    exact ⟨rfl, (Below.refl _ _).alloc (Nat.le_refl _) _⟩
  by_cases h2 : 536870911 < num
  · have hr : mayB num typ = false := by unfold mayB; rw [decide_eq_false_iff_not]; omega
    rw [hr]
    clear hr
    go_enter Try.func25, Try.ntmps25
    go_wp2
    go_ret
    exact ⟨rfl, (Below.refl _ _).alloc (Nat.le_refl _) _⟩
  have h1' : 1 ≤ num := by omega
  have h2' : num ≤ 536870911 := by omega
  by_cases h3 : typ = 0 ∨ typ = 1 ∨ typ = 2 ∨ typ = 5
  · have hr : mayB num typ = true := by unfold mayB; rw [decide_eq_true_iff]; omega
    rw [hr]
    clear hr h1 h2
    rcases h3 with rfl | rfl | rfl | rfl
    all_goals
      go_enter Try.func25, Try.ntmps25
      go_wp2
      go_ret
      exact ⟨rfl, (Below.refl _ _).alloc (Nat.le_refl _) _⟩
  · have hr : mayB num typ = false := by unfold mayB; rw [decide_eq_false_iff_not]; omega
    rw [hr]
    have t0 : (typ == 0) = false := by simp; omega
    have t1 : (typ == 1) = false := by simp; omega
    have t2 : (typ == 2) = false := by simp; omega
    have t5 : (typ == 5) = false := by simp; omega
    clear hr h1 h2 h3
    go_enter Try.func25, Try.ntmps25
    go_wp2
    go_ret
    exact ⟨rfl, (Below.refl _ _).alloc (Nat.le_refl _) _⟩
end Go.Proofs.Ytkihbgklfbaiiaa
