/- The walk of layer 2: may a field be, by contract. -/
import Derived.Test.YtmojabdobjfdoaaWCells
import Derived.Outline
import Derived.WalkSpells
import Derived.WalkMore
namespace Go.Proofs.Ytmojabdobjfdoaa
open Go.RowKit M1 M2

theorem may_any (num typ : Int) (n : Int) (d : ByteArray) (w : World) (a1 : -9223372036854775808 ≤ num) (a2 : num ≤ 9223372036854775807) (b1 : -9223372036854775808 ≤ typ) (b2 : typ ≤ 9223372036854775807) :
    Calls Try.prog 34 #[.agg #[.int .i64 num, .int .i64 typ, .int .u64 n, .string d]] w fun e w' => e = .returned (.bool (mayB num typ)) ∧ Below w.heap.size w w' := by
  by_cases h1 : num < 1
  · have hr : mayB num typ = false := by unfold mayB; rw [decide_eq_false_iff_not]; omega
    rw [hr]
    clear hr
    go_enter Try.func34, Try.ntmps34
    go_wp2
    go_ret
    exact ⟨rfl, (Below.refl _ _).alloc (Nat.le_refl _) _⟩
  by_cases h2 : 536870911 < num
  · have hr : mayB num typ = false := by unfold mayB; rw [decide_eq_false_iff_not]; omega
    rw [hr]
    clear hr
    go_enter Try.func34, Try.ntmps34
    go_wp2
    go_ret
    exact ⟨rfl, (Below.refl _ _).alloc (Nat.le_refl _) _⟩
  have h1' : 1 ≤ num := by omega
  have h2' : num ≤ 536870911 := by omega
  by_cases h3 : typ = 0 ∨ typ = 1 ∨ typ = 2 ∨ typ = 5
  · have hr : mayB num typ = true := by unfold mayB; rw [decide_eq_true_iff]; omega
    rw [hr]
    clear hr h1 h2
    rcases h3 with rfl | rfl | rfl | rfl
    all_goals
      go_enter Try.func34, Try.ntmps34
      go_wp2
      go_ret
      exact ⟨rfl, (Below.refl _ _).alloc (Nat.le_refl _) _⟩
  · have hr : mayB num typ = false := by unfold mayB; rw [decide_eq_false_iff_not]; omega
    rw [hr]
    have t0 : (typ == 0) = false := by simp; omega
    have t1 : (typ == 1) = false := by simp; omega
    have t2 : (typ == 2) = false := by simp; omega
    have t5 : (typ == 5) = false := by simp; omega
    clear hr h1 h2 h3
    go_enter Try.func34, Try.ntmps34
    go_wp2
    go_ret
    exact ⟨rfl, (Below.refl _ _).alloc (Nat.le_refl _) _⟩
end Go.Proofs.Ytmojabdobjfdoaa
