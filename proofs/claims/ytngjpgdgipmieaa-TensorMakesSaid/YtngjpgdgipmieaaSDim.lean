/- The walks of layer 5: one dimension, of a shape, and of two that broadcast; the program's and the document's own, by contract. -/
import Derived.Test.YtngjpgdgipmieaaInts
import Derived.Test.YtngjpgdgipmieaaSMath
namespace Go.Proofs.Ytngjpgdgipmieaa
open Go.RowKit M5

def boV (x y : Int) : Int := if okd x y then bo x y else 0
def boB (x y : Int) : Bool := decide (okd x y)

theorem both_any (x y : Int) (w : World) :
    Calls Try.prog 66 #[.int .i64 x, .int .i64 y] w fun e w' => e = .returned (.tuple #[.int .i64 (boV x y), .bool (boB x y)]) ∧ w = w' := by
  by_cases h1 : x = y
  · subst h1
    have HE : Hid (boV x x = x ∧ boB x x = true) := Lib.hid ⟨by unfold boV; rw [if_pos (.inl rfl)]; unfold bo; split <;> rfl, decide_eq_true (.inl rfl)⟩
    go_enter Try.func66, Try.ntmps66
    go_wp2_with fail
    go_ret2
    rw [HE.out.1, HE.out.2]
    exact ⟨rfl, rfl⟩
  · have h1' : (x == y) = false := by simpa using h1
    by_cases h2 : y = 1
    · subst h2
      have HE : Hid (boV x 1 = x ∧ boB x 1 = true) := Lib.hid ⟨by unfold boV; rw [if_pos (.inr (.inr rfl))]; unfold bo; split <;> omega, decide_eq_true (.inr (.inr rfl))⟩
      clear h1
      go_enter Try.func66, Try.ntmps66
      go_wp2_with fail
      go_ret2
      rw [HE.out.1, HE.out.2]
      exact ⟨rfl, rfl⟩
    · have h2' : (y == 1) = false := by simpa using h2
      by_cases h3 : x = 1
      · subst h3
        have HE : Hid (boV 1 y = y ∧ boB 1 y = true) := Lib.hid ⟨by unfold boV; rw [if_pos (.inr (.inl rfl))]; rfl, decide_eq_true (.inr (.inl rfl))⟩
        clear h1 h2
        go_enter Try.func66, Try.ntmps66
        go_wp2_with fail
        go_ret2
        rw [HE.out.1, HE.out.2]
        exact ⟨rfl, rfl⟩
      · have h3' : (x == 1) = false := by simpa using h3
        have hno : ¬ okd x y := by unfold okd; omega
        have HE : Hid (boV x y = 0 ∧ boB x y = false) := Lib.hid ⟨by unfold boV; exact if_neg hno, decide_eq_false hno⟩
        clear h1 h2 h3 hno
        go_enter Try.func66, Try.ntmps66
        go_wp2_with fail
        go_ret2
        rw [HE.out.1, HE.out.2]
        exact ⟨rfl, rfl⟩

set_option maxRecDepth 100000 in
theorem dim_any (A : Option Addr) (c : Nat) (l : List Int) (i r : Nat) (w : World) {B : Nat} (hl : l.length ≤ r) (hr : r ≤ 8) (hi : i < r) (ha : SR w B 1 A l.length (iv l)) :
    Calls Try.prog 67 #[.slice A l.length c, .int .i64 (i : Int), .int .i64 (r : Int)] w fun en w' => en = .returned (.int .i64 (e l (r - 1 - i))) ∧ w = w' := by
  by_cases h : i < r - l.length
  · have HE := Lib.hid (e_ge (l := l) (i := r - 1 - i) (by omega))
    have h' : (i : Int) < (r : Int) - (l.length : Int) := by omega
    clear ha h
    go_enter Try.func67, Try.ntmps67
    go_wp2_with fail
    go_ret
    rw [HE.out]
    exact ⟨rfl, rfl⟩
  · have h' : ¬ (i : Int) < (r : Int) - (l.length : Int) := by omega
    have he := e_lt (l := l) (i := r - 1 - i) (by omega)
    have hj : l.length - 1 - (r - 1 - i) < l.length := by omega
    obtain ⟨b1, o1, rfl, hb1, x0⟩ := int_at ha hj
    rw [← he] at x0
    have hji : l.length - 1 - (r - 1 - i) = i - (r - l.length) := by omega
    rw [hji] at x0
    generalize e l (r - 1 - i) = u at *
    clear he ha h hj hji
    have hlen : (l.length : Int) ≤ (r : Int) := by omega
    go_enter Try.func67, Try.ntmps67
    go_wp2_with fail
    go_ret
    exact ⟨rfl, rfl⟩

end Go.Proofs.Ytngjpgdgipmieaa
