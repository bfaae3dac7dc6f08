/- The walk of the example of layer 6. -/
import Derived.Test.YtngjpgdgipmieaaGMul
namespace Go.Proofs.Ytngjpgdgipmieaa
open Go.RowKit M6
theorem fz_self {n : Int} (h : n.natAbs < 9007199254740992) : FloatKind.f64.format.order (fz n) (fz n) = some .eq := by
  have h2 : FloatKind.f64.format.order (fz n) (fz n) = some (compare n n) := D_order (fz_num h) (fz_num h) h h
  rw [h2, Int.compare_eq_ite_lt, if_neg (by omega), if_neg (by omega)]
theorem fz_other {n m : Int} (h : n.natAbs < 9007199254740992) (hm : m.natAbs < 9007199254740992) (hne : n ≠ m) : ¬ FloatKind.f64.format.order (fz n) (fz m) = some .eq := by
  have h2 : FloatKind.f64.format.order (fz n) (fz m) = some (compare n m) := D_order (fz_num h) (fz_num hm) h hm
  rw [h2, Int.compare_eq_ite_lt]
  split
  · simp
  · split
    · simp
    · omega
set_option maxRecDepth 100000 in
theorem gawake_any (w : World) : Calls Try.prog 30 #[] w fun e w' => e = .returned (.bool true) ∧ Below w.heap.size w w' := by
  have HM := Lib.hid (fun W => gmul_any 1 2 3 4 W (by decide) (by decide) (by decide) (by decide))
  have e1 : fz 1 = 4607182418800017408 := by decide +kernel
  have e2 : fz 2 = 4611686018427387904 := by decide +kernel
  have e3 : fz 3 = 4613937818241073152 := by decide +kernel
  have e4 : fz 4 = 4616189618054758400 := by decide +kernel
  have e5 : fz (-5) = 13840687554816376832 := by decide +kernel
  have e6 : fz 10 = 4621819117588971520 := by decide +kernel
  have hr : res (ok2 1 2 3 4) (1 * 3 - 2 * 4) (1 * 4 + 2 * 3) = (-5, 10, 0) := by decide
  have s5 := fz_self (n := -5) (by decide)
  have s6 := fz_self (n := 10) (by decide)
  unfold NRes at HM
  rw [hr, e1, e2, e3, e4] at HM
  simp only at HM
  rw [e5, e6] at HM
  rw [e5] at s5
  rw [e6] at s6
  clear e1 e2 e3 e4 e5 e6 hr
  go_enter Try.func30, Try.ntmps30
  go_wp2_with fail
  refine (HM.out _).mono ?_
  rintro e w1 ⟨rfl, hb⟩
  have HB := Lib.hid hb
  clear hb
  go_wp2_with fail
  go_ret
  exact ⟨rfl, HB.out⟩
end Go.Proofs.Ytngjpgdgipmieaa
