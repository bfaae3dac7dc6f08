/- A float made whole and back: what of it is compared. No walk. -/
import Derived.Test.YtldgpmnckhlbbaaGReads
namespace Go.Proofs.Ytldgpmnckhlbbaa
open Go.RowKit M6
set_option exponentiation.threshold 3000

theorem ge_beq {o : Option Ordering} : (o = some .gt ∨ o = some .eq) ↔ (o == some .gt || o == some .eq) = true := by simp
open Ieee in
/-- 'at least' is 'at most' the other way round -/
theorem ge_lo (x : Nat) : (FloatKind.f64.format.order x 13920626448202203136 = some .gt ∨ FloatKind.f64.format.order x 13920626448202203136 = some .eq) ↔ lo x = true := by
  show (double.order x 13920626448202203136 = some .gt ∨ double.order x 13920626448202203136 = some .eq) ↔ lo x = true
  by_cases hf : M6.Fin double x
  · have h1 := lo_num.fin goodD (by decide)
    rw [lo_fin hf, order_fin hf h1, lo_num.V goodD (by decide), Int.compare_eq_ite_lt]
    split
    · simp; omega
    · split
      · simp; omega
      · simp; omega
  · have e1 := read_fin (lo_num.fin goodD (by decide))
    unfold lo Format.order
    rcases oddD hf with e | ⟨t, e⟩
    · rw [e1, e]
      cases sgn double x <;> simp [Datum.order]
    · rw [e1, e]
      simp [Datum.order]
open Ieee in
/-- a float within the bounds, made whole, and back -/
theorem into_of {x : Nat} (h1 : lo x = true) (h2 : hi x = true) : ∃ n : Int, floatToIntVal .f64 x .i64 = some n ∧ (tr x = true → FloatKind.f64.format.order x (fz n) = some .eq) ∧ (tr x = false → ¬ FloatKind.f64.format.order x (fz n) = some .eq) := by
  obtain ⟨n, hn, hD, hI, -⟩ := trunc_of h1 h2
  have hf := fin_of h1 h2
  have hft := hD.fin goodD (by rw [two53]; omega)
  have hff := (fz_num (n := n) (by omega)).fin goodD (by rw [two53]; omega)
  have hv : V double (tz x) = V double (fz n) := by
    rw [hD.V goodD (by rw [two53]; omega), (fz_num (n := n) (by omega)).V goodD (by rw [two53]; omega)]
  have he : FloatKind.f64.format.order x (fz n) = double.order x (tz x) := by
    show double.order x (fz n) = double.order x (tz x)
    rw [order_fin hf hff, order_fin hf hft, hv]
  refine ⟨n, ?_, ?_, ?_⟩
  · unfold floatToIntVal
    have : (FloatKind.f64.decode x).toInt .zero = some n := hI
    rw [this]
    have hmin : IntKind.i64.min = -9223372036854775808 := by decide
    have hmax : IntKind.i64.max = 9223372036854775807 := by decide
    simp only [hmin, hmax]
    rw [if_pos (by omega)]
  · intro h
    unfold tr at h
    rw [he]
    simpa using h
  · intro h
    unfold tr at h
    rw [he]
    simpa using h
/-- whatever float is made whole -/
theorem conv_any (x : Nat) : ∃ (N : World → Int) (q : Nat), ∀ W : World, (convert 42 2 (.float .f64 x)).run Try.prog W = .ok (.int .i64 (N W)) (W.drewN q) := by
  have hu : Try.prog.underlying 42 = some (.float .f64) := by kernel_rfl
  have hs : (Try.prog.underlying 42).isSome = true := by kernel_rfl
  have hd : Try.prog.underlying 2 = some (.int .i64) := by kernel_rfl
  cases h : floatToIntVal .f64 x .i64 with
  | some n => exact ⟨fun _ => n, 0, fun W => run_convert_float_int W _ _ _ _ _ n hs hd h⟩
  | none =>
    refine ⟨fun W => IntKind.i64.wrap ((Question.floatToInt .f64 x .i64).cut (W.tape W.drawn (.floatToInt .f64 x .i64))), 1, fun W => ?_⟩
    unfold floatToIntVal at h
    show _ = Result.ok _ W.drew
    split at h
    · rename_i n e
      split at h
      · cases h
      · rename_i hb
        simp [convert, run_underlying hu, run_underlying hd, Conv.floatToInt, e, Question.forced]
        exact fun h1 h2 => absurd ⟨h1, h2⟩ hb
    · rename_i e
      simp [convert, run_underlying hu, run_underlying hd, Conv.floatToInt, e, Question.forced]
theorem wb_no {x : Nat} (h : lo x = false ∨ hi x = false ∨ tr x = false) : wb x = false := by
  unfold wb
  rcases h with h | h | h <;> rw [h] <;> simp
/-- what is put is read as it was -/
theorem rdSpec_put {A C : Int} (hA : A.natAbs ≤ 1048576) (hC : C.natAbs ≤ 1048576) : RdSpec (bs (sz A) ++ bs (sz C)) A C 0 :=
  .inr (.inr (.inl ⟨rfl, rfl, hA, hC, by rw [cat_first _ _ rfl, pr_bs (sz_lt A)], by rw [cat_second _ _ rfl rfl, pr_bs (sz_lt C)]⟩))
/-- what is read is put as it was -/
theorem put_read {b : ByteArray} {n m : Int} (h : RdSpec b n m 0) : n.natAbs ≤ 1048576 ∧ m.natAbs ≤ 1048576 ∧ bs (sz n) ++ bs (sz m) = b := by
  rcases h with ⟨-, h, -⟩ | ⟨-, h, -⟩ | ⟨s, -, hn, hm, e1, e2⟩ | ⟨-, h, -⟩
  · cases h
  · cases h
  · refine ⟨hn, hm, ?_⟩
    rw [← e1, ← e2, bs_pr (by simp; omega), bs_pr (by simp; omega), halves s]
  · cases h
end Go.Proofs.Ytldgpmnckhlbbaa
