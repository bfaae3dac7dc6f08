/- The walks of Signbit and Trunc and of whole and checked: which floats are parts of numbers. -/
import Derived.Test.YtngjpgdgipmieaaRows
import Derived.Test.YtngjpgdgipmieaaGMath
import Derived.Test.YtngjpgdgipmieaaKit
import Derived.WalkLawsBesides
import Derived.Laws.Externs
import Derived.WalkSpells
import Derived.WalkMore
import Derived.Outline
namespace Go.Proofs.Ytngjpgdgipmieaa
open Go.RowKit M6

theorem x_f64bits (b : Nat) (w : World) : (callFunc 82 #[.float .f64 b]).run Try.prog w = .ok (.value (.int .u64 b)) w := by
  rw [run_callFunc_extern Try.func82 (by kernel_rfl) (by kernel_rfl) (by kernel_rfl) (e := Extern.MathFloatBits.float64bits) (by kernel_rfl)]; rfl
theorem x_f32bits (b : Nat) (w : World) : (callFunc 79 #[.float .f32 b]).run Try.prog w = .ok (.value (.int .u32 b)) w := by
  rw [run_callFunc_extern Try.func79 (by kernel_rfl) (by kernel_rfl) (by kernel_rfl) (e := Extern.MathFloatBits.float32bits) (by kernel_rfl)]; rfl
theorem x_f32from (n : Int) (w : World) : (callFunc 76 #[.int .u32 n]).run Try.prog w = .ok (.value (.float .f32 n.toNat)) w := by
  rw [run_callFunc_extern Try.func76 (by kernel_rfl) (by kernel_rfl) (by kernel_rfl) (e := Extern.MathFloatBits.float32frombits) (by kernel_rfl)]; rfl
theorem x_trunc {x : Nat} (h : Fin Ieee.double x) (w : World) : (callFunc 83 #[.float .f64 x]).run Try.prog w = .ok (.value (.float .f64 (tz x))) w := by
  rw [run_callFunc_extern Try.func83 (by kernel_rfl) (by kernel_rfl) (by kernel_rfl) (e := Extern.MathFloor.toIntegral "math.archTrunc" .zero) (by kernel_rfl)]
  have hr := read_fin h
  have e : FloatKind.f64.decode x = .number (sgn Ieee.double x) (man Ieee.double (rung Ieee.double x)) (Ieee.double.leastPlace + (ex Ieee.double (rung Ieee.double x) : Nat)) := hr
  have ht : tz x = FloatKind.f64.encode ((FloatKind.f64.decode x).integral .zero) := rfl
  rw [ht]
  have hb : Extern.MathFloor.toIntegral "math.archTrunc" .zero #[.float .f64 x] = (match FloatKind.f64.decode x with
    | .nan s t =>
      if FloatKind.f64.format.quiet t = t then pure (.float .f64 x) else do
      let kept ← choose (.extern "math.Floor,Ceil,Trunc,RoundToEven.signallingNaN kept" 2)
      pure (.float .f64 (if kept == 1 then x else FloatKind.f64.encode (.nan s (FloatKind.f64.format.quiet t))))
    | d => pure (.float .f64 (FloatKind.f64.encode (d.integral .zero)))) := rfl
  rw [hb, e]
  rfl

set_option maxRecDepth 100000 in
theorem signbit_any (x : Nat) (w : World) (hx : x < 18446744073709551616) :
    Calls Try.prog 80 #[.float .f64 x] w fun e w' => e = .returned (.bool (decide (9223372036854775808 ≤ x))) ∧ w = w' := by
  have h1 := x_f64bits
  by_cases h : 9223372036854775808 ≤ x
  · have hw : IntKind.i64.wrap (x : Int) = (x : Int) - 18446744073709551616 := by simp [IntKind.wrap_i64]; omega
    have hl : (x : Int) - 18446744073709551616 < 0 := by omega
    rw [decide_eq_true h]
    go_enter Try.func80, Try.ntmps80
    go_wp2_with fail
    go_ret
    all_goals simp
  · have hw : IntKind.i64.wrap (x : Int) = (x : Int) := by simp [IntKind.wrap_i64]; omega
    have hl : ¬ (x : Int) < 0 := by omega
    rw [decide_eq_false h]
    go_enter Try.func80, Try.ntmps80
    go_wp2_with fail
    go_ret
    all_goals simp
set_option maxRecDepth 100000 in
theorem trunc_any (x : Nat) (w : World) (hx : Fin Ieee.double x) :
    Calls Try.prog 81 #[.float .f64 x] w fun e w' => e = .returned (.float .f64 (tz x)) ∧ w = w' := by
  have h1 := x_trunc hx
  go_enter Try.func81, Try.ntmps81
  go_wp2_with fail
  go_ret
  all_goals simp

/-- a float that is a part of a number -/
def wb (x : Nat) : Bool := lo x && hi x && tr x && !(zz x && decide (9223372036854775808 ≤ x))
theorem wb_iff {x : Nat} (hx : x < 18446744073709551616) : wb x = true ↔ Whole x := by
  rw [whole_iff hx, wb]
  simp only [Bool.and_eq_true, Bool.not_eq_true', Bool.and_eq_false_iff, decide_eq_false_iff_not]
  constructor
  · rintro ⟨⟨⟨h1, h2⟩, h3⟩, h4⟩
    refine ⟨h1, h2, h3, fun ⟨h5, h6⟩ => ?_⟩
    rcases h4 with h4 | h4
    · rw [h5] at h4; cases h4
    · exact h4 h6
  · rintro ⟨h1, h2, h3, h4⟩
    refine ⟨⟨⟨h1, h2⟩, h3⟩, ?_⟩
    cases hz : zz x
    · exact .inl rfl
    · exact .inr fun h => h4 ⟨hz, h⟩

theorem bool_ret {a b : Bool} (h : a = b) : Ending.returned (.bool a) = .returned (.bool b) := by rw [h]
theorem or_beq {o : Option Ordering} : (o = some .lt ∨ o = some .eq) ↔ (o == some .lt || o == some .eq) = true := by simp
theorem lo_yes {x : Nat} (h : FloatKind.f64.format.order 13920626448202203136 x = some .lt ∨ FloatKind.f64.format.order 13920626448202203136 x = some .eq) : lo x = true := or_beq.1 h
theorem hi_yes {x : Nat} (h : FloatKind.f64.format.order x 4697254411347427328 = some .lt ∨ FloatKind.f64.format.order x 4697254411347427328 = some .eq) : hi x = true := or_beq.1 h
theorem lo_no {x : Nat} (h : ¬ (FloatKind.f64.format.order 13920626448202203136 x = some .lt ∨ FloatKind.f64.format.order 13920626448202203136 x = some .eq)) : lo x = false := Bool.eq_false_iff.2 fun e => h (or_beq.2 e)
theorem hi_no {x : Nat} (h : ¬ (FloatKind.f64.format.order x 4697254411347427328 = some .lt ∨ FloatKind.f64.format.order x 4697254411347427328 = some .eq)) : hi x = false := Bool.eq_false_iff.2 fun e => h (or_beq.2 e)
theorem zz_yes {x : Nat} (h : FloatKind.f64.format.order x 0 = some .eq) : zz x = true := by
  show (FloatKind.f64.format.order x 0 == some .eq) = true
  rw [h]; rfl
theorem zz_no {x : Nat} (h : ¬ FloatKind.f64.format.order x 0 = some .eq) : zz x = false := by
  show (FloatKind.f64.format.order x 0 == some .eq) = false
  rw [beq_eq_false_iff_ne]; exact h
theorem tr_yes {x : Nat} (h : FloatKind.f64.format.order x (tz x) = some .eq) : tr x = true := by
  show (FloatKind.f64.format.order x (tz x) == some .eq) = true
  rw [h]; rfl
theorem tr_no {x : Nat} (h : ¬ FloatKind.f64.format.order x (tz x) = some .eq) : tr x = false := by
  show (FloatKind.f64.format.order x (tz x) == some .eq) = false
  rw [beq_eq_false_iff_ne]; exact h

set_option maxRecDepth 100000 in
theorem whole_any (x : Nat) (w : World) (hx : x < 18446744073709551616) :
    Calls Try.prog 75 #[.float .f64 x] w fun e w' => e = .returned (.bool (wb x)) ∧ w = w' := by
  have HX := Lib.hid (signbit_any x w hx)
  have HT := Lib.hid (fun h => trunc_any x w h)
  have HF := Lib.hid (fun h1 h2 => fin_of (x := x) h1 h2)
  clear hx
  go_enter Try.func75, Try.ntmps75
  go_wp2_with fail
  all_goals first
    | (refine HX.out.mono ?_; rintro e w1 ⟨rfl, rfl⟩; go_wp2_with fail)
    | skip
  all_goals first
    | (refine (HT.out (HF.out (lo_yes (by assumption)) (hi_yes (by assumption)))).mono ?_; rintro e w1 ⟨rfl, rfl⟩; go_wp2_with fail)
    | skip
  all_goals clear HX HT HF
  all_goals go_ret
  all_goals refine ⟨bool_ret ?_, rfl⟩
  · show (lo x && hi x && !decide (9223372036854775808 ≤ x)) = wb x
    rw [wb, tr_yes (by assumption), zz_yes (by assumption)]; simp
  · rw [wb, tr_no (by assumption)]; simp
  · rw [wb, hi_no (by assumption)]; simp
  · rw [wb, lo_no (by assumption)]; simp
  · show (lo x && hi x) = wb x
    rw [wb, tr_yes (by assumption), zz_no (by assumption)]; simp
  · rw [wb, tr_no (by assumption)]; simp
  · rw [wb, hi_no (by assumption)]; simp
  · rw [wb, lo_no (by assumption)]; simp

set_option maxRecDepth 100000 in
/-- a number is handed back -/
theorem checked_yes (x y : Nat) (w : World) (hx : x < 18446744073709551616) (hy : y < 18446744073709551616) (h1 : wb x = true) (h2 : wb y = true) :
    Calls Try.prog 69 #[.complex .f64 x y] w fun e w' => e = .returned (.tuple #[.complex .f64 x y, .int .i64 0]) ∧ w = w' := by
  have HX := Lib.hid (whole_any x w hx)
  have HY := Lib.hid (whole_any y w hy)
  rw [h1] at HX
  rw [h2] at HY
  clear hx hy h1 h2
  go_enter Try.func69, Try.ntmps69
  go_wp2_with fail
  refine HX.out.mono ?_; rintro e w1 ⟨rfl, rfl⟩; go_wp2_with fail
  refine HY.out.mono ?_; rintro e w1 ⟨rfl, rfl⟩; go_wp2_with fail
  go_ret2
  all_goals simp
set_option maxRecDepth 100000 in
/-- what is none isn't -/
theorem checked_no (x y : Nat) (w : World) (hx : x < 18446744073709551616) (hy : y < 18446744073709551616) (h : wb x = false ∨ wb y = false) :
    Calls Try.prog 69 #[.complex .f64 x y] w fun e w' => e = .returned (.tuple #[.complex .f64 0 0, .int .i64 17]) ∧ w = w' := by
  have HX := Lib.hid (whole_any x w hx)
  have HY := Lib.hid (whole_any y w hy)
  clear hx hy
  cases h1 : wb x
  · rw [h1] at HX
    clear h h1
    go_enter Try.func69, Try.ntmps69
    go_wp2_with fail
    refine HX.out.mono ?_; rintro e w1 ⟨rfl, rfl⟩; go_wp2_with fail
    go_ret2
    all_goals simp
  · rw [h1] at HX h
    rw [show wb y = false from by simpa using h] at HY
    clear h h1
    go_enter Try.func69, Try.ntmps69
    go_wp2_with fail
    refine HX.out.mono ?_; rintro e w1 ⟨rfl, rfl⟩; go_wp2_with fail
    refine HY.out.mono ?_; rintro e w1 ⟨rfl, rfl⟩; go_wp2_with fail
    go_ret2
    all_goals simp
end Go.Proofs.Ytngjpgdgipmieaa
