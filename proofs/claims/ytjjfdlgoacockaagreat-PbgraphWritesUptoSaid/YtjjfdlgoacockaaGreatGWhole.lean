import Derived.Test.YtjjfdlgoacockaaGreatRows
import Derived.Test.YtjjfdlgoacockaaGreatWOpen
import Derived.Test.YtjjfdlgoacockaaGreatMath
import Derived.WalkLawsBesides
import Derived.Laws.Externs
import Derived.WalkSpells
import Derived.WalkMore
import Derived.Outline
import Derived.Deep.Draws
import Derived.Laws.BitsAllLaws
namespace Go.Proofs.YtjjfdlgoacockaaGreat
open Go.RowKit M6

theorem x_f64bits (b : Nat) (w : World) : (callFunc 216 #[.float .f64 b]).run Tryz.prog w = .ok (.value (.int .u64 b)) w := by
  rw [run_callFunc_extern Tryz.func216 (by kernel_rfl) (by kernel_rfl) (by kernel_rfl) (e := Extern.MathFloatBits.float64bits) (by kernel_rfl)]; rfl
theorem x_f32from (n : Int) (w : World) : (callFunc 190 #[.int .u32 n]).run Tryz.prog w = .ok (.value (.float .f32 n.toNat)) w := by
  rw [run_callFunc_extern Tryz.func190 (by kernel_rfl) (by kernel_rfl) (by kernel_rfl) (e := Extern.MathFloatBits.float32frombits) (by kernel_rfl)]; rfl
theorem x_trunc {x : Nat} (h : Fin Ieee.double x) (w : World) : (callFunc 217 #[.float .f64 x]).run Tryz.prog w = .ok (.value (.float .f64 (tz x))) w := by
  rw [run_callFunc_extern Tryz.func217 (by kernel_rfl) (by kernel_rfl) (by kernel_rfl) (e := Extern.MathFloor.toIntegral "math.archTrunc" .zero) (by kernel_rfl)]
  have hr := read_fin h
  have e : FloatKind.f64.decode x = .number (sgn Ieee.double x) (man Ieee.double (rung Ieee.double x)) (Ieee.double.leastPlace + (ex Ieee.double (rung Ieee.double x) : Nat)) := hr
  have ht : tz x = FloatKind.f64.encode ((FloatKind.f64.decode x).integral .zero) := rfl
  rw [ht]
  have hb : Extern.MathFloor.toIntegral "math.archTrunc" .zero #[.float .f64 x] = (match FloatKind.f64.decode x with
    | .nan s t =>
      if FloatKind.f64.format.quiet t = t then pure (.float .f64 x) else do
      let kept ← choose (.extern "math.Floor,Ceil,Trunc,RoundToEven.signallingNaN kept" 2)
      pure (.float .f64 (if kept == 1 then x else FloatKind.f64.encode (.nan s (FloatKind.f64.format.quiet t))))
    | d => pure (.float .f64 (FloatKind.f64.encode (d.integral .zero)))) := rfl
  rw [hb, e]
  rfl

set_option maxRecDepth 100000 in
theorem signbit_any (x : Nat) (w : World) (hx : x < 18446744073709551616) :
    Calls Tryz.prog 206 #[.float .f64 x] w fun e w' => e = .returned (.bool (decide (9223372036854775808 ≤ x))) ∧ w = w' := by
  have h1 := x_f64bits
  by_cases h : 9223372036854775808 ≤ x
  · have hw : IntKind.i64.wrap (x : Int) = (x : Int) - 18446744073709551616 := by simp [IntKind.wrap_i64]; omega
    have hl : (x : Int) - 18446744073709551616 < 0 := by omega
    rw [decide_eq_true h]
    go_enter Tryz.func206, Tryz.ntmps206
    go_wp2_with fail
    go_ret
    all_goals simp
  · have hw : IntKind.i64.wrap (x : Int) = (x : Int) := by simp [IntKind.wrap_i64]; omega
    have hl : ¬ (x : Int) < 0 := by omega
    rw [decide_eq_false h]
    go_enter Tryz.func206, Tryz.ntmps206
    go_wp2_with fail
    go_ret
    all_goals simp
set_option maxRecDepth 100000 in
theorem trunc_any (x : Nat) (w : World) (hx : Fin Ieee.double x) :
    Calls Tryz.prog 207 #[.float .f64 x] w fun e w' => e = .returned (.float .f64 (tz x)) ∧ w = w' := by
  have h1 := x_trunc hx
  go_enter Tryz.func207, Tryz.ntmps207
  go_wp2_with fail
  go_ret
  all_goals simp

def wb (x : Nat) : Bool := lo x && hi x && tr x && !(zz x && decide (9223372036854775808 ≤ x))
theorem wb_iff {x : Nat} (hx : x < 18446744073709551616) : wb x = true ↔ Whole x := by
  rw [whole_iff hx, wb]
  simp only [Bool.and_eq_true, Bool.not_eq_true', Bool.and_eq_false_iff, decide_eq_false_iff_not]
  constructor
  · rintro ⟨⟨⟨h1, h2⟩, h3⟩, h4⟩
    refine ⟨h1, h2, h3, fun ⟨h5, h6⟩ => ?_⟩
    rcases h4 with h4 | h4
    · rw [h5] at h4; cases h4
    · exact h4 h6
  · rintro ⟨h1, h2, h3, h4⟩
    refine ⟨⟨⟨h1, h2⟩, h3⟩, ?_⟩
    cases hz : zz x
    · exact .inl rfl
    · exact .inr fun h => h4 ⟨hz, h⟩

theorem bool_ret {a b : Bool} (h : a = b) : Ending.returned (.bool a) = .returned (.bool b) := by rw [h]
theorem or_beq {o : Option Ordering} : (o = some .lt ∨ o = some .eq) ↔ (o == some .lt || o == some .eq) = true := by simp
theorem lo_yes {x : Nat} (h : FloatKind.f64.format.order 13920626448202203136 x = some .lt ∨ FloatKind.f64.format.order 13920626448202203136 x = some .eq) : lo x = true := or_beq.1 h
theorem hi_yes {x : Nat} (h : FloatKind.f64.format.order x 4697254411347427328 = some .lt ∨ FloatKind.f64.format.order x 4697254411347427328 = some .eq) : hi x = true := or_beq.1 h
theorem lo_no {x : Nat} (h : ¬ (FloatKind.f64.format.order 13920626448202203136 x = some .lt ∨ FloatKind.f64.format.order 13920626448202203136 x = some .eq)) : lo x = false := Bool.eq_false_iff.2 fun e => h (or_beq.2 e)
theorem hi_no {x : Nat} (h : ¬ (FloatKind.f64.format.order x 4697254411347427328 = some .lt ∨ FloatKind.f64.format.order x 4697254411347427328 = some .eq)) : hi x = false := Bool.eq_false_iff.2 fun e => h (or_beq.2 e)
theorem zz_yes {x : Nat} (h : FloatKind.f64.format.order x 0 = some .eq) : zz x = true := by
  show (FloatKind.f64.format.order x 0 == some .eq) = true
  rw [h]; rfl
theorem zz_no {x : Nat} (h : ¬ FloatKind.f64.format.order x 0 = some .eq) : zz x = false := by
  show (FloatKind.f64.format.order x 0 == some .eq) = false
  rw [beq_eq_false_iff_ne]; exact h
theorem tr_yes {x : Nat} (h : FloatKind.f64.format.order x (tz x) = some .eq) : tr x = true := by
  show (FloatKind.f64.format.order x (tz x) == some .eq) = true
  rw [h]; rfl
theorem tr_no {x : Nat} (h : ¬ FloatKind.f64.format.order x (tz x) = some .eq) : tr x = false := by
  show (FloatKind.f64.format.order x (tz x) == some .eq) = false
  rw [beq_eq_false_iff_ne]; exact h

set_option maxRecDepth 100000 in
theorem whole_any (x : Nat) (w : World) (hx : x < 18446744073709551616) :
    Calls Tryz.prog 189 #[.float .f64 x] w fun e w' => e = .returned (.bool (wb x)) ∧ w = w' := by
  have HX := Lib.hid (signbit_any x w hx)
  have HT := Lib.hid (fun h => trunc_any x w h)
  have HF := Lib.hid (fun h1 h2 => fin_of (x := x) h1 h2)
  clear hx
  go_enter Tryz.func189, Tryz.ntmps189
  go_wp2_with fail
  all_goals first
    | (refine HX.out.mono ?_; rintro e w1 ⟨rfl, rfl⟩; go_wp2_with fail)
    | skip
  all_goals first
    | (refine (HT.out (HF.out (lo_yes (by assumption)) (hi_yes (by assumption)))).mono ?_; rintro e w1 ⟨rfl, rfl⟩; go_wp2_with fail)
    | skip
  all_goals clear HX HT HF
  all_goals go_ret
  all_goals refine ⟨bool_ret ?_, rfl⟩
  · show (lo x && hi x && !decide (9223372036854775808 ≤ x)) = wb x
    rw [wb, tr_yes (by assumption), zz_yes (by assumption)]; simp
  · rw [wb, tr_no (by assumption)]; simp
  · rw [wb, hi_no (by assumption)]; simp
  · rw [wb, lo_no (by assumption)]; simp
  · show (lo x && hi x) = wb x
    rw [wb, tr_yes (by assumption), zz_no (by assumption)]; simp
  · rw [wb, tr_no (by assumption)]; simp
  · rw [wb, hi_no (by assumption)]; simp
  · rw [wb, lo_no (by assumption)]; simp

set_option maxRecDepth 100000 in
theorem checked_yes (x y : Nat) (w : World) (hx : x < 18446744073709551616) (hy : y < 18446744073709551616) (h1 : wb x = true) (h2 : wb y = true) :
    Calls Tryz.prog 182 #[.complex .f64 x y] w fun e w' => e = .returned (.tuple #[.complex .f64 x y, .int .i64 0]) ∧ w = w' := by
  have HX := Lib.hid (whole_any x w hx)
  have HY := Lib.hid (whole_any y w hy)
  rw [h1] at HX
  rw [h2] at HY
  clear hx hy h1 h2
  go_enter Tryz.func182, Tryz.ntmps182
  go_wp2_with fail
  refine HX.out.mono ?_; rintro e w1 ⟨rfl, rfl⟩; go_wp2_with fail
  refine HY.out.mono ?_; rintro e w1 ⟨rfl, rfl⟩; go_wp2_with fail
  go_ret2
  all_goals simp
set_option maxRecDepth 100000 in
theorem checked_no (x y : Nat) (w : World) (hx : x < 18446744073709551616) (hy : y < 18446744073709551616) (h : wb x = false ∨ wb y = false) :
    Calls Tryz.prog 182 #[.complex .f64 x y] w fun e w' => e = .returned (.tuple #[.complex .f64 0 0, .int .i64 17]) ∧ w = w' := by
  have HX := Lib.hid (whole_any x w hx)
  have HY := Lib.hid (whole_any y w hy)
  clear hx hy
  cases h1 : wb x
  · rw [h1] at HX
    clear h h1
    go_enter Tryz.func182, Tryz.ntmps182
    go_wp2_with fail
    refine HX.out.mono ?_; rintro e w1 ⟨rfl, rfl⟩; go_wp2_with fail
    go_ret2
    all_goals simp
  · rw [h1] at HX h
    rw [show wb y = false from by simpa using h] at HY
    clear h h1
    go_enter Tryz.func182, Tryz.ntmps182
    go_wp2_with fail
    refine HX.out.mono ?_; rintro e w1 ⟨rfl, rfl⟩; go_wp2_with fail
    refine HY.out.mono ?_; rintro e w1 ⟨rfl, rfl⟩; go_wp2_with fail
    go_ret2
    all_goals simp
end Go.Proofs.YtjjfdlgoacockaaGreat
namespace Go.Proofs.YtjjfdlgoacockaaGreat
open Go.RowKit M6

section
variable {P : Program} (w : World)
theorem run_arith_any (op : BinOp) (hop : op = .add ∨ op = .sub ∨ op = .mul) (x y : Nat) : ∃ r n, (Op.Complex.arith op .f64 x y).run P w = .ok r (w.drewN n) := by
  rcases hop with rfl | rfl | rfl
  · cases h : FloatKind.f64.format.add x y with
    | none => exact ⟨_, 1, by simp [Op.Complex.arith, Op.floatArith, h, Question.forced]; exact ⟨rfl, rfl⟩⟩
    | some r => exact ⟨r, 0, by simp [Op.Complex.arith, Op.floatArith, h]; rfl⟩
  · cases h : FloatKind.f64.format.sub x y with
    | none => exact ⟨_, 1, by simp [Op.Complex.arith, Op.floatArith, h, Question.forced]; exact ⟨rfl, rfl⟩⟩
    | some r => exact ⟨r, 0, by simp [Op.Complex.arith, Op.floatArith, h]; rfl⟩
  · cases h : FloatKind.f64.format.mul x y with
    | none => exact ⟨_, 1, by simp [Op.Complex.arith, Op.floatArith, h, Question.forced]; exact ⟨rfl, rfl⟩⟩
    | some r => exact ⟨r, 0, by simp [Op.Complex.arith, Op.floatArith, h]; rfl⟩
theorem run_complex_any (op : BinOp) (hop : op = .add ∨ op = .sub ∨ op = .mul) (t : TypeId) (a b c d : Nat) : ∃ re im n, (binOp op t (.complex .f64 a b) (.complex .f64 c d)).run P w = .ok (.complex .f64 re im) (w.drewN n) := by
  rcases hop with rfl | rfl | rfl
  · obtain ⟨r, n, h1⟩ := run_arith_any (P := P) w .add (.inl rfl) a c
    obtain ⟨r2, n2, h2⟩ := run_arith_any (P := P) (w.drewN n) .add (.inl rfl) b d
    exact ⟨r, r2, n + n2, by simp [binOp, Op.complexOp, h1, h2]⟩
  · obtain ⟨r, n, h1⟩ := run_arith_any (P := P) w .sub (.inr (.inl rfl)) a c
    obtain ⟨r2, n2, h2⟩ := run_arith_any (P := P) (w.drewN n) .sub (.inr (.inl rfl)) b d
    exact ⟨r, r2, n + n2, by simp [binOp, Op.complexOp, h1, h2]⟩
  · have hm : BinOp.mul = .add ∨ BinOp.mul = .sub ∨ BinOp.mul = .mul := .inr (.inr rfl)
    obtain ⟨r1, n1, h1⟩ := run_arith_any (P := P) w .mul hm a c
    obtain ⟨r2, n2, h2⟩ := run_arith_any (P := P) (w.drewN n1) .mul hm b d
    obtain ⟨r3, n3, h3⟩ := run_arith_any (P := P) ((w.drewN n1).drewN n2) .sub (.inr (.inl rfl)) r1 r2
    obtain ⟨r4, n4, h4⟩ := run_arith_any (P := P) (((w.drewN n1).drewN n2).drewN n3) .mul hm a d
    obtain ⟨r5, n5, h5⟩ := run_arith_any (P := P) ((((w.drewN n1).drewN n2).drewN n3).drewN n4) .mul hm b c
    obtain ⟨r6, n6, h6⟩ := run_arith_any (P := P) (((((w.drewN n1).drewN n2).drewN n3).drewN n4).drewN n5) .add (.inl rfl) r4 r5
    refine ⟨r3, r6, n1 + n2 + n3 + n4 + n5 + n6, ?_⟩
    simp only [World.drewN_drewN] at h1 h2 h3 h4 h5 h6
    simp [binOp, Op.complexOp, Op.Complex.conv, Op.Complex.product, Op.Complex.mul, Op.Complex.sub, Op.Complex.add, h1, h2, h3, h4, h5, h6]
end
theorem small_mul {a b : Int} (ha : a.natAbs ≤ 1048576) (hb : b.natAbs ≤ 1048576) : (a * b).natAbs ≤ 1099511627776 := by
  rw [Int.natAbs_mul]
  exact Nat.mul_le_mul ha hb
section
variable {P : Program} (w : World) (t : TypeId) {x1 y1 x2 y2 : Nat} {a b c d : Int}
theorem D_add {x y : Nat} {m n : Int} (h : D x m) (h2 : D y n) (hm : m.natAbs ≤ 2199023255552) (hn : n.natAbs ≤ 2199023255552) : ∃ r, floatBits .add .f64 x y = some r ∧ D r (m + n) :=
  Num.add goodD h h2 (by rw [two53]; omega) (by rw [two53]; omega) (by rw [two53]; omega)
theorem D_sub {x y : Nat} {m n : Int} (h : D x m) (h2 : D y n) (hm : m.natAbs ≤ 2199023255552) (hn : n.natAbs ≤ 2199023255552) : ∃ r, floatBits .sub .f64 x y = some r ∧ D r (m - n) :=
  Num.sub goodD h h2 (by rw [two53]; omega) (by rw [two53]; omega) (by rw [two53]; omega)
theorem D_mul {x y : Nat} {m n : Int} (h : D x m) (h2 : D y n) (hm : m.natAbs ≤ 1048576) (hn : n.natAbs ≤ 1048576) : ∃ r, floatBits .mul .f64 x y = some r ∧ D r (m * n) := by
  have := small_mul hm hn
  exact Num.mul goodD h h2 (by rw [two53]; omega) (by rw [two53]; omega) (by rw [two53]; omega)
variable (h1 : D x1 a) (h2 : D y1 b) (h3 : D x2 c) (h4 : D y2 d) (ha : a.natAbs ≤ 1048576) (hb : b.natAbs ≤ 1048576) (hc : c.natAbs ≤ 1048576) (hd : d.natAbs ≤ 1048576)
include h1 h2 h3 h4 ha hb hc hd
theorem run_mul_D : ∃ re im, (binOp .mul t (.complex .f64 x1 y1) (.complex .f64 x2 y2)).run P w = .ok (.complex .f64 re im) w ∧ D re (a * c - b * d) ∧ D im (a * d + b * c) := by
  obtain ⟨ac, e1, k1⟩ := D_mul h1 h3 ha hc
  obtain ⟨bd, e2, k2⟩ := D_mul h2 h4 hb hd
  obtain ⟨ad, e3, k3⟩ := D_mul h1 h4 ha hd
  obtain ⟨bc, e4, k4⟩ := D_mul h2 h3 hb hc
  have m1 := small_mul ha hc
  have m2 := small_mul hb hd
  have m3 := small_mul ha hd
  have m4 := small_mul hb hc
  obtain ⟨r, e5, k5⟩ := D_sub k1 k2 (by omega) (by omega)
  obtain ⟨s, e6, k6⟩ := D_add k3 k4 (by omega) (by omega)
  exact ⟨r, s, run_complex_mul w t _ _ _ _ _ _ (by simp [cMulBits, e1, e2, e3, e4, e5, e6]), k5, k6⟩
end
end Go.Proofs.YtjjfdlgoacockaaGreat
namespace Go.Proofs.YtjjfdlgoacockaaGreat
open Go.RowKit M6

def pr (s : ByteArray) : Nat → Nat
  | 0 => 0
  | i + 1 => pr s i + (if h : i < s.size then s[i].toNat else 0) * 256 ^ i
theorem pr_lt (s : ByteArray) : ∀ i, pr s i < 256 ^ i
  | 0 => by simp [pr]
  | i + 1 => by
    have := pr_lt s i
    have hb : (if h : i < s.size then s[i].toNat else 0) ≤ 255 := by
      split
      · have := UInt8.toNat_lt (s[i]'(by assumption)); omega
      · omega
    have h2 := Nat.mul_le_mul_right (256 ^ i) hb
    rw [pr, Nat.pow_succ]
    omega
theorem pr_four {s : ByteArray} (hs : s.size = 4) : pr s 4 = s[0].toNat + s[1].toNat * 256 + s[2].toNat * 65536 + s[3].toNat * 16777216 := by
  have h0 : 0 < s.size := by omega
  have h1 : 1 < s.size := by omega
  have h2 : 2 < s.size := by omega
  have h3 : 3 < s.size := by omega
  simp [pr, h0, h1, h2, h3]

theorem pr_or {s : ByteArray} {k : Nat} (hk : k < 4) (h : k < s.size) :
    bits .or .u32 (pr s k : Int) ((s[k].toNat : Int) % 4294967296 * 2 ^ (8 * k) % 4294967296) = ((pr s (k + 1) : Nat) : Int) := by
  have h1 := pr_lt s k
  have h2 := pr_lt s (k + 1)
  have hb := UInt8.toNat_lt s[k]
  have hp : (256 : Nat) ^ (k + 1) ≤ 256 ^ 4 := Nat.pow_le_pow_right (by decide) (by omega)
  have h4 : (256 : Nat) ^ 4 = 4294967296 := by decide
  have e : pr s (k + 1) = pr s k + s[k].toNat * 256 ^ k := by rw [pr, dif_pos h]
  have e8 : (256 : Nat) ^ k = 2 ^ (8 * k) := by rw [show (256 : Nat) = 2 ^ 8 from rfl, ← Nat.pow_mul]
  have hm : s[k].toNat * 256 ^ k < 4294967296 := by omega
  have e3 : ((s[k].toNat : Int) % 4294967296 * 2 ^ (8 * k) % 4294967296) = ((s[k].toNat * 256 ^ k : Nat) : Int) := by
    have e5 : (2 : Int) ^ (8 * k) = ((256 ^ k : Nat) : Int) := by rw [e8, Int.natCast_pow]; rfl
    have e6 : (s[k].toNat : Int) % 4294967296 = (s[k].toNat : Int) := by omega
    rw [e5, e6, ← Int.natCast_mul]
    generalize s[k].toNat * 256 ^ k = z at *
    omega
  rw [e3, u32_or_nat _ _ (by omega) hm, e]
  congr 1
  rw [Nat.or_comm]
  have hv' : pr s k < 2 ^ (8 * k) := by rw [← e8]; exact h1
  have := Nat.shiftLeft_add_eq_or_of_lt hv' s[k].toNat
  rw [Nat.shiftLeft_eq, ← e8] at this
  omega
theorem nan_odd (a r : Nat) (ha : a < 2) (hr : r < 4503599627370495) : ¬ ((a * 2 ^ 63 + 0x7ff0000000000000 + 1 + r) % 9223372036854775808 < 9218868437227405312) := by
  rcases (by omega : a = 0 ∨ a = 1) with rfl | rfl <;> omega
open Ieee in
theorem conv_wide (v : Nat) (hv : v < 4294967296) (w : World) : ∃ r W, (convert 303 295 (.float .f32 v)).run Tryz.prog w = .ok (.float .f64 r) W ∧ Wide v r ∧ (W = w ∨ W = w.drew) := by
  have hs : (Tryz.prog.underlying 303).isSome = true := by kernel_rfl
  have hd : Tryz.prog.underlying 295 = some (.float .f64) := by kernel_rfl
  by_cases hf : v % single.signWeight < single.infRung
  · obtain ⟨h1, h2⟩ := widen hv hf
    refine ⟨_, _, run_convert_float_float w _ _ .f32 .f64 v (double.write (single.read v)) hs hd ?_, h2, .inl rfl⟩
    have hr := read_fin (f := single) hf
    have hr2 := read_fin h1
    unfold floatToFloatBits
    rw [if_neg (by decide)]
    rw [hr] at hr2 ⊢
    show (match (single.read v) with
      | .nan _ _ => none
      | .infinity s => some (double.write (.infinity s))
      | .number s m e => if (double.read (double.write (.number s m e))).isInfinity then none else some (double.write (.number s m e))) = _
    rw [hr]
    dsimp only
    rw [hr2]; rfl
  · have hf' : ¬ M6.Fin single v := hf
    rcases oddS hf' with e | ⟨t, e⟩
    · refine ⟨double.write (.infinity (sgn single v)), _, run_convert_float_float w _ _ .f32 .f64 v _ hs hd ?_, wide_odd ?_ hf' ?_, .inl rfl⟩
      · unfold floatToFloatBits
        rw [if_neg (by decide)]
        show (match (single.read v) with
          | .nan _ _ => none
          | .infinity s => some (double.write (.infinity s))
          | .number s m e => if (double.read (double.write (.number s m e))).isInfinity then none else some (double.write (.number s m e))) = _
        rw [e]
      · rw [← wd]; exact double.write_lt _
      · cases sgn single v <;> (unfold M6.Fin; decide)
    · have hdr : (convert 303 295 (.float .f32 v)).run Tryz.prog w = .ok (.float .f64 (Question.cut (.nanConv .f64 v) (w.tape w.drawn (.nanConv .f64 v)))) w.drew := by
        have hu : Tryz.prog.underlying 303 = some (.float .f32) := by kernel_rfl
        have hde : FloatKind.f32.decode v = .nan (sgn single v) t := e
        simp [convert, run_underlying hu, run_underlying hd, Conv.floatToFloat, hde, Question.forced]
      refine ⟨_, _, hdr, wide_odd ?_ hf' ?_, .inr rfl⟩
      · show _ % 2 * 2 ^ 63 + 0x7ff0000000000000 + 1 + (_ / 2) % (2 ^ 52 - 1) < _
        omega
      · unfold M6.Fin
        exact nan_odd _ _ (Nat.mod_lt _ (by decide)) (Nat.mod_lt _ (by decide))

set_option maxRecDepth 100000 in
theorem readPart_any (s : ByteArray) (w : World) (hs : s.size = 4) :
    Calls Tryz.prog 183 #[.string s] w fun e w' => ∃ r, e = .returned (.float .f64 r) ∧ Wide (pr s 4) r ∧ Below w.heap.size w w' := by
  have hx := x_f32from
  obtain ⟨r, W, hc, hwide, hW⟩ := conv_wide (pr s 4) (pr_lt s 4) w
  have HW : Hid (Below w.heap.size w W) := Lib.hid (by
    rcases hW with rfl | rfl
    · exact Below.refl _ _
    · exact (Below.refl _ _).drew)
  have HR := Lib.hid hwide
  clear hW hwide
  go_enter Tryz.func183, Tryz.ntmps183
  go_wp2_with fail
  go_loop [3, 5] (fun v i => ∃ (k : Nat) (X K : Int), v = .int .u32 X ∧ i = .int .i64 K ∧ X = pr s k ∧ K = k ∧ k ≤ 4) (fun _ i => 4 - (intOf i).toNat)
  case atStart => exact ⟨0, _, _, rfl, rfl, rfl, rfl, by omega⟩
  case round =>
    obtain ⟨k, X, K, rfl, rfl, rfl, rfl, hk⟩ := hrel
    by_cases hlt : k < 4
    · have hks : k < s.size := by omega
      go_wp2_with fail
      go_round
      case rel => exact ⟨k + 1, _, _, rfl, rfl, pr_or hlt hks, by omega, by omega⟩
      case measure => simp [intOf]; omega
    · obtain rfl : k = 4 := by omega
      go_wp2_with fail
      go_ret
      exact ⟨r, rfl, HR.out, HW.out⟩
end Go.Proofs.YtjjfdlgoacockaaGreat
