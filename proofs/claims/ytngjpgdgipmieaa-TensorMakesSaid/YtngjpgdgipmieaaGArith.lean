/- Sums, differences, products of complex numbers, as operations: of numbers, exact; of whatever else, something. -/
import Derived.Test.YtngjpgdgipmieaaGWhole
import Derived.Deep.Draws
namespace Go.Proofs.Ytngjpgdgipmieaa
open Go.RowKit M6

theorem xor_top {R : Nat} (h : R < 2 ^ 63) : R ^^^ 2 ^ 63 = 2 ^ 63 + R ∧ (2 ^ 63 + R) ^^^ 2 ^ 63 = R := by
  have e : 2 ^ 63 + R = 2 ^ 63 ||| R := by
    have := Nat.shiftLeft_add_eq_or_of_lt h 1
    rwa [Nat.one_shiftLeft] at this
  have hb : ∀ i, 63 ≤ i → R.testBit i = false := fun i hi => Nat.testBit_lt_two_pow (Nat.lt_of_lt_of_le h (Nat.pow_le_pow_right (by decide) hi))
  constructor
  · rw [e]
    refine Nat.eq_of_testBit_eq fun i => ?_
    rw [Nat.testBit_xor, Nat.testBit_or, Nat.testBit_two_pow]
    by_cases hi : 63 = i
    · subst hi; rw [hb 63 (Nat.le_refl _)]; rfl
    · simp [hi]
  · rw [e]
    refine Nat.eq_of_testBit_eq fun i => ?_
    rw [Nat.testBit_xor, Nat.testBit_or, Nat.testBit_two_pow]
    by_cases hi : 63 = i
    · subst hi; rw [hb 63 (Nat.le_refl _)]; simp
    · simp [hi]
theorem D_neg {x : Nat} {n : Int} (h : D x n) (hn : n.natAbs < 9007199254740992) : D (Op.negFloat .f64 x) (-n) := by
  obtain ⟨s, rfl, hs⟩ := h
  have hR : rg Ieee.double 1074 n.natAbs < 2 ^ 63 := rg_sw goodD (by rw [two53]; exact hn)
  obtain ⟨h1, h2⟩ := xor_top hR
  refine ⟨!s, ?_, fun h0 => ?_⟩
  · rw [Int.natAbs_neg]
    show (Ieee.double.word s _) ^^^ 2 ^ 63 = _
    unfold Ieee.Format.word
    rw [show Ieee.double.signWeight = 2 ^ 63 from rfl]
    cases s
    · exact h1
    · exact h2
  · rw [hs (by omega)]
    by_cases h : n < 0
    · rw [decide_eq_true h, decide_eq_false (by omega)]; rfl
    · rw [decide_eq_false h, decide_eq_true (by omega)]; rfl

section
variable {P : Program} (w : World)
theorem run_arith_any (op : BinOp) (hop : op = .add ∨ op = .sub ∨ op = .mul) (x y : Nat) : ∃ r n, (Op.Complex.arith op .f64 x y).run P w = .ok r (w.drewN n) := by
  rcases hop with rfl | rfl | rfl
  · cases h : FloatKind.f64.format.add x y with
    | none => exact ⟨_, 1, by simp [Op.Complex.arith, Op.floatArith, h, Question.forced]; exact ⟨rfl, rfl⟩⟩
    | some r => exact ⟨r, 0, by simp [Op.Complex.arith, Op.floatArith, h]; rfl⟩
  · cases h : FloatKind.f64.format.sub x y with
    | none => exact ⟨_, 1, by simp [Op.Complex.arith, Op.floatArith, h, Question.forced]; exact ⟨rfl, rfl⟩⟩
    | some r => exact ⟨r, 0, by simp [Op.Complex.arith, Op.floatArith, h]; rfl⟩
  · cases h : FloatKind.f64.format.mul x y with
    | none => exact ⟨_, 1, by simp [Op.Complex.arith, Op.floatArith, h, Question.forced]; exact ⟨rfl, rfl⟩⟩
    | some r => exact ⟨r, 0, by simp [Op.Complex.arith, Op.floatArith, h]; rfl⟩
theorem run_complex_any (op : BinOp) (hop : op = .add ∨ op = .sub ∨ op = .mul) (t : TypeId) (a b c d : Nat) : ∃ re im n, (binOp op t (.complex .f64 a b) (.complex .f64 c d)).run P w = .ok (.complex .f64 re im) (w.drewN n) := by
  rcases hop with rfl | rfl | rfl
  · obtain ⟨r, n, h1⟩ := run_arith_any (P := P) w .add (.inl rfl) a c
    obtain ⟨r2, n2, h2⟩ := run_arith_any (P := P) (w.drewN n) .add (.inl rfl) b d
    exact ⟨r, r2, n + n2, by simp [binOp, Op.complexOp, h1, h2]⟩
  · obtain ⟨r, n, h1⟩ := run_arith_any (P := P) w .sub (.inr (.inl rfl)) a c
    obtain ⟨r2, n2, h2⟩ := run_arith_any (P := P) (w.drewN n) .sub (.inr (.inl rfl)) b d
    exact ⟨r, r2, n + n2, by simp [binOp, Op.complexOp, h1, h2]⟩
  · have hm : BinOp.mul = .add ∨ BinOp.mul = .sub ∨ BinOp.mul = .mul := .inr (.inr rfl)
    obtain ⟨r1, n1, h1⟩ := run_arith_any (P := P) w .mul hm a c
    obtain ⟨r2, n2, h2⟩ := run_arith_any (P := P) (w.drewN n1) .mul hm b d
    obtain ⟨r3, n3, h3⟩ := run_arith_any (P := P) ((w.drewN n1).drewN n2) .sub (.inr (.inl rfl)) r1 r2
    obtain ⟨r4, n4, h4⟩ := run_arith_any (P := P) (((w.drewN n1).drewN n2).drewN n3) .mul hm a d
    obtain ⟨r5, n5, h5⟩ := run_arith_any (P := P) ((((w.drewN n1).drewN n2).drewN n3).drewN n4) .mul hm b c
    obtain ⟨r6, n6, h6⟩ := run_arith_any (P := P) (((((w.drewN n1).drewN n2).drewN n3).drewN n4).drewN n5) .add (.inl rfl) r4 r5
    refine ⟨r3, r6, n1 + n2 + n3 + n4 + n5 + n6, ?_⟩
    simp only [World.drewN_drewN] at h1 h2 h3 h4 h5 h6
    simp [binOp, Op.complexOp, Op.Complex.conv, Op.Complex.product, Op.Complex.mul, Op.Complex.sub, Op.Complex.add, h1, h2, h3, h4, h5, h6]
end
theorem small_mul {a b : Int} (ha : a.natAbs ≤ 1048576) (hb : b.natAbs ≤ 1048576) : (a * b).natAbs ≤ 1099511627776 := by
  rw [Int.natAbs_mul]
  exact Nat.mul_le_mul ha hb
section
variable {P : Program} (w : World) (t : TypeId) {x1 y1 x2 y2 : Nat} {a b c d : Int}
theorem D_add {x y : Nat} {m n : Int} (h : D x m) (h2 : D y n) (hm : m.natAbs ≤ 2199023255552) (hn : n.natAbs ≤ 2199023255552) : ∃ r, floatBits .add .f64 x y = some r ∧ D r (m + n) :=
  Num.add goodD h h2 (by rw [two53]; omega) (by rw [two53]; omega) (by rw [two53]; omega)
theorem D_sub {x y : Nat} {m n : Int} (h : D x m) (h2 : D y n) (hm : m.natAbs ≤ 2199023255552) (hn : n.natAbs ≤ 2199023255552) : ∃ r, floatBits .sub .f64 x y = some r ∧ D r (m - n) :=
  Num.sub goodD h h2 (by rw [two53]; omega) (by rw [two53]; omega) (by rw [two53]; omega)
theorem D_mul {x y : Nat} {m n : Int} (h : D x m) (h2 : D y n) (hm : m.natAbs ≤ 1048576) (hn : n.natAbs ≤ 1048576) : ∃ r, floatBits .mul .f64 x y = some r ∧ D r (m * n) := by
  have := small_mul hm hn
  exact Num.mul goodD h h2 (by rw [two53]; omega) (by rw [two53]; omega) (by rw [two53]; omega)
variable (h1 : D x1 a) (h2 : D y1 b) (h3 : D x2 c) (h4 : D y2 d) (ha : a.natAbs ≤ 1048576) (hb : b.natAbs ≤ 1048576) (hc : c.natAbs ≤ 1048576) (hd : d.natAbs ≤ 1048576)
include h1 h2 h3 h4 ha hb hc hd
theorem run_add_D : ∃ re im, (binOp .add t (.complex .f64 x1 y1) (.complex .f64 x2 y2)).run P w = .ok (.complex .f64 re im) w ∧ D re (a + c) ∧ D im (b + d) := by
  obtain ⟨r, e, hr⟩ := D_add h1 h3 (by omega) (by omega)
  obtain ⟨s, e2, hs⟩ := D_add h2 h4 (by omega) (by omega)
  exact ⟨r, s, run_complex_sum w .add (.inl rfl) t .f64 _ _ _ _ _ _ (by simp [cSumBits, e, e2]), hr, hs⟩
theorem run_sub_D : ∃ re im, (binOp .sub t (.complex .f64 x1 y1) (.complex .f64 x2 y2)).run P w = .ok (.complex .f64 re im) w ∧ D re (a - c) ∧ D im (b - d) := by
  obtain ⟨r, e, hr⟩ := D_sub h1 h3 (by omega) (by omega)
  obtain ⟨s, e2, hs⟩ := D_sub h2 h4 (by omega) (by omega)
  exact ⟨r, s, run_complex_sum w .sub (.inr rfl) t .f64 _ _ _ _ _ _ (by simp [cSumBits, e, e2]), hr, hs⟩
theorem run_mul_D : ∃ re im, (binOp .mul t (.complex .f64 x1 y1) (.complex .f64 x2 y2)).run P w = .ok (.complex .f64 re im) w ∧ D re (a * c - b * d) ∧ D im (a * d + b * c) := by
  obtain ⟨ac, e1, k1⟩ := D_mul h1 h3 ha hc
  obtain ⟨bd, e2, k2⟩ := D_mul h2 h4 hb hd
  obtain ⟨ad, e3, k3⟩ := D_mul h1 h4 ha hd
  obtain ⟨bc, e4, k4⟩ := D_mul h2 h3 hb hc
  have m1 := small_mul ha hc
  have m2 := small_mul hb hd
  have m3 := small_mul ha hd
  have m4 := small_mul hb hc
  obtain ⟨r, e5, k5⟩ := D_sub k1 k2 (by omega) (by omega)
  obtain ⟨s, e6, k6⟩ := D_add k3 k4 (by omega) (by omega)
  exact ⟨r, s, run_complex_mul w t _ _ _ _ _ _ (by simp [cMulBits, e1, e2, e3, e4, e5, e6]), k5, k6⟩
end
end Go.Proofs.Ytngjpgdgipmieaa
