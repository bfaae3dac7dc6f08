/- The floats of layer 6: which words are parts of numbers, in both formats. No program is imported. -/
import Derived.Test.YtldgpmnckhlbbaaGMath
import Derived.Lib.Hide
namespace Go.Proofs.Ytldgpmnckhlbbaa
namespace M6
open Ieee
set_option exponentiation.threshold 3000
def fz (n : Int) : Nat := floatOfInt .f64 n
def sz (n : Int) : Nat := single.write (.number (n < 0) n.natAbs 0)
abbrev D (x : Nat) (n : Int) : Prop := Num double 1074 x n
theorem two53 : 2 ^ (double.fractionBits + 1) = 9007199254740992 := by decide
theorem two24 : 2 ^ (single.fractionBits + 1) = 16777216 := by decide
theorem fz_num {n : Int} (h : n.natAbs < 9007199254740992) : D (fz n) n := by
  have h' : n.natAbs < 2 ^ (double.fractionBits + 1) := by rw [two53]; exact h
  exact (Rep.of_int n).write goodD h'
theorem sz_num {n : Int} (h : n.natAbs < 16777216) : Num single 149 (sz n) n := by
  have h' : n.natAbs < 2 ^ (single.fractionBits + 1) := by rw [two24]; exact h
  exact (Rep.of_int n).write goodS h'
theorem rg_zero (f : Format) (L : Nat) : rg f L 0 = 0 := by unfold rg; rw [if_pos rfl]
theorem D_zero {x : Nat} (h : D x 0) : x = 0 ∨ x = 9223372036854775808 := by
  obtain ⟨s, rfl, -⟩ := h
  rw [show (0 : Int).natAbs = 0 from rfl, rg_zero]
  cases s
  · exact .inl rfl
  · exact .inr (by decide)
theorem fz_zero : fz 0 = 0 := by decide +kernel
theorem sz_zero : sz 0 = 0 := by decide +kernel
theorem num_unique {f : Format} {L x y : Nat} {n : Int} (h : Num f L x n) (h2 : Num f L y n) (h0 : n ≠ 0) : x = y := by
  obtain ⟨s, rfl, hs⟩ := h
  obtain ⟨t, rfl, ht⟩ := h2
  rw [hs h0, ht h0]
theorem D_fz {x : Nat} {n : Int} (h : D x n) (h0 : n ≠ 0) (hn : n.natAbs < 9007199254740992) : x = fz n := num_unique h (fz_num hn) h0
theorem D_order {x y : Nat} {a b : Int} (h : D x a) (h2 : D y b) (ha : a.natAbs < 9007199254740992) (hb : b.natAbs < 9007199254740992) : double.order x y = some (compare a b) :=
  Num.order goodD h h2 (by rw [two53]; exact ha) (by rw [two53]; exact hb)
theorem fz_inj {a b : Int} (ha : a.natAbs < 9007199254740992) (hb : b.natAbs < 9007199254740992) (h : fz a = fz b) : a = b := by
  have h1 := Num.V goodD (fz_num ha) (by rw [two53]; exact ha)
  have h2 := Num.V goodD (fz_num hb) (by rw [two53]; exact hb)
  rw [h, h2] at h1
  have hp : (2 : Int) ^ 1074 ≠ 0 := by decide +kernel
  exact (Int.mul_eq_mul_right_iff hp).1 h1.symm
theorem wd : 2 ^ double.width = 18446744073709551616 := by decide
theorem ws : 2 ^ single.width = 4294967296 := by decide
theorem fz_lt (n : Int) : fz n < 18446744073709551616 := by
  rw [← wd]; exact double.write_lt (.number (n < 0) n.natAbs 0)
theorem sz_lt (n : Int) : sz n < 4294967296 := by
  rw [← ws]; exact single.write_lt (.number (n < 0) n.natAbs 0)

/-- x is a part of a number -/
def Whole (x : Nat) : Prop := ∃ n : Int, n.natAbs ≤ 1048576 ∧ x = fz n
def lo (x : Nat) : Bool := double.order 13920626448202203136 x == some .lt || double.order 13920626448202203136 x == some .eq
def hi (x : Nat) : Bool := double.order x 4697254411347427328 == some .lt || double.order x 4697254411347427328 == some .eq
def zz (x : Nat) : Bool := double.order x 0 == some .eq
/-- what Trunc gives -/
def tz (x : Nat) : Nat := double.write ((double.read x).integral .zero)
def tr (x : Nat) : Bool := double.order x (tz x) == some .eq
theorem lo_num : D 13920626448202203136 (-1048576) := by
  have : fz (-1048576) = 13920626448202203136 := by decide +kernel
  exact this ▸ fz_num (by decide)
theorem hi_num : D 4697254411347427328 1048576 := by
  have : fz 1048576 = 4697254411347427328 := by decide +kernel
  exact this ▸ fz_num (by decide)
theorem zero_num : D 0 0 := fz_zero ▸ fz_num (n := 0) (by decide)
theorem read_odd {f : Format} (hB : f.binade ≤ f.infRung) {x : Nat} (h : ¬ Fin f x) : f.read x = .infinity (sgn f x) ∨ ∃ t, f.read x = .nan (sgn f x) t := by
  unfold Fin at h
  unfold Format.read sgn
  dsimp only
  rw [if_neg (by omega), if_neg h]
  split
  · exact .inl rfl
  · exact .inr ⟨_, rfl⟩
theorem oddD {x : Nat} (h : ¬ Fin double x) : double.read x = .infinity (sgn double x) ∨ ∃ t, double.read x = .nan (sgn double x) t := read_odd (by decide) h
theorem oddS {x : Nat} (h : ¬ Fin single x) : single.read x = .infinity (sgn single x) ∨ ∃ t, single.read x = .nan (sgn single x) t := read_odd (by decide) h

theorem cmp_le {a b : Int} : ((some (compare a b) == some Ordering.lt || some (compare a b) == some .eq) = true) ↔ a ≤ b := by
  rw [Int.compare_eq_ite_lt]
  split
  · simp; omega
  · split
    · simp; omega
    · simp; omega
theorem cmp_eq {a b : Int} : ((some (compare a b) == some Ordering.eq) = true) ↔ a = b := by
  rw [Int.compare_eq_ite_lt]
  split
  · simp; omega
  · split
    · simp; omega
    · simp; omega
theorem lo_fin {x : Nat} (h : Fin double x) : lo x = true ↔ -1048576 * 2 ^ 1074 ≤ V double x := by
  have h1 := lo_num.fin goodD (by decide)
  have h2 := lo_num.V goodD (by decide)
  unfold lo
  rw [order_fin h1 h, cmp_le, h2]
theorem hi_fin {x : Nat} (h : Fin double x) : hi x = true ↔ V double x ≤ 1048576 * 2 ^ 1074 := by
  have h1 := hi_num.fin goodD (by decide)
  have h2 := hi_num.V goodD (by decide)
  unfold hi
  rw [order_fin h h1, cmp_le, h2]
theorem zz_fin {x : Nat} (h : Fin double x) : zz x = true ↔ V double x = 0 := by
  have h1 := zero_num.fin goodD (by decide)
  have h2 := zero_num.V goodD (by decide)
  unfold zz
  rw [order_fin h h1, cmp_eq, h2, Int.zero_mul]
/-- within the bounds, it is a number -/
theorem fin_of {x : Nat} (h1 : lo x = true) (h2 : hi x = true) : Fin double x := by
  refine Decidable.byContradiction (p := Fin double x) (dec := by unfold Fin; infer_instance) fun h => ?_
  have e1 := read_fin (lo_num.fin goodD (by decide))
  have e2 := read_fin (hi_num.fin goodD (by decide))
  rcases oddD h with e | ⟨t, e⟩
  · unfold lo Format.order at h1
    unfold hi Format.order at h2
    rw [e1, e] at h1
    rw [e2, e] at h2
    revert h1 h2
    cases sgn double x <;> simp [Datum.order]
  · unfold lo Format.order at h1
    rw [e1, e] at h1
    simp [Datum.order] at h1

/-- what Trunc gives of a number within the bounds: the whole number below it, and when it is itself -/
theorem trunc_of {x : Nat} (h1 : lo x = true) (h2 : hi x = true) : ∃ n : Int, n.natAbs ≤ 1048576 ∧ D (tz x) n ∧ (double.read x).toInt .zero = some n ∧ ∀ k : Int, V double x = k * 2 ^ 1074 → n = k := by
  have hf := fin_of h1 h2
  have hlo := (lo_fin hf).1 h1
  have hhi := (hi_fin hf).1 h2
  obtain ⟨T, hT⟩ : ∃ T : Nat, Go.RowKit.Hid (T = 2 ^ 1074) := ⟨_, Lib.hid rfl⟩
  have hTi : Go.RowKit.Hid ((2 : Int) ^ 1074 = (T : Int)) := Lib.hid (by rw [hT.out]; exact (Int.natCast_pow 2 1074).symm)
  rw [hTi.out] at hlo hhi ⊢
  have hTp : 0 < T := by rw [hT.out]; exact Nat.two_pow_pos _
  have hv : val double (rung double x) ≤ 1048576 * T := by
    unfold V at hlo hhi
    cases hs : sgn double x
    · rw [hs, if_neg (by simp)] at hhi; omega
    · rw [hs, if_pos rfl] at hlo; omega
  have hr := read_fin hf
  rw [goodD.least] at hr
  have he : ex double (rung double x) ≤ 1074 := by
    refine Nat.le_of_not_lt fun hgt => ?_
    have hbig : 2 ^ 52 ≤ man double (rung double x) := by
      have : double.binade ≤ rung double x := by
        refine Nat.le_of_not_lt fun h => ?_
        unfold ex at hgt
        rw [Nat.div_eq_of_lt h] at hgt; omega
      unfold man
      rw [if_neg (by omega)]
      exact Nat.le_add_right _ _
    have h5 : T * 2 ≤ 2 ^ ex double (rung double x) := by
      rw [hT.out, ← Nat.pow_succ]; exact Nat.pow_le_pow_right (by decide) hgt
    have h3 : 2 ^ 52 * (T * 2) ≤ val double (rung double x) := Nat.mul_le_mul hbig h5
    omega
  unfold V
  unfold val at hv ⊢
  generalize man double (rung double x) = m at *
  generalize ex double (rung double x) = e at *
  generalize hsg : sgn double x = s at *
  obtain ⟨d, hd⟩ := Nat.exists_eq_add_of_le he
  have hcut : Toward.zero.cut s (m <<< (-((1074 : Nat) : Int) + (e : Int)).toNat) (-(-((1074 : Nat) : Int) + (e : Int))).toNat = m / 2 ^ d := by
    have i1 : (-((1074 : Nat) : Int) + (e : Int)).toNat = 0 := by omega
    have i2 : (-(-((1074 : Nat) : Int) + (e : Int))).toNat = d := by omega
    rw [i1, i2]
    unfold Toward.cut
    simp only [Nat.shiftLeft_zero, Nat.one_shiftLeft, Bool.toNat_false, Nat.add_zero]
    by_cases hm : m = 0
    · subst hm; simp
    · rcases Nat.le_total d (m.log2 + 2) with h | h
      · rw [Nat.min_eq_left h]
      · rw [Nat.min_eq_right h]
        have hl := @Nat.lt_log2_self m
        have a1 : m < 2 ^ (m.log2 + 2) := Nat.lt_of_lt_of_le hl (Nat.pow_le_pow_right (by decide) (by omega))
        have a2 : m < 2 ^ d := Nat.lt_of_lt_of_le a1 (Nat.pow_le_pow_right (by decide) h)
        rw [Nat.div_eq_of_lt a1, Nat.div_eq_of_lt a2]
  have hpd : 0 < 2 ^ d := Nat.two_pow_pos _
  have hpe : 0 < 2 ^ e := Nat.two_pow_pos _
  have hsplit : T = 2 ^ d * 2 ^ e := by rw [hT.out, hd, Nat.pow_add, Nat.mul_comm]
  clear hT hTi
  have hq : m / 2 ^ d ≤ 1048576 := by
    rw [hsplit, ← Nat.mul_assoc] at hv
    have := Nat.le_of_mul_le_mul_right hv hpe
    exact Nat.div_le_of_le_mul (by rw [Nat.mul_comm]; exact this)
  have hsig : ∀ (s : Bool) (q : Nat), ∃ n : Int, n.natAbs = q ∧ n = (if s then -(q : Int) else q) := by
    intro s q
    cases s
    · exact ⟨q, by omega, by simp⟩
    · exact ⟨-q, by omega, by simp⟩
  obtain ⟨n, hn, hns⟩ := hsig s (m / 2 ^ d)
  refine ⟨n, by omega, ?_, ?_, ?_⟩
  · unfold tz Datum.integral
    rw [hr]
    dsimp only
    rw [hcut]
    refine Rep.write (k := 0) goodD ⟨s, ?_, fun h0 => ?_⟩ (by rw [two53]; omega)
    · rw [hn]; simp
    · rw [hns]
      cases s
      · simp only [Bool.false_eq_true, if_false]
        rw [decide_eq_false]; exact Int.not_lt.2 (Int.natCast_nonneg _)
      · simp only [if_true]
        rw [hns] at h0
        simp only [if_true] at h0
        rw [decide_eq_true]; omega
  · unfold Datum.toInt Datum.integral
    rw [hr]
    dsimp only
    rw [hcut]
    congr 1
    unfold signed
    rw [hns, Nat.shiftLeft_zero]
  · intro k hk
    have hk2 : m * 2 ^ e = k.natAbs * (2 ^ d * 2 ^ e) := by
      have := congrArg Int.natAbs hk
      rw [Int.natAbs_mul, Int.natAbs_natCast, hsplit] at this
      rw [← this]
      split <;> omega
    rw [← Nat.mul_assoc] at hk2
    have hm := Nat.eq_of_mul_eq_mul_right hpe hk2
    have hmq : m / 2 ^ d = k.natAbs := by rw [hm, Nat.mul_div_cancel _ hpd]
    have hp : (0 : Int) < (T : Int) := by omega
    rw [hns, hmq]
    cases s
    · simp only [Bool.false_eq_true, if_false] at hk ⊢
      have : 0 ≤ k := by
        refine Int.le_of_not_gt fun hneg => ?_
        have h1 := Int.mul_neg_of_neg_of_pos hneg hp
        have h2 := Int.natCast_nonneg (m * 2 ^ e)
        rw [hk] at h2
        exact absurd h2 (by omega)
      omega
    · simp only [if_true] at hk ⊢
      have : k ≤ 0 := by
        refine Int.le_of_not_gt fun hpos => ?_
        have h1 := Int.mul_pos hpos hp
        have h2 := Int.neg_nonpos_of_nonneg (Int.natCast_nonneg (m * 2 ^ e))
        rw [hk] at h2
        exact absurd h2 (by omega)
      omega
end M6
end Go.Proofs.Ytldgpmnckhlbbaa
