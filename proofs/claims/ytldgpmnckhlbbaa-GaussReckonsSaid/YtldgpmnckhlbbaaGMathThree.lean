/- What the two formats make of each other's words; which words are parts of numbers. No program is imported. -/
import Derived.Test.YtldgpmnckhlbbaaGMathTwo
namespace Go.Proofs.Ytldgpmnckhlbbaa
namespace M6
open Ieee
set_option exponentiation.threshold 3000
theorem rung_lt63 {x : Nat} : rung double x < 9223372036854775808 := Nat.mod_lt _ (by decide)
theorem whole_iff {x : Nat} (hx : x < 18446744073709551616) : Whole x ↔ lo x = true ∧ hi x = true ∧ tr x = true ∧ ¬ (zz x = true ∧ 9223372036854775808 ≤ x) := by
  constructor
  · rintro ⟨n, hn, rfl⟩
    have h := fz_num (n := n) (by omega)
    have hf := h.fin goodD (by rw [two53]; omega)
    have hv := h.V goodD (by rw [two53]; omega)
    have h1 : lo (fz n) = true := by unfold lo; rw [D_order lo_num h (by decide) (by omega), cmp_le]; omega
    have h2 : hi (fz n) = true := by unfold hi; rw [D_order h hi_num (by omega) (by decide), cmp_le]; omega
    refine ⟨h1, h2, ?_, ?_⟩
    · obtain ⟨m, hm, hD, -, he⟩ := trunc_of h1 h2
      obtain rfl := he n hv
      unfold tr
      rw [D_order h hD (by omega) (by omega), cmp_eq]
    · rintro ⟨hz, hs⟩
      have : n = 0 := by
        unfold zz at hz
        rwa [D_order h zero_num (by omega) (by decide), cmp_eq] at hz
      subst this
      rw [fz_zero] at hs
      omega
  · rintro ⟨h1, h2, h3, h4⟩
    have hf := fin_of h1 h2
    obtain ⟨n, hn, hD, -, -⟩ := trunc_of h1 h2
    have hv : V double x = n * 2 ^ 1074 := by
      unfold tr at h3
      rw [order_fin hf (hD.fin goodD (by rw [two53]; omega)), cmp_eq] at h3
      rw [h3]
      exact hD.V goodD (by rw [two53]; omega)
    have hx' : D x n := Num.of_V goodD (by rw [wd]; exact hx) hv (by rw [two53]; omega)
    refine ⟨n, hn, ?_⟩
    by_cases h0 : n = 0
    · subst h0
      rcases D_zero hx' with rfl | rfl
      · exact fz_zero.symm
      · exact absurd ⟨(zz_fin hf).2 (by rw [hv, Int.zero_mul]), Nat.le_refl _⟩ h4
    · exact D_fz hx' h0 (by omega)

/-- the words of the lesser format and those of the greater that hold the same part of a number -/
def Wide (v r : Nat) : Prop := r < 18446744073709551616 ∧ ∀ n : Int, n.natAbs ≤ 1048576 → (r = fz n ↔ v = sz n)
theorem sz_num' {n : Int} (h : n.natAbs ≤ 1048576) : Num single 149 (sz n) n := sz_num (by omega)
theorem fz_num' {n : Int} (h : n.natAbs ≤ 1048576) : D (fz n) n := fz_num (by omega)
theorem fz_fin {n : Int} (h : n.natAbs ≤ 1048576) : Fin double (fz n) := (fz_num' h).fin goodD (by rw [two53]; omega)
theorem sz_fin {n : Int} (h : n.natAbs ≤ 1048576) : Fin single (sz n) := (sz_num' h).fin goodS (by rw [two24]; omega)
theorem wide_odd {v r : Nat} (hr : r < 18446744073709551616) (h1 : ¬ Fin single v) (h2 : ¬ Fin double r) : Wide v r :=
  ⟨hr, fun _ hn => ⟨fun e => absurd (e ▸ fz_fin hn) h2, fun e => absurd (e ▸ sz_fin hn) h1⟩⟩
theorem fz_word (n : Int) (h : n.natAbs ≤ 1048576) : fz n = double.word (decide (n < 0)) (rg double 1074 n.natAbs) := by
  by_cases h0 : n = 0
  · subst h0; rw [fz_zero]; rfl
  · obtain ⟨s, e, hs⟩ := fz_num' h
    rw [e, hs h0]
theorem sz_word (n : Int) (h : n.natAbs ≤ 1048576) : sz n = single.word (decide (n < 0)) (rg single 149 n.natAbs) := by
  by_cases h0 : n = 0
  · subst h0; rw [sz_zero]; rfl
  · obtain ⟨s, e, hs⟩ := sz_num' h
    rw [e, hs h0]
/-- the lesser format's number in the greater one -/
theorem widen {v : Nat} (hv : v < 4294967296) (hf : Fin single v) : Fin double (double.write (single.read v)) ∧ Wide v (double.write (single.read v)) := by
  have hr := read_fin hf
  rw [goodS.least] at hr
  have hw := word_of (f := single) (x := v) (by rw [ws]; exact hv)
  have hm : man single (rung single v) < 2 ^ (double.fractionBits + 1) := by
    rw [two53]
    have h1 := Nat.mod_lt (rung single v) (binade_pos single)
    have h2 : single.binade = 8388608 := by decide
    unfold man
    split <;> omega
  have he : ex single (rung single v) ≤ 253 := by
    have h1 : rung single v < 2139095040 := hf
    unfold ex
    rw [show single.binade = 8388608 from by decide]
    have := Nat.div_le_div_right (c := 8388608) (Nat.le_of_lt h1)
    omega
  have hlog : (man single (rung single v)).log2 ≤ 52 := by
    by_cases h0 : man single (rung single v) = 0
    · rw [h0]; decide
    · have := (Nat.log2_lt h0).2 hm
      have h3 : double.fractionBits = 52 := rfl
      omega
  have hval : val single (rung single v) = man single (rung single v) * 2 ^ ex single (rung single v) := rfl
  rw [hr]
  generalize man single (rung single v) = m at *
  generalize ex single (rung single v) = e at *
  have hE : double.fractionBits ≤ 925 + e := by
    have h3 : double.fractionBits = 52 := rfl
    omega
  have hR : rg double (925 + e) m < double.infRung := by
    refine rg_ltE hm ?_ hE
    have h3 : double.fractionBits = 52 := rfl
    have h4 : 2 ^ double.exponentBits = 2048 := by decide
    omega
  have hvR := val_rgE hE hm
  have hwr : double.write (.number (sgn single v) m (-((149 : Nat) : Int) + (e : Int))) = double.word (sgn single v) (rg double (925 + e) m) := by
    refine nearest_exact double _ _ _ _ (925 + e) 0 hR ?_ ?_
    · rw [hvR]; simp
    · rw [goodD.least]; omega
  rw [hwr]
  have hsw : rg double (925 + e) m < double.signWeight := Nat.lt_trans hR double.infRung_lt
  refine ⟨?_, ?_, fun n hn => ?_⟩
  · unfold Fin
    have := rung_word (s := sgn single v) hsw
    unfold rung at this
    rw [this]; exact hR
  · rw [← wd]; exact double.word_lt _ hsw
  · rw [fz_word n hn, sz_word n hn]
    have hd : rg double 1074 n.natAbs < double.signWeight := rg_sw goodD (by rw [two53]; omega)
    have hs : rg single 149 n.natAbs < single.signWeight := rg_sw goodS (by rw [two24]; omega)
    have hkey : m * 2 ^ (925 + e) = n.natAbs * 2 ^ 1074 ↔ m * 2 ^ e = n.natAbs * 2 ^ 149 := by
      have hp : 0 < 2 ^ 925 := Nat.two_pow_pos _
      rw [show (2 : Nat) ^ 1074 = 2 ^ 925 * 2 ^ 149 from by rw [← Nat.pow_add], Nat.pow_add, Nat.mul_left_comm m, Nat.mul_left_comm n.natAbs]
      exact Nat.mul_right_inj (Nat.ne_of_gt hp)
    constructor
    · intro h
      have h1 := congrArg (sgn double) h
      have h2 := congrArg (rung double) h
      rw [sgn_word hsw, sgn_word hd] at h1
      rw [rung_word hsw, rung_word hd] at h2
      have h3 := congrArg (val double) h2
      rw [hvR, val_rg goodD (by rw [two53]; omega), hkey, ← hval] at h3
      have h4 : rung single v = rg single 149 n.natAbs := val_inj (by rw [h3, val_rg goodS (by rw [two24]; omega)])
      rw [← hw, h1, h4]
    · intro h
      have h1 := congrArg (sgn single) h
      have h2 := congrArg (rung single) h
      rw [sgn_word hs] at h1
      rw [rung_word hs] at h2
      have h3 := congrArg (val single) h2
      rw [val_rg goodS (by rw [two24]; omega), hval, ← hkey, ← hvR] at h3
      have h4 : rg double (925 + e) m = rg double 1074 n.natAbs := val_inj (by rw [h3, val_rg goodD (by rw [two53]; omega)])
      rw [h1, h4]
/-- the greater format's part of a number in the lesser one -/
theorem narrow {n : Int} (hn : n.natAbs ≤ 1048576) : single.write (double.read (fz n)) = sz n := by
  by_cases h0 : n = 0
  · subst h0; decide +kernel
  · obtain ⟨k, hk⟩ := (fz_num' hn).rep goodD (by rw [two53]; omega)
    exact num_unique (hk.write goodS (by rw [two24]; omega)) (sz_num' hn) h0
theorem narrow_read {n : Int} (hn : n.natAbs ≤ 1048576) : ∃ s m e, double.read (fz n) = .number s m e ∧ (single.read (single.write (.number s m e))).isInfinity = false := by
  have h := read_fin (fz_fin hn)
  refine ⟨_, _, _, h, ?_⟩
  rw [← h, narrow hn, read_fin (sz_fin hn)]
  rfl
end M6
end Go.Proofs.Ytldgpmnckhlbbaa
