/- Floats as whole numbers: what a word stands for, how words are ordered, when a result is exact. No program is imported. -/
import Derived.WalkKit
import Derived.WalkLawsBesides
namespace Go.Proofs.Ytldgpmnckhlbbaa
namespace M6
open Ieee
set_option linter.unusedSectionVars false

def man (f : Format) (R : Nat) : Nat := if R < f.binade then R else f.binade + R % f.binade
def ex (f : Format) (R : Nat) : Nat := R / f.binade - 1
/-- the whole number of a rung, in units of the least place -/
def val (f : Format) (R : Nat) : Nat := man f R * 2 ^ ex f R
theorem binade_pos (f : Format) : 0 < f.binade := Nat.two_pow_pos _
theorem val_step (f : Format) (R : Nat) : val f R < val f (R + 1) := by
  have hB := binade_pos f
  unfold val man ex
  generalize f.binade = B at *
  rcases Nat.lt_or_ge R B with h | h
  · rw [if_pos h, Nat.div_eq_of_lt h]
    rcases Nat.lt_or_ge (R + 1) B with h1 | h1
    · rw [if_pos h1, Nat.div_eq_of_lt h1]; simp
    · obtain rfl : R + 1 = B := by omega
      rw [if_neg (Nat.lt_irrefl _), Nat.div_self (by omega), Nat.mod_self]; simp
  · have hd := Nat.div_add_mod R B
    have hm := Nat.mod_lt R hB
    have hq : 1 ≤ R / B := (Nat.le_div_iff_mul_le hB).2 (by omega)
    generalize R / B = q at *
    generalize R % B = r at *
    rw [if_neg (by omega), if_neg (by omega)]
    have hp : 0 < 2 ^ (q - 1) := Nat.two_pow_pos _
    rcases Nat.lt_or_ge (r + 1) B with h1 | h1
    · have e1 : (R + 1) / B = q := by
        rw [← hd, Nat.add_assoc, Nat.mul_add_div hB, Nat.div_eq_of_lt h1]; omega
      have e2 : (R + 1) % B = r + 1 := by
        rw [← hd, Nat.add_assoc, Nat.mul_add_mod, Nat.mod_eq_of_lt h1]
      rw [e1, e2]
      exact Nat.mul_lt_mul_of_pos_right (by omega) hp
    · obtain rfl : r + 1 = B := by omega
      have e : R + 1 = (r + 1) * (q + 1) := by rw [Nat.mul_add, Nat.mul_one]; omega
      rw [e, Nat.mul_div_cancel_left _ hB, Nat.mul_mod_right]
      obtain ⟨j, rfl⟩ : ∃ j, q = j + 1 := ⟨q - 1, by omega⟩
      simp only [Nat.add_sub_cancel] at hp ⊢
      rw [show j + 1 = j + 1 from rfl, Nat.pow_succ]
      generalize 2 ^ j = T at *
      rw [← Nat.mul_assoc, Nat.add_zero, Nat.mul_comm _ 2, ← Nat.mul_assoc]
      exact Nat.mul_lt_mul_of_pos_right (by omega) hp
theorem val_lt {f : Format} {R S : Nat} (h : R < S) : val f R < val f S := by
  induction S with
  | zero => omega
  | succ S ih =>
    have := val_step f S
    rcases Nat.lt_or_ge R S with h1 | h1
    · exact Nat.lt_trans (ih h1) this
    · obtain rfl : R = S := by omega
      exact this
theorem val_inj {f : Format} {R S : Nat} (h : val f R = val f S) : R = S := by
  rcases Nat.lt_trichotomy R S with h1 | h1 | h1
  · have := val_lt (f := f) h1; omega
  · exact h1
  · have := val_lt (f := f) h1; omega
theorem val_zero (f : Format) : val f 0 = 0 := by
  unfold val man; rw [if_pos (binade_pos f)]; simp

theorem log2_mul_pow {a k n : Nat} (ha : a ≠ 0) (h : n = a * 2 ^ k) : n.log2 = a.log2 + k := by
  have h1 := Nat.log2_self_le ha
  have h2 := @Nat.lt_log2_self a
  have hp : 0 < 2 ^ k := Nat.two_pow_pos _
  have hn : n ≠ 0 := by
    rw [h]; exact Nat.ne_of_gt (Nat.mul_pos (Nat.pos_of_ne_zero ha) hp)
  refine (Nat.log2_eq_iff hn).2 ⟨?_, ?_⟩
  · rw [h, Nat.pow_add]; exact Nat.mul_le_mul_right _ h1
  · rw [h, Nat.add_right_comm, Nat.pow_add]; exact Nat.mul_lt_mul_of_pos_right h2 hp

/-- a whole number shifted up and cut down again -/
theorem cut_exact {neg : Bool} {n m drop : Nat} (hm : m ≠ 0) (h : n = m * 2 ^ drop) : Toward.even.cut neg n drop = m := by
  have hl := log2_mul_pow hm h
  unfold Toward.cut
  have hmin : min drop (n.log2 + 2) = drop := by omega
  have hp : 0 < 2 ^ drop := Nat.two_pow_pos _
  rw [hmin, Nat.one_shiftLeft]
  dsimp only
  rw [h, Nat.mul_div_cancel _ hp, Nat.mul_mod_left]
  simp
theorem man_log {f : Format} {R : Nat} (h : f.binade ≤ R) : (man f R).log2 = f.fractionBits := by
  have hB := binade_pos f
  have hm := Nat.mod_lt R hB
  unfold man
  rw [if_neg (by omega)]
  refine (Nat.log2_eq_iff (by omega)).2 ⟨?_, ?_⟩
  · exact Nat.le_add_right _ _
  · rw [Nat.pow_succ]
    show f.binade + R % f.binade < f.binade * 2
    omega
theorem man_small {f : Format} {R : Nat} (h : R < f.binade) (h0 : R ≠ 0) : (man f R).log2 < f.fractionBits := by
  unfold man
  rw [if_pos h]
  exact (Nat.log2_lt h0).2 h
theorem rung_of (f : Format) (R : Nat) : ex f R * f.binade + man f R = R := by
  have hB := binade_pos f
  unfold ex man
  split
  · rename_i h; rw [Nat.div_eq_of_lt h]; simp
  · rename_i h
    have hq : 1 ≤ R / f.binade := (Nat.le_div_iff_mul_le hB).2 (by omega)
    have hd := Nat.div_add_mod R f.binade
    rw [Nat.sub_mul, Nat.one_mul, Nat.mul_comm]
    have : f.binade ≤ f.binade * (R / f.binade) := Nat.le_mul_of_pos_right _ hq
    omega
theorem man_ne {f : Format} {R : Nat} (h : R ≠ 0) : man f R ≠ 0 := by
  have := binade_pos f
  unfold man; split <;> omega
/-- THE ROUNDING IS EXACT: a number that a rung stands for is written as this rung. -/
theorem nearest_exact (f : Format) (neg : Bool) (mag : Nat) (place : Int) (R p q : Nat) (hR : R < f.infRung) (h : mag * 2 ^ p = val f R * 2 ^ q) (hpq : (p : Int) - q = place - f.leastPlace) :
    f.nearest neg mag place = f.word neg R := by
  by_cases h0 : R = 0
  · subst h0
    rw [val_zero, Nat.zero_mul] at h
    have : mag = 0 := by
      rcases Nat.mul_eq_zero.1 h with h | h
      · exact h
      · exact absurd h (Nat.ne_of_gt (Nat.two_pow_pos _))
    rw [Format.nearest, if_pos this]
  · have hm0 := man_ne (f := f) h0
    have hmag : mag ≠ 0 := by
      intro e; subst e
      rw [Nat.zero_mul] at h
      have := h.symm
      unfold val at this
      have h1 : 0 < 2 ^ ex f R := Nat.two_pow_pos _
      have h2 : 0 < 2 ^ q := Nat.two_pow_pos _
      have h3 : 0 < man f R := Nat.pos_of_ne_zero hm0
      have := Nat.mul_pos (Nat.mul_pos h3 h1) h2
      omega
    have hlog : mag.log2 + p = (man f R).log2 + (ex f R + q) := by
      rw [← log2_mul_pow hmag rfl, h, val, Nat.mul_assoc, ← Nat.pow_add]
      exact log2_mul_pow hm0 rfl
    have hlast : max (place + mag.log2 - f.fractionBits) f.leastPlace = f.leastPlace + ex f R := by
      rcases Nat.lt_or_ge R f.binade with hb | hb
      · have e0 : ex f R = 0 := by unfold ex; rw [Nat.div_eq_of_lt hb]
        have := man_small hb h0
        rw [e0] at hlog ⊢
        omega
      · have := man_log hb
        rw [this] at hlog
        omega
    rw [Format.nearest, if_neg hmag]
    dsimp only
    rw [hlast]
    have hr := rung_of f R
    have hkept : Toward.even.cut neg (mag <<< (place - (f.leastPlace + ex f R)).toNat) (f.leastPlace + ex f R - place).toNat = man f R := by
      rw [val, Nat.mul_assoc, ← Nat.pow_add] at h
      rcases Nat.le_total (ex f R + q) p with hle | hle
      · obtain ⟨d, rfl⟩ := Nat.exists_eq_add_of_le hle
        have e1 : (place - (f.leastPlace + ex f R)).toNat = d := by omega
        have e2 : (f.leastPlace + ex f R - place).toNat = 0 := by omega
        rw [e1, e2, Nat.shiftLeft_eq]
        refine cut_exact hm0 ?_
        have hp : 0 < 2 ^ (ex f R + q) := Nat.two_pow_pos _
        rw [Nat.pow_add _ _ d, Nat.mul_comm (2 ^ (ex f R + q)), ← Nat.mul_assoc] at h
        rw [Nat.pow_zero, Nat.mul_one]
        exact Nat.eq_of_mul_eq_mul_right hp h
      · obtain ⟨d, hd⟩ := Nat.exists_eq_add_of_le hle
        have e1 : (place - (f.leastPlace + ex f R)).toNat = 0 := by omega
        have e2 : (f.leastPlace + ex f R - place).toNat = d := by omega
        rw [e1, e2, Nat.shiftLeft_eq]
        refine cut_exact hm0 ?_
        have hp : 0 < 2 ^ p := Nat.two_pow_pos _
        rw [hd, Nat.pow_add _ p d, Nat.mul_comm (2 ^ p), ← Nat.mul_assoc] at h
        rw [Nat.pow_zero, Nat.mul_one]
        exact Nat.eq_of_mul_eq_mul_right hp h
    rw [hkept]
    have : (f.leastPlace + ex f R - f.leastPlace).toNat = ex f R := by omega
    rw [this, hr, Nat.min_eq_left (Nat.le_of_lt hR)]

/-- a word of a number -/
def Fin (f : Format) (x : Nat) : Prop := x % f.signWeight < f.infRung
def rung (f : Format) (x : Nat) : Nat := x % f.signWeight
def sgn (f : Format) (x : Nat) : Bool := x / f.signWeight % 2 == 1
theorem read_fin {f : Format} {x : Nat} (h : Fin f x) : f.read x = .number (sgn f x) (man f (rung f x)) (f.leastPlace + (ex f (rung f x) : Nat)) := by
  unfold Fin at h
  unfold Format.read sgn man ex rung
  dsimp only
  by_cases hb : x % f.signWeight < f.binade
  · rw [if_pos hb, if_pos hb, Nat.div_eq_of_lt hb]; simp
  · rw [if_neg hb, if_pos h, if_neg hb]
/-- what it stands for, in units of the least place -/
def V (f : Format) (x : Nat) : Int := if sgn f x then -(val f (rung f x) : Int) else (val f (rung f x) : Int)
theorem signed_shift (s : Bool) (m a b : Nat) : signed s m (a + b) = signed s m a * 2 ^ b := by
  unfold signed
  simp only [Nat.shiftLeft_eq, Nat.pow_add]
  split
  · rw [← Nat.mul_assoc]; push_cast; rw [Int.neg_mul]
  · rw [← Nat.mul_assoc]; push_cast; rfl
theorem compare_scale (a b : Int) (k : Nat) : compare (a * 2 ^ k) (b * 2 ^ k) = compare a b := by
  have hp : (0 : Int) < 2 ^ k := Int.pow_pos (by decide)
  rw [Int.compare_eq_ite_lt, Int.compare_eq_ite_lt]
  simp only [Int.mul_lt_mul_right hp]
theorem V_signed {f : Format} {x : Nat} : V f x = signed (sgn f x) (man f (rung f x)) (ex f (rung f x)) := by
  unfold V signed val
  simp only [Nat.shiftLeft_eq]
theorem order_fin {f : Format} {x y : Nat} (hx : Fin f x) (hy : Fin f y) : f.order x y = some (compare (V f x) (V f y)) := by
  unfold Format.order
  rw [read_fin hx, read_fin hy, V_signed, V_signed]
  unfold Datum.order
  dsimp only
  generalize ex f (rung f x) = i
  generalize ex f (rung f y) = j
  have e1 : (f.leastPlace + (i : Int) - min (f.leastPlace + (i : Int)) (f.leastPlace + (j : Int))).toNat = i - min i j := by omega
  have e2 : (f.leastPlace + (j : Int) - min (f.leastPlace + (i : Int)) (f.leastPlace + (j : Int))).toNat = j - min i j := by omega
  rw [e1, e2]
  have r (s : Bool) (m k : Nat) (h : min i j ≤ k) : signed s m k = signed s m (k - min i j) * 2 ^ min i j := by
    rw [← signed_shift, Nat.sub_add_cancel h]
  rw [r _ _ i (Nat.min_le_left _ _), r _ _ j (Nat.min_le_right _ _), compare_scale]

theorem sw_pos (f : Format) : 0 < f.signWeight := Nat.two_pow_pos _
theorem rung_word {f : Format} {s : Bool} {R : Nat} (h : R < f.signWeight) : rung f (f.word s R) = R := by
  unfold rung Format.word
  split
  · rw [Nat.add_mod_left, Nat.mod_eq_of_lt h]
  · rw [Nat.mod_eq_of_lt h]
theorem sgn_word {f : Format} {s : Bool} {R : Nat} (h : R < f.signWeight) : sgn f (f.word s R) = s := by
  have := sw_pos f
  unfold sgn Format.word
  cases s
  · simp [Nat.div_eq_of_lt h]
  · simp only [if_true]
    rw [Nat.add_comm, Nat.add_div_right _ this, Nat.div_eq_of_lt h]; rfl
theorem word_of {f : Format} {x : Nat} (h : x < 2 ^ f.width) : f.word (sgn f x) (rung f x) = x := by
  have hp := sw_pos f
  have two : 2 ^ f.width = f.signWeight * 2 := by
    unfold Format.width Format.signWeight
    rw [Nat.add_assoc, Nat.add_comm 1, Nat.pow_succ]
  have hd := Nat.div_add_mod x f.signWeight
  have hq : x / f.signWeight < 2 := by
    rw [Nat.div_lt_iff_lt_mul hp, Nat.mul_comm, ← two]; exact h
  unfold sgn rung Format.word
  generalize x / f.signWeight = q at *
  rcases (by omega : q = 0 ∨ q = 1) with rfl | rfl
  · simp at hd ⊢; omega
  · simp at hd ⊢; omega

/-- what the two formats have in common -/
structure Good (f : Format) (L : Nat) : Prop where
  least : f.leastPlace = -(L : Int)
  frac : f.fractionBits ≤ L
  top : L + 2 < 2 ^ f.exponentBits
  pos : 0 < f.fractionBits
theorem goodD : Good double 1074 := ⟨by decide, by decide, by decide, by decide⟩
theorem goodS : Good single 149 := ⟨by decide, by decide, by decide, by decide⟩

/-- the rung of a whole number -/
def rg (f : Format) (L n : Nat) : Nat := if n = 0 then 0 else (n.log2 + L - f.fractionBits) * f.binade + n * 2 ^ (f.fractionBits - n.log2)
theorem rg_parts {f : Format} {L n : Nat} (h0 : n ≠ 0) (h : n < 2 ^ (f.fractionBits + 1)) :
    n.log2 ≤ f.fractionBits ∧ f.binade ≤ rg f L n ∧ man f (rg f L n) = n * 2 ^ (f.fractionBits - n.log2) ∧ ex f (rg f L n) = n.log2 + L - f.fractionBits := by
  have hB := binade_pos f
  have hl : n.log2 ≤ f.fractionBits := by
    have := (Nat.log2_lt h0).2 h
    omega
  have hlo : f.binade ≤ n * 2 ^ (f.fractionBits - n.log2) := by
    have h1 := Nat.log2_self_le h0
    have h2 := Nat.mul_le_mul_right (2 ^ (f.fractionBits - n.log2)) h1
    rw [← Nat.pow_add, Nat.add_sub_cancel' hl] at h2
    exact h2
  have hhi : n * 2 ^ (f.fractionBits - n.log2) < 2 * f.binade := by
    have h1 := @Nat.lt_log2_self n
    have h2 := Nat.mul_lt_mul_of_pos_right h1 (Nat.two_pow_pos (f.fractionBits - n.log2))
    rw [← Nat.pow_add, show n.log2 + 1 + (f.fractionBits - n.log2) = f.fractionBits + 1 from by omega, Nat.pow_succ, Nat.mul_comm _ 2] at h2
    exact h2
  have hr : rg f L n = (n.log2 + L - f.fractionBits) * f.binade + n * 2 ^ (f.fractionBits - n.log2) := by
    unfold rg; rw [if_neg h0]
  generalize n * 2 ^ (f.fractionBits - n.log2) = m at *
  generalize n.log2 + L - f.fractionBits = e at *
  have hbig : f.binade ≤ rg f L n := by
    rw [hr]; exact Nat.le_trans hlo (Nat.le_add_left _ _)
  obtain ⟨r, rfl⟩ := Nat.exists_eq_add_of_le hlo
  have hr1 : r < f.binade := by omega
  have hr2 : rg f L n = f.binade * (e + 1) + r := by
    rw [hr, Nat.mul_add, Nat.mul_comm e, Nat.mul_one]; omega
  refine ⟨hl, hbig, ?_, ?_⟩
  · unfold man
    rw [if_neg (by omega), hr2, Nat.mul_add_mod, Nat.mod_eq_of_lt hr1]
  · unfold ex
    rw [hr2, Nat.mul_add_div hB, Nat.div_eq_of_lt hr1]; omega
theorem val_rgE {f : Format} {L n : Nat} (hL : f.fractionBits ≤ L) (h : n < 2 ^ (f.fractionBits + 1)) : val f (rg f L n) = n * 2 ^ L := by
  by_cases h0 : n = 0
  · subst h0; unfold rg; rw [if_pos rfl, val_zero]; simp
  · obtain ⟨hl, -, hm, he⟩ := rg_parts (L := L) h0 h
    rw [val, hm, he, Nat.mul_assoc, ← Nat.pow_add]
    congr 2
    omega
theorem rg_ltE {f : Format} {L n : Nat} (h : n < 2 ^ (f.fractionBits + 1)) (ht : n.log2 + L + 3 ≤ 2 ^ f.exponentBits + f.fractionBits) (hL : f.fractionBits ≤ L) : rg f L n < f.infRung := by
  have hB := binade_pos f
  by_cases h0 : n = 0
  · subst h0; unfold rg; rw [if_pos rfl]
    unfold Format.infRung
    refine Nat.mul_pos ?_ hB
    have : 0 < f.exponentBits ∨ f.exponentBits = 0 := by omega
    rcases this with h | h
    · have := Nat.one_lt_two_pow (n := f.exponentBits) (by omega); omega
    · rw [h] at ht; simp at ht; omega
  · obtain ⟨hl, hb, hm, he⟩ := rg_parts (L := L) h0 h
    have hr := rung_of f (rg f L n)
    have hmm : man f (rg f L n) < 2 * f.binade := by
      have := Nat.mod_lt (rg f L n) hB
      unfold man
      split <;> omega
    unfold Format.infRung
    have h3 : (ex f (rg f L n) + 2) * f.binade ≤ (2 ^ f.exponentBits - 1) * f.binade := by
      refine Nat.mul_le_mul_right _ ?_
      rw [he]; omega
    rw [Nat.add_mul] at h3
    omega
section
variable {f : Format} {L : Nat} (g : Good f L)
include g
theorem val_rg {n : Nat} (h : n < 2 ^ (f.fractionBits + 1)) : val f (rg f L n) = n * 2 ^ L := val_rgE g.frac h
theorem rg_lt {n : Nat} (h : n < 2 ^ (f.fractionBits + 1)) : rg f L n < f.infRung := by
  refine rg_ltE h ?_ g.frac
  have := g.top
  have := g.frac
  by_cases h0 : n = 0
  · subst h0
    rw [show Nat.log2 0 = 0 from by decide]
    have := g.pos
    omega
  · have := (Nat.log2_lt h0).2 h
    omega
theorem rg_sw {n : Nat} (h : n < 2 ^ (f.fractionBits + 1)) : rg f L n < f.signWeight := Nat.lt_trans (rg_lt g h) f.infRung_lt
end

/-- x is the whole number n, of whichever sign 0 is -/
def Num (f : Format) (L : Nat) (x : Nat) (n : Int) : Prop := ∃ s, x = f.word s (rg f L n.natAbs) ∧ (n ≠ 0 → s = decide (n < 0))
/-- the datum is the whole number n -/
def Rep (d : Datum) (n : Int) (k : Nat) : Prop := ∃ s, d = .number s (n.natAbs * 2 ^ k) (-(k : Int)) ∧ (n ≠ 0 → s = decide (n < 0))

theorem Rep.of_int (n : Int) : Rep (.number (n < 0) n.natAbs 0) n 0 := ⟨_, by simp, fun _ => rfl⟩
theorem signed_rep {s : Bool} {n : Int} {k j : Nat} (h : n ≠ 0 → s = decide (n < 0)) : signed s (n.natAbs * 2 ^ k) j = n * 2 ^ (k + j) := by
  unfold signed
  rw [Nat.shiftLeft_eq, Nat.mul_assoc, ← Nat.pow_add]
  by_cases h0 : n = 0
  · subst h0; simp
  · rw [h h0]
    by_cases hn : n < 0
    · rw [decide_eq_true hn, if_pos rfl]; push_cast
      rw [show ((n.natAbs : Nat) : Int) = -n from by omega, Int.neg_mul, Int.neg_neg]
    · rw [decide_eq_false hn, if_neg (by simp)]; push_cast
      rw [show ((n.natAbs : Nat) : Int) = n from by omega]
theorem Rep.opposite {d : Datum} {n : Int} {k : Nat} (h : Rep d n k) : Rep d.opposite (-n) k := by
  obtain ⟨s, rfl, hs⟩ := h
  refine ⟨!s, by simp [Datum.opposite], fun h0 => ?_⟩
  rw [hs (by omega)]
  by_cases h : n < 0
  · rw [decide_eq_true h, decide_eq_false (by omega)]; rfl
  · rw [decide_eq_false h, decide_eq_true (by omega)]; rfl
theorem Rep.sum {d e : Datum} {a b : Int} {k l : Nat} (h : Rep d a k) (h2 : Rep e b l) : ∃ r, d.sum e = some r ∧ Rep r (a + b) (max k l) := by
  obtain ⟨s, rfl, hs⟩ := h
  obtain ⟨t, rfl, ht⟩ := h2
  refine ⟨_, rfl, ?_⟩
  have e1 : (-(k : Int) - min (-(k : Int)) (-(l : Int))).toNat = max k l - k := by omega
  have e2 : (-(l : Int) - min (-(k : Int)) (-(l : Int))).toNat = max k l - l := by omega
  rw [e1, e2, signed_rep hs, signed_rep ht]
  have e3 : k + (max k l - k) = max k l := by omega
  have e4 : l + (max k l - l) = max k l := by omega
  rw [e3, e4, ← Int.add_mul]
  have hp : (0 : Int) < 2 ^ max k l := Int.pow_pos (by decide)
  have e5 : min (-(k : Int)) (-(l : Int)) = -((max k l : Nat) : Int) := by omega
  rw [e5]
  generalize max k l = M at *
  refine ⟨_, by rw [Int.natAbs_mul, Int.natAbs_pow]; rfl, fun h0 => ?_⟩
  rw [if_neg (by intro h; rcases Int.mul_eq_zero.1 h with h | h <;> omega)]
  by_cases h : a + b < 0
  · rw [decide_eq_true h, decide_eq_true (Int.mul_neg_of_neg_of_pos h hp)]
  · rw [decide_eq_false h, decide_eq_false]
    have := Int.mul_nonneg (by omega : 0 ≤ a + b) (Int.le_of_lt hp)
    omega
theorem Rep.product {d e : Datum} {a b : Int} {k l : Nat} (h : Rep d a k) (h2 : Rep e b l) : ∃ r, d.product e = some r ∧ Rep r (a * b) (k + l) := by
  obtain ⟨s, rfl, hs⟩ := h
  obtain ⟨t, rfl, ht⟩ := h2
  refine ⟨_, rfl, s ^^ t, ?_, fun h0 => ?_⟩
  · congr 1
    · rw [Int.natAbs_mul, Nat.pow_add, Nat.mul_mul_mul_comm]
    · omega
  · have ha : a ≠ 0 := fun e => h0 (by rw [e]; simp)
    have hb : b ≠ 0 := fun e => h0 (by rw [e]; simp)
    rw [hs ha, ht hb]
    by_cases h1 : a < 0 <;> by_cases h2 : b < 0
    · rw [decide_eq_true h1, decide_eq_true h2, decide_eq_false]; rfl
      have := Int.mul_nonneg_of_nonpos_of_nonpos (Int.le_of_lt h1) (Int.le_of_lt h2); omega
    · rw [decide_eq_true h1, decide_eq_false h2, decide_eq_true]; rfl
      exact Int.mul_neg_of_neg_of_pos h1 (by omega)
    · rw [decide_eq_false h1, decide_eq_true h2, decide_eq_true]; rfl
      exact Int.mul_neg_of_pos_of_neg (by omega) h2
    · rw [decide_eq_false h1, decide_eq_false h2, decide_eq_false]; rfl
      have := Int.mul_nonneg (by omega : 0 ≤ a) (by omega : 0 ≤ b); omega
section
variable {f : Format} {L : Nat} (g : Good f L)
include g
theorem Rep.write {d : Datum} {n : Int} {k : Nat} (h : Rep d n k) (hn : n.natAbs < 2 ^ (f.fractionBits + 1)) : Num f L (f.write d) n := by
  obtain ⟨s, rfl, hs⟩ := h
  refine ⟨s, ?_, hs⟩
  refine nearest_exact f s _ _ _ L k (rg_lt g hn) ?_ ?_
  · rw [val_rg g hn, Nat.mul_assoc, Nat.mul_assoc, Nat.mul_comm (2 ^ k)]
  · rw [g.least]; omega
theorem Num.fin {x : Nat} {n : Int} (h : Num f L x n) (hn : n.natAbs < 2 ^ (f.fractionBits + 1)) : Fin f x := by
  obtain ⟨s, rfl, -⟩ := h
  have := rung_word (f := f) (s := s) (rg_sw g hn)
  unfold rung at this
  unfold Fin; rw [this]
  exact rg_lt g hn
theorem Num.rep {x : Nat} {n : Int} (h : Num f L x n) (hn : n.natAbs < 2 ^ (f.fractionBits + 1)) : ∃ k, Rep (f.read x) n k := by
  have hf := h.fin g hn
  obtain ⟨s, rfl, hs⟩ := h
  rw [read_fin hf, rung_word (rg_sw g hn), sgn_word (rg_sw g hn), g.least]
  by_cases h0 : n.natAbs = 0
  · refine ⟨L, s, ?_, hs⟩
    have : rg f L n.natAbs = 0 := by unfold rg; rw [if_pos h0]
    rw [this, h0]
    unfold man ex
    rw [if_pos (binade_pos f)]; simp
  · obtain ⟨hl, -, hm, he⟩ := rg_parts (L := L) h0 hn
    refine ⟨f.fractionBits - n.natAbs.log2, s, ?_, hs⟩
    rw [hm, he]
    congr 1
    have := g.frac
    omega
theorem Num.V {x : Nat} {n : Int} (h : Num f L x n) (hn : n.natAbs < 2 ^ (f.fractionBits + 1)) : V f x = n * 2 ^ L := by
  obtain ⟨s, rfl, hs⟩ := h
  unfold M6.V
  rw [rung_word (rg_sw g hn), sgn_word (rg_sw g hn), val_rg g hn]
  by_cases h0 : n = 0
  · subst h0; simp
  · rw [hs h0]
    by_cases hneg : n < 0
    · rw [decide_eq_true hneg, if_pos rfl]; push_cast
      rw [show ((n.natAbs : Nat) : Int) = -n from by omega, Int.neg_mul, Int.neg_neg]
    · rw [decide_eq_false hneg, if_neg (by simp)]; push_cast
      rw [show ((n.natAbs : Nat) : Int) = n from by omega]
/-- and back: a finite word that stands for n -/
theorem Num.of_V {x : Nat} {n : Int} (hx : x < 2 ^ f.width) (hv : M6.V f x = n * 2 ^ L) (hn : n.natAbs < 2 ^ (f.fractionBits + 1)) : Num f L x n := by
  have hp : (0 : Int) < 2 ^ L := Int.pow_pos (by decide)
  have ha : val f (rung f x) = n.natAbs * 2 ^ L := by
    have := congrArg Int.natAbs hv
    unfold M6.V at this
    rw [Int.natAbs_mul, Int.natAbs_pow] at this
    have h2 : Int.natAbs 2 = 2 := rfl
    rw [h2] at this
    rw [← this]
    split <;> omega
  have hr : rung f x = rg f L n.natAbs := val_inj (by rw [ha, val_rg g hn])
  refine ⟨sgn f x, by rw [← hr, word_of hx], fun h0 => ?_⟩
  unfold M6.V at hv
  have hpos : 0 < (val f (rung f x) : Int) := by
    rw [ha]; push_cast
    exact Int.mul_pos (by omega) hp
  cases hs : sgn f x
  · rw [hs, if_neg (by simp)] at hv
    rw [decide_eq_false]
    intro hneg
    have := Int.mul_neg_of_neg_of_pos hneg hp
    omega
  · rw [hs, if_pos rfl] at hv
    rw [decide_eq_true]
    refine Int.lt_of_not_ge fun hge => ?_
    have := Int.mul_nonneg hge (Int.le_of_lt hp)
    omega
theorem Num.order {x y : Nat} {a b : Int} (h : Num f L x a) (h2 : Num f L y b) (ha : a.natAbs < 2 ^ (f.fractionBits + 1)) (hb : b.natAbs < 2 ^ (f.fractionBits + 1)) :
    f.order x y = some (compare a b) := by
  rw [order_fin (h.fin g ha) (h2.fin g hb), h.V g ha, h2.V g hb, compare_scale]
theorem Num.add {x y : Nat} {a b : Int} (h : Num f L x a) (h2 : Num f L y b) (ha : a.natAbs < 2 ^ (f.fractionBits + 1)) (hb : b.natAbs < 2 ^ (f.fractionBits + 1)) (hc : (a + b).natAbs < 2 ^ (f.fractionBits + 1)) :
    ∃ r, f.add x y = some r ∧ Num f L r (a + b) := by
  obtain ⟨k, hk⟩ := h.rep g ha
  obtain ⟨l, hl⟩ := h2.rep g hb
  obtain ⟨d, hd, hr⟩ := hk.sum hl
  exact ⟨_, by unfold Format.add; rw [hd]; rfl, hr.write g hc⟩
theorem Num.sub {x y : Nat} {a b : Int} (h : Num f L x a) (h2 : Num f L y b) (ha : a.natAbs < 2 ^ (f.fractionBits + 1)) (hb : b.natAbs < 2 ^ (f.fractionBits + 1)) (hc : (a - b).natAbs < 2 ^ (f.fractionBits + 1)) :
    ∃ r, f.sub x y = some r ∧ Num f L r (a - b) := by
  obtain ⟨k, hk⟩ := h.rep g ha
  obtain ⟨l, hl⟩ := h2.rep g hb
  obtain ⟨d, hd, hr⟩ := hk.sum hl.opposite
  rw [← Int.sub_eq_add_neg] at hr
  exact ⟨_, by unfold Format.sub; rw [hd]; rfl, hr.write g hc⟩
theorem Num.mul {x y : Nat} {a b : Int} (h : Num f L x a) (h2 : Num f L y b) (ha : a.natAbs < 2 ^ (f.fractionBits + 1)) (hb : b.natAbs < 2 ^ (f.fractionBits + 1)) (hc : (a * b).natAbs < 2 ^ (f.fractionBits + 1)) :
    ∃ r, f.mul x y = some r ∧ Num f L r (a * b) := by
  obtain ⟨k, hk⟩ := h.rep g ha
  obtain ⟨l, hl⟩ := h2.rep g hb
  obtain ⟨d, hd, hr⟩ := hk.product hl
  exact ⟨_, by unfold Format.mul; rw [hd]; rfl, hr.write g hc⟩
end
end M6
end Go.Proofs.Ytldgpmnckhlbbaa
