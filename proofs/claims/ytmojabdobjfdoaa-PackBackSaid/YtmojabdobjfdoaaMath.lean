/- Plain numbers of layer 1: the least writing, its length, reading and zigzag, as functions on lists of bytes. No program is imported. -/
import Derived.Lib.Hide
import Derived.Laws.BitsAllLaws
import Derived.IntWalk
namespace Go.Proofs.Ytmojabdobjfdoaa.M1

/-- The least writing, with fuel. -/
def putN : Nat → Nat → List UInt8
  | 0, _ => []
  | k + 1, v => if v < 128 then [UInt8.ofNat v] else UInt8.ofNat (v % 128 + 128) :: putN k (v / 128)
def sizeN : Nat → Nat → Nat
  | 0, _ => 0
  | k + 1, v => if v < 128 then 1 else sizeN k (v / 128) + 1
/-- v < 128^k -/
def Fits (k v : Nat) : Prop := v < 128 ^ k
/-- v fits 64 bits -/
def Fits64 (v : Nat) : Prop := v < 18446744073709551616
theorem fits_div {k v : Nat} (h : Fits (k + 1) v) : Fits k (v / 128) := by
  unfold Fits at *; rw [Nat.pow_succ] at h; omega
theorem fits_zero {v : Nat} (h : Fits 0 v) : v = 0 := by unfold Fits at h; omega
theorem fits_one {v : Nat} (h : Fits 1 v) : v < 128 := by unfold Fits at h; omega
theorem fits_of64 {v : Nat} (h : Fits64 v) : Fits 10 v := by unfold Fits; unfold Fits64 at h; omega
theorem fits_mono {k n v : Nat} (h : Fits k v) (hn : k + n = 10) : Fits 10 v := by
  unfold Fits at *
  exact Nat.lt_of_lt_of_le h (Nat.pow_le_pow_right (by omega) (by omega))
theorem fits_le {k v : Nat} (h : Fits k v) (hk : k ≤ 10) : Fits 10 v := fits_mono h (n := 10 - k) (by omega)
theorem sizeN_len (k v : Nat) : (putN k v).length = sizeN k v := by
  induction k generalizing v with
  | zero => rfl
  | succ k ih => unfold putN sizeN; split <;> simp [ih]
theorem sizeN_le (k v : Nat) : sizeN k v ≤ k := by
  induction k generalizing v with
  | zero => simp [sizeN]
  | succ k ih => unfold sizeN; split <;> simp; exact ih _
theorem wrap_div {x : Nat} (h : Fits 10 x) : IntKind.u64.wrap ((x : Int) / 128) = ((x / 128 : Nat) : Int) := by
  unfold Fits at h
  rw [IntWalk.u64_in _ (by omega)]; omega
theorem sizeN_lo {k x : Nat} (hk : 0 < k) (h : x < 128) : sizeN k x = 1 := by
  obtain ⟨j, rfl⟩ : ∃ j, k = j + 1 := ⟨k - 1, by omega⟩
  simp [sizeN, h]
theorem sizeN_hi {k x : Nat} (hk : 0 < k) (hx : 128 ≤ x) (hf : Fits k x) : ∃ j, k = j + 1 ∧ 0 < j ∧ sizeN k x = sizeN j (x / 128) + 1 ∧ Fits j (x / 128) := by
  obtain ⟨j, rfl⟩ : ∃ j, k = j + 1 := ⟨k - 1, by omega⟩
  refine ⟨j, rfl, ?_, by simp [sizeN, Nat.not_lt.2 hx], fits_div hf⟩
  rcases Nat.eq_zero_or_pos j with rfl | h
  · have := fits_one hf; omega
  · exact h
theorem putN_lo {k x : Nat} (hk : 0 < k) (h : x < 128) : putN k x = [UInt8.ofNat x] := by
  obtain ⟨j, rfl⟩ : ∃ j, k = j + 1 := ⟨k - 1, by omega⟩
  simp [putN, h]
theorem putN_hi {k x : Nat} (hk : 0 < k) (hx : 128 ≤ x) (hf : Fits k x) : ∃ j, k = j + 1 ∧ 0 < j ∧ putN k x = UInt8.ofNat (x % 128 + 128) :: putN j (x / 128) ∧ Fits j (x / 128) := by
  obtain ⟨j, rfl, h0, _, hf'⟩ := sizeN_hi hk hx hf
  exact ⟨j, rfl, h0, by simp [putN, Nat.not_lt.2 hx], hf'⟩

theorem put_hi {k x : Nat} (hx : 128 ≤ x) (hf : Fits (k + 1) x) : 0 < k ∧ putN (k + 1) x = UInt8.ofNat (x % 128 + 128) :: putN k (x / 128) ∧ sizeN (k + 1) x = sizeN k (x / 128) + 1 ∧ Fits k (x / 128) := by
  refine ⟨?_, by simp [putN, Nat.not_lt.2 hx], by simp [sizeN, Nat.not_lt.2 hx], fits_div hf⟩
  rcases Nat.eq_zero_or_pos k with rfl | h
  · have := fits_one hf; omega
  · exact h

/-- Reading: k bytes may still come, place i, what is left, the number so far: the number, the place behind, the error. -/
def rdL : Nat → Nat → List UInt8 → Nat → Nat × Nat × Nat
  | 0, _, _, _ => (0, 0, 2)
  | _ + 1, _, [], _ => (0, 0, 1)
  | k + 1, i, c :: l, v => if i = 9 ∧ 1 < c.toNat then (0, 0, 2) else
    if c.toNat < 128 then (v + c.toNat % 128 * 128 ^ i, i + 1, 0) else rdL k (i + 1) l (v + c.toNat % 128 * 128 ^ i)
/-- the place i of the text s, the number v so far -/
def rdS (s : ByteArray) (i v : Nat) : Nat × Nat × Nat := rdL (10 - i) i (s.data.toList.drop i) v
def rd (s : ByteArray) : Nat × Nat × Nat := rdL 10 0 s.data.toList 0
theorem rd_start (s : ByteArray) : rd s = rdS s 0 0 := by simp [rd, rdS]
theorem drop_at {s : ByteArray} {i : Nat} (h : i < s.size) : s.data.toList.drop i = s[i] :: s.data.toList.drop (i + 1) := by
  rw [List.drop_eq_getElem_cons (by simpa using h)]; rfl
theorem rdS_end {s : ByteArray} {i v : Nat} (hi : i < 10) (h : i = s.size) : rdS s i v = (0, 0, 1) := by
  obtain ⟨j, hj⟩ : ∃ j, 10 - i = j + 1 := ⟨9 - i, by omega⟩
  have : s.data.toList.drop i = [] := by apply List.drop_eq_nil_of_le; simp [h]
  rw [rdS, hj, this]; rfl
theorem rdS_long {s : ByteArray} {i v : Nat} (h : i < s.size) (h9 : i = 9) (hc : 1 < s[i].toNat) : rdS s i v = (0, 0, 2) := by
  subst h9
  rw [rdS, drop_at h]
  simp only [rdL, hc, and_self, if_true]
theorem rdS_last {s : ByteArray} {i v : Nat} (hi : i < 10) (h : i < s.size) (hno : ¬ (i = 9 ∧ 1 < s[i].toNat)) (hc : s[i].toNat < 128) :
    rdS s i v = (v + s[i].toNat % 128 * 128 ^ i, i + 1, 0) := by
  obtain ⟨j, hj⟩ : ∃ j, 10 - i = j + 1 := ⟨9 - i, by omega⟩
  rw [rdS, hj, drop_at h, rdL, if_neg hno, if_pos hc]
theorem rdS_more {s : ByteArray} {i v : Nat} (hi : i < 10) (h : i < s.size) (hno : ¬ (i = 9 ∧ 1 < s[i].toNat)) (hc : 128 ≤ s[i].toNat) :
    rdS s i v = rdS s (i + 1) (v + s[i].toNat % 128 * 128 ^ i) ∧ i + 1 < 10 := by
  have h9 : i ≠ 9 := fun h9 => hno ⟨h9, by omega⟩
  obtain ⟨j, hj⟩ : ∃ j, 10 - i = j + 1 := ⟨9 - i, by omega⟩
  refine ⟨?_, by omega⟩
  rw [rdS, hj, drop_at h, rdL, if_neg hno, if_neg (by omega), rdS, show 10 - (i + 1) = j from by omega]

/-- The unit at place i, behind a name. -/
def pw (i : Nat) : Nat := 128 ^ i
theorem pw_le {i : Nat} (h : i ≤ 9) : pw i ≤ 9223372036854775808 := by
  have : pw i ≤ 128 ^ 9 := Nat.pow_le_pow_right (by omega) h
  omega
theorem pw_succ (i : Nat) : pw (i + 1) = pw i * 128 := Nat.pow_succ _ _
/-- what a step adds stays below the next unit -/
theorem step_lt {i v c : Nat} (hv : v < pw i) : v + c % 128 * pw i < pw (i + 1) := by
  rw [pw_succ]
  have h : c % 128 + 1 ≤ 128 := by omega
  have h2 := Nat.mul_le_mul_right (pw i) h
  rw [Nat.add_mul, Nat.one_mul, Nat.mul_comm 128] at h2
  omega
theorem step_64 {i v c : Nat} (hi : i < 10) (hv : v < pw i) (hno : ¬ (i = 9 ∧ 1 < c)) : v + c % 128 * pw i < 18446744073709551616 := by
  by_cases h : i = 9
  · subst h
    have hc : c % 128 ≤ 1 := by omega
    have := Nat.mul_le_mul_right (pw 9) hc
    have := pw_le (i := 9) (by omega)
    omega
  · have := step_lt (c := c) hv
    have := pw_le (i := i + 1) (by omega)
    omega
theorem bound_mul {i c : Nat} (hi : i < 10) (hno : ¬ (i = 9 ∧ 1 < c)) : c % 128 * pw i < 18446744073709551616 := by
  have h0 : 0 < pw i := Nat.pow_pos (by omega)
  have := step_64 (v := 0) hi h0 hno
  omega
/-- the code's way: or of what is shifted -/
theorem or_step {i v c : Nat} (hi : i < 10) (hv : v < pw i) (hno : ¬ (i = 9 ∧ 1 < c)) :
    bits .or .u64 (v : Int) (IntKind.u64.wrap ((c : Int) % 128 * 2 ^ (7 * i))) = ((v + c % 128 * 128 ^ i : Nat) : Int) := by
  have e : (2 : Int) ^ (7 * i) = ((pw i : Nat) : Int) := by
    rw [pw, show (128 : Nat) = 2 ^ 7 from rfl, ← Nat.pow_mul, Int.natCast_pow]; rfl
  have hb := bound_mul (c := c) hi hno
  have e2 : ((c : Int) % 128 * ((pw i : Nat) : Int)) = ((c % 128 * pw i : Nat) : Int) := by simp
  have h64 := step_64 (c := c) hi hv hno
  rw [e, e2, IntWalk.u64_in _ (by omega), u64_or_nat _ _ (by omega) hb]
  congr 1
  rw [Nat.or_comm, pw, show (128 : Nat) ^ i = 2 ^ (7 * i) from by rw [show (128 : Nat) = 2 ^ 7 from rfl, ← Nat.pow_mul]]
  have hv' : v < 2 ^ (7 * i) := by
    have : pw i = 2 ^ (7 * i) := by rw [pw, show (128 : Nat) = 2 ^ 7 from rfl, ← Nat.pow_mul]
    omega
  have := Nat.shiftLeft_add_eq_or_of_lt hv' (c % 128)
  rw [Nat.shiftLeft_eq] at this
  omega
theorem or_step9 {v c : Nat} (hv : v < pw 9) (hno : c ≤ 1) :
    bits .or .u64 (v : Int) ((c : Int) % 128 * 9223372036854775808) = ((v + c % 128 * 128 ^ 9 : Nat) : Int) := by
  have h := or_step (c := c) (by omega) hv (by omega)
  have e : ((2 : Int) ^ (7 * 9)) = 9223372036854775808 := by decide
  rw [e, IntWalk.u64_in _ (by omega)] at h
  exact h
/-- the reference's way -/
theorem add_step {i v c : Nat} (hi : i < 10) (hv : v < pw i) (hno : ¬ (i = 9 ∧ 1 < c)) :
    IntKind.u64.wrap ((v : Int) + IntKind.u64.wrap ((c : Int) % 128 * ((pw i : Nat) : Int))) = ((v + c % 128 * 128 ^ i : Nat) : Int) := by
  have hb := bound_mul (c := c) hi hno
  have e2 : ((c : Int) % 128 * ((pw i : Nat) : Int)) = ((c % 128 * pw i : Nat) : Int) := by simp
  have h64 := step_64 (c := c) hi hv hno
  have e3 := IntWalk.u64_in ((c % 128 * pw i : Nat) : Int) (by omega)
  rw [e2, e3, IntWalk.u64_in _ (by omega)]
  simp [pw]
theorem unit_step {i : Nat} (hi : i < 9) : IntKind.u64.wrap (((pw i : Nat) : Int) * 128) = ((pw (i + 1) : Nat) : Int) := by
  have := pw_le (i := i + 1) (by omega)
  have e : ((pw i : Nat) : Int) * 128 = ((pw (i + 1) : Nat) : Int) := by rw [pw_succ]; simp
  rw [e, IntWalk.u64_in _ (by omega)]

/-- What is written is read as it was, whatever follows. -/
theorem rd_put (k : Nat) : ∀ (i v a : Nat) (t : List UInt8), k + i = 10 → 0 < k → Fits k v → v * pw i < 18446744073709551616 →
    rdL k i (putN k v ++ t) a = (a + v * pw i, i + sizeN k v, 0) := by
  induction k with
  | zero => intro i v a t _ h; omega
  | succ k ih =>
    intro i v a t hk _ hf hb
    by_cases h : v < 128
    · have hto : (UInt8.ofNat v).toNat = v := by simp; omega
      have hno : ¬ (i = 9 ∧ 1 < v) := by
        rintro ⟨rfl, h1⟩
        have h2 := Nat.mul_le_mul_right (pw 9) (show 2 ≤ v from h1)
        have : pw 9 = 9223372036854775808 := rfl
        omega
      simp only [putN, if_pos h, List.cons_append, List.nil_append, rdL, hto, if_neg hno, sizeN, Nat.mod_eq_of_lt h, pw]
    · have hto : (UInt8.ofNat (v % 128 + 128)).toNat = v % 128 + 128 := by simp; omega
      have h9 : i ≠ 9 := by
        rintro rfl
        have h2 := Nat.mul_le_mul_right (pw 9) (show 128 ≤ v from by omega)
        have : pw 9 = 9223372036854775808 := rfl
        omega
      have hk0 : 0 < k := by omega
      have e : v * pw i = v % 128 * pw i + v / 128 * pw (i + 1) := by
        have h3 : v = 128 * (v / 128) + v % 128 := (Nat.div_add_mod v 128).symm
        have h4 : v / 128 * pw (i + 1) = 128 * (v / 128) * pw i := by rw [pw_succ, Nat.mul_comm (pw i) 128, ← Nat.mul_assoc, Nat.mul_comm (v / 128) 128]
        rw [h4, ← Nat.add_mul, Nat.add_comm]
        exact congrArg (· * pw i) h3
      have hm : (v % 128 + 128) % 128 = v % 128 := by omega
      simp only [putN, if_neg h, List.cons_append, rdL, hto, hm, sizeN]
      rw [if_neg (by omega), if_neg (by omega), ih (i + 1) (v / 128) _ t (by omega) hk0 (fits_div hf) (by omega)]
      simp only [pw] at *
      rw [e]
      simp only [Prod.mk.injEq, and_true]
      omega

/-- What is read: at least as long as the least writing; just as long only if it is that. -/
theorem rd_ok (k : Nat) : ∀ (i a y n : Nat) (l : List UInt8), k + i = 10 → a < pw i → rdL k i l a = (y, n, 0) →
    ∃ m j, y = a + m * pw i ∧ n = i + j ∧ j ≤ l.length ∧ sizeN k m ≤ j ∧ (sizeN k m = j → l.take j = putN k m) ∧ y < 18446744073709551616 := by
  induction k with
  | zero => intro i a y n l _ _ h; simp [rdL] at h
  | succ k ih =>
    intro i a y n l hk ha h
    match l, h with
    | [], h => simp [rdL] at h
    | c :: l, h =>
      rw [rdL] at h
      by_cases hno : i = 9 ∧ 1 < c.toNat
      · rw [if_pos hno] at h; simp at h
      · rw [if_neg hno] at h
        by_cases hc : c.toNat < 128
        · rw [if_pos hc] at h
          simp only [Prod.mk.injEq, and_true] at h
          obtain ⟨rfl, rfl⟩ := h
          have hm : c.toNat % 128 = c.toNat := Nat.mod_eq_of_lt hc
          refine ⟨c.toNat, 1, by rw [hm, pw], rfl, by simp, by simp [sizeN, hc], ?_, step_64 (by omega) ha hno⟩
          intro _
          simp [putN, hc]
        · rw [if_neg hc] at h
          obtain ⟨m, j, h1, h2, h3, h4, h5, h6⟩ := ih (i + 1) _ y n l (by omega) (step_lt ha) h
          have hm : (c.toNat % 128 + 128 * m) / 128 = m ∧ (c.toNat % 128 + 128 * m) % 128 = c.toNat % 128 := by omega
          refine ⟨c.toNat % 128 + 128 * m, j + 1, ?_, by omega, by simp; omega, ?_, ?_, h6⟩
          · rw [h1, pw_succ, Nat.add_mul, pw]
            have : m * (128 ^ i * 128) = 128 * m * 128 ^ i := by rw [Nat.mul_comm (128 ^ i) 128, ← Nat.mul_assoc, Nat.mul_comm m 128]
            omega
          · rw [sizeN]
            split
            · omega
            · rw [hm.1]; omega
          · rw [sizeN, putN]
            split
            · intro hj
              have : j = 0 := by omega
              have hz : m = 0 := by omega
              subst hz
              -- then sizeN k 0 would be 0
              have hk0 : 0 < k := by
                rcases Nat.eq_zero_or_pos k with rfl | h0
                · exfalso; exact hno ⟨by omega, by omega⟩
                · exact h0
              have := sizeN_lo hk0 (show 0 < 128 by omega)
              omega
            · rw [hm.1, hm.2]
              intro hj
              have hc' : c.toNat < 256 := c.toNat_lt
              have e : c.toNat % 128 + 128 = c.toNat := by omega
              rw [List.take_succ_cons, h5 (by omega), e]
              simp

/-- the least writing as a text -/
def ps (v : Nat) : ByteArray := ⟨(putN 10 v).toArray⟩
theorem ps_list (v : Nat) : (ps v).data.toList = putN 10 v := rfl
theorem ps_size (v : Nat) : (ps v).size = sizeN 10 v := by rw [← sizeN_len]; rfl
theorem rd_back {v : Nat} (hv : Fits64 v) (s t : ByteArray) (h : s.data.toList = putN 10 v) : rd (s ++ t) = (v, sizeN 10 v, 0) := by
  unfold Fits64 at hv
  have e : (s ++ t).data.toList = putN 10 v ++ t.data.toList := by simp [h]
  rw [rd, e, rd_put 10 0 v 0 _ rfl (by omega) (fits_of64 hv) (by simpa [pw] using hv)]
  simp [pw]
/-- what Read answers of a text that may be read -/
theorem rd_fine {s : ByteArray} (h : (rd s).2.2 = 0) : (rd s).2.1 ≤ s.size ∧ sizeN 10 (rd s).1 ≤ (rd s).2.1 ∧ (sizeN 10 (rd s).1 = (rd s).2.1 → s.data.toList.take (rd s).2.1 = putN 10 (rd s).1) ∧ Fits64 (rd s).1 := by
  obtain ⟨y, n, e, hr⟩ : ∃ y n e, rd s = (y, n, e) := ⟨_, _, _, rfl⟩
  rw [hr] at h ⊢
  simp only at h ⊢
  subst h
  obtain ⟨m, j, h1, h2, h3, h4, h5, h6⟩ := rd_ok 10 0 0 y n _ rfl (by decide) hr
  have e1 : y = m := by simpa [pw] using h1
  have e2 : n = j := by omega
  subst e1 e2
  exact ⟨by simpa using h3, h4, h5, h6⟩
/-- zigzag -/
def zig (n : Int) : Int := if n < 0 then -2 * n - 1 else 2 * n
def unzig (v : Int) : Int := if v % 2 = 1 then -(v / 2) - 1 else v / 2
theorem unzig_zig (n : Int) : unzig (zig n) = n := by unfold unzig zig; split <;> split <;> omega
theorem zig_unzig (v : Int) (_h : 0 ≤ v) : zig (unzig v) = v := by unfold unzig zig; split <;> split <;> omega
end Go.Proofs.Ytmojabdobjfdoaa.M1
