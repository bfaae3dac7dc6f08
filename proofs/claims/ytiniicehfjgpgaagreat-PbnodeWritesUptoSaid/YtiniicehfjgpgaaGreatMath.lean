/- Plain numbers of layer 1: the least writing, its length, reading and zigzag, as functions on lists of bytes. No program is imported. -/
import Derived.Lib.Hide
import Derived.Laws.BitsAllLaws
import Derived.IntWalk
import GoSem.Core.Value
import Derived.RowKit
namespace Go.Proofs.YtiniicehfjgpgaaGreat.M1

/-- The least writing, with fuel. -/
def putN : Nat → Nat → List UInt8
  | 0, _ => []
  | k + 1, v => if v < 128 then [UInt8.ofNat v] else UInt8.ofNat (v % 128 + 128) :: putN k (v / 128)
def sizeN : Nat → Nat → Nat
  | 0, _ => 0
  | k + 1, v => if v < 128 then 1 else sizeN k (v / 128) + 1
/-- v < 128^k -/
def Fits (k v : Nat) : Prop := v < 128 ^ k
/-- v fits 64 bits -/
def Fits64 (v : Nat) : Prop := v < 18446744073709551616
theorem fits_div {k v : Nat} (h : Fits (k + 1) v) : Fits k (v / 128) := by
  unfold Fits at *; rw [Nat.pow_succ] at h; omega
theorem fits_zero {v : Nat} (h : Fits 0 v) : v = 0 := by unfold Fits at h; omega
theorem fits_one {v : Nat} (h : Fits 1 v) : v < 128 := by unfold Fits at h; omega
theorem fits_of64 {v : Nat} (h : Fits64 v) : Fits 10 v := by unfold Fits; unfold Fits64 at h; omega
theorem fits_mono {k n v : Nat} (h : Fits k v) (hn : k + n = 10) : Fits 10 v := by
  unfold Fits at *
  exact Nat.lt_of_lt_of_le h (Nat.pow_le_pow_right (by omega) (by omega))
theorem fits_le {k v : Nat} (h : Fits k v) (hk : k ≤ 10) : Fits 10 v := fits_mono h (n := 10 - k) (by omega)
theorem sizeN_len (k v : Nat) : (putN k v).length = sizeN k v := by
  induction k generalizing v with
  | zero => rfl
  | succ k ih => unfold putN sizeN; split <;> simp [ih]
theorem sizeN_le (k v : Nat) : sizeN k v ≤ k := by
  induction k generalizing v with
  | zero => simp [sizeN]
  | succ k ih => unfold sizeN; split <;> simp; exact ih _
theorem wrap_div {x : Nat} (h : Fits 10 x) : IntKind.u64.wrap ((x : Int) / 128) = ((x / 128 : Nat) : Int) := by
  unfold Fits at h
  rw [IntWalk.u64_in _ (by omega)]; omega
theorem sizeN_lo {k x : Nat} (hk : 0 < k) (h : x < 128) : sizeN k x = 1 := by
  obtain ⟨j, rfl⟩ : ∃ j, k = j + 1 := ⟨k - 1, by omega⟩
  simp [sizeN, h]
theorem sizeN_hi {k x : Nat} (hk : 0 < k) (hx : 128 ≤ x) (hf : Fits k x) : ∃ j, k = j + 1 ∧ 0 < j ∧ sizeN k x = sizeN j (x / 128) + 1 ∧ Fits j (x / 128) := by
  obtain ⟨j, rfl⟩ : ∃ j, k = j + 1 := ⟨k - 1, by omega⟩
  refine ⟨j, rfl, ?_, by simp [sizeN, Nat.not_lt.2 hx], fits_div hf⟩
  rcases Nat.eq_zero_or_pos j with rfl | h
  · have := fits_one hf; omega
  · exact h
theorem putN_lo {k x : Nat} (hk : 0 < k) (h : x < 128) : putN k x = [UInt8.ofNat x] := by
  obtain ⟨j, rfl⟩ : ∃ j, k = j + 1 := ⟨k - 1, by omega⟩
  simp [putN, h]
theorem putN_hi {k x : Nat} (hk : 0 < k) (hx : 128 ≤ x) (hf : Fits k x) : ∃ j, k = j + 1 ∧ 0 < j ∧ putN k x = UInt8.ofNat (x % 128 + 128) :: putN j (x / 128) ∧ Fits j (x / 128) := by
  obtain ⟨j, rfl, h0, _, hf'⟩ := sizeN_hi hk hx hf
  exact ⟨j, rfl, h0, by simp [putN, Nat.not_lt.2 hx], hf'⟩

theorem put_hi {k x : Nat} (hx : 128 ≤ x) (hf : Fits (k + 1) x) : 0 < k ∧ putN (k + 1) x = UInt8.ofNat (x % 128 + 128) :: putN k (x / 128) ∧ sizeN (k + 1) x = sizeN k (x / 128) + 1 ∧ Fits k (x / 128) := by
  refine ⟨?_, by simp [putN, Nat.not_lt.2 hx], by simp [sizeN, Nat.not_lt.2 hx], fits_div hf⟩
  rcases Nat.eq_zero_or_pos k with rfl | h
  · have := fits_one hf; omega
  · exact h

/-- Reading: k bytes may still come, place i, what is left, the number so far: the number, the place behind, the error. -/
def rdL : Nat → Nat → List UInt8 → Nat → Nat × Nat × Nat
  | 0, _, _, _ => (0, 0, 2)
  | _ + 1, _, [], _ => (0, 0, 1)
  | k + 1, i, c :: l, v => if i = 9 ∧ 1 < c.toNat then (0, 0, 2) else
    if c.toNat < 128 then (v + c.toNat % 128 * 128 ^ i, i + 1, 0) else rdL k (i + 1) l (v + c.toNat % 128 * 128 ^ i)
/-- the place i of the text s, the number v so far -/
def rdS (s : ByteArray) (i v : Nat) : Nat × Nat × Nat := rdL (10 - i) i (s.data.toList.drop i) v
def rd (s : ByteArray) : Nat × Nat × Nat := rdL 10 0 s.data.toList 0
theorem rd_start (s : ByteArray) : rd s = rdS s 0 0 := by simp [rd, rdS]
theorem drop_at {s : ByteArray} {i : Nat} (h : i < s.size) : s.data.toList.drop i = s[i] :: s.data.toList.drop (i + 1) := by
  rw [List.drop_eq_getElem_cons (by simpa using h)]; rfl
theorem rdS_end {s : ByteArray} {i v : Nat} (hi : i < 10) (h : i = s.size) : rdS s i v = (0, 0, 1) := by
  obtain ⟨j, hj⟩ : ∃ j, 10 - i = j + 1 := ⟨9 - i, by omega⟩
  have : s.data.toList.drop i = [] := by apply List.drop_eq_nil_of_le; simp [h]
  rw [rdS, hj, this]; rfl
theorem rdS_long {s : ByteArray} {i v : Nat} (h : i < s.size) (h9 : i = 9) (hc : 1 < s[i].toNat) : rdS s i v = (0, 0, 2) := by
  subst h9
  rw [rdS, drop_at h]
  simp only [rdL, hc, and_self, if_true]
theorem rdS_last {s : ByteArray} {i v : Nat} (hi : i < 10) (h : i < s.size) (hno : ¬ (i = 9 ∧ 1 < s[i].toNat)) (hc : s[i].toNat < 128) :
    rdS s i v = (v + s[i].toNat % 128 * 128 ^ i, i + 1, 0) := by
  obtain ⟨j, hj⟩ : ∃ j, 10 - i = j + 1 := ⟨9 - i, by omega⟩
  rw [rdS, hj, drop_at h, rdL, if_neg hno, if_pos hc]
theorem rdS_more {s : ByteArray} {i v : Nat} (hi : i < 10) (h : i < s.size) (hno : ¬ (i = 9 ∧ 1 < s[i].toNat)) (hc : 128 ≤ s[i].toNat) :
    rdS s i v = rdS s (i + 1) (v + s[i].toNat % 128 * 128 ^ i) ∧ i + 1 < 10 := by
  have h9 : i ≠ 9 := fun h9 => hno ⟨h9, by omega⟩
  obtain ⟨j, hj⟩ : ∃ j, 10 - i = j + 1 := ⟨9 - i, by omega⟩
  refine ⟨?_, by omega⟩
  rw [rdS, hj, drop_at h, rdL, if_neg hno, if_neg (by omega), rdS, show 10 - (i + 1) = j from by omega]

/-- The unit at place i, behind a name. -/
def pw (i : Nat) : Nat := 128 ^ i
theorem pw_le {i : Nat} (h : i ≤ 9) : pw i ≤ 9223372036854775808 := by
  have : pw i ≤ 128 ^ 9 := Nat.pow_le_pow_right (by omega) h
  omega
theorem pw_succ (i : Nat) : pw (i + 1) = pw i * 128 := Nat.pow_succ _ _
/-- what a step adds stays below the next unit -/
theorem step_lt {i v c : Nat} (hv : v < pw i) : v + c % 128 * pw i < pw (i + 1) := by
  rw [pw_succ]
  have h : c % 128 + 1 ≤ 128 := by omega
  have h2 := Nat.mul_le_mul_right (pw i) h
  rw [Nat.add_mul, Nat.one_mul, Nat.mul_comm 128] at h2
  omega
theorem step_64 {i v c : Nat} (hi : i < 10) (hv : v < pw i) (hno : ¬ (i = 9 ∧ 1 < c)) : v + c % 128 * pw i < 18446744073709551616 := by
  by_cases h : i = 9
  · subst h
    have hc : c % 128 ≤ 1 := by omega
    have := Nat.mul_le_mul_right (pw 9) hc
    have := pw_le (i := 9) (by omega)
    omega
  · have := step_lt (c := c) hv
    have := pw_le (i := i + 1) (by omega)
    omega
theorem bound_mul {i c : Nat} (hi : i < 10) (hno : ¬ (i = 9 ∧ 1 < c)) : c % 128 * pw i < 18446744073709551616 := by
  have h0 : 0 < pw i := Nat.pow_pos (by omega)
  have := step_64 (v := 0) hi h0 hno
  omega
/-- the code's way: or of what is shifted -/
theorem or_step {i v c : Nat} (hi : i < 10) (hv : v < pw i) (hno : ¬ (i = 9 ∧ 1 < c)) :
    bits .or .u64 (v : Int) (IntKind.u64.wrap ((c : Int) % 128 * 2 ^ (7 * i))) = ((v + c % 128 * 128 ^ i : Nat) : Int) := by
  have e : (2 : Int) ^ (7 * i) = ((pw i : Nat) : Int) := by
    rw [pw, show (128 : Nat) = 2 ^ 7 from rfl, ← Nat.pow_mul, Int.natCast_pow]; rfl
  have hb := bound_mul (c := c) hi hno
  have e2 : ((c : Int) % 128 * ((pw i : Nat) : Int)) = ((c % 128 * pw i : Nat) : Int) := by simp
  have h64 := step_64 (c := c) hi hv hno
  rw [e, e2, IntWalk.u64_in _ (by omega), u64_or_nat _ _ (by omega) hb]
  congr 1
  rw [Nat.or_comm, pw, show (128 : Nat) ^ i = 2 ^ (7 * i) from by rw [show (128 : Nat) = 2 ^ 7 from rfl, ← Nat.pow_mul]]
  have hv' : v < 2 ^ (7 * i) := by
    have : pw i = 2 ^ (7 * i) := by rw [pw, show (128 : Nat) = 2 ^ 7 from rfl, ← Nat.pow_mul]
    omega
  have := Nat.shiftLeft_add_eq_or_of_lt hv' (c % 128)
  rw [Nat.shiftLeft_eq] at this
  omega
theorem or_step9 {v c : Nat} (hv : v < pw 9) (hno : c ≤ 1) :
    bits .or .u64 (v : Int) ((c : Int) % 128 * 9223372036854775808) = ((v + c % 128 * 128 ^ 9 : Nat) : Int) := by
  have h := or_step (c := c) (by omega) hv (by omega)
  have e : ((2 : Int) ^ (7 * 9)) = 9223372036854775808 := by decide
  rw [e, IntWalk.u64_in _ (by omega)] at h
  exact h
/-- the reference's way -/
theorem add_step {i v c : Nat} (hi : i < 10) (hv : v < pw i) (hno : ¬ (i = 9 ∧ 1 < c)) :
    IntKind.u64.wrap ((v : Int) + IntKind.u64.wrap ((c : Int) % 128 * ((pw i : Nat) : Int))) = ((v + c % 128 * 128 ^ i : Nat) : Int) := by
  have hb := bound_mul (c := c) hi hno
  have e2 : ((c : Int) % 128 * ((pw i : Nat) : Int)) = ((c % 128 * pw i : Nat) : Int) := by simp
  have h64 := step_64 (c := c) hi hv hno
  have e3 := IntWalk.u64_in ((c % 128 * pw i : Nat) : Int) (by omega)
  rw [e2, e3, IntWalk.u64_in _ (by omega)]
  simp [pw]
theorem unit_step {i : Nat} (hi : i < 9) : IntKind.u64.wrap (((pw i : Nat) : Int) * 128) = ((pw (i + 1) : Nat) : Int) := by
  have := pw_le (i := i + 1) (by omega)
  have e : ((pw i : Nat) : Int) * 128 = ((pw (i + 1) : Nat) : Int) := by rw [pw_succ]; simp
  rw [e, IntWalk.u64_in _ (by omega)]

/-- What is written is read as it was, whatever follows. -/
theorem rd_put (k : Nat) : ∀ (i v a : Nat) (t : List UInt8), k + i = 10 → 0 < k → Fits k v → v * pw i < 18446744073709551616 →
    rdL k i (putN k v ++ t) a = (a + v * pw i, i + sizeN k v, 0) := by
  induction k with
  | zero => intro i v a t _ h; omega
  | succ k ih =>
    intro i v a t hk _ hf hb
    by_cases h : v < 128
    · have hto : (UInt8.ofNat v).toNat = v := by simp; omega
      have hno : ¬ (i = 9 ∧ 1 < v) := by
        rintro ⟨rfl, h1⟩
        have h2 := Nat.mul_le_mul_right (pw 9) (show 2 ≤ v from h1)
        have : pw 9 = 9223372036854775808 := rfl
        omega
      simp only [putN, if_pos h, List.cons_append, List.nil_append, rdL, hto, if_neg hno, sizeN, Nat.mod_eq_of_lt h, pw]
    · have hto : (UInt8.ofNat (v % 128 + 128)).toNat = v % 128 + 128 := by simp; omega
      have h9 : i ≠ 9 := by
        rintro rfl
        have h2 := Nat.mul_le_mul_right (pw 9) (show 128 ≤ v from by omega)
        have : pw 9 = 9223372036854775808 := rfl
        omega
      have hk0 : 0 < k := by omega
      have e : v * pw i = v % 128 * pw i + v / 128 * pw (i + 1) := by
        have h3 : v = 128 * (v / 128) + v % 128 := (Nat.div_add_mod v 128).symm
        have h4 : v / 128 * pw (i + 1) = 128 * (v / 128) * pw i := by rw [pw_succ, Nat.mul_comm (pw i) 128, ← Nat.mul_assoc, Nat.mul_comm (v / 128) 128]
        rw [h4, ← Nat.add_mul, Nat.add_comm]
        exact congrArg (· * pw i) h3
      have hm : (v % 128 + 128) % 128 = v % 128 := by omega
      simp only [putN, if_neg h, List.cons_append, rdL, hto, hm, sizeN]
      rw [if_neg (by omega), if_neg (by omega), ih (i + 1) (v / 128) _ t (by omega) hk0 (fits_div hf) (by omega)]
      simp only [pw] at *
      rw [e]
      simp only [Prod.mk.injEq, and_true]
      omega

/-- What is read: at least as long as the least writing; just as long only if it is that. -/
theorem rd_ok (k : Nat) : ∀ (i a y n : Nat) (l : List UInt8), k + i = 10 → a < pw i → rdL k i l a = (y, n, 0) →
    ∃ m j, y = a + m * pw i ∧ n = i + j ∧ j ≤ l.length ∧ sizeN k m ≤ j ∧ (sizeN k m = j → l.take j = putN k m) ∧ y < 18446744073709551616 := by
  induction k with
  | zero => intro i a y n l _ _ h; simp [rdL] at h
  | succ k ih =>
    intro i a y n l hk ha h
    match l, h with
    | [], h => simp [rdL] at h
    | c :: l, h =>
      rw [rdL] at h
      by_cases hno : i = 9 ∧ 1 < c.toNat
      · rw [if_pos hno] at h; simp at h
      · rw [if_neg hno] at h
        by_cases hc : c.toNat < 128
        · rw [if_pos hc] at h
          simp only [Prod.mk.injEq, and_true] at h
          obtain ⟨rfl, rfl⟩ := h
          have hm : c.toNat % 128 = c.toNat := Nat.mod_eq_of_lt hc
          refine ⟨c.toNat, 1, by rw [hm, pw], rfl, by simp, by simp [sizeN, hc], ?_, step_64 (by omega) ha hno⟩
          intro _
          simp [putN, hc]
        · rw [if_neg hc] at h
          obtain ⟨m, j, h1, h2, h3, h4, h5, h6⟩ := ih (i + 1) _ y n l (by omega) (step_lt ha) h
          have hm : (c.toNat % 128 + 128 * m) / 128 = m ∧ (c.toNat % 128 + 128 * m) % 128 = c.toNat % 128 := by omega
          refine ⟨c.toNat % 128 + 128 * m, j + 1, ?_, by omega, by simp; omega, ?_, ?_, h6⟩
          · rw [h1, pw_succ, Nat.add_mul, pw]
            have : m * (128 ^ i * 128) = 128 * m * 128 ^ i := by rw [Nat.mul_comm (128 ^ i) 128, ← Nat.mul_assoc, Nat.mul_comm m 128]
            omega
          · rw [sizeN]
            split
            · omega
            · rw [hm.1]; omega
          · rw [sizeN, putN]
            split
            · intro hj
              have : j = 0 := by omega
              have hz : m = 0 := by omega
              subst hz
              -- then sizeN k 0 would be 0
              have hk0 : 0 < k := by
                rcases Nat.eq_zero_or_pos k with rfl | h0
                · exfalso; exact hno ⟨by omega, by omega⟩
                · exact h0
              have := sizeN_lo hk0 (show 0 < 128 by omega)
              omega
            · rw [hm.1, hm.2]
              intro hj
              have hc' : c.toNat < 256 := c.toNat_lt
              have e : c.toNat % 128 + 128 = c.toNat := by omega
              rw [List.take_succ_cons, h5 (by omega), e]
              simp

/-- the least writing as a text -/
def ps (v : Nat) : ByteArray := ⟨(putN 10 v).toArray⟩
theorem ps_list (v : Nat) : (ps v).data.toList = putN 10 v := rfl
theorem ps_size (v : Nat) : (ps v).size = sizeN 10 v := by rw [← sizeN_len]; rfl
theorem rd_back {v : Nat} (hv : Fits64 v) (s t : ByteArray) (h : s.data.toList = putN 10 v) : rd (s ++ t) = (v, sizeN 10 v, 0) := by
  unfold Fits64 at hv
  have e : (s ++ t).data.toList = putN 10 v ++ t.data.toList := by simp [h]
  rw [rd, e, rd_put 10 0 v 0 _ rfl (by omega) (fits_of64 hv) (by simpa [pw] using hv)]
  simp [pw]
/-- what Read answers of a text that may be read -/
theorem rd_fine {s : ByteArray} (h : (rd s).2.2 = 0) : (rd s).2.1 ≤ s.size ∧ sizeN 10 (rd s).1 ≤ (rd s).2.1 ∧ (sizeN 10 (rd s).1 = (rd s).2.1 → s.data.toList.take (rd s).2.1 = putN 10 (rd s).1) ∧ Fits64 (rd s).1 := by
  obtain ⟨y, n, e, hr⟩ : ∃ y n e, rd s = (y, n, e) := ⟨_, _, _, rfl⟩
  rw [hr] at h ⊢
  simp only at h ⊢
  subst h
  obtain ⟨m, j, h1, h2, h3, h4, h5, h6⟩ := rd_ok 10 0 0 y n _ rfl (by decide) hr
  have e1 : y = m := by simpa [pw] using h1
  have e2 : n = j := by omega
  subst e1 e2
  exact ⟨by simpa using h3, h4, h5, h6⟩
/-- zigzag -/
def zig (n : Int) : Int := if n < 0 then -2 * n - 1 else 2 * n
def unzig (v : Int) : Int := if v % 2 = 1 then -(v / 2) - 1 else v / 2
theorem unzig_zig (n : Int) : unzig (zig n) = n := by unfold unzig zig; split <;> split <;> omega
theorem zig_unzig (v : Int) (_h : 0 ≤ v) : zig (unzig v) = v := by unfold unzig zig; split <;> split <;> omega
end Go.Proofs.YtiniicehfjgpgaaGreat.M1
/- Plain numbers and bytes of layer 2: fields, their reading and their writing. No program is imported. -/
namespace Go.Proofs.YtiniicehfjgpgaaGreat.M2
open M1

/-- The number of bytes, the lowest first. -/
def low : List UInt8 → Nat
  | [] => 0
  | b :: l => b.toNat + 256 * low l
def pb (i : Nat) : Nat := 256 ^ i
theorem pb_succ (i : Nat) : pb (i + 1) = pb i * 256 := Nat.pow_succ _ _
theorem pb_pos (i : Nat) : 0 < pb i := Nat.pow_pos (by omega)
theorem pb_le {i : Nat} (h : i ≤ 7) : pb i ≤ 72057594037927936 := Nat.pow_le_pow_right (n := 256) (by omega) h
theorem pb_le8 {i : Nat} (h : i ≤ 8) : pb i ≤ 18446744073709551616 := Nat.pow_le_pow_right (n := 256) (by omega) h
theorem low_lt (l : List UInt8) : low l < pb l.length := by
  induction l with
  | nil => simp [low, pb]
  | cons b l ih =>
    have := b.toNat_lt
    rw [low, List.length_cons, pb_succ]
    omega
theorem low_append (a b : List UInt8) : low (a ++ b) = low a + pb a.length * low b := by
  induction a with
  | nil => simp [low, pb]
  | cons c a ih =>
    rw [List.cons_append, low, low, ih, List.length_cons, pb_succ, Nat.mul_add, Nat.mul_comm (pb a.length) 256, Nat.mul_assoc]
    omega
theorem low_snoc (a : List UInt8) (c : UInt8) : low (a ++ [c]) = low a + c.toNat * pb a.length := by
  rw [low_append]; simp [low, Nat.mul_comm]

/-- So many bytes of a number, the lowest first. -/
def hi : Nat → Nat → List UInt8
  | 0, _ => []
  | k + 1, v => UInt8.ofNat (v % 256) :: hi k (v / 256)
theorem hi_len (k v : Nat) : (hi k v).length = k := by
  induction k generalizing v with
  | zero => rfl
  | succ k ih => simp [hi, ih]
theorem hi_snoc (k : Nat) : ∀ v, hi (k + 1) v = hi k v ++ [UInt8.ofNat (v / pb k % 256)] := by
  induction k with
  | zero => intro v; simp [hi, pb]
  | succ k ih =>
    intro v
    rw [hi, ih, hi, List.cons_append]
    have : v / 256 / pb k = v / pb (k + 1) := by rw [Nat.div_div_eq_div_mul, pb_succ, Nat.mul_comm]
    rw [this]
theorem low_hi (k : Nat) : ∀ v, low (hi k v) = v % pb k := by
  induction k with
  | zero => intro v; simp [hi, low, pb, Nat.mod_one]
  | succ k ih =>
    intro v
    rw [hi, low, ih, pb_succ, Nat.mul_comm (pb k) 256, Nat.mod_mul]
    simp
/-- those bytes as a text -/
def hs (k v : Nat) : ByteArray := ⟨(hi k v).toArray⟩
theorem hs_list (k v : Nat) : (hs k v).data.toList = hi k v := rfl
theorem hs_size (k v : Nat) : (hs k v).size = k := by
  show (hi k v).toArray.size = k
  simp [hi_len]
theorem hs_snoc (k v : Nat) : hs (k + 1) v = hs k v ++ ⟨[UInt8.ofNat (v / pb k % 256)].toArray⟩ := by
  apply ByteArray.ext
  apply Array.ext'
  rw [hs_list, hi_snoc]
  simp [hs]
theorem low_hi_fit {k v : Nat} (h : v < pb k) : low (hi k v) = v := by rw [low_hi, Nat.mod_eq_of_lt h]

/-- the code's way -/
theorem lor_step {i v : Nat} {c : UInt8} (hi : i < 8) (hv : v < pb i) :
    bits .or .u64 (v : Int) (IntKind.u64.wrap ((c.toNat : Int) * 2 ^ (8 * i))) = ((v + c.toNat * pb i : Nat) : Int) := by
  have e : (2 : Int) ^ (8 * i) = ((pb i : Nat) : Int) := by
    rw [pb, show (256 : Nat) = 2 ^ 8 from rfl, ← Nat.pow_mul, Int.natCast_pow]; rfl
  have hc := c.toNat_lt
  have h1 : c.toNat * pb i ≤ 255 * pb i := Nat.mul_le_mul_right _ (by omega)
  have h2 := pb_le (i := i) (by omega)
  have e2 : ((c.toNat : Int) * ((pb i : Nat) : Int)) = ((c.toNat * pb i : Nat) : Int) := by simp
  rw [e, e2, IntWalk.u64_in _ (by omega), u64_or_nat _ _ (by omega) (by omega)]
  congr 1
  have e3 : pb i = 2 ^ (8 * i) := by rw [pb, show (256 : Nat) = 2 ^ 8 from rfl, ← Nat.pow_mul]
  rw [Nat.or_comm]
  have := Nat.shiftLeft_add_eq_or_of_lt (show v < 2 ^ (8 * i) by omega) c.toNat
  rw [Nat.shiftLeft_eq, ← e3] at this
  omega

theorem take_snoc {s : ByteArray} {k : Nat} (h : k < s.size) : s.data.toList.take (k + 1) = s.data.toList.take k ++ [s[k]] := by
  rw [List.take_succ_eq_append_getElem (by simpa using h)]; rfl

/-- A field. -/
structure WFd where
  num : Int
  typ : Int
  n : Nat
  data : ByteArray
def fd0 : WFd := ⟨0, 0, 0, ⟨#[]⟩⟩
def mayB (num typ : Int) : Bool := decide (1 ≤ num ∧ num ≤ 536870911 ∧ (typ = 0 ∨ typ = 1 ∨ typ = 2 ∨ typ = 5))
/-- what is left of a text -/
def rest (s : ByteArray) (k : Nat) : ByteArray := s.extract k s.size
theorem rest_list (s : ByteArray) (k : Nat) : (rest s k).data.toList = s.data.toList.drop k := by
  rw [rest]
  simp only [ByteArray.data_extract, Array.toList_extract, List.extract_eq_take_drop]
  rw [List.take_of_length_le]
  simp
theorem rest_size (s : ByteArray) (k : Nat) : (rest s k).size = s.size - k := by simp [rest]
theorem rest_rest (s : ByteArray) (a b : Nat) : rest (rest s a) b = rest s (a + b) := by
  apply ByteArray.ext
  apply Array.ext'
  rw [rest_list, rest_list, rest_list, List.drop_drop]
theorem rest_zero (s : ByteArray) : rest s 0 = s := by
  apply ByteArray.ext
  apply Array.ext'
  rw [rest_list]; simp
theorem cut_list (s : ByteArray) (a k : Nat) : (s.extract a (a + k)).data.toList = (s.extract a s.size).data.toList.take k := by
  have h := rest_list s a
  rw [rest] at h
  rw [h]
  simp only [ByteArray.data_extract, Array.toList_extract, List.extract_eq_take_drop]
  rw [show a + k - a = k by omega]
theorem cut_cut {s B : ByteArray} {a m N : Nat} (h : s.extract a s.size = B) : s.extract (a + m) (a + m + N) = B.extract m (m + N) := by
  apply ByteArray.ext
  apply Array.ext'
  rw [cut_list, cut_list]
  congr 1
  have h1 := rest_rest s a m
  have e1 : rest s a = B := h
  rw [e1] at h1
  exact congrArg (fun b : ByteArray => b.data.toList) h1.symm
/-- A number of so many bytes at a text's head, how many those are, the error. -/
def rl (s : ByteArray) (n : Nat) : Nat × Nat × Nat := if s.size < n then (0, 0, 1) else (low (s.data.toList.take n), n, 0)
/-- The text behind its length. -/
def rt (s : ByteArray) : ByteArray × Nat × Nat :=
  if (rd s).2.2 ≠ 0 then (⟨#[]⟩, 0, (rd s).2.2)
  else if s.size - (rd s).2.1 < (rd s).1 then (⟨#[]⟩, 0, 1)
  else (s.extract (rd s).2.1 ((rd s).2.1 + (rd s).1), (rd s).2.1 + (rd s).1, 0)
/-- What stands behind a tag: the number, the text, how many bytes, the error. -/
def pay (typ : Nat) (s : ByteArray) : Nat × ByteArray × Nat × Nat :=
  if typ = 0 then ((rd s).1, ⟨#[]⟩, (rd s).2.1, (rd s).2.2)
  else if typ = 1 then ((rl s 8).1, ⟨#[]⟩, (rl s 8).2.1, (rl s 8).2.2)
  else if typ = 2 then (0, (rt s).1, (rt s).2.1, (rt s).2.2)
  else ((rl s 4).1, ⟨#[]⟩, (rl s 4).2.1, (rl s 4).2.2)
/-- The field at a text's head, how many bytes, the error. -/
def one (s : ByteArray) : WFd × Nat × Nat :=
  if (rd s).2.2 ≠ 0 then (fd0, 0, (rd s).2.2)
  else if mayB ((rd s).1 / 8 : Nat) ((rd s).1 % 8 : Nat) = false then (fd0, 0, 3)
  else if (pay ((rd s).1 % 8) (rest s (rd s).2.1)).2.2.2 ≠ 0 then (fd0, 0, (pay ((rd s).1 % 8) (rest s (rd s).2.1)).2.2.2)
  else (⟨((rd s).1 / 8 : Nat), ((rd s).1 % 8 : Nat), (pay ((rd s).1 % 8) (rest s (rd s).2.1)).1, (pay ((rd s).1 % 8) (rest s (rd s).2.1)).2.1⟩, (rd s).2.1 + (pay ((rd s).1 % 8) (rest s (rd s).2.1)).2.2.1, 0)

theorem rdL_bound (k : Nat) : ∀ (i a : Nat) (l : List UInt8), k + i = 10 → (rdL k i l a).2.2 = 0 → i < (rdL k i l a).2.1 := by
  induction k with
  | zero => intro i a l _ h; simp [rdL] at h
  | succ k ih =>
    intro i a l hk h
    match l, h with
    | [], h => simp [rdL] at h
    | c :: l, h =>
      rw [rdL] at h ⊢
      split
      · rename_i h1; simp [h1] at h
      · rename_i h1
        rw [if_neg h1] at h
        split
        · simp
        · rename_i h2
          rw [if_neg h2] at h
          have := ih (i + 1) _ l (by omega) h
          omega
/-- what is read takes a byte and more -/
theorem rd_pos {s : ByteArray} (h : (rd s).2.2 = 0) : 0 < (rd s).2.1 := rdL_bound 10 0 0 _ rfl h
theorem rdL_zero (k : Nat) : ∀ (i a : Nat) (l : List UInt8), (rdL k i l a).2.2 ≠ 0 → (rdL k i l a).1 = 0 ∧ (rdL k i l a).2.1 = 0 := by
  induction k with
  | zero => intro i a l _; simp [rdL]
  | succ k ih =>
    intro i a l h
    match l, h with
    | [], h => simp [rdL]
    | c :: l, h =>
      rw [rdL] at h ⊢
      split
      · simp
      · rename_i h1
        rw [if_neg h1] at h
        split
        · rename_i h2; simp [h2] at h
        · rename_i h2
          rw [if_neg h2] at h
          exact ih _ _ _ h
/-- beside an error the number and the place are zero -/
theorem rd_err {s : ByteArray} (h : (rd s).2.2 ≠ 0) : (rd s).1 = 0 ∧ (rd s).2.1 = 0 := rdL_zero 10 0 0 _ h
/-- the errors' codes are small -/
theorem rdL_code (k : Nat) : ∀ (i a : Nat) (l : List UInt8), (rdL k i l a).2.2 ≤ 2 := by
  induction k with
  | zero => intro i a l; simp [rdL]
  | succ k ih =>
    intro i a l
    match l with
    | [] => simp [rdL]
    | c :: l =>
      rw [rdL]
      split
      · simp
      · split
        · simp
        · exact ih _ _ _
theorem rd_code (s : ByteArray) : (rd s).2.2 ≤ 2 := rdL_code _ _ _ _

theorem pay_fit {t : Nat} {s : ByteArray} (h : (pay t s).2.2.2 = 0) : (pay t s).2.2.1 ≤ s.size := by
  unfold pay at h ⊢
  split
  · rename_i h0; simp only [h0, if_true] at h; exact (rd_fine h).1
  · rename_i h0
    simp only [h0, if_false] at h
    split
    · rename_i h1; simp only [h1, if_true] at h
      unfold rl at h ⊢
      split
      · simp
      · simp; omega
    · rename_i h1
      simp only [h1, if_false] at h
      split
      · rename_i h2
        simp only [h2, if_true] at h
        unfold rt at h ⊢
        split
        · simp
        · rename_i h3
          have h3' : (rd s).2.2 = 0 := by omega
          have := (rd_fine h3').1
          split
          · simp
          · simp; omega
      · rename_i h2
        simp only [h2, if_false] at h
        unfold rl at h ⊢
        split
        · simp
        · simp; omega
theorem one_fit {s : ByteArray} (h : (one s).2.2 = 0) : 0 < (one s).2.1 ∧ (one s).2.1 ≤ s.size := by
  unfold one at h ⊢
  split
  · rename_i h0; rw [if_pos h0] at h; simp at h; omega
  · rename_i h0
    rw [if_neg h0] at h
    split
    · rename_i h1; rw [if_pos h1] at h; simp at h
    · rename_i h1
      rw [if_neg h1] at h
      split
      · rename_i h2; rw [if_pos h2] at h; simp at h; omega
      · rename_i h2
        have h0' : (rd s).2.2 = 0 := by omega
        have a := rd_pos h0'
        have b := (rd_fine h0').1
        have c := pay_fit (t := (rd s).1 % 8) (s := rest s (rd s).2.1) (by omega)
        rw [rest_size] at c
        simp only
        omega

theorem one_err {s : ByteArray} (he : (rd s).2.2 ≠ 0) : one s = (fd0, 0, (rd s).2.2) := by unfold one; rw [if_pos he]
theorem one_no {s : ByteArray} (he : (rd s).2.2 = 0) (hm : mayB ((rd s).1 / 8 : Nat) ((rd s).1 % 8 : Nat) = false) : one s = (fd0, 0, 3) := by
  unfold one; rw [if_neg (by omega), if_pos hm]
theorem one_yes {s : ByteArray} {x n : Nat} (hr : rd s = (x, n, 0)) (hm : mayB ((x : Int) / 8) ((x : Int) % 8) = true) (N : Nat) (D : ByteArray) (m c : Nat) (hp : pay (x % 8) (rest s n) = (N, D, m, c)) :
    one s = (if c = 0 then ⟨(x : Int) / 8, (x : Int) % 8, N, D⟩ else fd0, if c = 0 then n + m else 0, c) := by
  unfold one
  rw [hr]
  simp only
  rw [if_neg (by omega), show mayB ((x / 8 : Nat) : Int) ((x % 8 : Nat) : Int) = true from hm, if_neg (by simp), hp]
  by_cases h0 : c = 0
  · simp only [h0, if_true]; simp
  · simp only [h0, if_false]; simp [h0]

/-- Fields of a text, with fuel. -/
def fl : Nat → ByteArray → List WFd × Nat
  | 0, _ => ([], 0)
  | k + 1, s => if s.size = 0 then ([], 0) else if (one s).2.2 ≠ 0 then ([], (one s).2.2)
    else if (fl k (rest s (one s).2.1)).2 ≠ 0 then ([], (fl k (rest s (one s).2.1)).2) else ((one s).1 :: (fl k (rest s (one s).2.1)).1, 0)
theorem fl_fuel (k : Nat) : ∀ (m : Nat) (s : ByteArray), s.size ≤ k → s.size ≤ m → fl k s = fl m s := by
  induction k with
  | zero =>
    intro m s hk hm
    have h0 : s.size = 0 := by omega
    cases m with
    | zero => rfl
    | succ m => simp [fl, h0]
  | succ k ih =>
    intro m s hk hm
    by_cases h0 : s.size = 0
    · cases m with
      | zero => simp [fl, h0]
      | succ m => simp [fl, h0]
    · obtain ⟨m, rfl⟩ : ∃ j, m = j + 1 := ⟨m - 1, by omega⟩
      rw [fl, fl]
      by_cases he : (one s).2.2 = 0
      · have hf := one_fit he
        have hr := rest_size s (one s).2.1
        rw [ih m (rest s (one s).2.1) (by omega) (by omega)]
      · simp [he]
def flw (s : ByteArray) : List WFd × Nat := fl s.size s
/-- P2.1: the fields of a message, and the error. -/
def fields (s : ByteArray) : List WFd × Nat := if 1048576 < s.size then ([], 2) else flw s
def jn (acc : List WFd) (r : List WFd × Nat) : List WFd × Nat := if r.2 = 0 then (acc ++ r.1, 0) else ([], r.2)
theorem jn_nil (s : ByteArray) : jn [] (flw s) = flw s := by
  have H : ∀ k s, (fl k s).2 ≠ 0 → (fl k s).1 = [] := by
    intro k
    induction k with
    | zero => intro s h; simp [fl] at h
    | succ k ih =>
      intro s h
      rw [fl] at h ⊢
      split
      · rfl
      · split
        · rfl
        · split
          · rfl
          · rename_i h1 h2 h3
            rw [if_neg h1, if_neg h2, if_neg h3] at h
            simp at h
  unfold jn
  split
  · rename_i h; simp [← h]
  · rename_i h; rw [← H _ _ h]; rfl
theorem flw_end {s : ByteArray} (h : s.size = 0) : flw s = ([], 0) := by rw [flw, h]; rfl
theorem flw_err {s : ByteArray} (h : s.size ≠ 0) (he : (one s).2.2 ≠ 0) : flw s = ([], (one s).2.2) := by
  obtain ⟨k, hk⟩ : ∃ k, s.size = k + 1 := ⟨s.size - 1, by omega⟩
  rw [flw, hk, fl, if_neg h, if_pos he]
theorem flw_step {s : ByteArray} (h : s.size ≠ 0) (he : (one s).2.2 = 0) (acc : List WFd) : jn acc (flw s) = jn (acc ++ [(one s).1]) (flw (rest s (one s).2.1)) := by
  obtain ⟨k, hk⟩ : ∃ k, s.size = k + 1 := ⟨s.size - 1, by omega⟩
  have hf := one_fit he
  have hr := rest_size s (one s).2.1
  have e : fl k (rest s (one s).2.1) = flw (rest s (one s).2.1) := fl_fuel _ _ _ (by omega) (by omega)
  rw [flw, hk, fl, if_neg h, if_neg (by omega), e]
  generalize flw (rest s (one s).2.1) = r
  unfold jn
  by_cases h0 : r.2 = 0 <;> simp [h0]
theorem fields_list_le (s : ByteArray) : (flw s).1.length ≤ s.size := by
  have H : ∀ k s, (fl k s).1.length ≤ k := by
    intro k
    induction k with
    | zero => intro s; simp [fl]
    | succ k ih =>
      intro s
      rw [fl]
      split
      · simp
      · split
        · simp
        · split
          · simp
          · simp only [List.length_cons]
            have := ih (rest s (one s).2.1)
            omega
  exact H _ _
theorem rd_parts (s : ByteArray) : ∃ x n e, rd s = (x, n, e) ∧ (e = 0 → 0 < n ∧ n ≤ s.size ∧ Fits64 x) ∧ (e ≠ 0 → x = 0 ∧ n = 0) ∧ e ≤ 2 := by
  refine ⟨(rd s).1, (rd s).2.1, (rd s).2.2, rfl, fun h => ⟨rd_pos h, (rd_fine h).1, (rd_fine h).2.2.2⟩, fun h => rd_err h, rd_code s⟩
theorem mayB_typ {num typ : Int} (h : mayB num typ = true) : typ = 0 ∨ typ = 1 ∨ typ = 2 ∨ typ = 5 := by
  unfold mayB at h
  rw [decide_eq_true_iff] at h
  exact h.2.2
theorem low_fits {l : List UInt8} (h : l.length ≤ 8) : Fits64 (low l) := by
  have h1 := low_lt l
  have h2 := pb_le8 h
  unfold Fits64
  omega
theorem rl_fits (s : ByteArray) {n : Nat} (hn : n ≤ 8) : Fits64 (rl s n).1 := by
  unfold rl
  split
  · unfold Fits64; simp
  · exact low_fits (by simp; omega)
theorem rd_fits (s : ByteArray) : Fits64 (rd s).1 := by
  by_cases h : (rd s).2.2 = 0
  · exact (rd_fine h).2.2.2
  · rw [(rd_err h).1]; unfold Fits64; omega
theorem pay_le (t : Nat) (s : ByteArray) : (pay t s).2.2.1 ≤ s.size := by
  by_cases h : (pay t s).2.2.2 = 0
  · exact pay_fit h
  · have : (pay t s).2.2.1 = 0 := by
      unfold pay at h ⊢
      split
      · rename_i h0; simp only [h0, if_true] at h; exact (rd_err h).2
      · rename_i h0
        simp only [h0, if_false] at h
        split
        · rename_i h1; simp only [h1, if_true] at h
          unfold rl at h ⊢
          split
          · rfl
          · rename_i h2; rw [if_neg h2] at h; simp at h
        · rename_i h1
          simp only [h1, if_false] at h
          split
          · rename_i h2
            simp only [h2, if_true] at h
            unfold rt at h ⊢
            split
            · rfl
            · rename_i h3
              rw [if_neg h3] at h
              split
              · rfl
              · rename_i h4; rw [if_neg h4] at h; simp at h
          · rename_i h2
            simp only [h2, if_false] at h
            unfold rl at h ⊢
            split
            · rfl
            · rename_i h3; rw [if_neg h3] at h; simp at h
    omega
end Go.Proofs.YtiniicehfjgpgaaGreat.M2
/- Plain bytes of layer 2: the writing of a field, and that it is read as it was. No program is imported. -/
namespace Go.Proofs.YtiniicehfjgpgaaGreat.M2
open M1

/-- P2.1: a field's least writing. -/
def fb (f : WFd) : ByteArray :=
  if mayB f.num f.typ = false then ⟨#[]⟩
  else if f.typ = 0 then ps (8 * f.num + f.typ).toNat ++ ps f.n
  else if f.typ = 1 then ps (8 * f.num + f.typ).toNat ++ hs 8 f.n
  else if f.typ = 2 then ps (8 * f.num + f.typ).toNat ++ ps f.data.size ++ f.data
  else if 4294967295 < f.n then ⟨#[]⟩ else ps (8 * f.num + f.typ).toNat ++ hs 4 f.n
theorem ps_le (v : Nat) : (ps v).size ≤ 10 := by rw [ps_size]; exact sizeN_le _ _
theorem fb_le (f : WFd) : (fb f).size ≤ 20 + f.data.size := by
  unfold fb
  have h1 := ps_le (8 * f.num + f.typ).toNat
  have h2 := ps_le f.n
  have h3 := ps_le f.data.size
  have h4 := hs_size 8 f.n
  have h5 := hs_size 4 f.n
  split
  · exact Nat.zero_le _
  · split
    · rw [ByteArray.size_append]; omega
    · split
      · rw [ByteArray.size_append]; omega
      · split
        · rw [ByteArray.size_append, ByteArray.size_append]; omega
        · split
          · exact Nat.zero_le _
          · rw [ByteArray.size_append]; omega

/-- what plays no part is zero -/
def norm (f : WFd) : WFd := if f.typ = 2 then ⟨f.num, f.typ, 0, f.data⟩ else ⟨f.num, f.typ, f.n, ⟨#[]⟩⟩
theorem ba_eq {a b : ByteArray} (h : a.data.toList = b.data.toList) : a = b := ByteArray.ext (Array.ext' h)
theorem rest_app (a b : ByteArray) : rest (a ++ b) a.size = b := by
  apply ba_eq
  rw [rest_list]
  simp
/-- a least writing is read as it was -/
theorem rd_ps {v : Nat} (hv : Fits64 v) (t : ByteArray) : rd (ps v ++ t) = (v, (ps v).size, 0) := by
  rw [rd_back hv (ps v) t rfl, ps_size]
theorem take_app (a b : ByteArray) : (a ++ b).data.toList.take a.size = a.data.toList := by simp
theorem rl_hs {k v : Nat} (h : v < pb k) (t : ByteArray) : rl (hs k v ++ t) k = (v, k, 0) := by
  have hz := hs_size k v
  unfold rl
  rw [if_neg (by rw [ByteArray.size_append]; omega)]
  have h1 := take_app (hs k v) t
  rw [hz] at h1
  rw [h1, hs_list, low_hi_fit h]
theorem rt_ps {D : ByteArray} (h : Fits64 D.size) (t : ByteArray) : rt (ps D.size ++ D ++ t) = (D, (ps D.size).size + D.size, 0) := by
  unfold rt
  have e : ps D.size ++ D ++ t = ps D.size ++ (D ++ t) := by apply ba_eq; simp
  rw [e, rd_ps h]
  simp only
  rw [if_neg (by omega), if_neg (by rw [ByteArray.size_append, ByteArray.size_append]; omega)]
  congr 1
  apply ba_eq
  have h1 := cut_list (ps D.size ++ (D ++ t)) (ps D.size).size D.size
  rw [h1]
  have h2 := rest_app (ps D.size) (D ++ t)
  unfold rest at h2
  rw [h2]
  exact take_app D t
theorem pb4 : pb 4 = 4294967296 := rfl
theorem pb8 : pb 8 = 18446744073709551616 := rfl
theorem one_fb {f : WFd} (hn : Fits64 f.n) (hD : Fits64 f.data.size) (h : fb f ≠ ⟨#[]⟩) (t : ByteArray) : one (fb f ++ t) = (norm f, (fb f).size, 0) ∧ 0 < (fb f).size := by
  obtain ⟨num, typ, n, D⟩ := f
  simp only at hn hD
  by_cases hm : mayB num typ = false
  · exact absurd (by unfold fb; rw [if_pos hm]) h
  · have hm1 : mayB num typ = true := by simpa using hm
    have hm2 := hm1
    unfold mayB at hm2
    rw [decide_eq_true_iff] at hm2
    obtain ⟨k, rfl⟩ := Int.eq_ofNat_of_zero_le (show 0 ≤ num by omega)
    obtain ⟨j, rfl⟩ := Int.eq_ofNat_of_zero_le (show 0 ≤ typ by omega)
    have hv : (8 * (k : Int) + (j : Int)).toNat = 8 * k + j := by omega
    have h1 : (8 * k + j) / 8 = k := by omega
    have h2 : (8 * k + j) % 8 = j := by omega
    have h64 : Fits64 (8 * k + j) := by unfold Fits64; omega
    have hcast : mayB (((8 * k + j : Nat) : Int) / 8) (((8 * k + j : Nat) : Int) % 8) = true := by
      have e1 : ((8 * k + j : Nat) : Int) / 8 = (k : Int) := by omega
      have e2 : ((8 * k + j : Nat) : Int) % 8 = (j : Int) := by omega
      rw [e1, e2]; exact hm1
    have key : ∀ (P : ByteArray) (N : Nat) (E : ByteArray), fb ⟨k, j, n, D⟩ = ps (8 * k + j) ++ P → pay j (P ++ t) = (N, E, P.size, 0) → norm ⟨k, j, n, D⟩ = ⟨k, j, N, E⟩ →
        one (fb ⟨k, j, n, D⟩ ++ t) = (norm ⟨k, j, n, D⟩, (fb ⟨k, j, n, D⟩).size, 0) ∧ 0 < (fb ⟨k, j, n, D⟩).size := by
      intro P N E hf hp hnm
      have e : fb ⟨k, j, n, D⟩ ++ t = ps (8 * k + j) ++ (P ++ t) := by rw [hf]; apply ba_eq; simp
      have hr := rd_ps h64 (P ++ t)
      have hs0 : 0 < (ps (8 * k + j)).size := by
        have := rd_pos (s := ps (8 * k + j) ++ (P ++ t)) (by rw [hr])
        rw [hr] at this
        exact this
      have hy := one_yes hr hcast N E P.size 0 (by rw [h2, rest_app]; exact hp)
      rw [e, hy, hnm, hf, ByteArray.size_append]
      refine ⟨?_, by omega⟩
      simp only [if_true]
      have e1 : ((8 * k + j : Nat) : Int) / 8 = (k : Int) := by omega
      have e2 : ((8 * k + j : Nat) : Int) % 8 = (j : Int) := by omega
      rw [e1, e2]
    have hj : j = 0 ∨ j = 1 ∨ j = 2 ∨ j = 5 := by omega
    rcases hj with rfl | rfl | rfl | rfl
    · have hm3 : mayB (k : Int) (0 : Int) = true := hm1
      refine key (ps n) n ⟨#[]⟩ (by unfold fb; simp [hm3]; rw [show (8 * (k : Int)).toNat = 8 * k by omega]) ?_ (by simp [norm])
      have := rd_ps hn t
      simp [pay, this]
    · have hm3 : mayB (k : Int) (1 : Int) = true := hm1
      refine key (hs 8 n) n ⟨#[]⟩ (by unfold fb; simp [hm3]; rw [show (8 * (k : Int) + 1).toNat = 8 * k + 1 by omega]) ?_ (by simp [norm])
      have := rl_hs (k := 8) (v := n) (by rw [pb8]; exact hn) t
      simp [pay, this, hs_size]
    · have hm3 : mayB (k : Int) (2 : Int) = true := hm1
      refine key (ps D.size ++ D) 0 D (by unfold fb; simp [hm3]; rw [show (8 * (k : Int) + 2).toNat = 8 * k + 2 by omega]; apply ba_eq; simp) ?_ (by simp [norm])
      have := rt_ps hD t
      simp [pay, this]
    · have hm3 : mayB (k : Int) (5 : Int) = true := hm1
      by_cases hmax : 4294967295 < n
      · exact absurd (by unfold fb; simp [hm3, hmax]) h
      · refine key (hs 4 n) n ⟨#[]⟩ (by unfold fb; simp [hm3, hmax]; rw [show (8 * (k : Int) + 5).toNat = 8 * k + 5 by omega]) ?_ (by simp [norm])
        have := rl_hs (k := 4) (v := n) (by rw [pb4]; omega) t
        simp [pay, this, hs_size]

/-- fields one behind the other; those that have no writing are passed over -/
def cat : List WFd → ByteArray
  | [] => ⟨#[]⟩
  | f :: l => fb f ++ cat l
def hasB (f : WFd) : Bool := decide ((fb f).size ≠ 0)
theorem hasB_no {f : WFd} (h : (fb f).size = 0) : hasB f = false := by unfold hasB; rw [decide_eq_false_iff_not]; omega
theorem hasB_yes {f : WFd} (h : ¬ (fb f).size = 0) : hasB f = true := by unfold hasB; rw [decide_eq_true_iff]; omega
def wanted (l : List WFd) : List WFd := (l.filter hasB).map norm
theorem fb_nil {f : WFd} (h : (fb f).size = 0) : fb f = ⟨#[]⟩ := by
  apply ba_eq
  have : (fb f).data.toList.length = 0 := by simpa using h
  rw [List.length_eq_zero_iff.1 this]
def FitsF (f : WFd) : Prop := Fits64 f.n ∧ Fits64 f.data.size
theorem flw_cat (l : List WFd) (h : ∀ f ∈ l, FitsF f) : flw (cat l) = (wanted l, 0) := by
  have H : ∀ (l : List WFd), (∀ f ∈ l, FitsF f) → ∀ acc, jn acc (flw (cat l)) = (acc ++ wanted l, 0) := by
    intro l
    induction l with
    | nil =>
      intro _ acc
      have : flw (cat []) = ([], 0) := flw_end rfl
      rw [this]; simp [jn, wanted]
    | cons f l ih =>
      intro hl acc
      have hf := hl f (by simp)
      have hl' : ∀ g ∈ l, FitsF g := fun g hg => hl g (by simp [hg])
      by_cases h0 : (fb f).size = 0
      · have e : cat (f :: l) = cat l := by
          rw [cat, fb_nil h0]; apply ba_eq; simp
        have e2 : wanted (f :: l) = wanted l := by simp [wanted, hasB_no h0]
        rw [e, e2]; exact ih hl' acc
      · have hne : fb f ≠ ⟨#[]⟩ := by intro he; rw [he] at h0; exact h0 rfl
        obtain ⟨h1, h2⟩ := one_fb hf.1 hf.2 hne (cat l)
        have hs := flw_step (s := fb f ++ cat l) (by rw [ByteArray.size_append]; omega) (by rw [h1]) acc
        rw [h1] at hs
        simp only at hs
        rw [rest_app] at hs
        rw [cat, hs, ih hl']
        simp [wanted, hasB_yes h0]
  have := H l h []
  rw [jn_nil] at this
  simpa using this
theorem cat_snoc (l : List WFd) (f : WFd) : cat (l ++ [f]) = cat l ++ fb f := by
  induction l with
  | nil => apply ba_eq; simp [cat]
  | cons g l ih => rw [List.cons_append, cat, ih, cat]; apply ba_eq; simp
theorem wanted_snoc (l : List WFd) (f : WFd) : wanted (l ++ [f]) = if (fb f).size = 0 then wanted l else wanted l ++ [norm f] := by
  unfold wanted
  rw [List.filter_append, List.map_append]
  by_cases h : (fb f).size = 0
  · rw [if_pos h]; simp [hasB_no h]
  · rw [if_neg h]; simp [hasB_yes h]
end Go.Proofs.YtiniicehfjgpgaaGreat.M2
/- Plain numbers and bytes of layer 3: rows of numbers in fields, and their least writing. No program is imported. -/
namespace Go.Proofs.YtiniicehfjgpgaaGreat.M3
open M1 M2 Go.RowKit

/-- a number as 64 bits' two's complement, and back -/
def sg (v : Nat) : Int := wrap64 (v : Int)
def us (n : Int) : Nat := (IntKind.u64.wrap n).toNat
def In64 (n : Int) : Prop := -9223372036854775808 ≤ n ∧ n ≤ 9223372036854775807
theorem us_eq (n : Int) : IntKind.u64.wrap n = ((us n : Nat) : Int) := by
  unfold us
  have h : IntKind.u64.wrap n = n % 18446744073709551616 := by simp [IntKind.wrap, IntKind.bits, IntKind.signed]
  rw [h]; omega
theorem us_fits (n : Int) : Fits64 (us n) := by
  unfold us Fits64
  have h : IntKind.u64.wrap n = n % 18446744073709551616 := by simp [IntKind.wrap, IntKind.bits, IntKind.signed]
  rw [h]; omega
theorem sg_us {n : Int} (h : In64 n) : sg (us n) = n := by
  unfold In64 at h
  unfold sg wrap64
  have h1 : IntKind.u64.wrap n = n % 18446744073709551616 := by simp [IntKind.wrap, IntKind.bits, IntKind.signed]
  have h2 := us_eq n
  rw [h1] at h2
  rw [← h2]
  omega
theorem sg_in (v : Nat) : In64 (sg v) := by unfold sg wrap64 In64; omega

/-- The row, with the numbers of a packed text behind it, and the error. -/
def pk : Nat → ByteArray → List Int → List Int × Nat
  | 0, _, acc => (acc, 0)
  | k + 1, s, acc => if s.size = 0 then (acc, 0) else if (rd s).2.2 ≠ 0 then ([], (rd s).2.2) else if acc.length = 65536 then ([], 7)
    else pk k (rest s (rd s).2.1) (acc ++ [sg (rd s).1])
theorem pk_fuel (k : Nat) : ∀ (m : Nat) (s : ByteArray) (acc : List Int), s.size ≤ k → s.size ≤ m → pk k s acc = pk m s acc := by
  induction k with
  | zero =>
    intro m s acc hk hm
    have h0 : s.size = 0 := by omega
    cases m with
    | zero => rfl
    | succ m => simp [pk, h0]
  | succ k ih =>
    intro m s acc hk hm
    by_cases h0 : s.size = 0
    · cases m with
      | zero => simp [pk, h0]
      | succ m => simp [pk, h0]
    · obtain ⟨m, rfl⟩ : ∃ j, m = j + 1 := ⟨m - 1, by omega⟩
      rw [pk, pk]
      by_cases he : (rd s).2.2 = 0
      · have hf := rd_pos he
        have hr := rest_size s (rd s).2.1
        rw [ih m (rest s (rd s).2.1) _ (by omega) (by omega)]
      · simp [he]
def pks (s : ByteArray) (acc : List Int) : List Int × Nat := pk s.size s acc
theorem pks_end {s : ByteArray} (h : s.size = 0) (acc : List Int) : pks s acc = (acc, 0) := by rw [pks, h]; rfl
theorem pks_err {s : ByteArray} (h : s.size ≠ 0) (he : (rd s).2.2 ≠ 0) (acc : List Int) : pks s acc = ([], (rd s).2.2) := by
  obtain ⟨k, hk⟩ : ∃ k, s.size = k + 1 := ⟨s.size - 1, by omega⟩
  rw [pks, hk, pk, if_neg h, if_pos he]
theorem pks_full {s : ByteArray} (h : s.size ≠ 0) (he : (rd s).2.2 = 0) {acc : List Int} (hf : acc.length = 65536) : pks s acc = ([], 7) := by
  obtain ⟨k, hk⟩ : ∃ k, s.size = k + 1 := ⟨s.size - 1, by omega⟩
  rw [pks, hk, pk, if_neg h, if_neg (by omega), if_pos hf]
theorem pks_step {s : ByteArray} (h : s.size ≠ 0) (he : (rd s).2.2 = 0) {acc : List Int} (hf : acc.length ≠ 65536) : pks s acc = pks (rest s (rd s).2.1) (acc ++ [sg (rd s).1]) := by
  obtain ⟨k, hk⟩ : ∃ k, s.size = k + 1 := ⟨s.size - 1, by omega⟩
  have h1 := rd_pos he
  have h2 := rest_size s (rd s).2.1
  rw [pks, hk, pk, if_neg h, if_neg (by omega), if_neg hf, pks]
  exact pk_fuel _ _ _ _ (by omega) (by omega)

/-- The row, with the numbers of one field behind it, and the error. -/
def addF (f : WFd) (acc : List Int) : List Int × Nat :=
  if f.typ = 0 then (if acc.length = 65536 then ([], 7) else (acc ++ [sg f.n], 0))
  else if f.typ = 2 then pks f.data acc else ([], 3)
/-- P3.1: the row in fields, and the error. -/
def ints : List WFd → List Int → List Int × Nat
  | [], acc => (acc, 0)
  | f :: l, acc => if (addF f acc).2 ≠ 0 then ([], (addF f acc).2) else ints l (addF f acc).1
theorem ints_err {f : WFd} {l : List WFd} {acc : List Int} {r : List Int} {e : Nat} (h : addF f acc = (r, e)) (he : e ≠ 0) : ints (f :: l) acc = ([], e) := by
  rw [ints, h]; simp [he]
theorem ints_ok {f : WFd} {l : List WFd} {acc r : List Int} (h : addF f acc = (r, 0)) : ints (f :: l) acc = ints l r := by
  rw [ints, h]; simp
theorem ints_cat (a b : List WFd) : ∀ (acc r : List Int), ints a acc = (r, 0) → ints (a ++ b) acc = ints b r := by
  induction a with
  | nil => intro acc r h; rw [ints] at h; simp only [Prod.mk.injEq, and_true] at h; rw [List.nil_append, h]
  | cons f l ih =>
    intro acc r h
    rw [ints] at h
    rw [List.cons_append, ints]
    by_cases he : (addF f acc).2 = 0
    · rw [if_neg (by omega)] at h ⊢
      exact ih _ _ h
    · rw [if_pos he] at h
      simp only [Prod.mk.injEq] at h
      exact absurd h.2 he

/-- A row is never longer than it may be. -/
theorem pk_le (k : Nat) : ∀ (s : ByteArray) (acc : List Int), acc.length ≤ 65536 → (pk k s acc).1.length ≤ 65536 := by
  induction k with
  | zero => intro s acc h; exact h
  | succ k ih =>
    intro s acc h
    rw [pk]
    split
    · exact h
    · split
      · simp
      · split
        · simp
        · exact ih _ _ (by simp; omega)
theorem pks_le (s : ByteArray) {acc : List Int} (h : acc.length ≤ 65536) : (pks s acc).1.length ≤ 65536 := pk_le _ _ _ h
theorem addF_le (f : WFd) {acc : List Int} (h : acc.length ≤ 65536) : (addF f acc).1.length ≤ 65536 := by
  unfold addF
  split
  · split
    · simp
    · simp; omega
  · split
    · exact pks_le _ h
    · simp
theorem pk_code (k : Nat) : ∀ (s : ByteArray) (acc : List Int), (pk k s acc).2 ≤ 7 := by
  induction k with
  | zero => intro s acc; simp [pk]
  | succ k ih =>
    intro s acc
    rw [pk]
    split
    · simp
    · split
      · have := rd_code s; simp only; omega
      · split
        · simp
        · exact ih _ _
theorem pk_nil (k : Nat) : ∀ (s : ByteArray) (acc : List Int), (pk k s acc).2 ≠ 0 → (pk k s acc).1 = [] := by
  induction k with
  | zero => intro s acc h; simp [pk] at h
  | succ k ih =>
    intro s acc h
    rw [pk] at h ⊢
    split
    · rename_i h0; rw [if_pos h0] at h; simp at h
    · rename_i h0
      rw [if_neg h0] at h
      split
      · rfl
      · rename_i h1
        rw [if_neg h1] at h
        split
        · rfl
        · rename_i h2
          rw [if_neg h2] at h
          exact ih _ _ h
theorem pks_code (s : ByteArray) (acc : List Int) : (pks s acc).2 ≤ 7 := pk_code _ _ _
theorem pks_nil {s : ByteArray} {acc : List Int} (h : (pks s acc).2 ≠ 0) : (pks s acc).1 = [] := pk_nil _ _ _ h
theorem addF_nil {f : WFd} {acc : List Int} (h : (addF f acc).2 ≠ 0) : (addF f acc).1 = [] := by
  unfold addF at h ⊢
  split
  · rename_i h0
    rw [if_pos h0] at h
    split
    · rfl
    · rename_i h1; rw [if_neg h1] at h; simp at h
  · rename_i h0
    rw [if_neg h0] at h
    split
    · rename_i h1; rw [if_pos h1] at h; exact pks_nil h
    · rfl
theorem ints_le (l : List WFd) : ∀ (acc : List Int), acc.length ≤ 65536 → (ints l acc).1.length ≤ 65536 := by
  induction l with
  | nil => intro acc h; exact h
  | cons f l ih =>
    intro acc h
    rw [ints]
    split
    · simp
    · exact ih _ (addF_le f h)
theorem ints_nil (l : List WFd) : ∀ (acc : List Int), (ints l acc).2 ≠ 0 → (ints l acc).1 = [] := by
  induction l with
  | nil => intro acc h; simp [ints] at h
  | cons f l ih =>
    intro acc h
    rw [ints] at h ⊢
    split
    · rfl
    · rename_i h0
      rw [if_neg h0] at h
      exact ih _ h

/-- P3.1: the texts in fields, and the error. -/
def txts : List WFd → List ByteArray → List ByteArray × Nat
  | [], acc => (acc, 0)
  | f :: l, acc => if f.typ ≠ 2 then ([], 3) else txts l (acc ++ [f.data])
theorem txts_le (l : List WFd) : ∀ (acc : List ByteArray), (txts l acc).1.length ≤ acc.length + l.length := by
  induction l with
  | nil => intro acc; simp [txts]
  | cons f l ih =>
    intro acc
    rw [txts]
    split
    · simp
    · have := ih (acc ++ [f.data])
      simp at this ⊢
      omega

/-- numbers' least writings, one behind the other -/
def cps : List Int → ByteArray
  | [] => ⟨#[]⟩
  | n :: l => ps (us n) ++ cps l
theorem cps_snoc (l : List Int) (n : Int) : cps (l ++ [n]) = cps l ++ ps (us n) := by
  induction l with
  | nil => apply ba_eq; simp [cps]
  | cons m l ih => rw [List.cons_append, cps, ih, cps]; apply ba_eq; simp
theorem cps_le (l : List Int) : (cps l).size ≤ 10 * l.length := by
  induction l with
  | nil => exact Nat.zero_le _
  | cons n l ih =>
    have := ps_le (us n)
    rw [cps, ByteArray.size_append, List.length_cons]
    omega
/-- P3.1: a row's least writing. -/
def pt (num : Int) (l : List Int) : ByteArray := if l = [] then ⟨#[]⟩ else fb ⟨num, 2, 0, cps l⟩
theorem pt_le (num : Int) (l : List Int) : (pt num l).size ≤ 30 * l.length := by
  unfold pt
  split
  · exact Nat.zero_le _
  · rename_i h
    have h1 := fb_le ⟨num, 2, 0, cps l⟩
    have h2 := cps_le l
    have h3 : l.length ≠ 0 := by simpa using h
    simp only at h1
    omega
/-- what is written is read behind any row that has room -/
theorem pks_cps (l : List Int) : ∀ (acc : List Int), (∀ n ∈ l, In64 n) → acc.length + l.length ≤ 65536 → pks (cps l) acc = (acc ++ l, 0) := by
  induction l with
  | nil => intro acc _ _; rw [pks_end (by rfl)]; simp
  | cons n l ih =>
    intro acc h hl
    have hr := rd_ps (us_fits n) (cps l)
    have hp := rd_pos (s := ps (us n) ++ cps l) (by rw [hr])
    rw [hr] at hp
    simp only at hp
    have hs := pks_step (s := ps (us n) ++ cps l) (by rw [ByteArray.size_append]; omega) (by rw [hr]) (acc := acc) (by simp at hl; omega)
    rw [hr] at hs
    simp only at hs
    rw [rest_app, sg_us (h n (by simp))] at hs
    rw [cps, hs, ih _ (fun m hm => h m (by simp [hm])) (by simp at hl ⊢; omega)]
    simp
/-- .. and is too much behind one that has none -/
theorem pks_over (l : List Int) : ∀ (acc : List Int), acc.length ≤ 65536 → 65536 < acc.length + l.length → pks (cps l) acc = ([], 7) := by
  induction l with
  | nil => intro acc h1 h2; simp at h2; omega
  | cons n l ih =>
    intro acc h1 h2
    have hr := rd_ps (us_fits n) (cps l)
    have hp := rd_pos (s := ps (us n) ++ cps l) (by rw [hr])
    rw [hr] at hp
    simp only at hp
    by_cases h : acc.length = 65536
    · exact pks_full (by rw [cps, ByteArray.size_append]; omega) (by rw [cps, hr]) h
    · have hs := pks_step (s := ps (us n) ++ cps l) (by rw [ByteArray.size_append]; omega) (by rw [hr]) h
      rw [hr] at hs
      simp only at hs
      rw [rest_app] at hs
      rw [cps, hs]
      exact ih _ (by simp; omega) (by simp at h2 ⊢; omega)
theorem ps_zero : (ps (us 0)).data.toList = [0] := by decide +kernel
theorem cps_zeros (m : Nat) : (cps (List.replicate m 0)).data.toList = List.replicate m 0 := by
  induction m with
  | zero => rfl
  | succ m ih =>
    rw [List.replicate_succ, cps, ByteArray.data_append, Array.toList_append, ps_zero, ih]
    rfl
/-- so many zeros packed, and one more number -/
theorem ints_zeros {S : ByteArray} {m : Nat} (h : S.data.toList = List.replicate m 0) :
    (m + 1 ≤ 65536 → ∃ q, ints [⟨1, 2, 0, S⟩, ⟨1, 0, 0, ⟨#[]⟩⟩] [] = (q, 0) ∧ q.length = m + 1) ∧ (65536 < m + 1 → ints [⟨1, 2, 0, S⟩, ⟨1, 0, 0, ⟨#[]⟩⟩] [] = ([], 7)) := by
  have e : S = cps (List.replicate m 0) := ba_eq (by rw [h, cps_zeros])
  subst e
  have hz : ∀ n ∈ List.replicate m (0 : Int), In64 n := fun n hn => by rw [List.eq_of_mem_replicate hn]; unfold In64; omega
  have hl : (List.replicate m (0 : Int)).length = m := by simp
  constructor
  · intro hm
    have h1 : addF ⟨1, 2, 0, cps (List.replicate m 0)⟩ [] = ([] ++ List.replicate m 0, 0) := by
      unfold addF; simp only [if_true]; rw [if_neg (by omega)]
      exact pks_cps _ _ hz (by simp; omega)
    have h2 : addF ⟨1, 0, 0, ⟨#[]⟩⟩ ([] ++ List.replicate m 0) = (([] ++ List.replicate m 0) ++ [sg 0], 0) := by
      unfold addF; simp only [if_true]; rw [if_neg (by simp; omega)]
    exact ⟨_, by rw [ints_ok h1, ints_ok h2]; rfl, by simp⟩
  · intro hm
    by_cases hm2 : m = 65536
    · have h1 : addF ⟨1, 2, 0, cps (List.replicate m 0)⟩ [] = ([] ++ List.replicate m 0, 0) := by
        unfold addF; simp only [if_true]; rw [if_neg (by omega)]
        exact pks_cps _ _ hz (by simp; omega)
      have h2 : addF ⟨1, 0, 0, ⟨#[]⟩⟩ ([] ++ List.replicate m 0) = ([], 7) := by
        unfold addF; simp only [if_true]; rw [if_pos (by simp; omega)]
      rw [ints_ok h1, ints_err h2 (by omega)]
    · have h1 : addF ⟨1, 2, 0, cps (List.replicate m 0)⟩ [] = ([], 7) := by
        unfold addF; simp only [if_true]; rw [if_neg (by omega)]
        exact pks_over _ _ (by simp) (by simp; omega)
      rw [ints_err h1 (by omega)]

/-- Fields that hold a row: numbers, and packed parts. -/
inductive Cut (k : Int) : List WFd → List Int → Prop
  | nil : Cut k [] []
  | num {L : List WFd} {r : List Int} {n : Int} : Cut k L r → In64 n → Cut k (L ++ [⟨k, 0, us n, ⟨#[]⟩⟩]) (r ++ [n])
  | part {L : List WFd} {r p : List Int} : Cut k L r → (∀ n ∈ p, In64 n) → p ≠ [] → Cut k (L ++ [⟨k, 2, 0, cps p⟩]) (r ++ p)
theorem fb_num_ne {k : Int} (n : Nat) (D : ByteArray) (h1 : 1 ≤ k) (h2 : k ≤ 100) : ¬ (fb ⟨k, 0, n, D⟩).size = 0 := by
  have hm : mayB k 0 = true := by unfold mayB; rw [decide_eq_true_iff]; omega
  have e : fb ⟨k, 0, n, D⟩ = ps (8 * k).toNat ++ ps n := by unfold fb; simp [hm]
  rw [e, ByteArray.size_append]
  have := rd_ps (v := (8 * k).toNat) (by unfold Fits64; omega) (ps n)
  have hp := rd_pos (s := ps (8 * k).toNat ++ ps n) (by rw [this])
  rw [this] at hp
  simp only at hp
  omega
theorem fb_part_ne {k : Int} (n : Nat) (D : ByteArray) (h1 : 1 ≤ k) (h2 : k ≤ 100) : ¬ (fb ⟨k, 2, n, D⟩).size = 0 := by
  have hm : mayB k 2 = true := by unfold mayB; rw [decide_eq_true_iff]; omega
  have e : fb ⟨k, 2, n, D⟩ = ps (8 * k + 2).toNat ++ ps D.size ++ D := by unfold fb; simp [hm]
  rw [e, ByteArray.size_append, ByteArray.size_append]
  have := rd_ps (v := (8 * k + 2).toNat) (by unfold Fits64; omega) (ps D.size)
  have hp := rd_pos (s := ps (8 * k + 2).toNat ++ ps D.size) (by rw [this])
  rw [this] at hp
  simp only at hp
  omega
theorem cut_all {k : Int} (h1 : 1 ≤ k) (h2 : k ≤ 100) {L : List WFd} {r : List Int} (h : Cut k L r) : r.length ≤ 65536 → 
    (∀ f ∈ L, FitsF f ∧ f.num = k) ∧ wanted L = L ∧ ints L [] = (r, 0) ∧ (cat L).size ≤ 30 * r.length ∧ L.length ≤ r.length := by
  induction h with
  | nil => intro _; exact ⟨by simp, rfl, rfl, Nat.zero_le _, Nat.le_refl _⟩
  | num hc hn ih =>
    rename_i L r n
    intro hr
    rw [List.length_append, List.length_singleton] at hr
    obtain ⟨a, b, c, d, e⟩ := ih (by omega)
    have hz := fb_le ⟨k, 0, us n, ⟨#[]⟩⟩
    refine ⟨?_, ?_, ?_, ?_, ?_⟩
    · intro f hf
      rcases List.mem_append.1 hf with hf | hf
      · exact a f hf
      · simp at hf; subst hf; exact ⟨⟨us_fits n, by unfold Fits64; show (0 : Nat) < 18446744073709551616; omega⟩, rfl⟩
    · rw [wanted_snoc, if_neg (fb_num_ne _ _ h1 h2), b]; simp [norm]
    · rw [ints_cat _ _ _ _ c]
      have : addF ⟨k, 0, us n, ⟨#[]⟩⟩ r = (r ++ [n], 0) := by unfold addF; simp [sg_us hn]; omega
      rw [ints_ok this]; rfl
    · rw [cat_snoc, ByteArray.size_append, List.length_append, List.length_singleton]
      have : ByteArray.size ⟨#[]⟩ = 0 := rfl
      simp only at hz
      omega
    · simp; omega
  | part hc hn hp ih =>
    rename_i L r p
    intro hr
    rw [List.length_append] at hr
    obtain ⟨a, b, c, d, e⟩ := ih (by omega)
    have hz := fb_le ⟨k, 2, 0, cps p⟩
    have hz2 := cps_le p
    have hp0 : p.length ≠ 0 := by simpa using hp
    refine ⟨?_, ?_, ?_, ?_, ?_⟩
    · intro f hf
      rcases List.mem_append.1 hf with hf | hf
      · exact a f hf
      · simp at hf; subst hf; exact ⟨⟨by unfold Fits64; simp, by unfold Fits64; simp only; omega⟩, rfl⟩
    · rw [wanted_snoc, if_neg (fb_part_ne _ _ h1 h2), b]; simp [norm]
    · rw [ints_cat _ _ _ _ c]
      have : addF ⟨k, 2, 0, cps p⟩ r = (r ++ p, 0) := by unfold addF; simp; exact pks_cps p r hn (by omega)
      rw [ints_ok this]; rfl
    · rw [cat_snoc, ByteArray.size_append, List.length_append]
      simp only at hz
      omega
    · simp; omega
/-- a part of a row, written: nothing, or one field more -/
theorem cut_pt {k : Int} {L : List WFd} {r p : List Int} (h : Cut k L r) (hp : ∀ n ∈ p, In64 n) : ∃ L', Cut k L' (r ++ p) ∧ cat L' = cat L ++ pt k p := by
  by_cases h0 : p = []
  · subst h0
    refine ⟨L, by simpa using h, ?_⟩
    apply ba_eq; simp [pt]
  · exact ⟨_, .part h hp h0, by rw [cat_snoc, pt, if_neg h0]⟩
theorem fields_cut {k : Int} (h1 : 1 ≤ k) (h2 : k ≤ 100) {L : List WFd} {r : List Int} (h : Cut k L r) (hr : r.length ≤ 300) : fields (cat L) = (L, 0) := by
  obtain ⟨a, b, c, d, e⟩ := cut_all h1 h2 h (by omega)
  unfold fields
  rw [if_neg (by omega), flw_cat L (fun f hf => (a f hf).1), b]
end Go.Proofs.YtiniicehfjgpgaaGreat.M3
