import Derived.Lib.Hide
import Derived.Laws.BitsAllLaws
import Derived.IntWalk
import GoSem.Core.Value
import Derived.RowKit
import Derived.WalkKit
import Derived.Maps.AppendAt
import Derived.Laws.BytesString
import Derived.Deep.MidRow
import Derived.Deep.Draws
import Derived.OwnWalk
import Derived.Test.YtjjfdlgoacockaaGreatRows
import Derived.Outline
import Derived.WalkSpells
import Derived.WalkMore
import Derived.OneCell
namespace Go.Proofs.YtjjfdlgoacockaaGreat.M1

def putN : Nat→Nat→List UInt8
  | 0,_ => []
  | k + 1,v => if v < 128 then [UInt8.ofNat v] else UInt8.ofNat (v % 128 + 128) :: putN k (v / 128)
def sizeN : Nat→Nat→Nat
  | 0,_ => 0
  | k + 1,v => if v < 128 then 1 else sizeN k (v / 128) + 1
def Fits (k v : Nat) : Prop := v < 128 ^ k
def Fits64 (v : Nat) : Prop := v < 18446744073709551616
theorem fits_div {k v : Nat} (h : Fits (k + 1) v) : Fits k (v / 128) := by
  unfold Fits at *; rw [Nat.pow_succ] at h; omega
theorem fits_one {v : Nat} (h : Fits 1 v) : v < 128 := by unfold Fits at h; omega
theorem fits_of64 {v : Nat} (h : Fits64 v) : Fits 10 v := by unfold Fits; unfold Fits64 at h; omega
theorem fits_mono {k n v : Nat} (h : Fits k v) (hn : k + n = 10) : Fits 10 v := by
  unfold Fits at *
  exact Nat.lt_of_lt_of_le h (Nat.pow_le_pow_right (by omega) (by omega))
theorem fits_le {k v : Nat} (h : Fits k v) (hk : k≤10) : Fits 10 v := fits_mono h (n := 10 - k) (by omega)
theorem sizeN_len (k v : Nat) : (putN k v).length = sizeN k v := by
  induction k generalizing v with
  | zero => rfl
  | succ k ih => unfold putN sizeN; split <;> simp [ih]
theorem sizeN_le (k v : Nat) : sizeN k v≤k := by
  induction k generalizing v with
  | zero => simp [sizeN]
  | succ k ih => unfold sizeN; split <;> simp; exact ih _
theorem wrap_div {x : Nat} (h : Fits 10 x) : IntKind.u64.wrap ((x : Int) / 128) = ((x / 128 : Nat) : Int) := by
  unfold Fits at h
  rw [IntWalk.u64_in _ (by omega)]; omega
theorem sizeN_lo {k x : Nat} (hk : 0 < k) (h : x < 128) : sizeN k x = 1 := by
  obtain ⟨j,rfl⟩ : ∃ j,k = j + 1 := ⟨k - 1,by omega⟩
  simp [sizeN,h]
theorem sizeN_hi {k x : Nat} (hk : 0 < k) (hx : 128≤x) (hf : Fits k x) : ∃ j,k = j + 1∧0 < j∧sizeN k x = sizeN j (x / 128) + 1∧Fits j (x / 128) := by
  obtain ⟨j,rfl⟩ : ∃ j,k = j + 1 := ⟨k - 1,by omega⟩
  refine ⟨j,rfl,?_,by simp [sizeN,Nat.not_lt.2 hx],fits_div hf⟩
  rcases Nat.eq_zero_or_pos j with rfl | h
  · have := fits_one hf; omega
  · exact h
theorem putN_lo {k x : Nat} (hk : 0 < k) (h : x < 128) : putN k x = [UInt8.ofNat x] := by
  obtain ⟨j,rfl⟩ : ∃ j,k = j + 1 := ⟨k - 1,by omega⟩
  simp [putN,h]
theorem putN_hi {k x : Nat} (hk : 0 < k) (hx : 128≤x) (hf : Fits k x) : ∃ j,k = j + 1∧0 < j∧putN k x = UInt8.ofNat (x % 128 + 128) :: putN j (x / 128)∧Fits j (x / 128) := by
  obtain ⟨j,rfl,h0,_,hf'⟩ := sizeN_hi hk hx hf
  exact ⟨j,rfl,h0,by simp [putN,Nat.not_lt.2 hx],hf'⟩

def rdL : Nat → Nat → List UInt8 → Nat → Nat × Nat × Nat
  | 0,_,_,_ => (0,0,2)
  | _ + 1,_,[],_ => (0,0,1)
  | k + 1,i,c :: l,v => if i = 9∧1 < c.toNat then (0,0,2) else
    if c.toNat < 128 then (v + c.toNat % 128 * 128 ^ i,i + 1,0) else rdL k (i + 1) l (v + c.toNat % 128 * 128 ^ i)
def rdS (s : ByteArray) (i v : Nat) : Nat×Nat×Nat := rdL (10 - i) i (s.data.toList.drop i) v
def rd (s : ByteArray) : Nat×Nat×Nat := rdL 10 0 s.data.toList 0
theorem rd_start (s : ByteArray) : rd s = rdS s 0 0 := by simp [rd,rdS]
theorem drop_at {s : ByteArray} {i : Nat} (h : i < s.size) : s.data.toList.drop i = s[i] :: s.data.toList.drop (i + 1) := by
  rw [List.drop_eq_getElem_cons (by simpa using h)]; rfl
theorem rdS_end {s : ByteArray} {i v : Nat} (hi : i < 10) (h : i = s.size) : rdS s i v = (0,0,1) := by
  obtain ⟨j,hj⟩ : ∃ j,10 - i = j + 1 := ⟨9 - i,by omega⟩
  have : s.data.toList.drop i = [] := by apply List.drop_eq_nil_of_le; simp [h]
  rw [rdS,hj,this]; rfl
theorem rdS_long {s : ByteArray} {i v : Nat} (h : i < s.size) (h9 : i = 9) (hc : 1 < s[i].toNat) : rdS s i v = (0,0,2) := by
  subst h9
  rw [rdS,drop_at h]
  simp only [rdL,hc,and_self,if_true]
theorem rdS_last {s : ByteArray} {i v : Nat} (hi : i < 10) (h : i < s.size) (hno : ¬ (i = 9∧1 < s[i].toNat)) (hc : s[i].toNat < 128) :
    rdS s i v = (v + s[i].toNat % 128 * 128 ^ i,i + 1,0) := by
  obtain ⟨j,hj⟩ : ∃ j,10 - i = j + 1 := ⟨9 - i,by omega⟩
  rw [rdS,hj,drop_at h,rdL,if_neg hno,if_pos hc]
theorem rdS_more {s : ByteArray} {i v : Nat} (hi : i < 10) (h : i < s.size) (hno : ¬ (i = 9∧1 < s[i].toNat)) (hc : 128≤s[i].toNat) :
    rdS s i v = rdS s (i + 1) (v + s[i].toNat % 128 * 128 ^ i)∧i + 1 < 10 := by
  have h9 : i≠9 := fun h9 => hno ⟨h9,by omega⟩
  obtain ⟨j,hj⟩ : ∃ j,10 - i = j + 1 := ⟨9 - i,by omega⟩
  refine ⟨?_,by omega⟩
  rw [rdS,hj,drop_at h,rdL,if_neg hno,if_neg (by omega),rdS,show 10 - (i + 1) = j from by omega]

def pw (i : Nat) : Nat := 128 ^ i
theorem pw_le {i : Nat} (h : i≤9) : pw i≤9223372036854775808 := by
  have : pw i≤128 ^ 9 := Nat.pow_le_pow_right (by omega) h
  omega
theorem pw_succ (i : Nat) : pw (i + 1) = pw i * 128 := Nat.pow_succ _ _
theorem step_lt {i v c : Nat} (hv : v < pw i) : v + c % 128 * pw i < pw (i + 1) := by
  rw [pw_succ]
  have h : c % 128 + 1≤128 := by omega
  have h2 := Nat.mul_le_mul_right (pw i) h
  rw [Nat.add_mul,Nat.one_mul,Nat.mul_comm 128] at h2
  omega
theorem step_64 {i v c : Nat} (hi : i < 10) (hv : v < pw i) (hno : ¬ (i = 9∧1 < c)) : v + c % 128 * pw i < 18446744073709551616 := by
  by_cases h : i = 9
  · subst h
    have hc : c % 128≤1 := by omega
    have := Nat.mul_le_mul_right (pw 9) hc
    have := pw_le (i := 9) (by omega)
    omega
  · have := step_lt (c := c) hv
    have := pw_le (i := i + 1) (by omega)
    omega
theorem bound_mul {i c : Nat} (hi : i < 10) (hno : ¬ (i = 9∧1 < c)) : c % 128 * pw i < 18446744073709551616 := by
  have h0 : 0 < pw i := Nat.pow_pos (by omega)
  have := step_64 (v := 0) hi h0 hno
  omega
theorem or_step {i v c : Nat} (hi : i < 10) (hv : v < pw i) (hno : ¬ (i = 9∧1 < c)) :
    bits .or .u64 (v : Int) (IntKind.u64.wrap ((c : Int) % 128 * 2 ^ (7 * i))) = ((v + c % 128 * 128 ^ i : Nat) : Int) := by
  have e : (2 : Int) ^ (7 * i) = ((pw i : Nat) : Int) := by
    rw [pw,show (128 : Nat) = 2 ^ 7 from rfl,← Nat.pow_mul,Int.natCast_pow]; rfl
  have hb := bound_mul (c := c) hi hno
  have e2 : ((c : Int) % 128 * ((pw i : Nat) : Int)) = ((c % 128 * pw i : Nat) : Int) := by simp
  have h64 := step_64 (c := c) hi hv hno
  rw [e,e2,IntWalk.u64_in _ (by omega),u64_or_nat _ _ (by omega) hb]
  congr 1
  rw [Nat.or_comm,pw,show (128 : Nat) ^ i = 2 ^ (7 * i) from by rw [show (128 : Nat) = 2 ^ 7 from rfl,← Nat.pow_mul]]
  have hv' : v < 2 ^ (7 * i) := by
    have : pw i = 2 ^ (7 * i) := by rw [pw,show (128 : Nat) = 2 ^ 7 from rfl,← Nat.pow_mul]
    omega
  have := Nat.shiftLeft_add_eq_or_of_lt hv' (c % 128)
  rw [Nat.shiftLeft_eq] at this
  omega
theorem or_step9 {v c : Nat} (hv : v < pw 9) (hno : c≤1) :
    bits .or .u64 (v : Int) ((c : Int) % 128 * 9223372036854775808) = ((v + c % 128 * 128 ^ 9 : Nat) : Int) := by
  have h := or_step (c := c) (by omega) hv (by omega)
  have e : ((2 : Int) ^ (7 * 9)) = 9223372036854775808 := by decide
  rw [e,IntWalk.u64_in _ (by omega)] at h
  exact h
theorem add_step {i v c : Nat} (hi : i < 10) (hv : v < pw i) (hno : ¬ (i = 9∧1 < c)) :
    IntKind.u64.wrap ((v : Int) + IntKind.u64.wrap ((c : Int) % 128 * ((pw i : Nat) : Int))) = ((v + c % 128 * 128 ^ i : Nat) : Int) := by
  have hb := bound_mul (c := c) hi hno
  have e2 : ((c : Int) % 128 * ((pw i : Nat) : Int)) = ((c % 128 * pw i : Nat) : Int) := by simp
  have h64 := step_64 (c := c) hi hv hno
  have e3 := IntWalk.u64_in ((c % 128 * pw i : Nat) : Int) (by omega)
  rw [e2,e3,IntWalk.u64_in _ (by omega)]
  simp [pw]
theorem unit_step {i : Nat} (hi : i < 9) : IntKind.u64.wrap (((pw i : Nat) : Int) * 128) = ((pw (i + 1) : Nat) : Int) := by
  have := pw_le (i := i + 1) (by omega)
  have e : ((pw i : Nat) : Int) * 128 = ((pw (i + 1) : Nat) : Int) := by rw [pw_succ]; simp
  rw [e,IntWalk.u64_in _ (by omega)]

theorem rd_put (k : Nat) : ∀ (i v a : Nat) (t : List UInt8), k + i = 10 → 0 < k → Fits k v → v * pw i < 18446744073709551616 →
    rdL k i (putN k v ++ t) a = (a + v * pw i,i + sizeN k v,0) := by
  induction k with
  | zero => intro i v a t _ h; omega
  | succ k ih =>
    intro i v a t hk _ hf hb
    by_cases h : v < 128
    · have hto : (UInt8.ofNat v).toNat = v := by simp; omega
      have hno : ¬ (i = 9∧1 < v) := by
        rintro ⟨rfl,h1⟩
        have h2 := Nat.mul_le_mul_right (pw 9) (show 2≤v from h1)
        have : pw 9 = 9223372036854775808 := rfl
        omega
      simp only [putN,if_pos h,List.cons_append,List.nil_append,rdL,hto,if_neg hno,sizeN,Nat.mod_eq_of_lt h,pw]
    · have hto : (UInt8.ofNat (v % 128 + 128)).toNat = v % 128 + 128 := by simp; omega
      have h9 : i≠9 := by
        rintro rfl
        have h2 := Nat.mul_le_mul_right (pw 9) (show 128≤v from by omega)
        have : pw 9 = 9223372036854775808 := rfl
        omega
      have hk0 : 0 < k := by omega
      have e : v * pw i = v % 128 * pw i + v / 128 * pw (i + 1) := by
        have h3 : v = 128 * (v / 128) + v % 128 := (Nat.div_add_mod v 128).symm
        have h4 : v / 128 * pw (i + 1) = 128 * (v / 128) * pw i := by rw [pw_succ,Nat.mul_comm (pw i) 128,← Nat.mul_assoc,Nat.mul_comm (v / 128) 128]
        rw [h4,← Nat.add_mul,Nat.add_comm]
        exact congrArg (· * pw i) h3
      have hm : (v % 128 + 128) % 128 = v % 128 := by omega
      simp only [putN,if_neg h,List.cons_append,rdL,hto,hm,sizeN]
      rw [if_neg (by omega),if_neg (by omega),ih (i + 1) (v / 128) _ t (by omega) hk0 (fits_div hf) (by omega)]
      simp only [pw] at *
      rw [e]
      simp only [Prod.mk.injEq,and_true]
      omega

theorem rd_ok (k : Nat) : ∀ (i a y n : Nat) (l : List UInt8), k + i = 10 → a < pw i → rdL k i l a = (y, n, 0) →
    ∃ m j,y = a + m * pw i∧n = i + j∧j≤l.length∧sizeN k m≤j∧(sizeN k m = j→l.take j = putN k m)∧y < 18446744073709551616 := by
  induction k with
  | zero => intro i a y n l _ _ h; simp [rdL] at h
  | succ k ih =>
    intro i a y n l hk ha h
    match l,h with
    | [],h => simp [rdL] at h
    | c :: l, h =>
      rw [rdL] at h
      by_cases hno : i = 9∧1 < c.toNat
      · rw [if_pos hno] at h; simp at h
      · rw [if_neg hno] at h
        by_cases hc : c.toNat < 128
        · rw [if_pos hc] at h
          simp only [Prod.mk.injEq,and_true] at h
          obtain ⟨rfl,rfl⟩ := h
          have hm : c.toNat % 128 = c.toNat := Nat.mod_eq_of_lt hc
          refine ⟨c.toNat,1,by rw [hm,pw],rfl,by simp,by simp [sizeN,hc],?_,step_64 (by omega) ha hno⟩
          intro _
          simp [putN,hc]
        · rw [if_neg hc] at h
          obtain ⟨m,j,h1,h2,h3,h4,h5,h6⟩ := ih (i + 1) _ y n l (by omega) (step_lt ha) h
          have hm : (c.toNat % 128 + 128 * m) / 128 = m∧(c.toNat % 128 + 128 * m) % 128 = c.toNat % 128 := by omega
          refine ⟨c.toNat % 128 + 128 * m,j + 1,?_,by omega,by simp; omega,?_,?_,h6⟩
          · rw [h1,pw_succ,Nat.add_mul,pw]
            have : m * (128 ^ i * 128) = 128 * m * 128 ^ i := by rw [Nat.mul_comm (128 ^ i) 128,← Nat.mul_assoc,Nat.mul_comm m 128]
            omega
          · rw [sizeN]
            split
            · omega
            · rw [hm.1]; omega
          · rw [sizeN, putN]
            split
            · intro hj
              have : j = 0 := by omega
              have hz : m = 0 := by omega
              subst hz
              -- then sizeN k 0 would be 0
              have hk0 : 0 < k := by
                rcases Nat.eq_zero_or_pos k with rfl | h0
                · exfalso; exact hno ⟨by omega,by omega⟩
                · exact h0
              have := sizeN_lo hk0 (show 0 < 128 by omega)
              omega
            · rw [hm.1,hm.2]
              intro hj
              have hc' : c.toNat < 256 := c.toNat_lt
              have e : c.toNat % 128 + 128 = c.toNat := by omega
              rw [List.take_succ_cons,h5 (by omega),e]
              simp

def ps (v : Nat) : ByteArray := ⟨(putN 10 v).toArray⟩
theorem ps_size (v : Nat) : (ps v).size = sizeN 10 v := by rw [← sizeN_len]; rfl
theorem rd_back {v : Nat} (hv : Fits64 v) (s t : ByteArray) (h : s.data.toList = putN 10 v) : rd (s ++ t) = (v,sizeN 10 v,0) := by
  unfold Fits64 at hv
  have e : (s ++ t).data.toList = putN 10 v ++ t.data.toList := by simp [h]
  rw [rd,e,rd_put 10 0 v 0 _ rfl (by omega) (fits_of64 hv) (by simpa [pw] using hv)]
  simp [pw]
theorem rd_fine {s : ByteArray} (h : (rd s).2.2 = 0) : (rd s).2.1≤s.size∧sizeN 10 (rd s).1≤(rd s).2.1∧(sizeN 10 (rd s).1 = (rd s).2.1→s.data.toList.take (rd s).2.1 = putN 10 (rd s).1)∧Fits64 (rd s).1 := by
  obtain ⟨y,n,e,hr⟩ : ∃ y n e,rd s = (y,n,e) := ⟨_,_,_,rfl⟩
  rw [hr] at h ⊢
  simp only at h ⊢
  subst h
  obtain ⟨m,j,h1,h2,h3,h4,h5,h6⟩ := rd_ok 10 0 0 y n _ rfl (by decide) hr
  have e1 : y = m := by simpa [pw] using h1
  have e2 : n = j := by omega
  subst e1 e2
  exact ⟨by simpa using h3,h4,h5,h6⟩
end Go.Proofs.YtjjfdlgoacockaaGreat.M1
namespace Go.Proofs.YtjjfdlgoacockaaGreat.M2
open M1

def low : List UInt8→Nat
  | [] => 0
  | b :: l => b.toNat + 256 * low l
def pb (i : Nat) : Nat := 256 ^ i
theorem pb_succ (i : Nat) : pb (i + 1) = pb i * 256 := Nat.pow_succ _ _
theorem pb_le {i : Nat} (h : i≤7) : pb i≤72057594037927936 := Nat.pow_le_pow_right (n := 256) (by omega) h
theorem pb_le8 {i : Nat} (h : i≤8) : pb i≤18446744073709551616 := Nat.pow_le_pow_right (n := 256) (by omega) h
theorem low_lt (l : List UInt8) : low l < pb l.length := by
  induction l with
  | nil => simp [low,pb]
  | cons b l ih =>
    have := b.toNat_lt
    rw [low,List.length_cons,pb_succ]
    omega
theorem low_append (a b : List UInt8) : low (a ++ b) = low a + pb a.length * low b := by
  induction a with
  | nil => simp [low,pb]
  | cons c a ih =>
    rw [List.cons_append,low,low,ih,List.length_cons,pb_succ,Nat.mul_add,Nat.mul_comm (pb a.length) 256,Nat.mul_assoc]
    omega
theorem low_snoc (a : List UInt8) (c : UInt8) : low (a ++ [c]) = low a + c.toNat * pb a.length := by
  rw [low_append]; simp [low,Nat.mul_comm]

def hi : Nat→Nat→List UInt8
  | 0,_ => []
  | k + 1,v => UInt8.ofNat (v % 256) :: hi k (v / 256)
theorem hi_len (k v : Nat) : (hi k v).length = k := by
  induction k generalizing v with
  | zero => rfl
  | succ k ih => simp [hi,ih]
theorem hi_snoc (k : Nat) : ∀ v,hi (k + 1) v = hi k v ++ [UInt8.ofNat (v / pb k % 256)] := by
  induction k with
  | zero => intro v; simp [hi,pb]
  | succ k ih =>
    intro v
    rw [hi,ih,hi,List.cons_append]
    have : v / 256 / pb k = v / pb (k + 1) := by rw [Nat.div_div_eq_div_mul,pb_succ,Nat.mul_comm]
    rw [this]
theorem low_hi (k : Nat) : ∀ v,low (hi k v) = v % pb k := by
  induction k with
  | zero => intro v; simp [hi,low,pb,Nat.mod_one]
  | succ k ih =>
    intro v
    rw [hi,low,ih,pb_succ,Nat.mul_comm (pb k) 256,Nat.mod_mul]
    simp
def hs (k v : Nat) : ByteArray := ⟨(hi k v).toArray⟩
theorem hs_list (k v : Nat) : (hs k v).data.toList = hi k v := rfl
theorem hs_size (k v : Nat) : (hs k v).size = k := by
  show (hi k v).toArray.size = k
  simp [hi_len]
theorem low_hi_fit {k v : Nat} (h : v < pb k) : low (hi k v) = v := by rw [low_hi,Nat.mod_eq_of_lt h]

theorem lor_step {i v : Nat} {c : UInt8} (hi : i < 8) (hv : v < pb i) :
    bits .or .u64 (v : Int) (IntKind.u64.wrap ((c.toNat : Int) * 2 ^ (8 * i))) = ((v + c.toNat * pb i : Nat) : Int) := by
  have e : (2 : Int) ^ (8 * i) = ((pb i : Nat) : Int) := by
    rw [pb,show (256 : Nat) = 2 ^ 8 from rfl,← Nat.pow_mul,Int.natCast_pow]; rfl
  have hc := c.toNat_lt
  have h1 : c.toNat * pb i≤255 * pb i := Nat.mul_le_mul_right _ (by omega)
  have h2 := pb_le (i := i) (by omega)
  have e2 : ((c.toNat : Int) * ((pb i : Nat) : Int)) = ((c.toNat * pb i : Nat) : Int) := by simp
  rw [e,e2,IntWalk.u64_in _ (by omega),u64_or_nat _ _ (by omega) (by omega)]
  congr 1
  have e3 : pb i = 2 ^ (8 * i) := by rw [pb,show (256 : Nat) = 2 ^ 8 from rfl,← Nat.pow_mul]
  rw [Nat.or_comm]
  have := Nat.shiftLeft_add_eq_or_of_lt (show v < 2 ^ (8 * i) by omega) c.toNat
  rw [Nat.shiftLeft_eq,← e3] at this
  omega

theorem take_snoc {s : ByteArray} {k : Nat} (h : k < s.size) : s.data.toList.take (k + 1) = s.data.toList.take k ++ [s[k]] := by
  rw [List.take_succ_eq_append_getElem (by simpa using h)]; rfl

structure WFd where
  num : Int
  typ : Int
  n : Nat
  data : ByteArray
def fd0 : WFd := ⟨0,0,0,⟨#[]⟩⟩
def mayB (num typ : Int) : Bool := decide (1≤num∧num≤536870911∧(typ = 0∨typ = 1∨typ = 2∨typ = 5))
def rest (s : ByteArray) (k : Nat) : ByteArray := s.extract k s.size
theorem rest_list (s : ByteArray) (k : Nat) : (rest s k).data.toList = s.data.toList.drop k := by
  rw [rest]
  simp only [ByteArray.data_extract,Array.toList_extract,List.extract_eq_take_drop]
  rw [List.take_of_length_le]
  simp
theorem rest_size (s : ByteArray) (k : Nat) : (rest s k).size = s.size - k := by simp [rest]
theorem rest_rest (s : ByteArray) (a b : Nat) : rest (rest s a) b = rest s (a + b) := by
  apply ByteArray.ext
  apply Array.ext'
  rw [rest_list,rest_list,rest_list,List.drop_drop]
theorem rest_zero (s : ByteArray) : rest s 0 = s := by
  apply ByteArray.ext
  apply Array.ext'
  rw [rest_list]; simp
theorem cut_list (s : ByteArray) (a k : Nat) : (s.extract a (a + k)).data.toList = (s.extract a s.size).data.toList.take k := by
  have h := rest_list s a
  rw [rest] at h
  rw [h]
  simp only [ByteArray.data_extract,Array.toList_extract,List.extract_eq_take_drop]
  rw [show a + k - a = k by omega]
theorem cut_cut {s B : ByteArray} {a m N : Nat} (h : s.extract a s.size = B) : s.extract (a + m) (a + m + N) = B.extract m (m + N) := by
  apply ByteArray.ext
  apply Array.ext'
  rw [cut_list,cut_list]
  congr 1
  have h1 := rest_rest s a m
  have e1 : rest s a = B := h
  rw [e1] at h1
  exact congrArg (fun b : ByteArray => b.data.toList) h1.symm
def rl (s : ByteArray) (n : Nat) : Nat×Nat×Nat := if s.size < n then (0,0,1) else (low (s.data.toList.take n),n,0)
def rt (s : ByteArray) : ByteArray×Nat×Nat :=
  if (rd s).2.2≠0 then (⟨#[]⟩,0,(rd s).2.2)
  else if s.size - (rd s).2.1 < (rd s).1 then (⟨#[]⟩,0,1)
  else (s.extract (rd s).2.1 ((rd s).2.1 + (rd s).1),(rd s).2.1 + (rd s).1,0)
def pay (typ : Nat) (s : ByteArray) : Nat×ByteArray×Nat×Nat :=
  if typ = 0 then ((rd s).1,⟨#[]⟩,(rd s).2.1,(rd s).2.2)
  else if typ = 1 then ((rl s 8).1,⟨#[]⟩,(rl s 8).2.1,(rl s 8).2.2)
  else if typ = 2 then (0,(rt s).1,(rt s).2.1,(rt s).2.2)
  else ((rl s 4).1,⟨#[]⟩,(rl s 4).2.1,(rl s 4).2.2)
def one (s : ByteArray) : WFd×Nat×Nat :=
  if (rd s).2.2≠0 then (fd0,0,(rd s).2.2)
  else if mayB ((rd s).1 / 8 : Nat) ((rd s).1 % 8 : Nat) = false then (fd0,0,3)
  else if (pay ((rd s).1 % 8) (rest s (rd s).2.1)).2.2.2≠0 then (fd0,0,(pay ((rd s).1 % 8) (rest s (rd s).2.1)).2.2.2)
  else (⟨((rd s).1 / 8 : Nat),((rd s).1 % 8 : Nat),(pay ((rd s).1 % 8) (rest s (rd s).2.1)).1,(pay ((rd s).1 % 8) (rest s (rd s).2.1)).2.1⟩,(rd s).2.1 + (pay ((rd s).1 % 8) (rest s (rd s).2.1)).2.2.1,0)

theorem rdL_bound (k : Nat) : ∀ (i a : Nat) (l : List UInt8), k + i = 10 → (rdL k i l a).2.2 = 0 → i < (rdL k i l a).2.1 := by
  induction k with
  | zero => intro i a l _ h; simp [rdL] at h
  | succ k ih =>
    intro i a l hk h
    match l,h with
    | [],h => simp [rdL] at h
    | c :: l, h =>
      rw [rdL] at h ⊢
      split
      · rename_i h1; simp [h1] at h
      · rename_i h1
        rw [if_neg h1] at h
        split
        · simp
        · rename_i h2
          rw [if_neg h2] at h
          have := ih (i + 1) _ l (by omega) h
          omega
theorem rd_pos {s : ByteArray} (h : (rd s).2.2 = 0) : 0 < (rd s).2.1 := rdL_bound 10 0 0 _ rfl h
theorem rdL_zero (k : Nat) : ∀ (i a : Nat) (l : List UInt8), (rdL k i l a).2.2 ≠ 0 → (rdL k i l a).1 = 0 ∧ (rdL k i l a).2.1 = 0 := by
  induction k with
  | zero => intro i a l _; simp [rdL]
  | succ k ih =>
    intro i a l h
    match l,h with
    | [],h => simp [rdL]
    | c :: l, h =>
      rw [rdL] at h ⊢
      split
      · simp
      · rename_i h1
        rw [if_neg h1] at h
        split
        · rename_i h2; simp [h2] at h
        · rename_i h2
          rw [if_neg h2] at h
          exact ih _ _ _ h
theorem rd_err {s : ByteArray} (h : (rd s).2.2≠0) : (rd s).1 = 0∧(rd s).2.1 = 0 := rdL_zero 10 0 0 _ h
theorem rdL_code (k : Nat) : ∀ (i a : Nat) (l : List UInt8), (rdL k i l a).2.2 ≤ 2 := by
  induction k with
  | zero => intro i a l; simp [rdL]
  | succ k ih =>
    intro i a l
    match l with
    | [] => simp [rdL]
    | c :: l =>
      rw [rdL]
      split
      · simp
      · split
        · simp
        · exact ih _ _ _
theorem rd_code (s : ByteArray) : (rd s).2.2≤2 := rdL_code _ _ _ _

theorem pay_fit {t : Nat} {s : ByteArray} (h : (pay t s).2.2.2 = 0) : (pay t s).2.2.1 ≤ s.size := by
  unfold pay at h ⊢
  split
  · rename_i h0; simp only [h0,if_true] at h; exact (rd_fine h).1
  · rename_i h0
    simp only [h0,if_false] at h
    split
    · rename_i h1; simp only [h1,if_true] at h
      unfold rl at h ⊢
      split
      · simp
      · simp; omega
    · rename_i h1
      simp only [h1,if_false] at h
      split
      · rename_i h2
        simp only [h2,if_true] at h
        unfold rt at h ⊢
        split
        · simp
        · rename_i h3
          have h3' : (rd s).2.2 = 0 := by omega
          have := (rd_fine h3').1
          split
          · simp
          · simp; omega
      · rename_i h2
        simp only [h2,if_false] at h
        unfold rl at h ⊢
        split
        · simp
        · simp; omega
theorem one_fit {s : ByteArray} (h : (one s).2.2 = 0) : 0 < (one s).2.1 ∧ (one s).2.1 ≤ s.size := by
  unfold one at h ⊢
  split
  · rename_i h0; rw [if_pos h0] at h; simp at h; omega
  · rename_i h0
    rw [if_neg h0] at h
    split
    · rename_i h1; rw [if_pos h1] at h; simp at h
    · rename_i h1
      rw [if_neg h1] at h
      split
      · rename_i h2; rw [if_pos h2] at h; simp at h; omega
      · rename_i h2
        have h0' : (rd s).2.2 = 0 := by omega
        have a := rd_pos h0'
        have b := (rd_fine h0').1
        have c := pay_fit (t := (rd s).1 % 8) (s := rest s (rd s).2.1) (by omega)
        rw [rest_size] at c
        simp only
        omega

theorem one_err {s : ByteArray} (he : (rd s).2.2≠0) : one s = (fd0,0,(rd s).2.2) := by unfold one; rw [if_pos he]
theorem one_no {s : ByteArray} (he : (rd s).2.2 = 0) (hm : mayB ((rd s).1 / 8 : Nat) ((rd s).1 % 8 : Nat) = false) : one s = (fd0,0,3) := by
  unfold one; rw [if_neg (by omega),if_pos hm]
theorem one_yes {s : ByteArray} {x n : Nat} (hr : rd s = (x,n,0)) (hm : mayB ((x : Int) / 8) ((x : Int) % 8) = true) (N : Nat) (D : ByteArray) (m c : Nat) (hp : pay (x % 8) (rest s n) = (N,D,m,c)) :
    one s = (if c = 0 then ⟨(x : Int) / 8,(x : Int) % 8,N,D⟩ else fd0,if c = 0 then n + m else 0,c) := by
  unfold one
  rw [hr]
  simp only
  rw [if_neg (by omega),show mayB ((x / 8 : Nat) : Int) ((x % 8 : Nat) : Int) = true from hm,if_neg (by simp),hp]
  by_cases h0 : c = 0
  · simp only [h0,if_true]; simp
  · simp only [h0,if_false]; simp [h0]

def fl : Nat → ByteArray → List WFd × Nat
  | 0,_ => ([],0)
  | k + 1,s => if s.size = 0 then ([],0) else if (one s).2.2≠0 then ([],(one s).2.2)
    else if (fl k (rest s (one s).2.1)).2≠0 then ([],(fl k (rest s (one s).2.1)).2) else ((one s).1 :: (fl k (rest s (one s).2.1)).1,0)
theorem fl_fuel (k : Nat) : ∀ (m : Nat) (s : ByteArray), s.size ≤ k → s.size ≤ m → fl k s = fl m s := by
  induction k with
  | zero =>
    intro m s hk hm
    have h0 : s.size = 0 := by omega
    cases m with
    | zero => rfl
    | succ m => simp [fl,h0]
  | succ k ih =>
    intro m s hk hm
    by_cases h0 : s.size = 0
    · cases m with
      | zero => simp [fl,h0]
      | succ m => simp [fl,h0]
    · obtain ⟨m,rfl⟩ : ∃ j,m = j + 1 := ⟨m - 1,by omega⟩
      rw [fl,fl]
      by_cases he : (one s).2.2 = 0
      · have hf := one_fit he
        have hr := rest_size s (one s).2.1
        rw [ih m (rest s (one s).2.1) (by omega) (by omega)]
      · simp [he]
def flw (s : ByteArray) : List WFd×Nat := fl s.size s
def fields (s : ByteArray) : List WFd×Nat := if 1048576 < s.size then ([],2) else flw s
def jn (acc : List WFd) (r : List WFd×Nat) : List WFd×Nat := if r.2 = 0 then (acc ++ r.1,0) else ([],r.2)
theorem jn_nil (s : ByteArray) : jn [] (flw s) = flw s := by
  have H : ∀ k s,(fl k s).2≠0→(fl k s).1 = [] := by
    intro k
    induction k with
    | zero => intro s h; simp [fl] at h
    | succ k ih =>
      intro s h
      rw [fl] at h ⊢
      split
      · rfl
      · split
        · rfl
        · split
          · rfl
          · rename_i h1 h2 h3
            rw [if_neg h1,if_neg h2,if_neg h3] at h
            simp at h
  unfold jn
  split
  · rename_i h; simp [← h]
  · rename_i h; rw [← H _ _ h]; rfl
theorem flw_end {s : ByteArray} (h : s.size = 0) : flw s = ([],0) := by rw [flw,h]; rfl
theorem flw_err {s : ByteArray} (h : s.size≠0) (he : (one s).2.2≠0) : flw s = ([],(one s).2.2) := by
  obtain ⟨k,hk⟩ : ∃ k,s.size = k + 1 := ⟨s.size - 1,by omega⟩
  rw [flw,hk,fl,if_neg h,if_pos he]
theorem flw_step {s : ByteArray} (h : s.size≠0) (he : (one s).2.2 = 0) (acc : List WFd) : jn acc (flw s) = jn (acc ++ [(one s).1]) (flw (rest s (one s).2.1)) := by
  obtain ⟨k,hk⟩ : ∃ k,s.size = k + 1 := ⟨s.size - 1,by omega⟩
  have hf := one_fit he
  have hr := rest_size s (one s).2.1
  have e : fl k (rest s (one s).2.1) = flw (rest s (one s).2.1) := fl_fuel _ _ _ (by omega) (by omega)
  rw [flw,hk,fl,if_neg h,if_neg (by omega),e]
  generalize flw (rest s (one s).2.1) = r
  unfold jn
  by_cases h0 : r.2 = 0 <;> simp [h0]
theorem fields_list_le (s : ByteArray) : (flw s).1.length ≤ s.size := by
  have H : ∀ k s,(fl k s).1.length≤k := by
    intro k
    induction k with
    | zero => intro s; simp [fl]
    | succ k ih =>
      intro s
      rw [fl]
      split
      · simp
      · split
        · simp
        · split
          · simp
          · simp only [List.length_cons]
            have := ih (rest s (one s).2.1)
            omega
  exact H _ _
theorem rd_parts (s : ByteArray) : ∃ x n e,rd s = (x,n,e)∧(e = 0→0 < n∧n≤s.size∧Fits64 x)∧(e≠0→x = 0∧n = 0)∧e≤2 := by
  refine ⟨(rd s).1,(rd s).2.1,(rd s).2.2,rfl,fun h => ⟨rd_pos h,(rd_fine h).1,(rd_fine h).2.2.2⟩,fun h => rd_err h,rd_code s⟩
theorem mayB_typ {num typ : Int} (h : mayB num typ = true) : typ = 0∨typ = 1∨typ = 2∨typ = 5 := by
  unfold mayB at h
  rw [decide_eq_true_iff] at h
  exact h.2.2
theorem low_fits {l : List UInt8} (h : l.length≤8) : Fits64 (low l) := by
  have h1 := low_lt l
  have h2 := pb_le8 h
  unfold Fits64
  omega
theorem rl_fits (s : ByteArray) {n : Nat} (hn : n≤8) : Fits64 (rl s n).1 := by
  unfold rl
  split
  · unfold Fits64; simp
  · exact low_fits (by simp; omega)
theorem rd_fits (s : ByteArray) : Fits64 (rd s).1 := by
  by_cases h : (rd s).2.2 = 0
  · exact (rd_fine h).2.2.2
  · rw [(rd_err h).1]; unfold Fits64; omega
theorem pay_le (t : Nat) (s : ByteArray) : (pay t s).2.2.1 ≤ s.size := by
  by_cases h : (pay t s).2.2.2 = 0
  · exact pay_fit h
  · have : (pay t s).2.2.1 = 0 := by
      unfold pay at h ⊢
      split
      · rename_i h0; simp only [h0,if_true] at h; exact (rd_err h).2
      · rename_i h0
        simp only [h0,if_false] at h
        split
        · rename_i h1; simp only [h1,if_true] at h
          unfold rl at h ⊢
          split
          · rfl
          · rename_i h2; rw [if_neg h2] at h; simp at h
        · rename_i h1
          simp only [h1,if_false] at h
          split
          · rename_i h2
            simp only [h2,if_true] at h
            unfold rt at h ⊢
            split
            · rfl
            · rename_i h3
              rw [if_neg h3] at h
              split
              · rfl
              · rename_i h4; rw [if_neg h4] at h; simp at h
          · rename_i h2
            simp only [h2,if_false] at h
            unfold rl at h ⊢
            split
            · rfl
            · rename_i h3; rw [if_neg h3] at h; simp at h
    omega
end Go.Proofs.YtjjfdlgoacockaaGreat.M2
namespace Go.Proofs.YtjjfdlgoacockaaGreat.M2
open M1

def fb (f : WFd) : ByteArray :=
  if mayB f.num f.typ = false then ⟨#[]⟩
  else if f.typ = 0 then ps (8 * f.num + f.typ).toNat ++ ps f.n
  else if f.typ = 1 then ps (8 * f.num + f.typ).toNat ++ hs 8 f.n
  else if f.typ = 2 then ps (8 * f.num + f.typ).toNat ++ ps f.data.size ++ f.data
  else if 4294967295 < f.n then ⟨#[]⟩ else ps (8 * f.num + f.typ).toNat ++ hs 4 f.n
theorem ps_le (v : Nat) : (ps v).size≤10 := by rw [ps_size]; exact sizeN_le _ _
theorem fb_le (f : WFd) : (fb f).size ≤ 20 + f.data.size := by
  unfold fb
  have h1 := ps_le (8 * f.num + f.typ).toNat
  have h2 := ps_le f.n
  have h3 := ps_le f.data.size
  have h4 := hs_size 8 f.n
  have h5 := hs_size 4 f.n
  split
  · exact Nat.zero_le _
  · split
    · rw [ByteArray.size_append]; omega
    · split
      · rw [ByteArray.size_append]; omega
      · split
        · rw [ByteArray.size_append,ByteArray.size_append]; omega
        · split
          · exact Nat.zero_le _
          · rw [ByteArray.size_append]; omega

def norm (f : WFd) : WFd := if f.typ = 2 then ⟨f.num,f.typ,0,f.data⟩ else ⟨f.num,f.typ,f.n,⟨#[]⟩⟩
theorem ba_eq {a b : ByteArray} (h : a.data.toList = b.data.toList) : a = b := ByteArray.ext (Array.ext' h)
theorem rest_app (a b : ByteArray) : rest (a ++ b) a.size = b := by
  apply ba_eq
  rw [rest_list]
  simp
theorem rd_ps {v : Nat} (hv : Fits64 v) (t : ByteArray) : rd (ps v ++ t) = (v,(ps v).size,0) := by
  rw [rd_back hv (ps v) t rfl,ps_size]
theorem take_app (a b : ByteArray) : (a ++ b).data.toList.take a.size = a.data.toList := by simp
theorem rl_hs {k v : Nat} (h : v < pb k) (t : ByteArray) : rl (hs k v ++ t) k = (v,k,0) := by
  have hz := hs_size k v
  unfold rl
  rw [if_neg (by rw [ByteArray.size_append]; omega)]
  have h1 := take_app (hs k v) t
  rw [hz] at h1
  rw [h1,hs_list,low_hi_fit h]
theorem rt_ps {D : ByteArray} (h : Fits64 D.size) (t : ByteArray) : rt (ps D.size ++ D ++ t) = (D,(ps D.size).size + D.size,0) := by
  unfold rt
  have e : ps D.size ++ D ++ t = ps D.size ++ (D ++ t) := by apply ba_eq; simp
  rw [e,rd_ps h]
  simp only
  rw [if_neg (by omega),if_neg (by rw [ByteArray.size_append,ByteArray.size_append]; omega)]
  congr 1
  apply ba_eq
  have h1 := cut_list (ps D.size ++ (D ++ t)) (ps D.size).size D.size
  rw [h1]
  have h2 := rest_app (ps D.size) (D ++ t)
  unfold rest at h2
  rw [h2]
  exact take_app D t
theorem pb4 : pb 4 = 4294967296 := rfl
theorem pb8 : pb 8 = 18446744073709551616 := rfl
theorem one_fb {f : WFd} (hn : Fits64 f.n) (hD : Fits64 f.data.size) (h : fb f ≠ ⟨#[]⟩) (t : ByteArray) : one (fb f ++ t) = (norm f, (fb f).size, 0) ∧ 0 < (fb f).size := by
  obtain ⟨num,typ,n,D⟩ := f
  simp only at hn hD
  by_cases hm : mayB num typ = false
  · exact absurd (by unfold fb; rw [if_pos hm]) h
  · have hm1 : mayB num typ = true := by simpa using hm
    have hm2 := hm1
    unfold mayB at hm2
    rw [decide_eq_true_iff] at hm2
    obtain ⟨k,rfl⟩ := Int.eq_ofNat_of_zero_le (show 0≤num by omega)
    obtain ⟨j,rfl⟩ := Int.eq_ofNat_of_zero_le (show 0≤typ by omega)
    have hv : (8 * (k : Int) + (j : Int)).toNat = 8 * k + j := by omega
    have h1 : (8 * k + j) / 8 = k := by omega
    have h2 : (8 * k + j) % 8 = j := by omega
    have h64 : Fits64 (8 * k + j) := by unfold Fits64; omega
    have hcast : mayB (((8 * k + j : Nat) : Int) / 8) (((8 * k + j : Nat) : Int) % 8) = true := by
      have e1 : ((8 * k + j : Nat) : Int) / 8 = (k : Int) := by omega
      have e2 : ((8 * k + j : Nat) : Int) % 8 = (j : Int) := by omega
      rw [e1,e2]; exact hm1
    have key : ∀ (P : ByteArray) (N : Nat) (E : ByteArray),fb ⟨k,j,n,D⟩ = ps (8 * k + j) ++ P→pay j (P ++ t) = (N,E,P.size,0)→norm ⟨k,j,n,D⟩ = ⟨k,j,N,E⟩ →
        one (fb ⟨k,j,n,D⟩ ++ t) = (norm ⟨k,j,n,D⟩,(fb ⟨k,j,n,D⟩).size,0)∧0 < (fb ⟨k,j,n,D⟩).size := by
      intro P N E hf hp hnm
      have e : fb ⟨k,j,n,D⟩ ++ t = ps (8 * k + j) ++ (P ++ t) := by rw [hf]; apply ba_eq; simp
      have hr := rd_ps h64 (P ++ t)
      have hs0 : 0 < (ps (8 * k + j)).size := by
        have := rd_pos (s := ps (8 * k + j) ++ (P ++ t)) (by rw [hr])
        rw [hr] at this
        exact this
      have hy := one_yes hr hcast N E P.size 0 (by rw [h2,rest_app]; exact hp)
      rw [e,hy,hnm,hf,ByteArray.size_append]
      refine ⟨?_,by omega⟩
      simp only [if_true]
      have e1 : ((8 * k + j : Nat) : Int) / 8 = (k : Int) := by omega
      have e2 : ((8 * k + j : Nat) : Int) % 8 = (j : Int) := by omega
      rw [e1,e2]
    have hj : j = 0∨j = 1∨j = 2∨j = 5 := by omega
    rcases hj with rfl | rfl | rfl | rfl
    · have hm3 : mayB (k : Int) (0 : Int) = true := hm1
      refine key (ps n) n ⟨#[]⟩ (by unfold fb; simp [hm3]; rw [show (8 * (k : Int)).toNat = 8 * k by omega]) ?_ (by simp [norm])
      have := rd_ps hn t
      simp [pay,this]
    · have hm3 : mayB (k : Int) (1 : Int) = true := hm1
      refine key (hs 8 n) n ⟨#[]⟩ (by unfold fb; simp [hm3]; rw [show (8 * (k : Int) + 1).toNat = 8 * k + 1 by omega]) ?_ (by simp [norm])
      have := rl_hs (k := 8) (v := n) (by rw [pb8]; exact hn) t
      simp [pay,this,hs_size]
    · have hm3 : mayB (k : Int) (2 : Int) = true := hm1
      refine key (ps D.size ++ D) 0 D (by unfold fb; simp [hm3]; rw [show (8 * (k : Int) + 2).toNat = 8 * k + 2 by omega]; apply ba_eq; simp) ?_ (by simp [norm])
      have := rt_ps hD t
      simp [pay,this]
    · have hm3 : mayB (k : Int) (5 : Int) = true := hm1
      by_cases hmax : 4294967295 < n
      · exact absurd (by unfold fb; simp [hm3,hmax]) h
      · refine key (hs 4 n) n ⟨#[]⟩ (by unfold fb; simp [hm3,hmax]; rw [show (8 * (k : Int) + 5).toNat = 8 * k + 5 by omega]) ?_ (by simp [norm])
        have := rl_hs (k := 4) (v := n) (by rw [pb4]; omega) t
        simp [pay,this,hs_size]

def cat : List WFd→ByteArray
  | [] => ⟨#[]⟩
  | f :: l => fb f ++ cat l
def hasB (f : WFd) : Bool := decide ((fb f).size≠0)
theorem hasB_no {f : WFd} (h : (fb f).size = 0) : hasB f = false := by unfold hasB; rw [decide_eq_false_iff_not]; omega
theorem hasB_yes {f : WFd} (h : ¬ (fb f).size = 0) : hasB f = true := by unfold hasB; rw [decide_eq_true_iff]; omega
def wanted (l : List WFd) : List WFd := (l.filter hasB).map norm
theorem fb_nil {f : WFd} (h : (fb f).size = 0) : fb f = ⟨#[]⟩ := by
  apply ba_eq
  have : (fb f).data.toList.length = 0 := by simpa using h
  rw [List.length_eq_zero_iff.1 this]
def FitsF (f : WFd) : Prop := Fits64 f.n∧Fits64 f.data.size
theorem flw_cat (l : List WFd) (h : ∀ f ∈ l, FitsF f) : flw (cat l) = (wanted l, 0) := by
  have H : ∀ (l : List WFd),(∀ f ∈ l,FitsF f)→∀ acc,jn acc (flw (cat l)) = (acc ++ wanted l,0) := by
    intro l
    induction l with
    | nil =>
      intro _ acc
      have : flw (cat []) = ([],0) := flw_end rfl
      rw [this]; simp [jn,wanted]
    | cons f l ih =>
      intro hl acc
      have hf := hl f (by simp)
      have hl' : ∀ g ∈ l,FitsF g := fun g hg => hl g (by simp [hg])
      by_cases h0 : (fb f).size = 0
      · have e : cat (f :: l) = cat l := by
          rw [cat,fb_nil h0]; apply ba_eq; simp
        have e2 : wanted (f :: l) = wanted l := by simp [wanted,hasB_no h0]
        rw [e,e2]; exact ih hl' acc
      · have hne : fb f≠⟨#[]⟩ := by intro he; rw [he] at h0; exact h0 rfl
        obtain ⟨h1,h2⟩ := one_fb hf.1 hf.2 hne (cat l)
        have hs := flw_step (s := fb f ++ cat l) (by rw [ByteArray.size_append]; omega) (by rw [h1]) acc
        rw [h1] at hs
        simp only at hs
        rw [rest_app] at hs
        rw [cat,hs,ih hl']
        simp [wanted,hasB_yes h0]
  have := H l h []
  rw [jn_nil] at this
  simpa using this
end Go.Proofs.YtjjfdlgoacockaaGreat.M2
namespace Go.Proofs.YtjjfdlgoacockaaGreat.M3
open M1 M2 Go.RowKit

def sg (v : Nat) : Int := wrap64 (v : Int)
def us (n : Int) : Nat := (IntKind.u64.wrap n).toNat
def In64 (n : Int) : Prop := -9223372036854775808≤n∧n≤9223372036854775807
theorem us_eq (n : Int) : IntKind.u64.wrap n = ((us n : Nat) : Int) := by
  unfold us
  have h : IntKind.u64.wrap n = n % 18446744073709551616 := by simp [IntKind.wrap,IntKind.bits,IntKind.signed]
  rw [h]; omega
theorem us_fits (n : Int) : Fits64 (us n) := by
  unfold us Fits64
  have h : IntKind.u64.wrap n = n % 18446744073709551616 := by simp [IntKind.wrap,IntKind.bits,IntKind.signed]
  rw [h]; omega
theorem sg_in (v : Nat) : In64 (sg v) := by unfold sg wrap64 In64; omega

def pk : Nat → ByteArray → List Int → List Int × Nat
  | 0,_,acc => (acc,0)
  | k + 1,s,acc => if s.size = 0 then (acc,0) else if (rd s).2.2≠0 then ([],(rd s).2.2) else if acc.length = 65536 then ([],7)
    else pk k (rest s (rd s).2.1) (acc ++ [sg (rd s).1])
theorem pk_fuel (k : Nat) : ∀ (m : Nat) (s : ByteArray) (acc : List Int), s.size ≤ k → s.size ≤ m → pk k s acc = pk m s acc := by
  induction k with
  | zero =>
    intro m s acc hk hm
    have h0 : s.size = 0 := by omega
    cases m with
    | zero => rfl
    | succ m => simp [pk,h0]
  | succ k ih =>
    intro m s acc hk hm
    by_cases h0 : s.size = 0
    · cases m with
      | zero => simp [pk,h0]
      | succ m => simp [pk,h0]
    · obtain ⟨m,rfl⟩ : ∃ j,m = j + 1 := ⟨m - 1,by omega⟩
      rw [pk,pk]
      by_cases he : (rd s).2.2 = 0
      · have hf := rd_pos he
        have hr := rest_size s (rd s).2.1
        rw [ih m (rest s (rd s).2.1) _ (by omega) (by omega)]
      · simp [he]
def pks (s : ByteArray) (acc : List Int) : List Int×Nat := pk s.size s acc
theorem pks_end {s : ByteArray} (h : s.size = 0) (acc : List Int) : pks s acc = (acc,0) := by rw [pks,h]; rfl
theorem pks_err {s : ByteArray} (h : s.size≠0) (he : (rd s).2.2≠0) (acc : List Int) : pks s acc = ([],(rd s).2.2) := by
  obtain ⟨k,hk⟩ : ∃ k,s.size = k + 1 := ⟨s.size - 1,by omega⟩
  rw [pks,hk,pk,if_neg h,if_pos he]
theorem pks_full {s : ByteArray} (h : s.size≠0) (he : (rd s).2.2 = 0) {acc : List Int} (hf : acc.length = 65536) : pks s acc = ([],7) := by
  obtain ⟨k,hk⟩ : ∃ k,s.size = k + 1 := ⟨s.size - 1,by omega⟩
  rw [pks,hk,pk,if_neg h,if_neg (by omega),if_pos hf]
theorem pks_step {s : ByteArray} (h : s.size≠0) (he : (rd s).2.2 = 0) {acc : List Int} (hf : acc.length≠65536) : pks s acc = pks (rest s (rd s).2.1) (acc ++ [sg (rd s).1]) := by
  obtain ⟨k,hk⟩ : ∃ k,s.size = k + 1 := ⟨s.size - 1,by omega⟩
  have h1 := rd_pos he
  have h2 := rest_size s (rd s).2.1
  rw [pks,hk,pk,if_neg h,if_neg (by omega),if_neg hf,pks]
  exact pk_fuel _ _ _ _ (by omega) (by omega)

def addF (f : WFd) (acc : List Int) : List Int×Nat :=
  if f.typ = 0 then (if acc.length = 65536 then ([],7) else (acc ++ [sg f.n],0))
  else if f.typ = 2 then pks f.data acc else ([],3)
def ints : List WFd→List Int→List Int×Nat
  | [],acc => (acc,0)
  | f :: l,acc => if (addF f acc).2≠0 then ([],(addF f acc).2) else ints l (addF f acc).1
theorem ints_err {f : WFd} {l : List WFd} {acc : List Int} {r : List Int} {e : Nat} (h : addF f acc = (r,e)) (he : e≠0) : ints (f :: l) acc = ([],e) := by
  rw [ints,h]; simp [he]
theorem ints_ok {f : WFd} {l : List WFd} {acc r : List Int} (h : addF f acc = (r,0)) : ints (f :: l) acc = ints l r := by
  rw [ints,h]; simp
theorem pk_le (k : Nat) : ∀ (s : ByteArray) (acc : List Int), acc.length ≤ 65536 → (pk k s acc).1.length ≤ 65536 := by
  induction k with
  | zero => intro s acc h; exact h
  | succ k ih =>
    intro s acc h
    rw [pk]
    split
    · exact h
    · split
      · simp
      · split
        · simp
        · exact ih _ _ (by simp; omega)
theorem pks_le (s : ByteArray) {acc : List Int} (h : acc.length≤65536) : (pks s acc).1.length≤65536 := pk_le _ _ _ h
theorem addF_le (f : WFd) {acc : List Int} (h : acc.length≤65536) : (addF f acc).1.length≤65536 := by
  unfold addF
  split
  · split
    · simp
    · simp; omega
  · split
    · exact pks_le _ h
    · simp
theorem pk_nil (k : Nat) : ∀ (s : ByteArray) (acc : List Int), (pk k s acc).2 ≠ 0 → (pk k s acc).1 = [] := by
  induction k with
  | zero => intro s acc h; simp [pk] at h
  | succ k ih =>
    intro s acc h
    rw [pk] at h ⊢
    split
    · rename_i h0; rw [if_pos h0] at h; simp at h
    · rename_i h0
      rw [if_neg h0] at h
      split
      · rfl
      · rename_i h1
        rw [if_neg h1] at h
        split
        · rfl
        · rename_i h2
          rw [if_neg h2] at h
          exact ih _ _ h
theorem pks_nil {s : ByteArray} {acc : List Int} (h : (pks s acc).2≠0) : (pks s acc).1 = [] := pk_nil _ _ _ h
theorem ints_le (l : List WFd) : ∀ (acc : List Int),acc.length≤65536→(ints l acc).1.length≤65536 := by
  induction l with
  | nil => intro acc h; exact h
  | cons f l ih =>
    intro acc h
    rw [ints]
    split
    · simp
    · exact ih _ (addF_le f h)
def txts : List WFd→List ByteArray→List ByteArray×Nat
  | [],acc => (acc,0)
  | f :: l,acc => if f.typ≠2 then ([],3) else txts l (acc ++ [f.data])
theorem txts_le (l : List WFd) : ∀ (acc : List ByteArray),(txts l acc).1.length≤acc.length + l.length := by
  induction l with
  | nil => intro acc; simp [txts]
  | cons f l ih =>
    intro acc
    rw [txts]
    split
    · simp
    · have := ih (acc ++ [f.data])
      simp at this ⊢
      omega

def cps : List Int→ByteArray
  | [] => ⟨#[]⟩
  | n :: l => ps (us n) ++ cps l
theorem cps_snoc (l : List Int) (n : Int) : cps (l ++ [n]) = cps l ++ ps (us n) := by
  induction l with
  | nil => apply ba_eq; simp [cps]
  | cons m l ih => rw [List.cons_append,cps,ih,cps]; apply ba_eq; simp
theorem cps_le (l : List Int) : (cps l).size≤10 * l.length := by
  induction l with
  | nil => exact Nat.zero_le _
  | cons n l ih =>
    have := ps_le (us n)
    rw [cps,ByteArray.size_append,List.length_cons]
    omega
def pt (num : Int) (l : List Int) : ByteArray := if l = [] then ⟨#[]⟩ else fb ⟨num,2,0,cps l⟩
theorem pt_le (num : Int) (l : List Int) : (pt num l).size≤30 * l.length := by
  unfold pt
  split
  · exact Nat.zero_le _
  · rename_i h
    have h1 := fb_le ⟨num,2,0,cps l⟩
    have h2 := cps_le l
    have h3 : l.length≠0 := by simpa using h
    simp only at h1
    omega
inductive Cut (k : Int) : List WFd→List Int→Prop
  | nil : Cut k [] []
  | num {L : List WFd} {r : List Int} {n : Int} : Cut k L r→In64 n→Cut k (L ++ [⟨k,0,us n,⟨#[]⟩⟩]) (r ++ [n])
  | part {L : List WFd} {r p : List Int} : Cut k L r→(∀ n ∈ p,In64 n)→p≠[]→Cut k (L ++ [⟨k,2,0,cps p⟩]) (r ++ p)
end Go.Proofs.YtjjfdlgoacockaaGreat.M3
namespace Go.Proofs.YtjjfdlgoacockaaGreat
open Go.RowKit
theorem ret_eq {a b : Value} (h : a = b) : Ending.returned a = .returned b := by rw [h]
theorem int_eq {k : IntKind} {a b : Int} (h : a = b) : Value.int k a = .int k b := by rw [h]
theorem str_eq {a b : ByteArray} (h : a = b) : Value.string a = .string b := by rw [h]

def bv (l : List UInt8) : List Value := l.map fun b => .int .u8 b.toNat
theorem bv_append (a b : List UInt8) : bv (a ++ b) = bv a ++ bv b := by simp [bv]
theorem bv_one {n : Nat} (h : n < 256) : [Value.int .u8 (n : Int)] = bv [UInt8.ofNat n] := by
  simp [bv]; omega
theorem bv_len (l : List UInt8) : (bv l).length = l.length := by simp [bv]
theorem bv_oneCell {l : List UInt8} : ∀ u ∈ bv l,u.oneCell' = true := by
  intro u hu; simp only [bv,List.mem_map] at hu; obtain ⟨b,_,rfl⟩ := hu; rfl
theorem foldl_bytes (l : List UInt8) : ∀ r : ByteArray,(l.map fun b => ((b.toNat : Nat) : Int)).foldl (fun (r : ByteArray) n => r.push (UInt8.ofNat n.toNat)) r = ⟨r.data ++ l.toArray⟩ := by
  induction l with
  | nil => intro r; simp
  | cons b l ih =>
    intro r
    rw [List.map_cons,List.foldl_cons,ih]
    congr 1
    simp [ByteArray.push]

theorem run_bytes_own {P : Program} (w : World) (src dst e : TypeId) (hs : P.underlying src = some (.slice e)) (he : P.underlying e = some (.int .u8)) (hd : P.underlying dst = some .string)
    {B : Nat} {v : Value} {n : Nat} {l : List UInt8} (h : w.ownsRow B e 1 v n (bv l)) : (convert src dst v).run P w = .ok (.string ⟨l.toArray⟩) w := by
  obtain ⟨hlen,h⟩ := h
  have hn : n = l.length := by rw [bv_len] at hlen; omega
  rcases h with ⟨rfl,h0⟩ | ⟨g,cap,cur,rfl,hB,hg,hnc,hcap,hsz,hcur⟩
  · have : l = [] := List.length_eq_zero_iff.1 (by omega)
    subst this
    rw [run_convert_bytes_string w src dst e none 0 0 hs he hd]
    rfl
  · rw [run_convert_bytes_string w src dst e _ n cap hs he hd]
    have hc : (loadCells ⟨g,0,none⟩ n).run P w = .ok ((l.map fun b => ((b.toNat : Nat) : Int)).map (Value.int .u8)).toArray w := by
      have h2 := run_loadCells_list (P := P) (w := w) ⟨g,0,none⟩ (bv l) (fun j u hj => by
        have := World.ownsRow.cells (base := B) (e := e) (size := 1) (v := .slice (some ⟨g,0,none⟩) n cap) (n := n) (xs := bv l) (w := w) ⟨hlen,.inr ⟨g,cap,cur,rfl,hB,hg,hnc,hcap,hsz,hcur⟩⟩ (g := g) rfl j u hj
        exact this)
      rw [bv_len,← hn] at h2
      rw [h2]; simp [bv]
    rw [run_bytesToString w _ n cap _ hc,foldl_bytes]
    simp
end Go.Proofs.YtjjfdlgoacockaaGreat
namespace Go.Proofs.YtjjfdlgoacockaaGreat
open Go.RowKit

def SR (w : World) (B size : Nat) (A : Option Addr) (n : Nat) (xs : List Value) : Prop :=
  xs.length = n * size∧(0 < n→∃ b o,A = some ⟨b,o,none⟩∧b < B∧w.rangeAt b o xs)

section
variable {w w' : World} {B B' size n : Nat} {A : Option Addr} {xs : List Value}
theorem SR.empty (w : World) (B size : Nat) (A : Option Addr) : SR w B size A 0 [] := ⟨by simp,fun h => absurd h (by omega)⟩
theorem SR.keep (h : SR w B size A n xs) (hk : ∀ k,k < B→w'.heap[k]? = w.heap[k]?) : SR w' B size A n xs :=
  ⟨h.1,fun hn => by
    obtain ⟨b,o,e,hb,hc⟩ := h.2 hn
    exact ⟨b,o,e,hb,fun j u hu => (World.cell?_of_block (a := ⟨b,o + j,none⟩) (hk b hb)).trans (hc j u hu)⟩⟩
theorem SR.more (h : SR w B size A n xs) (hB : B≤B') : SR w B' size A n xs :=
  ⟨h.1,fun hn => by
    obtain ⟨b,o,e,hb,hc⟩ := h.2 hn
    exact ⟨b,o,e,by omega,hc⟩⟩
theorem SR.below (h : SR w B size A n xs) (hb : Below B w w') : SR w' B size A n xs := h.keep hb.block
theorem SR.of_own {base : Nat} {e : TypeId} {c : Nat} (h : w.ownsRow base e size (.slice A n c) n xs) : SR w w.heap.size size A n xs := by
  refine ⟨h.1,fun hn => ?_⟩
  rcases h.2 with ⟨hv,h0⟩ | ⟨g,cap,cur,hv,hB,hg,hnc,hcap,hsz,hcur⟩
  · omega
  · have hA : A = some ⟨g,0,none⟩ := by injection hv
    refine ⟨g,0,hA,(Array.getElem?_eq_some_iff.1 hg).1,fun j u hj => ?_⟩
    rw [cell_of_row w g (0 + j) cur e (0,0) hg,Nat.zero_add]
    rw [← hcur,List.getElem?_take] at hj
    split at hj
    · simpa using hj
    · cases hj
theorem SR.at_ (h : SR w B size A n xs) {k : Nat} (hk : k < n) : ∃ b o,A = some ⟨b,o,none⟩∧b < B∧∀ j,j < size→∀ u,xs[k * size + j]? = some u→w.cell? ⟨b,o + k * size + j,none⟩ = some u := by
  obtain ⟨b,o,rfl,hb,hr⟩ := h.2 (by omega)
  exact ⟨b,o,rfl,hb,fun j _ u hu => by rw [Nat.add_assoc]; exact hr _ _ hu⟩
end

theorem own_form {w : World} {base : Nat} {e : TypeId} {size n : Nat} {v : Value} {xs : List Value} (h : w.ownsRow base e size v n xs) :
    ∃ A c,v = .slice A n c∧n≤c∧c≤maxLen := by
  rcases h.2 with ⟨rfl,rfl⟩ | ⟨g,cap,cur,rfl,_,_,hnc,hcap,_⟩
  · exact ⟨none,0,rfl,Nat.le_refl _,by unfold maxLen; omega⟩
  · exact ⟨_,cap,rfl,hnc,hcap⟩
theorem own_base {w : World} {base base' : Nat} {e : TypeId} {size n : Nat} {v : Value} {xs : List Value} (h : w.ownsRow base e size v n xs) (hb : base'≤base) : w.ownsRow base' e size v n xs := by
  refine ⟨h.1,?_⟩
  rcases h.2 with hn | ⟨g,cap,cur,hv,hB,r⟩
  · exact .inl hn
  · exact .inr ⟨g,cap,cur,hv,by omega,r⟩
theorem own_keep {w w' : World} {base : Nat} {e : TypeId} {size n : Nat} {v : Value} {xs : List Value} (h : w.ownsRow base e size v n xs) (hb : Below w.heap.size w w') : w'.ownsRow base e size v n xs := by
  refine ⟨h.1,?_⟩
  rcases h.2 with hn | ⟨g,cap,cur,hv,hB,hg,r⟩
  · exact .inl hn
  · exact .inr ⟨g,cap,cur,hv,hB,(hb.block g (Array.getElem?_eq_some_iff.1 hg).1).trans hg,r⟩
theorem cells_new (w : World) (cs : List Value) (t : TypeId) : ∀ j u,cs[j]? = some u→(w.alloc (.cells cs.toArray t)).cell? ((⟨w.heap.size,0,none⟩ : Addr).add j) = some u := by
  intro j u hj
  rw [Addr.add_mid,cell_of_row _ _ _ cs.toArray t (0,0) (heap_alloc_new w _)]
  simpa using hj
theorem cells_new2 (w : World) (o : Obj) (cs : List Value) (t : TypeId) : ∀ j u,cs[j]? = some u→((w.alloc o).alloc (.cells cs.toArray t)).cell? ((⟨w.heap.size + 1,0,none⟩ : Addr).add j) = some u := by
  have h := cells_new (w.alloc o) cs t
  rwa [show (w.alloc o).heap.size = w.heap.size + 1 from by simp] at h
theorem kept_cells {W w1 : World} (hb : Below W.heap.size W w1) : (∀ b o,b < W.heap.size→w1.cell? ⟨b,o,none⟩ = W.cell? ⟨b,o,none⟩)∧(∀ b o,b < W.heap.size→w1.frozen? ⟨b,o,none⟩ = W.frozen? ⟨b,o,none⟩) :=
  ⟨fun b o h => hb.cell (p := ⟨b,o,none⟩) h,fun b o h => hb.frozen (p := ⟨b,o,none⟩) h⟩
theorem set4 {w : World} {g : Nat} {t : TypeId} {a0 a1 a2 a3 : Value} (h : w.heap[g]? = some (.cells #[a0,a1,a2,a3] t (0,0))) (v0 v1 v2 v3 : Value) :
    ((((w.setCell ⟨g,0,none⟩ v0).setCell ⟨g,1,none⟩ v1).setCell ⟨g,2,none⟩ v2).setCell ⟨g,3,none⟩ v3).heap[g]? = some (.cells #[v0,v1,v2,v3] t (0,0)) :=
  heap_setCell_same _ g 3 _ t v3 (heap_setCell_same _ g 2 _ t v2 (heap_setCell_same _ g 1 _ t v1 (heap_setCell_same _ g 0 _ t v0 h)))
theorem cells_of4 {w : World} {g : Nat} {t : TypeId} {a0 a1 a2 a3 : Value} (h : w.heap[g]? = some (.cells #[a0,a1,a2,a3] t (0,0))) :
    w.cell? ⟨g,0,none⟩ = some a0∧w.cell? ⟨g,1,none⟩ = some a1∧w.cell? ⟨g,2,none⟩ = some a2∧w.cell? ⟨g,3,none⟩ = some a3 :=
  ⟨cell_of_row w g 0 _ t _ h,cell_of_row w g 1 _ t _ h,cell_of_row w g 2 _ t _ h,cell_of_row w g 3 _ t _ h⟩
theorem below_one {w w1 : World} {a : Obj} (hb : Below (w.alloc a).heap.size (w.alloc a) w1) : Below w.heap.size w w1 :=
  ((Below.refl _ _).alloc (Nat.le_refl _) _).trans (hb.mono (by simp))
theorem below_two {w w1 : World} {a b : Obj} (hb : Below ((w.alloc a).alloc b).heap.size ((w.alloc a).alloc b) w1) : Below w.heap.size w w1 :=
  below_one (below_one hb |>.mono (Nat.le_refl _))
theorem heap_far {w : World} {g : Nat} {o : Obj} (h : w.heap[g]? = some o) {b i : Nat} (v : Value) (hb : g≠b) : (w.setCell ⟨b,i,none⟩ v).heap[g]? = some o :=
  (heap_setCell_other w ⟨b,i,none⟩ g v hb).trans h
theorem below_drewN {B : Nat} {w w' : World} (h : Below B w w') (n : Nat) : Below B w (w'.drewN n) := ⟨h.os,h.tape,h.output,h.size,h.block⟩
end Go.Proofs.YtjjfdlgoacockaaGreat
namespace Go.Proofs.YtjjfdlgoacockaaGreat
open Go.RowKit
theorem blk_lt {w : World} {b : Nat} {x : Obj} (h : w.heap[b]? = some x) : b < w.heap.size := (Array.getElem?_eq_some_iff.1 h).1
theorem blk_alloc {w : World} {b : Nat} {x : Obj} (h : w.heap[b]? = some x) (o : Obj) : (w.alloc o).heap[b]? = some x := by
  show (w.heap.push o)[b]? = some x
  rw [Array.getElem?_push_lt (blk_lt h)]
  exact (Array.getElem?_eq_getElem (blk_lt h)).symm.trans h
theorem blk_below {B : Nat} {w w' : World} {b : Nat} {x : Obj} (h : w.heap[b]? = some x) (hb : Below B w w') (hB : b < B) : w'.heap[b]? = some x := (hb.block b hB).trans h
theorem own_far {w : World} {B size n b : Nat} {e T : TypeId} {v : Value} {xs : List Value} {cs : Array Value} {fz : Nat×Nat} (h : w.ownsRow B e size v n xs) (hb : w.heap[b]? = some (.cells cs T fz)) (hT : T≠e) : v.ownBlock≠some b := by
  rcases h.2 with ⟨rfl,-⟩ | ⟨g,cap,cur,rfl,-,hg,-⟩
  · simp [Value.ownBlock]
  · intro he
    simp only [Value.ownBlock,Option.some.injEq] at he
    subst he
    rw [hg] at hb
    simp only [Option.some.injEq,Obj.cells.injEq] at hb
    exact hT hb.2.1.symm
theorem blk_grown {w w' : World} {row : Option Nat} {b : Nat} {x : Obj} (h : w.heap[b]? = some x) (hg : w.grownBy w' row) (hne : row≠some b) : w'.heap[b]? = some x :=
  (hg.block b (blk_lt h) (fun e => hne e.symm)).trans h
theorem SR.lit (w : World) (xs : List Value) (T : TypeId) {size n : Nat} (h : xs.length = n * size) : SR (w.alloc (.cells xs.toArray T)) (w.heap.size + 1) size (some ⟨w.heap.size,0,none⟩) n xs :=
  ⟨h,fun _ => ⟨_,0,rfl,Nat.lt_succ_self _,fun j u hj => by
    have h1 := cells_new w xs T j u hj
    rw [Addr.add_mid] at h1
    exact h1⟩⟩
theorem step_below {w a b : World} (h : Below w.heap.size w a) (h2 : Below a.heap.size a b) : Below w.heap.size w b := h.trans (h2.mono h.size)
def Bx (w : World) (g : Nat) (cs : Array Value) (T : TypeId) (W : World) : Prop := W.heap[g]? = some (.cells cs T (0,0))∧g < W.heap.size∧Below w.heap.size w W
theorem Bx.start (w : World) (cs : Array Value) (T : TypeId) : Bx w w.heap.size cs T (w.alloc (.cells cs T)) := ⟨heap_alloc_new w _,by simp,(Below.refl _ _).alloc (Nat.le_refl _) _⟩
theorem Bx.below {w W W' : World} {g : Nat} {cs : Array Value} {T : TypeId} (h : Bx w g cs T W) (hb : Below W.heap.size W W') : Bx w g cs T W' := ⟨(hb.block g h.2.1).trans h.1,Nat.lt_of_lt_of_le h.2.1 hb.size,step_below h.2.2 hb⟩
theorem Bx.more {w W : World} {g : Nat} {cs : Array Value} {T : TypeId} (h : Bx w g cs T W) (o : Obj) : Bx w g cs T (W.alloc o) := h.below ((Below.refl _ _).alloc (Nat.le_refl _) _)
theorem Bx.next {w W : World} {g : Nat} {cs : Array Value} {T : TypeId} (h : Bx w g cs T W) (cs2 : Array Value) (T2 : TypeId) : Bx w W.heap.size cs2 T2 (W.alloc (.cells cs2 T2)) := ⟨heap_alloc_new W _,by simp,step_below h.2.2 ((Below.refl _ _).alloc (Nat.le_refl _) _)⟩
theorem Bx.all {w W : World} {g : Nat} {cs : Array Value} {T : TypeId} (h : Bx w g cs T W) : Below w.heap.size w W := h.2.2
theorem Bx.four {w W : World} {g : Nat} {a0 a1 a2 a3 : Value} {T : TypeId} (h : Bx w g #[a0,a1,a2,a3] T W) : (W.cell? ⟨g,0,none⟩ = some a0∧W.cell? ⟨g,1,none⟩ = some a1∧W.cell? ⟨g,2,none⟩ = some a2∧W.cell? ⟨g,3,none⟩ = some a3) := cells_of4 h.1
theorem Bx.two (w : World) (o : Obj) (cs : Array Value) (T : TypeId) : Bx w (w.heap.size + 1) cs T ((w.alloc o).alloc (.cells cs T)) := by
  have h := heap_alloc_new (w.alloc o) (.cells cs T)
  have hz : (w.alloc o).heap.size = w.heap.size + 1 := by simp
  rw [hz] at h
  exact ⟨h,by simp,((Below.refl _ _).alloc (Nat.le_refl _) _).alloc (by simp) _⟩
theorem Bx.grown {w W W' : World} {g : Nat} {cs : Array Value} {T : TypeId} {row : Option Nat} (h : Bx w g cs T W) (hg : W.grownBy W' row) (hne : row≠some g) (hB : ∀ q,row = some q→w.heap.size≤q) : Bx w g cs T W' :=
  ⟨blk_grown h.1 hg hne,Nat.lt_of_lt_of_le h.2.1 hg.size,h.2.2.grown hg h.2.2.size hB⟩
theorem Bx.low {w W W' : World} {g B : Nat} {cs : Array Value} {T : TypeId} (h : Bx w g cs T W) (hb : Below B W W') (hg : g < B) (hw : w.heap.size≤B) : Bx w g cs T W' :=
  ⟨(hb.block g hg).trans h.1,Nat.lt_of_lt_of_le h.2.1 hb.size,h.2.2.trans (hb.mono hw)⟩
end Go.Proofs.YtjjfdlgoacockaaGreat
namespace Go.Proofs.YtjjfdlgoacockaaGreat
open Go.RowKit

theorem made_cells (z : Value) (n : Nat) : (madeCells #[z] n).toList = List.replicate n z := by
  have h : madeCells #[z] n = (Array.range n).map (fun _ => z) := by
    unfold madeCells
    congr 1
    funext i
    show (#[z] : Array Value)[i % 1]! = _
    rw [Nat.mod_one]; rfl
  rw [h]
  apply List.ext_getElem
  · simp
  · intro i h1 h2; simp
theorem patchV_set {α : Type} {t s : List α} {k : Nat} (hs : s.length = t.length) (hk : k < t.length) : (t.take k ++ s.drop k).set k t[k] = t.take (k + 1) ++ s.drop (k + 1) := by
  rw [List.set_append_right _ _ (by simp; omega),List.take_succ_eq_append_getElem hk,List.drop_eq_getElem_cons (by omega : k < s.length)]
  have h2 : k - (t.take k).length = 0 := by simp; omega
  rw [h2,List.set_cons_zero,List.append_assoc,List.singleton_append]
theorem patchV_len {α : Type} {t s : List α} {k : Nat} (hs : s.length = t.length) (hk : k≤t.length) : (t.take k ++ s.drop k).length = t.length := by simp; omega
def Fill (W : World) (B g : Nat) (T : TypeId) (vs zs : List Value) (k : Nat) : Prop := W.ownsRow B T 1 (.slice (some ⟨g,0,none⟩) vs.length vs.length) vs.length (vs.take k ++ zs.drop k)
theorem Fill.start {W : World} {B g : Nat} {T : TypeId} {vs zs : List Value} (h : W.ownsRow B T 1 (.slice (some ⟨g,0,none⟩) vs.length vs.length) vs.length zs) : Fill W B g T vs zs 0 := by
  unfold Fill; simpa using h
theorem Fill.keep {W W' : World} {B g k : Nat} {T : TypeId} {vs zs : List Value} (h : Fill W B g T vs zs k) (hb : Below W.heap.size W W') : Fill W' B g T vs zs k := own_keep h hb
theorem Fill.cell {W : World} {B g k : Nat} {T : TypeId} {vs zs : List Value} (h : Fill W B g T vs zs k) (hz : zs.length = vs.length) (hk : k < vs.length) : ∃ u,W.cell? ⟨g,k,none⟩ = some u := by
  have h1 := h.cellAt k (by omega)
  have hl := patchV_len (t := vs) (s := zs) (k := k) hz (by omega)
  rw [List.getElem?_eq_getElem (show k < (vs.take k ++ zs.drop k).length by omega)] at h1
  exact ⟨_,h1⟩
theorem Fill.put {W : World} {B g k : Nat} {T : TypeId} {vs zs : List Value} (h : Fill W B g T vs zs k) (hz : zs.length = vs.length) (hk : k < vs.length) : Fill (W.setCell ⟨g,k,none⟩ vs[k]) B g T vs zs (k + 1) := by
  have h1 := (h.stored k vs[k]).1
  unfold Fill
  rw [← patchV_set hz hk]
  exact h1
theorem Fill.done {W : World} {B g : Nat} {T : TypeId} {vs zs : List Value} (h : Fill W B g T vs zs vs.length) (hz : zs.length = vs.length) : W.ownsRow B T 1 (.slice (some ⟨g,0,none⟩) vs.length vs.length) vs.length vs := by
  unfold Fill at h
  rw [List.drop_of_length_le (by omega),List.append_nil,List.take_length] at h
  exact h
end Go.Proofs.YtjjfdlgoacockaaGreat
namespace Go.Proofs.YtjjfdlgoacockaaGreat
open Go.RowKit

theorem Bx.set {w W : World} {g : Nat} {cs : Array Value} {T : TypeId} (h : Bx w g cs T W) (hg : w.heap.size≤g) (i : Nat) (v : Value) : Bx w g (cs.setIfInBounds i v) T (W.setCell ⟨g,i,none⟩ v) := by
  have h1 := heap_setCell_same W g i cs T v h.1
  exact ⟨h1,blk_lt h1,h.2.2.setCell (p := ⟨g,i,none⟩) hg v⟩
theorem Bx.cell {w W : World} {g : Nat} {cs : Array Value} {T : TypeId} (h : Bx w g cs T W) (i : Nat) : W.cell? ⟨g,i,none⟩ = cs[i]? := cell_of_row W g i cs T _ h.1
theorem Bx.free {w W : World} {g : Nat} {cs : Array Value} {T : TypeId} (h : Bx w g cs T W) (i : Nat) : W.frozen? ⟨g,i,none⟩ = false := frozen_of_row W g i cs T h.1
theorem Bx.four_put {w W : World} {g : Nat} {a0 a1 a2 a3 : Value} {T : TypeId} (h : Bx w g #[a0,a1,a2,a3] T W) (hg : w.heap.size≤g) (v0 v1 v2 v3 : Value) :
    Bx w g #[v0,v1,v2,v3] T ((((W.setCell ⟨g,0,none⟩ v0).setCell ⟨g,1,none⟩ v1).setCell ⟨g,2,none⟩ v2).setCell ⟨g,3,none⟩ v3) :=
  (((h.set hg 0 v0).set hg 1 v1).set hg 2 v2).set hg 3 v3
theorem own_set {w : World} {B size n b : Nat} {e : TypeId} {v : Value} {xs : List Value} (h : w.ownsRow B e size v n xs) (hb : v.ownBlock≠some b) (i : Nat) (u : Value) :
    (w.setCell ⟨b,i,none⟩ u).ownsRow B e size v n xs :=
  h.kept (row := some b) ⟨rfl,rfl,rfl,by simp [World.setCell],fun k _ hk => Below.heap_setCell _ _ _ _ (fun e => hk (by simp [e]))⟩ (Or.inr hb)
theorem own_nothing (w : World) (B size : Nat) (e : TypeId) : w.ownsRow B e size (.slice none 0 0) 0 [] := ⟨by simp,.inl ⟨rfl,rfl⟩⟩
theorem Bx.far_set {w W : World} {g : Nat} {cs : Array Value} {T : TypeId} (h : Bx w g cs T W) {b i : Nat} (v : Value) (hne : g≠b) (hb : w.heap.size≤b) : Bx w g cs T (W.setCell ⟨b,i,none⟩ v) :=
  ⟨heap_far h.1 v hne,by simpa using h.2.1,h.2.2.setCell (p := ⟨b,i,none⟩) hb v⟩
end Go.Proofs.YtjjfdlgoacockaaGreat
namespace Go.Proofs.YtjjfdlgoacockaaGreat
open Go.RowKit M1 M2

def fc (f : WFd) : List Value := [.int .i64 f.num,.int .i64 f.typ,.int .u64 (f.n : Int),.string f.data]
def fcs (l : List WFd) : List Value := l.flatMap fc
theorem fcs_append (a b : List WFd) : fcs (a ++ b) = fcs a ++ fcs b := by simp [fcs]
theorem fcs_one (f : WFd) : fcs [f] = fc f := by simp [fcs]
theorem fcs_at (l : List WFd) (k : Nat) (h : k < l.length) (j : Nat) (hj : j < 4) : (fcs l)[k * 4 + j]? = (fc l[k])[j]? := by
  induction l generalizing k with
  | nil => simp at h
  | cons f l ih =>
    have hf : (fc f).length = 4 := rfl
    rw [show fcs (f :: l) = fc f ++ fcs l from rfl]
    cases k with
    | zero => rw [List.getElem?_append_left (by omega)]; simp
    | succ k =>
      rw [List.getElem?_append_right (by omega),hf,show (k + 1) * 4 + j - 4 = k * 4 + j by omega,ih k (by simpa using h)]
      simp
theorem fcs_one_cell {l : List WFd} : ∀ u ∈ fcs l,u.oneCell' = true := by
  intro u hu
  simp only [fcs,List.mem_flatMap,fc] at hu
  obtain ⟨f,_,hu⟩ := hu
  simp at hu
  rcases hu with rfl | rfl | rfl | rfl <;> rfl
theorem infoField : (Tryz.prog.info? 184).map (fun i => (i.zero,i.size,i.bytes)) = some (some (.agg #[.int .i64 0,.int .i64 0,.int .u64 0,.string ⟨#[]⟩]),4,40) := by kernel_rfl
end Go.Proofs.YtjjfdlgoacockaaGreat
namespace Go.Proofs.YtjjfdlgoacockaaGreat
open Go.RowKit M1 M2

theorem field_at {w : World} {B : Nat} {A : Option Addr} {l : List WFd} (h : SR w B 4 A l.length (fcs l)) {k : Nat} (hk : k < l.length) :
    ∃ b o,A = some ⟨b,o,none⟩∧b < B∧w.cell? ⟨b,o + k * 4,none⟩ = some (.int .i64 l[k].num)∧w.cell? ⟨b,o + k * 4 + 1,none⟩ = some (.int .i64 l[k].typ) ∧
      w.cell? ⟨b,o + k * 4 + 2,none⟩ = some (.int .u64 (l[k].n : Int))∧w.cell? ⟨b,o + k * 4 + 3,none⟩ = some (.string l[k].data) := by
  obtain ⟨b,o,hA,hb,hc⟩ := h.at_ hk
  refine ⟨b,o,hA,hb,hc 0 (by omega) _ ?_,hc 1 (by omega) _ ?_,hc 2 (by omega) _ ?_,hc 3 (by omega) _ ?_⟩
  all_goals rw [fcs_at l k hk _ (by omega)]; rfl

def ofNum (l : List WFd) (num : Int) : List WFd := l.filter fun f => decide (f.num = num)
theorem ofNum_snoc (l : List WFd) (f : WFd) (num : Int) : ofNum (l ++ [f]) num = if f.num = num then ofNum l num ++ [f] else ofNum l num := by
  unfold ofNum
  rw [List.filter_append]
  by_cases h : f.num = num <;> simp [h]
theorem ofNum_le (l : List WFd) (num : Int) : (ofNum l num).length≤l.length := List.length_filter_le _ _
theorem take_succ_at {l : List WFd} {k : Nat} (h : k < l.length) : l.take (k + 1) = l.take k ++ [l[k]] := by
  rw [List.take_succ_eq_append_getElem h]
end Go.Proofs.YtjjfdlgoacockaaGreat
namespace Go.Proofs.YtjjfdlgoacockaaGreat
open Go.RowKit M1 M2

def lastF (l : List WFd) (num : Int) : WFd := ((ofNum l num).getLast?).getD fd0
theorem ofNum_append (a b : List WFd) (num : Int) : ofNum (a ++ b) num = ofNum a num ++ ofNum b num := List.filter_append ..
theorem drop_at_field {l : List WFd} {k : Nat} (h : k < l.length) : l.drop k = l[k] :: l.drop (k + 1) := List.drop_eq_getElem_cons h
theorem last_hit {l : List WFd} {num : Int} {j : Nat} (hj : j < l.length) (h : l[j].num = num) (hd : ofNum (l.drop (j + 1)) num = []) : lastF l num = l[j]∧ofNum l num≠[] := by
  have e : l = l.take j ++ ([l[j]] ++ l.drop (j + 1)) := by
    rw [List.singleton_append,← drop_at_field hj,List.take_append_drop]
  have e2 : ofNum l num = ofNum (l.take j) num ++ [l[j]] := by
    have e3 := congrArg (fun x => ofNum x num) e
    simp only [ofNum_append,hd,List.append_nil] at e3
    rw [e3]
    congr 1
    simp [ofNum,h]
  constructor
  · rw [lastF,e2]; simp
  · rw [e2]; simp
theorem last_miss {l : List WFd} {num : Int} {j : Nat} (hj : j < l.length) (h : l[j].num≠num) (hd : ofNum (l.drop (j + 1)) num = []) : ofNum (l.drop j) num = [] := by
  rw [drop_at_field hj]
  unfold ofNum at hd ⊢
  rw [List.filter_cons,if_neg (by simpa using h),hd]
theorem last_none {l : List WFd} {num : Int} (h : ofNum l num = []) : lastF l num = fd0 := by rw [lastF,h]; rfl

set_option maxRecDepth 100000 in
theorem last_any (A : Option Addr) (c : Nat) (l : List WFd) (num : Int) (w : World) (hl : l.length ≤ 3000000) (ha : SR w w.heap.size 4 A l.length (fcs l)) :
    Calls Tryz.prog 111 #[.slice A l.length c,.int .i64 num] w fun e w' => e = .returned (.tuple #[.agg (fc (lastF l num)).toArray,.bool (decide (ofNum l num≠[]))])∧Below w.heap.size w w' := by
  go_enter Tryz.func111,Tryz.ntmps111
  go_wp2
  go_loopw [6,10] (fun _ i wr => ∃ (k : Nat) (K : Int),i = .int .i64 K∧K = (k : Nat)∧k≤l.length∧ofNum (l.drop (l.length - k)) num = []∧Below w.heap.size w wr∧wr.heap[w.heap.size]? = some (.cells #[.int .i64 0,.int .i64 0,.int .u64 0,.string ⟨#[]⟩] 184 (0,0))∧w.heap.size < wr.heap.size) (fun _ i _ => l.length - (intOf i).toNat)
  case atStart => exact ⟨0,_,rfl,rfl,by omega,by simp [ofNum],(Below.refl _ _).alloc (Nat.le_refl _) _,heap_alloc_new w _,by simp⟩
  case round =>
    obtain ⟨k,K,rfl,rfl,hk,hno,hb,hblk,hz⟩ := hrel
    by_cases hlt : k < l.length
    · have hj : l.length - 1 - k < l.length := by omega
      obtain ⟨b1,o1,rfl,hb1,x0,x1,x2,x3⟩ := field_at (ha.below hb) hj
      have hhit := last_hit (num := num) hj
      have hmiss := last_miss (num := num) hj
      have ej : l.length - 1 - k + 1 = l.length - k := by omega
      rw [ej] at hhit hmiss
      generalize hf : l[l.length - 1 - k] = f at *
      clear ha ej
      by_cases h : f.num = num
      · have hq : (f.num == num) = true := by simpa using h
        obtain ⟨hlast,hne⟩ := hhit h hno
        have hd : decide (ofNum l num≠[]) = true := by simp [hne]
        have HZ := Lib.hid (And.intro hlast hd)
        clear hmiss hhit hno h hf hlast hne hd
        obtain ⟨fnum,ftyp,fn,fdata⟩ := f
        simp only at *
        have hblk' := set4 hblk (.int .i64 fnum) (.int .i64 ftyp) (.int .u64 fn) (.string fdata)
        have hk4 := cells_of4 ((Below.heap_alloc _ (.cells #[.int .i64 fnum,.int .i64 ftyp,.int .u64 (fn : Int),.string fdata] 184) w.heap.size (by simp; omega)).trans hblk')
        have hbb := ((((hb.setCell (p := ⟨w.heap.size,0,none⟩) (Nat.le_refl _) (.int .i64 fnum)).setCell (p := ⟨w.heap.size,1,none⟩) (Nat.le_refl _) (.int .i64 ftyp)).setCell (p := ⟨w.heap.size,2,none⟩) (Nat.le_refl _) (.int .u64 fn)).setCell (p := ⟨w.heap.size,3,none⟩) (Nat.le_refl _) (.string fdata)).alloc (by simp; omega) (.cells #[.int .i64 fnum,.int .i64 ftyp,.int .u64 (fn : Int),.string fdata] 184)
        have HK := Lib.hid (And.intro hk4 hbb)
        obtain ⟨c0,c1,c2,c3⟩ := cells_of4 hblk
        have f0 := fun i => frozen_of_row wr w.heap.size i _ _ hblk
        clear hk4 hbb hblk hblk' hb
        have hidx : (l.length : Int) - 1 - (k : Int) < (l.length : Int) := by omega
        go_wp2_with fail
        obtain ⟨⟨c0,c1,c2,c3⟩,hbb⟩ := HK.out
        clear HK f0 x0 x1 x2 x3
        generalize (((((wr.setCell ⟨w.heap.size,0,none⟩ (.int .i64 fnum)).setCell ⟨w.heap.size,1,none⟩ (.int .i64 ftyp)).setCell ⟨w.heap.size,2,none⟩ (.int .u64 fn)).setCell ⟨w.heap.size,3,none⟩ (.string fdata)).alloc (.cells #[.int .i64 fnum,.int .i64 ftyp,.int .u64 (fn : Int),.string fdata] 184)) = w2 at *
        rw [HZ.out.1,HZ.out.2]
        exact bodyPost_ret (v := .tuple #[.agg #[.int .i64 fnum,.int .i64 ftyp,.int .u64 fn,.string fdata],.bool true]) (by simp [results,Tryz.results111,go_sem,c0,c1,c2,c3]) rfl ⟨rfl,hbb⟩
      · have hq : (f.num == num) = false := by simpa using h
        have hm := hmiss h hno
        have HO := Lib.hid (And.intro hm (And.intro (hb.alloc (Nat.le_of_lt hz) (.cells (fc f).toArray 184)) (And.intro ((Below.heap_alloc wr (.cells (fc f).toArray 184) w.heap.size hz).trans hblk) hz)))
        clear hmiss hhit hm hb hblk hno h hf
        obtain ⟨fnum,ftyp,fn,fdata⟩ := f
        simp only at *
        have hidx : (l.length : Int) - 1 - (k : Int) < (l.length : Int) := by omega
        go_wp2_with fail
        go_roundw
        case rel =>
          refine ⟨k + 1,_,rfl,by omega,by omega,?_,HO.out.2.1,HO.out.2.2.1,by simp; omega⟩
          rw [show l.length - (k + 1) = l.length - 1 - k by omega]
          exact HO.out.1
        case measure => simp [intOf]; omega
    · obtain rfl : k = l.length := by omega
      rw [Nat.sub_self,List.drop_zero] at hno
      have hk4 := cells_of4 (set4 hblk (.int .i64 0) (.int .i64 0) (.int .u64 0) (.string ⟨#[]⟩))
      have hbb := (((hb.setCell (p := ⟨w.heap.size,0,none⟩) (Nat.le_refl _) (.int .i64 0)).setCell (p := ⟨w.heap.size,1,none⟩) (Nat.le_refl _) (.int .i64 0)).setCell (p := ⟨w.heap.size,2,none⟩) (Nat.le_refl _) (.int .u64 0)).setCell (p := ⟨w.heap.size,3,none⟩) (Nat.le_refl _) (.string ⟨#[]⟩)
      have HK := Lib.hid (And.intro hk4 hbb)
      have HN := Lib.hid hno
      obtain ⟨c0,c1,c2,c3⟩ := cells_of4 hblk
      have f0 := fun i => frozen_of_row wr w.heap.size i _ _ hblk
      clear hk4 hbb hno hblk hb ha
      go_wp2_with fail
      obtain ⟨⟨c0,c1,c2,c3⟩,hbb⟩ := HK.out
      have hn := HN.out
      have hlast := last_none hn
      have hd : decide (ofNum l num≠[]) = false := by simp [hn]
      have HZ := Lib.hid (And.intro hlast hd)
      clear HK hn hlast hd f0
      generalize ((((wr.setCell ⟨w.heap.size,0,none⟩ (.int .i64 0)).setCell ⟨w.heap.size,1,none⟩ (.int .i64 0)).setCell ⟨w.heap.size,2,none⟩ (.int .u64 0)).setCell ⟨w.heap.size,3,none⟩ (.string ⟨#[]⟩)) = w2 at *
      rw [HZ.out.1,HZ.out.2]
      exact bodyPost_ret (v := .tuple #[.agg #[.int .i64 0,.int .i64 0,.int .u64 0,.string ⟨#[]⟩],.bool false]) (by simp [results,Tryz.results111,go_sem,c0,c1,c2,c3]) rfl ⟨rfl,hbb⟩
end Go.Proofs.YtjjfdlgoacockaaGreat
namespace Go.Proofs.YtjjfdlgoacockaaGreat
open Go.RowKit M1 M2

theorem w_may_any (num typ : Int) (n : Int) (d : ByteArray) (w : World) (a1 : -9223372036854775808≤num) (a2 : num≤9223372036854775807) (b1 : -9223372036854775808≤typ) (b2 : typ≤9223372036854775807) :
    Calls Tryz.prog 134 #[.agg #[.int .i64 num,.int .i64 typ,.int .u64 n,.string d]] w fun e w' => e = .returned (.bool (mayB num typ))∧Below w.heap.size w w' := by
  by_cases h1 : num < 1
  · have hr : mayB num typ = false := by unfold mayB; rw [decide_eq_false_iff_not]; omega
    rw [hr]
    clear hr
    go_enter Tryz.func134,Tryz.ntmps134
    go_wp2
    go_ret
    exact ⟨rfl,(Below.refl _ _).alloc (Nat.le_refl _) _⟩
  by_cases h2 : 536870911 < num
  · have hr : mayB num typ = false := by unfold mayB; rw [decide_eq_false_iff_not]; omega
    rw [hr]
    clear hr
    go_enter Tryz.func134,Tryz.ntmps134
    go_wp2
    go_ret
    exact ⟨rfl,(Below.refl _ _).alloc (Nat.le_refl _) _⟩
  have h1' : 1≤num := by omega
  have h2' : num≤536870911 := by omega
  by_cases h3 : typ = 0∨typ = 1∨typ = 2∨typ = 5
  · have hr : mayB num typ = true := by unfold mayB; rw [decide_eq_true_iff]; omega
    rw [hr]
    clear hr h1 h2
    rcases h3 with rfl | rfl | rfl | rfl
    all_goals
      go_enter Tryz.func134,Tryz.ntmps134
      go_wp2
      go_ret
      exact ⟨rfl,(Below.refl _ _).alloc (Nat.le_refl _) _⟩
  · have hr : mayB num typ = false := by unfold mayB; rw [decide_eq_false_iff_not]; omega
    rw [hr]
    have t0 : (typ == 0) = false := by simp; omega
    have t1 : (typ == 1) = false := by simp; omega
    have t2 : (typ == 2) = false := by simp; omega
    have t5 : (typ == 5) = false := by simp; omega
    clear hr h1 h2 h3
    go_enter Tryz.func134,Tryz.ntmps134
    go_wp2
    go_ret
    exact ⟨rfl,(Below.refl _ _).alloc (Nat.le_refl _) _⟩
end Go.Proofs.YtjjfdlgoacockaaGreat
namespace Go.Proofs.YtjjfdlgoacockaaGreat
open Go.RowKit M1 M2

set_option maxRecDepth 100000 in
theorem w_all_any (A : Option Addr) (c : Nat) (l : List WFd) (num : Int) (w : World) (hl : l.length ≤ 3000000) (ha : SR w w.heap.size 4 A l.length (fcs l)) :
    Calls Tryz.prog 110 #[.slice A l.length c,.int .i64 num] w fun e w' => ∃ v,e = .returned v∧w'.ownsRow w.heap.size 184 4 v (ofNum l num).length (fcs (ofNum l num))∧Below w.heap.size w w' := by
  obtain ⟨i0,hi0,hz0,hz1,hz2⟩ := info_parts infoField
  go_enter Tryz.func110,Tryz.ntmps110
  go_wp2
  go_loopw [5,10] (fun v i wr => ∃ (k : Nat) (K : Int),i = .int .i64 K∧K = (k : Nat)∧k≤l.length∧wr.ownsRow w.heap.size 184 4 v (ofNum (l.take k) num).length (fcs (ofNum (l.take k) num))∧Below w.heap.size w wr) (fun _ i _ => l.length - (intOf i).toNat)
  case atStart => exact ⟨0,_,rfl,rfl,by omega,World.ownsRow_nil _ _ _ _,Below.refl _ _⟩
  case round =>
    obtain ⟨k,K,rfl,rfl,hk,hown,hb⟩ := hrel
    by_cases hlt : k < l.length
    · obtain ⟨b1,o1,rfl,hb1,x0,x1,x2,x3⟩ := field_at (ha.below hb) hlt
      have hz := hb.size
      have hle := ofNum_le (l.take k) num
      have hlk : (l.take k).length≤k := List.length_take_le _ _
      have hsn := ofNum_snoc (l.take k) l[k] num
      rw [← take_succ_at hlt] at hsn
      generalize hf : l[k] = f at *
      clear ha
      by_cases h : f.num = num
      · rw [if_pos h] at hsn
        have hq : (f.num == num) = true := by simpa using h
        have HB := Lib.hid hb
        have HS := Lib.hid hsn
        clear hb hsn h hf
        obtain ⟨fnum,ftyp,fn,fdata⟩ := f
        simp only at *
        go_wp2_with (at_builtin; refine wpList_append_own _ rfl _ _ 138 rfl w.heap.size 184 i0 _ 4 40 Tryz.underlying138 hi0 hz0 hz1 hz2 rfl (by decide) _ _ _ rfl ((hown.alloc _).alloc _) ⟨wr.heap.size + 1,0,none⟩ 1 1 (fc ⟨fnum,ftyp,fn,fdata⟩) rfl rfl (cells_new2 _ _ _ _) ?c2 ?c3 ?c4 ?c5 ?_)
        case c2 => intro u hu; exact fcs_one_cell (l := [⟨fnum,ftyp,fn,fdata⟩]) u (by rw [fcs_one]; exact hu)
        case c3 => unfold maxLen; omega
        case c4 => omega
        case c5 => first | omega | (simp; omega)
        intro v' w2 hown' hgrow _
        have e1 : fcs (ofNum (l.take k) num) ++ fc ⟨fnum,ftyp,fn,fdata⟩ = fcs (ofNum (l.take (k + 1)) num) := by rw [HS.out,fcs_append,fcs_one]
        have e2 : (ofNum (l.take k) num).length + 1 = (ofNum (l.take (k + 1)) num).length := by rw [HS.out]; simp
        rw [e1,e2] at hown'
        have hb3 := ((HB.out.alloc hz _).alloc (by simp; omega) _).grown hgrow (by simp; omega) (fun q hq => (hown.lt q hq).1)
        have HO := Lib.hid (And.intro hown' hb3)
        clear hgrow hown' hown hb3 e1 e2
        go_wp2_with fail
        go_roundw
        case rel => exact ⟨k + 1,_,rfl,by omega,by omega,HO.out.1,HO.out.2⟩
        case measure => simp [intOf]; omega
      · rw [if_neg h] at hsn
        have hq : (f.num == num) = false := by simpa using h
        rw [← hsn] at hown
        have HO := Lib.hid (And.intro hown hb)
        clear hb hsn h hf hown
        obtain ⟨fnum,ftyp,fn,fdata⟩ := f
        simp only at *
        go_wp2_with fail
        go_roundw
        case rel => exact ⟨k + 1,_,rfl,by omega,by omega,HO.out.1.alloc _,HO.out.2.alloc hz _⟩
        case measure => simp [intOf]; omega
    · obtain rfl : k = l.length := by omega
      rw [List.take_length] at hown
      have HO := Lib.hid (And.intro hown hb)
      clear hown hb
      go_wp2
      go_ret
      exact ⟨_,rfl,HO.out.1,HO.out.2⟩
end Go.Proofs.YtjjfdlgoacockaaGreat
