/- Plain numbers and bytes of layer 2: fields, their reading and their writing. No program is imported. -/
import Derived.Test.YtmojabdobjfdoaaMath
import GoSem.Core.Value
namespace Go.Proofs.Ytmojabdobjfdoaa.M2
open M1

/-- The number of bytes, the lowest first. -/
def low : List UInt8 → Nat
  | [] => 0
  | b :: l => b.toNat + 256 * low l
def pb (i : Nat) : Nat := 256 ^ i
theorem pb_succ (i : Nat) : pb (i + 1) = pb i * 256 := Nat.pow_succ _ _
theorem pb_pos (i : Nat) : 0 < pb i := Nat.pow_pos (by omega)
theorem pb_le {i : Nat} (h : i ≤ 7) : pb i ≤ 72057594037927936 := Nat.pow_le_pow_right (n := 256) (by omega) h
theorem pb_le8 {i : Nat} (h : i ≤ 8) : pb i ≤ 18446744073709551616 := Nat.pow_le_pow_right (n := 256) (by omega) h
theorem low_lt (l : List UInt8) : low l < pb l.length := by
  induction l with
  | nil => simp [low, pb]
  | cons b l ih =>
    have := b.toNat_lt
    rw [low, List.length_cons, pb_succ]
    omega
theorem low_append (a b : List UInt8) : low (a ++ b) = low a + pb a.length * low b := by
  induction a with
  | nil => simp [low, pb]
  | cons c a ih =>
    rw [List.cons_append, low, low, ih, List.length_cons, pb_succ, Nat.mul_add, Nat.mul_comm (pb a.length) 256, Nat.mul_assoc]
    omega
theorem low_snoc (a : List UInt8) (c : UInt8) : low (a ++ [c]) = low a + c.toNat * pb a.length := by
  rw [low_append]; simp [low, Nat.mul_comm]

/-- So many bytes of a number, the lowest first. -/
def hi : Nat → Nat → List UInt8
  | 0, _ => []
  | k + 1, v => UInt8.ofNat (v % 256) :: hi k (v / 256)
theorem hi_len (k v : Nat) : (hi k v).length = k := by
  induction k generalizing v with
  | zero => rfl
  | succ k ih => simp [hi, ih]
theorem hi_snoc (k : Nat) : ∀ v, hi (k + 1) v = hi k v ++ [UInt8.ofNat (v / pb k % 256)] := by
  induction k with
  | zero => intro v; simp [hi, pb]
  | succ k ih =>
    intro v
    rw [hi, ih, hi, List.cons_append]
    have : v / 256 / pb k = v / pb (k + 1) := by rw [Nat.div_div_eq_div_mul, pb_succ, Nat.mul_comm]
    rw [this]
theorem low_hi (k : Nat) : ∀ v, low (hi k v) = v % pb k := by
  induction k with
  | zero => intro v; simp [hi, low, pb, Nat.mod_one]
  | succ k ih =>
    intro v
    rw [hi, low, ih, pb_succ, Nat.mul_comm (pb k) 256, Nat.mod_mul]
    simp
/-- those bytes as a text -/
def hs (k v : Nat) : ByteArray := ⟨(hi k v).toArray⟩
theorem hs_list (k v : Nat) : (hs k v).data.toList = hi k v := rfl
theorem hs_size (k v : Nat) : (hs k v).size = k := by
  show (hi k v).toArray.size = k
  simp [hi_len]
theorem hs_snoc (k v : Nat) : hs (k + 1) v = hs k v ++ ⟨[UInt8.ofNat (v / pb k % 256)].toArray⟩ := by
  apply ByteArray.ext
  apply Array.ext'
  rw [hs_list, hi_snoc]
  simp [hs]
theorem low_hi_fit {k v : Nat} (h : v < pb k) : low (hi k v) = v := by rw [low_hi, Nat.mod_eq_of_lt h]

/-- the code's way -/
theorem lor_step {i v : Nat} {c : UInt8} (hi : i < 8) (hv : v < pb i) :
    bits .or .u64 (v : Int) (IntKind.u64.wrap ((c.toNat : Int) * 2 ^ (8 * i))) = ((v + c.toNat * pb i : Nat) : Int) := by
  have e : (2 : Int) ^ (8 * i) = ((pb i : Nat) : Int) := by
    rw [pb, show (256 : Nat) = 2 ^ 8 from rfl, ← Nat.pow_mul, Int.natCast_pow]; rfl
  have hc := c.toNat_lt
  have h1 : c.toNat * pb i ≤ 255 * pb i := Nat.mul_le_mul_right _ (by omega)
  have h2 := pb_le (i := i) (by omega)
  have e2 : ((c.toNat : Int) * ((pb i : Nat) : Int)) = ((c.toNat * pb i : Nat) : Int) := by simp
  rw [e, e2, IntWalk.u64_in _ (by omega), u64_or_nat _ _ (by omega) (by omega)]
  congr 1
  have e3 : pb i = 2 ^ (8 * i) := by rw [pb, show (256 : Nat) = 2 ^ 8 from rfl, ← Nat.pow_mul]
  rw [Nat.or_comm]
  have := Nat.shiftLeft_add_eq_or_of_lt (show v < 2 ^ (8 * i) by omega) c.toNat
  rw [Nat.shiftLeft_eq, ← e3] at this
  omega

theorem take_snoc {s : ByteArray} {k : Nat} (h : k < s.size) : s.data.toList.take (k + 1) = s.data.toList.take k ++ [s[k]] := by
  rw [List.take_succ_eq_append_getElem (by simpa using h)]; rfl

/-- A field. -/
structure WFd where
  num : Int
  typ : Int
  n : Nat
  data : ByteArray
def fd0 : WFd := ⟨0, 0, 0, ⟨#[]⟩⟩
def mayB (num typ : Int) : Bool := decide (1 ≤ num ∧ num ≤ 536870911 ∧ (typ = 0 ∨ typ = 1 ∨ typ = 2 ∨ typ = 5))
/-- what is left of a text -/
def rest (s : ByteArray) (k : Nat) : ByteArray := s.extract k s.size
theorem rest_list (s : ByteArray) (k : Nat) : (rest s k).data.toList = s.data.toList.drop k := by
  rw [rest]
  simp only [ByteArray.data_extract, Array.toList_extract, List.extract_eq_take_drop]
  rw [List.take_of_length_le]
  simp
theorem rest_size (s : ByteArray) (k : Nat) : (rest s k).size = s.size - k := by simp [rest]
theorem rest_rest (s : ByteArray) (a b : Nat) : rest (rest s a) b = rest s (a + b) := by
  apply ByteArray.ext
  apply Array.ext'
  rw [rest_list, rest_list, rest_list, List.drop_drop]
theorem rest_zero (s : ByteArray) : rest s 0 = s := by
  apply ByteArray.ext
  apply Array.ext'
  rw [rest_list]; simp
theorem cut_list (s : ByteArray) (a k : Nat) : (s.extract a (a + k)).data.toList = (s.extract a s.size).data.toList.take k := by
  have h := rest_list s a
  rw [rest] at h
  rw [h]
  simp only [ByteArray.data_extract, Array.toList_extract, List.extract_eq_take_drop]
  rw [show a + k - a = k by omega]
theorem cut_cut {s B : ByteArray} {a m N : Nat} (h : s.extract a s.size = B) : s.extract (a + m) (a + m + N) = B.extract m (m + N) := by
  apply ByteArray.ext
  apply Array.ext'
  rw [cut_list, cut_list]
  congr 1
  have h1 := rest_rest s a m
  have e1 : rest s a = B := h
  rw [e1] at h1
  exact congrArg (fun b : ByteArray => b.data.toList) h1.symm
/-- A number of so many bytes at a text's head, how many those are, the error. -/
def rl (s : ByteArray) (n : Nat) : Nat × Nat × Nat := if s.size < n then (0, 0, 1) else (low (s.data.toList.take n), n, 0)
/-- The text behind its length. -/
def rt (s : ByteArray) : ByteArray × Nat × Nat :=
  if (rd s).2.2 ≠ 0 then (⟨#[]⟩, 0, (rd s).2.2)
  else if s.size - (rd s).2.1 < (rd s).1 then (⟨#[]⟩, 0, 1)
  else (s.extract (rd s).2.1 ((rd s).2.1 + (rd s).1), (rd s).2.1 + (rd s).1, 0)
/-- What stands behind a tag: the number, the text, how many bytes, the error. -/
def pay (typ : Nat) (s : ByteArray) : Nat × ByteArray × Nat × Nat :=
  if typ = 0 then ((rd s).1, ⟨#[]⟩, (rd s).2.1, (rd s).2.2)
  else if typ = 1 then ((rl s 8).1, ⟨#[]⟩, (rl s 8).2.1, (rl s 8).2.2)
  else if typ = 2 then (0, (rt s).1, (rt s).2.1, (rt s).2.2)
  else ((rl s 4).1, ⟨#[]⟩, (rl s 4).2.1, (rl s 4).2.2)
/-- The field at a text's head, how many bytes, the error. -/
def one (s : ByteArray) : WFd × Nat × Nat :=
  if (rd s).2.2 ≠ 0 then (fd0, 0, (rd s).2.2)
  else if mayB ((rd s).1 / 8 : Nat) ((rd s).1 % 8 : Nat) = false then (fd0, 0, 3)
  else if (pay ((rd s).1 % 8) (rest s (rd s).2.1)).2.2.2 ≠ 0 then (fd0, 0, (pay ((rd s).1 % 8) (rest s (rd s).2.1)).2.2.2)
  else (⟨((rd s).1 / 8 : Nat), ((rd s).1 % 8 : Nat), (pay ((rd s).1 % 8) (rest s (rd s).2.1)).1, (pay ((rd s).1 % 8) (rest s (rd s).2.1)).2.1⟩, (rd s).2.1 + (pay ((rd s).1 % 8) (rest s (rd s).2.1)).2.2.1, 0)

theorem rdL_bound (k : Nat) : ∀ (i a : Nat) (l : List UInt8), k + i = 10 → (rdL k i l a).2.2 = 0 → i < (rdL k i l a).2.1 := by
  induction k with
  | zero => intro i a l _ h; simp [rdL] at h
  | succ k ih =>
    intro i a l hk h
    match l, h with
    | [], h => simp [rdL] at h
    | c :: l, h =>
      rw [rdL] at h ⊢
      split
      · rename_i h1; simp [h1] at h
      · rename_i h1
        rw [if_neg h1] at h
        split
        · simp
        · rename_i h2
          rw [if_neg h2] at h
          have := ih (i + 1) _ l (by omega) h
          omega
/-- what is read takes a byte and more -/
theorem rd_pos {s : ByteArray} (h : (rd s).2.2 = 0) : 0 < (rd s).2.1 := rdL_bound 10 0 0 _ rfl h
theorem rdL_zero (k : Nat) : ∀ (i a : Nat) (l : List UInt8), (rdL k i l a).2.2 ≠ 0 → (rdL k i l a).1 = 0 ∧ (rdL k i l a).2.1 = 0 := by
  induction k with
  | zero => intro i a l _; simp [rdL]
  | succ k ih =>
    intro i a l h
    match l, h with
    | [], h => simp [rdL]
    | c :: l, h =>
      rw [rdL] at h ⊢
      split
      · simp
      · rename_i h1
        rw [if_neg h1] at h
        split
        · rename_i h2; simp [h2] at h
        · rename_i h2
          rw [if_neg h2] at h
          exact ih _ _ _ h
/-- beside an error the number and the place are zero -/
theorem rd_err {s : ByteArray} (h : (rd s).2.2 ≠ 0) : (rd s).1 = 0 ∧ (rd s).2.1 = 0 := rdL_zero 10 0 0 _ h
/-- the errors' codes are small -/
theorem rdL_code (k : Nat) : ∀ (i a : Nat) (l : List UInt8), (rdL k i l a).2.2 ≤ 2 := by
  induction k with
  | zero => intro i a l; simp [rdL]
  | succ k ih =>
    intro i a l
    match l with
    | [] => simp [rdL]
    | c :: l =>
      rw [rdL]
      split
      · simp
      · split
        · simp
        · exact ih _ _ _
theorem rd_code (s : ByteArray) : (rd s).2.2 ≤ 2 := rdL_code _ _ _ _

theorem pay_fit {t : Nat} {s : ByteArray} (h : (pay t s).2.2.2 = 0) : (pay t s).2.2.1 ≤ s.size := by
  unfold pay at h ⊢
  split
  · rename_i h0; simp only [h0, if_true] at h; exact (rd_fine h).1
  · rename_i h0
    simp only [h0, if_false] at h
    split
    · rename_i h1; simp only [h1, if_true] at h
      unfold rl at h ⊢
      split
      · simp
      · simp; omega
    · rename_i h1
      simp only [h1, if_false] at h
      split
      · rename_i h2
        simp only [h2, if_true] at h
        unfold rt at h ⊢
        split
        · simp
        · rename_i h3
          have h3' : (rd s).2.2 = 0 := by omega
          have := (rd_fine h3').1
          split
          · simp
          · simp; omega
      · rename_i h2
        simp only [h2, if_false] at h
        unfold rl at h ⊢
        split
        · simp
        · simp; omega
theorem one_fit {s : ByteArray} (h : (one s).2.2 = 0) : 0 < (one s).2.1 ∧ (one s).2.1 ≤ s.size := by
  unfold one at h ⊢
  split
  · rename_i h0; rw [if_pos h0] at h; simp at h; omega
  · rename_i h0
    rw [if_neg h0] at h
    split
    · rename_i h1; rw [if_pos h1] at h; simp at h
    · rename_i h1
      rw [if_neg h1] at h
      split
      · rename_i h2; rw [if_pos h2] at h; simp at h; omega
      · rename_i h2
        have h0' : (rd s).2.2 = 0 := by omega
        have a := rd_pos h0'
        have b := (rd_fine h0').1
        have c := pay_fit (t := (rd s).1 % 8) (s := rest s (rd s).2.1) (by omega)
        rw [rest_size] at c
        simp only
        omega

theorem one_err {s : ByteArray} (he : (rd s).2.2 ≠ 0) : one s = (fd0, 0, (rd s).2.2) := by unfold one; rw [if_pos he]
theorem one_no {s : ByteArray} (he : (rd s).2.2 = 0) (hm : mayB ((rd s).1 / 8 : Nat) ((rd s).1 % 8 : Nat) = false) : one s = (fd0, 0, 3) := by
  unfold one; rw [if_neg (by omega), if_pos hm]
theorem one_yes {s : ByteArray} {x n : Nat} (hr : rd s = (x, n, 0)) (hm : mayB ((x : Int) / 8) ((x : Int) % 8) = true) (N : Nat) (D : ByteArray) (m c : Nat) (hp : pay (x % 8) (rest s n) = (N, D, m, c)) :
    one s = (if c = 0 then ⟨(x : Int) / 8, (x : Int) % 8, N, D⟩ else fd0, if c = 0 then n + m else 0, c) := by
  unfold one
  rw [hr]
  simp only
  rw [if_neg (by omega), show mayB ((x / 8 : Nat) : Int) ((x % 8 : Nat) : Int) = true from hm, if_neg (by simp), hp]
  by_cases h0 : c = 0
  · simp only [h0, if_true]; simp
  · simp only [h0, if_false]; simp [h0]

/-- Fields of a text, with fuel. -/
def fl : Nat → ByteArray → List WFd × Nat
  | 0, _ => ([], 0)
  | k + 1, s => if s.size = 0 then ([], 0) else if (one s).2.2 ≠ 0 then ([], (one s).2.2)
    else if (fl k (rest s (one s).2.1)).2 ≠ 0 then ([], (fl k (rest s (one s).2.1)).2) else ((one s).1 :: (fl k (rest s (one s).2.1)).1, 0)
theorem fl_fuel (k : Nat) : ∀ (m : Nat) (s : ByteArray), s.size ≤ k → s.size ≤ m → fl k s = fl m s := by
  induction k with
  | zero =>
    intro m s hk hm
    have h0 : s.size = 0 := by omega
    cases m with
    | zero => rfl
    | succ m => simp [fl, h0]
  | succ k ih =>
    intro m s hk hm
    by_cases h0 : s.size = 0
    · cases m with
      | zero => simp [fl, h0]
      | succ m => simp [fl, h0]
    · obtain ⟨m, rfl⟩ : ∃ j, m = j + 1 := ⟨m - 1, by omega⟩
      rw [fl, fl]
      by_cases he : (one s).2.2 = 0
      · have hf := one_fit he
        have hr := rest_size s (one s).2.1
        rw [ih m (rest s (one s).2.1) (by omega) (by omega)]
      · simp [he]
def flw (s : ByteArray) : List WFd × Nat := fl s.size s
/-- P2.1: the fields of a message, and the error. -/
def fields (s : ByteArray) : List WFd × Nat := if 1048576 < s.size then ([], 2) else flw s
def jn (acc : List WFd) (r : List WFd × Nat) : List WFd × Nat := if r.2 = 0 then (acc ++ r.1, 0) else ([], r.2)
theorem jn_nil (s : ByteArray) : jn [] (flw s) = flw s := by
  have H : ∀ k s, (fl k s).2 ≠ 0 → (fl k s).1 = [] := by
    intro k
    induction k with
    | zero => intro s h; simp [fl] at h
    | succ k ih =>
      intro s h
      rw [fl] at h ⊢
      split
      · rfl
      · split
        · rfl
        · split
          · rfl
          · rename_i h1 h2 h3
            rw [if_neg h1, if_neg h2, if_neg h3] at h
            simp at h
  unfold jn
  split
  · rename_i h; simp [← h]
  · rename_i h; rw [← H _ _ h]; rfl
theorem flw_end {s : ByteArray} (h : s.size = 0) : flw s = ([], 0) := by rw [flw, h]; rfl
theorem flw_err {s : ByteArray} (h : s.size ≠ 0) (he : (one s).2.2 ≠ 0) : flw s = ([], (one s).2.2) := by
  obtain ⟨k, hk⟩ : ∃ k, s.size = k + 1 := ⟨s.size - 1, by omega⟩
  rw [flw, hk, fl, if_neg h, if_pos he]
theorem flw_step {s : ByteArray} (h : s.size ≠ 0) (he : (one s).2.2 = 0) (acc : List WFd) : jn acc (flw s) = jn (acc ++ [(one s).1]) (flw (rest s (one s).2.1)) := by
  obtain ⟨k, hk⟩ : ∃ k, s.size = k + 1 := ⟨s.size - 1, by omega⟩
  have hf := one_fit he
  have hr := rest_size s (one s).2.1
  have e : fl k (rest s (one s).2.1) = flw (rest s (one s).2.1) := fl_fuel _ _ _ (by omega) (by omega)
  rw [flw, hk, fl, if_neg h, if_neg (by omega), e]
  generalize flw (rest s (one s).2.1) = r
  unfold jn
  by_cases h0 : r.2 = 0 <;> simp [h0]
theorem fields_list_le (s : ByteArray) : (flw s).1.length ≤ s.size := by
  have H : ∀ k s, (fl k s).1.length ≤ k := by
    intro k
    induction k with
    | zero => intro s; simp [fl]
    | succ k ih =>
      intro s
      rw [fl]
      split
      · simp
      · split
        · simp
        · split
          · simp
          · simp only [List.length_cons]
            have := ih (rest s (one s).2.1)
            omega
  exact H _ _
theorem rd_parts (s : ByteArray) : ∃ x n e, rd s = (x, n, e) ∧ (e = 0 → 0 < n ∧ n ≤ s.size ∧ Fits64 x) ∧ (e ≠ 0 → x = 0 ∧ n = 0) ∧ e ≤ 2 := by
  refine ⟨(rd s).1, (rd s).2.1, (rd s).2.2, rfl, fun h => ⟨rd_pos h, (rd_fine h).1, (rd_fine h).2.2.2⟩, fun h => rd_err h, rd_code s⟩
theorem mayB_typ {num typ : Int} (h : mayB num typ = true) : typ = 0 ∨ typ = 1 ∨ typ = 2 ∨ typ = 5 := by
  unfold mayB at h
  rw [decide_eq_true_iff] at h
  exact h.2.2
theorem low_fits {l : List UInt8} (h : l.length ≤ 8) : Fits64 (low l) := by
  have h1 := low_lt l
  have h2 := pb_le8 h
  unfold Fits64
  omega
theorem rl_fits (s : ByteArray) {n : Nat} (hn : n ≤ 8) : Fits64 (rl s n).1 := by
  unfold rl
  split
  · unfold Fits64; simp
  · exact low_fits (by simp; omega)
theorem rd_fits (s : ByteArray) : Fits64 (rd s).1 := by
  by_cases h : (rd s).2.2 = 0
  · exact (rd_fine h).2.2.2
  · rw [(rd_err h).1]; unfold Fits64; omega
theorem pay_le (t : Nat) (s : ByteArray) : (pay t s).2.2.1 ≤ s.size := by
  by_cases h : (pay t s).2.2.2 = 0
  · exact pay_fit h
  · have : (pay t s).2.2.1 = 0 := by
      unfold pay at h ⊢
      split
      · rename_i h0; simp only [h0, if_true] at h; exact (rd_err h).2
      · rename_i h0
        simp only [h0, if_false] at h
        split
        · rename_i h1; simp only [h1, if_true] at h
          unfold rl at h ⊢
          split
          · rfl
          · rename_i h2; rw [if_neg h2] at h; simp at h
        · rename_i h1
          simp only [h1, if_false] at h
          split
          · rename_i h2
            simp only [h2, if_true] at h
            unfold rt at h ⊢
            split
            · rfl
            · rename_i h3
              rw [if_neg h3] at h
              split
              · rfl
              · rename_i h4; rw [if_neg h4] at h; simp at h
          · rename_i h2
            simp only [h2, if_false] at h
            unfold rl at h ⊢
            split
            · rfl
            · rename_i h3; rw [if_neg h3] at h; simp at h
    omega
end Go.Proofs.Ytmojabdobjfdoaa.M2
