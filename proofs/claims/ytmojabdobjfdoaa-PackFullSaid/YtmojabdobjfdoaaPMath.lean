/- Plain numbers and bytes of layer 3: rows of numbers in fields, and their least writing. No program is imported. -/
import Derived.Test.YtmojabdobjfdoaaWMathTwo
import Derived.RowKit
import GoSem.Core.Value
namespace Go.Proofs.Ytmojabdobjfdoaa.M3
open M1 M2 Go.RowKit

/-- a number as 64 bits' two's complement, and back -/
def sg (v : Nat) : Int := wrap64 (v : Int)
def us (n : Int) : Nat := (IntKind.u64.wrap n).toNat
def In64 (n : Int) : Prop := -9223372036854775808 ≤ n ∧ n ≤ 9223372036854775807
theorem us_eq (n : Int) : IntKind.u64.wrap n = ((us n : Nat) : Int) := by
  unfold us
  have h : IntKind.u64.wrap n = n % 18446744073709551616 := by simp [IntKind.wrap, IntKind.bits, IntKind.signed]
  rw [h]; omega
theorem us_fits (n : Int) : Fits64 (us n) := by
  unfold us Fits64
  have h : IntKind.u64.wrap n = n % 18446744073709551616 := by simp [IntKind.wrap, IntKind.bits, IntKind.signed]
  rw [h]; omega
theorem sg_us {n : Int} (h : In64 n) : sg (us n) = n := by
  unfold In64 at h
  unfold sg wrap64
  have h1 : IntKind.u64.wrap n = n % 18446744073709551616 := by simp [IntKind.wrap, IntKind.bits, IntKind.signed]
  have h2 := us_eq n
  rw [h1] at h2
  rw [← h2]
  omega
theorem sg_in (v : Nat) : In64 (sg v) := by unfold sg wrap64 In64; omega

/-- The row, with the numbers of a packed text behind it, and the error. -/
def pk : Nat → ByteArray → List Int → List Int × Nat
  | 0, _, acc => (acc, 0)
  | k + 1, s, acc => if s.size = 0 then (acc, 0) else if (rd s).2.2 ≠ 0 then ([], (rd s).2.2) else if acc.length = 65536 then ([], 7)
    else pk k (rest s (rd s).2.1) (acc ++ [sg (rd s).1])
theorem pk_fuel (k : Nat) : ∀ (m : Nat) (s : ByteArray) (acc : List Int), s.size ≤ k → s.size ≤ m → pk k s acc = pk m s acc := by
  induction k with
  | zero =>
    intro m s acc hk hm
    have h0 : s.size = 0 := by omega
    cases m with
    | zero => rfl
    | succ m => simp [pk, h0]
  | succ k ih =>
    intro m s acc hk hm
    by_cases h0 : s.size = 0
    · cases m with
      | zero => simp [pk, h0]
      | succ m => simp [pk, h0]
    · obtain ⟨m, rfl⟩ : ∃ j, m = j + 1 := ⟨m - 1, by omega⟩
      rw [pk, pk]
      by_cases he : (rd s).2.2 = 0
      · have hf := rd_pos he
        have hr := rest_size s (rd s).2.1
        rw [ih m (rest s (rd s).2.1) _ (by omega) (by omega)]
      · simp [he]
def pks (s : ByteArray) (acc : List Int) : List Int × Nat := pk s.size s acc
theorem pks_end {s : ByteArray} (h : s.size = 0) (acc : List Int) : pks s acc = (acc, 0) := by rw [pks, h]; rfl
theorem pks_err {s : ByteArray} (h : s.size ≠ 0) (he : (rd s).2.2 ≠ 0) (acc : List Int) : pks s acc = ([], (rd s).2.2) := by
  obtain ⟨k, hk⟩ : ∃ k, s.size = k + 1 := ⟨s.size - 1, by omega⟩
  rw [pks, hk, pk, if_neg h, if_pos he]
theorem pks_full {s : ByteArray} (h : s.size ≠ 0) (he : (rd s).2.2 = 0) {acc : List Int} (hf : acc.length = 65536) : pks s acc = ([], 7) := by
  obtain ⟨k, hk⟩ : ∃ k, s.size = k + 1 := ⟨s.size - 1, by omega⟩
  rw [pks, hk, pk, if_neg h, if_neg (by omega), if_pos hf]
theorem pks_step {s : ByteArray} (h : s.size ≠ 0) (he : (rd s).2.2 = 0) {acc : List Int} (hf : acc.length ≠ 65536) : pks s acc = pks (rest s (rd s).2.1) (acc ++ [sg (rd s).1]) := by
  obtain ⟨k, hk⟩ : ∃ k, s.size = k + 1 := ⟨s.size - 1, by omega⟩
  have h1 := rd_pos he
  have h2 := rest_size s (rd s).2.1
  rw [pks, hk, pk, if_neg h, if_neg (by omega), if_neg hf, pks]
  exact pk_fuel _ _ _ _ (by omega) (by omega)

/-- The row, with the numbers of one field behind it, and the error. -/
def addF (f : WFd) (acc : List Int) : List Int × Nat :=
  if f.typ = 0 then (if acc.length = 65536 then ([], 7) else (acc ++ [sg f.n], 0))
  else if f.typ = 2 then pks f.data acc else ([], 3)
/-- P3.1: the row in fields, and the error. -/
def ints : List WFd → List Int → List Int × Nat
  | [], acc => (acc, 0)
  | f :: l, acc => if (addF f acc).2 ≠ 0 then ([], (addF f acc).2) else ints l (addF f acc).1
theorem ints_err {f : WFd} {l : List WFd} {acc : List Int} {r : List Int} {e : Nat} (h : addF f acc = (r, e)) (he : e ≠ 0) : ints (f :: l) acc = ([], e) := by
  rw [ints, h]; simp [he]
theorem ints_ok {f : WFd} {l : List WFd} {acc r : List Int} (h : addF f acc = (r, 0)) : ints (f :: l) acc = ints l r := by
  rw [ints, h]; simp
theorem ints_cat (a b : List WFd) : ∀ (acc r : List Int), ints a acc = (r, 0) → ints (a ++ b) acc = ints b r := by
  induction a with
  | nil => intro acc r h; rw [ints] at h; simp only [Prod.mk.injEq, and_true] at h; rw [List.nil_append, h]
  | cons f l ih =>
    intro acc r h
    rw [ints] at h
    rw [List.cons_append, ints]
    by_cases he : (addF f acc).2 = 0
    · rw [if_neg (by omega)] at h ⊢
      exact ih _ _ h
    · rw [if_pos he] at h
      simp only [Prod.mk.injEq] at h
      exact absurd h.2 he

/-- A row is never longer than it may be. -/
theorem pk_le (k : Nat) : ∀ (s : ByteArray) (acc : List Int), acc.length ≤ 65536 → (pk k s acc).1.length ≤ 65536 := by
  induction k with
  | zero => intro s acc h; exact h
  | succ k ih =>
    intro s acc h
    rw [pk]
    split
    · exact h
    · split
      · simp
      · split
        · simp
        · exact ih _ _ (by simp; omega)
theorem pks_le (s : ByteArray) {acc : List Int} (h : acc.length ≤ 65536) : (pks s acc).1.length ≤ 65536 := pk_le _ _ _ h
theorem addF_le (f : WFd) {acc : List Int} (h : acc.length ≤ 65536) : (addF f acc).1.length ≤ 65536 := by
  unfold addF
  split
  · split
    · simp
    · simp; omega
  · split
    · exact pks_le _ h
    · simp
theorem pk_code (k : Nat) : ∀ (s : ByteArray) (acc : List Int), (pk k s acc).2 ≤ 7 := by
  induction k with
  | zero => intro s acc; simp [pk]
  | succ k ih =>
    intro s acc
    rw [pk]
    split
    · simp
    · split
      · have := rd_code s; simp only; omega
      · split
        · simp
        · exact ih _ _
theorem pk_nil (k : Nat) : ∀ (s : ByteArray) (acc : List Int), (pk k s acc).2 ≠ 0 → (pk k s acc).1 = [] := by
  induction k with
  | zero => intro s acc h; simp [pk] at h
  | succ k ih =>
    intro s acc h
    rw [pk] at h ⊢
    split
    · rename_i h0; rw [if_pos h0] at h; simp at h
    · rename_i h0
      rw [if_neg h0] at h
      split
      · rfl
      · rename_i h1
        rw [if_neg h1] at h
        split
        · rfl
        · rename_i h2
          rw [if_neg h2] at h
          exact ih _ _ h
theorem pks_code (s : ByteArray) (acc : List Int) : (pks s acc).2 ≤ 7 := pk_code _ _ _
theorem pks_nil {s : ByteArray} {acc : List Int} (h : (pks s acc).2 ≠ 0) : (pks s acc).1 = [] := pk_nil _ _ _ h
theorem addF_nil {f : WFd} {acc : List Int} (h : (addF f acc).2 ≠ 0) : (addF f acc).1 = [] := by
  unfold addF at h ⊢
  split
  · rename_i h0
    rw [if_pos h0] at h
    split
    · rfl
    · rename_i h1; rw [if_neg h1] at h; simp at h
  · rename_i h0
    rw [if_neg h0] at h
    split
    · rename_i h1; rw [if_pos h1] at h; exact pks_nil h
    · rfl
theorem ints_le (l : List WFd) : ∀ (acc : List Int), acc.length ≤ 65536 → (ints l acc).1.length ≤ 65536 := by
  induction l with
  | nil => intro acc h; exact h
  | cons f l ih =>
    intro acc h
    rw [ints]
    split
    · simp
    · exact ih _ (addF_le f h)
theorem ints_nil (l : List WFd) : ∀ (acc : List Int), (ints l acc).2 ≠ 0 → (ints l acc).1 = [] := by
  induction l with
  | nil => intro acc h; simp [ints] at h
  | cons f l ih =>
    intro acc h
    rw [ints] at h ⊢
    split
    · rfl
    · rename_i h0
      rw [if_neg h0] at h
      exact ih _ h

/-- P3.1: the texts in fields, and the error. -/
def txts : List WFd → List ByteArray → List ByteArray × Nat
  | [], acc => (acc, 0)
  | f :: l, acc => if f.typ ≠ 2 then ([], 3) else txts l (acc ++ [f.data])
theorem txts_le (l : List WFd) : ∀ (acc : List ByteArray), (txts l acc).1.length ≤ acc.length + l.length := by
  induction l with
  | nil => intro acc; simp [txts]
  | cons f l ih =>
    intro acc
    rw [txts]
    split
    · simp
    · have := ih (acc ++ [f.data])
      simp at this ⊢
      omega

/-- numbers' least writings, one behind the other -/
def cps : List Int → ByteArray
  | [] => ⟨#[]⟩
  | n :: l => ps (us n) ++ cps l
theorem cps_snoc (l : List Int) (n : Int) : cps (l ++ [n]) = cps l ++ ps (us n) := by
  induction l with
  | nil => apply ba_eq; simp [cps]
  | cons m l ih => rw [List.cons_append, cps, ih, cps]; apply ba_eq; simp
theorem cps_le (l : List Int) : (cps l).size ≤ 10 * l.length := by
  induction l with
  | nil => exact Nat.zero_le _
  | cons n l ih =>
    have := ps_le (us n)
    rw [cps, ByteArray.size_append, List.length_cons]
    omega
/-- P3.1: a row's least writing. -/
def pt (num : Int) (l : List Int) : ByteArray := if l = [] then ⟨#[]⟩ else fb ⟨num, 2, 0, cps l⟩
theorem pt_le (num : Int) (l : List Int) : (pt num l).size ≤ 30 * l.length := by
  unfold pt
  split
  · exact Nat.zero_le _
  · rename_i h
    have h1 := fb_le ⟨num, 2, 0, cps l⟩
    have h2 := cps_le l
    have h3 : l.length ≠ 0 := by simpa using h
    simp only at h1
    omega
/-- what is written is read behind any row that has room -/
theorem pks_cps (l : List Int) : ∀ (acc : List Int), (∀ n ∈ l, In64 n) → acc.length + l.length ≤ 65536 → pks (cps l) acc = (acc ++ l, 0) := by
  induction l with
  | nil => intro acc _ _; rw [pks_end (by rfl)]; simp
  | cons n l ih =>
    intro acc h hl
    have hr := rd_ps (us_fits n) (cps l)
    have hp := rd_pos (s := ps (us n) ++ cps l) (by rw [hr])
    rw [hr] at hp
    simp only at hp
    have hs := pks_step (s := ps (us n) ++ cps l) (by rw [ByteArray.size_append]; omega) (by rw [hr]) (acc := acc) (by simp at hl; omega)
    rw [hr] at hs
    simp only at hs
    rw [rest_app, sg_us (h n (by simp))] at hs
    rw [cps, hs, ih _ (fun m hm => h m (by simp [hm])) (by simp at hl ⊢; omega)]
    simp
/-- .. and is too much behind one that has none -/
theorem pks_over (l : List Int) : ∀ (acc : List Int), acc.length ≤ 65536 → 65536 < acc.length + l.length → pks (cps l) acc = ([], 7) := by
  induction l with
  | nil => intro acc h1 h2; simp at h2; omega
  | cons n l ih =>
    intro acc h1 h2
    have hr := rd_ps (us_fits n) (cps l)
    have hp := rd_pos (s := ps (us n) ++ cps l) (by rw [hr])
    rw [hr] at hp
    simp only at hp
    by_cases h : acc.length = 65536
    · exact pks_full (by rw [cps, ByteArray.size_append]; omega) (by rw [cps, hr]) h
    · have hs := pks_step (s := ps (us n) ++ cps l) (by rw [ByteArray.size_append]; omega) (by rw [hr]) h
      rw [hr] at hs
      simp only at hs
      rw [rest_app] at hs
      rw [cps, hs]
      exact ih _ (by simp; omega) (by simp at h2 ⊢; omega)
theorem ps_zero : (ps (us 0)).data.toList = [0] := by decide +kernel
theorem cps_zeros (m : Nat) : (cps (List.replicate m 0)).data.toList = List.replicate m 0 := by
  induction m with
  | zero => rfl
  | succ m ih =>
    rw [List.replicate_succ, cps, ByteArray.data_append, Array.toList_append, ps_zero, ih]
    rfl
/-- so many zeros packed, and one more number -/
theorem ints_zeros {S : ByteArray} {m : Nat} (h : S.data.toList = List.replicate m 0) :
    (m + 1 ≤ 65536 → ∃ q, ints [⟨1, 2, 0, S⟩, ⟨1, 0, 0, ⟨#[]⟩⟩] [] = (q, 0) ∧ q.length = m + 1) ∧ (65536 < m + 1 → ints [⟨1, 2, 0, S⟩, ⟨1, 0, 0, ⟨#[]⟩⟩] [] = ([], 7)) := by
  have e : S = cps (List.replicate m 0) := ba_eq (by rw [h, cps_zeros])
  subst e
  have hz : ∀ n ∈ List.replicate m (0 : Int), In64 n := fun n hn => by rw [List.eq_of_mem_replicate hn]; unfold In64; omega
  have hl : (List.replicate m (0 : Int)).length = m := by simp
  constructor
  · intro hm
    have h1 : addF ⟨1, 2, 0, cps (List.replicate m 0)⟩ [] = ([] ++ List.replicate m 0, 0) := by
      unfold addF; simp only [if_true]; rw [if_neg (by omega)]
      exact pks_cps _ _ hz (by simp; omega)
    have h2 : addF ⟨1, 0, 0, ⟨#[]⟩⟩ ([] ++ List.replicate m 0) = (([] ++ List.replicate m 0) ++ [sg 0], 0) := by
      unfold addF; simp only [if_true]; rw [if_neg (by simp; omega)]
    exact ⟨_, by rw [ints_ok h1, ints_ok h2]; rfl, by simp⟩
  · intro hm
    by_cases hm2 : m = 65536
    · have h1 : addF ⟨1, 2, 0, cps (List.replicate m 0)⟩ [] = ([] ++ List.replicate m 0, 0) := by
        unfold addF; simp only [if_true]; rw [if_neg (by omega)]
        exact pks_cps _ _ hz (by simp; omega)
      have h2 : addF ⟨1, 0, 0, ⟨#[]⟩⟩ ([] ++ List.replicate m 0) = ([], 7) := by
        unfold addF; simp only [if_true]; rw [if_pos (by simp; omega)]
      rw [ints_ok h1, ints_err h2 (by omega)]
    · have h1 : addF ⟨1, 2, 0, cps (List.replicate m 0)⟩ [] = ([], 7) := by
        unfold addF; simp only [if_true]; rw [if_neg (by omega)]
        exact pks_over _ _ (by simp) (by simp; omega)
      rw [ints_err h1 (by omega)]

/-- Fields that hold a row: numbers, and packed parts. -/
inductive Cut (k : Int) : List WFd → List Int → Prop
  | nil : Cut k [] []
  | num {L : List WFd} {r : List Int} {n : Int} : Cut k L r → In64 n → Cut k (L ++ [⟨k, 0, us n, ⟨#[]⟩⟩]) (r ++ [n])
  | part {L : List WFd} {r p : List Int} : Cut k L r → (∀ n ∈ p, In64 n) → p ≠ [] → Cut k (L ++ [⟨k, 2, 0, cps p⟩]) (r ++ p)
theorem fb_num_ne {k : Int} (n : Nat) (D : ByteArray) (h1 : 1 ≤ k) (h2 : k ≤ 100) : ¬ (fb ⟨k, 0, n, D⟩).size = 0 := by
  have hm : mayB k 0 = true := by unfold mayB; rw [decide_eq_true_iff]; omega
  have e : fb ⟨k, 0, n, D⟩ = ps (8 * k).toNat ++ ps n := by unfold fb; simp [hm]
  rw [e, ByteArray.size_append]
  have := rd_ps (v := (8 * k).toNat) (by unfold Fits64; omega) (ps n)
  have hp := rd_pos (s := ps (8 * k).toNat ++ ps n) (by rw [this])
  rw [this] at hp
  simp only at hp
  omega
theorem fb_part_ne {k : Int} (n : Nat) (D : ByteArray) (h1 : 1 ≤ k) (h2 : k ≤ 100) : ¬ (fb ⟨k, 2, n, D⟩).size = 0 := by
  have hm : mayB k 2 = true := by unfold mayB; rw [decide_eq_true_iff]; omega
  have e : fb ⟨k, 2, n, D⟩ = ps (8 * k + 2).toNat ++ ps D.size ++ D := by unfold fb; simp [hm]
  rw [e, ByteArray.size_append, ByteArray.size_append]
  have := rd_ps (v := (8 * k + 2).toNat) (by unfold Fits64; omega) (ps D.size)
  have hp := rd_pos (s := ps (8 * k + 2).toNat ++ ps D.size) (by rw [this])
  rw [this] at hp
  simp only at hp
  omega
theorem cut_all {k : Int} (h1 : 1 ≤ k) (h2 : k ≤ 100) {L : List WFd} {r : List Int} (h : Cut k L r) : r.length ≤ 65536 → 
    (∀ f ∈ L, FitsF f ∧ f.num = k) ∧ wanted L = L ∧ ints L [] = (r, 0) ∧ (cat L).size ≤ 30 * r.length ∧ L.length ≤ r.length := by
  induction h with
  | nil => intro _; exact ⟨by simp, rfl, rfl, Nat.zero_le _, Nat.le_refl _⟩
  | num hc hn ih =>
    rename_i L r n
    intro hr
    rw [List.length_append, List.length_singleton] at hr
    obtain ⟨a, b, c, d, e⟩ := ih (by omega)
    have hz := fb_le ⟨k, 0, us n, ⟨#[]⟩⟩
    refine ⟨?_, ?_, ?_, ?_, ?_⟩
    · intro f hf
      rcases List.mem_append.1 hf with hf | hf
      · exact a f hf
      · simp at hf; subst hf; exact ⟨⟨us_fits n, by unfold Fits64; show (0 : Nat) < 18446744073709551616; omega⟩, rfl⟩
    · rw [wanted_snoc, if_neg (fb_num_ne _ _ h1 h2), b]; simp [norm]
    · rw [ints_cat _ _ _ _ c]
      have : addF ⟨k, 0, us n, ⟨#[]⟩⟩ r = (r ++ [n], 0) := by unfold addF; simp [sg_us hn]; omega
      rw [ints_ok this]; rfl
    · rw [cat_snoc, ByteArray.size_append, List.length_append, List.length_singleton]
      have : ByteArray.size ⟨#[]⟩ = 0 := rfl
      simp only at hz
      omega
    · simp; omega
  | part hc hn hp ih =>
    rename_i L r p
    intro hr
    rw [List.length_append] at hr
    obtain ⟨a, b, c, d, e⟩ := ih (by omega)
    have hz := fb_le ⟨k, 2, 0, cps p⟩
    have hz2 := cps_le p
    have hp0 : p.length ≠ 0 := by simpa using hp
    refine ⟨?_, ?_, ?_, ?_, ?_⟩
    · intro f hf
      rcases List.mem_append.1 hf with hf | hf
      · exact a f hf
      · simp at hf; subst hf; exact ⟨⟨by unfold Fits64; simp, by unfold Fits64; simp only; omega⟩, rfl⟩
    · rw [wanted_snoc, if_neg (fb_part_ne _ _ h1 h2), b]; simp [norm]
    · rw [ints_cat _ _ _ _ c]
      have : addF ⟨k, 2, 0, cps p⟩ r = (r ++ p, 0) := by unfold addF; simp; exact pks_cps p r hn (by omega)
      rw [ints_ok this]; rfl
    · rw [cat_snoc, ByteArray.size_append, List.length_append]
      simp only at hz
      omega
    · simp; omega
/-- a part of a row, written: nothing, or one field more -/
theorem cut_pt {k : Int} {L : List WFd} {r p : List Int} (h : Cut k L r) (hp : ∀ n ∈ p, In64 n) : ∃ L', Cut k L' (r ++ p) ∧ cat L' = cat L ++ pt k p := by
  by_cases h0 : p = []
  · subst h0
    refine ⟨L, by simpa using h, ?_⟩
    apply ba_eq; simp [pt]
  · exact ⟨_, .part h hp h0, by rw [cat_snoc, pt, if_neg h0]⟩
theorem fields_cut {k : Int} (h1 : 1 ≤ k) (h2 : k ≤ 100) {L : List WFd} {r : List Int} (h : Cut k L r) (hr : r.length ≤ 300) : fields (cat L) = (L, 0) := by
  obtain ⟨a, b, c, d, e⟩ := cut_all h1 h2 h (by omega)
  unfold fields
  rw [if_neg (by omega), flw_cat L (fun f hf => (a f hf).1), b]
end Go.Proofs.Ytmojabdobjfdoaa.M3
