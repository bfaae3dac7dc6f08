/- The walks of cut and may. -/
import Derived.Test.YtiniicehfjgpgaaGreatGRefTwo
import Derived.Test.YtiniicehfjgpgaaGreatMath
namespace Go.Proofs.YtiniicehfjgpgaaGreat
open Go.RowKit M6 M7

/-- a tensor's value -/
abbrev t_tv (nme : ByteArray) (k : Int) (v : Value) (d : ByteArray) : Value := .agg #[.string nme, .int .i64 k, v, .string d]
theorem cut_prod {i k n : Nat} (h : (i + 1) * k ≤ n) : 0 ≤ (i : Int) * (k : Int) ∧ (i : Int) * (k : Int) ≤ ((i : Int) + 1) * (k : Int) ∧ ((i : Int) + 1) * (k : Int) ≤ (n : Int) ∧ (((i : Int) + 1) * (k : Int)).toNat = (i + 1) * k ∧ ((i : Int) * (k : Int)).toNat = i * k := by
  have h0 : i * k ≤ (i + 1) * k := Nat.mul_le_mul_right _ (by omega)
  have e1 : (i : Int) * (k : Int) = ((i * k : Nat) : Int) := by rw [Int.natCast_mul]
  have e2 : ((i : Int) + 1) * (k : Int) = (((i + 1) * k : Nat) : Int) := by rw [Int.natCast_mul]; rfl
  rw [e1, e2]
  omega

set_option maxRecDepth 100000 in
theorem t_cut_any (nme : ByteArray) (kd : Int) (A : Option Addr) (l c : Nat) (d : ByteArray) (i k : Nat) (w : World) (hd : d.size ≤ maxLen) (h : (i + 1) * k ≤ d.size) (hi : i ≤ 140737488355328) :
    Calls Tryz.prog 102 #[t_tv nme kd (.slice A l c) d, .int .i64 i, .int .i64 k] w fun e w' => e = .returned (.string (d.extract (i * k) ((i + 1) * k))) ∧ Below w.heap.size w w' := by
  unfold maxLen at hd
  obtain ⟨p0, p1, p2, p3, p4⟩ := cut_prod h
  clear h
  go_enter Tryz.func102, Tryz.ntmps102
  go_wp2_with fail
  go_ret
  exact ⟨rfl, (Below.refl _ _).alloc (Nat.le_refl _) _⟩

/-- what may says -/
def mayB (k : Int) (b : ByteArray) : Bool := if k = 9 then (decide (b = ⟨#[0]⟩) || decide (b = ⟨#[1]⟩)) else if k = 14 then gok b else true
theorem one_byte {d : ByteArray} {j : Nat} (h : j < d.size) : d.extract j (j + 1) = ⟨#[d[j]]⟩ := by
  refine ByteArray.ext ?_
  rw [ByteArray.data_extract]
  have h' : j < d.data.size := h
  refine Array.ext (by simp; omega) ?_
  intro i h1 h2
  obtain rfl : i = 0 := by simp at h2; omega
  simp
  rfl
theorem l0 : (⟨#[0]⟩ : ByteArray).toList = [0] := by decide +kernel
theorem l1 : (⟨#[1]⟩ : ByteArray).toList = [1] := by decide +kernel
theorem byte_is {x y : UInt8} : (⟨#[x]⟩ : ByteArray) = ⟨#[y]⟩ ↔ x = y := by
  constructor
  · intro h; injection h with h; simpa using h
  · rintro rfl; rfl
theorem may_elk {k : Int} {d : ByteArray} {j : Nat} (h : (j + 1) * (kSize k).toNat ≤ d.size) : mayB k (d.extract (j * (kSize k).toNat) ((j + 1) * (kSize k).toNat)) = elk k d j := by
  unfold mayB
  by_cases h9 : k = 9
  · subst h9
    rw [show (kSize 9).toNat = 1 by decide] at h ⊢
    have hj : j < d.size := by omega
    rw [if_pos rfl, elk_flag hj, Nat.mul_one, Nat.mul_one, one_byte hj]
    have hx := UInt8.toNat_lt d[j]
    generalize d[j] = x at *
    rw [Bool.eq_iff_iff]
    simp only [Bool.or_eq_true, decide_eq_true_iff, byte_is]
    constructor
    · rintro (rfl | rfl) <;> decide
    · intro hle
      rcases (by omega : x.toNat = 0 ∨ x.toNat = 1) with e | e
      · exact .inl (UInt8.toNat_inj.1 e)
      · exact .inr (UInt8.toNat_inj.1 e)
  · by_cases h14 : k = 14
    · subst h14
      rw [if_neg h9, if_pos rfl, elk_gauss, show (kSize 14).toNat = 8 by decide]
    · rw [if_neg h9, if_neg h14, elk_other h9 h14]

set_option maxRecDepth 100000 in
theorem t_may_any (k : Int) (b : ByteArray) (w : World) (hb : k = 14 → b.size = 8) :
    Calls Tryz.prog 101 #[.int .i64 k, .string b] w fun e w' => e = .returned (.bool (mayB k b)) ∧ Below w.heap.size w w' := by
  by_cases h9 : k = 9
  · subst h9
    by_cases h0 : b = ⟨#[0]⟩
    · have HE : Hid (mayB 9 b = true) := Lib.hid (by unfold mayB; rw [if_pos rfl, decide_eq_true h0]; rfl)
      have ht : (b.toList == [0]) = true := l0 ▸ teq_yes h0
      clear hb h0
      go_enter Tryz.func101, Tryz.ntmps101
      go_wp2_with fail
      go_ret
      rw [HE.out]
      exact ⟨rfl, Below.refl _ _⟩
    · have ht : (b.toList == [0]) = false := l0 ▸ teq_no h0
      by_cases h1 : b = ⟨#[1]⟩
      · have HE : Hid (mayB 9 b = true) := Lib.hid (by unfold mayB; rw [if_pos rfl, decide_eq_true h1, Bool.or_true])
        have ht : (b.toList == [1]) = true := l1 ▸ teq_yes h1
        clear hb h0 h1
        go_enter Tryz.func101, Tryz.ntmps101
        go_wp2_with fail
        go_ret
        rw [HE.out]
        exact ⟨rfl, Below.refl _ _⟩
      · have HE : Hid (mayB 9 b = false) := Lib.hid (by unfold mayB; rw [if_pos rfl, decide_eq_false h0, decide_eq_false h1]; rfl)
        have ht : (b.toList == [1]) = false := l1 ▸ teq_no h1
        clear hb h0 h1
        go_enter Tryz.func101, Tryz.ntmps101
        go_wp2_with fail
        go_ret
        rw [HE.out]
        exact ⟨rfl, Below.refl _ _⟩
  · have h9' : (k == 9) = false := by simpa using h9
    by_cases h14 : k = 14
    · subst h14
      have hb8 := hb rfl
      have HR := Lib.hid (fun W => gread_any b W (by unfold maxLen; omega))
      have HE : Hid (∀ n m c, RdSpec b n m c → (c = 0 ∧ mayB 14 b = true) ∨ (c = 17 ∧ mayB 14 b = false)) := Lib.hid (fun n m c h => by unfold mayB; rw [if_neg (by decide), if_pos rfl]; exact rd8 h hb8)
      clear hb hb8 h9
      go_enter Tryz.func101, Tryz.ntmps101
      go_wp2_with fail
      refine (HR.out _).mono ?_
      rintro e w1 ⟨n, m, c, rfl, hs, hb1⟩
      have HB := Lib.hid hb1
      have hc := HE.out _ _ _ hs
      clear hs hb1 HE
      rcases hc with ⟨rfl, hm⟩ | ⟨rfl, hm⟩
      · have HM := Lib.hid hm
        clear hm
        go_wp2_with fail
        go_ret
        rw [HM.out]
        exact ⟨rfl, HB.out⟩
      · have HM := Lib.hid hm
        clear hm
        go_wp2_with fail
        go_ret
        rw [HM.out]
        exact ⟨rfl, HB.out⟩
    · have h14' : (k == 14) = false := by simpa using h14
      have HE : Hid (mayB k b = true) := Lib.hid (by unfold mayB; rw [if_neg h9, if_neg h14])
      clear hb h9 h14
      go_enter Tryz.func101, Tryz.ntmps101
      go_wp2_with fail
      go_ret
      rw [HE.out]
      exact ⟨rfl, Below.refl _ _⟩
end Go.Proofs.YtiniicehfjgpgaaGreat
