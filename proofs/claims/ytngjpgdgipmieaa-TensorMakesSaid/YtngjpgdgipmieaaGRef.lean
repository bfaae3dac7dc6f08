/- The walks of the document's own answers: bits and whole, of the lesser format's words. -/
import Derived.Test.YtngjpgdgipmieaaGPutTwo
namespace Go.Proofs.Ytngjpgdgipmieaa
open Go.RowKit M6

/-- the word of a whole number that isn't 0, from its digits -/
theorem sz_bits {n : Int} {k : Nat} (h : n.natAbs ≤ 1048576) (h1 : 8388608 ≤ n.natAbs * 2 ^ k) (h2 : n.natAbs * 2 ^ k < 16777216) :
    k ≤ 23 ∧ 3 ≤ k ∧ sz n = (if n < 0 then 2147483648 else 0) + (150 - k) * 8388608 + (n.natAbs * 2 ^ k - 8388608) := by
  have h0 : n.natAbs ≠ 0 := fun e => by rw [e] at h1; simp at h1
  have hN : n.natAbs * 2 ^ k ≠ 0 := by omega
  have hl : (n.natAbs * 2 ^ k).log2 = 23 := (Nat.log2_eq_iff hN).2 ⟨h1, h2⟩
  have hlog := log2_mul_pow h0 (n := n.natAbs * 2 ^ k) rfl
  have hsmall : n.natAbs.log2 ≤ 20 := by
    have : n.natAbs < 2 ^ 21 := by omega
    have := (Nat.log2_lt h0).2 this
    omega
  refine ⟨by omega, by omega, ?_⟩
  rw [sz_word n h]
  have hk : k = 23 - n.natAbs.log2 := by omega
  have hr : rg Ieee.single 149 n.natAbs = (n.natAbs.log2 + 126) * 8388608 + n.natAbs * 2 ^ k := by
    unfold rg
    rw [if_neg h0, hk, show Ieee.single.fractionBits = 23 from rfl, show Ieee.single.binade = 8388608 from by decide]
    congr 2
  have e : (n.natAbs.log2 + 126) = 149 - k := by omega
  rw [hr, e]
  unfold Ieee.Format.word
  rw [show Ieee.single.signWeight = 2147483648 from by decide]
  have e2 : (149 - k) * 8388608 + 8388608 = (150 - k) * 8388608 := by omega
  by_cases hn : n < 0
  · rw [decide_eq_true hn, if_pos rfl, if_pos hn]; omega
  · rw [decide_eq_false hn, if_neg (by simp), if_neg hn]; omega
theorem sz_digits {n : Int} (h0 : n ≠ 0) (h : n.natAbs ≤ 1048576) : ∃ k, 8388608 ≤ n.natAbs * 2 ^ k ∧ n.natAbs * 2 ^ k < 16777216 := by
  have h0' : n.natAbs ≠ 0 := by omega
  have hsmall : n.natAbs.log2 ≤ 20 := by
    have : n.natAbs < 2 ^ 21 := by omega
    have := (Nat.log2_lt h0').2 this
    omega
  refine ⟨23 - n.natAbs.log2, ?_, ?_⟩
  · have h1 := Nat.mul_le_mul_right (2 ^ (23 - n.natAbs.log2)) (Nat.log2_self_le h0')
    rw [← Nat.pow_add, show n.natAbs.log2 + (23 - n.natAbs.log2) = 23 from by omega] at h1
    exact h1
  · have h1 := Nat.mul_lt_mul_of_pos_right (@Nat.lt_log2_self n.natAbs) (Nat.two_pow_pos (23 - n.natAbs.log2))
    rw [← Nat.pow_add, show n.natAbs.log2 + 1 + (23 - n.natAbs.log2) = 24 from by omega] at h1
    exact h1
/-- which words are whole numbers, by their fields -/
theorem sz_fields {n : Int} (h0 : n ≠ 0) (h : n.natAbs ≤ 1048576) : ∃ k, sz n / 8388608 % 256 + k = 150 ∧ 3 ≤ k ∧ k ≤ 23 ∧ sz n % 8388608 + 8388608 = n.natAbs * 2 ^ k := by
  obtain ⟨k, h1, h2⟩ := sz_digits h0 h
  obtain ⟨h3, h4, e⟩ := sz_bits h h1 h2
  refine ⟨k, ?_, h4, h3, ?_⟩
  · rw [e]; split <;> omega
  · rw [e]; split <;> omega

set_option maxRecDepth 100000 in
theorem bits_any (n : Int) (w : World) (hn : n.natAbs ≤ 1048576) :
    Calls Try.prog 51 #[.int .i64 n] w fun e w' => e = .returned (.int .u32 ((sz n : Nat) : Int)) ∧ w = w' := by
  by_cases h0 : n = 0
  · subst h0
    rw [sz_zero]
    go_enter Try.func51, Try.ntmps51
    go_wp2_with fail
    go_ret
    exact ⟨rfl, rfl⟩
  · by_cases hneg : n < 0
    · have hne : (n == 0) = false := by simp; omega
      go_enter Try.func51, Try.ntmps51
      go_wp2_with fail
      go_loop [0, 4] (fun v u => ∃ (k : Nat) (N E : Int), v = .int .i64 N ∧ u = .int .u32 E ∧ Hid (N = ((n.natAbs * 2 ^ k : Nat) : Int)) ∧ E = 150 - (k : Int) ∧ 0 < N ∧ N < 16777216 ∧ k ≤ 23) (fun _ u => (intOf u).toNat)
      case atStart => exact ⟨0, _, _, rfl, rfl, Lib.hid (by simp; omega), by omega, by omega, by omega, by omega⟩
      case round =>
        obtain ⟨k, N, E, rfl, rfl, HN, rfl, hN0, hN, hk⟩ := hrel
        by_cases hlt : N < 8388608
        · have hk23 : k < 23 := by
            refine Nat.lt_of_not_le fun hge => ?_
            have h1 : 2 ^ 23 ≤ 2 ^ k := Nat.pow_le_pow_right (by decide) hge
            have h2 : 1 * 2 ^ 23 ≤ n.natAbs * 2 ^ k := Nat.mul_le_mul (by omega) h1
            have := HN.out
            omega
          go_wp2_with fail
          go_round
          case rel => exact ⟨k + 1, _, _, rfl, rfl, Lib.hid (by rw [HN.out, Nat.pow_succ, ← Nat.mul_assoc]; omega), by omega, by omega, by omega, by omega⟩
          case measure => simp [intOf]; omega
        · have HE := Lib.hid (sz_bits hn (n := n) (k := k) (by have := HN.out; omega) (by have := HN.out; omega))
          go_wp2_with fail
          go_ret
          refine ⟨ret_eq (int_eq ?_), rfl⟩
          obtain ⟨e1, e2, e3⟩ := HE.out
          rw [e3, if_pos hneg]
          have := HN.out
          omega
    · have hne : (n == 0) = false := by simp; omega
      go_enter Try.func51, Try.ntmps51
      go_wp2_with fail
      go_loop [0, 4] (fun v u => ∃ (k : Nat) (N E : Int), v = .int .i64 N ∧ u = .int .u32 E ∧ Hid (N = ((n.natAbs * 2 ^ k : Nat) : Int)) ∧ E = 150 - (k : Int) ∧ 0 < N ∧ N < 16777216 ∧ k ≤ 23) (fun _ u => (intOf u).toNat)
      case atStart => exact ⟨0, _, _, rfl, rfl, Lib.hid (by simp; omega), by omega, by omega, by omega, by omega⟩
      case round =>
        obtain ⟨k, N, E, rfl, rfl, HN, rfl, hN0, hN, hk⟩ := hrel
        by_cases hlt : N < 8388608
        · have hk23 : k < 23 := by
            refine Nat.lt_of_not_le fun hge => ?_
            have h1 : 2 ^ 23 ≤ 2 ^ k := Nat.pow_le_pow_right (by decide) hge
            have h2 : 1 * 2 ^ 23 ≤ n.natAbs * 2 ^ k := Nat.mul_le_mul (by omega) h1
            have := HN.out
            omega
          go_wp2_with fail
          go_round
          case rel => exact ⟨k + 1, _, _, rfl, rfl, Lib.hid (by rw [HN.out, Nat.pow_succ, ← Nat.mul_assoc]; omega), by omega, by omega, by omega, by omega⟩
          case measure => simp [intOf]; omega
        · have HE := Lib.hid (sz_bits hn (n := n) (k := k) (by have := HN.out; omega) (by have := HN.out; omega))
          go_wp2_with fail
          go_ret
          refine ⟨ret_eq (int_eq ?_), rfl⟩
          obtain ⟨e1, e2, e3⟩ := HE.out
          rw [e3, if_neg (by omega)]
          have := HN.out
          omega

theorem sz_is {v : Nat} {n : Int} {k : Nat} (h : n.natAbs ≤ 1048576) (hv : v < 4294967296) (h1 : n.natAbs * 2 ^ k = v % 8388608 + 8388608) (h2 : v / 8388608 % 256 + k = 150) (h3 : n < 0 ↔ 2147483648 ≤ v) : v = sz n := by
  obtain ⟨e1, e2, e3⟩ := sz_bits h (k := k) (by omega) (by omega)
  rw [e3, h1]
  split <;> omega

/-- what the document's whole gives -/
def WhRes (v : Nat) (w : World) (e : Ending) (w' : World) : Prop := ∃ (k : Int) (b : Bool), e = .returned (.tuple #[.int .i64 k, .bool b]) ∧ w = w' ∧ (b = true → k.natAbs ≤ 1048576 ∧ v = sz k) ∧ (∀ n : Int, n.natAbs ≤ 1048576 → v = sz n → b = true)
theorem WhRes.no {v : Nat} (w : World) (h : ∀ n : Int, n.natAbs ≤ 1048576 → v ≠ sz n) : WhRes v w (.returned (.tuple #[.int .i64 0, .bool false])) w :=
  ⟨0, false, rfl, rfl, fun h => by simp at h, fun n hn e => absurd e (h n hn)⟩
set_option maxRecDepth 100000 in
theorem rwhole_any (v : Nat) (w : World) (hv : v < 4294967296) :
    Calls Try.prog 44 #[.int .u32 (v : Int)] w (WhRes v w) := by
  by_cases h0 : v = 0
  · subst h0
    go_enter Try.func44, Try.ntmps44
    go_wp2_with fail
    go_ret2
    exact ⟨0, true, rfl, rfl, fun _ => ⟨by decide, sz_zero.symm⟩, fun _ _ _ => rfl⟩
  · have hne : ((v : Int) == 0) = false := by simp; omega
    have HZ : Hid (∀ n : Int, n.natAbs ≤ 1048576 → v = sz n → n ≠ 0 ∧ ∃ k, v / 8388608 % 256 + k = 150 ∧ 3 ≤ k ∧ k ≤ 23 ∧ v % 8388608 + 8388608 = n.natAbs * 2 ^ k) := Lib.hid (by
      intro n hn e
      have hn0 : n ≠ 0 := by
        intro e0; subst e0; rw [sz_zero] at e; exact h0 e
      refine ⟨hn0, ?_⟩
      rw [e]; exact sz_fields hn0 hn)
    by_cases hE : v / 8388608 % 256 < 127 ∨ 147 < v / 8388608 % 256
    · have HN : Hid (∀ n : Int, n.natAbs ≤ 1048576 → v ≠ sz n) := Lib.hid (by
        intro n hn e
        obtain ⟨-, k, h1, h2, h3, -⟩ := HZ.out n hn e
        omega)
      have hE' : ((v : Int) / 8388608 % 256 < 127) ∨ (¬ (v : Int) / 8388608 % 256 < 127 ∧ 147 < (v : Int) / 8388608 % 256) := by omega
      clear hE HZ
      rcases hE' with h | ⟨h, h'⟩
      all_goals
        go_enter Try.func44, Try.ntmps44
        go_wp2_with fail
        go_ret2
        exact WhRes.no _ HN.out
    · have h1 : ¬ (v : Int) / 8388608 % 256 < 127 := by omega
      have h2 : ¬ 147 < (v : Int) / 8388608 % 256 := by omega
      go_enter Try.func44, Try.ntmps44
      go_wp2_with fail
      go_loop [4, 5] (fun x m => ∃ (j M : Nat) (E X : Int), x = .int .i64 E ∧ m = .int .i64 X ∧ E = (v : Int) / 8388608 % 256 + (j : Int) ∧ X = M ∧ E ≤ 150 ∧ M < 16777216 ∧ Hid (v % 8388608 + 8388608 = M * 2 ^ j)) (fun x _ => 150 - (intOf x).toNat)
      case atStart => exact ⟨0, v % 8388608 + 8388608, _, _, rfl, rfl, by omega, by omega, by omega, by omega, Lib.hid (by simp)⟩
      case round =>
        obtain ⟨j, M, E, X, rfl, rfl, hEj, rfl, hE150, hM, HM⟩ := hrel
        by_cases hlt : E < 150
        · by_cases hodd : M % 2 = 0
          · have hodd' : (M : Int) % 2 = 0 := by omega
            go_wp2_with fail
            go_round
            case rel => exact ⟨j + 1, M / 2, _, _, rfl, rfl, by omega, by omega, by omega, by omega, Lib.hid (by rw [HM.out, Nat.pow_succ]; obtain ⟨q, rfl⟩ : ∃ q, M = 2 * q := ⟨M / 2, by omega⟩; rw [Nat.mul_div_cancel_left q (by decide)]; rw [Nat.mul_comm (2 ^ j) 2, ← Nat.mul_assoc, Nat.mul_comm q 2])⟩
            case measure => simp [intOf]; omega
          · have hodd' : (M : Int) % 2 = 1 := by omega
            have HN : Hid (∀ n : Int, n.natAbs ≤ 1048576 → v ≠ sz n) := Lib.hid (by
              intro n hn e
              obtain ⟨-, k, k1, k2, k3, k4⟩ := HZ.out n hn e
              rw [HM.out] at k4
              obtain ⟨d, hd⟩ : ∃ d, k = j + (d + 1) := ⟨k - j - 1, by omega⟩
              rw [hd, Nat.pow_add, Nat.mul_comm (2 ^ j), ← Nat.mul_assoc] at k4
              have k5 := Nat.eq_of_mul_eq_mul_right (Nat.two_pow_pos j) k4
              rw [Nat.pow_succ, ← Nat.mul_assoc] at k5
              omega)
            go_wp2_with fail
            go_ret2
            exact WhRes.no _ HN.out
        · obtain rfl : E = 150 := by omega
          have HY : Hid (∀ n : Int, n.natAbs ≤ 1048576 → v = sz n → n.natAbs = M) := Lib.hid (by
            intro n hn e
            obtain ⟨-, k, k1, k2, k3, k4⟩ := HZ.out n hn e
            obtain rfl : k = j := by omega
            rw [HM.out] at k4
            exact (Nat.eq_of_mul_eq_mul_right (Nat.two_pow_pos k) k4).symm)
          have HI : Hid (∀ n : Int, n.natAbs = M → n.natAbs ≤ 1048576 → (n < 0 ↔ 2147483648 ≤ v) → v = sz n) := Lib.hid (by
            intro n hn1 hn2 hn3
            exact sz_is (k := j) hn2 hv (by rw [hn1]; exact HM.out.symm) (by omega) hn3)
          clear hEj h1 h2
          have hM2 : (M : Int) < 16777216 := by omega
          have hM3 : M ≠ 0 := fun e => by have := HM.out; rw [e] at this; simp at this
          clear hM HM HZ hne
          obtain ⟨X, HX⟩ : ∃ X : Int, Hid (X = (M : Int)) := ⟨_, Lib.hid rfl⟩
          have hx0 : 0 < X := by have := HX.out; omega
          clear hM3
          have hx1 : X < 16777216 := by have := HX.out; omega
          rw [← HX.out]
          clear hM2
          by_cases hs : 2147483648 ≤ v
          · have hs' : 2147483648 ≤ (v : Int) := by omega
            have HS := Lib.hid hs
            clear hs
            have h1 : (-1048576 ≤ -X ∧ X ≤ 1048576) ∨ (¬ -1048576 ≤ -X ∧ ¬ X ≤ 1048576) := by omega
            rcases h1 with ⟨h1, h2⟩ | ⟨h1, h2⟩
            · have h3 : -X ≤ 1048576 := by omega
              go_wp2_with fail
              go_ret2
              refine ⟨-X, true, rfl, rfl, fun _ => ⟨by omega, HI.out _ (by have := HX.out; omega) (by omega) ?_⟩, fun _ _ _ => rfl⟩
              have := HS.out
              omega
            · go_wp2_with fail
              go_ret2
              refine ⟨-X, false, rfl, rfl, fun h => by simp at h, fun n hn e => ?_⟩
              have := HY.out n hn e
              have := HX.out
              omega
          · have hs' : ¬ 2147483648 ≤ (v : Int) := by omega
            have HS := Lib.hid hs
            clear hs
            by_cases h1 : X ≤ 1048576
            · go_wp2_with fail
              go_ret2
              refine ⟨X, true, rfl, rfl, fun _ => ⟨by omega, HI.out _ (by have := HX.out; omega) (by omega) ?_⟩, fun _ _ _ => rfl⟩
              have := HS.out
              omega
            · go_wp2_with fail
              go_ret2
              refine ⟨X, false, rfl, rfl, fun h => by simp at h, fun n hn e => ?_⟩
              have := HY.out n hn e
              have := HX.out
              omega
end Go.Proofs.Ytngjpgdgipmieaa
