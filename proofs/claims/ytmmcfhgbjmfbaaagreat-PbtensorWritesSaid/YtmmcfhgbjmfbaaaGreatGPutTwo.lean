/- The walk of Put; the document's own bytes: laid. -/
import Derived.Test.YtmmcfhgbjmfbaaaGreatGPut
import Derived.Test.YtmmcfhgbjmfbaaaGreatGRead
import Derived.BigQuiet
namespace Go.Proofs.YtmmcfhgbjmfbaaaGreat
open Go.RowKit M6

theorem whole_fz {n : Int} (h : n.natAbs ≤ 1048576) : wb (fz n) = true := (wb_iff (fz_lt n)).2 ⟨n, h, rfl⟩
theorem laid_cells (v : Nat) (hv : v < 4294967296) : (#[.int .u8 ((v : Int) % 256), .int .u8 ((v : Int) / 256 % 256), .int .u8 ((v : Int) / 65536 % 256), .int .u8 ((v : Int) / 16777216)] : Array Value) = c4 v 4 := by
  have e0 : (v : Int) % 256 = ((bt v 0 : Nat) : Int) := by simp [bt]
  have e1 : (v : Int) / 256 % 256 = ((bt v 1 : Nat) : Int) := by simp [bt]
  have e2 : (v : Int) / 65536 % 256 = ((bt v 2 : Nat) : Int) := by simp [bt]
  have e3 : (v : Int) / 16777216 = ((bt v 3 : Nat) : Int) := by
    have : bt v 3 = v / 16777216 := by
      unfold bt
      rw [show (256 : Nat) ^ 3 = 16777216 from by decide]
      omega
    rw [this]; simp
  rw [e0, e1, e2, e3]
  rfl
set_option maxRecDepth 100000 in
theorem word_any (s : ByteArray) (w : World) (hs : s.size = 4) :
    Calls Tryz.prog 76 #[.string s] w fun e w' => e = .returned (.int .u32 ((pr s 4 : Nat) : Int)) ∧ Below w.heap.size w w' := by
  have h0 : 0 < s.size := by omega
  have h1 : 1 < s.size := by omega
  have h2 : 2 < s.size := by omega
  have h3 : 3 < s.size := by omega
  have b0 := UInt8.toNat_lt s[0]
  have b1 := UInt8.toNat_lt s[1]
  have b2 := UInt8.toNat_lt s[2]
  have b3 := UInt8.toNat_lt s[3]
  have hp := pr_four hs
  have HP := Lib.hid hp
  clear hp
  go_enter Tryz.func76, Tryz.ntmps76
  go_wp2_with fail
  go_quiet (fail)
  go_wp2_with fail
  go_ret
  exact ⟨ret_eq (int_eq (by rw [HP.out]; simp)), below_drewN (Below.refl _ _) nq⟩
end Go.Proofs.YtmmcfhgbjmfbaaaGreat
/- The walks of the document's own answers: bits and whole, of the lesser format's words. -/
namespace Go.Proofs.YtmmcfhgbjmfbaaaGreat
open Go.RowKit M6

/-- the word of a whole number that isn't 0, from its digits -/
theorem sz_bits {n : Int} {k : Nat} (h : n.natAbs ≤ 1048576) (h1 : 8388608 ≤ n.natAbs * 2 ^ k) (h2 : n.natAbs * 2 ^ k < 16777216) :
    k ≤ 23 ∧ 3 ≤ k ∧ sz n = (if n < 0 then 2147483648 else 0) + (150 - k) * 8388608 + (n.natAbs * 2 ^ k - 8388608) := by
  have h0 : n.natAbs ≠ 0 := fun e => by rw [e] at h1; simp at h1
  have hN : n.natAbs * 2 ^ k ≠ 0 := by omega
  have hl : (n.natAbs * 2 ^ k).log2 = 23 := (Nat.log2_eq_iff hN).2 ⟨h1, h2⟩
  have hlog := log2_mul_pow h0 (n := n.natAbs * 2 ^ k) rfl
  have hsmall : n.natAbs.log2 ≤ 20 := by
    have : n.natAbs < 2 ^ 21 := by omega
    have := (Nat.log2_lt h0).2 this
    omega
  refine ⟨by omega, by omega, ?_⟩
  rw [sz_word n h]
  have hk : k = 23 - n.natAbs.log2 := by omega
  have hr : rg Ieee.single 149 n.natAbs = (n.natAbs.log2 + 126) * 8388608 + n.natAbs * 2 ^ k := by
    unfold rg
    rw [if_neg h0, hk, show Ieee.single.fractionBits = 23 from rfl, show Ieee.single.binade = 8388608 from by decide]
    congr 2
  have e : (n.natAbs.log2 + 126) = 149 - k := by omega
  rw [hr, e]
  unfold Ieee.Format.word
  rw [show Ieee.single.signWeight = 2147483648 from by decide]
  have e2 : (149 - k) * 8388608 + 8388608 = (150 - k) * 8388608 := by omega
  by_cases hn : n < 0
  · rw [decide_eq_true hn, if_pos rfl, if_pos hn]; omega
  · rw [decide_eq_false hn, if_neg (by simp), if_neg hn]; omega
theorem sz_digits {n : Int} (h0 : n ≠ 0) (h : n.natAbs ≤ 1048576) : ∃ k, 8388608 ≤ n.natAbs * 2 ^ k ∧ n.natAbs * 2 ^ k < 16777216 := by
  have h0' : n.natAbs ≠ 0 := by omega
  have hsmall : n.natAbs.log2 ≤ 20 := by
    have : n.natAbs < 2 ^ 21 := by omega
    have := (Nat.log2_lt h0').2 this
    omega
  refine ⟨23 - n.natAbs.log2, ?_, ?_⟩
  · have h1 := Nat.mul_le_mul_right (2 ^ (23 - n.natAbs.log2)) (Nat.log2_self_le h0')
    rw [← Nat.pow_add, show n.natAbs.log2 + (23 - n.natAbs.log2) = 23 from by omega] at h1
    exact h1
  · have h1 := Nat.mul_lt_mul_of_pos_right (@Nat.lt_log2_self n.natAbs) (Nat.two_pow_pos (23 - n.natAbs.log2))
    rw [← Nat.pow_add, show n.natAbs.log2 + 1 + (23 - n.natAbs.log2) = 24 from by omega] at h1
    exact h1
/-- which words are whole numbers, by their fields -/
theorem sz_fields {n : Int} (h0 : n ≠ 0) (h : n.natAbs ≤ 1048576) : ∃ k, sz n / 8388608 % 256 + k = 150 ∧ 3 ≤ k ∧ k ≤ 23 ∧ sz n % 8388608 + 8388608 = n.natAbs * 2 ^ k := by
  obtain ⟨k, h1, h2⟩ := sz_digits h0 h
  obtain ⟨h3, h4, e⟩ := sz_bits h h1 h2
  refine ⟨k, ?_, h4, h3, ?_⟩
  · rw [e]; split <;> omega
  · rw [e]; split <;> omega

theorem sz_is {v : Nat} {n : Int} {k : Nat} (h : n.natAbs ≤ 1048576) (hv : v < 4294967296) (h1 : n.natAbs * 2 ^ k = v % 8388608 + 8388608) (h2 : v / 8388608 % 256 + k = 150) (h3 : n < 0 ↔ 2147483648 ≤ v) : v = sz n := by
  obtain ⟨e1, e2, e3⟩ := sz_bits h (k := k) (by omega) (by omega)
  rw [e3, h1]
  split <;> omega

/-- what the document's whole gives -/
def WhRes (v : Nat) (w : World) (e : Ending) (w' : World) : Prop := ∃ (k : Int) (b : Bool), e = .returned (.tuple #[.int .i64 k, .bool b]) ∧ w = w' ∧ (b = true → k.natAbs ≤ 1048576 ∧ v = sz k) ∧ (∀ n : Int, n.natAbs ≤ 1048576 → v = sz n → b = true)
theorem WhRes.no {v : Nat} (w : World) (h : ∀ n : Int, n.natAbs ≤ 1048576 → v ≠ sz n) : WhRes v w (.returned (.tuple #[.int .i64 0, .bool false])) w :=
  ⟨0, false, rfl, rfl, fun h => by simp at h, fun n hn e => absurd e (h n hn)⟩
set_option maxRecDepth 100000 in
theorem rwhole_any (v : Nat) (w : World) (hv : v < 4294967296) :
    Calls Tryz.prog 75 #[.int .u32 (v : Int)] w (WhRes v w) := by
  by_cases h0 : v = 0
  · subst h0
    go_enter Tryz.func75, Tryz.ntmps75
    go_wp2_with fail
    go_ret2
    exact ⟨0, true, rfl, rfl, fun _ => ⟨by decide, sz_zero.symm⟩, fun _ _ _ => rfl⟩
  · have hne : ((v : Int) == 0) = false := by simp; omega
    have HZ : Hid (∀ n : Int, n.natAbs ≤ 1048576 → v = sz n → n ≠ 0 ∧ ∃ k, v / 8388608 % 256 + k = 150 ∧ 3 ≤ k ∧ k ≤ 23 ∧ v % 8388608 + 8388608 = n.natAbs * 2 ^ k) := Lib.hid (by
      intro n hn e
      have hn0 : n ≠ 0 := by
        intro e0; subst e0; rw [sz_zero] at e; exact h0 e
      refine ⟨hn0, ?_⟩
      rw [e]; exact sz_fields hn0 hn)
    by_cases hE : v / 8388608 % 256 < 127 ∨ 147 < v / 8388608 % 256
    · have HN : Hid (∀ n : Int, n.natAbs ≤ 1048576 → v ≠ sz n) := Lib.hid (by
        intro n hn e
        obtain ⟨-, k, h1, h2, h3, -⟩ := HZ.out n hn e
        omega)
      have hE' : ((v : Int) / 8388608 % 256 < 127) ∨ (¬ (v : Int) / 8388608 % 256 < 127 ∧ 147 < (v : Int) / 8388608 % 256) := by omega
      clear hE HZ
      rcases hE' with h | ⟨h, h'⟩
      all_goals
        go_enter Tryz.func75, Tryz.ntmps75
        go_wp2_with fail
        go_ret2
        exact WhRes.no _ HN.out
    · have h1 : ¬ (v : Int) / 8388608 % 256 < 127 := by omega
      have h2 : ¬ 147 < (v : Int) / 8388608 % 256 := by omega
      go_enter Tryz.func75, Tryz.ntmps75
      go_wp2_with fail
      go_loop [4, 5] (fun x m => ∃ (j M : Nat) (E X : Int), x = .int .i64 E ∧ m = .int .i64 X ∧ E = (v : Int) / 8388608 % 256 + (j : Int) ∧ X = M ∧ E ≤ 150 ∧ M < 16777216 ∧ Hid (v % 8388608 + 8388608 = M * 2 ^ j)) (fun x _ => 150 - (intOf x).toNat)
      case atStart => exact ⟨0, v % 8388608 + 8388608, _, _, rfl, rfl, by omega, by omega, by omega, by omega, Lib.hid (by simp)⟩
      case round =>
        obtain ⟨j, M, E, X, rfl, rfl, hEj, rfl, hE150, hM, HM⟩ := hrel
        by_cases hlt : E < 150
        · by_cases hodd : M % 2 = 0
          · have hodd' : (M : Int) % 2 = 0 := by omega
            go_wp2_with fail
            go_round
            case rel => exact ⟨j + 1, M / 2, _, _, rfl, rfl, by omega, by omega, by omega, by omega, Lib.hid (by rw [HM.out, Nat.pow_succ]; obtain ⟨q, rfl⟩ : ∃ q, M = 2 * q := ⟨M / 2, by omega⟩; rw [Nat.mul_div_cancel_left q (by decide)]; rw [Nat.mul_comm (2 ^ j) 2, ← Nat.mul_assoc, Nat.mul_comm q 2])⟩
            case measure => simp [intOf]; omega
          · have hodd' : (M : Int) % 2 = 1 := by omega
            have HN : Hid (∀ n : Int, n.natAbs ≤ 1048576 → v ≠ sz n) := Lib.hid (by
              intro n hn e
              obtain ⟨-, k, k1, k2, k3, k4⟩ := HZ.out n hn e
              rw [HM.out] at k4
              obtain ⟨d, hd⟩ : ∃ d, k = j + (d + 1) := ⟨k - j - 1, by omega⟩
              rw [hd, Nat.pow_add, Nat.mul_comm (2 ^ j), ← Nat.mul_assoc] at k4
              have k5 := Nat.eq_of_mul_eq_mul_right (Nat.two_pow_pos j) k4
              rw [Nat.pow_succ, ← Nat.mul_assoc] at k5
              omega)
            go_wp2_with fail
            go_ret2
            exact WhRes.no _ HN.out
        · obtain rfl : E = 150 := by omega
          have HY : Hid (∀ n : Int, n.natAbs ≤ 1048576 → v = sz n → n.natAbs = M) := Lib.hid (by
            intro n hn e
            obtain ⟨-, k, k1, k2, k3, k4⟩ := HZ.out n hn e
            obtain rfl : k = j := by omega
            rw [HM.out] at k4
            exact (Nat.eq_of_mul_eq_mul_right (Nat.two_pow_pos k) k4).symm)
          have HI : Hid (∀ n : Int, n.natAbs = M → n.natAbs ≤ 1048576 → (n < 0 ↔ 2147483648 ≤ v) → v = sz n) := Lib.hid (by
            intro n hn1 hn2 hn3
            exact sz_is (k := j) hn2 hv (by rw [hn1]; exact HM.out.symm) (by omega) hn3)
          clear hEj h1 h2
          have hM2 : (M : Int) < 16777216 := by omega
          have hM3 : M ≠ 0 := fun e => by have := HM.out; rw [e] at this; simp at this
          clear hM HM HZ hne
          obtain ⟨X, HX⟩ : ∃ X : Int, Hid (X = (M : Int)) := ⟨_, Lib.hid rfl⟩
          have hx0 : 0 < X := by have := HX.out; omega
          clear hM3
          have hx1 : X < 16777216 := by have := HX.out; omega
          rw [← HX.out]
          clear hM2
          by_cases hs : 2147483648 ≤ v
          · have hs' : 2147483648 ≤ (v : Int) := by omega
            have HS := Lib.hid hs
            clear hs
            have h1 : (-1048576 ≤ -X ∧ X ≤ 1048576) ∨ (¬ -1048576 ≤ -X ∧ ¬ X ≤ 1048576) := by omega
            rcases h1 with ⟨h1, h2⟩ | ⟨h1, h2⟩
            · have h3 : -X ≤ 1048576 := by omega
              go_wp2_with fail
              go_ret2
              refine ⟨-X, true, rfl, rfl, fun _ => ⟨by omega, HI.out _ (by have := HX.out; omega) (by omega) ?_⟩, fun _ _ _ => rfl⟩
              have := HS.out
              omega
            · go_wp2_with fail
              go_ret2
              refine ⟨-X, false, rfl, rfl, fun h => by simp at h, fun n hn e => ?_⟩
              have := HY.out n hn e
              have := HX.out
              omega
          · have hs' : ¬ 2147483648 ≤ (v : Int) := by omega
            have HS := Lib.hid hs
            clear hs
            by_cases h1 : X ≤ 1048576
            · go_wp2_with fail
              go_ret2
              refine ⟨X, true, rfl, rfl, fun _ => ⟨by omega, HI.out _ (by have := HX.out; omega) (by omega) ?_⟩, fun _ _ _ => rfl⟩
              have := HS.out
              omega
            · go_wp2_with fail
              go_ret2
              refine ⟨X, false, rfl, rfl, fun h => by simp at h, fun n hn e => ?_⟩
              have := HY.out n hn e
              have := HX.out
              omega
end Go.Proofs.YtmmcfhgbjmfbaaaGreat
/- Eight bytes, and the two numbers in them. No walk. -/
namespace Go.Proofs.YtmmcfhgbjmfbaaaGreat
open Go.RowKit M6

theorem four_of {s : ByteArray} (h : s.size = 4) : ∃ a b c d : UInt8, s = ⟨#[a, b, c, d]⟩ := by
  obtain ⟨⟨l⟩⟩ := s
  have h' : l.length = 4 := h
  match l, h' with
  | [a, b, c, d], _ => exact ⟨a, b, c, d, rfl⟩
theorem pr_lit (a b c d : UInt8) : pr ⟨#[a, b, c, d]⟩ 4 = a.toNat + b.toNat * 256 + c.toNat * 65536 + d.toNat * 16777216 := pr_four rfl
theorem bt_lit (a b c d : UInt8) : ls (pr ⟨#[a, b, c, d]⟩ 4) = [a, b, c, d] := by
  have h0 := UInt8.toNat_lt a
  have h1 := UInt8.toNat_lt b
  have h2 := UInt8.toNat_lt c
  have h3 := UInt8.toNat_lt d
  rw [pr_lit]
  unfold ls bt
  have e0 : (a.toNat + b.toNat * 256 + c.toNat * 65536 + d.toNat * 16777216) / 256 ^ 0 % 256 = a.toNat := by simp; omega
  have e1 : (a.toNat + b.toNat * 256 + c.toNat * 65536 + d.toNat * 16777216) / 256 ^ 1 % 256 = b.toNat := by simp; omega
  have e2 : (a.toNat + b.toNat * 256 + c.toNat * 65536 + d.toNat * 16777216) / 256 ^ 2 % 256 = c.toNat := by simp; omega
  have e3 : (a.toNat + b.toNat * 256 + c.toNat * 65536 + d.toNat * 16777216) / 256 ^ 3 % 256 = d.toNat := by simp; omega
  rw [e0, e1, e2, e3]
  simp
theorem bs_pr {s : ByteArray} (h : s.size = 4) : bs (pr s 4) = s := by
  obtain ⟨a, b, c, d, rfl⟩ := four_of h
  unfold bs
  rw [bt_lit]
theorem bs_size (v : Nat) : (bs v).size = 4 := rfl
theorem pr_bs {v : Nat} (h : v < 4294967296) : pr (bs v) 4 = v := by
  have h0 := bt_lt v 0
  have h1 := bt_lt v 1
  have h2 := bt_lt v 2
  have h3 := bt_lt v 3
  have e := pr_lit (UInt8.ofNat (bt v 0)) (UInt8.ofNat (bt v 1)) (UInt8.ofNat (bt v 2)) (UInt8.ofNat (bt v 3))
  have ht : ∀ k, (UInt8.ofNat (bt v k)).toNat = bt v k := fun k => by have := bt_lt v k; simp; omega
  rw [ht, ht, ht, ht] at e
  show pr ⟨#[UInt8.ofNat (bt v 0), UInt8.ofNat (bt v 1), UInt8.ofNat (bt v 2), UInt8.ofNat (bt v 3)]⟩ 4 = v
  rw [e]
  unfold bt
  simp only [show (256 : Nat) ^ 0 = 1 from rfl, show (256 : Nat) ^ 1 = 256 from rfl, show (256 : Nat) ^ 2 = 65536 from rfl, show (256 : Nat) ^ 3 = 16777216 from rfl]
  omega
theorem cat_first (a b : ByteArray) (ha : a.size = 4) : (a ++ b).extract 0 4 = a := by
  refine ByteArray.ext ?_
  rw [ByteArray.data_extract, ByteArray.data_append]
  have : a.data.size = 4 := ha
  simp [this]
theorem cat_second (a b : ByteArray) (ha : a.size = 4) (hb : b.size = 4) : (a ++ b).extract 4 8 = b := by
  refine ByteArray.ext ?_
  rw [ByteArray.data_extract, ByteArray.data_append]
  have h1 : a.data.size = 4 := ha
  have h2 : b.data.size = 4 := hb
  have e1 : a.data.extract 4 4 = #[] := by simp; omega
  have e2 : b.data.extract 0 4 = b.data := by rw [← h2]; simp
  simp [h1, e1, e2]
theorem halves {s : ByteArray} (h : s.size = 8) : s.extract 0 4 ++ s.extract 4 8 = s := by
  refine ByteArray.ext ?_
  rw [ByteArray.data_append, ByteArray.data_extract, ByteArray.data_extract]
  have h1 : s.data.size = 8 := h
  simp
  omega
theorem sz_inj {a b : Int} (ha : a.natAbs ≤ 1048576) (hb : b.natAbs ≤ 1048576) (h : sz a = sz b) : a = b := by
  have h1 := Num.V goodS (sz_num' ha) (by rw [two24]; omega)
  have h2 := Num.V goodS (sz_num' hb) (by rw [two24]; omega)
  rw [h, h2] at h1
  have hp : (2 : Int) ^ 149 ≠ 0 := by decide +kernel
  exact (Int.mul_eq_mul_right_iff hp).1 h1.symm
end Go.Proofs.YtmmcfhgbjmfbaaaGreat
