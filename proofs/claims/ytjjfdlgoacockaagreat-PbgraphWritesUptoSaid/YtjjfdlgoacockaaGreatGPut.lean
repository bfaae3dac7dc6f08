import Derived.Test.YtjjfdlgoacockaaGreatGWhole
import Derived.Test.YtjjfdlgoacockaaGreatMath
import Derived.Deep.RegionWith
import Derived.BigQuiet
namespace Go.Proofs.YtjjfdlgoacockaaGreat
open Go.RowKit M6

def bt (v j : Nat) : Nat := v / 256 ^ j % 256
theorem bt_lt (v j : Nat) : bt v j < 256 := Nat.mod_lt _ (by decide)
def ls (v : Nat) : List UInt8 := [UInt8.ofNat (bt v 0), UInt8.ofNat (bt v 1), UInt8.ofNat (bt v 2), UInt8.ofNat (bt v 3)]
def bs (v : Nat) : ByteArray := ⟨(ls v).toArray⟩
def c4 (v k : Nat) : Array Value := #[.int .u8 (if 0 < k then bt v 0 else 0 : Nat), .int .u8 (if 1 < k then bt v 1 else 0 : Nat), .int .u8 (if 2 < k then bt v 2 else 0 : Nat), .int .u8 (if 3 < k then bt v 3 else 0 : Nat)]

theorem bt_shift (v k : Nat) : (v : Int) / 2 ^ (8 * k) % 256 = ((bt v k : Nat) : Int) := by
  have e8 : (2 : Int) ^ (8 * k) = ((256 ^ k : Nat) : Int) := by
    rw [show (256 : Nat) = 2 ^ 8 from rfl, ← Nat.pow_mul, Int.natCast_pow]; rfl
  rw [e8, bt, ← Int.natCast_ediv]
  rfl
end Go.Proofs.YtjjfdlgoacockaaGreat
namespace Go.Proofs.YtjjfdlgoacockaaGreat
open Go.RowKit M6

def RdSpec (b : ByteArray) (n m c : Int) : Prop :=
  (b.size < 8 ∧ c = 1 ∧ n = 0 ∧ m = 0) ∨ (8 < b.size ∧ c = 2 ∧ n = 0 ∧ m = 0) ∨
  (b.size = 8 ∧ c = 0 ∧ n.natAbs ≤ 1048576 ∧ m.natAbs ≤ 1048576 ∧ pr (b.extract 0 4) 4 = sz n ∧ pr (b.extract 4 8) 4 = sz m) ∨
  (b.size = 8 ∧ c = 17 ∧ n = 0 ∧ m = 0 ∧ ∀ i j : Int, i.natAbs ≤ 1048576 → j.natAbs ≤ 1048576 → pr (b.extract 0 4) 4 = sz i → pr (b.extract 4 8) 4 ≠ sz j)

theorem checked_any (x y : Nat) (w : World) (hx : x < 18446744073709551616) (hy : y < 18446744073709551616) :
    Calls Tryz.prog 182 #[.complex .f64 x y] w fun e w' => ∃ (X Y : Nat) (c : Int), e = .returned (.tuple #[.complex .f64 X Y, .int .i64 c]) ∧ w = w' ∧
      ((c = 0 ∧ X = x ∧ Y = y ∧ Whole x ∧ Whole y) ∨ (c = 17 ∧ X = 0 ∧ Y = 0 ∧ ¬ (Whole x ∧ Whole y))) := by
  by_cases h1 : wb x = true
  · by_cases h2 : wb y = true
    · refine (checked_yes x y w hx hy h1 h2).mono ?_
      rintro e w1 ⟨rfl, rfl⟩
      exact ⟨_, _, _, rfl, rfl, .inl ⟨rfl, rfl, rfl, (wb_iff hx).1 h1, (wb_iff hy).1 h2⟩⟩
    · refine (checked_no x y w hx hy (.inr (by simpa using h2))).mono ?_
      rintro e w1 ⟨rfl, rfl⟩
      exact ⟨_, _, _, rfl, rfl, .inr ⟨rfl, rfl, rfl, fun h => h2 ((wb_iff hy).2 h.2)⟩⟩
  · refine (checked_no x y w hx hy (.inl (by simpa using h1))).mono ?_
    rintro e w1 ⟨rfl, rfl⟩
    exact ⟨_, _, _, rfl, rfl, .inr ⟨rfl, rfl, rfl, fun h => h1 ((wb_iff hx).2 h.1)⟩⟩
theorem rdSpec_of {b : ByteArray} (h : b.size = 8) {r1 r2 X Y : Nat} {c : Int} (h1 : Wide (pr (b.extract 0 4) 4) r1) (h2 : Wide (pr (b.extract 4 8) 4) r2)
    (hc : (c = 0 ∧ X = r1 ∧ Y = r2 ∧ Whole r1 ∧ Whole r2) ∨ (c = 17 ∧ X = 0 ∧ Y = 0 ∧ ¬ (Whole r1 ∧ Whole r2))) : ∃ n m : Int, X = fz n ∧ Y = fz m ∧ RdSpec b n m c := by
  rcases hc with ⟨rfl, rfl, rfl, ⟨n, hn, rfl⟩, ⟨m, hm, rfl⟩⟩ | ⟨rfl, rfl, rfl, hno⟩
  · exact ⟨n, m, rfl, rfl, .inr (.inr (.inl ⟨h, rfl, hn, hm, (h1.2 n hn).1 rfl, (h2.2 m hm).1 rfl⟩))⟩
  · refine ⟨0, 0, fz_zero.symm, fz_zero.symm, .inr (.inr (.inr ⟨h, rfl, rfl, rfl, fun i j hi hj e1 e2 => hno ⟨⟨i, hi, (h1.2 i hi).2 e1⟩, ⟨j, hj, (h2.2 j hj).2 e2⟩⟩⟩))⟩

set_option maxRecDepth 100000 in
set_option maxHeartbeats 2000000 in
theorem gread_any (b : ByteArray) (w : World) (hb : b.size ≤ maxLen) :
    Calls Tryz.prog 172 #[.string b] w fun e w' => ∃ n m c : Int, e = .returned (.tuple #[.complex .f64 (fz n) (fz m), .int .i64 c]) ∧ RdSpec b n m c ∧ Below w.heap.size w w' := by
  unfold maxLen at hb
  rcases Nat.lt_trichotomy b.size 8 with h | h | h
  · have h' : (b.size : Int) < 8 := by omega
    go_enter Tryz.func172, Tryz.ntmps172
    go_wp2_with fail
    go_ret2
    exact ⟨0, 0, 1, by rw [fz_zero]; rfl, .inl ⟨h, rfl, rfl, rfl⟩, Below.refl _ _⟩
  · have HP := Lib.hid (fun W => readPart_any (b.extract 0 4) W (by simp; omega))
    have HQ := Lib.hid (fun W => readPart_any (b.extract 4 8) W (by simp; omega))
    go_enter Tryz.func172, Tryz.ntmps172
    have h1 : ¬ (b.size : Int) < 8 := by omega
    have h2 : ¬ 8 < (b.size : Int) := by omega
    go_wp2_with fail
    go_region_with (first
      | (go_at_call 183; (with_reducible refine (HP.out _).mono ?_); rintro e w2 ⟨r1, rfl, hw1, hb1⟩)
      | (go_at_call 183; (with_reducible refine (HQ.out _).mono ?_); rintro e w3 ⟨r2, rfl, hw2, hb2⟩)
      | (go_at_call 182; refine (checked_any _ _ _ hw1.1 hw2.1).mono ?_; rintro e w4 ⟨X, Y, c, rfl, rfl, hc⟩))
    obtain ⟨n, m, rfl, rfl, hs⟩ := rdSpec_of h hw1 hw2 hc
    have HS := Lib.hid hs
    clear hs hc hw1 hw2
    go_wp2_with fail
    go_ret2
    exact ⟨n, m, c, rfl, HS.out, ((Below.refl _ _).drew.trans hb1).trans (hb2.mono hb1.size)⟩
  · have h' : ¬ (b.size : Int) < 8 := by omega
    have h2 : 8 < (b.size : Int) := by omega
    go_enter Tryz.func172, Tryz.ntmps172
    go_wp2_with fail
    go_ret2
    exact ⟨0, 0, 2, by rw [fz_zero]; rfl, .inr (.inl ⟨h, rfl, rfl, rfl⟩), Below.refl _ _⟩
end Go.Proofs.YtjjfdlgoacockaaGreat
namespace Go.Proofs.YtjjfdlgoacockaaGreat
open Go.RowKit M6

theorem whole_fz {n : Int} (h : n.natAbs ≤ 1048576) : wb (fz n) = true := (wb_iff (fz_lt n)).2 ⟨n, h, rfl⟩
set_option maxRecDepth 100000 in
theorem word_any (s : ByteArray) (w : World) (hs : s.size = 4) :
    Calls Tryz.prog 139 #[.string s] w fun e w' => e = .returned (.int .u32 ((pr s 4 : Nat) : Int)) ∧ Below w.heap.size w w' := by
  have h0 : 0 < s.size := by omega
  have h1 : 1 < s.size := by omega
  have h2 : 2 < s.size := by omega
  have h3 : 3 < s.size := by omega
  have b0 := UInt8.toNat_lt s[0]
  have b1 := UInt8.toNat_lt s[1]
  have b2 := UInt8.toNat_lt s[2]
  have b3 := UInt8.toNat_lt s[3]
  have hp := pr_four hs
  have HP := Lib.hid hp
  clear hp
  go_enter Tryz.func139, Tryz.ntmps139
  go_wp2_with fail
  go_quiet (fail)
  go_wp2_with fail
  go_ret
  exact ⟨ret_eq (int_eq (by rw [HP.out]; simp)), below_drewN (Below.refl _ _) nq⟩
end Go.Proofs.YtjjfdlgoacockaaGreat
namespace Go.Proofs.YtjjfdlgoacockaaGreat
open Go.RowKit M6

theorem sz_bits {n : Int} {k : Nat} (h : n.natAbs ≤ 1048576) (h1 : 8388608 ≤ n.natAbs * 2 ^ k) (h2 : n.natAbs * 2 ^ k < 16777216) :
    k ≤ 23 ∧ 3 ≤ k ∧ sz n = (if n < 0 then 2147483648 else 0) + (150 - k) * 8388608 + (n.natAbs * 2 ^ k - 8388608) := by
  have h0 : n.natAbs ≠ 0 := fun e => by rw [e] at h1; simp at h1
  have hN : n.natAbs * 2 ^ k ≠ 0 := by omega
  have hl : (n.natAbs * 2 ^ k).log2 = 23 := (Nat.log2_eq_iff hN).2 ⟨h1, h2⟩
  have hlog := log2_mul_pow h0 (n := n.natAbs * 2 ^ k) rfl
  have hsmall : n.natAbs.log2 ≤ 20 := by
    have : n.natAbs < 2 ^ 21 := by omega
    have := (Nat.log2_lt h0).2 this
    omega
  refine ⟨by omega, by omega, ?_⟩
  rw [sz_word n h]
  have hk : k = 23 - n.natAbs.log2 := by omega
  have hr : rg Ieee.single 149 n.natAbs = (n.natAbs.log2 + 126) * 8388608 + n.natAbs * 2 ^ k := by
    unfold rg
    rw [if_neg h0, hk, show Ieee.single.fractionBits = 23 from rfl, show Ieee.single.binade = 8388608 from by decide]
    congr 2
  have e : (n.natAbs.log2 + 126) = 149 - k := by omega
  rw [hr, e]
  unfold Ieee.Format.word
  rw [show Ieee.single.signWeight = 2147483648 from by decide]
  have e2 : (149 - k) * 8388608 + 8388608 = (150 - k) * 8388608 := by omega
  by_cases hn : n < 0
  · rw [decide_eq_true hn, if_pos rfl, if_pos hn]; omega
  · rw [decide_eq_false hn, if_neg (by simp), if_neg hn]; omega
theorem sz_digits {n : Int} (h0 : n ≠ 0) (h : n.natAbs ≤ 1048576) : ∃ k, 8388608 ≤ n.natAbs * 2 ^ k ∧ n.natAbs * 2 ^ k < 16777216 := by
  have h0' : n.natAbs ≠ 0 := by omega
  have hsmall : n.natAbs.log2 ≤ 20 := by
    have : n.natAbs < 2 ^ 21 := by omega
    have := (Nat.log2_lt h0').2 this
    omega
  refine ⟨23 - n.natAbs.log2, ?_, ?_⟩
  · have h1 := Nat.mul_le_mul_right (2 ^ (23 - n.natAbs.log2)) (Nat.log2_self_le h0')
    rw [← Nat.pow_add, show n.natAbs.log2 + (23 - n.natAbs.log2) = 23 from by omega] at h1
    exact h1
  · have h1 := Nat.mul_lt_mul_of_pos_right (@Nat.lt_log2_self n.natAbs) (Nat.two_pow_pos (23 - n.natAbs.log2))
    rw [← Nat.pow_add, show n.natAbs.log2 + 1 + (23 - n.natAbs.log2) = 24 from by omega] at h1
    exact h1
theorem sz_fields {n : Int} (h0 : n ≠ 0) (h : n.natAbs ≤ 1048576) : ∃ k, sz n / 8388608 % 256 + k = 150 ∧ 3 ≤ k ∧ k ≤ 23 ∧ sz n % 8388608 + 8388608 = n.natAbs * 2 ^ k := by
  obtain ⟨k, h1, h2⟩ := sz_digits h0 h
  obtain ⟨h3, h4, e⟩ := sz_bits h h1 h2
  refine ⟨k, ?_, h4, h3, ?_⟩
  · rw [e]; split <;> omega
  · rw [e]; split <;> omega

theorem sz_is {v : Nat} {n : Int} {k : Nat} (h : n.natAbs ≤ 1048576) (hv : v < 4294967296) (h1 : n.natAbs * 2 ^ k = v % 8388608 + 8388608) (h2 : v / 8388608 % 256 + k = 150) (h3 : n < 0 ↔ 2147483648 ≤ v) : v = sz n := by
  obtain ⟨e1, e2, e3⟩ := sz_bits h (k := k) (by omega) (by omega)
  rw [e3, h1]
  split <;> omega

def WhRes (v : Nat) (w : World) (e : Ending) (w' : World) : Prop := ∃ (k : Int) (b : Bool), e = .returned (.tuple #[.int .i64 k, .bool b]) ∧ w = w' ∧ (b = true → k.natAbs ≤ 1048576 ∧ v = sz k) ∧ (∀ n : Int, n.natAbs ≤ 1048576 → v = sz n → b = true)
theorem WhRes.no {v : Nat} (w : World) (h : ∀ n : Int, n.natAbs ≤ 1048576 → v ≠ sz n) : WhRes v w (.returned (.tuple #[.int .i64 0, .bool false])) w :=
  ⟨0, false, rfl, rfl, fun h => by simp at h, fun n hn e => absurd e (h n hn)⟩
set_option maxRecDepth 100000 in
theorem rwhole_any (v : Nat) (w : World) (hv : v < 4294967296) :
    Calls Tryz.prog 138 #[.int .u32 (v : Int)] w (WhRes v w) := by
  by_cases h0 : v = 0
  · subst h0
    go_enter Tryz.func138, Tryz.ntmps138
    go_wp2_with fail
    go_ret2
    exact ⟨0, true, rfl, rfl, fun _ => ⟨by decide, sz_zero.symm⟩, fun _ _ _ => rfl⟩
  · have hne : ((v : Int) == 0) = false := by simp; omega
    have HZ : Hid (∀ n : Int, n.natAbs ≤ 1048576 → v = sz n → n ≠ 0 ∧ ∃ k, v / 8388608 % 256 + k = 150 ∧ 3 ≤ k ∧ k ≤ 23 ∧ v % 8388608 + 8388608 = n.natAbs * 2 ^ k) := Lib.hid (by
      intro n hn e
      have hn0 : n ≠ 0 := by
        intro e0; subst e0; rw [sz_zero] at e; exact h0 e
      refine ⟨hn0, ?_⟩
      rw [e]; exact sz_fields hn0 hn)
    by_cases hE : v / 8388608 % 256 < 127 ∨ 147 < v / 8388608 % 256
    · have HN : Hid (∀ n : Int, n.natAbs ≤ 1048576 → v ≠ sz n) := Lib.hid (by
        intro n hn e
        obtain ⟨-, k, h1, h2, h3, -⟩ := HZ.out n hn e
        omega)
      have hE' : ((v : Int) / 8388608 % 256 < 127) ∨ (¬ (v : Int) / 8388608 % 256 < 127 ∧ 147 < (v : Int) / 8388608 % 256) := by omega
      clear hE HZ
      rcases hE' with h | ⟨h, h'⟩
      all_goals
        go_enter Tryz.func138, Tryz.ntmps138
        go_wp2_with fail
        go_ret2
        exact WhRes.no _ HN.out
    · have h1 : ¬ (v : Int) / 8388608 % 256 < 127 := by omega
      have h2 : ¬ 147 < (v : Int) / 8388608 % 256 := by omega
      go_enter Tryz.func138, Tryz.ntmps138
      go_wp2_with fail
      go_loop [4, 5] (fun x m => ∃ (j M : Nat) (E X : Int), x = .int .i64 E ∧ m = .int .i64 X ∧ E = (v : Int) / 8388608 % 256 + (j : Int) ∧ X = M ∧ E ≤ 150 ∧ M < 16777216 ∧ Hid (v % 8388608 + 8388608 = M * 2 ^ j)) (fun x _ => 150 - (intOf x).toNat)
      case atStart => exact ⟨0, v % 8388608 + 8388608, _, _, rfl, rfl, by omega, by omega, by omega, by omega, Lib.hid (by simp)⟩
      case round =>
        obtain ⟨j, M, E, X, rfl, rfl, hEj, rfl, hE150, hM, HM⟩ := hrel
        by_cases hlt : E < 150
        · by_cases hodd : M % 2 = 0
          · have hodd' : (M : Int) % 2 = 0 := by omega
            go_wp2_with fail
            go_round
            case rel => exact ⟨j + 1, M / 2, _, _, rfl, rfl, by omega, by omega, by omega, by omega, Lib.hid (by rw [HM.out, Nat.pow_succ]; obtain ⟨q, rfl⟩ : ∃ q, M = 2 * q := ⟨M / 2, by omega⟩; rw [Nat.mul_div_cancel_left q (by decide)]; rw [Nat.mul_comm (2 ^ j) 2, ← Nat.mul_assoc, Nat.mul_comm q 2])⟩
            case measure => simp [intOf]; omega
          · have hodd' : (M : Int) % 2 = 1 := by omega
            have HN : Hid (∀ n : Int, n.natAbs ≤ 1048576 → v ≠ sz n) := Lib.hid (by
              intro n hn e
              obtain ⟨-, k, k1, k2, k3, k4⟩ := HZ.out n hn e
              rw [HM.out] at k4
              obtain ⟨d, hd⟩ : ∃ d, k = j + (d + 1) := ⟨k - j - 1, by omega⟩
              rw [hd, Nat.pow_add, Nat.mul_comm (2 ^ j), ← Nat.mul_assoc] at k4
              have k5 := Nat.eq_of_mul_eq_mul_right (Nat.two_pow_pos j) k4
              rw [Nat.pow_succ, ← Nat.mul_assoc] at k5
              omega)
            go_wp2_with fail
            go_ret2
            exact WhRes.no _ HN.out
        · obtain rfl : E = 150 := by omega
          have HY : Hid (∀ n : Int, n.natAbs ≤ 1048576 → v = sz n → n.natAbs = M) := Lib.hid (by
            intro n hn e
            obtain ⟨-, k, k1, k2, k3, k4⟩ := HZ.out n hn e
            obtain rfl : k = j := by omega
            rw [HM.out] at k4
            exact (Nat.eq_of_mul_eq_mul_right (Nat.two_pow_pos k) k4).symm)
          have HI : Hid (∀ n : Int, n.natAbs = M → n.natAbs ≤ 1048576 → (n < 0 ↔ 2147483648 ≤ v) → v = sz n) := Lib.hid (by
            intro n hn1 hn2 hn3
            exact sz_is (k := j) hn2 hv (by rw [hn1]; exact HM.out.symm) (by omega) hn3)
          clear hEj h1 h2
          have hM2 : (M : Int) < 16777216 := by omega
          have hM3 : M ≠ 0 := fun e => by have := HM.out; rw [e] at this; simp at this
          clear hM HM HZ hne
          obtain ⟨X, HX⟩ : ∃ X : Int, Hid (X = (M : Int)) := ⟨_, Lib.hid rfl⟩
          have hx0 : 0 < X := by have := HX.out; omega
          clear hM3
          have hx1 : X < 16777216 := by have := HX.out; omega
          rw [← HX.out]
          clear hM2
          by_cases hs : 2147483648 ≤ v
          · have hs' : 2147483648 ≤ (v : Int) := by omega
            have HS := Lib.hid hs
            clear hs
            have h1 : (-1048576 ≤ -X ∧ X ≤ 1048576) ∨ (¬ -1048576 ≤ -X ∧ ¬ X ≤ 1048576) := by omega
            rcases h1 with ⟨h1, h2⟩ | ⟨h1, h2⟩
            · have h3 : -X ≤ 1048576 := by omega
              go_wp2_with fail
              go_ret2
              refine ⟨-X, true, rfl, rfl, fun _ => ⟨by omega, HI.out _ (by have := HX.out; omega) (by omega) ?_⟩, fun _ _ _ => rfl⟩
              have := HS.out
              omega
            · go_wp2_with fail
              go_ret2
              refine ⟨-X, false, rfl, rfl, fun h => by simp at h, fun n hn e => ?_⟩
              have := HY.out n hn e
              have := HX.out
              omega
          · have hs' : ¬ 2147483648 ≤ (v : Int) := by omega
            have HS := Lib.hid hs
            clear hs
            by_cases h1 : X ≤ 1048576
            · go_wp2_with fail
              go_ret2
              refine ⟨X, true, rfl, rfl, fun _ => ⟨by omega, HI.out _ (by have := HX.out; omega) (by omega) ?_⟩, fun _ _ _ => rfl⟩
              have := HS.out
              omega
            · go_wp2_with fail
              go_ret2
              refine ⟨X, false, rfl, rfl, fun h => by simp at h, fun n hn e => ?_⟩
              have := HY.out n hn e
              have := HX.out
              omega
end Go.Proofs.YtjjfdlgoacockaaGreat
namespace Go.Proofs.YtjjfdlgoacockaaGreat
open Go.RowKit M6

end Go.Proofs.YtjjfdlgoacockaaGreat
