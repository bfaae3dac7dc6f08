/- The walks of Name, the program's and the document's own, by contract. -/
import Derived.Test.YtngjpgdgipmieaaTMath
namespace Go.Proofs.Ytngjpgdgipmieaa
open Go.RowKit M7

theorem nmc_yes {s : ByteArray} {k : Nat} (h : k < s.size) (h1 : ¬ (s[k].toNat : Int) < 33) (h2 : ¬ 126 < (s[k].toNat : Int)) : nmc s k = true := by
  rw [nmc_at h, decide_eq_true (by omega), decide_eq_true (by omega)]; rfl
theorem nmc_low {s : ByteArray} {k : Nat} (h : k < s.size) (h1 : (s[k].toNat : Int) < 33) : nmc s k = false := by
  rw [nmc_at h, decide_eq_false (by omega)]; rfl
theorem nmc_high {s : ByteArray} {k : Nat} (h : k < s.size) (h2 : 126 < (s[k].toNat : Int)) : nmc s k = false := by
  rw [nmc_at h, decide_eq_false (p := s[k].toNat ≤ 126) (by omega), Bool.and_false]
theorem succ_all {Q : Nat → Prop} {k : Nat} (h : ∀ i, i < k → Q i) (hk : Q k) : ∀ i, i < k + 1 → Q i := by
  intro i hi
  by_cases he : i = k
  · rw [he]; exact hk
  · exact h i (by omega)

set_option maxRecDepth 100000 in
theorem name_any (s : ByteArray) (w : World) (hs : s.size ≤ maxLen) :
    Calls Try.prog 11 #[.string s] w fun e w' => e = .returned (.bool (nm s)) ∧ w = w' := by
  unfold maxLen at hs
  by_cases h1 : s.size < 1
  · have HE := Lib.hid (nm_short h1)
    have h1' : (s.size : Int) < 1 := by omega
    clear h1
    go_enter Try.func11, Try.ntmps11
    go_wp2_with fail
    go_ret
    rw [HE.out]
    exact ⟨rfl, rfl⟩
  · have h1' : ¬ (s.size : Int) < 1 := by omega
    by_cases h2 : 64 < s.size
    · have HE := Lib.hid (nm_long h2)
      have h2' : 64 < (s.size : Int) := by omega
      clear h1 h2
      go_enter Try.func11, Try.ntmps11
      go_wp2_with fail
      go_ret
      rw [HE.out]
      exact ⟨rfl, rfl⟩
    · have h2' : ¬ 64 < (s.size : Int) := by omega
      go_enter Try.func11, Try.ntmps11
      go_wp2_with fail
      go_loop [3, 14] (fun _ i => ∃ (k : Nat) (K : Int), i = .int .i64 K ∧ K = (k : Nat) ∧ k ≤ s.size ∧ ∀ i, i < k → nmc s i = true) (fun _ i => s.size - (intOf i).toNat)
      case atStart => exact ⟨0, _, rfl, rfl, by omega, by intro i hi; omega⟩
      case round =>
        obtain ⟨k, K, rfl, rfl, hk, hall⟩ := hrel
        by_cases hlt : k < s.size
        · have HY := Lib.hid (fun h1 h2 => succ_all hall (nmc_yes hlt h1 h2))
          have HL := Lib.hid (fun h => nm_bad hlt (nmc_low hlt h))
          have HH := Lib.hid (fun h => nm_bad hlt (nmc_high hlt h))
          clear hall
          by_cases ha : (s[k].toNat : Int) < 33
          · have HE := Lib.hid (HL.out ha)
            clear HL HY HH
            go_wp2_with fail
            go_ret
            rw [HE.out]
            exact ⟨rfl, rfl⟩
          · by_cases hb : 126 < (s[k].toNat : Int)
            · have HE := Lib.hid (HH.out hb)
              clear HL HY HH
              go_wp2_with fail
              go_ret
              rw [HE.out]
              exact ⟨rfl, rfl⟩
            · have HE := Lib.hid (HY.out ha hb)
              clear HL HY HH
              go_wp2_with fail
              go_round
              case rel => exact ⟨k + 1, _, rfl, by omega, by omega, HE.out⟩
              case measure => simp [intOf]; omega
        · obtain rfl : k = s.size := by omega
          have HE := Lib.hid (nm_ok (by omega) (by omega) hall)
          clear hall
          go_wp2_with fail
          go_ret
          rw [HE.out]
          exact ⟨rfl, rfl⟩

set_option maxRecDepth 100000 in
theorem rname_any (s : ByteArray) (w : World) (hs : s.size ≤ maxLen) :
    Calls Try.prog 12 #[.string s] w fun e w' => e = .returned (.bool (nm s)) ∧ w = w' := by
  unfold maxLen at hs
  go_enter Try.func12, Try.ntmps12
  go_wp2_with fail
  go_loop [3] (fun i => ∃ (k : Nat) (K : Int), i = .int .i64 K ∧ K = (k : Nat) ∧ k ≤ s.size ∧ ∀ i, i < k → nmc s i = true) (fun i => s.size - (intOf i).toNat)
  case atStart => exact ⟨0, _, rfl, rfl, by omega, by intro i hi; omega⟩
  case round =>
    obtain ⟨k, K, rfl, rfl, hk, hall⟩ := hrel
    by_cases hlt : k < s.size
    · have HY := Lib.hid (fun h1 h2 => succ_all hall (nmc_yes hlt h1 h2))
      have HL := Lib.hid (fun h => nm_bad hlt (nmc_low hlt h))
      have HH := Lib.hid (fun h => nm_bad hlt (nmc_high hlt h))
      clear hall
      by_cases ha : (s[k].toNat : Int) < 33
      · have HE := Lib.hid (HL.out ha)
        clear HL HY HH
        go_wp2_with fail
        go_ret
        rw [HE.out]
        exact ⟨rfl, rfl⟩
      · by_cases hb : 126 < (s[k].toNat : Int)
        · have HE := Lib.hid (HH.out hb)
          clear HL HY HH
          go_wp2_with fail
          go_ret
          rw [HE.out]
          exact ⟨rfl, rfl⟩
        · have HE := Lib.hid (HY.out ha hb)
          clear HL HY HH
          go_wp2_with fail
          go_round
          case rel => exact ⟨k + 1, _, rfl, by omega, by omega, HE.out⟩
          case measure => simp [intOf]; omega
    · obtain rfl : k = s.size := by omega
      have HE := Lib.hid (nm_of hall)
      clear hall
      by_cases h1 : 1 ≤ s.size
      · have h1' : (1 : Int) ≤ (s.size : Int) := by omega
        by_cases h2 : s.size ≤ 64
        · have h2' : (s.size : Int) ≤ 64 := by omega
          have HF : Hid (nm s = true) := Lib.hid (by rw [HE.out, decide_eq_true h1, decide_eq_true h2]; rfl)
          go_wp2_with fail
          go_ret
          rw [HF.out]
          exact ⟨rfl, rfl⟩
        · have h2' : ¬ (s.size : Int) ≤ 64 := by omega
          have HF : Hid (nm s = false) := Lib.hid (by rw [HE.out, decide_eq_true h1, decide_eq_false h2]; rfl)
          go_wp2_with fail
          go_ret
          rw [HF.out]
          exact ⟨rfl, rfl⟩
      · have h1' : ¬ (1 : Int) ≤ (s.size : Int) := by omega
        have HF : Hid (nm s = false) := Lib.hid (by rw [HE.out, decide_eq_false h1]; rfl)
        go_wp2_with fail
        go_ret
        rw [HF.out]
        exact ⟨rfl, rfl⟩
end Go.Proofs.Ytngjpgdgipmieaa
