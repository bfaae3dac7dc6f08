/- The walks of layer 5: a shape's size, and the document's own, by contract. -/
import Derived.Test.YtngjpgdgipmieaaInts
import Derived.Test.YtngjpgdgipmieaaSMath
import Derived.BigQuiet
namespace Go.Proofs.Ytngjpgdgipmieaa
open Go.RowKit M5

theorem take_succ_nn {l : List Int} {k : Nat} {Q : Int → Prop} (h : ∀ x ∈ l.take k, Q x) (hlt : k < l.length) (hq : Q l[k]) : ∀ x ∈ l.take (k + 1), Q x := by
  intro x hx
  rw [List.take_succ_eq_append_getElem hlt] at hx
  rcases List.mem_append.1 hx with hx | hx
  · exact h x hx
  · simp at hx; rw [hx]; exact hq
theorem one_le_of {u : Int} (h0 : ¬ u < 0) (h : (u == 0) = false) : 1 ≤ u := by
  have : ¬ u = 0 := by simpa using h
  omega

set_option maxRecDepth 100000 in
theorem shSize_any (A : Option Addr) (c : Nat) (l : List Int) (w : World) (hl : l.length ≤ maxLen) (ha : SR w w.heap.size 1 A l.length (iv l)) (hin : ∀ n ∈ l, I64 n) :
    Calls Try.prog 33 #[.slice A l.length c] w fun e w' => e = .returned (.tuple #[.int .i64 (sz l).1, .int .i64 ((sz l).2 : Int)]) ∧ w = w' := by
  unfold maxLen at hl
  have HI := Lib.hid hin
  clear hin
  by_cases h8 : 8 < l.length
  · have h8' : (8 : Int) < (l.length : Int) := by omega
    have HE := Lib.hid (sz_long h8)
    clear h8 ha
    go_enter Try.func33, Try.ntmps33
    go_wp2_with fail
    go_ret2
    rw [HE.out]
    exact ⟨rfl, rfl⟩
  · have h8' : (l.length : Int) ≤ 8 := by omega
    go_enter Try.func33, Try.ntmps33
    go_wp2_with fail
    go_loop [4, 12] (fun _ i => ∃ (k : Nat) (K : Int), i = .int .i64 K ∧ K = (k : Nat) ∧ k ≤ l.length ∧ ∀ x ∈ l.take k, 0 ≤ x) (fun _ i => l.length - (intOf i).toNat)
    case atStart => exact ⟨0, _, rfl, rfl, by omega, by simp⟩
    case round =>
      obtain ⟨k, K, rfl, rfl, hk, hnn⟩ := hrel
      by_cases hlt : k < l.length
      · obtain ⟨b1, o1, rfl, hb1, x0⟩ := int_at ha hlt
        have HN := Lib.hid (take_succ_nn hnn hlt)
        have HM := Lib.hid (List.getElem_mem hlt)
        have HG := Lib.hid (fun h => sz_neg (List.getElem_mem hlt) h)
        generalize l[k] = u at *
        by_cases hu : u < 0
        · have HE := Lib.hid (HG.out hu)
          clear ha hnn
          go_wp2_with fail
          go_ret2
          rw [HE.out]
          exact ⟨rfl, rfl⟩
        · have HE := Lib.hid (HN.out (by omega))
          clear hnn
          go_wp2_with fail
          go_round
          case rel => exact ⟨k + 1, _, rfl, by omega, by omega, HE.out⟩
          case measure => simp [intOf]; omega
      · obtain rfl : k = l.length := by omega
        rw [List.take_length] at hnn
        have HN := Lib.hid hnn
        clear hnn
        go_wp2_with fail
        go_loop [5, 6, 23] (fun s _ i => ∃ (k : Nat) (K S : Int), i = .int .i64 K ∧ K = (k : Nat) ∧ k ≤ l.length ∧ s = .int .i64 S ∧ S = cap (l.take k) ∧ 0 ≤ S ∧ S ≤ 65537 ∧ ∀ x ∈ l.take k, x ≤ 65536) (fun _ _ i => l.length - (intOf i).toNat)
        case atStart => exact ⟨0, _, _, rfl, rfl, by omega, rfl, (by rw [List.take_zero]; decide), by omega, by omega, by simp⟩
        case round =>
          obtain ⟨k, K, S, rfl, rfl, hk, rfl, hS, hS0, hS1, hgr⟩ := hrel
          have HS := Lib.hid hS
          clear hS
          by_cases hlt : k < l.length
          · obtain ⟨b1, o1, rfl, hb1, x0⟩ := int_at ha hlt
            have hu0 := HN.out l[k] (List.getElem_mem hlt)
            have HG := Lib.hid (take_succ_nn hgr hlt)
            have HT := Lib.hid (fun h => sz_great (by omega) HN.out (List.getElem_mem hlt) h)
            have hcs := cap_snoc (l := l.take k) (fun x hx => HN.out x (List.mem_of_mem_take hx)) hu0
            rw [← List.take_succ_eq_append_getElem hlt, ← HS.out] at hcs
            have HC := Lib.hid hcs
            clear hcs hgr
            generalize l[k] = u at *
            by_cases hu : 65536 < u
            · have HE := Lib.hid (HT.out hu)
              clear ha
              go_wp2_with fail
              go_ret2
              rw [HE.out]
              exact ⟨rfl, rfl⟩
            · have HE := Lib.hid (HG.out (by omega))
              have hm0 : 0 ≤ S * u := Int.mul_nonneg hS0 hu0
              have hm1 : S * u ≤ 65537 * 65536 := Int.mul_le_mul hS1 (by omega) hu0 (by omega)
              go_wp2_with fail
              go_round
              case rel => exact ⟨k + 1, _, _, rfl, by omega, by omega, rfl, (by rw [HC.out]; split <;> omega), by split <;> omega, by split <;> omega, HE.out⟩
              case measure => simp [intOf]; omega
          · obtain rfl : k = l.length := by omega
            rw [List.take_length] at hgr HS
            have hp := prd_nonneg HN.out
            have hcp : cap l = min (prd l) 65537 := rfl
            have hS := HS.out
            by_cases hm : 65536 < prd l
            · obtain rfl : S = 65537 := by omega
              have HE := Lib.hid (sz_much (by omega) HN.out hm)
              clear hgr ha hcp hS
              go_wp2_with fail
              go_ret2
              rw [HE.out]
              exact ⟨rfl, rfl⟩
            · obtain rfl : S = prd l := by omega
              have HE := Lib.hid (sz_ok ⟨by omega, HN.out, hgr, by omega⟩)
              clear hgr ha hcp hS
              generalize prd l = S at *
              go_wp2_with fail
              go_ret2
              rw [HE.out]
              exact ⟨rfl, rfl⟩

set_option maxRecDepth 100000 in
theorem shRefSize_any (A : Option Addr) (c : Nat) (l : List Int) (w : World) (hl : l.length ≤ maxLen) (ha : SR w w.heap.size 1 A l.length (iv l)) (hin : ∀ n ∈ l, I64 n) :
    Calls Try.prog 31 #[.slice A l.length c] w fun e w' => e = .returned (.tuple #[.int .i64 (sz l).1, .int .i64 ((sz l).2 : Int)]) ∧ w = w' := by
  unfold maxLen at hl
  have HI := Lib.hid hin
  clear hin
  by_cases h8 : 8 < l.length
  · have h8' : (8 : Int) < (l.length : Int) := by omega
    have HE := Lib.hid (sz_long h8)
    clear h8 ha
    go_enter Try.func31, Try.ntmps31
    go_wp2_with fail
    go_ret2
    rw [HE.out]
    exact ⟨rfl, rfl⟩
  · have h8' : (l.length : Int) ≤ 8 := by omega
    go_enter Try.func31, Try.ntmps31
    go_wp2_with fail
    go_loop [4, 5, 6] (fun g z i => ∃ (k : Nat) (K : Int) (G Z : Bool), i = .int .i64 K ∧ K = (k : Nat) ∧ k ≤ l.length ∧ g = .bool G ∧ z = .bool Z ∧ (∀ x ∈ l.take k, 0 ≤ x) ∧ (G = true → ∃ x ∈ l, 65536 < x) ∧ (G = false → ∀ x ∈ l.take k, x ≤ 65536) ∧ (Z = true → (0 : Int) ∈ l) ∧ (Z = false → ∀ x ∈ l.take k, 1 ≤ x)) (fun _ _ i => l.length - (intOf i).toNat)
    case atStart => exact ⟨0, _, _, _, rfl, rfl, by omega, rfl, rfl, by simp, by simp, by simp, by simp, by simp⟩
    case round =>
      obtain ⟨k, K, G, Z, rfl, rfl, hk, rfl, rfl, hnn, hG1, hG0, hZ1, hZ0⟩ := hrel
      by_cases hlt : k < l.length
      · obtain ⟨b1, o1, rfl, hb1, x0⟩ := int_at ha hlt
        have HN := Lib.hid (take_succ_nn hnn hlt)
        have HM := Lib.hid (List.getElem_mem hlt)
        have HG := Lib.hid (fun h => sz_neg (List.getElem_mem hlt) h)
        have HG1 := Lib.hid hG1
        have HG0 := Lib.hid (fun h => take_succ_nn (hG0 h) hlt)
        have HZ1 := Lib.hid hZ1
        have HZ0 := Lib.hid (fun h => take_succ_nn (hZ0 h) hlt)
        generalize l[k] = u at *
        clear hnn hG1 hG0 hZ1 hZ0
        by_cases hu : u < 0
        · have HE := Lib.hid (HG.out hu)
          clear ha
          go_wp2_with fail
          go_ret2
          rw [HE.out]
          exact ⟨rfl, rfl⟩
        · have HE := Lib.hid (HN.out (by omega))
          cases G <;> cases Z
          · go_wp2_with fail
            go_round
            case rel => exact ⟨k + 1, _, _, _, rfl, by omega, by omega, rfl, rfl, HE.out, fun h => ⟨_, HM.out, by simpa using h⟩, fun h => HG0.out rfl (by simpa using h), fun h => (by simpa using h : u = 0) ▸ HM.out, fun h => HZ0.out rfl (one_le_of hu h)⟩
            case measure => simp [intOf]; omega
          · go_wp2_with fail
            go_round
            case rel => exact ⟨k + 1, _, _, _, rfl, by omega, by omega, rfl, rfl, HE.out, fun h => ⟨_, HM.out, by simpa using h⟩, fun h => HG0.out rfl (by simpa using h), fun _ => HZ1.out rfl, fun h => by cases h⟩
            case measure => simp [intOf]; omega
          · go_wp2_with fail
            go_round
            case rel => exact ⟨k + 1, _, _, _, rfl, by omega, by omega, rfl, rfl, HE.out, fun _ => HG1.out rfl, (fun h => by cases h), fun h => (by simpa using h : u = 0) ▸ HM.out, fun h => HZ0.out rfl (one_le_of hu h)⟩
            case measure => simp [intOf]; omega
          · go_wp2_with fail
            go_round
            case rel => exact ⟨k + 1, _, _, _, rfl, by omega, by omega, rfl, rfl, HE.out, fun _ => HG1.out rfl, (fun h => by cases h), fun _ => HZ1.out rfl, fun h => by cases h⟩
            case measure => simp [intOf]; omega
      · obtain rfl : k = l.length := by omega
        rw [List.take_length] at hnn hG0 hZ0
        cases G
        · have HP := Lib.hid (hG0 rfl)
          have HN := Lib.hid hnn
          cases Z
          · have HO := Lib.hid (hZ0 rfl)
            clear hnn hG1 hG0 hZ1 hZ0
            go_wp2_with fail
            go_loop [7, 8] (fun s i => ∃ (k : Nat) (K S : Int), i = .int .i64 K ∧ K = (k : Nat) ∧ k ≤ l.length ∧ s = .int .i64 S ∧ S = prd (l.take k) ∧ 0 ≤ S ∧ S ≤ 65536) (fun _ i => l.length - (intOf i).toNat)
            case atStart => exact ⟨0, _, _, rfl, rfl, by omega, rfl, (by rw [List.take_zero]; rfl), by omega, by omega⟩
            case round =>
              obtain ⟨k, K, S, rfl, rfl, hk, rfl, hS, hS0, hS1⟩ := hrel
              by_cases hlt : k < l.length
              · obtain ⟨b1, o1, rfl, hb1, x0⟩ := int_at ha hlt
                have hu0 := HO.out l[k] (List.getElem_mem hlt)
                have hu1 := HP.out l[k] (List.getElem_mem hlt)
                have hpk := prd_snoc (l.take k) l[k]
                rw [← List.take_succ_eq_append_getElem hlt, ← hS] at hpk
                have hmore : prd (l.take (k + 1)) ≤ prd l := by
                  have := prd_le_mul (a := l.take (k + 1)) (b := l.drop (k + 1)) (fun x hx => HO.out x (List.mem_of_mem_take hx)) (fun x hx => HO.out x (List.mem_of_mem_drop hx))
                  rwa [List.take_append_drop] at this
                rw [hpk] at hmore
                have HK := Lib.hid hpk
                clear hpk hS
                generalize l[k] = u at *
                have hm0 : 0 ≤ S * u := Int.mul_nonneg hS0 (by omega)
                have hm1 : S * u ≤ 65536 * 65536 := Int.mul_le_mul hS1 (by omega) (by omega) (by omega)
                by_cases hm : 65536 < S * u
                · have HE := Lib.hid (sz_much (by omega) HN.out (show 65536 < prd l by omega))
                  clear ha hmore
                  go_wp2_with fail
                  go_ret2
                  rw [HE.out]
                  exact ⟨rfl, rfl⟩
                · clear hmore
                  go_wp2_with fail
                  go_round
                  case rel => exact ⟨k + 1, _, _, rfl, by omega, by omega, rfl, HK.out.symm, by omega, by omega⟩
                  case measure => simp [intOf]; omega
              · obtain rfl : k = l.length := by omega
                rw [List.take_length] at hS
                have HE := Lib.hid (sz_ok ⟨by omega, HN.out, HP.out, by omega⟩)
                rw [← hS] at HE
                clear ha hS
                go_wp2_with fail
                go_ret2
                rw [HE.out]
                exact ⟨rfl, rfl⟩
          · have hz := prd_zero (hZ1 rfl)
            have HE := Lib.hid (sz_ok ⟨by omega, HN.out, HP.out, by omega⟩)
            rw [hz] at HE
            have hpos := List.length_pos_of_mem (hZ1 rfl)
            clear hnn hG1 hG0 hZ1 hZ0 ha hz
            go_wp2_with fail
            go_loop [7, 8] (fun s i => s = .int .i64 1 ∧ i = .int .i64 0) (fun _ _ => 0)
            case atStart => exact ⟨rfl, rfl⟩
            case round =>
              obtain ⟨rfl, rfl⟩ := hrel
              have hpos' : (0 : Int) < (l.length : Int) := by omega
              go_wp2_with fail
              go_ret2
              rw [HE.out]
              exact ⟨rfl, rfl⟩
        · obtain ⟨x, hx, hx2⟩ := hG1 rfl
          have HE := Lib.hid (sz_great (by omega) hnn hx hx2)
          clear hnn hG1 hG0 hZ1 hZ0 ha hx
          go_wp2_with fail
          go_ret2
          rw [HE.out]
          exact ⟨rfl, rfl⟩
end Go.Proofs.Ytngjpgdgipmieaa
