/- The walks of layer 5: are two rows of numbers the same? By contract, whether they are. -/
import Derived.Test.YtngjpgdgipmieaaInts
import Derived.BigQuiet
namespace Go.Proofs.Ytngjpgdgipmieaa
open Go.RowKit
theorem take_same_yes {l m : List Int} {k : Nat} (h : l.take k = m.take k) (h1 : k < l.length) (h2 : k < m.length) (he : l[k] = m[k]) : l.take (k + 1) = m.take (k + 1) := by
  rw [List.take_succ_eq_append_getElem h1, List.take_succ_eq_append_getElem h2, h, he]
theorem take_same_no {l m : List Int} {k : Nat} (h1 : k < l.length) (h2 : k < m.length) (he : l[k] ≠ m[k]) : l ≠ m := by
  rintro rfl; exact he rfl
theorem take_same_all {l m : List Int} (hl : l.length = m.length) (h : l.take m.length = m.take m.length) : l = m := by
  rw [List.take_length, ← hl, List.take_length] at h; exact h

set_option maxRecDepth 100000 in
theorem isInts_any (A B : Option Addr) (c d : Nat) (l m : List Int) (w : World) (hm : m.length ≤ maxLen) (ha : SR w w.heap.size 1 A l.length (iv l)) (hb : SR w w.heap.size 1 B m.length (iv m)) :
    Calls Try.prog 18 #[.slice A l.length c, .slice B m.length d] w fun e w' => e = .returned (.bool (decide (l = m))) ∧ Below w.heap.size w w' := by
  unfold maxLen at hm
  by_cases hlm : l.length = m.length
  · have hlm' : ((l.length : Int) != (m.length : Int)) = false := by simp; omega
    rw [hlm] at ha hlm' ⊢
    have HLM := Lib.hid hlm
    clear hlm
    go_enter Try.func18, Try.ntmps18
    go_wp2
    go_loopw [5, 13] (fun _ i wr => ∃ (k : Nat) (K : Int), i = .int .i64 K ∧ K = (k : Nat) ∧ k ≤ m.length ∧ Below w.heap.size w wr ∧ l.take k = m.take k) (fun _ i _ => m.length - (intOf i).toNat)
    case atStart => exact ⟨0, _, rfl, rfl, by omega, Below.refl _ _, rfl⟩
    case round =>
      obtain ⟨k, K, rfl, rfl, hk, hbw, htk⟩ := hrel
      have HT := Lib.hid htk
      clear htk
      by_cases hlt : k < m.length
      · have hlt' : k < l.length := by rw [HLM.out]; exact hlt
        have ha' : SR w w.heap.size 1 A l.length (iv l) := by rw [HLM.out]; exact ha
        obtain ⟨b1, o1, rfl, hb1, x0⟩ := int_at (ha'.below hbw) hlt'
        obtain ⟨b2, o2, rfl, hb2, y0⟩ := int_at (hb.below hbw) hlt
        have HB := Lib.hid hbw
        have HY := Lib.hid (take_same_yes HT.out hlt' hlt)
        have HN := Lib.hid (take_same_no (l := l) (m := m) hlt' hlt)
        clear ha hb hbw ha'
        generalize l[k] = u at *
        generalize m[k] = v at *
        clear hlt'
        by_cases huv : u = v
        · subst huv
          have HE := Lib.hid (HY.out rfl)
          go_wp2_with fail
          go_quiet (fail)
          go_wp2_with fail
          go_roundw
          case rel => exact ⟨k + 1, _, rfl, by omega, by omega, below_drewN HB.out _, HE.out⟩
          case measure => simp [intOf]; omega
        · have HE := Lib.hid (HN.out huv)
          have huv' : (u != v) = true := by simpa using huv
          clear huv
          go_wp2_with fail
          go_quiet (fail)
          go_wp2_with fail
          go_ret
          rw [decide_eq_false HE.out]
          exact ⟨rfl, below_drewN HB.out _⟩
      · obtain rfl : k = m.length := by omega
        go_wp2
        go_ret
        rw [decide_eq_true (take_same_all HLM.out HT.out)]
        exact ⟨rfl, hbw⟩
  · have hlm' : ((l.length : Int) != (m.length : Int)) = true := by simp; omega
    have HE : Hid (decide (l = m) = false) := Lib.hid (decide_eq_false fun h => hlm (by rw [h]))
    clear hlm ha hb
    go_enter Try.func18, Try.ntmps18
    go_wp2_with fail
    go_ret
    rw [HE.out]
    exact ⟨rfl, Below.refl _ _⟩
set_option maxRecDepth 100000 in
theorem slEqual_any (A B : Option Addr) (c d : Nat) (l m : List Int) (w : World) (hm : m.length ≤ maxLen) (ha : SR w w.heap.size 1 A l.length (iv l)) (hb : SR w w.heap.size 1 B m.length (iv m)) :
    Calls Try.prog 60 #[.slice A l.length c, .slice B m.length d] w fun e w' => e = .returned (.bool (decide (l = m))) ∧ Below w.heap.size w w' := by
  unfold maxLen at hm
  by_cases hlm : l.length = m.length
  · have hlm' : ((l.length : Int) != (m.length : Int)) = false := by simp; omega
    rw [hlm] at ha hlm' ⊢
    have HLM := Lib.hid hlm
    clear hlm
    go_enter Try.func60, Try.ntmps60
    go_wp2
    go_loopw [5, 13] (fun _ i wr => ∃ (k : Nat) (K : Int), i = .int .i64 K ∧ K = (k : Nat) ∧ k ≤ m.length ∧ Below w.heap.size w wr ∧ l.take k = m.take k) (fun _ i _ => m.length - (intOf i).toNat)
    case atStart => exact ⟨0, _, rfl, rfl, by omega, Below.refl _ _, rfl⟩
    case round =>
      obtain ⟨k, K, rfl, rfl, hk, hbw, htk⟩ := hrel
      have HT := Lib.hid htk
      clear htk
      by_cases hlt : k < m.length
      · have hlt' : k < l.length := by rw [HLM.out]; exact hlt
        have ha' : SR w w.heap.size 1 A l.length (iv l) := by rw [HLM.out]; exact ha
        obtain ⟨b1, o1, rfl, hb1, x0⟩ := int_at (ha'.below hbw) hlt'
        obtain ⟨b2, o2, rfl, hb2, y0⟩ := int_at (hb.below hbw) hlt
        have HB := Lib.hid hbw
        have HY := Lib.hid (take_same_yes HT.out hlt' hlt)
        have HN := Lib.hid (take_same_no (l := l) (m := m) hlt' hlt)
        clear ha hb hbw ha'
        generalize l[k] = u at *
        generalize m[k] = v at *
        clear hlt'
        by_cases huv : u = v
        · subst huv
          have HE := Lib.hid (HY.out rfl)
          go_wp2_with fail
          go_quiet (fail)
          go_wp2_with fail
          go_roundw
          case rel => exact ⟨k + 1, _, rfl, by omega, by omega, below_drewN HB.out _, HE.out⟩
          case measure => simp [intOf]; omega
        · have HE := Lib.hid (HN.out huv)
          have huv' : (u != v) = true := by simpa using huv
          clear huv
          go_wp2_with fail
          go_quiet (fail)
          go_wp2_with fail
          go_ret
          rw [decide_eq_false HE.out]
          exact ⟨rfl, below_drewN HB.out _⟩
      · obtain rfl : k = m.length := by omega
        go_wp2
        go_ret
        rw [decide_eq_true (take_same_all HLM.out HT.out)]
        exact ⟨rfl, hbw⟩
  · have hlm' : ((l.length : Int) != (m.length : Int)) = true := by simp; omega
    have HE : Hid (decide (l = m) = false) := Lib.hid (decide_eq_false fun h => hlm (by rw [h]))
    clear hlm ha hb
    go_enter Try.func60, Try.ntmps60
    go_wp2_with fail
    go_ret
    rw [HE.out]
    exact ⟨rfl, Below.refl _ _⟩
end Go.Proofs.Ytngjpgdgipmieaa
