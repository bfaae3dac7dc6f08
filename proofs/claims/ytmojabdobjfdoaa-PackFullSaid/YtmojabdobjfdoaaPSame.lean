/- The walks of layer 3: are two rows, and two lists of texts, the same? By contract, where they are. -/
import Derived.Test.YtmojabdobjfdoaaPAt
import Derived.BigQuiet
namespace Go.Proofs.Ytmojabdobjfdoaa
open Go.RowKit M1 M2 M3

set_option maxRecDepth 100000 in
theorem sameInts_any (A B : Option Addr) (c d : Nat) (l : List Int) (w : World) (hl : l.length ≤ maxLen) (ha : SR w w.heap.size 1 A l.length (iv l)) (hb : SR w w.heap.size 1 B l.length (iv l)) :
    Calls Try.prog 11 #[.slice A l.length c, .slice B l.length d] w fun e w' => e = .returned (.bool true) ∧ Below w.heap.size w w' := by
  unfold maxLen at hl
  go_enter Try.func11, Try.ntmps11
  go_wp2
  go_loopw [5, 13] (fun _ i wr => ∃ (k : Nat) (K : Int), i = .int .i64 K ∧ K = (k : Nat) ∧ k ≤ l.length ∧ Below w.heap.size w wr) (fun _ i _ => l.length - (intOf i).toNat)
  case atStart => exact ⟨0, _, rfl, rfl, by omega, Below.refl _ _⟩
  case round =>
    obtain ⟨k, K, rfl, rfl, hk, hbw⟩ := hrel
    by_cases hlt : k < l.length
    · obtain ⟨b1, o1, rfl, hb1, x0⟩ := int_at (ha.below hbw) hlt
      obtain ⟨b2, o2, rfl, hb2, y0⟩ := int_at (hb.below hbw) hlt
      have HB := Lib.hid hbw
      clear ha hb hbw
      generalize l[k] = u at *
      go_wp2_with fail
      go_quiet (fail)
      go_wp2_with fail
      go_roundw
      case rel => exact ⟨k + 1, _, rfl, by omega, by omega, below_drewN HB.out _⟩
      case measure => simp [intOf]; omega
    · obtain rfl : k = l.length := by omega
      go_wp2
      go_ret
      exact ⟨rfl, hbw⟩

set_option maxRecDepth 100000 in
theorem sameTexts_any (A B : Option Addr) (c d : Nat) (l : List ByteArray) (w : World) (hl : l.length ≤ maxLen) (ha : SR w w.heap.size 1 A l.length (tv l)) (hb : SR w w.heap.size 1 B l.length (tv l)) :
    Calls Try.prog 12 #[.slice A l.length c, .slice B l.length d] w fun e w' => e = .returned (.bool true) ∧ Below w.heap.size w w' := by
  unfold maxLen at hl
  go_enter Try.func12, Try.ntmps12
  go_wp2
  go_loopw [5, 13] (fun _ i wr => ∃ (k : Nat) (K : Int), i = .int .i64 K ∧ K = (k : Nat) ∧ k ≤ l.length ∧ Below w.heap.size w wr) (fun _ i _ => l.length - (intOf i).toNat)
  case atStart => exact ⟨0, _, rfl, rfl, by omega, Below.refl _ _⟩
  case round =>
    obtain ⟨k, K, rfl, rfl, hk, hbw⟩ := hrel
    by_cases hlt : k < l.length
    · obtain ⟨b1, o1, rfl, hb1, x0⟩ := txt_at (ha.below hbw) hlt
      obtain ⟨b2, o2, rfl, hb2, y0⟩ := txt_at (hb.below hbw) hlt
      have HB := Lib.hid hbw
      clear ha hb hbw
      generalize l[k] = u at *
      go_wp2_with fail
      go_quiet (fail)
      go_wp2_with fail
      go_roundw
      case rel => exact ⟨k + 1, _, rfl, by omega, by omega, below_drewN HB.out _⟩
      case measure => simp [intOf]; omega
    · obtain rfl : k = l.length := by omega
      go_wp2
      go_ret
      exact ⟨rfl, hbw⟩
end Go.Proofs.Ytmojabdobjfdoaa
