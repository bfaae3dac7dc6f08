/- The walks of layer 2: numbers of so many bytes, the lowest first, read and written, by contract. -/
import Derived.Test.YtmojabdobjfdoaaRows
import Derived.Test.YtmojabdobjfdoaaWMath
import Derived.Test.YtmojabdobjfdoaaKit
import Derived.Outline
import Derived.WalkSpells
import Derived.WalkMore
namespace Go.Proofs.Ytmojabdobjfdoaa
open Go.RowKit M1 M2

set_option maxRecDepth 100000 in
theorem readLow_any (s : ByteArray) (n : Nat) (w : World) (hs : s.size ≤ maxLen) (hn : n ≤ 8) :
    Calls Try.prog 36 #[.string s, .int .i64 n] w fun e w' => e = .returned (.tuple #[.int .u64 (rl s n).1, .int .i64 (rl s n).2.1, .int .i64 (rl s n).2.2]) ∧ w = w' := by
  unfold maxLen at hs
  by_cases h : s.size < n
  · have hr : rl s n = (0, 0, 1) := by unfold rl; rw [if_pos h]
    rw [hr]
    have h' : (s.size : Int) < (n : Int) := by omega
    clear hr
    go_enter Try.func36, Try.ntmps36
    go_wp2
    go_ret3
    exact ⟨rfl, rfl⟩
  · have hr : rl s n = (low (s.data.toList.take n), n, 0) := by unfold rl; rw [if_neg h]
    rw [hr]
    have h' : (n : Int) ≤ (s.size : Int) := by omega
    clear hr
    go_enter Try.func36, Try.ntmps36
    go_wp2
    go_loop [7, 14] (fun v i => ∃ (k : Nat) (X K : Int), k ≤ n ∧ v = .int .u64 X ∧ i = .int .i64 K ∧ X = (low (s.data.toList.take k) : Nat) ∧ K = (k : Nat)) (fun _ i => n - (intOf i).toNat)
    case atStart => exact ⟨0, _, _, by omega, rfl, rfl, by simp [low], rfl⟩
    case round =>
      obtain ⟨k, X, K, hk, rfl, rfl, rfl, rfl⟩ := hrel
      by_cases hlt : k < n
      · have hks : k < s.size := by omega
        have hc : (s[k].toNat : Int) ≤ 255 := by have := s[k].toNat_lt; omega
        have ht := take_snoc hks
        have hl := low_lt (s.data.toList.take k)
        have hlen : (s.data.toList.take k).length = k := by simp; omega
        have hsn := low_snoc (s.data.toList.take k) s[k]
        rw [hlen] at hl hsn
        have ho := lor_step (c := s[k]) (by omega) hl
        rw [← hsn, ← ht] at ho
        have HO := Lib.hid ho
        clear ho hsn ht hl hlen
        go_wp2
        go_round
        case rel => exact ⟨k + 1, _, _, by omega, rfl, rfl, HO.out, by omega⟩
        case measure => simp [intOf]; omega
      · obtain rfl : k = n := by omega
        go_wp2
        go_ret3
        exact ⟨rfl, rfl⟩
end Go.Proofs.Ytmojabdobjfdoaa
