/- The walks of layer 2: the reference's bytes of a number, by contract. -/
import Derived.Test.YtmojabdobjfdoaaRows
import Derived.Test.YtmojabdobjfdoaaWMath
import Derived.Test.YtmojabdobjfdoaaKit
import Derived.Test.YtmojabdobjfdoaaRow
import Derived.Test.YtmojabdobjfdoaaPuts
import Derived.Outline
import Derived.WalkSpells
import Derived.WalkMore
import Derived.OneCell
namespace Go.Proofs.Ytmojabdobjfdoaa
open Go.RowKit M1 M2

set_option maxRecDepth 100000 in
theorem rhigh_any (v n : Nat) (w : World) (hv : Fits64 v) (hn : n ≤ 8) :
    Calls Try.prog 39 #[.int .u64 v, .int .i64 n] w fun e w' => e = .returned (.string (hs n v)) ∧ Below w.heap.size w w' := by
  have HV := Lib.hid hv; clear hv
  go_enter Try.func39, Try.ntmps39
  go_wp2
  go_loopw [0, 5, 6] (fun x s i wr => ∃ (k : Nat) (X K : Int), k ≤ n ∧ x = .int .u64 X ∧ i = .int .i64 K ∧ X = (v / pb k : Nat) ∧ K = (k : Nat) ∧ s = .string (hs k v) ∧ Below w.heap.size w wr) (fun _ _ i _ => n - (intOf i).toNat)
  case atStart => exact ⟨0, _, _, by omega, rfl, rfl, by simp [pb], rfl, rfl, Below.refl _ _⟩
  case round =>
    obtain ⟨k, X, K, hk, rfl, rfl, rfl, rfl, rfl, hb⟩ := hrel
    by_cases hlt : k < n
    · have hq : (v / pb k : Nat) ≤ v := Nat.div_le_self _ _
      have hv' : (v / pb k : Nat) ≤ 18446744073709551615 := by have := HV.out; unfold Fits64 at this; omega
      have hl := hs_size k v
      have hl2 : (hs k v).size ≤ 8 := by omega
      have hsz := hb.size
      generalize hx : v / pb k = x at *
      have HX := Lib.hid hx
      have HL := Lib.hid hl
      have hown : (wr.alloc (.cells #[.int .u8 ((x : Int) % 256)] 5)).ownsRow wr.heap.size 5 1 (.slice (some ⟨wr.heap.size, 0, none⟩) 1 1) 1 (bv [UInt8.ofNat (x % 256)]) := by
        rw [← bv_one (by omega)]
        exact World.ownsRow_lit wr #[.int .u8 ((x : Int) % 256)] 1 (Nat.le_refl _) (by unfold maxLen; omega) rfl
      have hconv := run_bytes_own (P := Try.prog) _ 49 9 5 Try.underlying49 Try.underlying5 Try.underlying9 hown
      have es := hs_snoc k v
      rw [hx] at es
      have ed : x / 256 = v / pb (k + 1) := by rw [← hx, Nat.div_div_eq_div_mul, pb_succ]
      have HE := Lib.hid (And.intro es ed)
      clear hx hl hq hown es ed
      go_wp2
      go_roundw
      case rel =>
        refine ⟨k + 1, _, _, by omega, rfl, rfl, by rw [← HE.out.2]; omega, by omega, ?_, hb.alloc hsz _⟩
        rw [HE.out.1]
      case measure => simp [intOf]; omega
    · obtain rfl : k = n := by omega
      go_wp2
      go_ret
      exact ⟨rfl, hb⟩
end Go.Proofs.Ytmojabdobjfdoaa
