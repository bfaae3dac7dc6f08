/- The walks of layer 2: a number written in so many bytes, by contract. -/
import Derived.Test.YtmojabdobjfdoaaRows
import Derived.Test.YtmojabdobjfdoaaWMath
import Derived.Test.YtmojabdobjfdoaaKit
import Derived.Test.YtmojabdobjfdoaaRow
import Derived.Test.YtmojabdobjfdoaaPuts
import Derived.Outline
import Derived.WalkSpells
import Derived.WalkMore
import Derived.OneCell
namespace Go.Proofs.Ytmojabdobjfdoaa
open Go.RowKit M1 M2

theorem hi_cell (v n k : Nat) (h : k < n) : (bv (hi k v) ++ List.replicate (n - k) (Value.int .u8 0))[k]? = some (.int .u8 0) := by
  have hl : (bv (hi k v)).length = k := by rw [bv_len, hi_len]
  rw [List.getElem?_append_right (by omega), hl, Nat.sub_self, List.getElem?_replicate, if_pos (by omega)]
theorem pb_two (k : Nat) : (2 : Int) ^ (8 * k) = ((pb k : Nat) : Int) := by
  rw [pb, show (256 : Nat) = 2 ^ 8 from rfl, ← Nat.pow_mul, Int.natCast_pow]; rfl
theorem hi_set (v n k : Nat) (h : k < n) : (bv (hi k v) ++ List.replicate (n - k) (Value.int .u8 0)).set k (.int .u8 ((v : Int) / 2 ^ (8 * k) % 256)) =
    bv (hi (k + 1) v) ++ List.replicate (n - (k + 1)) (.int .u8 0) := by
  have hl : (bv (hi k v)).length = k := by rw [bv_len, hi_len]
  obtain ⟨m, hm⟩ : ∃ m, n - k = m + 1 := ⟨n - k - 1, by omega⟩
  have hm' : n - (k + 1) = m := by omega
  have e : ((v : Int) / 2 ^ (8 * k) % 256) = ((v / pb k % 256 : Nat) : Int) := by rw [pb_two]; simp
  rw [hm, hm', List.replicate_succ, List.set_append, if_neg (by omega), hl, Nat.sub_self, List.set_cons_zero, hi_snoc, bv_append, ← bv_one (by omega), e]
  simp

set_option maxRecDepth 100000 in
theorem putLow_any (v n : Nat) (w : World) (hn : n ≤ 8) :
    Calls Try.prog 35 #[.int .u64 v, .int .i64 n] w fun e w' => e = .returned (.string (hs n v)) ∧ Below w.heap.size w w' := by
  obtain ⟨i0, hi0, hz0, hz1, hz2⟩ := info_parts infoByte
  go_enter Try.func35, Try.ntmps35
  go_wp2_with (at_make; refine wpList_make_full _ rfl (.tmp 7) (.tmp 7) 49 rfl w.heap.size 5 i0 (.int .u8 0) 1 Try.underlying49 hi0 hz0 hz1 .i64 .i64 n n n rfl rfl rfl rfl (by rw [hz2]; omega) (by unfold maxLen; omega) (Nat.le_refl _) ?_)
  intro w1 hown hg
  have hb : Below w.heap.size w w1 := (Below.refl _ _).grown hg (Nat.le_refl _) (by simp)
  have e0 : (madeCells #[Value.int .u8 0] n).toList = bv (hi 0 v) ++ List.replicate (n - 0) (.int .u8 0) := toList_madeCells_one _ _
  rw [e0] at hown
  have HOWN := Lib.hid hown
  have HB := Lib.hid hb
  clear e0 hown hg hb
  generalize hG : w.heap.size = G at *
  have HG := Lib.hid hG; clear hG
  go_wp2_with fail
  go_loopw [6, 10] (fun _ i wr => ∃ (k : Nat) (K : Int), k ≤ n ∧ i = .int .i64 K ∧ K = (k : Nat) ∧ wr.ownsRow G 5 1 (.slice (some ⟨G, 0, none⟩) n n) n (bv (hi k v) ++ List.replicate (n - k) (.int .u8 0)) ∧ Below G w wr) (fun _ i _ => n - (intOf i).toNat)
  case atStart => exact ⟨0, _, by omega, rfl, rfl, HOWN.out, HB.out⟩
  case round =>
    obtain ⟨k, K, hk, rfl, rfl, hown, hb⟩ := hrel
    by_cases hlt : k < n
    · have hcell := hown.cellAt k (by omega)
      rw [hi_cell v n k hlt] at hcell
      have hfr := hown.frozenAt k
      obtain ⟨hs1, hs2⟩ := hown.stored k (.int .u8 ((v : Int) / 2 ^ (8 * k) % 256))
      rw [hi_set v n k hlt] at hs1
      have hb1 : Below G w _ := hb.setCell (p := ⟨G, k, none⟩) (Nat.le_refl _) (.int .u8 ((v : Int) / 2 ^ (8 * k) % 256))
      have HS := Lib.hid (And.intro hs1 hb1)
      clear hs1 hs2 hb1 hown hb
      go_wp2
      go_roundw
      case rel => exact ⟨k + 1, _, by omega, rfl, by omega, HS.out.1, HS.out.2⟩
      case measure => simp [intOf]; omega
    · obtain rfl : k = n := by omega
      have e1 : bv (hi k v) ++ List.replicate (k - k) (Value.int .u8 0) = bv (hi k v) := by simp
      rw [e1] at hown
      have hconv := run_bytes_own wr 49 9 5 Try.underlying49 Try.underlying5 Try.underlying9 hown
      clear e1 hown
      go_wp2
      go_ret
      exact ⟨rfl, by rw [HG.out]; exact hb⟩
end Go.Proofs.Ytmojabdobjfdoaa
