/- The walks that read an element's bytes: whole numbers, flags, complex numbers; the document's Int. -/
import Derived.Test.YtngjpgdgipmieaaTMath
import Derived.Test.YtngjpgdgipmieaaText
import Derived.Laws.BitsAllLaws
namespace Go.Proofs.Ytngjpgdgipmieaa
open Go.RowKit M6 M7

theorem sg_wrap (v : Nat) : wrap64 (v : Int) = sg v := rfl

set_option maxRecDepth 100000 in
theorem readInt_any (s : ByteArray) (w : World) (hs : s.size = 8) :
    Calls Try.prog 38 #[.string s] w fun e w' => e = .returned (.int .i64 (in8 s)) ∧ w = w' := by
  have hlt8 := pr8_lt s
  go_enter Try.func38, Try.ntmps38
  go_wp2_with fail
  go_loop [3, 4, 7] (fun v _ i => ∃ (k : Nat) (X K : Int), v = .int .u64 X ∧ i = .int .i64 K ∧ X = pr s k ∧ K = k ∧ k ≤ 8) (fun _ _ i => 8 - (intOf i).toNat)
  case atStart => exact ⟨0, _, _, rfl, rfl, rfl, rfl, by omega⟩
  case round =>
    obtain ⟨k, X, K, rfl, rfl, rfl, rfl, hk⟩ := hrel
    by_cases hlt : k < 8
    · have hks : k < s.size := by omega
      go_wp2_with fail
      go_round
      case rel => exact ⟨k + 1, _, _, rfl, rfl, pr_or8 hlt hks, by omega, by omega⟩
      case measure => simp [intOf]; omega
    · obtain rfl : k = 8 := by omega
      go_wp2_with fail
      go_ret
      exact ⟨rfl, rfl⟩

set_option maxRecDepth 100000 in
theorem rint_any (s : ByteArray) (w : World) (hs : s.size = 8) :
    Calls Try.prog 43 #[.string s] w fun e w' => e = .returned (.int .i64 (in8 s)) ∧ w = w' := by
  have HZ : Hid (hp s 0 = pr s 8) := Lib.hid (hp_zero s)
  have H8 := Lib.hid (hp_eight s)
  go_enter Try.func43, Try.ntmps43
  go_wp2_with fail
  go_loop [3, 4] (fun v i => ∃ (k : Nat) (X K : Int), v = .int .u64 X ∧ i = .int .i64 K ∧ X = hp s k ∧ K = (k : Int) - 1 ∧ k ≤ 8) (fun _ i => (intOf i + 1).toNat)
  case atStart => exact ⟨8, _, _, rfl, rfl, by rw [H8.out]; rfl, rfl, by omega⟩
  case round =>
    obtain ⟨k, X, K, rfl, rfl, rfl, rfl, hk⟩ := hrel
    by_cases hlt : 0 < k
    · obtain ⟨j, rfl⟩ : ∃ j, k = j + 1 := ⟨k - 1, by omega⟩
      have hks : j < s.size := by omega
      have hst := hp_step (s := s) (k := j) (by omega) hks
      have hl := hp_lt s j
      have hl2 := hp_lt s (j + 1)
      have e1 : ((j + 1 : Nat) : Int) - 1 = (j : Int) := by omega
      rw [e1]
      have HS := Lib.hid hst
      generalize hp s (j + 1) = u at *
      generalize hv : hp s j = v at *
      have HV := Lib.hid hv
      clear hv
      have hb := UInt8.toNat_lt s[j]
      go_wp2_with fail
      go_round
      case rel => exact ⟨j, _, _, rfl, rfl, by rw [HV.out]; have := HS.out; omega, by omega, by omega⟩
      case measure => simp [intOf]
    · obtain rfl : k = 0 := by omega
      rw [HZ.out]
      have hlt8 := pr8_lt s
      go_wp2_with fail
      go_ret
      exact ⟨rfl, rfl⟩

set_option maxRecDepth 100000 in
theorem readFlag_any (s : ByteArray) (w : World) :
    Calls Try.prog 40 #[.string s] w fun e w' => e = .returned (.bool (s.toList == [1])) ∧ w = w' := by
  go_enter Try.func40, Try.ntmps40
  go_wp2_with fail
  go_ret
  exact ⟨rfl, rfl⟩

set_option maxRecDepth 100000 in
theorem readNum_any (s : ByteArray) (w : World) (hs : s.size = 8) :
    Calls Try.prog 42 #[.string s] w fun e w' => ∃ n m c : Int, e = .returned (.complex .f64 (fz n) (fz m)) ∧ RdSpec s n m c ∧ Below w.heap.size w w' := by
  go_enter Try.func42, Try.ntmps42
  go_wp2_with fail
  refine (gread_any s _ (by unfold maxLen; omega)).mono ?_
  rintro e w1 ⟨n, m, c, rfl, hrd, hb1⟩
  have HR := Lib.hid hrd
  have HB := Lib.hid hb1
  clear hrd hb1
  generalize hx : fz n = x at *
  generalize hy : fz m = y at *
  have HX := Lib.hid (And.intro hx hy)
  clear hx hy
  go_wp2_with fail
  go_ret
  exact ⟨n, m, c, by rw [HX.out.1, HX.out.2]; rfl, HR.out, HB.out⟩
end Go.Proofs.Ytngjpgdgipmieaa
