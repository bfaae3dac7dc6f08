/- The walks of readPart: a float32 of four bytes. -/
import Derived.Test.YtngjpgdgipmieaaGWhole
import Derived.Laws.BitsAllLaws
namespace Go.Proofs.Ytngjpgdgipmieaa
open Go.RowKit M6

/-- the whole number of the first bytes, the lowest first -/
def pr (s : ByteArray) : Nat → Nat
  | 0 => 0
  | i + 1 => pr s i + (if h : i < s.size then s[i].toNat else 0) * 256 ^ i
theorem pr_lt (s : ByteArray) : ∀ i, pr s i < 256 ^ i
  | 0 => by simp [pr]
  | i + 1 => by
    have := pr_lt s i
    have hb : (if h : i < s.size then s[i].toNat else 0) ≤ 255 := by
      split
      · have := UInt8.toNat_lt (s[i]'(by assumption)); omega
      · omega
    have h2 := Nat.mul_le_mul_right (256 ^ i) hb
    rw [pr, Nat.pow_succ]
    omega
theorem pr_four {s : ByteArray} (hs : s.size = 4) : pr s 4 = s[0].toNat + s[1].toNat * 256 + s[2].toNat * 65536 + s[3].toNat * 16777216 := by
  have h0 : 0 < s.size := by omega
  have h1 : 1 < s.size := by omega
  have h2 : 2 < s.size := by omega
  have h3 : 3 < s.size := by omega
  simp [pr, h0, h1, h2, h3]

theorem pr_or {s : ByteArray} {k : Nat} (hk : k < 4) (h : k < s.size) :
    bits .or .u32 (pr s k : Int) ((s[k].toNat : Int) % 4294967296 * 2 ^ (8 * k) % 4294967296) = ((pr s (k + 1) : Nat) : Int) := by
  have h1 := pr_lt s k
  have h2 := pr_lt s (k + 1)
  have hb := UInt8.toNat_lt s[k]
  have hp : (256 : Nat) ^ (k + 1) ≤ 256 ^ 4 := Nat.pow_le_pow_right (by decide) (by omega)
  have h4 : (256 : Nat) ^ 4 = 4294967296 := by decide
  have e : pr s (k + 1) = pr s k + s[k].toNat * 256 ^ k := by rw [pr, dif_pos h]
  have e8 : (256 : Nat) ^ k = 2 ^ (8 * k) := by rw [show (256 : Nat) = 2 ^ 8 from rfl, ← Nat.pow_mul]
  have hm : s[k].toNat * 256 ^ k < 4294967296 := by omega
  have e3 : ((s[k].toNat : Int) % 4294967296 * 2 ^ (8 * k) % 4294967296) = ((s[k].toNat * 256 ^ k : Nat) : Int) := by
    have e5 : (2 : Int) ^ (8 * k) = ((256 ^ k : Nat) : Int) := by rw [e8, Int.natCast_pow]; rfl
    have e6 : (s[k].toNat : Int) % 4294967296 = (s[k].toNat : Int) := by omega
    rw [e5, e6, ← Int.natCast_mul]
    generalize s[k].toNat * 256 ^ k = z at *
    omega
  rw [e3, u32_or_nat _ _ (by omega) hm, e]
  congr 1
  rw [Nat.or_comm]
  have hv' : pr s k < 2 ^ (8 * k) := by rw [← e8]; exact h1
  have := Nat.shiftLeft_add_eq_or_of_lt hv' s[k].toNat
  rw [Nat.shiftLeft_eq, ← e8] at this
  omega
theorem nan_odd (a r : Nat) (ha : a < 2) (hr : r < 4503599627370495) : ¬ ((a * 2 ^ 63 + 0x7ff0000000000000 + 1 + r) % 9223372036854775808 < 9218868437227405312) := by
  rcases (by omega : a = 0 ∨ a = 1) with rfl | rfl <;> omega
open Ieee in
theorem conv_wide (v : Nat) (hv : v < 4294967296) (w : World) : ∃ r W, (convert 125 82 (.float .f32 v)).run Try.prog w = .ok (.float .f64 r) W ∧ Wide v r ∧ (W = w ∨ W = w.drew) := by
  have hs : (Try.prog.underlying 125).isSome = true := by kernel_rfl
  have hd : Try.prog.underlying 82 = some (.float .f64) := by kernel_rfl
  by_cases hf : v % single.signWeight < single.infRung
  · obtain ⟨h1, h2⟩ := widen hv hf
    refine ⟨_, _, run_convert_float_float w _ _ .f32 .f64 v (double.write (single.read v)) hs hd ?_, h2, .inl rfl⟩
    have hr := read_fin (f := single) hf
    have hr2 := read_fin h1
    unfold floatToFloatBits
    rw [if_neg (by decide)]
    rw [hr] at hr2 ⊢
    show (match (single.read v) with
      | .nan _ _ => none
      | .infinity s => some (double.write (.infinity s))
      | .number s m e => if (double.read (double.write (.number s m e))).isInfinity then none else some (double.write (.number s m e))) = _
    rw [hr]
    dsimp only
    rw [hr2]; rfl
  · have hf' : ¬ M6.Fin single v := hf
    rcases oddS hf' with e | ⟨t, e⟩
    · refine ⟨double.write (.infinity (sgn single v)), _, run_convert_float_float w _ _ .f32 .f64 v _ hs hd ?_, wide_odd ?_ hf' ?_, .inl rfl⟩
      · unfold floatToFloatBits
        rw [if_neg (by decide)]
        show (match (single.read v) with
          | .nan _ _ => none
          | .infinity s => some (double.write (.infinity s))
          | .number s m e => if (double.read (double.write (.number s m e))).isInfinity then none else some (double.write (.number s m e))) = _
        rw [e]
      · rw [← wd]; exact double.write_lt _
      · cases sgn single v <;> (unfold M6.Fin; decide)
    · have hdr : (convert 125 82 (.float .f32 v)).run Try.prog w = .ok (.float .f64 (Question.cut (.nanConv .f64 v) (w.tape w.drawn (.nanConv .f64 v)))) w.drew := by
        have hu : Try.prog.underlying 125 = some (.float .f32) := by kernel_rfl
        have hde : FloatKind.f32.decode v = .nan (sgn single v) t := e
        simp [convert, run_underlying hu, run_underlying hd, Conv.floatToFloat, hde, Question.forced]
      refine ⟨_, _, hdr, wide_odd ?_ hf' ?_, .inr rfl⟩
      · show _ % 2 * 2 ^ 63 + 0x7ff0000000000000 + 1 + (_ / 2) % (2 ^ 52 - 1) < _
        omega
      · unfold M6.Fin
        exact nan_odd _ _ (Nat.mod_lt _ (by decide)) (Nat.mod_lt _ (by decide))

set_option maxRecDepth 100000 in
theorem readPart_any (s : ByteArray) (w : World) (hs : s.size = 4) :
    Calls Try.prog 70 #[.string s] w fun e w' => ∃ r, e = .returned (.float .f64 r) ∧ Wide (pr s 4) r ∧ Below w.heap.size w w' := by
  have hx := x_f32from
  obtain ⟨r, W, hc, hwide, hW⟩ := conv_wide (pr s 4) (pr_lt s 4) w
  have HW : Hid (Below w.heap.size w W) := Lib.hid (by
    rcases hW with rfl | rfl
    · exact Below.refl _ _
    · exact (Below.refl _ _).drew)
  have HR := Lib.hid hwide
  clear hW hwide
  go_enter Try.func70, Try.ntmps70
  go_wp2_with fail
  go_loop [3, 5] (fun v i => ∃ (k : Nat) (X K : Int), v = .int .u32 X ∧ i = .int .i64 K ∧ X = pr s k ∧ K = k ∧ k ≤ 4) (fun _ i => 4 - (intOf i).toNat)
  case atStart => exact ⟨0, _, _, rfl, rfl, rfl, rfl, by omega⟩
  case round =>
    obtain ⟨k, X, K, rfl, rfl, rfl, rfl, hk⟩ := hrel
    by_cases hlt : k < 4
    · have hks : k < s.size := by omega
      go_wp2_with fail
      go_round
      case rel => exact ⟨k + 1, _, _, rfl, rfl, pr_or hlt hks, by omega, by omega⟩
      case measure => simp [intOf]; omega
    · obtain rfl : k = 4 := by omega
      go_wp2_with fail
      go_ret
      exact ⟨r, rfl, HR.out, HW.out⟩
end Go.Proofs.Ytngjpgdgipmieaa
