/- The walk of the document's Laid: eight bytes of a whole number. -/
import Derived.Test.YtngjpgdgipmieaaTPut
namespace Go.Proofs.Ytngjpgdgipmieaa
open Go.RowKit M6 M7

theorem div_step (v k : Nat) : v / 256 ^ k / 256 = v / 256 ^ (k + 1) := by rw [Nat.div_div_eq_div_mul, Nat.pow_succ]
/-- the first bytes of a number -/
def lk (v k : Nat) : List UInt8 := (List.range k).map fun j => UInt8.ofNat (bt v j)
theorem lk_eight (v : Nat) : lk v 8 = l8 v := rfl
theorem lk_succ (v k : Nat) : lk v (k + 1) = lk v k ++ [UInt8.ofNat (bt v k)] := by simp [lk, List.range_succ]
theorem lk_len (v k : Nat) : (lk v k).length = k := by simp [lk]

set_option maxRecDepth 100000 in
theorem laid8_any (n : Int) (w : World) :
    Calls Try.prog 22 #[.int .i64 n] w fun e w' => e = .returned (.string ⟨(l8 (us n)).toArray⟩) ∧ Below w.heap.size w w' := by
  have hus := us_eq n
  have hlt := us_lt n
  generalize us n = v at *
  go_enter Try.func22, Try.ntmps22
  go_wp2_with fail
  go_loopw [3, 4, 5] (fun s u i wr => ∃ (k : Nat) (X K : Int), i = .int .i64 K ∧ K = k ∧ k ≤ 8 ∧ u = .int .u64 X ∧ X = ((v / 256 ^ k : Nat) : Int) ∧ s = .string ⟨(lk v k).toArray⟩ ∧ Below w.heap.size w wr) (fun _ _ i _ => 8 - (intOf i).toNat)
  case atStart => exact ⟨0, _, _, rfl, rfl, by omega, rfl, by rw [Nat.pow_zero, Nat.div_one], rfl, Below.refl _ _⟩
  case round =>
    obtain ⟨k, X, K, rfl, rfl, hk, rfl, rfl, rfl, hbl⟩ := hrel
    have HB := Lib.hid hbl
    have hsz := hbl.size
    clear hbl
    by_cases hlt8 : k < 8
    · have hu : v / 256 ^ k < 18446744073709551616 := Nat.lt_of_le_of_lt (Nat.div_le_self _ _) hlt
      have HS := Lib.hid (div_step v k)
      have HL := Lib.hid (lk_succ v k)
      have hbt : bt v k = v / 256 ^ k % 256 := rfl
      have HT := Lib.hid hbt
      have hl1 : (⟨(lk v k).toArray⟩ : ByteArray).size = k := by
        show (lk v k).toArray.size = k
        simp [lk_len]
      generalize v / 256 ^ k = u at *
      have hs := run_bytes_cells (P := Try.prog) (wr.alloc (Obj.cells #[.int .u8 ((u : Int) % 256)] 5)) 84 9 5 Try.underlying84 Try.underlying5 Try.underlying9 (g := wr.heap.size) (cap := 1) (l := [UInt8.ofNat (u % 256)]) (by
        have e : bv [UInt8.ofNat (u % 256)] = [.int .u8 ((u : Int) % 256)] := by
          simp [bv]
        rw [e]
        exact cells_new wr [.int .u8 ((u : Int) % 256)] 5)
      rw [show [UInt8.ofNat (u % 256)].length = 1 from rfl] at hs
      have hcat : (⟨(lk v k).toArray⟩ : ByteArray) ++ ⟨[UInt8.ofNat (u % 256)].toArray⟩ = ⟨(lk v (k + 1)).toArray⟩ := by
        rw [HL.out, HT.out]
        exact ByteArray.ext (by simp)
      have HC := Lib.hid hcat
      have hl2 : (⟨[UInt8.ofNat (u % 256)].toArray⟩ : ByteArray).size = 1 := rfl
      generalize (⟨(lk v k).toArray⟩ : ByteArray) = S at *
      generalize (⟨[UInt8.ofNat (u % 256)].toArray⟩ : ByteArray) = T at *
      clear hcat hbt
      go_wp2_with fail
      go_roundw
      case rel => exact ⟨k + 1, _, _, rfl, by omega, by omega, rfl, by rw [← HS.out]; rfl, by rw [← HC.out], HB.out.alloc hsz _⟩
      case measure => simp [intOf]; omega
    · obtain rfl : k = 8 := by omega
      go_wp2_with fail
      go_ret
      exact ⟨by rw [lk_eight]; rfl, HB.out⟩
end Go.Proofs.Ytngjpgdgipmieaa
