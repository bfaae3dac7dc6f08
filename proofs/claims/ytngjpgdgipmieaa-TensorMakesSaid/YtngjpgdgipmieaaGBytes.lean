/- Eight bytes, and the two numbers in them. No walk. -/
import Derived.Test.YtngjpgdgipmieaaGRef
namespace Go.Proofs.Ytngjpgdgipmieaa
open Go.RowKit M6

theorem four_of {s : ByteArray} (h : s.size = 4) : ∃ a b c d : UInt8, s = ⟨#[a, b, c, d]⟩ := by
  obtain ⟨⟨l⟩⟩ := s
  have h' : l.length = 4 := h
  match l, h' with
  | [a, b, c, d], _ => exact ⟨a, b, c, d, rfl⟩
theorem pr_lit (a b c d : UInt8) : pr ⟨#[a, b, c, d]⟩ 4 = a.toNat + b.toNat * 256 + c.toNat * 65536 + d.toNat * 16777216 := pr_four rfl
theorem bt_lit (a b c d : UInt8) : ls (pr ⟨#[a, b, c, d]⟩ 4) = [a, b, c, d] := by
  have h0 := UInt8.toNat_lt a
  have h1 := UInt8.toNat_lt b
  have h2 := UInt8.toNat_lt c
  have h3 := UInt8.toNat_lt d
  rw [pr_lit]
  unfold ls bt
  have e0 : (a.toNat + b.toNat * 256 + c.toNat * 65536 + d.toNat * 16777216) / 256 ^ 0 % 256 = a.toNat := by simp; omega
  have e1 : (a.toNat + b.toNat * 256 + c.toNat * 65536 + d.toNat * 16777216) / 256 ^ 1 % 256 = b.toNat := by simp; omega
  have e2 : (a.toNat + b.toNat * 256 + c.toNat * 65536 + d.toNat * 16777216) / 256 ^ 2 % 256 = c.toNat := by simp; omega
  have e3 : (a.toNat + b.toNat * 256 + c.toNat * 65536 + d.toNat * 16777216) / 256 ^ 3 % 256 = d.toNat := by simp; omega
  rw [e0, e1, e2, e3]
  simp
theorem bs_pr {s : ByteArray} (h : s.size = 4) : bs (pr s 4) = s := by
  obtain ⟨a, b, c, d, rfl⟩ := four_of h
  unfold bs
  rw [bt_lit]
theorem bs_size (v : Nat) : (bs v).size = 4 := rfl
theorem pr_bs {v : Nat} (h : v < 4294967296) : pr (bs v) 4 = v := by
  have h0 := bt_lt v 0
  have h1 := bt_lt v 1
  have h2 := bt_lt v 2
  have h3 := bt_lt v 3
  have e := pr_lit (UInt8.ofNat (bt v 0)) (UInt8.ofNat (bt v 1)) (UInt8.ofNat (bt v 2)) (UInt8.ofNat (bt v 3))
  have ht : ∀ k, (UInt8.ofNat (bt v k)).toNat = bt v k := fun k => by have := bt_lt v k; simp; omega
  rw [ht, ht, ht, ht] at e
  show pr ⟨#[UInt8.ofNat (bt v 0), UInt8.ofNat (bt v 1), UInt8.ofNat (bt v 2), UInt8.ofNat (bt v 3)]⟩ 4 = v
  rw [e]
  unfold bt
  simp only [show (256 : Nat) ^ 0 = 1 from rfl, show (256 : Nat) ^ 1 = 256 from rfl, show (256 : Nat) ^ 2 = 65536 from rfl, show (256 : Nat) ^ 3 = 16777216 from rfl]
  omega
theorem cat_first (a b : ByteArray) (ha : a.size = 4) : (a ++ b).extract 0 4 = a := by
  refine ByteArray.ext ?_
  rw [ByteArray.data_extract, ByteArray.data_append]
  have : a.data.size = 4 := ha
  simp [this]
theorem cat_second (a b : ByteArray) (ha : a.size = 4) (hb : b.size = 4) : (a ++ b).extract 4 8 = b := by
  refine ByteArray.ext ?_
  rw [ByteArray.data_extract, ByteArray.data_append]
  have h1 : a.data.size = 4 := ha
  have h2 : b.data.size = 4 := hb
  have e1 : a.data.extract 4 4 = #[] := by simp; omega
  have e2 : b.data.extract 0 4 = b.data := by rw [← h2]; simp
  simp [h1, e1, e2]
theorem halves {s : ByteArray} (h : s.size = 8) : s.extract 0 4 ++ s.extract 4 8 = s := by
  refine ByteArray.ext ?_
  rw [ByteArray.data_append, ByteArray.data_extract, ByteArray.data_extract]
  have h1 : s.data.size = 8 := h
  simp
  omega
theorem sz_inj {a b : Int} (ha : a.natAbs ≤ 1048576) (hb : b.natAbs ≤ 1048576) (h : sz a = sz b) : a = b := by
  have h1 := Num.V goodS (sz_num' ha) (by rw [two24]; omega)
  have h2 := Num.V goodS (sz_num' hb) (by rw [two24]; omega)
  rw [h, h2] at h1
  have hp : (2 : Int) ^ 149 ≠ 0 := by decide +kernel
  exact (Int.mul_eq_mul_right_iff hp).1 h1.symm
end Go.Proofs.Ytngjpgdgipmieaa
