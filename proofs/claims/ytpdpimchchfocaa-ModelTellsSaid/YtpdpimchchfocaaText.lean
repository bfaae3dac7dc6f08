/- Texts compared: the form in which a walk tests them. No program is imported. -/
import Derived.WalkKit
namespace Go.Proofs.Ytpdpimchchfocaa
theorem text_ext {a b : ByteArray} (h : a.toList = b.toList) : a = b := by
  rw [ByteArray.toList_eq, ByteArray.toList_eq] at h
  exact ByteArray.ext (Array.ext' h)
theorem teq_yes {a b : ByteArray} (h : a = b) : (a.toList == b.toList) = true := by rw [h]; exact beq_self_eq_true _
theorem teq_no {a b : ByteArray} (h : a ≠ b) : (a.toList == b.toList) = false := by
  rw [beq_eq_false_iff_ne]
  exact fun e => h (text_ext e)
theorem teq_is {a b : ByteArray} (h : (a.toList == b.toList) = true) : a = b := text_ext (by simpa using h)
theorem teq_not {a b : ByteArray} (h : (a.toList == b.toList) = false) : a ≠ b := fun e => by rw [e] at h; simp at h
end Go.Proofs.Ytpdpimchchfocaa
