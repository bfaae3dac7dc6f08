/- The walk of the example of layer 1. -/
import Derived.Test.YtmojabdobjfdoaaRead
import Derived.Test.YtmojabdobjfdoaaPuts
namespace Go.Proofs.Ytmojabdobjfdoaa
open Go.RowKit M1

theorem awake_any (w : World) : Calls Try.prog 30 #[] w fun e w' => e = .returned (.bool true) ∧ Below w.heap.size w w' := by
  have hs : ByteArray.size ⟨#[172, 2, 120]⟩ = 3 := rfl
  have h1 := read_any ⟨#[172, 2, 120]⟩ w (by rw [hs]; unfold maxLen; omega)
  have e1 : rd ⟨#[172, 2, 120]⟩ = (300, 2, 0) := by decide
  have h2 := put_any 300 w (by unfold Fits; omega)
  have e2 : ps 300 = ⟨#[172, 2]⟩ := by decide
  rw [e1] at h1
  rw [e2] at h2
  have H1 := Lib.hid h1; clear h1
  have H2 := Lib.hid h2; clear h2
  clear e1 e2 hs
  go_enter Try.func30, Try.ntmps30
  go_wp2_with fail
  refine H1.out.mono ?_
  rintro e w1 ⟨rfl, rfl⟩
  go_wp2_with fail
  refine H2.out.mono ?_
  rintro e w1 ⟨rfl, hb⟩
  have HB := Lib.hid hb; clear hb
  go_wp2_with fail
  go_ret
  exact ⟨rfl, HB.out⟩
end Go.Proofs.Ytmojabdobjfdoaa
