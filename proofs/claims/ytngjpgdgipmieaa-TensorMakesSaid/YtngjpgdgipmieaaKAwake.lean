/- The walk of the example of layer 4. -/
import Derived.Test.YtngjpgdgipmieaaKSize
import Derived.Test.YtngjpgdgipmieaaRow
namespace Go.Proofs.Ytngjpgdgipmieaa
open Go.RowKit Go.Maps
set_option maxRecDepth 100000 in
theorem kawake_any (w : World) : Calls Try.prog 28 #[] w fun e w' => e = .returned (.bool true) ∧ Below w.heap.size w w' := by
  have h8 : Hid (kSize 14 = 8) := Lib.hid (by decide)
  have hw7 : Hid (kWord 7 = ⟨#[105, 110, 116]⟩) := Lib.hid (by decide +kernel)
  go_enter Try.func28, Try.ntmps28
  go_wp2_with fail
  refine (size_any 14 _ (by decide)).mono ?_
  rintro e w1 ⟨rfl, hb1⟩
  rw [h8.out]
  have HB1 := Lib.hid hb1
  clear hb1
  go_wp2_with fail
  refine (string_any 7 _ (by decide)).mono ?_
  rintro e w2 ⟨rfl, hb2⟩
  rw [hw7.out]
  have HB2 := Lib.hid (HB1.out.trans (hb2.mono HB1.out.size))
  clear hb2
  go_wp2_with fail
  go_ret
  exact ⟨rfl, HB2.out⟩
end Go.Proofs.Ytngjpgdgipmieaa
