/- The walk of the example of layer 8. -/
import Derived.Test.YtkhenedpdfmlbaaOKey
namespace Go.Proofs.Ytkhenedpdfmlbaa
open Go.RowKit M8
theorem key_is (s : ByteArray) (b : Bool) (h : keyB s = b) (w : World) : Calls Try.prog 11 #[.string s] w fun e W' => e = .returned (.bool b) ∧ Below w.heap.size w W' := by rw [← h]; exact key_any s w
set_option maxRecDepth 100000 in
theorem oawake_any (w : World) : Calls Try.prog 4 #[] w fun e w' => e = .returned (.bool true) ∧ Below w.heap.size w w' := by
  have H1 := Lib.hid (key_is ⟨#[119, 47, 97, 46, 98, 105, 110]⟩ true (by decide +kernel))
  have H2 := Lib.hid (key_is ⟨#[46, 46, 47, 97]⟩ false (by decide +kernel))
  have H3 := Lib.hid (key_is ⟨#[47, 97]⟩ false (by decide +kernel))
  have H4 := Lib.hid (key_is ⟨#[97, 47, 47, 98]⟩ false (by decide +kernel))
  go_enter Try.func4, Try.ntmps4
  go_wp2_with fail
  refine (H1.out _).mono ?_
  rintro e w1 ⟨rfl, hb1⟩
  have B1 := Lib.hid hb1
  clear hb1
  go_wp2_with fail
  refine (H2.out _).mono ?_
  rintro e w2 ⟨rfl, hb2⟩
  have B2 := Lib.hid (step_below B1.out hb2)
  clear hb2 B1
  go_wp2_with fail
  refine (H3.out _).mono ?_
  rintro e w3 ⟨rfl, hb3⟩
  have B3 := Lib.hid (step_below B2.out hb3)
  clear hb3 B2
  go_wp2_with fail
  refine (H4.out _).mono ?_
  rintro e w4 ⟨rfl, hb4⟩
  have B4 := Lib.hid (step_below B3.out hb4)
  clear hb4 B3
  go_wp2_with fail
  go_ret
  exact ⟨rfl, B4.out⟩
end Go.Proofs.Ytkhenedpdfmlbaa
