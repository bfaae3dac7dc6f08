/- The walks of Size and String of a kind, and of the document's own answers, Size and Word. -/
import Derived.Test.YtpdpimchchfocaaKMap
import Derived.Test.YtpdpimchchfocaaLift
import Derived.Test.YtpdpimchchfocaaRow
namespace Go.Proofs.Ytpdpimchchfocaa
open Go.RowKit Go.Maps

theorem kindField1 (s : ByteArray) (n : Int) (w : World) : (Instr.field 139 (.agg #[.string s, .int .i64 n]) 1).run Try.prog w = .ok (.int .i64 n) w := by kernel_rfl

set_option maxRecDepth 100000 in
theorem k_size_any (k : Int) (w : World) (hw : (Lit.int .i64 k).wf = true) :
    Calls Try.prog 61 #[.int .i64 k] w fun e w' => e = .returned (.int .i64 (kSize k)) ∧ Below w.heap.size w w' := by
  have HW := Lib.hid hw
  clear hw
  go_enter Try.func61, Try.ntmps61
  go_wp2_with fail
  refine (kinds_any _).mono ?_
  rintro e w1 ⟨b, rfl, hm, hbb, hb1⟩
  have hl := km_look hm k HW.out
  have HB := Lib.hid hb1
  clear hm hbb hb1
  have hf := kindField1
  go_wp2_with fail
  go_ret
  exact ⟨rfl, HB.out⟩

set_option maxRecDepth 100000 in
theorem string_any (k : Int) (w : World) (hw : (Lit.int .i64 k).wf = true) :
    Calls Try.prog 62 #[.int .i64 k] w fun e w' => e = .returned (.string (kWord k)) ∧ Below w.heap.size w w' := by
  have HW := Lib.hid hw
  clear hw
  cases hk : isKind k
  · have HK := Lib.hid (kWord_no hk)
    have HI := Lib.hid hk
    clear hk
    go_enter Try.func62, Try.ntmps62
    go_wp2_with fail
    refine (kinds_any _).mono ?_
    rintro e w1 ⟨b, rfl, hm, hbb, hb1⟩
    have hl := km_look_ok hm k HW.out
    rw [HI.out] at hl
    have HB := Lib.hid hb1
    have hz := hb1.size
    clear hm hbb hb1
    go_wp2_with fail
    go_ret
    refine ⟨?_, HB.out.alloc hz _⟩
    show Ending.returned (.string _) = _
    rw [HK.out]
  · have HK := Lib.hid (kWord_yes hk)
    have HI := Lib.hid hk
    clear hk
    go_enter Try.func62, Try.ntmps62
    go_wp2_with fail
    refine (kinds_any _).mono ?_
    rintro e w1 ⟨b, rfl, hm, hbb, hb1⟩
    have hl := km_look_ok hm k HW.out
    rw [HI.out] at hl
    have HB := Lib.hid hb1
    have hz := hb1.size
    clear hm hbb hb1
    go_wp2_with fail
    go_ret
    refine ⟨?_, HB.out.alloc hz _⟩
    show Ending.returned (.string _) = _
    rw [HK.out]

end Go.Proofs.Ytpdpimchchfocaa
/- The walk of the example of layer 4. -/
namespace Go.Proofs.Ytpdpimchchfocaa
open Go.RowKit Go.Maps
set_option maxRecDepth 100000 in
theorem kawake_any (w : World) : Calls Try.prog 47 #[] w fun e w' => e = .returned (.bool true) ∧ Below w.heap.size w w' := by
  have h8 : Hid (kSize 14 = 8) := Lib.hid (by decide)
  have hw7 : Hid (kWord 7 = ⟨#[105, 110, 116]⟩) := Lib.hid (by decide +kernel)
  go_enter Try.func47, Try.ntmps47
  go_wp2_with fail
  refine (k_size_any 14 _ (by decide)).mono ?_
  rintro e w1 ⟨rfl, hb1⟩
  rw [h8.out]
  have HB1 := Lib.hid hb1
  clear hb1
  go_wp2_with fail
  refine (string_any 7 _ (by decide)).mono ?_
  rintro e w2 ⟨rfl, hb2⟩
  rw [hw7.out]
  have HB2 := Lib.hid (HB1.out.trans (hb2.mono HB1.out.size))
  clear hb2
  go_wp2_with fail
  go_ret
  exact ⟨rfl, HB2.out⟩
end Go.Proofs.Ytpdpimchchfocaa
