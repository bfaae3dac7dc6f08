/- The walks of Size and String of a kind, and of the document's own answers, Size and Word. -/
import Derived.Test.YtngjpgdgipmieaaKMap
import Derived.Test.YtngjpgdgipmieaaLift
namespace Go.Proofs.Ytngjpgdgipmieaa
open Go.RowKit Go.Maps

theorem kindField1 (s : ByteArray) (n : Int) (w : World) : (Instr.field 99 (.agg #[.string s, .int .i64 n]) 1).run Try.prog w = .ok (.int .i64 n) w := by kernel_rfl

set_option maxRecDepth 100000 in
theorem size_any (k : Int) (w : World) (hw : (Lit.int .i64 k).wf = true) :
    Calls Try.prog 32 #[.int .i64 k] w fun e w' => e = .returned (.int .i64 (kSize k)) ∧ Below w.heap.size w w' := by
  have HW := Lib.hid hw
  clear hw
  go_enter Try.func32, Try.ntmps32
  go_wp2_with fail
  refine (kinds_any _).mono ?_
  rintro e w1 ⟨b, rfl, hm, hbb, hb1⟩
  have hl := km_look hm k HW.out
  have HB := Lib.hid hb1
  clear hm hbb hb1
  have hf := kindField1
  go_wp2_with fail
  go_ret
  exact ⟨rfl, HB.out⟩

set_option maxRecDepth 100000 in
theorem string_any (k : Int) (w : World) (hw : (Lit.int .i64 k).wf = true) :
    Calls Try.prog 54 #[.int .i64 k] w fun e w' => e = .returned (.string (kWord k)) ∧ Below w.heap.size w w' := by
  have HW := Lib.hid hw
  clear hw
  cases hk : isKind k
  · have HK := Lib.hid (kWord_no hk)
    have HI := Lib.hid hk
    clear hk
    go_enter Try.func54, Try.ntmps54
    go_wp2_with fail
    refine (kinds_any _).mono ?_
    rintro e w1 ⟨b, rfl, hm, hbb, hb1⟩
    have hl := km_look_ok hm k HW.out
    rw [HI.out] at hl
    have HB := Lib.hid hb1
    have hz := hb1.size
    clear hm hbb hb1
    go_wp2_with fail
    go_ret
    refine ⟨?_, HB.out.alloc hz _⟩
    show Ending.returned (.string _) = _
    rw [HK.out]
  · have HK := Lib.hid (kWord_yes hk)
    have HI := Lib.hid hk
    clear hk
    go_enter Try.func54, Try.ntmps54
    go_wp2_with fail
    refine (kinds_any _).mono ?_
    rintro e w1 ⟨b, rfl, hm, hbb, hb1⟩
    have hl := km_look_ok hm k HW.out
    rw [HI.out] at hl
    have HB := Lib.hid hb1
    have hz := hb1.size
    clear hm hbb hb1
    go_wp2_with fail
    go_ret
    refine ⟨?_, HB.out.alloc hz _⟩
    show Ending.returned (.string _) = _
    rw [HK.out]

set_option maxRecDepth 100000 in
theorem refSize_any (k : Int) (w : World) : Calls Try.prog 13 #[.int .i64 k] w fun e w' => e = .returned (.int .i64 (kSize k)) ∧ w = w' := by
  go_enter Try.func13, Try.ntmps13
  go_wp2_with fail
  all_goals
    go_ret
    refine ⟨?_, rfl⟩
    congr 2
    simp only [beq_iff_eq, beq_eq_false_iff_ne, ne_eq] at *
    first | (subst_vars; decide) | simp_all [kSize]
end Go.Proofs.Ytngjpgdgipmieaa
