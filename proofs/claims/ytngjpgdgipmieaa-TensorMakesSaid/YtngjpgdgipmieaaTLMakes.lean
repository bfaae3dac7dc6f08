/- The law TensorMakes (agatelaw07): for every input that can be read the call returns true, and its arguments read behind it as before. -/
import Derived.Test.YtngjpgdgipmieaaTMakes
import Derived.Test.YtngjpgdgipmieaaTOpen
import Derived.Test.YtngjpgdgipmieaaTOpenTwo
import Derived.Test.YtngjpgdgipmieaaLift
import Derived.SizedLaws
namespace Go.Proofs.Ytngjpgdgipmieaa.tensorMakes
open Go.ChangeShapes Go.WideShapes Go.ChangeAt Go.RowKit
open Go.ChangeMaps (open_string shut_string)
set_option linter.unusedVariables false
theorem own : ownKnob Try.prog.godebug = none := by kernel_rfl
theorem laidOut : laidOutB Try.prog = true := by kernel_rfl
theorem readable : ([9, 23, 40, 57].all fun t => Try.prog.readableRec t && decide (t < Try.prog.types.size)) = true := by kernel_rfl
set_option maxRecDepth 100000 in
theorem lifted (os : Os) (started : os.Started) (H : Type) (enc : TypeId × Value → H) :
    ReturnsInHanded {} Try.checked os 4 .any (Rows.tensorMakesSpec.pre6 enc Try.prog Try.f4 Rows.tensorMakesRow.domain false) (Rows.tensorMakesSpec.post enc Try.prog Try.f4 false true false false) := by
  refine returnsInHanded_of_change_sized (C := Try.checked) own started (by kernel_rfl) Try.func4
    (ChangeSpec.witness6 (enc := enc) (C := Try.checked) false ⟨#[], #[.string ByteArray.empty, .slice none 0 0, .slice none 0 0, .slice none 0 0], []⟩ 8 (by kernel_rfl) (by kernel_rfl) (by kernel_rfl) (by kernel_rfl)) ?_
  intro W base args ds gs before hval0 hW hcnd hsz _
  have hval : ∀ (j : Nat) t v, Try.f4.params[j]? = some t → args[j]? = some v → Value.okWide Try.prog W .any base t v := hval0
  have hW' := hW
  obtain ⟨p, q, hA0, hV, rfl, hfz, hnd⟩ := hW
  have hA : DataW.TrodAll enc Try.prog W 0 (fun _ => true) true Try.f4.params.toList args.toList ds p := hA0
  rw [Try.params4] at hA hval
  obtain ⟨rfl, rfl⟩ := trodVars_none hV
  have hkeep := hA
  have hcalls : Calls Try.prog 4 args W fun e W' => e = .returned (.bool true) ∧ Below W.heap.size W W' := by
    clear hW' hA0 hval0 hfz hnd hV hkeep
    obtain ⟨v0, vs0, d0, ds0, p0, q0, hargs, rfl, rfl, h0, r0⟩ := trodAll_cons hA
    obtain ⟨v1, vs1, d1, ds1, p1, q1, rfl, rfl, rfl, h1, r1⟩ := trodAll_cons r0
    obtain ⟨v2, vs2, d2, ds2, p2, q2, rfl, rfl, rfl, h2, r2⟩ := trodAll_cons r1
    obtain ⟨v3, vs3, d3, ds3, p3, q3, rfl, rfl, rfl, h3, r3⟩ := trodAll_cons r2
    obtain ⟨rfl, rfl, rfl⟩ := trodAll_nil r3
    obtain rfl : args = #[v0, v1, v2, v3] := by cases args; simp_all
    obtain ⟨s0, rfl, rfl, rfl, w0⟩ := open_string Try.underlying9 (hval 0 9 v0 rfl rfl) h0
    have hv1 := okWide_slice Try.underlying23 (hval 1 23 v1 rfl rfl)
    have hv2 := okWide_slice Try.underlying40 (hval 2 40 v2 rfl rfl)
    have hv3 := okWide_slice Try.underlying57 (hval 3 57 v3 rfl rfl)
    obtain ⟨A1, c1, l1, rfl, hs1, hl1, hi1⟩ := open_ints64 Try.underlying23 h1 hv1
    obtain ⟨A2, c2, l2, rfl, hs2, hl2, -⟩ := open_bools7 Try.underlying40 h2 hv2
    obtain ⟨A3, c3, l3, rfl, hs3, hl3, hi3⟩ := open_pairs7 Try.underlying57 h3 hv3
    exact makes_walk s0 A1 c1 l1 A2 c2 l2 A3 c3 l3 W w0 hl1 hl2 hl3 hs1 hs2 hs3 hi1 hi3
  refine hcalls.mono fun e W' ⟨he, bel⟩ => ?_
  subst he
  have hargs := below_trodAll laidOut bel readable hkeep
  have hlen := trodAll_length hkeep
  match ds, hlen, hargs, hW' with
  | [e0, e1, e2, e3], _, hargs, hW' => exact ⟨_, rfl, _, _, _, [], _, [], hW', trodAll_mk1 (shut_bool Try.underlying4 _), hargs, rfl, bel.frame _, fun h => by cases h⟩

theorem over : Rows.tensorMakesRow.holds Try.pinned (OpenSpec.ofChange Rows.tensorMakesSpec) :=
  OpenClaim.holds_of_wide 4 Try.f4 rfl rfl rfl rfl rfl rfl rfl ⟨rfl, rfl, rfl, rfl, rfl⟩ rfl rfl rfl rfl rfl (by kernel_rfl) Try.func4 (by kernel_rfl)
    (of_decide_eq_true (by kernel_rfl)) (by unfold Func.isWrapper; first | (rw [if_pos (by decide +kernel)]; kernel_rfl) | (rw [if_neg (by decide +kernel)]; exact ⟨rfl, rfl⟩))
    (fun os started H enc _ => lifted os started H enc)
theorem proved : Rows.TensorMakesSaid := over
#print axioms proved
end Go.Proofs.Ytngjpgdgipmieaa.tensorMakes
