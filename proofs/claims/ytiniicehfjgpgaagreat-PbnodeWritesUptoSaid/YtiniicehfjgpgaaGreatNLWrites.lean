/- The law PbnodeWrites (agatelaw11) in its second form: for every input that can be read and is of the bulk that the statement names the call returns true, and its arguments read behind it as before. -/
import Derived.Test.YtiniicehfjgpgaaGreatNWrites
import Derived.Test.YtiniicehfjgpgaaGreatMEach
import Derived.Test.YtiniicehfjgpgaaGreatLift
import Derived.Deep.CondSized
import Derived.JoinedCond
/- The law PbnodeWrites (agatelaw11) in its second form: for every input that can be read and is of the bulk that the statement names the call returns true, and its arguments read behind it as before. -/
namespace Go.Proofs.YtiniicehfjgpgaaGreat.pbnodeWritesUpto
open Go.ChangeShapes Go.WideShapes Go.ChangeAt Go.RowKit
open Go.ChangeMaps (open_string shut_string)
set_option linter.unusedVariables false
theorem nodeStruct : ∃ fs, Tryz.prog.underlying 26 = some (.struct fs) := ⟨_, Tryz.underlying26⟩
theorem infoStruct : ∃ fs, Tryz.prog.underlying 38 = some (.struct fs) := ⟨_, Tryz.underlying38⟩
theorem cells_nod : Tryz.prog.cellsOf 26 = 4 := by kernel_rfl
theorem cells_inf : Tryz.prog.cellsOf 38 = 3 := by kernel_rfl
theorem own : ownKnob Tryz.prog.godebug = none := by kernel_rfl
theorem laidOut : laidOutB Tryz.prog = true := by kernel_rfl
theorem readable : ([26, 38].all fun t => Tryz.prog.readableRec t && decide (t < Tryz.prog.types.size)) = true := by kernel_rfl
set_option maxRecDepth 100000 in
theorem lifted (os : Os) (started : os.Started) (H : Type) (enc : TypeId × Value → H) (F : Stop.Interp) :
    ReturnsInHanded {} Tryz.checked os 4 .any ((Rows.OpenSpec.upto Rows.pbnodeWritesSpec).pre6 enc Tryz.prog Tryz.f4 Rows.pbnodeWritesUptoRow.domain false) (((Rows.OpenSpec.upto Rows.pbnodeWritesSpec).at F).post enc Tryz.prog Tryz.f4 false true false false) := by
  refine returnsInHanded_of_cond_sized (C := Tryz.checked) (s := Rows.OpenSpec.upto Rows.pbnodeWritesSpec) (k := Rows.uptoSmall) rfl own started (by kernel_rfl) Tryz.func4
    (OpenSpec.witness (enc := enc) (C := Tryz.checked) (s := Rows.OpenSpec.upto Rows.pbnodeWritesSpec) (k := Rows.uptoSmall) rfl false ⟨#[], #[.agg #[.string ByteArray.empty, .slice none 0 0, .string ByteArray.empty, .slice none 0 0], .agg #[.string ByteArray.empty, .int .i64 0, .slice none 0 0]], []⟩ 8 (by kernel_rfl) (by kernel_rfl) (by kernel_rfl)
      (x := ([.agg [.lit (.string []), .nil, .lit (.string []), .nil], .agg [.lit (.string []), .lit (.int .i64 0), .nil]], [], [])) (by kernel_rfl) rfl (by kernel_rfl)) ?_
  intro W base args ds gs before hval0 hW hcnd hcond hsz _
  have hval : ∀ (j : Nat) t v, Tryz.f4.params[j]? = some t → args[j]? = some v → Value.okWide Tryz.prog W .any base t v := hval0
  have hW' := hW
  obtain ⟨p, q, hA0, hV, rfl, hfz, hnd⟩ := hW
  have hA : DataW.TrodAll enc Tryz.prog W 0 (fun _ => true) true Tryz.f4.params.toList args.toList ds p := hA0
  rw [Tryz.params4] at hA hval
  obtain ⟨rfl, rfl⟩ := trodVars_none hV
  have hkeep := hA
  have hcalls : Calls Tryz.prog 4 args W fun e W' => e = .returned (.bool true) ∧ Below W.heap.size W W' := by
    clear hW' hA0 hval0 hfz hnd hV hkeep
    obtain ⟨v0, vs0, d0, ds0, p0, q0, hargs, rfl, rfl, h0, r0⟩ := trodAll_cons hA
    obtain ⟨v1, vs1, d1, ds1, p1, q1, rfl, rfl, rfl, h1, r1⟩ := trodAll_cons r0
    obtain ⟨rfl, rfl, rfl⟩ := trodAll_nil r1
    obtain rfl : args = #[v0, v1] := by cases args; simp_all
    obtain ⟨fs0, hfs0⟩ := nodeStruct
    obtain ⟨fs1, hfs1⟩ := infoStruct
    obtain ⟨cn, rfl, hn0⟩ := okWide_struct hfs0 (hval 0 26 v0 rfl rfl)
    obtain ⟨ci, rfl, hn1⟩ := okWide_struct hfs1 (hval 1 38 v1 rfl rfl)
    have hz0 : ∀ n ∈ d0.weights Tryz.prog 26, n ≤ reachBytes := fun n hn => by
      have := List.all_eq_true.1 hsz n (DataW.weights_mem_each (j := 0) (t := 26) (d := d0) rfl rfl n hn)
      simpa using this
    have hz1 : ∀ n ∈ d1.weights Tryz.prog 38, n ≤ reachBytes := fun n hn => by
      have := List.all_eq_true.1 hsz n (DataW.weights_mem_each (j := 1) (t := 38) (d := d1) rfl rfl n hn)
      simpa using this
    have hb : Rows.uptoBulkAll ([d0, d1] ++ []) ≤ 1048576 := of_decide_eq_true hcond
    simp only [List.append_nil, Rows.uptoBulkAll] at hb
    obtain ⟨fuel0, h0⟩ := h0
    obtain ⟨fuel1, h1⟩ := h1
    rw [cells_nod] at hn0
    rw [cells_inf] at hn1
    obtain ⟨n, hn, kn⟩ := deep_nodC h0 (by simpa [Value.cells] using hn0) hz0
    obtain ⟨i, hi, ki⟩ := deep_infC h1 (by simpa [Value.cells] using hn1) hz1
    have hT : cI i + cN n ≤ 1099511627776 := by
      have kn' : cN n ≤ Rows.uptoBulk d0 := kn
      have ki' : cI i ≤ Rows.uptoBulk d1 := ki
      omega
    have hw := writes11_walk n i cn.toList ci.toList W (by simpa [Value.cells] using hn) (by simpa [Value.cells] using hi) hT
    simpa using hw
  refine hcalls.mono fun e W' ⟨he, bel⟩ => ?_
  subst he
  have hargs := below_trodAll laidOut bel readable hkeep
  have hlen := trodAll_length hkeep
  match ds, hlen, hargs, hW' with
  | [e0, e1], _, hargs, hW' => exact ⟨_, rfl, _, _, _, [], _, [], hW', trodAll_mk1 (shut_bool Tryz.underlying4 _), hargs, rfl, bel.frame _, fun h => by cases h⟩

theorem over : Rows.pbnodeWritesUptoRow.holds Tryz.pinned (Rows.OpenSpec.upto Rows.pbnodeWritesSpec) :=
  OpenClaim.holds_of_cond 4 Tryz.f4 rfl rfl rfl rfl rfl rfl rfl ⟨rfl, rfl, rfl, rfl, rfl⟩ rfl rfl rfl rfl rfl (by kernel_rfl) Tryz.func4 (by kernel_rfl)
    (of_decide_eq_true (by kernel_rfl)) (by unfold Func.isWrapper; first | (rw [if_pos (by decide +kernel)]; kernel_rfl) | (rw [if_neg (by decide +kernel)]; exact ⟨rfl, rfl⟩))
    (fun os started H enc _ F => lifted os started H enc F)
theorem proved : Rows.PbnodeWritesUptoSaid := over
#print axioms proved
end Go.Proofs.YtiniicehfjgpgaaGreat.pbnodeWritesUpto
