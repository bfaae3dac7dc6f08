/- Arguments opened: a tensor; a slice of pairs of whole numbers; a slice of flags. -/
import Derived.Test.YtngjpgdgipmieaaTCheck
import Derived.Deep.Slices
import Derived.ChangeSame
import Derived.SizedLaws
import Derived.OpenShut
namespace Go.Proofs.Ytngjpgdgipmieaa
open Go.RowKit M6 M7 Go.ChangeShapes Go.WideShapes Go.Deep

theorem tensorCells : Try.prog.cellsOf 25 = 4 := by kernel_rfl
theorem tensorOff : (match Try.prog.underlying 25 with | some (.struct fs) => fs.toList.map (fun f => (f.offset, f.type)) | _ => []) = [(0, 9), (1, 22), (2, 23), (3, 9)] := by kernel_rfl
theorem cellsStr7 : Try.prog.cellsOf 9 = 1 := by kernel_rfl
theorem cellsKind7 : Try.prog.cellsOf 22 = 1 := by kernel_rfl
theorem cellsInts7 : Try.prog.cellsOf 23 = 1 := by kernel_rfl
theorem tensorStruct : ∃ fs, Try.prog.underlying 25 = some (.struct fs) := ⟨_, Try.underlying25⟩
theorem reach7 : reachBytes = 140737488351232 := by decide
section
variable {H : Type} {enc : TypeId × Value → H} {w : World} {base : Nat} {spare : Nat → Bool} {held : Bool}
set_option maxRecDepth 100000 in
theorem weights_tensor (s r : List UInt8) (k : Int) (d : DataW H) : s.length ∈ (DataW.agg [.lit (.string s), .lit (.int .i64 k), d, .lit (.string r)] : DataW H).weights Try.prog 25 ∧ r.length ∈ (DataW.agg [.lit (.string s), .lit (.int .i64 k), d, .lit (.string r)] : DataW H).weights Try.prog 25 := by
  have ho := tensorOff
  cases hu : Try.prog.underlying 25 with
  | none => rw [hu] at ho; simp at ho
  | some ds =>
    rw [hu] at ho
    cases ds with
    | struct fs =>
      simp only at ho
      obtain ⟨fl⟩ := fs
      match fl, ho with
      | [f0, f1, f2, f3], ho => simp [DataW.weights, hu, DataW.weightsEach]
    | _ => simp at ho
set_option maxRecDepth 100000 in
/-- a tensor -/
theorem open_tensor {v : Value} {d : DataW H} {p : List MemPlace} (h : DataW.Trod enc Try.prog w base spare held 25 v d p) (hv : ∃ cs, v = .agg cs ∧ cs.size = Try.prog.cellsOf 25)
    (hz : ∀ n ∈ d.weights Try.prog 25, n ≤ reachBytes) : ∃ (t : Ten) (A : Option Addr) (c : Nat), v = tv t.name t.kind (.slice A t.dims.length c) t.data ∧ Tok w t A := by
  obtain ⟨cs, rfl, hcs⟩ := hv
  obtain ⟨fuel, h⟩ := h
  have ho := tensorOff
  rw [tensorCells] at hcs
  cases hu : Try.prog.underlying 25 with
  | none => rw [hu] at ho; simp at ho
  | some ds =>
    rw [hu] at ho
    cases ds with
    | struct fs =>
      simp only at ho
      obtain ⟨xs, m, rfl, hx, hlen, hxl, hf⟩ := DataW.trod_struct hu h
      obtain ⟨fl⟩ := fs
      match fl, ho with
      | [f0, f1, f2, f3], ho =>
        simp only [List.map_cons, List.map_nil, List.cons.injEq, Prod.mk.injEq, and_true] at ho
        obtain ⟨⟨o0, t0⟩, ⟨o1, t1⟩, ⟨o2, t2⟩, ⟨o3, t3⟩⟩ := ho
        obtain ⟨cl⟩ := cs
        have hcl : cl.length = 4 := hcs
        match cl, hcl, xs, hxl with
        | [c0, c1, c2, c3], _, [x0, x1, x2, x3], _ =>
          have h0 := hf 0 f0 rfl
          have h1 := hf 1 f1 rfl
          have h2 := hf 2 f2 rfl
          have h3 := hf 3 f3 rfl
          rw [o0, t0, cellsStr7] at h0
          rw [o1, t1, cellsKind7] at h1
          rw [o2, t2, cellsInts7] at h2
          rw [o3, t3, cellsStr7] at h3
          simp only [Value.cells, List.drop_zero, List.drop_succ_cons, List.take_succ_cons, List.take_zero, List.getElem?_cons_zero, List.getElem?_cons_succ] at h0 h1 h2 h3
          obtain ⟨a0, e0, r0, w0⟩ := DataW.trod_string Try.underlying9 h0
          obtain ⟨a1, e1, r1, w1⟩ := DataW.trod_int Try.underlying22 h1
          obtain ⟨a3, e3, r3, w3⟩ := DataW.trod_string Try.underlying9 h3
          simp only [List.cons.injEq, and_true] at e0 e1 e3
          have hs : ∃ a l c, c2 = .slice a l c := by
            rcases open_slice Try.underlying23 h2 with ⟨hc, _⟩ | ⟨a, len, cap, m, n, D, Pl, hc, _⟩
            · simp only [List.cons.injEq, and_true] at hc; exact ⟨_, _, _, hc⟩
            · simp only [List.cons.injEq, and_true] at hc; exact ⟨_, _, _, hc⟩
          obtain ⟨sa, sl, sc, rfl⟩ := hs
          obtain ⟨x2d, x2p⟩ := x2
          obtain ⟨A, c, l, e2, hsr, hll, hin⟩ := open_ints64 Try.underlying23 ⟨m, h2⟩ ⟨sa, sl, sc, rfl⟩
          rw [e2]
          subst e0 e1 e3
          have hd : d = .agg [.lit (.string a0.data.toList), .lit (.int .i64 a1), x2d, .lit (.string a3.data.toList)] := by
            have := congrArg Prod.fst hx
            rw [r0, r1, r3] at this
            simpa using this
          subst hd
          have hw := weights_tensor (H := H) a0.data.toList a3.data.toList a1 x2d
          have z0 := hz _ hw.1
          have z3 := hz _ hw.2
          rw [reach7] at z0 z3
          exact ⟨⟨a0, a1, l, a3⟩, A, c, rfl, ⟨by simpa using z0, by simpa using z3, w1, hsr, hll, hin⟩⟩
    | _ => simp at ho
end
end Go.Proofs.Ytngjpgdgipmieaa
