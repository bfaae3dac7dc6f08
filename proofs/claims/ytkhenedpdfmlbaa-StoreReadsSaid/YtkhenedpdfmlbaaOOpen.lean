/- An argument that is a slice of files, opened: it reads as a list, and each text is within the reach. -/
import Derived.Test.YtkhenedpdfmlbaaRows
import Derived.Test.YtkhenedpdfmlbaaOFMath
import Derived.Test.YtkhenedpdfmlbaaOpenRow
import Derived.Deep.SlicePairs
import Derived.ChangeSame
import Derived.SizedLaws
import Derived.OpenShut
namespace Go.Proofs.Ytkhenedpdfmlbaa
open Go.RowKit M8 Go.ChangeShapes Go.WideShapes Go.Deep

structure FlOk (f : Fl) : Prop where
  key : f.key.size ≤ 140737488351232
  data : f.data.size ≤ 140737488351232
theorem fileCells : Try.prog.cellsOf 24 = 2 := by kernel_rfl
theorem fileBytes : Try.prog.bytesOf 24 = 32 := by kernel_rfl
theorem strCells8 : Try.prog.cellsOf 9 = 1 := by kernel_rfl
theorem fileOff : (match Try.prog.underlying 24 with | some (.struct fs) => fs.toList.map (fun f => (f.offset, f.type)) | _ => []) = [(0, 9), (1, 9)] := by kernel_rfl
section
variable {H : Type} {enc : TypeId × Value → H} {w : World} {base : Nat} {spare : Nat → Bool} {held : Bool}
theorem weights_in {P : Program} {e : TypeId} {d : DataW H} : ∀ {ds : List (DataW H)}, d ∈ ds → ∀ n ∈ d.weights P e, n ∈ DataW.weightsAll P e ds
  | d0 :: ds, hd, n, hn => by
    simp only [DataW.weightsAll, List.mem_append]
    rcases List.mem_cons.1 hd with rfl | hd
    · exact .inl hn
    · exact .inr (weights_in hd n hn)
theorem weights_file (s t : List UInt8) : s.length ∈ (DataW.agg [.lit (.string s), .lit (.string t)] : DataW H).weights Try.prog 24 ∧ t.length ∈ (DataW.agg [.lit (.string s), .lit (.string t)] : DataW H).weights Try.prog 24 := by
  have ho := fileOff
  cases hu : Try.prog.underlying 24 with
  | none => rw [hu] at ho; simp at ho
  | some d =>
    rw [hu] at ho
    cases d with
    | struct fs =>
      simp only at ho
      obtain ⟨fl⟩ := fs
      match fl, ho with
      | [f0, f1], ho => constructor <;> simp [DataW.weights, hu, DataW.weightsEach]
    | _ => simp at ho
set_option maxRecDepth 100000 in
theorem open_files {t : TypeId} {v : Value} {d : DataW H} {p : List MemPlace} (ht : Try.prog.underlying t = some (.slice 24)) (h : DataW.Trod enc Try.prog w base spare held t v d p) (hv : ∃ a l c, v = .slice a l c)
    (hz : ∀ n ∈ d.weights Try.prog t, n ≤ reachBytes) :
    ∃ (A : Option Addr) (c : Nat) (l : List Fl), v = .slice A l.length c ∧ SR w w.heap.size 2 A l.length (fcl l) ∧ l.length ≤ 4398046510976 ∧ ∀ f ∈ l, FlOk f := by
  have e : reachBytes = 140737488351232 := by decide
  rw [e] at hz
  obtain ⟨A0, l0, c0, rfl⟩ := hv
  obtain ⟨fuel, h⟩ := h
  have ho := fileOff
  cases hu : Try.prog.underlying 24 with
  | none => rw [hu] at ho; simp at ho
  | some ds =>
    rw [hu] at ho
    cases ds with
    | struct fs =>
      simp only at ho
      obtain ⟨fl⟩ := fs
      match fl, ho with
      | [f0, f1], ho =>
        simp only [List.map_cons, List.map_nil, List.cons.injEq, Prod.mk.injEq, and_true] at ho
        obtain ⟨⟨o0, t0⟩, o1, t1⟩ := ho
        rcases open_slice_pairs ht hu fileCells o0 o1 (by rw [t0]; exact strCells8) (by rw [t1]; exact strCells8) h with ⟨hc, hx⟩ | ⟨a, len, cap, m, n, V0, V1, D0, D1, P0, P1, hcs, hb, hl, hm, hmm, hx, hi⟩
        · simp only [Value.cells, List.cons.injEq, and_true, Value.slice.injEq] at hc
          obtain ⟨rfl, rfl, rfl⟩ := hc
          exact ⟨none, 0, [], rfl, SR.empty _ _ _ _, by simp, by simp⟩
        · simp only [Value.cells, List.cons.injEq, and_true, Value.slice.injEq] at hcs
          obtain ⟨rfl, rfl, rfl⟩ := hcs
          have hlm : l0 ≤ m := by rw [hmm]; split <;> omega
          have hd : d = .slice ((List.range l0).map fun i => .agg [D0 i, D1 i]) ((List.range (m - l0)).map fun j => .agg [D0 (l0 + j), D1 (l0 + j)]) := congrArg Prod.fst hx
          subst hd
          have hone : ∀ i, i < l0 → ∃ q : Fl, (w.cell? (a.add (i * 2)) = some (.string q.key) ∧ w.cell? (a.add (i * 2 + 1)) = some (.string q.data)) ∧ FlOk q := by
            intro i hil
            obtain ⟨h1, h2, h3, h4⟩ := hi i (by omega)
            rw [t0] at h3
            rw [t1] at h4
            obtain ⟨a0, e0, r0, w0⟩ := DataW.trod_string Try.underlying9 h3
            obtain ⟨a1, e1, r1, w1⟩ := DataW.trod_string Try.underlying9 h4
            simp only [List.cons.injEq, and_true] at e0 e1
            rw [e0] at h1
            rw [e1] at h2
            have r0' : D0 i = .lit (.string a0.data.toList) := congrArg Prod.fst r0
            have r1' : D1 i = .lit (.string a1.data.toList) := congrArg Prod.fst r1
            have hin : (DataW.agg [.lit (.string a0.data.toList), .lit (.string a1.data.toList)] : DataW H) ∈ (List.range l0).map fun i => DataW.agg [D0 i, D1 i] := List.mem_map.2 ⟨i, List.mem_range.2 hil, by rw [r0', r1']⟩
            obtain ⟨q0, q1⟩ := weights_file (H := H) a0.data.toList a1.data.toList
            have g0 := hz _ (by simp only [DataW.weights, ht]; exact List.mem_cons_of_mem _ (List.mem_append_left _ (weights_in (P := Try.prog) (e := 24) hin _ q0)))
            have g1 := hz _ (by simp only [DataW.weights, ht]; exact List.mem_cons_of_mem _ (List.mem_append_left _ (weights_in (P := Try.prog) (e := 24) hin _ q1)))
            exact ⟨⟨a0, a1⟩, ⟨h1, h2⟩, ⟨by simpa using g0, by simpa using g1⟩⟩
          obtain ⟨F, hF⟩ := choose_lt hone
          have hlen : ((List.range l0).map F).length = l0 := by simp
          refine ⟨some a, c0, (List.range l0).map F, by rw [hlen], ⟨by rw [fcl_len], fun hpos => ?_⟩, ?_, ?_⟩
          · rw [hlen] at hpos
            have h0 := (hF 0 hpos).1.1
            have h00 : w.cell? a = some (.string (F 0).key) := by simpa [Addr.add] using h0
            obtain ⟨ha, hab⟩ := plain_cell h00
            refine ⟨a.block, a.off, by rw [← ha], hab, fun j u hj => ?_⟩
            have hjl : j < l0 * 2 := by
              have := (List.getElem?_eq_some_iff.1 hj).1
              rw [fcl_len, hlen] at this
              exact this
            have hk : j / 2 < l0 := by omega
            obtain ⟨q0, q1⟩ := fcl_at ((List.range l0).map F) (j / 2) (by rw [hlen]; exact hk)
            simp only [List.getElem_map, List.getElem_range] at q0 q1
            obtain ⟨z0, z1⟩ := (hF (j / 2) hk).1
            rw [← Addr.add_mid, ← ha]
            rcases (by omega : j = j / 2 * 2 ∨ j = j / 2 * 2 + 1) with e | e
            · rw [e] at hj ⊢
              rw [q0] at hj
              rw [z0, hj]
            · rw [e] at hj ⊢
              rw [q1] at hj
              rw [z1, hj]
          · have hw3 := hz ((((List.range l0).map fun i => (DataW.agg [D0 i, D1 i] : DataW H)).length + ((List.range (m - l0)).map fun j => (DataW.agg [D0 (l0 + j), D1 (l0 + j)] : DataW H)).length) * Try.prog.bytesOf 24) (by simp only [DataW.weights, ht]; exact List.mem_cons_self)
            rw [fileBytes] at hw3
            simp at hw3 ⊢
            omega
          · intro p hp
            obtain ⟨i, hi2, rfl⟩ := List.mem_map.1 hp
            exact (hF i (List.mem_range.1 hi2)).2
    | _ => simp at ho
end
end Go.Proofs.Ytkhenedpdfmlbaa
