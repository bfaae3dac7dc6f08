/- An argument that is a slice of fields, opened: it reads as a list, and each part is within its bounds. -/
import Derived.Test.YtmojabdobjfdoaaWAt
import Derived.Deep.Slices
import Derived.ChangeSame
import Derived.SizedLaws
import Derived.OpenShut
namespace Go.Proofs.Ytmojabdobjfdoaa
open Go.RowKit M1 M2 Go.ChangeShapes Go.WideShapes Go.Deep


instance : Inhabited WFd := ⟨fd0⟩
structure FOk (f : WFd) : Prop where
  num1 : -9223372036854775808 ≤ f.num
  num2 : f.num ≤ 9223372036854775807
  typ1 : -9223372036854775808 ≤ f.typ
  typ2 : f.typ ≤ 9223372036854775807
  n : Fits64 f.n
  data : f.data.size ≤ 140737488351232

theorem wireCells : Try.prog.cellsOf 27 = 4 := by kernel_rfl
theorem wireOff : (match Try.prog.underlying 27 with | some (.struct fs) => fs.toList.map (fun f => (f.offset, f.type)) | _ => []) = [(0, 3), (1, 3), (2, 25), (3, 9)] := by kernel_rfl
theorem cellsInt : Try.prog.cellsOf 3 = 1 := by kernel_rfl
theorem cellsU64 : Try.prog.cellsOf 25 = 1 := by kernel_rfl
theorem cellsStr : Try.prog.cellsOf 9 = 1 := by kernel_rfl
section
variable {H : Type} {enc : TypeId × Value → H} {w : World} {base : Nat} {spare : Nat → Bool} {held : Bool}
theorem take_one {l : List Value} {i : Nat} (h : i < l.length) : (l.drop i).take 1 = [l[i]] := by
  rw [List.drop_eq_getElem_cons h]; rfl
/-- one field -/
theorem open_field {n : Nat} {cs : List Value} {x : DataW H × List MemPlace} (h : DataW.trod enc Try.prog w base spare held n 27 cs = some x) :
    ∃ f : WFd, cs = fc f ∧ x.1 = .agg [.lit (.int .i64 f.num), .lit (.int .i64 f.typ), .lit (.int .u64 (f.n : Int)), .lit (.string f.data.data.toList)] ∧
      -9223372036854775808 ≤ f.num ∧ f.num ≤ 9223372036854775807 ∧ -9223372036854775808 ≤ f.typ ∧ f.typ ≤ 9223372036854775807 ∧ Fits64 f.n ∧ f.data.size ≤ maxLen := by
  have ho := wireOff
  cases hu : Try.prog.underlying 27 with
  | none => rw [hu] at ho; simp at ho
  | some d =>
    rw [hu] at ho
    cases d with
    | struct fs =>
      simp only at ho
      obtain ⟨xs, m, rfl, hx, hlen, hxl, hf⟩ := DataW.trod_struct hu h
      rw [wireCells] at hlen
      obtain ⟨fl⟩ := fs
      match fl, ho with
      | [f0, f1, f2, f3], ho =>
        simp only [List.map_cons, List.map_nil, List.cons.injEq, Prod.mk.injEq, and_true] at ho
        obtain ⟨⟨o0, t0⟩, ⟨o1, t1⟩, ⟨o2, t2⟩, ⟨o3, t3⟩⟩ := ho
        match cs, hlen, xs, hxl with
        | [c0, c1, c2, c3], _, [x0, x1, x2, x3], _ =>
          have h0 := hf 0 f0 rfl
          have h1 := hf 1 f1 rfl
          have h2 := hf 2 f2 rfl
          have h3 := hf 3 f3 rfl
          rw [o0, t0, cellsInt] at h0
          rw [o1, t1, cellsInt] at h1
          rw [o2, t2, cellsU64] at h2
          rw [o3, t3, cellsStr] at h3
          simp only [List.drop_zero, List.drop_succ_cons, List.take_succ_cons, List.take_zero, List.getElem?_cons_zero, List.getElem?_cons_succ] at h0 h1 h2 h3
          obtain ⟨a0, e0, r0, w0⟩ := DataW.trod_int Try.underlying3 h0
          obtain ⟨a1, e1, r1, w1⟩ := DataW.trod_int Try.underlying3 h1
          obtain ⟨a2, e2, r2, w2⟩ := DataW.trod_int Try.underlying25 h2
          obtain ⟨a3, e3, r3, w3⟩ := DataW.trod_string Try.underlying9 h3
          simp only [List.cons.injEq, and_true] at e0 e1 e2 e3
          subst e0 e1 e2 e3 r0 r1 r2 r3
          have b0 := bounds_i64 w0
          have b1 := bounds_i64 w1
          have b2 := bounds_u64 w2
          obtain ⟨k, rfl⟩ := Int.eq_ofNat_of_zero_le b2.1
          refine ⟨⟨a0, a1, k, a3⟩, rfl, by rw [hx]; rfl, b0.1, b0.2, b1.1, b1.2, by unfold Fits64; have := b2.2; simp only at *; omega, w3⟩
    | _ => simp at ho
theorem wireBytes : Try.prog.bytesOf 27 = 40 := by kernel_rfl
theorem weights_all {P : Program} {e : TypeId} {d : DataW H} : ∀ {ds : List (DataW H)}, d ∈ ds → ∀ n ∈ d.weights P e, n ∈ DataW.weightsAll P e ds
  | d0 :: ds, hd, n, hn => by
    simp only [DataW.weightsAll, List.mem_append]
    rcases List.mem_cons.1 hd with rfl | hd
    · exact .inl hn
    · exact .inr (weights_all hd n hn)
theorem weights_field (a b : Int) (n : Nat) (s : List UInt8) : s.length ∈ (DataW.agg [.lit (.int .i64 a), .lit (.int .i64 b), .lit (.int .u64 (n : Int)), .lit (.string s)] : DataW H).weights Try.prog 27 := by
  have ho := wireOff
  cases hu : Try.prog.underlying 27 with
  | none => rw [hu] at ho; simp at ho
  | some d =>
    rw [hu] at ho
    cases d with
    | struct fs =>
      simp only at ho
      obtain ⟨fl⟩ := fs
      match fl, ho with
      | [f0, f1, f2, f3], ho => simp [DataW.weights, hu, DataW.weightsEach]
    | _ => simp at ho
/-- an address that reads is plain -/
theorem plain_addr {a : Addr} {v : Value} (h : w.cell? a = some v) : a = ⟨a.block, a.off, none⟩ ∧ a.block < w.heap.size := by
  refine ⟨?_, block_lt_of_cell h⟩
  obtain ⟨b, o, s⟩ := a
  cases s with
  | none => rfl
  | some x =>
    unfold World.cell? at h
    split at h <;> simp at h
/-- the slice -/
theorem open_wfields {t : TypeId} {v : Value} {d : DataW H} {p : List MemPlace} (ht : Try.prog.underlying t = some (.slice 27)) (h : DataW.Trod enc Try.prog w base spare held t v d p) (hv : ∃ a l c, v = .slice a l c)
    (hz : ∀ n ∈ d.weights Try.prog t, n ≤ reachBytes) : ∃ A c l, v = .slice A l.length c ∧ SR w w.heap.size 4 A l.length (fcs l) ∧ l.length ≤ 3518437208780 ∧ ∀ f ∈ l, FOk f := by
  obtain ⟨A0, l0, c0, rfl⟩ := hv
  obtain ⟨fuel, h⟩ := h
  rcases open_slice ht h with ⟨hc, hx⟩ | ⟨a, len, cap, m, n, D, Pl, hcs, hb, hl, hm, hmm, hx, hi⟩
  · simp only [Value.cells, List.cons.injEq, and_true, Value.slice.injEq] at hc
    obtain ⟨rfl, rfl, rfl⟩ := hc
    exact ⟨none, 0, [], rfl, SR.empty _ _ _ _, by simp, by simp⟩
  · simp only [Value.cells, List.cons.injEq, and_true, Value.slice.injEq] at hcs
    obtain ⟨rfl, rfl, rfl⟩ := hcs
    have hlm : l0 ≤ m := by rw [hmm]; split <;> omega
    have hd : d = .slice ((List.range l0).map D) ((List.range (m - l0)).map fun j => D (l0 + j)) := congrArg Prod.fst hx
    subst hd
    have hone : ∀ i, i < l0 → ∃ f : WFd, (∀ j, j < 4 → w.cell? (a.add (i * 4 + j)) = (fc f)[j]?) ∧ FOk f := by
      intro i hil
      obtain ⟨cs', h1, h2⟩ := hi i (by omega)
      rw [wireCells] at h1
      obtain ⟨_, hcl, hat⟩ := World.cells?_some h1
      obtain ⟨f, rfl, hD, a1, a2, b1, b2, hn, hsz⟩ := open_field h2
      refine ⟨f, fun j hj => ?_, a1, a2, b1, b2, hn, ?_⟩
      · rw [← Go.Deep.add_add]; exact hat j hj
      · have hD' : D i = .agg [.lit (.int .i64 f.num), .lit (.int .i64 f.typ), .lit (.int .u64 (f.n : Int)), .lit (.string f.data.data.toList)] := hD
        have hw1 := weights_field (H := H) f.num f.typ f.n f.data.data.toList
        rw [← hD'] at hw1
        have hw2 := weights_all (P := Try.prog) (e := 27) (ds := (List.range l0).map D) (List.mem_map.2 ⟨i, List.mem_range.2 hil, rfl⟩) _ hw1
        have hw3 := hz f.data.data.toList.length (by simp only [DataW.weights, ht]; exact List.mem_cons_of_mem _ (List.mem_append_left _ hw2))
        have e : reachBytes = 140737488351232 := by decide
        rw [e] at hw3
        simpa using hw3
    obtain ⟨F, hF⟩ := choose_lt (α := WFd) (p := fun i f => (∀ j, j < 4 → w.cell? (a.add (i * 4 + j)) = (fc f)[j]?) ∧ FOk f) hone
    have hlen : ((List.range l0).map F).length = l0 := by simp
    refine ⟨some a, c0, (List.range l0).map F, by rw [hlen], ⟨by rw [fcs_len], fun hpos => ?_⟩, ?_, ?_⟩
    · rw [hlen] at hpos
      have h0 := (hF 0 hpos).1 0 (by omega)
      have h00 : w.cell? a = some (.int .i64 (F 0).num) := by simpa [Addr.add, fc] using h0
      obtain ⟨ha, hab⟩ := plain_addr h00
      refine ⟨a.block, a.off, by rw [← ha], hab, fun j u hj => ?_⟩
      have hjl : j < l0 * 4 := by
        have := (List.getElem?_eq_some_iff.1 hj).1
        rw [fcs_len, hlen] at this
        exact this
      have hk : j / 4 < l0 := by omega
      have hj2 := (hF (j / 4) hk).1 (j % 4) (by omega)
      have e : j / 4 * 4 + j % 4 = j := by omega
      rw [e] at hj2
      have hq := fcs_at ((List.range l0).map F) (j / 4) (by rw [hlen]; exact hk) (j % 4) (by omega)
      rw [e, hj] at hq
      rw [← Addr.add_mid, ← ha, hj2, hq]
      simp
    · have hw3 := hz ((((List.range l0).map D).length + ((List.range (m - l0)).map fun j => D (l0 + j)).length) * Try.prog.bytesOf 27) (by simp only [DataW.weights, ht]; exact List.mem_cons_self)
      have e : reachBytes = 140737488351232 := by decide
      rw [e, wireBytes] at hw3
      simp at hw3 ⊢
      omega
    · intro f hf
      obtain ⟨i, hi2, rfl⟩ := List.mem_map.1 hf
      exact (hF i (List.mem_range.1 hi2)).2
end
end Go.Proofs.Ytmojabdobjfdoaa
