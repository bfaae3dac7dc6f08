/- Arguments opened: a slice of pairs of whole numbers; a slice of flags. -/
import Derived.Test.YtngjpgdgipmieaaTCheck
import Derived.Deep.SlicePairs
import Derived.ChangeSame
import Derived.SizedLaws
import Derived.OpenShut
namespace Go.Proofs.Ytngjpgdgipmieaa
open Go.RowKit M6 M7 Go.ChangeShapes Go.WideShapes Go.Deep

/-- pairs as cells -/
def pcs (l : List (Int × Int)) : List Value := l.flatMap fun p => [.int .i64 p.1, .int .i64 p.2]
theorem pcs_len (l : List (Int × Int)) : (pcs l).length = l.length * 2 := by
  induction l with
  | nil => rfl
  | cons p l ih => unfold pcs at *; rw [List.flatMap_cons, List.length_append, ih]; simp; omega
theorem pcs_at : ∀ (l : List (Int × Int)) (k : Nat) (h : k < l.length), (pcs l)[k * 2]? = some (.int .i64 l[k].1) ∧ (pcs l)[k * 2 + 1]? = some (.int .i64 l[k].2)
  | [], k, h => by cases h
  | p :: l, 0, h => by unfold pcs; simp
  | p :: l, k + 1, h => by
    have h' : k < l.length := by simpa using h
    have ih := pcs_at l k h'
    have e : pcs (p :: l) = .int .i64 p.1 :: .int .i64 p.2 :: pcs l := by unfold pcs; simp
    rw [e, show (k + 1) * 2 = k * 2 + 1 + 1 by omega]
    simpa using ih
/-- one pair of a row -/
theorem pair_at {w : World} {B : Nat} {A : Option Addr} {l : List (Int × Int)} (h : SR w B 2 A l.length (pcs l)) {k : Nat} (hk : k < l.length) :
    ∃ b o, A = some ⟨b, o, none⟩ ∧ b < B ∧ w.cell? ⟨b, o + k * 2, none⟩ = some (.int .i64 l[k].1) ∧ w.cell? ⟨b, o + k * 2 + 1, none⟩ = some (.int .i64 l[k].2) := by
  obtain ⟨b, o, hA, hb, hc⟩ := h.at_ hk
  obtain ⟨h0, h1⟩ := pcs_at l k hk
  exact ⟨b, o, hA, hb, by simpa using hc 0 (by omega) _ (by simpa using h0), hc 1 (by omega) _ h1⟩
theorem pairCells : Try.prog.cellsOf 52 = 2 := by kernel_rfl
theorem cellsI64 : Try.prog.cellsOf 2 = 1 := by kernel_rfl
theorem pairOff : (match Try.prog.underlying 52 with | some (.struct fs) => fs.toList.map (fun f => (f.offset, f.type)) | _ => []) = [(0, 2), (1, 2)] := by kernel_rfl
section
variable {H : Type} {enc : TypeId × Value → H} {w : World} {base : Nat} {spare : Nat → Bool} {held : Bool}
theorem open_bools7 {t : TypeId} {v : Value} {d : DataW H} {p : List MemPlace} (ht : Try.prog.underlying t = some (.slice 4)) (h : DataW.Trod enc Try.prog w base spare held t v d p) (hv : ∃ a l c, v = .slice a l c) :
    ∃ (A : Option Addr) (c : Nat) (l : List Bool), v = .slice A l.length c ∧ SR w w.heap.size 1 A l.length (l.map Value.bool) ∧ l.length ≤ maxLen ∧ ∀ n ∈ l, True :=
  open_row1 Value.bool (fun _ => True) ht (by kernel_rfl) (fun n v x hx => by
    obtain ⟨a, e, -⟩ := DataW.trod_bool Try.underlying4 hx
    simp only [List.cons.injEq, and_true] at e
    exact ⟨a, e, trivial⟩) h hv
set_option maxRecDepth 100000 in
theorem open_pairs7 {t : TypeId} {v : Value} {d : DataW H} {p : List MemPlace} (ht : Try.prog.underlying t = some (.slice 52)) (h : DataW.Trod enc Try.prog w base spare held t v d p) (hv : ∃ a l c, v = .slice a l c) :
    ∃ (A : Option Addr) (c : Nat) (l : List (Int × Int)), v = .slice A l.length c ∧ SR w w.heap.size 2 A l.length (pcs l) ∧ l.length ≤ maxLen ∧ ∀ p ∈ l, I64 p.1 ∧ I64 p.2 := by
  obtain ⟨A0, l0, c0, rfl⟩ := hv
  obtain ⟨fuel, h⟩ := h
  have ho := pairOff
  cases hu : Try.prog.underlying 52 with
  | none => rw [hu] at ho; simp at ho
  | some ds =>
    rw [hu] at ho
    cases ds with
    | struct fs =>
      simp only at ho
      obtain ⟨fl⟩ := fs
      match fl, ho with
      | [f0, f1], ho =>
        simp only [List.map_cons, List.map_nil, List.cons.injEq, Prod.mk.injEq, and_true] at ho
        obtain ⟨⟨o0, t0⟩, o1, t1⟩ := ho
        rcases open_slice_pairs ht hu pairCells o0 o1 (by rw [t0]; exact cellsI64) (by rw [t1]; exact cellsI64) h with ⟨hc, hx⟩ | ⟨a, len, cap, m, n, V0, V1, D0, D1, P0, P1, hcs, hb, hl, hm, hmm, hx, hi⟩
        · simp only [Value.cells, List.cons.injEq, and_true, Value.slice.injEq] at hc
          obtain ⟨rfl, rfl, rfl⟩ := hc
          exact ⟨none, 0, [], rfl, SR.empty _ _ _ _, by simp, by simp⟩
        · simp only [Value.cells, List.cons.injEq, and_true, Value.slice.injEq] at hcs
          obtain ⟨rfl, rfl, rfl⟩ := hcs
          have hlm : l0 ≤ m := by rw [hmm]; split <;> omega
          have hone : ∀ i, i < l0 → ∃ q : Int × Int, (w.cell? (a.add (i * 2)) = some (.int .i64 q.1) ∧ w.cell? (a.add (i * 2 + 1)) = some (.int .i64 q.2)) ∧ I64 q.1 ∧ I64 q.2 := by
            intro i hil
            obtain ⟨h1, h2, h3, h4⟩ := hi i (by omega)
            rw [t0] at h3
            rw [t1] at h4
            obtain ⟨a0, e0, -, w0⟩ := DataW.trod_int Try.underlying2 h3
            obtain ⟨a1, e1, -, w1⟩ := DataW.trod_int Try.underlying2 h4
            simp only [List.cons.injEq, and_true] at e0 e1
            rw [e0] at h1
            rw [e1] at h2
            exact ⟨(a0, a1), ⟨h1, h2⟩, bounds_i64 w0, bounds_i64 w1⟩
          obtain ⟨F, hF⟩ := choose_lt hone
          have hlen : ((List.range l0).map F).length = l0 := by simp
          refine ⟨some a, c0, (List.range l0).map F, by rw [hlen], ⟨by rw [pcs_len], fun hpos => ?_⟩, by rw [hlen]; omega, ?_⟩
          · rw [hlen] at hpos
            have h0 := (hF 0 hpos).1.1
            have h00 : w.cell? a = some (.int .i64 (F 0).1) := by simpa [Addr.add] using h0
            obtain ⟨ha, hab⟩ := plain_cell h00
            refine ⟨a.block, a.off, by rw [← ha], hab, fun j u hj => ?_⟩
            have hjl : j < l0 * 2 := by
              have := (List.getElem?_eq_some_iff.1 hj).1
              rw [pcs_len, hlen] at this
              exact this
            have hk : j / 2 < l0 := by omega
            obtain ⟨q0, q1⟩ := pcs_at ((List.range l0).map F) (j / 2) (by rw [hlen]; exact hk)
            simp only [List.getElem_map, List.getElem_range] at q0 q1
            obtain ⟨z0, z1⟩ := (hF (j / 2) hk).1
            rw [← Addr.add_mid, ← ha]
            rcases (by omega : j = j / 2 * 2 ∨ j = j / 2 * 2 + 1) with e | e
            · rw [e] at hj ⊢
              rw [q0] at hj
              rw [z0, hj]
            · rw [e] at hj ⊢
              rw [q1] at hj
              rw [z1, hj]
          · intro p hp
            obtain ⟨i, hi2, rfl⟩ := List.mem_map.1 hp
            exact (hF i (List.mem_range.1 hi2)).2
    | _ => simp at ho
end
end Go.Proofs.Ytngjpgdgipmieaa
