/- An argument that is a slice of elements of one cell, opened: it reads as a list. No program is imported. -/
import Derived.Test.YtkhenedpdfmlbaaRow
import Derived.Deep.Slices
import Derived.ChangeSame
import Derived.SizedLaws
import Derived.OpenShut
namespace Go.Proofs.Ytkhenedpdfmlbaa
open Go.RowKit Go.ChangeShapes Go.WideShapes Go.Deep
section
variable {H : Type} {enc : TypeId × Value → H} {P : Program} {w : World} {base : Nat} {spare : Nat → Bool} {held : Bool}
theorem plain_cell {a : Addr} {v : Value} (h : w.cell? a = some v) : a = ⟨a.block, a.off, none⟩ ∧ a.block < w.heap.size := by
  refine ⟨?_, block_lt_of_cell h⟩
  obtain ⟨b, o, s⟩ := a
  cases s with
  | none => rfl
  | some x =>
    unfold World.cell? at h
    split at h <;> simp at h
theorem open_row1c {α : Type} [Inhabited α] (mk : α → Value) (Q : α → Prop) {t e : TypeId} (ht : P.underlying t = some (.slice e)) (hc : P.cellsOf e = 1)
    (elem : ∀ n v x, DataW.trod enc P w base spare held n e [v] = some x → ∃ a, v = mk a ∧ Q a)
    {v : Value} {d : DataW H} {p : List MemPlace} (h : DataW.Trod enc P w base spare held t v d p) (hv : ∃ a l c, v = .slice a l c) :
    ∃ (A : Option Addr) (c : Nat) (l : List α), v = .slice A l.length c ∧ SR w w.heap.size 1 A l.length (l.map mk) ∧ l.length ≤ c ∧ c ≤ maxLen ∧ (A = none → l.length = 0 ∧ c = 0) ∧ ∀ a ∈ l, Q a := by
  obtain ⟨A0, l0, c0, rfl⟩ := hv
  obtain ⟨fuel, h⟩ := h
  rcases open_slice1 ht hc h with ⟨hcs, hx⟩ | ⟨a, len, cap, m, n, V, D, Pl, hcs, hb, hl, hm, hmm, hx, hi⟩
  · simp only [Value.cells, List.cons.injEq, and_true, Value.slice.injEq] at hcs
    obtain ⟨rfl, rfl, rfl⟩ := hcs
    exact ⟨none, 0, [], rfl, SR.empty _ _ _ _, by simp, by unfold maxLen; omega, fun _ => ⟨rfl, rfl⟩, by simp⟩
  · simp only [Value.cells, List.cons.injEq, and_true, Value.slice.injEq] at hcs
    obtain ⟨rfl, rfl, rfl⟩ := hcs
    have hlm : l0 ≤ m := by rw [hmm]; split <;> omega
    obtain ⟨F, hF⟩ := choose_lt (α := α) (p := fun i f => w.cell? (a.add i) = some (mk f) ∧ Q f) (n := l0) (fun i hil => by
      obtain ⟨h1, h2⟩ := hi i (by omega)
      obtain ⟨f, hf, hq⟩ := elem _ _ _ h2
      exact ⟨f, by rw [h1, hf], hq⟩)
    have hlen : ((List.range l0).map F).length = l0 := by simp
    refine ⟨some a, c0, (List.range l0).map F, by rw [hlen], ⟨by simp, fun hpos => ?_⟩, by rw [hlen]; exact hl, hm, (fun h => by cases h), ?_⟩
    · rw [hlen] at hpos
      have h0 := (hF 0 hpos).1
      have h00 : w.cell? a = some (mk (F 0)) := by simpa [Addr.add] using h0
      obtain ⟨ha, hab⟩ := plain_cell h00
      refine ⟨a.block, a.off, by rw [← ha], hab, fun j u hj => ?_⟩
      rw [← Addr.add_mid, ← ha]
      have hjl := (List.getElem?_eq_some_iff.1 hj).1
      simp only [List.length_map, List.length_range] at hjl
      rw [(hF j hjl).1, ← hj]
      simp [hjl]
    · intro f hf
      obtain ⟨i, hi2, rfl⟩ := List.mem_map.1 hf
      exact (hF i (List.mem_range.1 hi2)).2
theorem open_row1 {α : Type} [Inhabited α] (mk : α → Value) (Q : α → Prop) {t e : TypeId} (ht : P.underlying t = some (.slice e)) (hc : P.cellsOf e = 1)
    (elem : ∀ n v x, DataW.trod enc P w base spare held n e [v] = some x → ∃ a, v = mk a ∧ Q a)
    {v : Value} {d : DataW H} {p : List MemPlace} (h : DataW.Trod enc P w base spare held t v d p) (hv : ∃ a l c, v = .slice a l c) :
    ∃ (A : Option Addr) (c : Nat) (l : List α), v = .slice A l.length c ∧ SR w w.heap.size 1 A l.length (l.map mk) ∧ l.length ≤ maxLen ∧ ∀ a ∈ l, Q a := by
  obtain ⟨A, c, l, h1, h2, h3, h4, _, h5⟩ := open_row1c mk Q ht hc elem h hv
  exact ⟨A, c, l, h1, h2, Nat.le_trans h3 h4, h5⟩
end
end Go.Proofs.Ytkhenedpdfmlbaa
