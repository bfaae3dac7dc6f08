/- A row of one-cell values made at once and filled from the front. No program is imported. -/
import Derived.Test.YtngjpgdgipmieaaRow
import Derived.OwnWalk
namespace Go.Proofs.Ytngjpgdgipmieaa
open Go.RowKit

theorem made_cells (z : Value) (n : Nat) : (madeCells #[z] n).toList = List.replicate n z := by
  have h : madeCells #[z] n = (Array.range n).map (fun _ => z) := by
    unfold madeCells
    congr 1
    funext i
    show (#[z] : Array Value)[i % 1]! = _
    rw [Nat.mod_one]; rfl
  rw [h]
  apply List.ext_getElem
  · simp
  · intro i h1 h2; simp
theorem patchV_set {α : Type} {t s : List α} {k : Nat} (hs : s.length = t.length) (hk : k < t.length) : (t.take k ++ s.drop k).set k t[k] = t.take (k + 1) ++ s.drop (k + 1) := by
  rw [List.set_append_right _ _ (by simp; omega), List.take_succ_eq_append_getElem hk, List.drop_eq_getElem_cons (by omega : k < s.length)]
  have h2 : k - (t.take k).length = 0 := by simp; omega
  rw [h2, List.set_cons_zero, List.append_assoc, List.singleton_append]
theorem patchV_len {α : Type} {t s : List α} {k : Nat} (hs : s.length = t.length) (hk : k ≤ t.length) : (t.take k ++ s.drop k).length = t.length := by simp; omega
theorem Bx.far {w W : World} {g : Nat} {cs : Array Value} {T : TypeId} (h : Bx w g cs T W) {b i : Nat} (v : Value) (hne : g ≠ b) (hb : w.heap.size ≤ b) : Bx w g cs T (W.setCell ⟨b, i, none⟩ v) :=
  ⟨heap_far h.1 v hne, by simpa using h.2.1, h.2.2.setCell (p := ⟨b, i, none⟩) hb v⟩
/-- a row of the call's own that is filled from the front: k places are filled -/
def Fill (W : World) (B g : Nat) (T : TypeId) (vs zs : List Value) (k : Nat) : Prop := W.ownsRow B T 1 (.slice (some ⟨g, 0, none⟩) vs.length vs.length) vs.length (vs.take k ++ zs.drop k)
theorem Fill.start {W : World} {B g : Nat} {T : TypeId} {vs zs : List Value} (h : W.ownsRow B T 1 (.slice (some ⟨g, 0, none⟩) vs.length vs.length) vs.length zs) : Fill W B g T vs zs 0 := by
  unfold Fill; simpa using h
theorem Fill.keep {W W' : World} {B g k : Nat} {T : TypeId} {vs zs : List Value} (h : Fill W B g T vs zs k) (hb : Below W.heap.size W W') : Fill W' B g T vs zs k := own_keep h hb
theorem Fill.cell {W : World} {B g k : Nat} {T : TypeId} {vs zs : List Value} (h : Fill W B g T vs zs k) (hz : zs.length = vs.length) (hk : k < vs.length) : ∃ u, W.cell? ⟨g, k, none⟩ = some u := by
  have h1 := h.cellAt k (by omega)
  have hl := patchV_len (t := vs) (s := zs) (k := k) hz (by omega)
  rw [List.getElem?_eq_getElem (show k < (vs.take k ++ zs.drop k).length by omega)] at h1
  exact ⟨_, h1⟩
theorem Fill.put {W : World} {B g k : Nat} {T : TypeId} {vs zs : List Value} (h : Fill W B g T vs zs k) (hz : zs.length = vs.length) (hk : k < vs.length) : Fill (W.setCell ⟨g, k, none⟩ vs[k]) B g T vs zs (k + 1) := by
  have h1 := (h.stored k vs[k]).1
  unfold Fill
  rw [← patchV_set hz hk]
  exact h1
theorem Fill.done {W : World} {B g : Nat} {T : TypeId} {vs zs : List Value} (h : Fill W B g T vs zs vs.length) (hz : zs.length = vs.length) : W.ownsRow B T 1 (.slice (some ⟨g, 0, none⟩) vs.length vs.length) vs.length vs := by
  unfold Fill at h
  rw [List.drop_of_length_le (by omega), List.append_nil, List.take_length] at h
  exact h
end Go.Proofs.Ytngjpgdgipmieaa
