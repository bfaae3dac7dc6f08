/- Slices of slices of int64 of the call's own: each element a row of its own, kept while others are made or grow. -/
import Derived.Test.YtiniicehfjgpgaaGreatInts
import Derived.Test.YtiniicehfjgpgaaGreatRow
import Derived.Test.YtiniicehfjgpgaaGreatAppend
namespace Go.Proofs.YtiniicehfjgpgaaGreat
open Go.RowKit

theorem infoInts : (Tryz.prog.info? 36).map (fun i => (i.zero, i.size, i.bytes)) = some (some (.slice none 0 0), 1, 24) := by kernel_rfl
/-- values that are rows of the call's own, of these numbers -/
def Rws (w : World) (B : Nat) (vs : List Value) (ps : List (List Int)) : Prop :=
  vs.length = ps.length ∧ ∀ j (h1 : j < vs.length) (h2 : j < ps.length), w.ownsRow B 2 1 vs[j] ps[j].length (iv ps[j])
section
variable {w w' : World} {B : Nat} {vs : List Value} {ps : List (List Int)}
theorem Rws.nil (w : World) (B : Nat) : Rws w B [] [] := ⟨rfl, fun j h => absurd h (by simp)⟩
theorem Rws.keep (h : Rws w B vs ps) (hb : Below w.heap.size w w') : Rws w' B vs ps := ⟨h.1, fun j h1 h2 => own_keep (h.2 j h1 h2) hb⟩
theorem Rws.base {B' : Nat} (h : Rws w B vs ps) (hb : B' ≤ B) : Rws w B' vs ps := ⟨h.1, fun j h1 h2 => own_base (h.2 j h1 h2) hb⟩
theorem own_grown_far {B' n m size size' : Nat} {e e' : TypeId} {u v : Value} {xs ys : List Value} (h : w.ownsRow B e size u n xs) (hv : w.ownsRow B' e' size' v m ys) (he : e ≠ e') (hg : w.grownBy w' v.ownBlock) : w'.ownsRow B e size u n xs := by
  refine ⟨h.1, ?_⟩
  rcases h.2 with hn | ⟨g, cap, cur, hu, hB, hgg, r⟩
  · exact .inl hn
  · exact .inr ⟨g, cap, cur, hu, hB, blk_grown hgg hg (own_far hv hgg he), r⟩
theorem Rws.grown {B' m : Nat} {v : Value} {ys : List Value} (h : Rws w B vs ps) (hv : w.ownsRow B' 36 1 v m ys) (hg : w.grownBy w' v.ownBlock) : Rws w' B vs ps :=
  ⟨h.1, fun j h1 h2 => own_grown_far (h.2 j h1 h2) hv (by decide) hg⟩
theorem Rws.snoc (h : Rws w B vs ps) {u : Value} {p : List Int} (hu : w.ownsRow B 2 1 u p.length (iv p)) : Rws w B (vs ++ [u]) (ps ++ [p]) := by
  refine ⟨by simp [h.1], fun j h1 h2 => ?_⟩
  have hl := h.1
  by_cases hj : j < vs.length
  · have h3 := h.2 j hj (by omega)
    rw [List.getElem_append_left hj]
    have e : (ps ++ [p])[j] = ps[j]'(by omega) := List.getElem_append_left (by omega)
    rw [e]; exact h3
  · have hjv : j = vs.length := by simp at h1; omega
    subst hjv
    rw [List.getElem_append_right (Nat.le_refl _)]
    have e : (ps ++ [p])[vs.length] = p := by rw [List.getElem_append_right (by omega)]; simp
    rw [e]; simpa using hu
theorem Rws.oneCell (h : Rws w B vs ps) : ∀ u ∈ vs, u.oneCell' = true := by
  intro u hu
  obtain ⟨j, hj, rfl⟩ := List.mem_iff_getElem.1 hu
  obtain ⟨A, c, e, -, -⟩ := own_form (h.2 j hj (by rw [← h.1]; exact hj))
  rw [e]; rfl
end
/-- what a call gives that ends a list of rows -/
def RowsRes (B : Nat) (ps : List (List Int)) (w : World) (e : Ending) (w' : World) : Prop :=
  ∃ v vs, e = .returned v ∧ w'.ownsRow B 36 1 v ps.length vs ∧ Rws w' B vs ps ∧ Below B w w'
end Go.Proofs.YtiniicehfjgpgaaGreat
