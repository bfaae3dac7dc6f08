/- The builtin copy, of elements of any size, into a row of the call's own. No program is imported. -/
import Derived.Test.YtiniicehfjgpgaaGreatRow
import Derived.Laws.CopyOwn
import Derived.OwnWalk
namespace Go.Proofs.YtiniicehfjgpgaaGreat
open Go.RowKit

theorem run_copy_wide {P : Program} (w : World) (dT sT ty elem : TypeId) (g o dLen dCap : Nat) (a : Addr) (sLen sCap size n : Nat) (cur : Array Value) (t : TypeId) (cs : List Value)
    (hu : P.underlying dT = some (.slice elem)) (hs : (P.info? elem).map (·.size) = some size)
    (hg : w.heap[g]? = some (.cells cur t (0, 0))) (hn : n = Nat.min sLen dLen) (hcl : cs.length = n * size)
    (hsrc : ∀ j v, cs[j]? = some v → w.cell? (a.add j) = some v) (hfit : o + cs.length ≤ cur.size) (h1 : ∀ v ∈ cs, v.oneCell' = true) :
    (Builtin.copy_ #[dT, sT] ty #[.slice (some ⟨g, o, none⟩) dLen dCap, .slice (some a) sLen sCap]).run P w =
      .ok (goInt n) (w.setRow g (cur.toList.take o ++ cs ++ cur.toList.drop (o + cs.length)).toArray) := by
  have hl := run_loadCells_list (P := P) w a cs hsrc
  have hst := run_storeCells_at P g o t cs 0 cur w hg (by simpa using hfit) h1
  rw [hcl] at hl
  cases hq : P.info? elem with
  | none => simp [hq] at hs
  | some i =>
    have hi : i.size = size := by simpa [hq] using hs
    simp [Builtin.copy_, run_underlying hu, Builtin.lenOf, Builtin.firstCells, sizeOf, typeInfo, hq, hi, ← hn, hl, hst]
/-- a whole slice into a row just made -/
theorem copy_whole {P : Program} {w : World} {dT sT ty elem : TypeId} {size : Nat} (hu : P.underlying dT = some (.slice elem)) (hsz : (P.info? elem).map (·.size) = some size)
    {B g n : Nat} {ad : Addr} {sCap : Nat} {xs : List Value} (hown : w.ownsRow B elem size (.slice (some ⟨g, 0, none⟩) n n) n xs) (hpos : 0 < n)
    {cs : List Value} (hcl : cs.length = n * size) (hsrc : ∀ j v, cs[j]? = some v → w.cell? (ad.add j) = some v) (h1 : ∀ v ∈ cs, v.oneCell' = true) :
    ∃ w', (Builtin.copy_ #[dT, sT] ty #[.slice (some ⟨g, 0, none⟩) n n, .slice (some ad) n sCap]).run P w = .ok (goInt n) w' ∧
      w'.ownsRow B elem size (.slice (some ⟨g, 0, none⟩) n n) n cs ∧ Below B w w' := by
  rcases hown.2 with ⟨hv, h0⟩ | ⟨g2, cap, cur, hv, hB, hg, hnc, hcap, hsz2, hcur⟩
  · omega
  · have e : g2 = g ∧ cap = n := by injection hv with e1 e2 e3; simp at e1; exact ⟨e1.symm, e3.symm⟩
    obtain ⟨rfl, rfl⟩ := e
    have hfit : cs.length ≤ cur.size := by rw [hcl]; omega
    refine ⟨_, run_copy_wide (P := P) w dT sT ty elem g2 0 cap cap ad cap sCap size cap cur elem cs hu hsz hg (by simp) hcl hsrc (by simpa using hfit) h1, ⟨hcl, .inr ⟨g2, cap, _, rfl, hB, by simpa using setRow_heap w g2 cur _ elem (0, 0) hg, Nat.le_refl _, hcap, ?_, ?_⟩⟩, below_setRow (Below.refl _ _) hB _⟩
    · simp; omega
    · simp [hcl]
end Go.Proofs.YtiniicehfjgpgaaGreat
