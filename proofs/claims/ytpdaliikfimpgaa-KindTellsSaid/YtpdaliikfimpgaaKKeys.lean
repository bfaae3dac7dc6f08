/- Keys gathered in whatever order, sorted: all kinds. No program is imported. -/
import Derived.Test.YtpdaliikfimpgaaKMath
namespace Go.Proofs.Ytpdaliikfimpgaa
/-- a row of numbers sorts to the rising row of the same numbers -/
theorem sorted_is {l m : List Int} (h : l.Perm m) (hm : m.Pairwise (· ≤ ·)) : l.mergeSort (fun x y => decide (x ≤ y)) = m := by
  have tr : ∀ a b c : Int, decide (a ≤ b) = true → decide (b ≤ c) = true → decide (a ≤ c) = true := fun a b c h1 h2 => by simp only [decide_eq_true_eq] at *; omega
  have to : ∀ a b : Int, (decide (a ≤ b) || decide (b ≤ a)) = true := fun a b => by simp only [Bool.or_eq_true, decide_eq_true_eq]; omega
  refine List.Perm.eq_of_pairwise (le := fun a b : Int => decide (a ≤ b) = true) (fun a b _ _ h1 h2 => ?_) (List.pairwise_mergeSort tr to l) (hm.imp fun h => by simpa using h) ((List.mergeSort_perm l _).trans h)
  simp only [decide_eq_true_eq] at h1 h2
  omega
def fiveK : List Int := [1, 2, 7, 9, 14]
/-- what has been gathered, by which keys are still to come -/
def Gathered (left : Lit → Bool) (ks : List Int) : Prop := ks.Nodup ∧ (∀ k ∈ ks, isKind k = true) ∧ (∀ k, isKind k = true → left (kKey k) = false → k ∈ ks) ∧ ∀ k ∈ ks, left (kKey k) = false
theorem mem_five {k : Int} : k ∈ fiveK ↔ isKind k = true := by rw [isKind_iff]; simp [fiveK]
theorem gathered_start : Gathered (Maps.has kMap) [] :=
  ⟨List.nodup_nil, by simp, (fun k hk hl => by rw [(kMap_has _).2 ⟨k, hk, rfl⟩] at hl; cases hl), by simp⟩
theorem gathered_le {left : Lit → Bool} {ks : List Int} (h : Gathered left ks) : ks.length ≤ 5 :=
  List.Nodup.length_le_of_subset (l₂ := fiveK) h.1 fun k hk => mem_five.2 (h.2.1 k hk)
theorem gathered_all {left : Lit → Bool} {ks : List Int} (h : Gathered left ks) (h0 : ∀ kl, left kl = false) : ks.mergeSort (fun x y => decide (x ≤ y)) = fiveK := by
  have hp : ks.Perm fiveK := (List.perm_ext_iff_of_nodup h.1 (by decide)).2 fun k => ⟨fun hk => mem_five.2 (h.2.1 k hk), fun hk => h.2.2.1 k (mem_five.1 hk) (h0 _)⟩
  exact sorted_is hp (by unfold fiveK; decide)
/-- a key more: left says that it was still to come, so it was not there -/
theorem gathered_more {left : Lit → Bool} {ks : List Int} {k : Int} (h : Gathered left ks) (hk : isKind k = true) (hl : left (kKey k) = true) :
    Gathered (fun z => left z && !z.sameKey (kKey k)) (ks ++ [k]) := by
  have hn : k ∉ ks := fun hm => by rw [h.2.2.2 k hm] at hl; cases hl
  refine ⟨?_, ?_, ?_, ?_⟩
  · rw [List.nodup_append]
    exact ⟨h.1, by simp, fun a ha b hb => by simp at hb; subst hb; intro e; subst e; exact hn ha⟩
  · intro x hx
    simp at hx
    rcases hx with hx | rfl
    · exact h.2.1 x hx
    · exact hk
  · intro x hx hl
    by_cases e : x = k
    · subst e; simp
    · have hs : (kKey x).sameKey (kKey k) = false := Maps.sameKey_ne (kKey_ne e)
      simp only [hs] at hl
      exact List.mem_append.2 (.inl (h.2.2.1 x hx (by simpa using hl)))
  · intro x hx
    simp at hx
    rcases hx with hx | rfl
    · simp [h.2.2.2 x hx]
    · simp [WideAt.sameKey_self (kKey_ok x)]
end Go.Proofs.Ytpdaliikfimpgaa
