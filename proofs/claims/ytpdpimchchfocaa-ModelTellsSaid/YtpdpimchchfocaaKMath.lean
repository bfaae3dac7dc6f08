/- What kinds are, as plain functions; the map of kinds as data; which kind a word is of. No program is imported. -/
import Derived.Maps.RangeWalk
namespace Go.Proofs.Ytpdpimchchfocaa
open Go.Maps

def mWord (k : Int) : ByteArray :=
  if k = 1 then ⟨#[102, 108, 111, 97, 116]⟩ else if k = 2 then ⟨#[98, 121, 116, 101]⟩ else if k = 7 then ⟨#[105, 110, 116]⟩ else if k = 9 then ⟨#[102, 108, 97, 103]⟩ else if k = 14 then ⟨#[103, 97, 117, 115, 115]⟩ else ⟨#[]⟩
def kSize (k : Int) : Int := if k = 1 then 4 else if k = 2 then 1 else if k = 7 then 8 else if k = 9 then 1 else if k = 14 then 8 else 0
def isKind (k : Int) : Bool := k == 1 || k == 2 || k == 7 || k == 9 || k == 14
def kWord (k : Int) : ByteArray := if isKind k then mWord k else ⟨#[110, 111, 110, 101]⟩
def kindOf (s : ByteArray) : Int := if s = mWord 1 then 1 else if s = mWord 2 then 2 else if s = mWord 7 then 7 else if s = mWord 9 then 9 else if s = mWord 14 then 14 else 0

theorem isKind_iff {k : Int} : isKind k = true ↔ k = 1 ∨ k = 2 ∨ k = 7 ∨ k = 9 ∨ k = 14 := by simp [isKind, or_assoc]
theorem kSize_pos {k : Int} : 0 < kSize k ↔ isKind k = true := by
  rw [isKind_iff]; unfold kSize
  split; · omega
  split; · omega
  split; · omega
  split; · omega
  split <;> omega
theorem kSize_none {k : Int} (h : isKind k = false) : kSize k = 0 := by
  have : ¬ (isKind k = true) := by simp [h]
  rw [isKind_iff] at this
  unfold kSize
  rw [if_neg (by omega), if_neg (by omega), if_neg (by omega), if_neg (by omega), if_neg (by omega)]
theorem mWord_none {k : Int} (h : isKind k = false) : mWord k = ⟨#[]⟩ := by
  have : ¬ (isKind k = true) := by simp [h]
  rw [isKind_iff] at this
  unfold mWord
  rw [if_neg (by omega), if_neg (by omega), if_neg (by omega), if_neg (by omega), if_neg (by omega)]
theorem kWord_yes {k : Int} (h : isKind k = true) : kWord k = mWord k := by unfold kWord; rw [if_pos h]
theorem kWord_no {k : Int} (h : isKind k = false) : kWord k = ⟨#[110, 111, 110, 101]⟩ := by unfold kWord; rw [if_neg (by simp [h])]
/-- the words of kinds are apart -/
theorem kindOf_word {k : Int} (h : isKind k = true) : kindOf (mWord k) = k := by
  rcases isKind_iff.1 h with rfl | rfl | rfl | rfl | rfl <;> decide +kernel
theorem kindOf_eq {k : Int} {s : ByteArray} (h : isKind k = true) (he : mWord k = s) : kindOf s = k := by rw [← he]; exact kindOf_word h
theorem kindOf_is (s : ByteArray) : kindOf s = 0 ∨ (isKind (kindOf s) = true ∧ mWord (kindOf s) = s) := by
  unfold kindOf
  split; · rename_i h; exact .inr ⟨by decide, h.symm⟩
  split; · rename_i h; exact .inr ⟨by decide, h.symm⟩
  split; · rename_i h; exact .inr ⟨by decide, h.symm⟩
  split; · rename_i h; exact .inr ⟨by decide, h.symm⟩
  split; · rename_i h; exact .inr ⟨by decide, h.symm⟩
  exact .inl rfl
theorem isKind_bd {k : Int} (h : isKind k = true) : 1 ≤ k ∧ k ≤ 14 := by
  rcases isKind_iff.1 h with rfl | rfl | rfl | rfl | rfl <;> omega
/-- no kind has this word -/
theorem kindOf_zero {s : ByteArray} (h : ∀ k, isKind k = true → mWord k ≠ s) : kindOf s = 0 := by
  rcases kindOf_is s with h0 | ⟨h1, h2⟩
  · exact h0
  · exact absurd h2 (h _ h1)

/-- the kind that the law's loop has found among the numbers below k -/
def wantTo (s : ByteArray) : Nat → Int
  | 0 => 0
  | k + 1 => if isKind k = true ∧ kWord k = s then k else wantTo s k
theorem wantTo_is (s : ByteArray) : ∀ n : Nat, wantTo s n = if kindOf s < n then kindOf s else 0
  | 0 => by
    unfold wantTo
    rcases kindOf_is s with h | ⟨h, _⟩
    · rw [h]; simp
    · have := isKind_bd h
      rw [if_neg (by omega)]
  | n + 1 => by
    unfold wantTo
    rw [wantTo_is s n]
    by_cases h : isKind n = true ∧ kWord n = s
    · rw [if_pos h]
      have hw : mWord n = s := by have := h.2; unfold kWord at this; rwa [if_pos h.1] at this
      rw [kindOf_eq h.1 hw, if_pos (by omega)]
    · rw [if_neg h]
      by_cases hk : kindOf s = n
      · rcases kindOf_is s with h0 | ⟨h1, h2⟩
        · rw [h0]; split <;> split <;> rfl
        · rw [hk] at h1 h2
          exact absurd ⟨h1, by unfold kWord; rw [if_pos h1]; exact h2⟩ h
      · by_cases h1 : kindOf s < n
        · rw [if_pos h1, if_pos (by omega)]
        · rw [if_neg h1, if_neg (by omega)]
theorem wantTo_all (s : ByteArray) : wantTo s 20 = kindOf s := by
  rw [wantTo_is]
  rcases kindOf_is s with h | ⟨h, _⟩
  · rw [h]; rfl
  · have := isKind_bd h
    rw [if_pos (by omega)]

/-! the map as data -/
abbrev KD := DataW Unit
def abOf (k : Int) : KD := .agg [.lit (.string (mWord k).data.toList), .lit (.int .i64 (kSize k))]
def kKey (k : Int) : Lit := .int .i64 k
def kMap : KD := (((((DataW.map []).put (kKey 1) (abOf 1)).put (kKey 2) (abOf 2)).put (kKey 7) (abOf 7)).put (kKey 9) (abOf 9)).put (kKey 14) (abOf 14)
/-- how an element reads -/
def abR : Value → Option (KD × List MemPlace)
  | .agg a => match a.toList with
    | [.string s, .int .i64 n] => some (.agg [.lit (.string s.data.toList), .lit (.int .i64 n)], [])
    | _ => none
  | _ => none
theorem abR_mk (s : ByteArray) (n : Int) : abR (.agg #[.string s, .int .i64 n]) = some (.agg [.lit (.string s.data.toList), .lit (.int .i64 n)], []) := rfl
theorem abR_inv {v : Value} {y : KD × List MemPlace} (h : abR v = some y) : ∃ (s : ByteArray) (n : Int), v = .agg #[.string s, .int .i64 n] ∧ y = (.agg [.lit (.string s.data.toList), .lit (.int .i64 n)], []) := by
  unfold abR at h
  split at h
  · rename_i a
    split at h
    · rename_i s n e
      have : a = #[.string s, .int .i64 n] := by cases a; simpa using e
      injection h with h
      exact ⟨s, n, by rw [this], h.symm⟩
    · cases h
  · cases h
theorem abR_of {v : Value} {y : KD × List MemPlace} {k : Int} (h : abR v = some y) (hy : y.1 = abOf k) : v = .agg #[.string (mWord k), .int .i64 (kSize k)] := by
  obtain ⟨s, n, rfl, rfl⟩ := abR_inv h
  simp only [abOf, DataW.agg.injEq, List.cons.injEq, DataW.lit.injEq, Lit.string.injEq, Lit.int.injEq, true_and, and_true] at hy
  obtain ⟨h1, h2⟩ := hy
  have : s = mWord k := by cases s; cases hm : mWord k; simp_all
  rw [this, h2]
theorem kKey_ne {a b : Int} (h : a ≠ b) : kKey a ≠ kKey b := by intro e; exact h (by unfold kKey at e; injection e)
theorem kKey_ok (k : Int) : WideAt.IsKeyLit (kKey k) := trivial
theorem kMap_at {k : Int} (h : isKind k = true) (z : KD) : kMap.atKey (kKey k) z = abOf k := by
  rcases isKind_iff.1 h with rfl | rfl | rfl | rfl | rfl <;> unfold kMap
  · rw [atKey_put_other (kKey_ne (by decide)), atKey_put_other (kKey_ne (by decide)), atKey_put_other (kKey_ne (by decide)), atKey_put_other (kKey_ne (by decide)), atKey_put_same isMap_empty (kKey_ok _)]
  · rw [atKey_put_other (kKey_ne (by decide)), atKey_put_other (kKey_ne (by decide)), atKey_put_other (kKey_ne (by decide)), atKey_put_same (isMap_empty.put _ _) (kKey_ok _)]
  · rw [atKey_put_other (kKey_ne (by decide)), atKey_put_other (kKey_ne (by decide)), atKey_put_same ((isMap_empty.put _ _).put _ _) (kKey_ok _)]
  · rw [atKey_put_other (kKey_ne (by decide)), atKey_put_same (((isMap_empty.put _ _).put _ _).put _ _) (kKey_ok _)]
  · rw [atKey_put_same ((((isMap_empty.put _ _).put _ _).put _ _).put _ _) (kKey_ok _)]
theorem kMap_has (l : Lit) : has kMap l = true ↔ ∃ k, isKind k = true ∧ l = kKey k := by
  have key : ∀ k, isKind k = true → has kMap (kKey k) = true := fun k h => has_true_of_atKey (kMap_at h)
  constructor
  · intro h
    unfold kMap at h
    by_cases h14 : l = kKey 14; · exact ⟨14, by decide, h14⟩
    rw [has_put_other h14] at h
    by_cases h9 : l = kKey 9; · exact ⟨9, by decide, h9⟩
    rw [has_put_other h9] at h
    by_cases h7 : l = kKey 7; · exact ⟨7, by decide, h7⟩
    rw [has_put_other h7] at h
    by_cases h2 : l = kKey 2; · exact ⟨2, by decide, h2⟩
    rw [has_put_other h2] at h
    by_cases h1 : l = kKey 1; · exact ⟨1, by decide, h1⟩
    rw [has_put_other h1] at h
    cases h
  · rintro ⟨k, h, rfl⟩
    exact key k h
theorem kMap_not {k : Int} (h : isKind k = false) : has kMap (kKey k) = false := by
  cases hh : has kMap (kKey k)
  · rfl
  · obtain ⟨k', h1, h2⟩ := (kMap_has _).1 hh
    have : k = k' := by unfold kKey at h2; injection h2
    rw [this, h1] at h; cases h
theorem kMap_at_not {k : Int} (h : isKind k = false) (z : KD) : kMap.atKey (kKey k) z = z := atKey_of_not_has (kMap_not h) z
end Go.Proofs.Ytpdpimchchfocaa
