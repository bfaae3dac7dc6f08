/- Keys by their parts, a text cut at its first slash: plain lists. No program is imported. -/
import Derived.Lib.Bytealg
namespace Go.Proofs.YtiniicehfjgpgaaGreat
namespace M8
/-- may a byte stand in a part? -/
def ltr (n : Int) : Bool := decide ((65 ≤ n ∧ n ≤ 90) ∨ (97 ≤ n ∧ n ≤ 122) ∨ (48 ≤ n ∧ n ≤ 57) ∨ n = 46 ∨ n = 95 ∨ n = 45)
def lt8 (c : UInt8) : Bool := ltr (c.toNat : Int)
/-- neither empty nor one of the two names that are ruled out -/
def nd (l : List UInt8) : Bool := !(l == [] || l == [46] || l == [46, 46])
def okp (l : List UInt8) : Bool := nd l && l.all lt8
/-- the reading from the left: the part under way, what is left -/
def allp : List UInt8 → List UInt8 → Bool
  | cur, [] => nd cur
  | cur, c :: r => if c = 47 then nd cur && allp [] r else lt8 c && allp (cur ++ [c]) r
/-- the parts -/
def pts : List UInt8 → List UInt8 → List (List UInt8)
  | cur, [] => [cur]
  | cur, c :: r => if c = 47 then cur :: pts [] r else pts (cur ++ [c]) r
def keyB (s : ByteArray) : Bool := decide (s.size ≤ 255) && allp [] s.data.toList

theorem pts_bad : ∀ (l cur : List UInt8), cur.all lt8 = false → (pts cur l).all okp = false
  | [], cur, h => by simp [pts, okp, h]
  | c :: r, cur, h => by
    unfold pts
    split
    · simp [okp, h]
    · exact pts_bad r (cur ++ [c]) (by rw [List.all_append, h]; rfl)
theorem pts_all : ∀ (l cur : List UInt8), cur.all lt8 = true → (pts cur l).all okp = allp cur l
  | [], cur, h => by simp [pts, okp, allp, h]
  | c :: r, cur, h => by
    unfold pts allp
    split
    · have ih := pts_all r [] rfl
      rw [List.all_cons, ih]; simp [okp, h]
    · cases hc : lt8 c
      · rw [Bool.false_and]
        exact pts_bad r (cur ++ [c]) (by rw [List.all_append, h]; simp [hc])
      · rw [Bool.true_and]
        exact pts_all r (cur ++ [c]) (by rw [List.all_append, h]; simp [hc])
theorem keyB_pts (s : ByteArray) : keyB s = (decide (s.size ≤ 255) && (pts [] s.data.toList).all okp) := by unfold keyB; rw [pts_all _ _ rfl]

theorem pts_cons (cur : List UInt8) (c : UInt8) (r : List UInt8) : pts cur (c :: r) = if c = 47 then cur :: pts [] r else pts (cur ++ [c]) r := rfl
theorem pts_miss : ∀ (l cur : List UInt8), Lib.indexByte l 47 = -1 → pts cur l = [cur ++ l]
  | [], cur, _ => by simp [pts]
  | c :: r, cur, h => by
    unfold Lib.indexByte at h
    rw [pts_cons]
    split at h
    · cases h
    · rename_i hc
      have hc' : ¬ c = 47 := by simpa using hc
      rw [if_neg hc']
      split at h
      · rename_i h2
        rw [pts_miss r (cur ++ [c]) (by simpa using h2)]; simp
      · rename_i h2
        have := Lib.indexByte_ge r 47
        simp at h2
        omega
theorem pts_hit : ∀ (l cur : List UInt8) (i : Nat), Lib.indexByte l 47 = (i : Int) → i < l.length ∧ pts cur l = (cur ++ l.take i) :: pts [] (l.drop (i + 1))
  | [], cur, i, h => by unfold Lib.indexByte at h; omega
  | c :: r, cur, i, h => by
    unfold Lib.indexByte at h
    rw [pts_cons]
    split at h
    · rename_i hc
      have hc' : c = 47 := by simpa using hc
      obtain rfl : i = 0 := by omega
      rw [if_pos hc']
      simp
    · rename_i hc
      have hc' : ¬ c = 47 := by simpa using hc
      rw [if_neg hc']
      split at h
      · omega
      · obtain ⟨j, rfl⟩ : ∃ j, i = j + 1 := ⟨i - 1, by have := Lib.indexByte_ge r 47; simp at *; omega⟩
        obtain ⟨h1, h2⟩ := pts_hit r (cur ++ [c]) j (by omega)
        exact ⟨by simp; omega, by rw [h2]; simp⟩
theorem indexByte_cases (l : List UInt8) (c : UInt8) : Lib.indexByte l c = -1 ∨ ∃ i : Nat, Lib.indexByte l c = (i : Int) := by
  have := Lib.indexByte_ge l c
  by_cases h : Lib.indexByte l c = -1
  · exact .inl h
  · exact .inr ⟨(Lib.indexByte l c).toNat, by omega⟩
theorem pts_ne (l cur : List UInt8) : pts cur l ≠ [] := by
  induction l generalizing cur with
  | nil => simp [pts]
  | cons c r ih => unfold pts; split <;> simp [ih]
end M8
end Go.Proofs.YtiniicehfjgpgaaGreat
