/- Plain numbers of layer 5: places of a shape, their numbers, and what they are taken back to. No program is imported. -/
import Derived.Test.YtiljgokhgihodaaSMath
namespace Go.Proofs.Ytiljgokhgihodaa.M5

/-- P5.2: all places of a shape, in order -/
def plc : List Int → List (List Int)
  | [] => [[]]
  | d :: l => (List.range d.toNat).flatMap fun (i : Nat) => (plc l).map fun p => (i : Int) :: p
/-- those of the first so many of the first numbers -/
def plu (l : List Int) (a : Nat) : List (List Int) := (List.range a).flatMap fun (i : Nat) => (plc l).map fun p => (i : Int) :: p
theorem plu_succ (l : List Int) (a : Nat) : plu l (a + 1) = plu l a ++ (plc l).map fun p => (a : Int) :: p := by simp [plu, List.range_succ]
theorem plu_len (l : List Int) (a : Nat) : (plu l a).length = a * (plc l).length := by
  induction a with
  | zero => simp [plu]
  | succ a ih => rw [plu_succ, List.length_append, ih, List.length_map, Nat.add_mul]; omega
theorem plc_cons (d : Int) (l : List Int) : plc (d :: l) = plu l d.toNat := rfl
theorem plc_len {l : List Int} (h : ∀ x ∈ l, 0 ≤ x) : ((plc l).length : Int) = prd l := by
  induction l with
  | nil => rfl
  | cons d l ih =>
    have h0 := h d (by simp)
    rw [plc_cons, plu_len, prd, Int.natCast_mul, ih fun x hx => h x (by simp [hx]), Int.toNat_of_nonneg h0]
theorem plc_zero {l : List Int} (h : (0 : Int) ∈ l) : plc l = [] := by
  induction l with
  | nil => cases h
  | cons d l ih =>
    rw [plc_cons]
    rcases List.mem_cons.1 h with h | h
    · rw [← h]; rfl
    · unfold plu; rw [ih h]; simp
theorem plu_at (l : List Int) : ∀ (a n : Nat) (p : List Int), (plu l a)[n]? = some p → ∃ q r p', q < a ∧ n = q * (plc l).length + r ∧ (plc l)[r]? = some p' ∧ p = (q : Int) :: p'
  | 0, n, p, h => by simp [plu] at h
  | a + 1, n, p, h => by
    rw [plu_succ] at h
    by_cases hn : n < (plu l a).length
    · rw [List.getElem?_append_left hn] at h
      obtain ⟨q, r, p', h1, h2⟩ := plu_at l a n p h
      exact ⟨q, r, p', by omega, h2⟩
    · rw [List.getElem?_append_right (by omega), List.getElem?_map] at h
      cases hp : (plc l)[n - (plu l a).length]? with
      | none => rw [hp] at h; simp at h
      | some p' =>
        rw [hp] at h
        refine ⟨a, n - (plu l a).length, p', by omega, ?_, hp, by simpa using h.symm⟩
        rw [plu_len] at hn ⊢; omega

/-- numbers that are a place -/
def Win : List Int → List Int → Prop
  | [], [] => True
  | d :: l, x :: p => (0 ≤ x ∧ x < d) ∧ Win l p
  | _, _ => False
theorem win_len : ∀ {l p : List Int}, Win l p → p.length = l.length
  | [], [], _ => rfl
  | d :: l, x :: p, h => by simp [win_len h.2]
  | [], _ :: _, h => h.elim
  | _ :: _, [], h => h.elim
theorem win_at : ∀ {l p : List Int}, Win l p → ∀ (k : Nat) (h1 : k < l.length) (h2 : k < p.length), 0 ≤ p[k] ∧ p[k] < l[k]
  | [], _, _, k, h1, _ => absurd h1 (by simp)
  | d :: l, x :: p, h, 0, _, _ => h.1
  | d :: l, x :: p, h, k + 1, h1, h2 => win_at h.2 k (by simpa using h1) (by simpa using h2)
  | _ :: _, [], h, _, _, _ => h.elim
/-- a place's number -/
def cn : Int → List Int → List Int → Int
  | n, d :: l, x :: p => cn (n * d + x) l p
  | n, _, _ => n
theorem cn_ge : ∀ {l p : List Int} {n : Int}, Win l p → 0 ≤ n → n ≤ cn n l p
  | [], [], n, _, _ => Int.le_refl _
  | d :: l, x :: p, n, h, h0 => by
    have h1 := Int.mul_le_mul_of_nonneg_left (by have := h.1; omega : 1 ≤ d) h0
    have := cn_ge (n := n * d + x) h.2 (by have := h.1; omega)
    rw [cn]; have := h.1; omega
  | [], _ :: _, _, h, _ => h.elim
  | _ :: _, [], _, h, _ => h.elim
theorem cn_add : ∀ {l p : List Int} (n : Int), Win l p → cn n l p = n * prd l + cn 0 l p
  | [], [], n, _ => by simp [cn, prd]
  | d :: l, x :: p, n, h => by
    rw [cn, cn, cn_add _ h.2, cn_add (0 * d + x) h.2, prd, Int.add_mul, Int.mul_assoc]; simp; omega
  | [], _ :: _, _, h => h.elim
  | _ :: _, [], _, h => h.elim
theorem plc_win : ∀ {l : List Int}, (∀ x ∈ l, 0 ≤ x) → ∀ (n : Nat) (p : List Int), (plc l)[n]? = some p → Win l p ∧ cn 0 l p = (n : Int)
  | [], _, n, p, h => by
    cases n with
    | zero => simp [plc] at h; subst h; exact ⟨trivial, rfl⟩
    | succ n => simp [plc] at h
  | d :: l, h0, n, p, h => by
    rw [plc_cons] at h
    obtain ⟨q, r, p', hq, hn, hp, rfl⟩ := plu_at _ _ _ _ h
    have hl : ∀ x ∈ l, 0 ≤ x := fun x hx => h0 x (by simp [hx])
    obtain ⟨hw, hc⟩ := plc_win hl r p' hp
    refine ⟨⟨⟨by omega, by omega⟩, hw⟩, ?_⟩
    rw [cn, cn_add _ hw, hc, ← plc_len hl, hn]
    simp
/-- the digits of a number, last one first -/
def dgr : List Int → Int → List Int
  | [], _ => []
  | d :: l, n => n % d :: dgr l (n / d)
theorem dgr_len : ∀ (l : List Int) (n : Int), (dgr l n).length = l.length
  | [], _ => rfl
  | d :: l, n => by simp [dgr, dgr_len l]
theorem cn_snoc : ∀ {l p : List Int} (n d x : Int), p.length = l.length → cn n (l ++ [d]) (p ++ [x]) = cn n l p * d + x
  | [], [], n, d, x, _ => rfl
  | e :: l, y :: p, n, d, x, h => by rw [List.cons_append, List.cons_append, cn, cn, cn_snoc _ _ _ (by simpa using h)]
  | [], _ :: _, _, _, _, h => by simp at h
  | _ :: _, [], _, _, _, h => by simp at h
theorem win_snoc : ∀ {l p : List Int} {d x : Int}, p.length = l.length → Win (l ++ [d]) (p ++ [x]) → Win l p ∧ 0 ≤ x ∧ x < d
  | [], [], d, x, _, h => ⟨trivial, h.1⟩
  | e :: l, y :: p, d, x, hl, h => by
    obtain ⟨h1, h2⟩ := win_snoc (l := l) (p := p) (by simpa using hl) h.2
    exact ⟨⟨h.1, h1⟩, h2⟩
  | [], _ :: _, _, _, h, _ => by simp at h
  | _ :: _, [], _, _, h, _ => by simp at h
theorem dgr_back : ∀ (R S : List Int), Win R.reverse S.reverse → dgr R (cn 0 R.reverse S.reverse) = S
  | [], [], _ => rfl
  | [], s :: S, h => by have := win_len h; simp at this
  | r :: R, [], h => by have := win_len h; simp at this
  | d :: R, x :: S, h => by
    rw [List.reverse_cons, List.reverse_cons] at h ⊢
    have hl : S.reverse.length = R.reverse.length := by have := win_len h; simp at this ⊢; omega
    obtain ⟨hw, h0, h1⟩ := win_snoc hl h
    rw [cn_snoc _ _ _ hl, dgr]
    have e1 : (cn 0 R.reverse S.reverse * d + x) % d = x := by
      rw [Int.add_comm, Int.add_mul_emod_self_right]; exact Int.emod_eq_of_lt h0 h1
    have e2 : (cn 0 R.reverse S.reverse * d + x) / d = cn 0 R.reverse S.reverse := by
      rw [Int.add_comm, Int.add_mul_ediv_right _ _ (by omega), Int.ediv_eq_zero_of_lt h0 h1]; simp
    rw [e1, e2, dgr_back R S hw]
/-- P5.2: the place of a number -/
def plN (l : List Int) (n : Int) : List Int := (dgr l.reverse n).reverse
theorem plN_len (l : List Int) (n : Int) : (plN l n).length = l.length := by simp [plN, dgr_len]
theorem plN_plc {l : List Int} (h0 : ∀ x ∈ l, 0 ≤ x) {n : Nat} {p : List Int} (h : (plc l)[n]? = some p) : plN l (n : Int) = p := by
  obtain ⟨hw, hc⟩ := plc_win h0 n p h
  have := dgr_back l.reverse p.reverse (by simpa using hw)
  rw [List.reverse_reverse, List.reverse_reverse, hc] at this
  rw [plN, this, List.reverse_reverse]
/-- a place taken back -/
def bk (l p : List Int) : List Int := List.zipWith (fun d x => if d = 1 then 0 else x) l (p.drop (p.length - l.length))
theorem bk_len {l p : List Int} (h : l.length ≤ p.length) : (bk l p).length = l.length := by simp [bk]; omega
theorem bk_at {l p : List Int} (h : l.length ≤ p.length) {k : Nat} (hk : k < l.length) : (bk l p)[k]? = some (if l[k] = 1 then 0 else p[p.length - l.length + k]) := by
  unfold bk
  rw [List.getElem?_zipWith, List.getElem?_eq_getElem hk, List.getElem?_drop, List.getElem?_eq_getElem (by omega)]
end Go.Proofs.Ytiljgokhgihodaa.M5
