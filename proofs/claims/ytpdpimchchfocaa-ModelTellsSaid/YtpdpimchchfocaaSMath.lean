/- Plain numbers of layer 5: a shape's size, and to what two broadcast. No program is imported. -/
import Derived.RowKit
import GoSem.Core.Value
namespace Go.Proofs.Ytpdpimchchfocaa.M5

/-- the product -/
def prd : List Int → Int
  | [] => 1
  | d :: l => d * prd l
theorem prd_snoc (l : List Int) (d : Int) : prd (l ++ [d]) = prd l * d := by
  induction l with
  | nil => simp [prd]
  | cons x l ih => rw [List.cons_append, prd, prd, ih, Int.mul_assoc]
theorem prd_append (a b : List Int) : prd (a ++ b) = prd a * prd b := by
  induction a with
  | nil => simp [prd]
  | cons x l ih => rw [List.cons_append, prd, prd, ih, Int.mul_assoc]
theorem prd_nonneg {l : List Int} (h : ∀ x ∈ l, 0 ≤ x) : 0 ≤ prd l := by
  induction l with
  | nil => simp [prd]
  | cons x l ih => exact Int.mul_nonneg (h x (by simp)) (ih fun y hy => h y (by simp [hy]))
theorem prd_pos {l : List Int} (h : ∀ x ∈ l, 1 ≤ x) : 1 ≤ prd l := by
  induction l with
  | nil => simp [prd]
  | cons x l ih =>
    have := Int.mul_pos (a := x) (b := prd l) (by have := h x (by simp); omega) (by have := ih fun y hy => h y (by simp [hy]); omega)
    rw [prd]; omega
theorem prd_zero {l : List Int} (h : (0 : Int) ∈ l) : prd l = 0 := by
  induction l with
  | nil => cases h
  | cons x l ih =>
    rw [prd]
    rcases List.mem_cons.1 h with h | h
    · rw [← h]; simp
    · rw [ih h]; simp
theorem prd_le_mul {a b : List Int} (ha : ∀ x ∈ a, 1 ≤ x) (hb : ∀ x ∈ b, 1 ≤ x) : prd a ≤ prd (a ++ b) := by
  rw [prd_append]
  have h1 := prd_pos ha
  have h2 := prd_pos hb
  have := Int.mul_le_mul_of_nonneg_left h2 (by omega : 0 ≤ prd a)
  omega
theorem prd_le_mul' {a b : List Int} (ha : ∀ x ∈ a, 1 ≤ x) (hb : ∀ x ∈ b, 1 ≤ x) : prd b ≤ prd (a ++ b) := by
  rw [prd_append]
  have h1 := prd_pos ha
  have h2 := prd_pos hb
  have := Int.mul_le_mul_of_nonneg_right h1 (by omega : 0 ≤ prd b)
  omega

/-- P5.1: the size, and the code -/
def sz (l : List Int) : Int × Nat :=
  if 8 < l.length ∨ (∃ x ∈ l, x < 0) then (0, 6) else if (∃ x ∈ l, 65536 < x) ∨ 65536 < prd l then (0, 7) else (prd l, 0)
/-- a shape -/
structure Shp (l : List Int) : Prop where
  len : l.length ≤ 8
  lo : ∀ x ∈ l, 0 ≤ x
  hi : ∀ x ∈ l, x ≤ 65536
  all : prd l ≤ 65536
theorem sz_long {l : List Int} (h : 8 < l.length) : sz l = (0, 6) := by unfold sz; rw [if_pos (.inl h)]
theorem sz_neg {l : List Int} {x : Int} (hx : x ∈ l) (h : x < 0) : sz l = (0, 6) := by unfold sz; rw [if_pos (.inr ⟨x, hx, h⟩)]
theorem sz_great {l : List Int} (h8 : l.length ≤ 8) (h0 : ∀ x ∈ l, 0 ≤ x) {x : Int} (hx : x ∈ l) (h : 65536 < x) : sz l = (0, 7) := by
  unfold sz
  rw [if_neg (by rintro (h | ⟨y, hy, h⟩); · omega
                 · have := h0 y hy; omega), if_pos (.inl ⟨x, hx, h⟩)]
theorem sz_much {l : List Int} (h8 : l.length ≤ 8) (h0 : ∀ x ∈ l, 0 ≤ x) (h : 65536 < prd l) : sz l = (0, 7) := by
  unfold sz
  rw [if_neg (by rintro (h | ⟨y, hy, h⟩); · omega
                 · have := h0 y hy; omega), if_pos (.inr h)]
theorem sz_ok {l : List Int} (h : Shp l) : sz l = (prd l, 0) := by
  unfold sz
  rw [if_neg (by rintro (h1 | ⟨y, hy, h1⟩); · have := h.len; omega
                 · have := h.lo y hy; omega), if_neg (by rintro (⟨y, hy, h1⟩ | h1); · have := h.hi y hy; omega
                                                         · have := h.all; omega)]
theorem sz_shp {l : List Int} (h : (sz l).2 = 0) : Shp l := by
  unfold sz at h
  split at h
  · simp at h
  · rename_i h1
    split at h
    · simp at h
    · rename_i h2
      exact ⟨Nat.le_of_not_lt fun h => h1 (.inl h), fun x hx => Int.not_lt.1 fun h => h1 (.inr ⟨x, hx, h⟩), fun x hx => Int.not_lt.1 fun h => h2 (.inl ⟨x, hx, h⟩), Int.not_lt.1 fun h => h2 (.inr h)⟩
theorem sz_iff {l : List Int} : (sz l).2 = 0 ↔ Shp l := ⟨sz_shp, fun h => by rw [sz_ok h]⟩
theorem sz_cases (l : List Int) : (∃ c, sz l = (0, c) ∧ (c = 6 ∨ c = 7) ∧ ¬ Shp l) ∨ (sz l = (prd l, 0) ∧ Shp l) := by
  by_cases h : (sz l).2 = 0
  · exact .inr ⟨sz_ok (sz_shp h), sz_shp h⟩
  · refine .inl ?_
    have hn := fun hs => h (sz_iff.2 hs)
    unfold sz at h ⊢
    split at h
    · rename_i h1; rw [if_pos h1]; exact ⟨6, rfl, .inl rfl, hn⟩
    · rename_i h1
      split at h
      · rename_i h2; rw [if_neg h1, if_pos h2]; exact ⟨7, rfl, .inr rfl, hn⟩
      · simp at h

/-- the product, held at the least number that is too great -/
def cap (l : List Int) : Int := min (prd l) 65537
theorem cap_snoc {l : List Int} (h : ∀ x ∈ l, 0 ≤ x) {d : Int} (hd : 0 ≤ d) : cap (l ++ [d]) = min (cap l * d) 65537 := by
  have h0 := prd_nonneg h
  unfold cap
  rw [prd_snoc]
  by_cases hp : prd l ≤ 65537
  · rw [Int.min_eq_left hp]
  · rw [Int.min_eq_right (by omega : (65537 : Int) ≤ prd l)]
    by_cases h1 : d = 0
    · subst h1; simp
    · have h2 : 1 ≤ d := by omega
      have e1 := Int.mul_le_mul_of_nonneg_left h2 (by omega : (0 : Int) ≤ 65537)
      have e2 := Int.mul_le_mul_of_nonneg_left h2 h0
      omega
theorem cap_bounds {l : List Int} (h : ∀ x ∈ l, 0 ≤ x) : 0 ≤ cap l ∧ cap l ≤ 65537 := by
  have := prd_nonneg h
  unfold cap; omega

/-- the i-th dimension from the end; 1: there is none -/
def e (l : List Int) (i : Nat) : Int := l.reverse.getD i 1
theorem e_lt {l : List Int} {i : Nat} (h : i < l.length) : e l i = l[l.length - 1 - i] := by
  unfold e
  rw [List.getD_eq_getElem?_getD, List.getElem?_reverse h, List.getElem?_eq_getElem (by omega)]
  rfl
theorem e_ge {l : List Int} {i : Nat} (h : l.length ≤ i) : e l i = 1 := by
  unfold e
  rw [List.getD_eq_getElem?_getD, List.getElem?_eq_none (by simpa using h)]
  rfl
theorem e_ext {a b : List Int} (hl : a.length = b.length) (h : ∀ i, i < a.length → e a i = e b i) : a = b := by
  apply List.ext_getElem hl
  intro i h1 h2
  have := h (a.length - 1 - i) (by omega)
  rw [e_lt (by omega), e_lt (by omega)] at this
  have e1 : a.length - 1 - (a.length - 1 - i) = i := by omega
  have e2 : b.length - 1 - (a.length - 1 - i) = i := by omega
  simp only [e1, e2] at this
  exact this
/-- two dimensions broadcast, and to what -/
def okd (x y : Int) : Prop := x = y ∨ x = 1 ∨ y = 1
instance (x y : Int) : Decidable (okd x y) := by unfold okd; exact inferInstance
def bo (x y : Int) : Int := if x = 1 then y else x
/-- the third shape -/
def th (a b : List Int) : List Int := ((List.range (max a.length b.length)).map fun i => bo (e a i) (e b i)).reverse
theorem th_len (a b : List Int) : (th a b).length = max a.length b.length := by simp [th]
theorem th_e (a b : List Int) (i : Nat) : e (th a b) i = bo (e a i) (e b i) := by
  by_cases h : i < max a.length b.length
  · unfold e th
    rw [List.reverse_reverse, List.getD_eq_getElem?_getD, List.getElem?_map, List.getElem?_range h]
    rfl
  · rw [e_ge (l := th a b) (by rw [th_len]; omega), e_ge (l := a) (by omega), e_ge (l := b) (by omega)]
    rfl
def fit (a b : List Int) : Prop := ∀ i, i < max a.length b.length → okd (e a i) (e b i)
instance (a b : List Int) : Decidable (fit a b) := by unfold fit; exact inferInstance
theorem fit_all {a b : List Int} (h : fit a b) (i : Nat) : okd (e a i) (e b i) := by
  by_cases hi : i < max a.length b.length
  · exact h i hi
  · rw [e_ge (l := a) (by omega)]
    exact .inr (.inl rfl)
/-- P5.1: to what two broadcast, and the code -/
def bc (a b : List Int) : List Int × Nat :=
  if (sz a).2 ≠ 0 then ([], (sz a).2) else if (sz b).2 ≠ 0 then ([], (sz b).2) else if ¬ fit a b then ([], 6)
  else if (sz (th a b)).2 ≠ 0 then ([], (sz (th a b)).2) else (th a b, 0)
theorem bc_a {a b : List Int} {n : Int} {c : Nat} (h : sz a = (n, c)) (hc : c ≠ 0) : bc a b = ([], c) := by unfold bc; rw [h, if_pos hc]
theorem bc_b {a b : List Int} {n m : Int} {c : Nat} (ha : sz a = (m, 0)) (h : sz b = (n, c)) (hc : c ≠ 0) : bc a b = ([], c) := by unfold bc; rw [ha, h, if_neg (by simp), if_pos hc]
theorem bc_no {a b : List Int} {n m : Int} (ha : sz a = (m, 0)) (h : sz b = (n, 0)) (hf : ¬ fit a b) : bc a b = ([], 6) := by unfold bc; rw [ha, h, if_neg (by simp), if_neg (by simp), if_pos hf]
theorem bc_t {a b : List Int} {n m : Int} (ha : sz a = (m, 0)) (h : sz b = (n, 0)) (hf : fit a b) : bc a b = if (sz (th a b)).2 ≠ 0 then ([], (sz (th a b)).2) else (th a b, 0) := by
  unfold bc; rw [ha, h, if_neg (by simp), if_neg (by simp), if_neg (by simpa using hf)]
theorem bc_ok {a b : List Int} (h : (bc a b).2 = 0) : Shp a ∧ Shp b ∧ fit a b ∧ Shp (th a b) ∧ (bc a b).1 = th a b := by
  unfold bc at h ⊢
  split at h
  · rename_i h1; exact absurd h h1
  · rename_i h1
    split at h
    · rename_i h2; exact absurd h h2
    · rename_i h2
      split at h
      · simp at h
      · rename_i h3
        split at h
        · rename_i h4; exact absurd h h4
        · rename_i h4
          rw [if_neg h1, if_neg h2, if_neg h3, if_neg h4]
          exact ⟨sz_shp (by simpa using h1), sz_shp (by simpa using h2), by simpa using h3, sz_shp (by simpa using h4), rfl⟩
theorem bc_of {a b : List Int} (ha : Shp a) (hb : Shp b) (hf : fit a b) (ht : Shp (th a b)) : bc a b = (th a b, 0) := by
  unfold bc
  rw [if_neg (by simpa using sz_iff.2 ha), if_neg (by simpa using sz_iff.2 hb), if_neg (by simpa using hf), if_neg (by simpa using sz_iff.2 ht)]
theorem bc_nil {a b : List Int} (h : (bc a b).2 ≠ 0) : (bc a b).1 = [] := by
  unfold bc at h ⊢
  split
  · rfl
  · rename_i h1
    rw [if_neg h1] at h
    split
    · rfl
    · rename_i h2
      rw [if_neg h2] at h
      split
      · rfl
      · rename_i h3
        rw [if_neg h3] at h
        split
        · rfl
        · rename_i h4
          rw [if_neg h4] at h
          simp at h
theorem bc_len {a b : List Int} : (bc a b).1.length ≤ 8 := by
  by_cases h : (bc a b).2 = 0
  · obtain ⟨_, _, _, h1, h2⟩ := bc_ok h
    rw [h2]; exact h1.len
  · rw [bc_nil h]; simp
theorem bc_code (a b : List Int) : (bc a b).2 ≤ 7 := by
  have hs : ∀ l, (sz l).2 ≤ 7 := fun l => by rcases sz_cases l with ⟨c, h, hc, _⟩ | ⟨h, _⟩ <;> rw [h] <;> simp <;> omega
  unfold bc
  split
  · exact hs a
  · split
    · exact hs b
    · split
      · simp
      · split
        · exact hs _
        · simp

theorem okd_comm {x y : Int} (h : okd x y) : okd y x := by unfold okd at *; omega
theorem bo_comm {x y : Int} (h : okd x y) : bo x y = bo y x := by unfold okd at h; unfold bo; split <;> split <;> omega
theorem fit_comm {a b : List Int} (h : fit a b) : fit b a := fun i _ => okd_comm (fit_all h i)
theorem th_comm {a b : List Int} (h : fit a b) : th a b = th b a :=
  e_ext (by rw [th_len, th_len]; omega) fun i _ => by rw [th_e, th_e, bo_comm (fit_all h i)]
/-- P5.3: which is the first one doesn't matter -/
theorem bc_comm_ok {a b : List Int} (h : (bc a b).2 = 0) : bc b a = bc a b := by
  obtain ⟨h1, h2, h3, h4, _⟩ := bc_ok h
  rw [bc_of h1 h2 h3 h4, bc_of h2 h1 (fit_comm h3) (th_comm h3 ▸ h4), th_comm h3]
theorem bc_comm (a b : List Int) : ((bc a b).2 = 0 ↔ (bc b a).2 = 0) ∧ (bc a b).1 = (bc b a).1 := by
  by_cases h : (bc a b).2 = 0
  · rw [bc_comm_ok h]; exact ⟨Iff.rfl, rfl⟩
  · by_cases h2 : (bc b a).2 = 0
    · rw [bc_comm_ok h2]; exact ⟨Iff.rfl, rfl⟩
    · rw [bc_nil h, bc_nil h2]
      exact ⟨⟨fun x => absurd x h, fun x => absurd x h2⟩, rfl⟩
theorem th_self (a : List Int) : th a a = a := e_ext (by rw [th_len]; omega) fun i _ => by rw [th_e]; unfold bo; split <;> simp_all
theorem bc_self {a : List Int} (h : (bc a a).2 = 0) : (bc a a).1 = a := by rw [(bc_ok h).2.2.2.2, th_self]
theorem assoc_d {x y z : Int} (h1 : okd x y) (h2 : okd (bo x y) z) (h3 : okd y z) : okd x (bo y z) ∧ bo (bo x y) z = bo x (bo y z) := by
  unfold okd bo at *
  by_cases hx : x = 1
  · subst hx; simp at *
  · by_cases hy : y = 1
    · subst hy; simp_all
    · simp_all
/-- P5.3: nor which two of three are taken first -/
theorem bc_assoc {a b c : List Int} (h1 : (bc a b).2 = 0) (h2 : (bc (bc a b).1 c).2 = 0) (h3 : (bc b c).2 = 0) : bc a (bc b c).1 = bc (bc a b).1 c := by
  obtain ⟨a1, a2, a3, a4, a5⟩ := bc_ok h1
  rw [a5] at h2 ⊢
  obtain ⟨b1, b2, b3, b4, b5⟩ := bc_ok h2
  obtain ⟨c1, c2, c3, c4, c5⟩ := bc_ok h3
  rw [c5]
  have hd : ∀ i, okd (e a i) (bo (e b i) (e c i)) ∧ bo (bo (e a i) (e b i)) (e c i) = bo (e a i) (bo (e b i) (e c i)) := fun i =>
    assoc_d (fit_all a3 i) (by rw [← th_e]; exact fit_all b3 i) (fit_all c3 i)
  have ht : th a (th b c) = th (th a b) c := e_ext (by simp only [th_len]; omega) fun i _ => by
    rw [th_e, th_e, th_e, th_e]; exact (hd i).2.symm
  rw [bc_of b1 b2 b3 b4, ← ht, bc_of a1 c4 (fun i _ => by rw [th_e]; exact (hd i).1) (by rw [ht]; exact b4)]
end Go.Proofs.Ytpdpimchchfocaa.M5
/- Plain numbers of layer 5: places of a shape, their numbers, and what they are taken back to. No program is imported. -/
namespace Go.Proofs.Ytpdpimchchfocaa.M5

/-- P5.2: all places of a shape, in order -/
def plc : List Int → List (List Int)
  | [] => [[]]
  | d :: l => (List.range d.toNat).flatMap fun (i : Nat) => (plc l).map fun p => (i : Int) :: p
/-- those of the first so many of the first numbers -/
def plu (l : List Int) (a : Nat) : List (List Int) := (List.range a).flatMap fun (i : Nat) => (plc l).map fun p => (i : Int) :: p
theorem plu_succ (l : List Int) (a : Nat) : plu l (a + 1) = plu l a ++ (plc l).map fun p => (a : Int) :: p := by simp [plu, List.range_succ]
theorem plu_len (l : List Int) (a : Nat) : (plu l a).length = a * (plc l).length := by
  induction a with
  | zero => simp [plu]
  | succ a ih => rw [plu_succ, List.length_append, ih, List.length_map, Nat.add_mul]; omega
theorem plc_cons (d : Int) (l : List Int) : plc (d :: l) = plu l d.toNat := rfl
theorem plc_len {l : List Int} (h : ∀ x ∈ l, 0 ≤ x) : ((plc l).length : Int) = prd l := by
  induction l with
  | nil => rfl
  | cons d l ih =>
    have h0 := h d (by simp)
    rw [plc_cons, plu_len, prd, Int.natCast_mul, ih fun x hx => h x (by simp [hx]), Int.toNat_of_nonneg h0]
theorem plc_zero {l : List Int} (h : (0 : Int) ∈ l) : plc l = [] := by
  induction l with
  | nil => cases h
  | cons d l ih =>
    rw [plc_cons]
    rcases List.mem_cons.1 h with h | h
    · rw [← h]; rfl
    · unfold plu; rw [ih h]; simp
theorem plu_at (l : List Int) : ∀ (a n : Nat) (p : List Int), (plu l a)[n]? = some p → ∃ q r p', q < a ∧ n = q * (plc l).length + r ∧ (plc l)[r]? = some p' ∧ p = (q : Int) :: p'
  | 0, n, p, h => by simp [plu] at h
  | a + 1, n, p, h => by
    rw [plu_succ] at h
    by_cases hn : n < (plu l a).length
    · rw [List.getElem?_append_left hn] at h
      obtain ⟨q, r, p', h1, h2⟩ := plu_at l a n p h
      exact ⟨q, r, p', by omega, h2⟩
    · rw [List.getElem?_append_right (by omega), List.getElem?_map] at h
      cases hp : (plc l)[n - (plu l a).length]? with
      | none => rw [hp] at h; simp at h
      | some p' =>
        rw [hp] at h
        refine ⟨a, n - (plu l a).length, p', by omega, ?_, hp, by simpa using h.symm⟩
        rw [plu_len] at hn ⊢; omega

/-- numbers that are a place -/
def Win : List Int → List Int → Prop
  | [], [] => True
  | d :: l, x :: p => (0 ≤ x ∧ x < d) ∧ Win l p
  | _, _ => False
theorem win_len : ∀ {l p : List Int}, Win l p → p.length = l.length
  | [], [], _ => rfl
  | d :: l, x :: p, h => by simp [win_len h.2]
  | [], _ :: _, h => h.elim
  | _ :: _, [], h => h.elim
theorem win_at : ∀ {l p : List Int}, Win l p → ∀ (k : Nat) (h1 : k < l.length) (h2 : k < p.length), 0 ≤ p[k] ∧ p[k] < l[k]
  | [], _, _, k, h1, _ => absurd h1 (by simp)
  | d :: l, x :: p, h, 0, _, _ => h.1
  | d :: l, x :: p, h, k + 1, h1, h2 => win_at h.2 k (by simpa using h1) (by simpa using h2)
  | _ :: _, [], h, _, _, _ => h.elim
/-- a place's number -/
def cn : Int → List Int → List Int → Int
  | n, d :: l, x :: p => cn (n * d + x) l p
  | n, _, _ => n
theorem cn_ge : ∀ {l p : List Int} {n : Int}, Win l p → 0 ≤ n → n ≤ cn n l p
  | [], [], n, _, _ => Int.le_refl _
  | d :: l, x :: p, n, h, h0 => by
    have h1 := Int.mul_le_mul_of_nonneg_left (by have := h.1; omega : 1 ≤ d) h0
    have := cn_ge (n := n * d + x) h.2 (by have := h.1; omega)
    rw [cn]; have := h.1; omega
  | [], _ :: _, _, h, _ => h.elim
  | _ :: _, [], _, h, _ => h.elim
theorem cn_add : ∀ {l p : List Int} (n : Int), Win l p → cn n l p = n * prd l + cn 0 l p
  | [], [], n, _ => by simp [cn, prd]
  | d :: l, x :: p, n, h => by
    rw [cn, cn, cn_add _ h.2, cn_add (0 * d + x) h.2, prd, Int.add_mul, Int.mul_assoc]; simp; omega
  | [], _ :: _, _, h => h.elim
  | _ :: _, [], _, h => h.elim
theorem plc_win : ∀ {l : List Int}, (∀ x ∈ l, 0 ≤ x) → ∀ (n : Nat) (p : List Int), (plc l)[n]? = some p → Win l p ∧ cn 0 l p = (n : Int)
  | [], _, n, p, h => by
    cases n with
    | zero => simp [plc] at h; subst h; exact ⟨trivial, rfl⟩
    | succ n => simp [plc] at h
  | d :: l, h0, n, p, h => by
    rw [plc_cons] at h
    obtain ⟨q, r, p', hq, hn, hp, rfl⟩ := plu_at _ _ _ _ h
    have hl : ∀ x ∈ l, 0 ≤ x := fun x hx => h0 x (by simp [hx])
    obtain ⟨hw, hc⟩ := plc_win hl r p' hp
    refine ⟨⟨⟨by omega, by omega⟩, hw⟩, ?_⟩
    rw [cn, cn_add _ hw, hc, ← plc_len hl, hn]
    simp
/-- the digits of a number, last one first -/
def dgr : List Int → Int → List Int
  | [], _ => []
  | d :: l, n => n % d :: dgr l (n / d)
theorem dgr_len : ∀ (l : List Int) (n : Int), (dgr l n).length = l.length
  | [], _ => rfl
  | d :: l, n => by simp [dgr, dgr_len l]
theorem cn_snoc : ∀ {l p : List Int} (n d x : Int), p.length = l.length → cn n (l ++ [d]) (p ++ [x]) = cn n l p * d + x
  | [], [], n, d, x, _ => rfl
  | e :: l, y :: p, n, d, x, h => by rw [List.cons_append, List.cons_append, cn, cn, cn_snoc _ _ _ (by simpa using h)]
  | [], _ :: _, _, _, _, h => by simp at h
  | _ :: _, [], _, _, _, h => by simp at h
theorem win_snoc : ∀ {l p : List Int} {d x : Int}, p.length = l.length → Win (l ++ [d]) (p ++ [x]) → Win l p ∧ 0 ≤ x ∧ x < d
  | [], [], d, x, _, h => ⟨trivial, h.1⟩
  | e :: l, y :: p, d, x, hl, h => by
    obtain ⟨h1, h2⟩ := win_snoc (l := l) (p := p) (by simpa using hl) h.2
    exact ⟨⟨h.1, h1⟩, h2⟩
  | [], _ :: _, _, _, h, _ => by simp at h
  | _ :: _, [], _, _, h, _ => by simp at h
theorem dgr_back : ∀ (R S : List Int), Win R.reverse S.reverse → dgr R (cn 0 R.reverse S.reverse) = S
  | [], [], _ => rfl
  | [], s :: S, h => by have := win_len h; simp at this
  | r :: R, [], h => by have := win_len h; simp at this
  | d :: R, x :: S, h => by
    rw [List.reverse_cons, List.reverse_cons] at h ⊢
    have hl : S.reverse.length = R.reverse.length := by have := win_len h; simp at this ⊢; omega
    obtain ⟨hw, h0, h1⟩ := win_snoc hl h
    rw [cn_snoc _ _ _ hl, dgr]
    have e1 : (cn 0 R.reverse S.reverse * d + x) % d = x := by
      rw [Int.add_comm, Int.add_mul_emod_self_right]; exact Int.emod_eq_of_lt h0 h1
    have e2 : (cn 0 R.reverse S.reverse * d + x) / d = cn 0 R.reverse S.reverse := by
      rw [Int.add_comm, Int.add_mul_ediv_right _ _ (by omega), Int.ediv_eq_zero_of_lt h0 h1]; simp
    rw [e1, e2, dgr_back R S hw]
/-- P5.2: the place of a number -/
def plN (l : List Int) (n : Int) : List Int := (dgr l.reverse n).reverse
theorem plN_len (l : List Int) (n : Int) : (plN l n).length = l.length := by simp [plN, dgr_len]
theorem plN_plc {l : List Int} (h0 : ∀ x ∈ l, 0 ≤ x) {n : Nat} {p : List Int} (h : (plc l)[n]? = some p) : plN l (n : Int) = p := by
  obtain ⟨hw, hc⟩ := plc_win h0 n p h
  have := dgr_back l.reverse p.reverse (by simpa using hw)
  rw [List.reverse_reverse, List.reverse_reverse, hc] at this
  rw [plN, this, List.reverse_reverse]
/-- a place taken back -/
def bk (l p : List Int) : List Int := List.zipWith (fun d x => if d = 1 then 0 else x) l (p.drop (p.length - l.length))
theorem bk_len {l p : List Int} (h : l.length ≤ p.length) : (bk l p).length = l.length := by simp [bk]; omega
theorem bk_at {l p : List Int} (h : l.length ≤ p.length) {k : Nat} (hk : k < l.length) : (bk l p)[k]? = some (if l[k] = 1 then 0 else p[p.length - l.length + k]) := by
  unfold bk
  rw [List.getElem?_zipWith, List.getElem?_eq_getElem hk, List.getElem?_drop, List.getElem?_eq_getElem (by omega)]
end Go.Proofs.Ytpdpimchchfocaa.M5
