import Derived.Test.YtjjfdlgoacockaaGreatMath
import Derived.Deep.Slices
import Derived.ChangeSame
import Derived.SizedLaws
import Derived.OpenShut
import Derived.Maps.RangeWalk
import Derived.RowKit
import GoSem.Core.Value
import Derived.WalkKit
import Derived.WalkLawsBesides
import Derived.Lib.Hide
namespace Go.Proofs.YtjjfdlgoacockaaGreat
open Go.RowKit M1 M2 Go.ChangeShapes Go.WideShapes Go.Deep


instance : Inhabited WFd := ⟨fd0⟩
structure FOk (f : WFd) : Prop where
  num1 : -9223372036854775808 ≤ f.num
  num2 : f.num ≤ 9223372036854775807
  typ1 : -9223372036854775808 ≤ f.typ
  typ2 : f.typ ≤ 9223372036854775807
  n : Fits64 f.n
  data : f.data.size ≤ 140737488351232

section
variable {H : Type} {enc : TypeId × Value → H} {w : World} {base : Nat} {spare : Nat → Bool} {held : Bool}
end
end Go.Proofs.YtjjfdlgoacockaaGreat
namespace Go.Proofs.YtjjfdlgoacockaaGreat
open Go.Maps

def mWord (k : Int) : ByteArray :=
  if k = 1 then ⟨#[102, 108, 111, 97, 116]⟩ else if k = 2 then ⟨#[98, 121, 116, 101]⟩ else if k = 7 then ⟨#[105, 110, 116]⟩ else if k = 9 then ⟨#[102, 108, 97, 103]⟩ else if k = 14 then ⟨#[103, 97, 117, 115, 115]⟩ else ⟨#[]⟩
def kSize (k : Int) : Int := if k = 1 then 4 else if k = 2 then 1 else if k = 7 then 8 else if k = 9 then 1 else if k = 14 then 8 else 0
def isKind (k : Int) : Bool := k == 1 || k == 2 || k == 7 || k == 9 || k == 14
def kWord (k : Int) : ByteArray := if isKind k then mWord k else ⟨#[110, 111, 110, 101]⟩
def kindOf (s : ByteArray) : Int := if s = mWord 1 then 1 else if s = mWord 2 then 2 else if s = mWord 7 then 7 else if s = mWord 9 then 9 else if s = mWord 14 then 14 else 0

theorem isKind_iff {k : Int} : isKind k = true ↔ k = 1 ∨ k = 2 ∨ k = 7 ∨ k = 9 ∨ k = 14 := by simp [isKind, or_assoc]
theorem kSize_pos {k : Int} : 0 < kSize k ↔ isKind k = true := by
  rw [isKind_iff]; unfold kSize
  split; · omega
  split; · omega
  split; · omega
  split; · omega
  split <;> omega
theorem kSize_none {k : Int} (h : isKind k = false) : kSize k = 0 := by
  have : ¬ (isKind k = true) := by simp [h]
  rw [isKind_iff] at this
  unfold kSize
  rw [if_neg (by omega), if_neg (by omega), if_neg (by omega), if_neg (by omega), if_neg (by omega)]
theorem mWord_none {k : Int} (h : isKind k = false) : mWord k = ⟨#[]⟩ := by
  have : ¬ (isKind k = true) := by simp [h]
  rw [isKind_iff] at this
  unfold mWord
  rw [if_neg (by omega), if_neg (by omega), if_neg (by omega), if_neg (by omega), if_neg (by omega)]
theorem kWord_yes {k : Int} (h : isKind k = true) : kWord k = mWord k := by unfold kWord; rw [if_pos h]
theorem kWord_no {k : Int} (h : isKind k = false) : kWord k = ⟨#[110, 111, 110, 101]⟩ := by unfold kWord; rw [if_neg (by simp [h])]
theorem isKind_bd {k : Int} (h : isKind k = true) : 1 ≤ k ∧ k ≤ 14 := by
  rcases isKind_iff.1 h with rfl | rfl | rfl | rfl | rfl <;> omega
/-! the map as data -/
abbrev KD := DataW Unit
def abOf (k : Int) : KD := .agg [.lit (.string (mWord k).data.toList), .lit (.int .i64 (kSize k))]
def kKey (k : Int) : Lit := .int .i64 k
def kMap : KD := (((((DataW.map []).put (kKey 1) (abOf 1)).put (kKey 2) (abOf 2)).put (kKey 7) (abOf 7)).put (kKey 9) (abOf 9)).put (kKey 14) (abOf 14)
def abR : Value → Option (KD × List MemPlace)
  | .agg a => match a.toList with
    | [.string s, .int .i64 n] => some (.agg [.lit (.string s.data.toList), .lit (.int .i64 n)], [])
    | _ => none
  | _ => none
theorem abR_mk (s : ByteArray) (n : Int) : abR (.agg #[.string s, .int .i64 n]) = some (.agg [.lit (.string s.data.toList), .lit (.int .i64 n)], []) := rfl
theorem abR_inv {v : Value} {y : KD × List MemPlace} (h : abR v = some y) : ∃ (s : ByteArray) (n : Int), v = .agg #[.string s, .int .i64 n] ∧ y = (.agg [.lit (.string s.data.toList), .lit (.int .i64 n)], []) := by
  unfold abR at h
  split at h
  · rename_i a
    split at h
    · rename_i s n e
      have : a = #[.string s, .int .i64 n] := by cases a; simpa using e
      injection h with h
      exact ⟨s, n, by rw [this], h.symm⟩
    · cases h
  · cases h
theorem abR_of {v : Value} {y : KD × List MemPlace} {k : Int} (h : abR v = some y) (hy : y.1 = abOf k) : v = .agg #[.string (mWord k), .int .i64 (kSize k)] := by
  obtain ⟨s, n, rfl, rfl⟩ := abR_inv h
  simp only [abOf, DataW.agg.injEq, List.cons.injEq, DataW.lit.injEq, Lit.string.injEq, Lit.int.injEq, true_and, and_true] at hy
  obtain ⟨h1, h2⟩ := hy
  have : s = mWord k := by cases s; cases hm : mWord k; simp_all
  rw [this, h2]
theorem kKey_ne {a b : Int} (h : a ≠ b) : kKey a ≠ kKey b := by intro e; exact h (by unfold kKey at e; injection e)
theorem kKey_ok (k : Int) : WideAt.IsKeyLit (kKey k) := trivial
theorem kMap_at {k : Int} (h : isKind k = true) (z : KD) : kMap.atKey (kKey k) z = abOf k := by
  rcases isKind_iff.1 h with rfl | rfl | rfl | rfl | rfl <;> unfold kMap
  · rw [atKey_put_other (kKey_ne (by decide)), atKey_put_other (kKey_ne (by decide)), atKey_put_other (kKey_ne (by decide)), atKey_put_other (kKey_ne (by decide)), atKey_put_same isMap_empty (kKey_ok _)]
  · rw [atKey_put_other (kKey_ne (by decide)), atKey_put_other (kKey_ne (by decide)), atKey_put_other (kKey_ne (by decide)), atKey_put_same (isMap_empty.put _ _) (kKey_ok _)]
  · rw [atKey_put_other (kKey_ne (by decide)), atKey_put_other (kKey_ne (by decide)), atKey_put_same ((isMap_empty.put _ _).put _ _) (kKey_ok _)]
  · rw [atKey_put_other (kKey_ne (by decide)), atKey_put_same (((isMap_empty.put _ _).put _ _).put _ _) (kKey_ok _)]
  · rw [atKey_put_same ((((isMap_empty.put _ _).put _ _).put _ _).put _ _) (kKey_ok _)]
theorem kMap_has (l : Lit) : has kMap l = true ↔ ∃ k, isKind k = true ∧ l = kKey k := by
  have key : ∀ k, isKind k = true → has kMap (kKey k) = true := fun k h => has_true_of_atKey (kMap_at h)
  constructor
  · intro h
    unfold kMap at h
    by_cases h14 : l = kKey 14; · exact ⟨14, by decide, h14⟩
    rw [has_put_other h14] at h
    by_cases h9 : l = kKey 9; · exact ⟨9, by decide, h9⟩
    rw [has_put_other h9] at h
    by_cases h7 : l = kKey 7; · exact ⟨7, by decide, h7⟩
    rw [has_put_other h7] at h
    by_cases h2 : l = kKey 2; · exact ⟨2, by decide, h2⟩
    rw [has_put_other h2] at h
    by_cases h1 : l = kKey 1; · exact ⟨1, by decide, h1⟩
    rw [has_put_other h1] at h
    cases h
  · rintro ⟨k, h, rfl⟩
    exact key k h
theorem kMap_not {k : Int} (h : isKind k = false) : has kMap (kKey k) = false := by
  cases hh : has kMap (kKey k)
  · rfl
  · obtain ⟨k', h1, h2⟩ := (kMap_has _).1 hh
    have : k = k' := by unfold kKey at h2; injection h2
    rw [this, h1] at h; cases h
theorem kMap_at_not {k : Int} (h : isKind k = false) (z : KD) : kMap.atKey (kKey k) z = z := atKey_of_not_has (kMap_not h) z
end Go.Proofs.YtjjfdlgoacockaaGreat
namespace Go.Proofs.YtjjfdlgoacockaaGreat
theorem sorted_is {l m : List Int} (h : l.Perm m) (hm : m.Pairwise (· ≤ ·)) : l.mergeSort (fun x y => decide (x ≤ y)) = m := by
  have tr : ∀ a b c : Int, decide (a ≤ b) = true → decide (b ≤ c) = true → decide (a ≤ c) = true := fun a b c h1 h2 => by simp only [decide_eq_true_eq] at *; omega
  have to : ∀ a b : Int, (decide (a ≤ b) || decide (b ≤ a)) = true := fun a b => by simp only [Bool.or_eq_true, decide_eq_true_eq]; omega
  refine List.Perm.eq_of_pairwise (le := fun a b : Int => decide (a ≤ b) = true) (fun a b _ _ h1 h2 => ?_) (List.pairwise_mergeSort tr to l) (hm.imp fun h => by simpa using h) ((List.mergeSort_perm l _).trans h)
  simp only [decide_eq_true_eq] at h1 h2
  omega
def fiveK : List Int := [1, 2, 7, 9, 14]
def Gathered (left : Lit → Bool) (ks : List Int) : Prop := ks.Nodup ∧ (∀ k ∈ ks, isKind k = true) ∧ (∀ k, isKind k = true → left (kKey k) = false → k ∈ ks) ∧ ∀ k ∈ ks, left (kKey k) = false
theorem mem_five {k : Int} : k ∈ fiveK ↔ isKind k = true := by rw [isKind_iff]; simp [fiveK]
theorem gathered_start : Gathered (Maps.has kMap) [] :=
  ⟨List.nodup_nil, by simp, (fun k hk hl => by rw [(kMap_has _).2 ⟨k, hk, rfl⟩] at hl; cases hl), by simp⟩
theorem gathered_le {left : Lit → Bool} {ks : List Int} (h : Gathered left ks) : ks.length ≤ 5 :=
  List.Nodup.length_le_of_subset (l₂ := fiveK) h.1 fun k hk => mem_five.2 (h.2.1 k hk)
theorem gathered_all {left : Lit → Bool} {ks : List Int} (h : Gathered left ks) (h0 : ∀ kl, left kl = false) : ks.mergeSort (fun x y => decide (x ≤ y)) = fiveK := by
  have hp : ks.Perm fiveK := (List.perm_ext_iff_of_nodup h.1 (by decide)).2 fun k => ⟨fun hk => mem_five.2 (h.2.1 k hk), fun hk => h.2.2.1 k (mem_five.1 hk) (h0 _)⟩
  exact sorted_is hp (by unfold fiveK; decide)
theorem gathered_more {left : Lit → Bool} {ks : List Int} {k : Int} (h : Gathered left ks) (hk : isKind k = true) (hl : left (kKey k) = true) :
    Gathered (fun z => left z && !z.sameKey (kKey k)) (ks ++ [k]) := by
  have hn : k ∉ ks := fun hm => by rw [h.2.2.2 k hm] at hl; cases hl
  refine ⟨?_, ?_, ?_, ?_⟩
  · rw [List.nodup_append]
    exact ⟨h.1, by simp, fun a ha b hb => by simp at hb; subst hb; intro e; subst e; exact hn ha⟩
  · intro x hx
    simp at hx
    rcases hx with hx | rfl
    · exact h.2.1 x hx
    · exact hk
  · intro x hx hl
    by_cases e : x = k
    · subst e; simp
    · have hs : (kKey x).sameKey (kKey k) = false := Maps.sameKey_ne (kKey_ne e)
      simp only [hs] at hl
      exact List.mem_append.2 (.inl (h.2.2.1 x hx (by simpa using hl)))
  · intro x hx
    simp at hx
    rcases hx with hx | rfl
    · simp [h.2.2.2 x hx]
    · simp [WideAt.sameKey_self (kKey_ok x)]
end Go.Proofs.YtjjfdlgoacockaaGreat
namespace Go.Proofs.YtjjfdlgoacockaaGreat.M5

def prd : List Int → Int
  | [] => 1
  | d :: l => d * prd l
theorem prd_snoc (l : List Int) (d : Int) : prd (l ++ [d]) = prd l * d := by
  induction l with
  | nil => simp [prd]
  | cons x l ih => rw [List.cons_append, prd, prd, ih, Int.mul_assoc]
theorem prd_append (a b : List Int) : prd (a ++ b) = prd a * prd b := by
  induction a with
  | nil => simp [prd]
  | cons x l ih => rw [List.cons_append, prd, prd, ih, Int.mul_assoc]
theorem prd_nonneg {l : List Int} (h : ∀ x ∈ l, 0 ≤ x) : 0 ≤ prd l := by
  induction l with
  | nil => simp [prd]
  | cons x l ih => exact Int.mul_nonneg (h x (by simp)) (ih fun y hy => h y (by simp [hy]))
theorem prd_pos {l : List Int} (h : ∀ x ∈ l, 1 ≤ x) : 1 ≤ prd l := by
  induction l with
  | nil => simp [prd]
  | cons x l ih =>
    have := Int.mul_pos (a := x) (b := prd l) (by have := h x (by simp); omega) (by have := ih fun y hy => h y (by simp [hy]); omega)
    rw [prd]; omega
theorem prd_zero {l : List Int} (h : (0 : Int) ∈ l) : prd l = 0 := by
  induction l with
  | nil => cases h
  | cons x l ih =>
    rw [prd]
    rcases List.mem_cons.1 h with h | h
    · rw [← h]; simp
    · rw [ih h]; simp
theorem prd_le_mul {a b : List Int} (ha : ∀ x ∈ a, 1 ≤ x) (hb : ∀ x ∈ b, 1 ≤ x) : prd a ≤ prd (a ++ b) := by
  rw [prd_append]
  have h1 := prd_pos ha
  have h2 := prd_pos hb
  have := Int.mul_le_mul_of_nonneg_left h2 (by omega : 0 ≤ prd a)
  omega
def sz (l : List Int) : Int × Nat :=
  if 8 < l.length ∨ (∃ x ∈ l, x < 0) then (0, 6) else if (∃ x ∈ l, 65536 < x) ∨ 65536 < prd l then (0, 7) else (prd l, 0)
structure Shp (l : List Int) : Prop where
  len : l.length ≤ 8
  lo : ∀ x ∈ l, 0 ≤ x
  hi : ∀ x ∈ l, x ≤ 65536
  all : prd l ≤ 65536
theorem sz_long {l : List Int} (h : 8 < l.length) : sz l = (0, 6) := by unfold sz; rw [if_pos (.inl h)]
theorem sz_neg {l : List Int} {x : Int} (hx : x ∈ l) (h : x < 0) : sz l = (0, 6) := by unfold sz; rw [if_pos (.inr ⟨x, hx, h⟩)]
theorem sz_great {l : List Int} (h8 : l.length ≤ 8) (h0 : ∀ x ∈ l, 0 ≤ x) {x : Int} (hx : x ∈ l) (h : 65536 < x) : sz l = (0, 7) := by
  unfold sz
  rw [if_neg (by rintro (h | ⟨y, hy, h⟩); · omega
                 · have := h0 y hy; omega), if_pos (.inl ⟨x, hx, h⟩)]
theorem sz_much {l : List Int} (h8 : l.length ≤ 8) (h0 : ∀ x ∈ l, 0 ≤ x) (h : 65536 < prd l) : sz l = (0, 7) := by
  unfold sz
  rw [if_neg (by rintro (h | ⟨y, hy, h⟩); · omega
                 · have := h0 y hy; omega), if_pos (.inr h)]
theorem sz_ok {l : List Int} (h : Shp l) : sz l = (prd l, 0) := by
  unfold sz
  rw [if_neg (by rintro (h1 | ⟨y, hy, h1⟩); · have := h.len; omega
                 · have := h.lo y hy; omega), if_neg (by rintro (⟨y, hy, h1⟩ | h1); · have := h.hi y hy; omega
                                                         · have := h.all; omega)]
theorem sz_shp {l : List Int} (h : (sz l).2 = 0) : Shp l := by
  unfold sz at h
  split at h
  · simp at h
  · rename_i h1
    split at h
    · simp at h
    · rename_i h2
      exact ⟨Nat.le_of_not_lt fun h => h1 (.inl h), fun x hx => Int.not_lt.1 fun h => h1 (.inr ⟨x, hx, h⟩), fun x hx => Int.not_lt.1 fun h => h2 (.inl ⟨x, hx, h⟩), Int.not_lt.1 fun h => h2 (.inr h)⟩
theorem sz_iff {l : List Int} : (sz l).2 = 0 ↔ Shp l := ⟨sz_shp, fun h => by rw [sz_ok h]⟩
theorem sz_cases (l : List Int) : (∃ c, sz l = (0, c) ∧ (c = 6 ∨ c = 7) ∧ ¬ Shp l) ∨ (sz l = (prd l, 0) ∧ Shp l) := by
  by_cases h : (sz l).2 = 0
  · exact .inr ⟨sz_ok (sz_shp h), sz_shp h⟩
  · refine .inl ?_
    have hn := fun hs => h (sz_iff.2 hs)
    unfold sz at h ⊢
    split at h
    · rename_i h1; rw [if_pos h1]; exact ⟨6, rfl, .inl rfl, hn⟩
    · rename_i h1
      split at h
      · rename_i h2; rw [if_neg h1, if_pos h2]; exact ⟨7, rfl, .inr rfl, hn⟩
      · simp at h

def cap (l : List Int) : Int := min (prd l) 65537
theorem cap_snoc {l : List Int} (h : ∀ x ∈ l, 0 ≤ x) {d : Int} (hd : 0 ≤ d) : cap (l ++ [d]) = min (cap l * d) 65537 := by
  have h0 := prd_nonneg h
  unfold cap
  rw [prd_snoc]
  by_cases hp : prd l ≤ 65537
  · rw [Int.min_eq_left hp]
  · rw [Int.min_eq_right (by omega : (65537 : Int) ≤ prd l)]
    by_cases h1 : d = 0
    · subst h1; simp
    · have h2 : 1 ≤ d := by omega
      have e1 := Int.mul_le_mul_of_nonneg_left h2 (by omega : (0 : Int) ≤ 65537)
      have e2 := Int.mul_le_mul_of_nonneg_left h2 h0
      omega
def e (l : List Int) (i : Nat) : Int := l.reverse.getD i 1
theorem e_lt {l : List Int} {i : Nat} (h : i < l.length) : e l i = l[l.length - 1 - i] := by
  unfold e
  rw [List.getD_eq_getElem?_getD, List.getElem?_reverse h, List.getElem?_eq_getElem (by omega)]
  rfl
theorem e_ge {l : List Int} {i : Nat} (h : l.length ≤ i) : e l i = 1 := by
  unfold e
  rw [List.getD_eq_getElem?_getD, List.getElem?_eq_none (by simpa using h)]
  rfl
def okd (x y : Int) : Prop := x = y ∨ x = 1 ∨ y = 1
instance (x y : Int) : Decidable (okd x y) := by unfold okd; exact inferInstance
def bo (x y : Int) : Int := if x = 1 then y else x
def th (a b : List Int) : List Int := ((List.range (max a.length b.length)).map fun i => bo (e a i) (e b i)).reverse
theorem th_len (a b : List Int) : (th a b).length = max a.length b.length := by simp [th]
theorem th_e (a b : List Int) (i : Nat) : e (th a b) i = bo (e a i) (e b i) := by
  by_cases h : i < max a.length b.length
  · unfold e th
    rw [List.reverse_reverse, List.getD_eq_getElem?_getD, List.getElem?_map, List.getElem?_range h]
    rfl
  · rw [e_ge (l := th a b) (by rw [th_len]; omega), e_ge (l := a) (by omega), e_ge (l := b) (by omega)]
    rfl
def fit (a b : List Int) : Prop := ∀ i, i < max a.length b.length → okd (e a i) (e b i)
instance (a b : List Int) : Decidable (fit a b) := by unfold fit; exact inferInstance
theorem fit_all {a b : List Int} (h : fit a b) (i : Nat) : okd (e a i) (e b i) := by
  by_cases hi : i < max a.length b.length
  · exact h i hi
  · rw [e_ge (l := a) (by omega)]
    exact .inr (.inl rfl)
def bc (a b : List Int) : List Int × Nat :=
  if (sz a).2 ≠ 0 then ([], (sz a).2) else if (sz b).2 ≠ 0 then ([], (sz b).2) else if ¬ fit a b then ([], 6)
  else if (sz (th a b)).2 ≠ 0 then ([], (sz (th a b)).2) else (th a b, 0)
theorem bc_a {a b : List Int} {n : Int} {c : Nat} (h : sz a = (n, c)) (hc : c ≠ 0) : bc a b = ([], c) := by unfold bc; rw [h, if_pos hc]
theorem bc_b {a b : List Int} {n m : Int} {c : Nat} (ha : sz a = (m, 0)) (h : sz b = (n, c)) (hc : c ≠ 0) : bc a b = ([], c) := by unfold bc; rw [ha, h, if_neg (by simp), if_pos hc]
theorem bc_no {a b : List Int} {n m : Int} (ha : sz a = (m, 0)) (h : sz b = (n, 0)) (hf : ¬ fit a b) : bc a b = ([], 6) := by unfold bc; rw [ha, h, if_neg (by simp), if_neg (by simp), if_pos hf]
theorem bc_t {a b : List Int} {n m : Int} (ha : sz a = (m, 0)) (h : sz b = (n, 0)) (hf : fit a b) : bc a b = if (sz (th a b)).2 ≠ 0 then ([], (sz (th a b)).2) else (th a b, 0) := by
  unfold bc; rw [ha, h, if_neg (by simp), if_neg (by simp), if_neg (by simpa using hf)]
end Go.Proofs.YtjjfdlgoacockaaGreat.M5
namespace Go.Proofs.YtjjfdlgoacockaaGreat.M5

def cn : Int → List Int → List Int → Int
  | n, d :: l, x :: p => cn (n * d + x) l p
  | n, _, _ => n
def bk (l p : List Int) : List Int := List.zipWith (fun d x => if d = 1 then 0 else x) l (p.drop (p.length - l.length))
theorem bk_len {l p : List Int} (h : l.length ≤ p.length) : (bk l p).length = l.length := by simp [bk]; omega
theorem bk_at {l p : List Int} (h : l.length ≤ p.length) {k : Nat} (hk : k < l.length) : (bk l p)[k]? = some (if l[k] = 1 then 0 else p[p.length - l.length + k]) := by
  unfold bk
  rw [List.getElem?_zipWith, List.getElem?_eq_getElem hk, List.getElem?_drop, List.getElem?_eq_getElem (by omega)]
end Go.Proofs.YtjjfdlgoacockaaGreat.M5
namespace Go.Proofs.YtjjfdlgoacockaaGreat
namespace M6
open Ieee
set_option linter.unusedSectionVars false

def man (f : Format) (R : Nat) : Nat := if R < f.binade then R else f.binade + R % f.binade
def ex (f : Format) (R : Nat) : Nat := R / f.binade - 1
def val (f : Format) (R : Nat) : Nat := man f R * 2 ^ ex f R
theorem binade_pos (f : Format) : 0 < f.binade := Nat.two_pow_pos _
theorem val_step (f : Format) (R : Nat) : val f R < val f (R + 1) := by
  have hB := binade_pos f
  unfold val man ex
  generalize f.binade = B at *
  rcases Nat.lt_or_ge R B with h | h
  · rw [if_pos h, Nat.div_eq_of_lt h]
    rcases Nat.lt_or_ge (R + 1) B with h1 | h1
    · rw [if_pos h1, Nat.div_eq_of_lt h1]; simp
    · obtain rfl : R + 1 = B := by omega
      rw [if_neg (Nat.lt_irrefl _), Nat.div_self (by omega), Nat.mod_self]; simp
  · have hd := Nat.div_add_mod R B
    have hm := Nat.mod_lt R hB
    have hq : 1 ≤ R / B := (Nat.le_div_iff_mul_le hB).2 (by omega)
    generalize R / B = q at *
    generalize R % B = r at *
    rw [if_neg (by omega), if_neg (by omega)]
    have hp : 0 < 2 ^ (q - 1) := Nat.two_pow_pos _
    rcases Nat.lt_or_ge (r + 1) B with h1 | h1
    · have e1 : (R + 1) / B = q := by
        rw [← hd, Nat.add_assoc, Nat.mul_add_div hB, Nat.div_eq_of_lt h1]; omega
      have e2 : (R + 1) % B = r + 1 := by
        rw [← hd, Nat.add_assoc, Nat.mul_add_mod, Nat.mod_eq_of_lt h1]
      rw [e1, e2]
      exact Nat.mul_lt_mul_of_pos_right (by omega) hp
    · obtain rfl : r + 1 = B := by omega
      have e : R + 1 = (r + 1) * (q + 1) := by rw [Nat.mul_add, Nat.mul_one]; omega
      rw [e, Nat.mul_div_cancel_left _ hB, Nat.mul_mod_right]
      obtain ⟨j, rfl⟩ : ∃ j, q = j + 1 := ⟨q - 1, by omega⟩
      simp only [Nat.add_sub_cancel] at hp ⊢
      rw [show j + 1 = j + 1 from rfl, Nat.pow_succ]
      generalize 2 ^ j = T at *
      rw [← Nat.mul_assoc, Nat.add_zero, Nat.mul_comm _ 2, ← Nat.mul_assoc]
      exact Nat.mul_lt_mul_of_pos_right (by omega) hp
theorem val_lt {f : Format} {R S : Nat} (h : R < S) : val f R < val f S := by
  induction S with
  | zero => omega
  | succ S ih =>
    have := val_step f S
    rcases Nat.lt_or_ge R S with h1 | h1
    · exact Nat.lt_trans (ih h1) this
    · obtain rfl : R = S := by omega
      exact this
theorem val_inj {f : Format} {R S : Nat} (h : val f R = val f S) : R = S := by
  rcases Nat.lt_trichotomy R S with h1 | h1 | h1
  · have := val_lt (f := f) h1; omega
  · exact h1
  · have := val_lt (f := f) h1; omega
theorem val_zero (f : Format) : val f 0 = 0 := by
  unfold val man; rw [if_pos (binade_pos f)]; simp

theorem log2_mul_pow {a k n : Nat} (ha : a ≠ 0) (h : n = a * 2 ^ k) : n.log2 = a.log2 + k := by
  have h1 := Nat.log2_self_le ha
  have h2 := @Nat.lt_log2_self a
  have hp : 0 < 2 ^ k := Nat.two_pow_pos _
  have hn : n ≠ 0 := by
    rw [h]; exact Nat.ne_of_gt (Nat.mul_pos (Nat.pos_of_ne_zero ha) hp)
  refine (Nat.log2_eq_iff hn).2 ⟨?_, ?_⟩
  · rw [h, Nat.pow_add]; exact Nat.mul_le_mul_right _ h1
  · rw [h, Nat.add_right_comm, Nat.pow_add]; exact Nat.mul_lt_mul_of_pos_right h2 hp

theorem cut_exact {neg : Bool} {n m drop : Nat} (hm : m ≠ 0) (h : n = m * 2 ^ drop) : Toward.even.cut neg n drop = m := by
  have hl := log2_mul_pow hm h
  unfold Toward.cut
  have hmin : min drop (n.log2 + 2) = drop := by omega
  have hp : 0 < 2 ^ drop := Nat.two_pow_pos _
  rw [hmin, Nat.one_shiftLeft]
  dsimp only
  rw [h, Nat.mul_div_cancel _ hp, Nat.mul_mod_left]
  simp
theorem man_log {f : Format} {R : Nat} (h : f.binade ≤ R) : (man f R).log2 = f.fractionBits := by
  have hB := binade_pos f
  have hm := Nat.mod_lt R hB
  unfold man
  rw [if_neg (by omega)]
  refine (Nat.log2_eq_iff (by omega)).2 ⟨?_, ?_⟩
  · exact Nat.le_add_right _ _
  · rw [Nat.pow_succ]
    show f.binade + R % f.binade < f.binade * 2
    omega
theorem man_small {f : Format} {R : Nat} (h : R < f.binade) (h0 : R ≠ 0) : (man f R).log2 < f.fractionBits := by
  unfold man
  rw [if_pos h]
  exact (Nat.log2_lt h0).2 h
theorem rung_of (f : Format) (R : Nat) : ex f R * f.binade + man f R = R := by
  have hB := binade_pos f
  unfold ex man
  split
  · rename_i h; rw [Nat.div_eq_of_lt h]; simp
  · rename_i h
    have hq : 1 ≤ R / f.binade := (Nat.le_div_iff_mul_le hB).2 (by omega)
    have hd := Nat.div_add_mod R f.binade
    rw [Nat.sub_mul, Nat.one_mul, Nat.mul_comm]
    have : f.binade ≤ f.binade * (R / f.binade) := Nat.le_mul_of_pos_right _ hq
    omega
theorem man_ne {f : Format} {R : Nat} (h : R ≠ 0) : man f R ≠ 0 := by
  have := binade_pos f
  unfold man; split <;> omega
theorem nearest_exact (f : Format) (neg : Bool) (mag : Nat) (place : Int) (R p q : Nat) (hR : R < f.infRung) (h : mag * 2 ^ p = val f R * 2 ^ q) (hpq : (p : Int) - q = place - f.leastPlace) :
    f.nearest neg mag place = f.word neg R := by
  by_cases h0 : R = 0
  · subst h0
    rw [val_zero, Nat.zero_mul] at h
    have : mag = 0 := by
      rcases Nat.mul_eq_zero.1 h with h | h
      · exact h
      · exact absurd h (Nat.ne_of_gt (Nat.two_pow_pos _))
    rw [Format.nearest, if_pos this]
  · have hm0 := man_ne (f := f) h0
    have hmag : mag ≠ 0 := by
      intro e; subst e
      rw [Nat.zero_mul] at h
      have := h.symm
      unfold val at this
      have h1 : 0 < 2 ^ ex f R := Nat.two_pow_pos _
      have h2 : 0 < 2 ^ q := Nat.two_pow_pos _
      have h3 : 0 < man f R := Nat.pos_of_ne_zero hm0
      have := Nat.mul_pos (Nat.mul_pos h3 h1) h2
      omega
    have hlog : mag.log2 + p = (man f R).log2 + (ex f R + q) := by
      rw [← log2_mul_pow hmag rfl, h, val, Nat.mul_assoc, ← Nat.pow_add]
      exact log2_mul_pow hm0 rfl
    have hlast : max (place + mag.log2 - f.fractionBits) f.leastPlace = f.leastPlace + ex f R := by
      rcases Nat.lt_or_ge R f.binade with hb | hb
      · have e0 : ex f R = 0 := by unfold ex; rw [Nat.div_eq_of_lt hb]
        have := man_small hb h0
        rw [e0] at hlog ⊢
        omega
      · have := man_log hb
        rw [this] at hlog
        omega
    rw [Format.nearest, if_neg hmag]
    dsimp only
    rw [hlast]
    have hr := rung_of f R
    have hkept : Toward.even.cut neg (mag <<< (place - (f.leastPlace + ex f R)).toNat) (f.leastPlace + ex f R - place).toNat = man f R := by
      rw [val, Nat.mul_assoc, ← Nat.pow_add] at h
      rcases Nat.le_total (ex f R + q) p with hle | hle
      · obtain ⟨d, rfl⟩ := Nat.exists_eq_add_of_le hle
        have e1 : (place - (f.leastPlace + ex f R)).toNat = d := by omega
        have e2 : (f.leastPlace + ex f R - place).toNat = 0 := by omega
        rw [e1, e2, Nat.shiftLeft_eq]
        refine cut_exact hm0 ?_
        have hp : 0 < 2 ^ (ex f R + q) := Nat.two_pow_pos _
        rw [Nat.pow_add _ _ d, Nat.mul_comm (2 ^ (ex f R + q)), ← Nat.mul_assoc] at h
        rw [Nat.pow_zero, Nat.mul_one]
        exact Nat.eq_of_mul_eq_mul_right hp h
      · obtain ⟨d, hd⟩ := Nat.exists_eq_add_of_le hle
        have e1 : (place - (f.leastPlace + ex f R)).toNat = 0 := by omega
        have e2 : (f.leastPlace + ex f R - place).toNat = d := by omega
        rw [e1, e2, Nat.shiftLeft_eq]
        refine cut_exact hm0 ?_
        have hp : 0 < 2 ^ p := Nat.two_pow_pos _
        rw [hd, Nat.pow_add _ p d, Nat.mul_comm (2 ^ p), ← Nat.mul_assoc] at h
        rw [Nat.pow_zero, Nat.mul_one]
        exact Nat.eq_of_mul_eq_mul_right hp h
    rw [hkept]
    have : (f.leastPlace + ex f R - f.leastPlace).toNat = ex f R := by omega
    rw [this, hr, Nat.min_eq_left (Nat.le_of_lt hR)]

def Fin (f : Format) (x : Nat) : Prop := x % f.signWeight < f.infRung
def rung (f : Format) (x : Nat) : Nat := x % f.signWeight
def sgn (f : Format) (x : Nat) : Bool := x / f.signWeight % 2 == 1
theorem read_fin {f : Format} {x : Nat} (h : Fin f x) : f.read x = .number (sgn f x) (man f (rung f x)) (f.leastPlace + (ex f (rung f x) : Nat)) := by
  unfold Fin at h
  unfold Format.read sgn man ex rung
  dsimp only
  by_cases hb : x % f.signWeight < f.binade
  · rw [if_pos hb, if_pos hb, Nat.div_eq_of_lt hb]; simp
  · rw [if_neg hb, if_pos h, if_neg hb]
def V (f : Format) (x : Nat) : Int := if sgn f x then -(val f (rung f x) : Int) else (val f (rung f x) : Int)
theorem signed_shift (s : Bool) (m a b : Nat) : signed s m (a + b) = signed s m a * 2 ^ b := by
  unfold signed
  simp only [Nat.shiftLeft_eq, Nat.pow_add]
  split
  · rw [← Nat.mul_assoc]; push_cast; rw [Int.neg_mul]
  · rw [← Nat.mul_assoc]; push_cast; rfl
theorem compare_scale (a b : Int) (k : Nat) : compare (a * 2 ^ k) (b * 2 ^ k) = compare a b := by
  have hp : (0 : Int) < 2 ^ k := Int.pow_pos (by decide)
  rw [Int.compare_eq_ite_lt, Int.compare_eq_ite_lt]
  simp only [Int.mul_lt_mul_right hp]
theorem V_signed {f : Format} {x : Nat} : V f x = signed (sgn f x) (man f (rung f x)) (ex f (rung f x)) := by
  unfold V signed val
  simp only [Nat.shiftLeft_eq]
theorem order_fin {f : Format} {x y : Nat} (hx : Fin f x) (hy : Fin f y) : f.order x y = some (compare (V f x) (V f y)) := by
  unfold Format.order
  rw [read_fin hx, read_fin hy, V_signed, V_signed]
  unfold Datum.order
  dsimp only
  generalize ex f (rung f x) = i
  generalize ex f (rung f y) = j
  have e1 : (f.leastPlace + (i : Int) - min (f.leastPlace + (i : Int)) (f.leastPlace + (j : Int))).toNat = i - min i j := by omega
  have e2 : (f.leastPlace + (j : Int) - min (f.leastPlace + (i : Int)) (f.leastPlace + (j : Int))).toNat = j - min i j := by omega
  rw [e1, e2]
  have r (s : Bool) (m k : Nat) (h : min i j ≤ k) : signed s m k = signed s m (k - min i j) * 2 ^ min i j := by
    rw [← signed_shift, Nat.sub_add_cancel h]
  rw [r _ _ i (Nat.min_le_left _ _), r _ _ j (Nat.min_le_right _ _), compare_scale]

theorem sw_pos (f : Format) : 0 < f.signWeight := Nat.two_pow_pos _
theorem rung_word {f : Format} {s : Bool} {R : Nat} (h : R < f.signWeight) : rung f (f.word s R) = R := by
  unfold rung Format.word
  split
  · rw [Nat.add_mod_left, Nat.mod_eq_of_lt h]
  · rw [Nat.mod_eq_of_lt h]
theorem sgn_word {f : Format} {s : Bool} {R : Nat} (h : R < f.signWeight) : sgn f (f.word s R) = s := by
  have := sw_pos f
  unfold sgn Format.word
  cases s
  · simp [Nat.div_eq_of_lt h]
  · simp only [if_true]
    rw [Nat.add_comm, Nat.add_div_right _ this, Nat.div_eq_of_lt h]; rfl
theorem word_of {f : Format} {x : Nat} (h : x < 2 ^ f.width) : f.word (sgn f x) (rung f x) = x := by
  have hp := sw_pos f
  have two : 2 ^ f.width = f.signWeight * 2 := by
    unfold Format.width Format.signWeight
    rw [Nat.add_assoc, Nat.add_comm 1, Nat.pow_succ]
  have hd := Nat.div_add_mod x f.signWeight
  have hq : x / f.signWeight < 2 := by
    rw [Nat.div_lt_iff_lt_mul hp, Nat.mul_comm, ← two]; exact h
  unfold sgn rung Format.word
  generalize x / f.signWeight = q at *
  rcases (by omega : q = 0 ∨ q = 1) with rfl | rfl
  · simp at hd ⊢; omega
  · simp at hd ⊢; omega

structure Good (f : Format) (L : Nat) : Prop where
  least : f.leastPlace = -(L : Int)
  frac : f.fractionBits ≤ L
  top : L + 2 < 2 ^ f.exponentBits
  pos : 0 < f.fractionBits
theorem goodD : Good double 1074 := ⟨by decide, by decide, by decide, by decide⟩
theorem goodS : Good single 149 := ⟨by decide, by decide, by decide, by decide⟩

def rg (f : Format) (L n : Nat) : Nat := if n = 0 then 0 else (n.log2 + L - f.fractionBits) * f.binade + n * 2 ^ (f.fractionBits - n.log2)
theorem rg_parts {f : Format} {L n : Nat} (h0 : n ≠ 0) (h : n < 2 ^ (f.fractionBits + 1)) :
    n.log2 ≤ f.fractionBits ∧ f.binade ≤ rg f L n ∧ man f (rg f L n) = n * 2 ^ (f.fractionBits - n.log2) ∧ ex f (rg f L n) = n.log2 + L - f.fractionBits := by
  have hB := binade_pos f
  have hl : n.log2 ≤ f.fractionBits := by
    have := (Nat.log2_lt h0).2 h
    omega
  have hlo : f.binade ≤ n * 2 ^ (f.fractionBits - n.log2) := by
    have h1 := Nat.log2_self_le h0
    have h2 := Nat.mul_le_mul_right (2 ^ (f.fractionBits - n.log2)) h1
    rw [← Nat.pow_add, Nat.add_sub_cancel' hl] at h2
    exact h2
  have hhi : n * 2 ^ (f.fractionBits - n.log2) < 2 * f.binade := by
    have h1 := @Nat.lt_log2_self n
    have h2 := Nat.mul_lt_mul_of_pos_right h1 (Nat.two_pow_pos (f.fractionBits - n.log2))
    rw [← Nat.pow_add, show n.log2 + 1 + (f.fractionBits - n.log2) = f.fractionBits + 1 from by omega, Nat.pow_succ, Nat.mul_comm _ 2] at h2
    exact h2
  have hr : rg f L n = (n.log2 + L - f.fractionBits) * f.binade + n * 2 ^ (f.fractionBits - n.log2) := by
    unfold rg; rw [if_neg h0]
  generalize n * 2 ^ (f.fractionBits - n.log2) = m at *
  generalize n.log2 + L - f.fractionBits = e at *
  have hbig : f.binade ≤ rg f L n := by
    rw [hr]; exact Nat.le_trans hlo (Nat.le_add_left _ _)
  obtain ⟨r, rfl⟩ := Nat.exists_eq_add_of_le hlo
  have hr1 : r < f.binade := by omega
  have hr2 : rg f L n = f.binade * (e + 1) + r := by
    rw [hr, Nat.mul_add, Nat.mul_comm e, Nat.mul_one]; omega
  refine ⟨hl, hbig, ?_, ?_⟩
  · unfold man
    rw [if_neg (by omega), hr2, Nat.mul_add_mod, Nat.mod_eq_of_lt hr1]
  · unfold ex
    rw [hr2, Nat.mul_add_div hB, Nat.div_eq_of_lt hr1]; omega
theorem val_rgE {f : Format} {L n : Nat} (hL : f.fractionBits ≤ L) (h : n < 2 ^ (f.fractionBits + 1)) : val f (rg f L n) = n * 2 ^ L := by
  by_cases h0 : n = 0
  · subst h0; unfold rg; rw [if_pos rfl, val_zero]; simp
  · obtain ⟨hl, -, hm, he⟩ := rg_parts (L := L) h0 h
    rw [val, hm, he, Nat.mul_assoc, ← Nat.pow_add]
    congr 2
    omega
theorem rg_ltE {f : Format} {L n : Nat} (h : n < 2 ^ (f.fractionBits + 1)) (ht : n.log2 + L + 3 ≤ 2 ^ f.exponentBits + f.fractionBits) (hL : f.fractionBits ≤ L) : rg f L n < f.infRung := by
  have hB := binade_pos f
  by_cases h0 : n = 0
  · subst h0; unfold rg; rw [if_pos rfl]
    unfold Format.infRung
    refine Nat.mul_pos ?_ hB
    have : 0 < f.exponentBits ∨ f.exponentBits = 0 := by omega
    rcases this with h | h
    · have := Nat.one_lt_two_pow (n := f.exponentBits) (by omega); omega
    · rw [h] at ht; simp at ht; omega
  · obtain ⟨hl, hb, hm, he⟩ := rg_parts (L := L) h0 h
    have hr := rung_of f (rg f L n)
    have hmm : man f (rg f L n) < 2 * f.binade := by
      have := Nat.mod_lt (rg f L n) hB
      unfold man
      split <;> omega
    unfold Format.infRung
    have h3 : (ex f (rg f L n) + 2) * f.binade ≤ (2 ^ f.exponentBits - 1) * f.binade := by
      refine Nat.mul_le_mul_right _ ?_
      rw [he]; omega
    rw [Nat.add_mul] at h3
    omega
section
variable {f : Format} {L : Nat} (g : Good f L)
include g
theorem val_rg {n : Nat} (h : n < 2 ^ (f.fractionBits + 1)) : val f (rg f L n) = n * 2 ^ L := val_rgE g.frac h
theorem rg_lt {n : Nat} (h : n < 2 ^ (f.fractionBits + 1)) : rg f L n < f.infRung := by
  refine rg_ltE h ?_ g.frac
  have := g.top
  have := g.frac
  by_cases h0 : n = 0
  · subst h0
    rw [show Nat.log2 0 = 0 from by decide]
    have := g.pos
    omega
  · have := (Nat.log2_lt h0).2 h
    omega
theorem rg_sw {n : Nat} (h : n < 2 ^ (f.fractionBits + 1)) : rg f L n < f.signWeight := Nat.lt_trans (rg_lt g h) f.infRung_lt
end

def Num (f : Format) (L : Nat) (x : Nat) (n : Int) : Prop := ∃ s, x = f.word s (rg f L n.natAbs) ∧ (n ≠ 0 → s = decide (n < 0))
def Rep (d : Datum) (n : Int) (k : Nat) : Prop := ∃ s, d = .number s (n.natAbs * 2 ^ k) (-(k : Int)) ∧ (n ≠ 0 → s = decide (n < 0))

theorem Rep.of_int (n : Int) : Rep (.number (n < 0) n.natAbs 0) n 0 := ⟨_, by simp, fun _ => rfl⟩
theorem signed_rep {s : Bool} {n : Int} {k j : Nat} (h : n ≠ 0 → s = decide (n < 0)) : signed s (n.natAbs * 2 ^ k) j = n * 2 ^ (k + j) := by
  unfold signed
  rw [Nat.shiftLeft_eq, Nat.mul_assoc, ← Nat.pow_add]
  by_cases h0 : n = 0
  · subst h0; simp
  · rw [h h0]
    by_cases hn : n < 0
    · rw [decide_eq_true hn, if_pos rfl]; push_cast
      rw [show ((n.natAbs : Nat) : Int) = -n from by omega, Int.neg_mul, Int.neg_neg]
    · rw [decide_eq_false hn, if_neg (by simp)]; push_cast
      rw [show ((n.natAbs : Nat) : Int) = n from by omega]
theorem Rep.opposite {d : Datum} {n : Int} {k : Nat} (h : Rep d n k) : Rep d.opposite (-n) k := by
  obtain ⟨s, rfl, hs⟩ := h
  refine ⟨!s, by simp [Datum.opposite], fun h0 => ?_⟩
  rw [hs (by omega)]
  by_cases h : n < 0
  · rw [decide_eq_true h, decide_eq_false (by omega)]; rfl
  · rw [decide_eq_false h, decide_eq_true (by omega)]; rfl
theorem Rep.sum {d e : Datum} {a b : Int} {k l : Nat} (h : Rep d a k) (h2 : Rep e b l) : ∃ r, d.sum e = some r ∧ Rep r (a + b) (max k l) := by
  obtain ⟨s, rfl, hs⟩ := h
  obtain ⟨t, rfl, ht⟩ := h2
  refine ⟨_, rfl, ?_⟩
  have e1 : (-(k : Int) - min (-(k : Int)) (-(l : Int))).toNat = max k l - k := by omega
  have e2 : (-(l : Int) - min (-(k : Int)) (-(l : Int))).toNat = max k l - l := by omega
  rw [e1, e2, signed_rep hs, signed_rep ht]
  have e3 : k + (max k l - k) = max k l := by omega
  have e4 : l + (max k l - l) = max k l := by omega
  rw [e3, e4, ← Int.add_mul]
  have hp : (0 : Int) < 2 ^ max k l := Int.pow_pos (by decide)
  have e5 : min (-(k : Int)) (-(l : Int)) = -((max k l : Nat) : Int) := by omega
  rw [e5]
  generalize max k l = M at *
  refine ⟨_, by rw [Int.natAbs_mul, Int.natAbs_pow]; rfl, fun h0 => ?_⟩
  rw [if_neg (by intro h; rcases Int.mul_eq_zero.1 h with h | h <;> omega)]
  by_cases h : a + b < 0
  · rw [decide_eq_true h, decide_eq_true (Int.mul_neg_of_neg_of_pos h hp)]
  · rw [decide_eq_false h, decide_eq_false]
    have := Int.mul_nonneg (by omega : 0 ≤ a + b) (Int.le_of_lt hp)
    omega
theorem Rep.product {d e : Datum} {a b : Int} {k l : Nat} (h : Rep d a k) (h2 : Rep e b l) : ∃ r, d.product e = some r ∧ Rep r (a * b) (k + l) := by
  obtain ⟨s, rfl, hs⟩ := h
  obtain ⟨t, rfl, ht⟩ := h2
  refine ⟨_, rfl, s ^^ t, ?_, fun h0 => ?_⟩
  · congr 1
    · rw [Int.natAbs_mul, Nat.pow_add, Nat.mul_mul_mul_comm]
    · omega
  · have ha : a ≠ 0 := fun e => h0 (by rw [e]; simp)
    have hb : b ≠ 0 := fun e => h0 (by rw [e]; simp)
    rw [hs ha, ht hb]
    by_cases h1 : a < 0 <;> by_cases h2 : b < 0
    · rw [decide_eq_true h1, decide_eq_true h2, decide_eq_false]; rfl
      have := Int.mul_nonneg_of_nonpos_of_nonpos (Int.le_of_lt h1) (Int.le_of_lt h2); omega
    · rw [decide_eq_true h1, decide_eq_false h2, decide_eq_true]; rfl
      exact Int.mul_neg_of_neg_of_pos h1 (by omega)
    · rw [decide_eq_false h1, decide_eq_true h2, decide_eq_true]; rfl
      exact Int.mul_neg_of_pos_of_neg (by omega) h2
    · rw [decide_eq_false h1, decide_eq_false h2, decide_eq_false]; rfl
      have := Int.mul_nonneg (by omega : 0 ≤ a) (by omega : 0 ≤ b); omega
section
variable {f : Format} {L : Nat} (g : Good f L)
include g
theorem Rep.write {d : Datum} {n : Int} {k : Nat} (h : Rep d n k) (hn : n.natAbs < 2 ^ (f.fractionBits + 1)) : Num f L (f.write d) n := by
  obtain ⟨s, rfl, hs⟩ := h
  refine ⟨s, ?_, hs⟩
  refine nearest_exact f s _ _ _ L k (rg_lt g hn) ?_ ?_
  · rw [val_rg g hn, Nat.mul_assoc, Nat.mul_assoc, Nat.mul_comm (2 ^ k)]
  · rw [g.least]; omega
theorem Num.fin {x : Nat} {n : Int} (h : Num f L x n) (hn : n.natAbs < 2 ^ (f.fractionBits + 1)) : Fin f x := by
  obtain ⟨s, rfl, -⟩ := h
  have := rung_word (f := f) (s := s) (rg_sw g hn)
  unfold rung at this
  unfold Fin; rw [this]
  exact rg_lt g hn
theorem Num.rep {x : Nat} {n : Int} (h : Num f L x n) (hn : n.natAbs < 2 ^ (f.fractionBits + 1)) : ∃ k, Rep (f.read x) n k := by
  have hf := h.fin g hn
  obtain ⟨s, rfl, hs⟩ := h
  rw [read_fin hf, rung_word (rg_sw g hn), sgn_word (rg_sw g hn), g.least]
  by_cases h0 : n.natAbs = 0
  · refine ⟨L, s, ?_, hs⟩
    have : rg f L n.natAbs = 0 := by unfold rg; rw [if_pos h0]
    rw [this, h0]
    unfold man ex
    rw [if_pos (binade_pos f)]; simp
  · obtain ⟨hl, -, hm, he⟩ := rg_parts (L := L) h0 hn
    refine ⟨f.fractionBits - n.natAbs.log2, s, ?_, hs⟩
    rw [hm, he]
    congr 1
    have := g.frac
    omega
theorem Num.V {x : Nat} {n : Int} (h : Num f L x n) (hn : n.natAbs < 2 ^ (f.fractionBits + 1)) : V f x = n * 2 ^ L := by
  obtain ⟨s, rfl, hs⟩ := h
  unfold M6.V
  rw [rung_word (rg_sw g hn), sgn_word (rg_sw g hn), val_rg g hn]
  by_cases h0 : n = 0
  · subst h0; simp
  · rw [hs h0]
    by_cases hneg : n < 0
    · rw [decide_eq_true hneg, if_pos rfl]; push_cast
      rw [show ((n.natAbs : Nat) : Int) = -n from by omega, Int.neg_mul, Int.neg_neg]
    · rw [decide_eq_false hneg, if_neg (by simp)]; push_cast
      rw [show ((n.natAbs : Nat) : Int) = n from by omega]
theorem Num.of_V {x : Nat} {n : Int} (hx : x < 2 ^ f.width) (hv : M6.V f x = n * 2 ^ L) (hn : n.natAbs < 2 ^ (f.fractionBits + 1)) : Num f L x n := by
  have hp : (0 : Int) < 2 ^ L := Int.pow_pos (by decide)
  have ha : val f (rung f x) = n.natAbs * 2 ^ L := by
    have := congrArg Int.natAbs hv
    unfold M6.V at this
    rw [Int.natAbs_mul, Int.natAbs_pow] at this
    have h2 : Int.natAbs 2 = 2 := rfl
    rw [h2] at this
    rw [← this]
    split <;> omega
  have hr : rung f x = rg f L n.natAbs := val_inj (by rw [ha, val_rg g hn])
  refine ⟨sgn f x, by rw [← hr, word_of hx], fun h0 => ?_⟩
  unfold M6.V at hv
  have hpos : 0 < (val f (rung f x) : Int) := by
    rw [ha]; push_cast
    exact Int.mul_pos (by omega) hp
  cases hs : sgn f x
  · rw [hs, if_neg (by simp)] at hv
    rw [decide_eq_false]
    intro hneg
    have := Int.mul_neg_of_neg_of_pos hneg hp
    omega
  · rw [hs, if_pos rfl] at hv
    rw [decide_eq_true]
    refine Int.lt_of_not_ge fun hge => ?_
    have := Int.mul_nonneg hge (Int.le_of_lt hp)
    omega
theorem Num.order {x y : Nat} {a b : Int} (h : Num f L x a) (h2 : Num f L y b) (ha : a.natAbs < 2 ^ (f.fractionBits + 1)) (hb : b.natAbs < 2 ^ (f.fractionBits + 1)) :
    f.order x y = some (compare a b) := by
  rw [order_fin (h.fin g ha) (h2.fin g hb), h.V g ha, h2.V g hb, compare_scale]
theorem Num.add {x y : Nat} {a b : Int} (h : Num f L x a) (h2 : Num f L y b) (ha : a.natAbs < 2 ^ (f.fractionBits + 1)) (hb : b.natAbs < 2 ^ (f.fractionBits + 1)) (hc : (a + b).natAbs < 2 ^ (f.fractionBits + 1)) :
    ∃ r, f.add x y = some r ∧ Num f L r (a + b) := by
  obtain ⟨k, hk⟩ := h.rep g ha
  obtain ⟨l, hl⟩ := h2.rep g hb
  obtain ⟨d, hd, hr⟩ := hk.sum hl
  exact ⟨_, by unfold Format.add; rw [hd]; rfl, hr.write g hc⟩
theorem Num.sub {x y : Nat} {a b : Int} (h : Num f L x a) (h2 : Num f L y b) (ha : a.natAbs < 2 ^ (f.fractionBits + 1)) (hb : b.natAbs < 2 ^ (f.fractionBits + 1)) (hc : (a - b).natAbs < 2 ^ (f.fractionBits + 1)) :
    ∃ r, f.sub x y = some r ∧ Num f L r (a - b) := by
  obtain ⟨k, hk⟩ := h.rep g ha
  obtain ⟨l, hl⟩ := h2.rep g hb
  obtain ⟨d, hd, hr⟩ := hk.sum hl.opposite
  rw [← Int.sub_eq_add_neg] at hr
  exact ⟨_, by unfold Format.sub; rw [hd]; rfl, hr.write g hc⟩
theorem Num.mul {x y : Nat} {a b : Int} (h : Num f L x a) (h2 : Num f L y b) (ha : a.natAbs < 2 ^ (f.fractionBits + 1)) (hb : b.natAbs < 2 ^ (f.fractionBits + 1)) (hc : (a * b).natAbs < 2 ^ (f.fractionBits + 1)) :
    ∃ r, f.mul x y = some r ∧ Num f L r (a * b) := by
  obtain ⟨k, hk⟩ := h.rep g ha
  obtain ⟨l, hl⟩ := h2.rep g hb
  obtain ⟨d, hd, hr⟩ := hk.product hl
  exact ⟨_, by unfold Format.mul; rw [hd]; rfl, hr.write g hc⟩
end
end M6
end Go.Proofs.YtjjfdlgoacockaaGreat
namespace Go.Proofs.YtjjfdlgoacockaaGreat
namespace M6
open Ieee
set_option exponentiation.threshold 3000
def fz (n : Int) : Nat := floatOfInt .f64 n
def sz (n : Int) : Nat := single.write (.number (n < 0) n.natAbs 0)
abbrev D (x : Nat) (n : Int) : Prop := Num double 1074 x n
theorem two53 : 2 ^ (double.fractionBits + 1) = 9007199254740992 := by decide
theorem two24 : 2 ^ (single.fractionBits + 1) = 16777216 := by decide
theorem fz_num {n : Int} (h : n.natAbs < 9007199254740992) : D (fz n) n := by
  have h' : n.natAbs < 2 ^ (double.fractionBits + 1) := by rw [two53]; exact h
  exact (Rep.of_int n).write goodD h'
theorem sz_num {n : Int} (h : n.natAbs < 16777216) : Num single 149 (sz n) n := by
  have h' : n.natAbs < 2 ^ (single.fractionBits + 1) := by rw [two24]; exact h
  exact (Rep.of_int n).write goodS h'
theorem rg_zero (f : Format) (L : Nat) : rg f L 0 = 0 := by unfold rg; rw [if_pos rfl]
theorem D_zero {x : Nat} (h : D x 0) : x = 0 ∨ x = 9223372036854775808 := by
  obtain ⟨s, rfl, -⟩ := h
  rw [show (0 : Int).natAbs = 0 from rfl, rg_zero]
  cases s
  · exact .inl rfl
  · exact .inr (by decide)
theorem fz_zero : fz 0 = 0 := by decide +kernel
theorem sz_zero : sz 0 = 0 := by decide +kernel
theorem num_unique {f : Format} {L x y : Nat} {n : Int} (h : Num f L x n) (h2 : Num f L y n) (h0 : n ≠ 0) : x = y := by
  obtain ⟨s, rfl, hs⟩ := h
  obtain ⟨t, rfl, ht⟩ := h2
  rw [hs h0, ht h0]
theorem D_fz {x : Nat} {n : Int} (h : D x n) (h0 : n ≠ 0) (hn : n.natAbs < 9007199254740992) : x = fz n := num_unique h (fz_num hn) h0
theorem D_order {x y : Nat} {a b : Int} (h : D x a) (h2 : D y b) (ha : a.natAbs < 9007199254740992) (hb : b.natAbs < 9007199254740992) : double.order x y = some (compare a b) :=
  Num.order goodD h h2 (by rw [two53]; exact ha) (by rw [two53]; exact hb)
theorem fz_inj {a b : Int} (ha : a.natAbs < 9007199254740992) (hb : b.natAbs < 9007199254740992) (h : fz a = fz b) : a = b := by
  have h1 := Num.V goodD (fz_num ha) (by rw [two53]; exact ha)
  have h2 := Num.V goodD (fz_num hb) (by rw [two53]; exact hb)
  rw [h, h2] at h1
  have hp : (2 : Int) ^ 1074 ≠ 0 := by decide +kernel
  exact (Int.mul_eq_mul_right_iff hp).1 h1.symm
theorem wd : 2 ^ double.width = 18446744073709551616 := by decide
theorem ws : 2 ^ single.width = 4294967296 := by decide
theorem fz_lt (n : Int) : fz n < 18446744073709551616 := by
  rw [← wd]; exact double.write_lt (.number (n < 0) n.natAbs 0)
def Whole (x : Nat) : Prop := ∃ n : Int, n.natAbs ≤ 1048576 ∧ x = fz n
def lo (x : Nat) : Bool := double.order 13920626448202203136 x == some .lt || double.order 13920626448202203136 x == some .eq
def hi (x : Nat) : Bool := double.order x 4697254411347427328 == some .lt || double.order x 4697254411347427328 == some .eq
def zz (x : Nat) : Bool := double.order x 0 == some .eq
def tz (x : Nat) : Nat := double.write ((double.read x).integral .zero)
def tr (x : Nat) : Bool := double.order x (tz x) == some .eq
theorem lo_num : D 13920626448202203136 (-1048576) := by
  have : fz (-1048576) = 13920626448202203136 := by decide +kernel
  exact this ▸ fz_num (by decide)
theorem hi_num : D 4697254411347427328 1048576 := by
  have : fz 1048576 = 4697254411347427328 := by decide +kernel
  exact this ▸ fz_num (by decide)
theorem zero_num : D 0 0 := fz_zero ▸ fz_num (n := 0) (by decide)
theorem read_odd {f : Format} (hB : f.binade ≤ f.infRung) {x : Nat} (h : ¬ Fin f x) : f.read x = .infinity (sgn f x) ∨ ∃ t, f.read x = .nan (sgn f x) t := by
  unfold Fin at h
  unfold Format.read sgn
  dsimp only
  rw [if_neg (by omega), if_neg h]
  split
  · exact .inl rfl
  · exact .inr ⟨_, rfl⟩
theorem oddD {x : Nat} (h : ¬ Fin double x) : double.read x = .infinity (sgn double x) ∨ ∃ t, double.read x = .nan (sgn double x) t := read_odd (by decide) h
theorem oddS {x : Nat} (h : ¬ Fin single x) : single.read x = .infinity (sgn single x) ∨ ∃ t, single.read x = .nan (sgn single x) t := read_odd (by decide) h

theorem cmp_le {a b : Int} : ((some (compare a b) == some Ordering.lt || some (compare a b) == some .eq) = true) ↔ a ≤ b := by
  rw [Int.compare_eq_ite_lt]
  split
  · simp; omega
  · split
    · simp; omega
    · simp; omega
theorem cmp_eq {a b : Int} : ((some (compare a b) == some Ordering.eq) = true) ↔ a = b := by
  rw [Int.compare_eq_ite_lt]
  split
  · simp; omega
  · split
    · simp; omega
    · simp; omega
theorem lo_fin {x : Nat} (h : Fin double x) : lo x = true ↔ -1048576 * 2 ^ 1074 ≤ V double x := by
  have h1 := lo_num.fin goodD (by decide)
  have h2 := lo_num.V goodD (by decide)
  unfold lo
  rw [order_fin h1 h, cmp_le, h2]
theorem hi_fin {x : Nat} (h : Fin double x) : hi x = true ↔ V double x ≤ 1048576 * 2 ^ 1074 := by
  have h1 := hi_num.fin goodD (by decide)
  have h2 := hi_num.V goodD (by decide)
  unfold hi
  rw [order_fin h h1, cmp_le, h2]
theorem zz_fin {x : Nat} (h : Fin double x) : zz x = true ↔ V double x = 0 := by
  have h1 := zero_num.fin goodD (by decide)
  have h2 := zero_num.V goodD (by decide)
  unfold zz
  rw [order_fin h h1, cmp_eq, h2, Int.zero_mul]
theorem fin_of {x : Nat} (h1 : lo x = true) (h2 : hi x = true) : Fin double x := by
  refine Decidable.byContradiction (p := Fin double x) (dec := by unfold Fin; infer_instance) fun h => ?_
  have e1 := read_fin (lo_num.fin goodD (by decide))
  have e2 := read_fin (hi_num.fin goodD (by decide))
  rcases oddD h with e | ⟨t, e⟩
  · unfold lo Format.order at h1
    unfold hi Format.order at h2
    rw [e1, e] at h1
    rw [e2, e] at h2
    revert h1 h2
    cases sgn double x <;> simp [Datum.order]
  · unfold lo Format.order at h1
    rw [e1, e] at h1
    simp [Datum.order] at h1

theorem trunc_of {x : Nat} (h1 : lo x = true) (h2 : hi x = true) : ∃ n : Int, n.natAbs ≤ 1048576 ∧ D (tz x) n ∧ (double.read x).toInt .zero = some n ∧ ∀ k : Int, V double x = k * 2 ^ 1074 → n = k := by
  have hf := fin_of h1 h2
  have hlo := (lo_fin hf).1 h1
  have hhi := (hi_fin hf).1 h2
  obtain ⟨T, hT⟩ : ∃ T : Nat, Go.RowKit.Hid (T = 2 ^ 1074) := ⟨_, Lib.hid rfl⟩
  have hTi : Go.RowKit.Hid ((2 : Int) ^ 1074 = (T : Int)) := Lib.hid (by rw [hT.out]; exact (Int.natCast_pow 2 1074).symm)
  rw [hTi.out] at hlo hhi ⊢
  have hTp : 0 < T := by rw [hT.out]; exact Nat.two_pow_pos _
  have hv : val double (rung double x) ≤ 1048576 * T := by
    unfold V at hlo hhi
    cases hs : sgn double x
    · rw [hs, if_neg (by simp)] at hhi; omega
    · rw [hs, if_pos rfl] at hlo; omega
  have hr := read_fin hf
  rw [goodD.least] at hr
  have he : ex double (rung double x) ≤ 1074 := by
    refine Nat.le_of_not_lt fun hgt => ?_
    have hbig : 2 ^ 52 ≤ man double (rung double x) := by
      have : double.binade ≤ rung double x := by
        refine Nat.le_of_not_lt fun h => ?_
        unfold ex at hgt
        rw [Nat.div_eq_of_lt h] at hgt; omega
      unfold man
      rw [if_neg (by omega)]
      exact Nat.le_add_right _ _
    have h5 : T * 2 ≤ 2 ^ ex double (rung double x) := by
      rw [hT.out, ← Nat.pow_succ]; exact Nat.pow_le_pow_right (by decide) hgt
    have h3 : 2 ^ 52 * (T * 2) ≤ val double (rung double x) := Nat.mul_le_mul hbig h5
    omega
  unfold V
  unfold val at hv ⊢
  generalize man double (rung double x) = m at *
  generalize ex double (rung double x) = e at *
  generalize hsg : sgn double x = s at *
  obtain ⟨d, hd⟩ := Nat.exists_eq_add_of_le he
  have hcut : Toward.zero.cut s (m <<< (-((1074 : Nat) : Int) + (e : Int)).toNat) (-(-((1074 : Nat) : Int) + (e : Int))).toNat = m / 2 ^ d := by
    have i1 : (-((1074 : Nat) : Int) + (e : Int)).toNat = 0 := by omega
    have i2 : (-(-((1074 : Nat) : Int) + (e : Int))).toNat = d := by omega
    rw [i1, i2]
    unfold Toward.cut
    simp only [Nat.shiftLeft_zero, Nat.one_shiftLeft, Bool.toNat_false, Nat.add_zero]
    by_cases hm : m = 0
    · subst hm; simp
    · rcases Nat.le_total d (m.log2 + 2) with h | h
      · rw [Nat.min_eq_left h]
      · rw [Nat.min_eq_right h]
        have hl := @Nat.lt_log2_self m
        have a1 : m < 2 ^ (m.log2 + 2) := Nat.lt_of_lt_of_le hl (Nat.pow_le_pow_right (by decide) (by omega))
        have a2 : m < 2 ^ d := Nat.lt_of_lt_of_le a1 (Nat.pow_le_pow_right (by decide) h)
        rw [Nat.div_eq_of_lt a1, Nat.div_eq_of_lt a2]
  have hpd : 0 < 2 ^ d := Nat.two_pow_pos _
  have hpe : 0 < 2 ^ e := Nat.two_pow_pos _
  have hsplit : T = 2 ^ d * 2 ^ e := by rw [hT.out, hd, Nat.pow_add, Nat.mul_comm]
  clear hT hTi
  have hq : m / 2 ^ d ≤ 1048576 := by
    rw [hsplit, ← Nat.mul_assoc] at hv
    have := Nat.le_of_mul_le_mul_right hv hpe
    exact Nat.div_le_of_le_mul (by rw [Nat.mul_comm]; exact this)
  have hsig : ∀ (s : Bool) (q : Nat), ∃ n : Int, n.natAbs = q ∧ n = (if s then -(q : Int) else q) := by
    intro s q
    cases s
    · exact ⟨q, by omega, by simp⟩
    · exact ⟨-q, by omega, by simp⟩
  obtain ⟨n, hn, hns⟩ := hsig s (m / 2 ^ d)
  refine ⟨n, by omega, ?_, ?_, ?_⟩
  · unfold tz Datum.integral
    rw [hr]
    dsimp only
    rw [hcut]
    refine Rep.write (k := 0) goodD ⟨s, ?_, fun h0 => ?_⟩ (by rw [two53]; omega)
    · rw [hn]; simp
    · rw [hns]
      cases s
      · simp only [Bool.false_eq_true, if_false]
        rw [decide_eq_false]; exact Int.not_lt.2 (Int.natCast_nonneg _)
      · simp only [if_true]
        rw [hns] at h0
        simp only [if_true] at h0
        rw [decide_eq_true]; omega
  · unfold Datum.toInt Datum.integral
    rw [hr]
    dsimp only
    rw [hcut]
    congr 1
    unfold signed
    rw [hns, Nat.shiftLeft_zero]
  · intro k hk
    have hk2 : m * 2 ^ e = k.natAbs * (2 ^ d * 2 ^ e) := by
      have := congrArg Int.natAbs hk
      rw [Int.natAbs_mul, Int.natAbs_natCast, hsplit] at this
      rw [← this]
      split <;> omega
    rw [← Nat.mul_assoc] at hk2
    have hm := Nat.eq_of_mul_eq_mul_right hpe hk2
    have hmq : m / 2 ^ d = k.natAbs := by rw [hm, Nat.mul_div_cancel _ hpd]
    have hp : (0 : Int) < (T : Int) := by omega
    rw [hns, hmq]
    cases s
    · simp only [Bool.false_eq_true, if_false] at hk ⊢
      have : 0 ≤ k := by
        refine Int.le_of_not_gt fun hneg => ?_
        have h1 := Int.mul_neg_of_neg_of_pos hneg hp
        have h2 := Int.natCast_nonneg (m * 2 ^ e)
        rw [hk] at h2
        exact absurd h2 (by omega)
      omega
    · simp only [if_true] at hk ⊢
      have : k ≤ 0 := by
        refine Int.le_of_not_gt fun hpos => ?_
        have h1 := Int.mul_pos hpos hp
        have h2 := Int.neg_nonpos_of_nonneg (Int.natCast_nonneg (m * 2 ^ e))
        rw [hk] at h2
        exact absurd h2 (by omega)
      omega
end M6
end Go.Proofs.YtjjfdlgoacockaaGreat
namespace Go.Proofs.YtjjfdlgoacockaaGreat
namespace M6
open Ieee
set_option exponentiation.threshold 3000
theorem whole_iff {x : Nat} (hx : x < 18446744073709551616) : Whole x ↔ lo x = true ∧ hi x = true ∧ tr x = true ∧ ¬ (zz x = true ∧ 9223372036854775808 ≤ x) := by
  constructor
  · rintro ⟨n, hn, rfl⟩
    have h := fz_num (n := n) (by omega)
    have hf := h.fin goodD (by rw [two53]; omega)
    have hv := h.V goodD (by rw [two53]; omega)
    have h1 : lo (fz n) = true := by unfold lo; rw [D_order lo_num h (by decide) (by omega), cmp_le]; omega
    have h2 : hi (fz n) = true := by unfold hi; rw [D_order h hi_num (by omega) (by decide), cmp_le]; omega
    refine ⟨h1, h2, ?_, ?_⟩
    · obtain ⟨m, hm, hD, -, he⟩ := trunc_of h1 h2
      obtain rfl := he n hv
      unfold tr
      rw [D_order h hD (by omega) (by omega), cmp_eq]
    · rintro ⟨hz, hs⟩
      have : n = 0 := by
        unfold zz at hz
        rwa [D_order h zero_num (by omega) (by decide), cmp_eq] at hz
      subst this
      rw [fz_zero] at hs
      omega
  · rintro ⟨h1, h2, h3, h4⟩
    have hf := fin_of h1 h2
    obtain ⟨n, hn, hD, -, -⟩ := trunc_of h1 h2
    have hv : V double x = n * 2 ^ 1074 := by
      unfold tr at h3
      rw [order_fin hf (hD.fin goodD (by rw [two53]; omega)), cmp_eq] at h3
      rw [h3]
      exact hD.V goodD (by rw [two53]; omega)
    have hx' : D x n := Num.of_V goodD (by rw [wd]; exact hx) hv (by rw [two53]; omega)
    refine ⟨n, hn, ?_⟩
    by_cases h0 : n = 0
    · subst h0
      rcases D_zero hx' with rfl | rfl
      · exact fz_zero.symm
      · exact absurd ⟨(zz_fin hf).2 (by rw [hv, Int.zero_mul]), Nat.le_refl _⟩ h4
    · exact D_fz hx' h0 (by omega)

def Wide (v r : Nat) : Prop := r < 18446744073709551616 ∧ ∀ n : Int, n.natAbs ≤ 1048576 → (r = fz n ↔ v = sz n)
theorem sz_num' {n : Int} (h : n.natAbs ≤ 1048576) : Num single 149 (sz n) n := sz_num (by omega)
theorem fz_num' {n : Int} (h : n.natAbs ≤ 1048576) : D (fz n) n := fz_num (by omega)
theorem fz_fin {n : Int} (h : n.natAbs ≤ 1048576) : Fin double (fz n) := (fz_num' h).fin goodD (by rw [two53]; omega)
theorem sz_fin {n : Int} (h : n.natAbs ≤ 1048576) : Fin single (sz n) := (sz_num' h).fin goodS (by rw [two24]; omega)
theorem wide_odd {v r : Nat} (hr : r < 18446744073709551616) (h1 : ¬ Fin single v) (h2 : ¬ Fin double r) : Wide v r :=
  ⟨hr, fun _ hn => ⟨fun e => absurd (e ▸ fz_fin hn) h2, fun e => absurd (e ▸ sz_fin hn) h1⟩⟩
theorem fz_word (n : Int) (h : n.natAbs ≤ 1048576) : fz n = double.word (decide (n < 0)) (rg double 1074 n.natAbs) := by
  by_cases h0 : n = 0
  · subst h0; rw [fz_zero]; rfl
  · obtain ⟨s, e, hs⟩ := fz_num' h
    rw [e, hs h0]
theorem sz_word (n : Int) (h : n.natAbs ≤ 1048576) : sz n = single.word (decide (n < 0)) (rg single 149 n.natAbs) := by
  by_cases h0 : n = 0
  · subst h0; rw [sz_zero]; rfl
  · obtain ⟨s, e, hs⟩ := sz_num' h
    rw [e, hs h0]
theorem widen {v : Nat} (hv : v < 4294967296) (hf : Fin single v) : Fin double (double.write (single.read v)) ∧ Wide v (double.write (single.read v)) := by
  have hr := read_fin hf
  rw [goodS.least] at hr
  have hw := word_of (f := single) (x := v) (by rw [ws]; exact hv)
  have hm : man single (rung single v) < 2 ^ (double.fractionBits + 1) := by
    rw [two53]
    have h1 := Nat.mod_lt (rung single v) (binade_pos single)
    have h2 : single.binade = 8388608 := by decide
    unfold man
    split <;> omega
  have he : ex single (rung single v) ≤ 253 := by
    have h1 : rung single v < 2139095040 := hf
    unfold ex
    rw [show single.binade = 8388608 from by decide]
    have := Nat.div_le_div_right (c := 8388608) (Nat.le_of_lt h1)
    omega
  have hlog : (man single (rung single v)).log2 ≤ 52 := by
    by_cases h0 : man single (rung single v) = 0
    · rw [h0]; decide
    · have := (Nat.log2_lt h0).2 hm
      have h3 : double.fractionBits = 52 := rfl
      omega
  have hval : val single (rung single v) = man single (rung single v) * 2 ^ ex single (rung single v) := rfl
  rw [hr]
  generalize man single (rung single v) = m at *
  generalize ex single (rung single v) = e at *
  have hE : double.fractionBits ≤ 925 + e := by
    have h3 : double.fractionBits = 52 := rfl
    omega
  have hR : rg double (925 + e) m < double.infRung := by
    refine rg_ltE hm ?_ hE
    have h3 : double.fractionBits = 52 := rfl
    have h4 : 2 ^ double.exponentBits = 2048 := by decide
    omega
  have hvR := val_rgE hE hm
  have hwr : double.write (.number (sgn single v) m (-((149 : Nat) : Int) + (e : Int))) = double.word (sgn single v) (rg double (925 + e) m) := by
    refine nearest_exact double _ _ _ _ (925 + e) 0 hR ?_ ?_
    · rw [hvR]; simp
    · rw [goodD.least]; omega
  rw [hwr]
  have hsw : rg double (925 + e) m < double.signWeight := Nat.lt_trans hR double.infRung_lt
  refine ⟨?_, ?_, fun n hn => ?_⟩
  · unfold Fin
    have := rung_word (s := sgn single v) hsw
    unfold rung at this
    rw [this]; exact hR
  · rw [← wd]; exact double.word_lt _ hsw
  · rw [fz_word n hn, sz_word n hn]
    have hd : rg double 1074 n.natAbs < double.signWeight := rg_sw goodD (by rw [two53]; omega)
    have hs : rg single 149 n.natAbs < single.signWeight := rg_sw goodS (by rw [two24]; omega)
    have hkey : m * 2 ^ (925 + e) = n.natAbs * 2 ^ 1074 ↔ m * 2 ^ e = n.natAbs * 2 ^ 149 := by
      have hp : 0 < 2 ^ 925 := Nat.two_pow_pos _
      rw [show (2 : Nat) ^ 1074 = 2 ^ 925 * 2 ^ 149 from by rw [← Nat.pow_add], Nat.pow_add, Nat.mul_left_comm m, Nat.mul_left_comm n.natAbs]
      exact Nat.mul_right_inj (Nat.ne_of_gt hp)
    constructor
    · intro h
      have h1 := congrArg (sgn double) h
      have h2 := congrArg (rung double) h
      rw [sgn_word hsw, sgn_word hd] at h1
      rw [rung_word hsw, rung_word hd] at h2
      have h3 := congrArg (val double) h2
      rw [hvR, val_rg goodD (by rw [two53]; omega), hkey, ← hval] at h3
      have h4 : rung single v = rg single 149 n.natAbs := val_inj (by rw [h3, val_rg goodS (by rw [two24]; omega)])
      rw [← hw, h1, h4]
    · intro h
      have h1 := congrArg (sgn single) h
      have h2 := congrArg (rung single) h
      rw [sgn_word hs] at h1
      rw [rung_word hs] at h2
      have h3 := congrArg (val single) h2
      rw [val_rg goodS (by rw [two24]; omega), hval, ← hkey, ← hvR] at h3
      have h4 : rg double (925 + e) m = rg double 1074 n.natAbs := val_inj (by rw [h3, val_rg goodD (by rw [two53]; omega)])
      rw [h1, h4]
end M6
end Go.Proofs.YtjjfdlgoacockaaGreat
