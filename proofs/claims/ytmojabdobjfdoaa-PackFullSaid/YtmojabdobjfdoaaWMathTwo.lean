/- Plain bytes of layer 2: the writing of a field, and that it is read as it was. No program is imported. -/
import Derived.Test.YtmojabdobjfdoaaWMath
namespace Go.Proofs.Ytmojabdobjfdoaa.M2
open M1

/-- P2.1: a field's least writing. -/
def fb (f : WFd) : ByteArray :=
  if mayB f.num f.typ = false then ⟨#[]⟩
  else if f.typ = 0 then ps (8 * f.num + f.typ).toNat ++ ps f.n
  else if f.typ = 1 then ps (8 * f.num + f.typ).toNat ++ hs 8 f.n
  else if f.typ = 2 then ps (8 * f.num + f.typ).toNat ++ ps f.data.size ++ f.data
  else if 4294967295 < f.n then ⟨#[]⟩ else ps (8 * f.num + f.typ).toNat ++ hs 4 f.n
theorem ps_le (v : Nat) : (ps v).size ≤ 10 := by rw [ps_size]; exact sizeN_le _ _
theorem fb_le (f : WFd) : (fb f).size ≤ 20 + f.data.size := by
  unfold fb
  have h1 := ps_le (8 * f.num + f.typ).toNat
  have h2 := ps_le f.n
  have h3 := ps_le f.data.size
  have h4 := hs_size 8 f.n
  have h5 := hs_size 4 f.n
  split
  · exact Nat.zero_le _
  · split
    · rw [ByteArray.size_append]; omega
    · split
      · rw [ByteArray.size_append]; omega
      · split
        · rw [ByteArray.size_append, ByteArray.size_append]; omega
        · split
          · exact Nat.zero_le _
          · rw [ByteArray.size_append]; omega

/-- what plays no part is zero -/
def norm (f : WFd) : WFd := if f.typ = 2 then ⟨f.num, f.typ, 0, f.data⟩ else ⟨f.num, f.typ, f.n, ⟨#[]⟩⟩
theorem ba_eq {a b : ByteArray} (h : a.data.toList = b.data.toList) : a = b := ByteArray.ext (Array.ext' h)
theorem rest_app (a b : ByteArray) : rest (a ++ b) a.size = b := by
  apply ba_eq
  rw [rest_list]
  simp
/-- a least writing is read as it was -/
theorem rd_ps {v : Nat} (hv : Fits64 v) (t : ByteArray) : rd (ps v ++ t) = (v, (ps v).size, 0) := by
  rw [rd_back hv (ps v) t rfl, ps_size]
theorem take_app (a b : ByteArray) : (a ++ b).data.toList.take a.size = a.data.toList := by simp
theorem rl_hs {k v : Nat} (h : v < pb k) (t : ByteArray) : rl (hs k v ++ t) k = (v, k, 0) := by
  have hz := hs_size k v
  unfold rl
  rw [if_neg (by rw [ByteArray.size_append]; omega)]
  have h1 := take_app (hs k v) t
  rw [hz] at h1
  rw [h1, hs_list, low_hi_fit h]
theorem rt_ps {D : ByteArray} (h : Fits64 D.size) (t : ByteArray) : rt (ps D.size ++ D ++ t) = (D, (ps D.size).size + D.size, 0) := by
  unfold rt
  have e : ps D.size ++ D ++ t = ps D.size ++ (D ++ t) := by apply ba_eq; simp
  rw [e, rd_ps h]
  simp only
  rw [if_neg (by omega), if_neg (by rw [ByteArray.size_append, ByteArray.size_append]; omega)]
  congr 1
  apply ba_eq
  have h1 := cut_list (ps D.size ++ (D ++ t)) (ps D.size).size D.size
  rw [h1]
  have h2 := rest_app (ps D.size) (D ++ t)
  unfold rest at h2
  rw [h2]
  exact take_app D t
theorem pb4 : pb 4 = 4294967296 := rfl
theorem pb8 : pb 8 = 18446744073709551616 := rfl
theorem one_fb {f : WFd} (hn : Fits64 f.n) (hD : Fits64 f.data.size) (h : fb f ≠ ⟨#[]⟩) (t : ByteArray) : one (fb f ++ t) = (norm f, (fb f).size, 0) ∧ 0 < (fb f).size := by
  obtain ⟨num, typ, n, D⟩ := f
  simp only at hn hD
  by_cases hm : mayB num typ = false
  · exact absurd (by unfold fb; rw [if_pos hm]) h
  · have hm1 : mayB num typ = true := by simpa using hm
    have hm2 := hm1
    unfold mayB at hm2
    rw [decide_eq_true_iff] at hm2
    obtain ⟨k, rfl⟩ := Int.eq_ofNat_of_zero_le (show 0 ≤ num by omega)
    obtain ⟨j, rfl⟩ := Int.eq_ofNat_of_zero_le (show 0 ≤ typ by omega)
    have hv : (8 * (k : Int) + (j : Int)).toNat = 8 * k + j := by omega
    have h1 : (8 * k + j) / 8 = k := by omega
    have h2 : (8 * k + j) % 8 = j := by omega
    have h64 : Fits64 (8 * k + j) := by unfold Fits64; omega
    have hcast : mayB (((8 * k + j : Nat) : Int) / 8) (((8 * k + j : Nat) : Int) % 8) = true := by
      have e1 : ((8 * k + j : Nat) : Int) / 8 = (k : Int) := by omega
      have e2 : ((8 * k + j : Nat) : Int) % 8 = (j : Int) := by omega
      rw [e1, e2]; exact hm1
    have key : ∀ (P : ByteArray) (N : Nat) (E : ByteArray), fb ⟨k, j, n, D⟩ = ps (8 * k + j) ++ P → pay j (P ++ t) = (N, E, P.size, 0) → norm ⟨k, j, n, D⟩ = ⟨k, j, N, E⟩ →
        one (fb ⟨k, j, n, D⟩ ++ t) = (norm ⟨k, j, n, D⟩, (fb ⟨k, j, n, D⟩).size, 0) ∧ 0 < (fb ⟨k, j, n, D⟩).size := by
      intro P N E hf hp hnm
      have e : fb ⟨k, j, n, D⟩ ++ t = ps (8 * k + j) ++ (P ++ t) := by rw [hf]; apply ba_eq; simp
      have hr := rd_ps h64 (P ++ t)
      have hs0 : 0 < (ps (8 * k + j)).size := by
        have := rd_pos (s := ps (8 * k + j) ++ (P ++ t)) (by rw [hr])
        rw [hr] at this
        exact this
      have hy := one_yes hr hcast N E P.size 0 (by rw [h2, rest_app]; exact hp)
      rw [e, hy, hnm, hf, ByteArray.size_append]
      refine ⟨?_, by omega⟩
      simp only [if_true]
      have e1 : ((8 * k + j : Nat) : Int) / 8 = (k : Int) := by omega
      have e2 : ((8 * k + j : Nat) : Int) % 8 = (j : Int) := by omega
      rw [e1, e2]
    have hj : j = 0 ∨ j = 1 ∨ j = 2 ∨ j = 5 := by omega
    rcases hj with rfl | rfl | rfl | rfl
    · have hm3 : mayB (k : Int) (0 : Int) = true := hm1
      refine key (ps n) n ⟨#[]⟩ (by unfold fb; simp [hm3]; rw [show (8 * (k : Int)).toNat = 8 * k by omega]) ?_ (by simp [norm])
      have := rd_ps hn t
      simp [pay, this]
    · have hm3 : mayB (k : Int) (1 : Int) = true := hm1
      refine key (hs 8 n) n ⟨#[]⟩ (by unfold fb; simp [hm3]; rw [show (8 * (k : Int) + 1).toNat = 8 * k + 1 by omega]) ?_ (by simp [norm])
      have := rl_hs (k := 8) (v := n) (by rw [pb8]; exact hn) t
      simp [pay, this, hs_size]
    · have hm3 : mayB (k : Int) (2 : Int) = true := hm1
      refine key (ps D.size ++ D) 0 D (by unfold fb; simp [hm3]; rw [show (8 * (k : Int) + 2).toNat = 8 * k + 2 by omega]; apply ba_eq; simp) ?_ (by simp [norm])
      have := rt_ps hD t
      simp [pay, this]
    · have hm3 : mayB (k : Int) (5 : Int) = true := hm1
      by_cases hmax : 4294967295 < n
      · exact absurd (by unfold fb; simp [hm3, hmax]) h
      · refine key (hs 4 n) n ⟨#[]⟩ (by unfold fb; simp [hm3, hmax]; rw [show (8 * (k : Int) + 5).toNat = 8 * k + 5 by omega]) ?_ (by simp [norm])
        have := rl_hs (k := 4) (v := n) (by rw [pb4]; omega) t
        simp [pay, this, hs_size]

/-- fields one behind the other; those that have no writing are passed over -/
def cat : List WFd → ByteArray
  | [] => ⟨#[]⟩
  | f :: l => fb f ++ cat l
def hasB (f : WFd) : Bool := decide ((fb f).size ≠ 0)
theorem hasB_no {f : WFd} (h : (fb f).size = 0) : hasB f = false := by unfold hasB; rw [decide_eq_false_iff_not]; omega
theorem hasB_yes {f : WFd} (h : ¬ (fb f).size = 0) : hasB f = true := by unfold hasB; rw [decide_eq_true_iff]; omega
def wanted (l : List WFd) : List WFd := (l.filter hasB).map norm
theorem fb_nil {f : WFd} (h : (fb f).size = 0) : fb f = ⟨#[]⟩ := by
  apply ba_eq
  have : (fb f).data.toList.length = 0 := by simpa using h
  rw [List.length_eq_zero_iff.1 this]
def FitsF (f : WFd) : Prop := Fits64 f.n ∧ Fits64 f.data.size
theorem flw_cat (l : List WFd) (h : ∀ f ∈ l, FitsF f) : flw (cat l) = (wanted l, 0) := by
  have H : ∀ (l : List WFd), (∀ f ∈ l, FitsF f) → ∀ acc, jn acc (flw (cat l)) = (acc ++ wanted l, 0) := by
    intro l
    induction l with
    | nil =>
      intro _ acc
      have : flw (cat []) = ([], 0) := flw_end rfl
      rw [this]; simp [jn, wanted]
    | cons f l ih =>
      intro hl acc
      have hf := hl f (by simp)
      have hl' : ∀ g ∈ l, FitsF g := fun g hg => hl g (by simp [hg])
      by_cases h0 : (fb f).size = 0
      · have e : cat (f :: l) = cat l := by
          rw [cat, fb_nil h0]; apply ba_eq; simp
        have e2 : wanted (f :: l) = wanted l := by simp [wanted, hasB_no h0]
        rw [e, e2]; exact ih hl' acc
      · have hne : fb f ≠ ⟨#[]⟩ := by intro he; rw [he] at h0; exact h0 rfl
        obtain ⟨h1, h2⟩ := one_fb hf.1 hf.2 hne (cat l)
        have hs := flw_step (s := fb f ++ cat l) (by rw [ByteArray.size_append]; omega) (by rw [h1]) acc
        rw [h1] at hs
        simp only at hs
        rw [rest_app] at hs
        rw [cat, hs, ih hl']
        simp [wanted, hasB_yes h0]
  have := H l h []
  rw [jn_nil] at this
  simpa using this
theorem cat_snoc (l : List WFd) (f : WFd) : cat (l ++ [f]) = cat l ++ fb f := by
  induction l with
  | nil => apply ba_eq; simp [cat]
  | cons g l ih => rw [List.cons_append, cat, ih, cat]; apply ba_eq; simp
theorem wanted_snoc (l : List WFd) (f : WFd) : wanted (l ++ [f]) = if (fb f).size = 0 then wanted l else wanted l ++ [norm f] := by
  unfold wanted
  rw [List.filter_append, List.map_append]
  by_cases h : (fb f).size = 0
  · rw [if_pos h]; simp [hasB_no h]
  · rw [if_neg h]; simp [hasB_yes h]
end Go.Proofs.Ytmojabdobjfdoaa.M2
