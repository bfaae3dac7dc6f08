/- The walk of Mul. -/
import Derived.Test.YtngjpgdgipmieaaGOut
import Derived.Test.YtngjpgdgipmieaaRow
namespace Go.Proofs.Ytngjpgdgipmieaa
open Go.RowKit M6
/-- what of whole numbers' sums, differences, products comes -/
def res (ok : Bool) (n m : Int) : Int × Int × Int := if ok then oc n m else (0, 0, 17)
/-- a call's answer: a number and a code -/
def NRes (r : Int × Int × Int) (w : World) (e : Ending) (w' : World) : Prop := e = .returned (.tuple #[.complex .f64 (fz r.1) (fz r.2.1), .int .i64 r.2.2]) ∧ Below w.heap.size w w'
theorem whole_small {n : Int} (hn : n.natAbs < 9007199254740992) : wb (fz n) = decide (n.natAbs ≤ 1048576) := by
  by_cases h : n.natAbs ≤ 1048576
  · rw [whole_fz h, decide_eq_true h]
  · rw [decide_eq_false h, Bool.eq_false_iff]
    intro hw
    obtain ⟨i, hi, e⟩ := (wb_iff (fz_lt n)).1 hw
    have := fz_inj hn (by omega) e
    omega
theorem lit_two (w : World) (a b : Nat × Nat) (T : TypeId) : SR (w.alloc (.cells #[.complex .f64 a.1 a.2, .complex .f64 b.1 b.2] T)) (w.alloc (.cells #[.complex .f64 a.1 a.2, .complex .f64 b.1 b.2] T)).heap.size 1 (some ⟨w.heap.size, 0, none⟩) [a, b].length (cv [a, b]) := by
  have h := SR.lit w (cv [a, b]) T (size := 1) (n := 2) rfl
  rw [show (cv [a, b]).toArray = #[.complex .f64 a.1 a.2, .complex .f64 b.1 b.2] from rfl] at h
  simpa using h
theorem lit_one (w : World) (a : Nat × Nat) (T : TypeId) : SR (w.alloc (.cells #[.complex .f64 a.1 a.2] T)) (w.alloc (.cells #[.complex .f64 a.1 a.2] T)).heap.size 1 (some ⟨w.heap.size, 0, none⟩) [a].length (cv [a]) := by
  have h := SR.lit w (cv [a]) T (size := 1) (n := 1) rfl
  rw [show (cv [a]).toArray = #[.complex .f64 a.1 a.2] from rfl] at h
  simpa using h
theorem fit_two {a b : Nat × Nat} (h1 : a.1 < 18446744073709551616 ∧ a.2 < 18446744073709551616) (h2 : b.1 < 18446744073709551616 ∧ b.2 < 18446744073709551616) : fit [a, b] := by
  intro p hp
  simp only [List.mem_cons, List.not_mem_nil, or_false] at hp
  rcases hp with rfl | rfl
  · exact h1
  · exact h2
theorem fz_pair (a b : Int) : ((fz a, fz b) : Nat × Nat).1 < 18446744073709551616 ∧ ((fz a, fz b) : Nat × Nat).2 < 18446744073709551616 := ⟨fz_lt a, fz_lt b⟩
def ok2 (a b c d : Int) : Bool := decide (a.natAbs ≤ 1048576) && decide (b.natAbs ≤ 1048576) && (decide (c.natAbs ≤ 1048576) && decide (d.natAbs ≤ 1048576))
set_option maxRecDepth 100000 in
theorem gmul_no (a b : Nat × Nat) (w : World) (ha : a.1 < 18446744073709551616 ∧ a.2 < 18446744073709551616) (hb : b.1 < 18446744073709551616 ∧ b.2 < 18446744073709551616) (h : wp2 a = false ∨ wp2 b = false) :
    Calls Try.prog 57 #[.complex .f64 a.1 a.2, .complex .f64 b.1 b.2] w (NRes (0, 0, 17) w) := by
  obtain ⟨re, im, n, hop⟩ := run_complex_any (P := Try.prog) w .mul (.inr (.inr rfl)) 50 a.1 a.2 b.1 b.2
  have HC := Lib.hid (out_no re im _ 2 [a, b] _ (by unfold maxLen; simp) (fit_two ha hb) (lit_two (w.drewN n) a b 50) (by rcases h with h | h; exact ⟨a, by simp, h⟩; exact ⟨b, by simp, h⟩))
  clear ha hb h
  go_enter Try.func57, Try.ntmps57
  go_wp2_with fail
  refine HC.out.mono ?_; rintro e w1 ⟨rfl, rfl⟩; go_wp2_with fail
  go_ret2
  unfold NRes
  rw [fz_zero]
  exact ⟨rfl, (below_drewN (Below.refl _ _) n).alloc (Nat.le_refl _) _⟩
set_option maxRecDepth 100000 in
theorem gmul_any (a b c d : Int) (w : World) (ha : a.natAbs < 9007199254740992) (hb : b.natAbs < 9007199254740992) (hc : c.natAbs < 9007199254740992) (hd : d.natAbs < 9007199254740992) :
    Calls Try.prog 57 #[.complex .f64 (fz a) (fz b), .complex .f64 (fz c) (fz d)] w (NRes (res (ok2 a b c d) (a * c - b * d) (a * d + b * c)) w) := by
  by_cases h : ok2 a b c d = true
  · have e : res (ok2 a b c d) (a * c - b * d) (a * d + b * c) = oc (a * c - b * d) (a * d + b * c) := by rw [res, if_pos h]
    rw [e]
    unfold ok2 at h
    simp only [Bool.and_eq_true, decide_eq_true_iff] at h
    obtain ⟨⟨h1, h2⟩, h3, h4⟩ := h
    obtain ⟨x, y, hop, hx, hy⟩ := run_mul_D (P := Try.prog) w 50 (fz_num ha) (fz_num hb) (fz_num hc) (fz_num hd) h1 h2 h3 h4
    have m1 := small_mul h1 h3
    have m2 := small_mul h2 h4
    have m3 := small_mul h1 h4
    have m4 := small_mul h2 h3
    have HC := Lib.hid (out_yes x y (a * c - b * d) (a * d + b * c) _ 2 [(fz a, fz b), (fz c, fz d)] _ (by unfold maxLen; simp) (fit_two (fz_pair a b) (fz_pair c d)) (lit_two w (fz a, fz b) (fz c, fz d) 50)
      (by intro p hp; simp only [List.mem_cons, List.not_mem_nil, or_false] at hp; rcases hp with rfl | rfl; (simp only [wp2, whole_fz h1, whole_fz h2]; rfl); (simp only [wp2, whole_fz h3, whole_fz h4]; rfl)) hx hy (by omega) (by omega))
    generalize oc (a * c - b * d) (a * d + b * c) = r at *
    clear m1 m2 m3 m4 h1 h2 h3 h4 ha hb hc hd hx hy
    generalize fz a = xa at *
    generalize fz b = xb at *
    generalize fz c = xc at *
    generalize fz d = xd at *
    go_enter Try.func57, Try.ntmps57
    go_wp2_with fail
    refine HC.out.mono ?_; rintro e w1 ⟨rfl, rfl⟩; go_wp2_with fail
    go_ret2
    exact ⟨rfl, (Below.refl _ _).alloc (Nat.le_refl _) _⟩
  · have e : res (ok2 a b c d) (a * c - b * d) (a * d + b * c) = (0, 0, 17) := by rw [res, if_neg h]
    rw [e]
    refine gmul_no (fz a, fz b) (fz c, fz d) w (fz_pair a b) (fz_pair c d) ?_
    unfold wp2
    rw [whole_small ha, whole_small hb, whole_small hc, whole_small hd]
    unfold ok2 at h
    cases h1 : (decide (a.natAbs ≤ 1048576) && decide (b.natAbs ≤ 1048576))
    · exact .inl rfl
    · rw [h1] at h
      refine .inr ?_
      simpa using h
end Go.Proofs.Ytngjpgdgipmieaa
