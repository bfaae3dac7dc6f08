/- The walks of plainZero, outcome, Add, Sub, Mul, Neg. -/
import Derived.Test.YtngjpgdgipmieaaGArith
import Derived.Test.YtngjpgdgipmieaaGPutTwo
import Derived.Test.YtngjpgdgipmieaaInts
namespace Go.Proofs.Ytngjpgdgipmieaa
open Go.RowKit M6

theorem d_zero {x : Nat} (h : D x 0) : FloatKind.f64.format.order x 0 = some .eq := by
  have := D_order h zero_num (by decide) (by decide)
  exact this
theorem d_not_zero {x : Nat} {n : Int} (h : D x n) (h0 : n ≠ 0) (hn : n.natAbs < 9007199254740992) : ¬ FloatKind.f64.format.order x 0 = some .eq := by
  have h2 : FloatKind.f64.format.order x 0 = some (compare n 0) := D_order h zero_num hn (by decide)
  rw [h2, Int.compare_eq_ite_lt]
  split
  · simp
  · split
    · simp
    · omega
set_option maxRecDepth 100000 in
theorem plain_any (x : Nat) (n : Int) (w : World) (h : D x n) (hn : n.natAbs < 9007199254740992) :
    Calls Try.prog 74 #[.float .f64 x] w fun e w' => e = .returned (.float .f64 (fz n)) ∧ w = w' := by
  by_cases h0 : n = 0
  · subst h0
    rw [fz_zero]
    have hz := d_zero h
    go_enter Try.func74, Try.ntmps74
    go_wp2_with fail
    go_ret
    exact ⟨rfl, rfl⟩
  · have hz := d_not_zero h h0 hn
    obtain rfl := D_fz h h0 hn
    generalize fz n = x at *
    have hz2 : (FloatKind.f64.format.order x 0 == some .eq) = false := by rw [beq_eq_false_iff_ne]; exact hz
    clear h hn h0
    go_enter Try.func74, Try.ntmps74
    go_wp2_with fail
    go_ret
    exact ⟨rfl, rfl⟩

/-- complex numbers as cells -/
def cv (l : List (Nat × Nat)) : List Value := l.map fun p => .complex .f64 p.1 p.2
def wp2 (p : Nat × Nat) : Bool := wb p.1 && wb p.2
def fit (l : List (Nat × Nat)) : Prop := ∀ p ∈ l, p.1 < 18446744073709551616 ∧ p.2 < 18446744073709551616
theorem fit_at {l : List (Nat × Nat)} (h : fit l) {k : Nat} (hk : k < l.length) : l[k].1 < 18446744073709551616 ∧ l[k].2 < 18446744073709551616 := h _ (List.getElem_mem hk)

set_option maxRecDepth 100000 in
/-- one of what it came of is no number -/
theorem out_no (x y : Nat) (A : Option Addr) (c : Nat) (l : List (Nat × Nat)) (w : World) (hl : l.length ≤ maxLen) (hf : fit l) (hs : SR w w.heap.size 1 A l.length (cv l)) (hno : ∃ p ∈ l, wp2 p = false) :
    Calls Try.prog 68 #[.complex .f64 x y, .slice A l.length c] w fun e w' => e = .returned (.tuple #[.complex .f64 0 0, .int .i64 17]) ∧ w = w' := by
  have HNO := Lib.hid hno
  have HF := Lib.hid hf
  clear hno hf
  unfold maxLen at hl
  go_enter Try.func68, Try.ntmps68
  go_wp2_with fail
  go_loop [12] (fun i => ∃ (k : Nat) (K : Int), i = .int .i64 K ∧ K = k ∧ k ≤ l.length ∧ Hid (∀ j, (h : j < k) → (h2 : j < l.length) → wp2 l[j] = true)) (fun i => l.length - (intOf i).toNat)
  case atStart => exact ⟨0, _, rfl, rfl, by omega, Lib.hid (fun j h => absurd h (by omega))⟩
  case round =>
    obtain ⟨k, K, rfl, rfl, hk, HY⟩ := hrel
    by_cases hlt : k < l.length
    · obtain ⟨b, o, rfl, hb, hc⟩ := cell_at hs hlt (u := .complex .f64 l[k].1 l[k].2) (by simp [cv, hlt])
      by_cases hw : wp2 l[k] = true
      · have HC := Lib.hid (checked_yes l[k].1 l[k].2 w (fit_at HF.out hlt).1 (fit_at HF.out hlt).2 (by unfold wp2 at hw; simp at hw; exact hw.1) (by unfold wp2 at hw; simp at hw; exact hw.2))
        have HYY : Hid (∀ j, (h : j < k + 1) → (h2 : j < l.length) → wp2 l[j] = true) := Lib.hid (fun j h h2 => by
          by_cases e : j < k
          · exact HY.out j e h2
          · obtain rfl : j = k := by omega
            exact hw)
        clear hw
        go_wp2_with fail
        refine HC.out.mono ?_; rintro e w1 ⟨rfl, rfl⟩; go_wp2_with fail
        go_round
        case rel => exact ⟨k + 1, _, rfl, by omega, by omega, HYY⟩
        case measure => simp [intOf]; omega
      · have HC := Lib.hid (checked_no l[k].1 l[k].2 w (fit_at HF.out hlt).1 (fit_at HF.out hlt).2 (by unfold wp2 at hw; simp at hw; cases h1 : wb l[k].1 <;> simp [h1] at hw ⊢; exact hw))
        clear hw
        go_wp2_with fail
        refine HC.out.mono ?_; rintro e w1 ⟨rfl, rfl⟩; go_wp2_with fail
        go_ret2
        exact ⟨rfl, rfl⟩
    · exfalso
      obtain ⟨p, hp, hpf⟩ := HNO.out
      obtain ⟨j, hj, rfl⟩ := List.getElem_of_mem hp
      have := HY.out j (by omega) hj
      rw [hpf] at this
      cases this

/-- what came of numbers -/
def oc (n m : Int) : Int × Int × Int := if n.natAbs ≤ 1048576 ∧ m.natAbs ≤ 1048576 then (n, m, 0) else (0, 0, 17)
set_option maxRecDepth 100000 in
theorem out_yes (x y : Nat) (n m : Int) (A : Option Addr) (c : Nat) (l : List (Nat × Nat)) (w : World) (hl : l.length ≤ maxLen) (hf : fit l) (hs : SR w w.heap.size 1 A l.length (cv l)) (hall : ∀ p ∈ l, wp2 p = true)
    (hx : D x n) (hy : D y m) (hn : n.natAbs < 9007199254740992) (hm : m.natAbs < 9007199254740992) :
    Calls Try.prog 68 #[.complex .f64 x y, .slice A l.length c] w fun e w' => e = .returned (.tuple #[.complex .f64 (fz (oc n m).1) (fz (oc n m).2.1), .int .i64 (oc n m).2.2]) ∧ w = w' := by
  have HNO := Lib.hid hall
  have HF := Lib.hid hf
  have HX := Lib.hid (plain_any x n w hx hn)
  have HY := Lib.hid (plain_any y m w hy hm)
  have HC : Hid (Calls Try.prog 69 #[.complex .f64 (fz n) (fz m)] w fun e w' => e = .returned (.tuple #[.complex .f64 (fz (oc n m).1) (fz (oc n m).2.1), .int .i64 (oc n m).2.2]) ∧ w = w') := Lib.hid (by
    by_cases h : n.natAbs ≤ 1048576 ∧ m.natAbs ≤ 1048576
    · have e : oc n m = (n, m, 0) := if_pos h
      rw [e]
      exact checked_yes _ _ w (fz_lt n) (fz_lt m) (whole_fz h.1) (whole_fz h.2)
    · have e : oc n m = (0, 0, 17) := if_neg h
      rw [e, fz_zero]
      refine checked_no _ _ w (fz_lt n) (fz_lt m) ?_
      have inj : ∀ a : Int, a.natAbs < 9007199254740992 → wb (fz a) = true → a.natAbs ≤ 1048576 := by
        intro a ha hw
        obtain ⟨i, hi, e⟩ := (wb_iff (fz_lt a)).1 hw
        have := fz_inj ha (by omega) e
        omega
      cases h1 : wb (fz n)
      · exact .inl rfl
      · cases h2 : wb (fz m)
        · exact .inr rfl
        · exact absurd ⟨inj n hn h1, inj m hm h2⟩ h)
  generalize oc n m = r at *
  generalize fz n = xn at *
  generalize fz m = ym at *
  generalize fz r.1 = r1 at *
  generalize fz r.2.1 = r2 at *
  generalize r.2.2 = r3 at *
  clear hall hf hx hy hn hm
  unfold maxLen at hl
  go_enter Try.func68, Try.ntmps68
  go_wp2_with fail
  go_loop [12] (fun i => ∃ (k : Nat) (K : Int), i = .int .i64 K ∧ K = k ∧ k ≤ l.length) (fun i => l.length - (intOf i).toNat)
  case atStart => exact ⟨0, _, rfl, rfl, by omega⟩
  case round =>
    obtain ⟨k, K, rfl, rfl, hk⟩ := hrel
    by_cases hlt : k < l.length
    · obtain ⟨b, o, rfl, hb, hc⟩ := cell_at hs hlt (u := .complex .f64 l[k].1 l[k].2) (by simp [cv, hlt])
      have hw := HNO.out _ (List.getElem_mem hlt)
      have HC1 := Lib.hid (checked_yes l[k].1 l[k].2 w (fit_at HF.out hlt).1 (fit_at HF.out hlt).2 (by unfold wp2 at hw; simp at hw; exact hw.1) (by unfold wp2 at hw; simp at hw; exact hw.2))
      clear hw
      go_wp2_with fail
      refine HC1.out.mono ?_; rintro e w1 ⟨rfl, rfl⟩; go_wp2_with fail
      go_round
      case rel => exact ⟨k + 1, _, rfl, by omega, by omega⟩
      case measure => simp [intOf]; omega
    · obtain rfl : k = l.length := by omega
      go_wp2_with fail
      refine HX.out.mono ?_; rintro e w1 ⟨rfl, rfl⟩; go_wp2_with fail
      refine HY.out.mono ?_; rintro e w1 ⟨rfl, rfl⟩; go_wp2_with fail
      refine HC.out.mono ?_; rintro e w1 ⟨rfl, rfl⟩; go_wp2_with fail
      go_ret2
      exact ⟨rfl, rfl⟩
end Go.Proofs.Ytngjpgdgipmieaa
