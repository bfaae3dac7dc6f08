/- The walk of the law GaussBack. -/
import Derived.Test.YtldgpmnckhlbbaaGBackMath
namespace Go.Proofs.Ytldgpmnckhlbbaa
open Go.RowKit M6
set_option linter.unusedVariables false

theorem tmod_small (a : Int) : (a.tmod 1048576).natAbs ≤ 1048576 := by
  rw [Int.natAbs_tmod]
  exact Nat.le_of_lt (Nat.mod_lt _ (by decide))
theorem convF (n : Int) (W : World) : (convert 2 42 (.int .i64 n)).run Try.prog W = .ok (.float .f64 (fz n)) W :=
  run_convert_int_float W _ _ _ _ n (by kernel_rfl) (by kernel_rfl)

theorem no_in {o p : Option Ordering} (f2 : o = some .gt ∨ o = some .eq) (f3 : p = some .lt ∨ p = some .eq) (h : (o == some .gt) = false ∧ (o == some .eq) = false ∨ (p == some .lt) = false ∧ (p == some .eq) = false) : False := by
  rcases f2 with rfl | rfl <;> rcases f3 with rfl | rfl <;> simp at h
theorem no_high {o p : Option Ordering} (f3 : ¬ (p = some .lt ∨ p = some .eq)) (h : ((o == some .gt) = true ∨ (o == some .eq) = true) ∧ ((p == some .lt) = true ∨ (p == some .eq) = true)) : False := by
  apply f3
  simpa using h.2
set_option maxRecDepth 100000 in
theorem back_long (a c : Int) (x : Nat) (b : ByteArray) (w : World) (h : 100 < (b.size : Int)) :
    Calls Try.prog 5 #[.int .i64 a, .int .i64 c, .float .f64 x, .string b] w fun e w' => e = .returned (.bool true) ∧ Below w.heap.size w w' := by
  go_enter Try.func5, Try.ntmps5
  go_wp2_with fail
  refine (gawake_any _).mono ?_
  rintro e w1 ⟨rfl, hb1⟩
  have HB := Lib.hid hb1
  clear hb1
  go_wp2_with fail
  go_ret
  exact ⟨rfl, HB.out⟩

set_option maxRecDepth 100000 in
set_option maxHeartbeats 2000000 in
theorem back_in (a c : Int) (x : Nat) (b : ByteArray) (w : World) (h : ¬ 100 < (b.size : Int)) (hx : x < 18446744073709551616) (h1 : lo x = true) (h2 : hi x = true) (h3 : tr x = true) :
    Calls Try.prog 5 #[.int .i64 a, .int .i64 c, .float .f64 x, .string b] w fun e w' => e = .returned (.bool true) ∧ Below w.heap.size w w' := by
  have hA := tmod_small a
  have hC := tmod_small c
  have HBM := Lib.hid (show b.size ≤ maxLen by unfold maxLen; omega)
  obtain ⟨N, hN, hyes, -⟩ := into_of h1 h2
  have f1 := hyes h3
  have f2 := (ge_lo x).2 h1
  have f3 : FloatKind.f64.format.order x 4697254411347427328 = some .lt ∨ FloatKind.f64.format.order x 4697254411347427328 = some .eq := or_beq.2 h2
  have hci : ∀ W : World, (convert 42 2 (.float .f64 x)).run Try.prog W = .ok (.int .i64 N) W := fun W => run_convert_float_int W _ _ _ _ _ N (by kernel_rfl) (by kernel_rfl) hN
  clear hN hyes h1 h2 h3
  have hcv := convF
  have HP1 := Lib.hid (fun W => gput_yes (a.tmod 1048576) (c.tmod 1048576) W hA hC)
  have HR1 := Lib.hid (fun W => gread_any (bs (sz (a.tmod 1048576)) ++ bs (sz (c.tmod 1048576))) W (by unfold maxLen; simp [bs_size]))
  have HS1 := Lib.hid (rdSpec_put hA hC)
  have o1 := fz_self (n := a.tmod 1048576) (by omega)
  have o2 := fz_self (n := c.tmod 1048576) (by omega)
  clear hA hC
  go_enter Try.func5, Try.ntmps5
  go_wp2_with fail
  refine (HP1.out _).mono ?_
  rintro e w1 ⟨rfl, hb⟩
  have H1 := Lib.hid hb
  clear hb
  go_wp2_with fail
  refine (HR1.out _).mono ?_
  rintro e w2 ⟨n, m, k, rfl, hs, hb⟩
  obtain ⟨rfl, rfl, rfl, -, -⟩ := rdSpec_one HS1.out hs
  have H2 := Lib.hid (step_below H1.out hb)
  clear hb H1 hs HR1 HP1 HS1
  go_wp2_with fail
  refine (gread_any b _ HBM.out).mono ?_
  rintro e w3 ⟨n, m, k, rfl, hs, hb⟩
  have H3 := Lib.hid (step_below H2.out hb)
  have HS := Lib.hid hs
  clear hb H2 hs o1 o2
  by_cases hk : k = 0
  · subst hk
    obtain ⟨hn, hm, hT⟩ := put_read HS.out
    have HP2 := Lib.hid (fun W => gput_yes n m W hn hm)
    rw [hT] at HP2
    clear hn hm hT
    generalize fz n = xn at *
    generalize fz m = xm at *
    go_wp2_with fail
    refine (HP2.out _).mono ?_
    rintro e w4 ⟨rfl, hb⟩
    have H4 := Lib.hid (step_below H3.out hb)
    clear hb H3
    go_wp2_with fail
    all_goals first
      | exact (no_in f2 f3 (by assumption)).elim
      | exact (no_high f3 (by assumption)).elim
      | (refine (gawake_any _).mono ?_
         rintro e w9 ⟨rfl, hb⟩
         have H9 := Lib.hid (step_below H4.out hb)
         clear hb H4
         go_wp2_with fail
         go_ret
         exact ⟨rfl, H9.out⟩)
  · have hk2 : (k == 0) = false := by simp; exact hk
    generalize fz n = xn at *
    generalize fz m = xm at *
    go_wp2_with fail
    all_goals first
      | exact (no_in f2 f3 (by assumption)).elim
      | exact (no_high f3 (by assumption)).elim
      | (refine (gawake_any _).mono ?_
         rintro e w9 ⟨rfl, hb⟩
         have H9 := Lib.hid (step_below H3.out hb)
         clear hb H3
         go_wp2_with fail
         go_ret
         exact ⟨rfl, H9.out⟩)

set_option maxRecDepth 100000 in
set_option maxHeartbeats 2000000 in
theorem back_part (a c : Int) (x : Nat) (b : ByteArray) (w : World) (h : ¬ 100 < (b.size : Int)) (hx : x < 18446744073709551616) (h1 : lo x = true) (h2 : hi x = true) (h3 : tr x = false) (hwb : wb x = false) :
    Calls Try.prog 5 #[.int .i64 a, .int .i64 c, .float .f64 x, .string b] w fun e w' => e = .returned (.bool true) ∧ Below w.heap.size w w' := by
  have hA := tmod_small a
  have hC := tmod_small c
  have HBM := Lib.hid (show b.size ≤ maxLen by unfold maxLen; omega)
  have HP := Lib.hid (fun W => (gput_no x 0 W hx (by decide) (.inl hwb)).mono (R' := fun e w' => e = .returned (.tuple #[.string ⟨#[]⟩, .int .i64 17]) ∧ Below W.heap.size W w') (by rintro e w1 ⟨rfl, rfl⟩; exact ⟨rfl, Below.refl _ _⟩))
  have HAD : Hid (∀ W, Calls Try.prog 14 #[.complex .f64 0 x, .complex .f64 0 0] W fun e w' => e = .returned (.tuple #[.complex .f64 0 0, .int .i64 17]) ∧ Below W.heap.size W w') := Lib.hid (fun W => (gadd_no (0, x) (0, 0) W ⟨by simp, hx⟩ ⟨by simp, by simp⟩ (.inl (by unfold wp2; simp [hwb]))).mono (by rintro e w1 ⟨rfl, hb⟩; exact ⟨by show Ending.returned (.tuple #[.complex .f64 (fz 0) (fz 0), .int .i64 17]) = _; rw [fz_zero], hb⟩))
  obtain ⟨N, hN, -, hno⟩ := into_of h1 h2
  have f1 := hno h3
  have hci : ∀ W : World, (convert 42 2 (.float .f64 x)).run Try.prog W = .ok (.int .i64 N) W := fun W => run_convert_float_int W _ _ _ _ _ N (by kernel_rfl) (by kernel_rfl) hN
  clear hN hno h1 h2 h3 hwb
  have hcv := convF
  have HP1 := Lib.hid (fun W => gput_yes (a.tmod 1048576) (c.tmod 1048576) W hA hC)
  have HR1 := Lib.hid (fun W => gread_any (bs (sz (a.tmod 1048576)) ++ bs (sz (c.tmod 1048576))) W (by unfold maxLen; simp [bs_size]))
  have HS1 := Lib.hid (rdSpec_put hA hC)
  have o1 := fz_self (n := a.tmod 1048576) (by omega)
  have o2 := fz_self (n := c.tmod 1048576) (by omega)
  clear hA hC
  go_enter Try.func5, Try.ntmps5
  go_wp2_with fail
  refine (HP1.out _).mono ?_
  rintro e w1 ⟨rfl, hb⟩
  have H1 := Lib.hid hb
  clear hb
  go_wp2_with fail
  refine (HR1.out _).mono ?_
  rintro e w2 ⟨n, m, k, rfl, hs, hb⟩
  obtain ⟨rfl, rfl, rfl, -, -⟩ := rdSpec_one HS1.out hs
  have H2 := Lib.hid (step_below H1.out hb)
  clear hb H1 hs HR1 HP1 HS1
  go_wp2_with fail
  refine (gread_any b _ HBM.out).mono ?_
  rintro e w3 ⟨n, m, k, rfl, hs, hb⟩
  have H3 := Lib.hid (step_below H2.out hb)
  have HS := Lib.hid hs
  clear hb H2 hs o1 o2
  by_cases hk : k = 0
  · subst hk
    obtain ⟨hn, hm, hT⟩ := put_read HS.out
    have HP2 := Lib.hid (fun W => gput_yes n m W hn hm)
    rw [hT] at HP2
    clear hn hm hT
    generalize fz n = xn at *
    generalize fz m = xm at *
    go_wp2_with fail
    refine (HP2.out _).mono ?_
    rintro e w4 ⟨rfl, hb⟩
    have H4 := Lib.hid (step_below H3.out hb)
    clear hb H3
    go_wp2_with fail
    all_goals first
      | (refine (HP.out _).mono ?_
         rintro e w7 ⟨rfl, hb⟩
         have H7 := Lib.hid (step_below H4.out hb)
         clear hb H4
         go_wp2_with fail
         refine (HAD.out _).mono ?_
         rintro e w8 ⟨rfl, hb⟩
         have H8 := Lib.hid (step_below H7.out hb)
         clear hb H7
         go_wp2_with fail
         refine (gawake_any _).mono ?_
         rintro e w9 ⟨rfl, hb⟩
         have H9 := Lib.hid (step_below H8.out hb)
         clear hb H8
         go_wp2_with fail
         go_ret
         exact ⟨rfl, H9.out⟩)
  · have hk2 : (k == 0) = false := by simp; exact hk
    generalize fz n = xn at *
    generalize fz m = xm at *
    go_wp2_with fail
    all_goals first
      | (refine (HP.out _).mono ?_
         rintro e w7 ⟨rfl, hb⟩
         have H7 := Lib.hid (step_below H3.out hb)
         clear hb H3
         go_wp2_with fail
         refine (HAD.out _).mono ?_
         rintro e w8 ⟨rfl, hb⟩
         have H8 := Lib.hid (step_below H7.out hb)
         clear hb H7
         go_wp2_with fail
         refine (gawake_any _).mono ?_
         rintro e w9 ⟨rfl, hb⟩
         have H9 := Lib.hid (step_below H8.out hb)
         clear hb H8
         go_wp2_with fail
         go_ret
         exact ⟨rfl, H9.out⟩)

set_option maxRecDepth 100000 in
set_option maxHeartbeats 2000000 in
theorem back_low (a c : Int) (x : Nat) (b : ByteArray) (w : World) (h : ¬ 100 < (b.size : Int)) (hx : x < 18446744073709551616) (h1 : lo x = false) (hwb : wb x = false) :
    Calls Try.prog 5 #[.int .i64 a, .int .i64 c, .float .f64 x, .string b] w fun e w' => e = .returned (.bool true) ∧ Below w.heap.size w w' := by
  have hA := tmod_small a
  have hC := tmod_small c
  have HBM := Lib.hid (show b.size ≤ maxLen by unfold maxLen; omega)
  have HP := Lib.hid (fun W => (gput_no x 0 W hx (by decide) (.inl hwb)).mono (R' := fun e w' => e = .returned (.tuple #[.string ⟨#[]⟩, .int .i64 17]) ∧ Below W.heap.size W w') (by rintro e w1 ⟨rfl, rfl⟩; exact ⟨rfl, Below.refl _ _⟩))
  have HAD : Hid (∀ W, Calls Try.prog 14 #[.complex .f64 0 x, .complex .f64 0 0] W fun e w' => e = .returned (.tuple #[.complex .f64 0 0, .int .i64 17]) ∧ Below W.heap.size W w') := Lib.hid (fun W => (gadd_no (0, x) (0, 0) W ⟨by simp, hx⟩ ⟨by simp, by simp⟩ (.inl (by unfold wp2; simp [hwb]))).mono (by rintro e w1 ⟨rfl, hb⟩; exact ⟨by show Ending.returned (.tuple #[.complex .f64 (fz 0) (fz 0), .int .i64 17]) = _; rw [fz_zero], hb⟩))
  have f2 : ¬ (FloatKind.f64.format.order x 13920626448202203136 = some .gt ∨ FloatKind.f64.format.order x 13920626448202203136 = some .eq) := fun e => by rw [(ge_lo x).1 e] at h1; cases h1
  obtain ⟨NN, q, hci⟩ := conv_any x
  clear h1 hwb
  have hcv := convF
  have HP1 := Lib.hid (fun W => gput_yes (a.tmod 1048576) (c.tmod 1048576) W hA hC)
  have HR1 := Lib.hid (fun W => gread_any (bs (sz (a.tmod 1048576)) ++ bs (sz (c.tmod 1048576))) W (by unfold maxLen; simp [bs_size]))
  have HS1 := Lib.hid (rdSpec_put hA hC)
  have o1 := fz_self (n := a.tmod 1048576) (by omega)
  have o2 := fz_self (n := c.tmod 1048576) (by omega)
  clear hA hC
  go_enter Try.func5, Try.ntmps5
  go_wp2_with fail
  refine (HP1.out _).mono ?_
  rintro e w1 ⟨rfl, hb⟩
  have H1 := Lib.hid hb
  clear hb
  go_wp2_with fail
  refine (HR1.out _).mono ?_
  rintro e w2 ⟨n, m, k, rfl, hs, hb⟩
  obtain ⟨rfl, rfl, rfl, -, -⟩ := rdSpec_one HS1.out hs
  have H2 := Lib.hid (step_below H1.out hb)
  clear hb H1 hs HR1 HP1 HS1
  go_wp2_with fail
  refine (gread_any b _ HBM.out).mono ?_
  rintro e w3 ⟨n, m, k, rfl, hs, hb⟩
  have H3 := Lib.hid (step_below H2.out hb)
  have HS := Lib.hid hs
  clear hb H2 hs o1 o2
  by_cases hk : k = 0
  · subst hk
    obtain ⟨hn, hm, hT⟩ := put_read HS.out
    have HP2 := Lib.hid (fun W => gput_yes n m W hn hm)
    rw [hT] at HP2
    clear hn hm hT
    generalize fz n = xn at *
    generalize fz m = xm at *
    go_wp2_with fail
    refine (HP2.out _).mono ?_
    rintro e w4 ⟨rfl, hb⟩
    have H4 := Lib.hid (step_below H3.out hb)
    clear hb H3
    go_wp2_with fail
    all_goals first
      | (refine (HP.out _).mono ?_
         rintro e w7 ⟨rfl, hb⟩
         have H7 := Lib.hid (step_below (below_drewN H4.out q) hb)
         clear hb H4
         go_wp2_with fail
         refine (HAD.out _).mono ?_
         rintro e w8 ⟨rfl, hb⟩
         have H8 := Lib.hid (step_below H7.out hb)
         clear hb H7
         go_wp2_with fail
         refine (gawake_any _).mono ?_
         rintro e w9 ⟨rfl, hb⟩
         have H9 := Lib.hid (step_below H8.out hb)
         clear hb H8
         go_wp2_with fail
         go_ret
         exact ⟨rfl, H9.out⟩)
  · have hk2 : (k == 0) = false := by simp; exact hk
    generalize fz n = xn at *
    generalize fz m = xm at *
    go_wp2_with fail
    all_goals first
      | (refine (HP.out _).mono ?_
         rintro e w7 ⟨rfl, hb⟩
         have H7 := Lib.hid (step_below (below_drewN H3.out q) hb)
         clear hb H3
         go_wp2_with fail
         refine (HAD.out _).mono ?_
         rintro e w8 ⟨rfl, hb⟩
         have H8 := Lib.hid (step_below H7.out hb)
         clear hb H7
         go_wp2_with fail
         refine (gawake_any _).mono ?_
         rintro e w9 ⟨rfl, hb⟩
         have H9 := Lib.hid (step_below H8.out hb)
         clear hb H8
         go_wp2_with fail
         go_ret
         exact ⟨rfl, H9.out⟩)

set_option maxRecDepth 100000 in
set_option maxHeartbeats 2000000 in
theorem back_high (a c : Int) (x : Nat) (b : ByteArray) (w : World) (h : ¬ 100 < (b.size : Int)) (hx : x < 18446744073709551616) (h1 : lo x = true) (h2 : hi x = false) (hwb : wb x = false) :
    Calls Try.prog 5 #[.int .i64 a, .int .i64 c, .float .f64 x, .string b] w fun e w' => e = .returned (.bool true) ∧ Below w.heap.size w w' := by
  have hA := tmod_small a
  have hC := tmod_small c
  have HBM := Lib.hid (show b.size ≤ maxLen by unfold maxLen; omega)
  have HP := Lib.hid (fun W => (gput_no x 0 W hx (by decide) (.inl hwb)).mono (R' := fun e w' => e = .returned (.tuple #[.string ⟨#[]⟩, .int .i64 17]) ∧ Below W.heap.size W w') (by rintro e w1 ⟨rfl, rfl⟩; exact ⟨rfl, Below.refl _ _⟩))
  have HAD : Hid (∀ W, Calls Try.prog 14 #[.complex .f64 0 x, .complex .f64 0 0] W fun e w' => e = .returned (.tuple #[.complex .f64 0 0, .int .i64 17]) ∧ Below W.heap.size W w') := Lib.hid (fun W => (gadd_no (0, x) (0, 0) W ⟨by simp, hx⟩ ⟨by simp, by simp⟩ (.inl (by unfold wp2; simp [hwb]))).mono (by rintro e w1 ⟨rfl, hb⟩; exact ⟨by show Ending.returned (.tuple #[.complex .f64 (fz 0) (fz 0), .int .i64 17]) = _; rw [fz_zero], hb⟩))
  have f2 := (ge_lo x).2 h1
  have f3 : ¬ (FloatKind.f64.format.order x 4697254411347427328 = some .lt ∨ FloatKind.f64.format.order x 4697254411347427328 = some .eq) := fun e => by rw [hi_yes e] at h2; cases h2
  obtain ⟨NN, q, hci⟩ := conv_any x
  clear h1 h2 hwb
  have hcv := convF
  have HP1 := Lib.hid (fun W => gput_yes (a.tmod 1048576) (c.tmod 1048576) W hA hC)
  have HR1 := Lib.hid (fun W => gread_any (bs (sz (a.tmod 1048576)) ++ bs (sz (c.tmod 1048576))) W (by unfold maxLen; simp [bs_size]))
  have HS1 := Lib.hid (rdSpec_put hA hC)
  have o1 := fz_self (n := a.tmod 1048576) (by omega)
  have o2 := fz_self (n := c.tmod 1048576) (by omega)
  clear hA hC
  go_enter Try.func5, Try.ntmps5
  go_wp2_with fail
  refine (HP1.out _).mono ?_
  rintro e w1 ⟨rfl, hb⟩
  have H1 := Lib.hid hb
  clear hb
  go_wp2_with fail
  refine (HR1.out _).mono ?_
  rintro e w2 ⟨n, m, k, rfl, hs, hb⟩
  obtain ⟨rfl, rfl, rfl, -, -⟩ := rdSpec_one HS1.out hs
  have H2 := Lib.hid (step_below H1.out hb)
  clear hb H1 hs HR1 HP1 HS1
  go_wp2_with fail
  refine (gread_any b _ HBM.out).mono ?_
  rintro e w3 ⟨n, m, k, rfl, hs, hb⟩
  have H3 := Lib.hid (step_below H2.out hb)
  have HS := Lib.hid hs
  clear hb H2 hs o1 o2
  by_cases hk : k = 0
  · subst hk
    obtain ⟨hn, hm, hT⟩ := put_read HS.out
    have HP2 := Lib.hid (fun W => gput_yes n m W hn hm)
    rw [hT] at HP2
    clear hn hm hT
    generalize fz n = xn at *
    generalize fz m = xm at *
    go_wp2_with fail
    refine (HP2.out _).mono ?_
    rintro e w4 ⟨rfl, hb⟩
    have H4 := Lib.hid (step_below H3.out hb)
    clear hb H3
    go_wp2_with fail
    all_goals first
      | exact (no_in f2 f3 (by assumption)).elim
      | exact (no_high f3 (by assumption)).elim
      | (refine (HP.out _).mono ?_
         rintro e w7 ⟨rfl, hb⟩
         have H7 := Lib.hid (step_below (below_drewN H4.out q) hb)
         clear hb H4
         go_wp2_with fail
         refine (HAD.out _).mono ?_
         rintro e w8 ⟨rfl, hb⟩
         have H8 := Lib.hid (step_below H7.out hb)
         clear hb H7
         go_wp2_with fail
         refine (gawake_any _).mono ?_
         rintro e w9 ⟨rfl, hb⟩
         have H9 := Lib.hid (step_below H8.out hb)
         clear hb H8
         go_wp2_with fail
         go_ret
         exact ⟨rfl, H9.out⟩)
  · have hk2 : (k == 0) = false := by simp; exact hk
    generalize fz n = xn at *
    generalize fz m = xm at *
    go_wp2_with fail
    all_goals first
      | exact (no_in f2 f3 (by assumption)).elim
      | exact (no_high f3 (by assumption)).elim
      | (refine (HP.out _).mono ?_
         rintro e w7 ⟨rfl, hb⟩
         have H7 := Lib.hid (step_below (below_drewN H3.out q) hb)
         clear hb H3
         go_wp2_with fail
         refine (HAD.out _).mono ?_
         rintro e w8 ⟨rfl, hb⟩
         have H8 := Lib.hid (step_below H7.out hb)
         clear hb H7
         go_wp2_with fail
         refine (gawake_any _).mono ?_
         rintro e w9 ⟨rfl, hb⟩
         have H9 := Lib.hid (step_below H8.out hb)
         clear hb H8
         go_wp2_with fail
         go_ret
         exact ⟨rfl, H9.out⟩)

theorem gaussBack_walk (a c : Int) (x : Nat) (b : ByteArray) (w : World) (hx : x < 18446744073709551616) :
    Calls Try.prog 5 #[.int .i64 a, .int .i64 c, .float .f64 x, .string b] w fun e w' => e = .returned (.bool true) ∧ Below w.heap.size w w' := by
  by_cases h : 100 < (b.size : Int)
  · exact back_long a c x b w h
  · cases h1 : lo x
    · exact back_low a c x b w h hx h1 (wb_no (.inl h1))
    · cases h2 : hi x
      · exact back_high a c x b w h hx h1 h2 (wb_no (.inr (.inl h2)))
      · cases h3 : tr x
        · exact back_part a c x b w h hx h1 h2 h3 (wb_no (.inr (.inr h3)))
        · exact back_in a c x b w h hx h1 h2 h3
end Go.Proofs.Ytldgpmnckhlbbaa
