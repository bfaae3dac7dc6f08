/- The walk of Read: the number of eight bytes. -/
import Derived.Test.YtiniicehfjgpgaaGreatKMath
import Derived.Deep.RegionWith
namespace Go.Proofs.YtiniicehfjgpgaaGreat
open Go.RowKit M6

/-- what Read answers -/
def RdSpec (b : ByteArray) (n m c : Int) : Prop :=
  (b.size < 8 ∧ c = 1 ∧ n = 0 ∧ m = 0) ∨ (8 < b.size ∧ c = 2 ∧ n = 0 ∧ m = 0) ∨
  (b.size = 8 ∧ c = 0 ∧ n.natAbs ≤ 1048576 ∧ m.natAbs ≤ 1048576 ∧ pr (b.extract 0 4) 4 = sz n ∧ pr (b.extract 4 8) 4 = sz m) ∨
  (b.size = 8 ∧ c = 17 ∧ n = 0 ∧ m = 0 ∧ ∀ i j : Int, i.natAbs ≤ 1048576 → j.natAbs ≤ 1048576 → pr (b.extract 0 4) 4 = sz i → pr (b.extract 4 8) 4 ≠ sz j)

theorem checked_any (x y : Nat) (w : World) (hx : x < 18446744073709551616) (hy : y < 18446744073709551616) :
    Calls Tryz.prog 127 #[.complex .f64 x y] w fun e w' => ∃ (X Y : Nat) (c : Int), e = .returned (.tuple #[.complex .f64 X Y, .int .i64 c]) ∧ w = w' ∧
      ((c = 0 ∧ X = x ∧ Y = y ∧ Whole x ∧ Whole y) ∨ (c = 17 ∧ X = 0 ∧ Y = 0 ∧ ¬ (Whole x ∧ Whole y))) := by
  by_cases h1 : wb x = true
  · by_cases h2 : wb y = true
    · refine (checked_yes x y w hx hy h1 h2).mono ?_
      rintro e w1 ⟨rfl, rfl⟩
      exact ⟨_, _, _, rfl, rfl, .inl ⟨rfl, rfl, rfl, (wb_iff hx).1 h1, (wb_iff hy).1 h2⟩⟩
    · refine (checked_no x y w hx hy (.inr (by simpa using h2))).mono ?_
      rintro e w1 ⟨rfl, rfl⟩
      exact ⟨_, _, _, rfl, rfl, .inr ⟨rfl, rfl, rfl, fun h => h2 ((wb_iff hy).2 h.2)⟩⟩
  · refine (checked_no x y w hx hy (.inl (by simpa using h1))).mono ?_
    rintro e w1 ⟨rfl, rfl⟩
    exact ⟨_, _, _, rfl, rfl, .inr ⟨rfl, rfl, rfl, fun h => h1 ((wb_iff hx).2 h.1)⟩⟩
theorem rdSpec_of {b : ByteArray} (h : b.size = 8) {r1 r2 X Y : Nat} {c : Int} (h1 : Wide (pr (b.extract 0 4) 4) r1) (h2 : Wide (pr (b.extract 4 8) 4) r2)
    (hc : (c = 0 ∧ X = r1 ∧ Y = r2 ∧ Whole r1 ∧ Whole r2) ∨ (c = 17 ∧ X = 0 ∧ Y = 0 ∧ ¬ (Whole r1 ∧ Whole r2))) : ∃ n m : Int, X = fz n ∧ Y = fz m ∧ RdSpec b n m c := by
  rcases hc with ⟨rfl, rfl, rfl, ⟨n, hn, rfl⟩, ⟨m, hm, rfl⟩⟩ | ⟨rfl, rfl, rfl, hno⟩
  · exact ⟨n, m, rfl, rfl, .inr (.inr (.inl ⟨h, rfl, hn, hm, (h1.2 n hn).1 rfl, (h2.2 m hm).1 rfl⟩))⟩
  · refine ⟨0, 0, fz_zero.symm, fz_zero.symm, .inr (.inr (.inr ⟨h, rfl, rfl, rfl, fun i j hi hj e1 e2 => hno ⟨⟨i, hi, (h1.2 i hi).2 e1⟩, ⟨j, hj, (h2.2 j hj).2 e2⟩⟩⟩))⟩

set_option maxRecDepth 100000 in
set_option maxHeartbeats 2000000 in
theorem gread_any (b : ByteArray) (w : World) (hb : b.size ≤ maxLen) :
    Calls Tryz.prog 114 #[.string b] w fun e w' => ∃ n m c : Int, e = .returned (.tuple #[.complex .f64 (fz n) (fz m), .int .i64 c]) ∧ RdSpec b n m c ∧ Below w.heap.size w w' := by
  unfold maxLen at hb
  rcases Nat.lt_trichotomy b.size 8 with h | h | h
  · have h' : (b.size : Int) < 8 := by omega
    go_enter Tryz.func114, Tryz.ntmps114
    go_wp2_with fail
    go_ret2
    exact ⟨0, 0, 1, by rw [fz_zero]; rfl, .inl ⟨h, rfl, rfl, rfl⟩, Below.refl _ _⟩
  · have HP := Lib.hid (fun W => readPart_any (b.extract 0 4) W (by simp; omega))
    have HQ := Lib.hid (fun W => readPart_any (b.extract 4 8) W (by simp; omega))
    go_enter Tryz.func114, Tryz.ntmps114
    have h1 : ¬ (b.size : Int) < 8 := by omega
    have h2 : ¬ 8 < (b.size : Int) := by omega
    go_wp2_with fail
    go_region_with (first
      | (go_at_call 129; (with_reducible refine (HP.out _).mono ?_); rintro e w2 ⟨r1, rfl, hw1, hb1⟩)
      | (go_at_call 129; (with_reducible refine (HQ.out _).mono ?_); rintro e w3 ⟨r2, rfl, hw2, hb2⟩)
      | (go_at_call 127; refine (checked_any _ _ _ hw1.1 hw2.1).mono ?_; rintro e w4 ⟨X, Y, c, rfl, rfl, hc⟩))
    obtain ⟨n, m, rfl, rfl, hs⟩ := rdSpec_of h hw1 hw2 hc
    have HS := Lib.hid hs
    clear hs hc hw1 hw2
    go_wp2_with fail
    go_ret2
    exact ⟨n, m, c, rfl, HS.out, ((Below.refl _ _).drew.trans hb1).trans (hb2.mono hb1.size)⟩
  · have h' : ¬ (b.size : Int) < 8 := by omega
    have h2 : 8 < (b.size : Int) := by omega
    go_enter Tryz.func114, Tryz.ntmps114
    go_wp2_with fail
    go_ret2
    exact ⟨0, 0, 2, by rw [fz_zero]; rfl, .inr (.inl ⟨h, rfl, rfl, rfl⟩), Below.refl _ _⟩
end Go.Proofs.YtiniicehfjgpgaaGreat
