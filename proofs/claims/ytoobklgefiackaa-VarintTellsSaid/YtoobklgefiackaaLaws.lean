/- The walks of the laws of layer 1. -/
import Derived.Test.YtoobklgefiackaaWalks
import Derived.Test.YtoobklgefiackaaPuts
import Derived.Lib.QuietBelow
import Derived.BigQuiet
namespace Go.Proofs.Ytoobklgefiackaa
open Go.RowKit M1 Go.Sort

theorem awake_any (w : World) : Calls Try.prog 5 #[] w fun e w' => e = .returned (.bool true) ∧ Below w.heap.size w w' := by
  have hs : ByteArray.size ⟨#[172, 2, 120]⟩ = 3 := rfl
  have h1 := read_any ⟨#[172, 2, 120]⟩ w (by rw [hs]; unfold maxLen; omega)
  have e1 : rd ⟨#[172, 2, 120]⟩ = (300, 2, 0) := by decide
  have h2 := put_any 300 w (by unfold Fits; omega)
  have e2 : ps 300 = ⟨#[172, 2]⟩ := by decide
  rw [e1] at h1
  rw [e2] at h2
  have H1 := Lib.hid h1; clear h1
  have H2 := Lib.hid h2; clear h2
  clear e1 e2 hs
  go_enter Try.func5, Try.ntmps5
  go_wp2_with fail
  refine H1.out.mono ?_
  rintro e w1 ⟨rfl, rfl⟩
  go_wp2_with fail
  refine H2.out.mono ?_
  rintro e w1 ⟨rfl, hb⟩
  have HB := Lib.hid hb; clear hb
  go_wp2_with fail
  go_ret
  exact ⟨rfl, HB.out⟩

theorem tells_walk (v : Nat) (b : ByteArray) (n : Int) (hv : Fits 10 v) (hb : b.size ≤ maxLen) (h1 : -9223372036854775808 ≤ n) (h2 : n ≤ 9223372036854775807) (w : World) :
    Calls Try.prog 3 #[.int .u64 v, .string b, .int .i64 n] w fun e w' => e = .returned (.bool true) ∧ Below w.heap.size w w' := by
  have hb' := hb
  unfold maxLen at hb'
  by_cases hlong : 100 < b.size
  · have hl : (100 : Int) < (b.size : Int) := by omega
    go_enter Try.func3, Try.ntmps3
    go_wp2_with (go_at_call 5; refine (awake_any _).mono ?_; rintro e w1 ⟨rfl, hb1⟩)
    rename_i hb1
    go_ret
    exact ⟨rfl, hb1⟩
  · have hl : (b.size : Int) ≤ 100 := by omega
    clear hlong
    go_enter Try.func3, Try.ntmps3
    go_wp2_with fail
    refine (rput_any 10 v _ hv (by omega) (by omega)).mono ?_
    rintro e w1 ⟨g, cap, rfl, hown, hb1⟩
    have hconv : _ = Result.ok (Value.string (ps v)) w1 := run_bytes_own w1 24 9 5 Try.underlying24 Try.underlying5 Try.underlying9 hown
    clear hown
    have hzb : 0 ≤ zig n := by unfold zig; split <;> omega
    have hzt : zig n ≤ 18446744073709551615 := by unfold zig; split <;> omega
    have huz : unzig (zig n) = n := unzig_zig n
    have HU := Lib.hid huz; clear huz
    have hlw := ps_size v
    have HL := Lib.hid hlw; clear hlw
    go_wp2_with (first
      | (go_at_call 7; refine (read_any b _ hb).mono ?_; rintro e w2 ⟨rfl, rfl⟩)
      | (go_at_call 8; refine (rread_any b _ hb).mono ?_; rintro e w2 ⟨rfl, rfl⟩))
    refine (awake_any _).mono ?_
    rintro e w2 ⟨rfl, hb2⟩
    go_wp2_with fail
    refine (put_any v _ hv).mono ?_
    rintro e w3 ⟨rfl, hb3⟩
    go_wp2_with fail
    refine (size_any v _ hv).mono ?_
    rintro e w4 ⟨rfl, rfl⟩
    rw [← HL.out]
    go_wp2_with fail
    refine (zig_any n _ h1 h2).mono ?_
    rintro e w4 ⟨rfl, rfl⟩
    go_wp2_with fail
    refine (rzig_any n _ h1 h2).mono ?_
    rintro e w4 ⟨rfl, rfl⟩
    go_wp2_with fail
    refine (rzig_any n _ h1 h2).mono ?_
    rintro e w4 ⟨rfl, rfl⟩
    go_wp2_with fail
    refine (unzig_any (zig n) _ hzb hzt).mono ?_
    rintro e w4 ⟨rfl, rfl⟩
    rw [HU.out]
    go_wp2_with fail
    go_ret
    exact ⟨rfl, (hb1.trans (hb2.mono hb1.size)).trans (hb3.mono (Nat.le_trans hb1.size hb2.size))⟩
theorem size_below (v : Nat) (w : World) (hv : Fits 10 v) :
    Calls Try.prog 10 #[.int .u64 v] w fun e w' => e = .returned (.int .i64 (sizeN 10 v)) ∧ Below w.heap.size w w' :=
  (size_any v w hv).mono (fun _ _ h => ⟨h.1, h.2 ▸ Below.refl _ _⟩)
theorem back_walk (v : Nat) (t b : ByteArray) (hv : Fits64 v) (ht : t.size ≤ maxLen) (hb : b.size ≤ maxLen) (w : World) :
    Calls Try.prog 4 #[.int .u64 v, .string t, .string b] w fun e w' => e = .returned (.bool true) ∧ Below w.heap.size w w' := by
  have ht' := ht
  have hb' := hb
  unfold maxLen at hb' ht'
  by_cases hlong : 100 < t.size
  · have hl : (100 : Int) < (t.size : Int) := by omega
    go_enter Try.func4, Try.ntmps4
    go_wp2_with (go_at_call 5; refine (awake_any _).mono ?_; rintro e w1 ⟨rfl, hb1⟩)
    rename_i hb1
    go_ret
    exact ⟨rfl, hb1⟩
  by_cases hlong2 : 100 < b.size
  · have hl : (100 : Int) < (b.size : Int) := by omega
    have hl2 : (t.size : Int) ≤ 100 := by omega
    go_enter Try.func4, Try.ntmps4
    go_wp2_with (go_at_call 5; refine (awake_any _).mono ?_; rintro e w1 ⟨rfl, hb1⟩)
    rename_i hb1
    go_ret
    exact ⟨rfl, hb1⟩
  have hl2 : (t.size : Int) ≤ 100 := by omega
  have hl : (b.size : Int) ≤ 100 := by omega
  clear hlong hlong2
  have HF := Lib.hid hv
  clear hv
  go_enter Try.func4, Try.ntmps4
  go_wp2_with fail
  refine (put_any v _ (fits_of64 HF.out)).mono ?_
  rintro e w1 ⟨rfl, hb1⟩
  have hps := ps_size v
  have hpl := sizeN_le 10 v
  have hs1 : (ps v).size ≤ 10 := by omega
  have HS := Lib.hid hps
  clear hps hpl
  have hs2 : (ps v).size + t.size ≤ 9223372036854775807 := by omega
  go_wp2_with fail
  refine (read_any _ _ (by unfold maxLen; simp; omega)).mono ?_
  rintro e w2 ⟨rfl, rfl⟩
  rw [rd_back HF.out _ t (ps_list v)]
  rw [← HS.out]
  have h0 : 0 ≤ (v : Int) := by omega
  have hzu := zig_unzig v h0
  have HZ := Lib.hid hzu; clear hzu
  have hv := HF.out
  unfold Fits64 at hv
  have hlo : -9223372036854775808 ≤ unzig v := by unfold unzig; split <;> omega
  have hhi : unzig v ≤ 9223372036854775807 := by unfold unzig; split <;> omega
  have HU := Lib.hid (And.intro hlo hhi); clear hlo hhi
  have HV : Hid ((v : Int) ≤ 18446744073709551615) := Lib.hid (by omega)
  clear hv
  go_wp2_with fail
  refine (unzig_any v _ h0 HV.out).mono ?_
  rintro e w2 ⟨rfl, rfl⟩
  go_wp2_with fail
  refine (zig_any _ _ HU.out.1 HU.out.2).mono ?_
  rintro e w2 ⟨rfl, rfl⟩
  rw [HZ.out]
  go_wp2_with fail
  obtain ⟨y, k, c, hr⟩ : ∃ y k c, rd b = (y, k, c) := ⟨_, _, _, rfl⟩
  have hf := rd_fine (s := b)
  rw [hr] at hf
  have HF2 := Lib.hid hf; clear hf
  refine (read_any b _ hb).mono ?_
  rintro e w2 ⟨rfl, rfl⟩
  rw [hr]
  clear hr
  by_cases hc : c = 0
  · obtain ⟨h1, h2, h3, h4⟩ := HF2.out hc
    simp only at h1 h2 h3 h4
    have hc1 : ((c : Int) != 0) = false := by simp; omega
    have hk1 : (k : Int) ≤ (b.size : Int) := by omega
    have hk2 : ((sizeN 10 y : Nat) : Int) ≤ (k : Int) := by omega
    have hk3 : (0 : Int) ≤ (k : Int) := by omega
    have H3 := Lib.hid h3; clear h3
    clear h1 h2 hc
    by_cases hlt : sizeN 10 y < k
    · have hlt1 : ((sizeN 10 y : Nat) : Int) < (k : Int) := by omega
      clear hlt
      go_wp2_with fail
      refine wp_region_quiet_below (by kernel_rfl) (by kernel_rfl) ?_
      repeat (go_big_quiet_step ((first | (go_at_call 5; exact Calls.regrown_of (awake_any _)) | (go_at_call 10; exact Calls.regrown_of (size_below y _ (fits_of64 h4))))))
      refine wpQuiet_nil ?_
      rintro w2 ⟨p, rfl⟩
      have hbp := below_regrown w1 p.d p.os
      generalize grow (redrawn w1 p.d) p.os = w2 at hbp ⊢
      go_wp2_with fail
      go_ret
      exact ⟨rfl, hb1.trans (hbp.mono hb1.size)⟩
    · have hek : sizeN 10 y = k := by omega
      have hlt1 : ¬ (((sizeN 10 y : Nat) : Int) < (k : Int)) := by omega
      have hlt2 : decide (((sizeN 10 y : Nat) : Int) < (k : Int)) = false := by simpa using hlt1
      have hcut : b.extract 0 k = ps y := by
        have h5 := H3.out hek
        apply ByteArray.ext
        apply Array.ext'
        rw [ps_list, ← h5]
        simp
      have hlt3 : (k : Int) ≤ ((sizeN 10 y : Nat) : Int) := by omega
      have hlt4 : decide (sizeN 10 y < k) = false := by simpa using hlt
      clear hlt hlt1
      have HC := Lib.hid hcut
      clear hek hcut
      go_wp2_with fail
      refine wp_region_quiet_below (by kernel_rfl) (by kernel_rfl) ?_
      repeat (go_big_quiet_step ((first | (go_at_call 5; exact Calls.regrown_of (awake_any _)) | (go_at_call 9; exact Calls.regrown_of (put_any y _ (fits_of64 h4))) | (go_at_call 10; exact Calls.regrown_of (size_below y _ (fits_of64 h4))))))
      refine wpQuiet_nil ?_
      rintro w2 ⟨p, rfl⟩
      have hbp := below_regrown w1 p.d p.os
      generalize grow (redrawn w1 p.d) p.os = w2 at hbp ⊢
      go_wp2_with fail
      go_ret
      exact ⟨ret_eq (by rw [HC.out]; simp), hb1.trans (hbp.mono hb1.size)⟩
  · have hc1 : ((c : Int) != 0) = true := by simp; omega
    go_wp2_with fail
    refine wp_region_quiet_below (by kernel_rfl) (by kernel_rfl) ?_
    repeat (go_big_quiet_step ((go_at_call 5; exact Calls.regrown_of (awake_any _))))
    refine wpQuiet_nil ?_
    rintro w2 ⟨p, rfl⟩
    have hbp := below_regrown w1 p.d p.os
    generalize grow (redrawn w1 p.d) p.os = w2 at hbp ⊢
    go_wp2_with fail
    go_ret
    exact ⟨rfl, hb1.trans (hbp.mono hb1.size)⟩
end Go.Proofs.Ytoobklgefiackaa
