import Derived.Test.YtjjfdlgoacockaaGreatMath
import Derived.Test.YtjjfdlgoacockaaGreatPuts
import Derived.Test.YtjjfdlgoacockaaGreatWHigh
import Derived.Deep.RegionHeld3
import Derived.Deep.RegionWith
namespace Go.Proofs.YtjjfdlgoacockaaGreat
open Go.RowKit M1 M2

theorem rput_int (V : Int) (w : World) (h0 : 0 ≤ V) (h1 : V ≤ 18446744073709551615) :
    Calls Tryz.prog 136 #[.int .u64 V] w fun e w' => ∃ g cap n, e = .returned (.slice (some ⟨g, 0, none⟩) n cap) ∧ (convert 113 9 (.slice (some ⟨g, 0, none⟩) n cap)).run Tryz.prog w' = .ok (.string (ps V.toNat)) w' ∧ Below w.heap.size w w' := by
  obtain ⟨v, rfl⟩ := Int.eq_ofNat_of_zero_le h0
  refine (v_rput_any 10 v w (fits_of64 (by unfold Fits64; omega)) (by omega) (by omega)).mono ?_
  rintro e w1 ⟨g, cap, rfl, hown, hb1⟩
  exact ⟨g, cap, sizeN 10 v, rfl, run_bytes_own w1 113 9 5 Tryz.underlying113 Tryz.underlying5 Tryz.underlying9 hown, hb1⟩

set_option maxRecDepth 100000 in
theorem rbytes_no (num typ : Int) (n : Nat) (D : ByteArray) (w : World) (hm : mayB num typ = false) :
    Calls Tryz.prog 93 #[.agg #[.int .i64 num, .int .i64 typ, .int .u64 (n : Int), .string D]] w fun e w' => e = .returned (.string ⟨#[]⟩) ∧ Below w.heap.size w w' := by
  have hcase : num < 1 ∨ (1 ≤ num ∧ 536870911 < num) ∨ (1 ≤ num ∧ num ≤ 536870911 ∧ typ < 0) ∨ (1 ≤ num ∧ num ≤ 536870911 ∧ 0 ≤ typ ∧ 5 < typ) ∨ (1 ≤ num ∧ num ≤ 536870911 ∧ typ = 3) ∨ (1 ≤ num ∧ num ≤ 536870911 ∧ typ = 4) := by
    unfold mayB at hm
    rw [decide_eq_false_iff_not] at hm
    omega
  clear hm
  rcases hcase with h | ⟨h1, h⟩ | ⟨h1, h2, h⟩ | ⟨h1, h2, h3, h⟩ | ⟨h1, h2, rfl⟩ | ⟨h1, h2, rfl⟩
  all_goals
    go_enter Tryz.func93, Tryz.ntmps93
    go_wp2_with fail
    go_ret
    exact ⟨rfl, (Below.refl _ _).alloc (Nat.le_refl _) _⟩

set_option maxRecDepth 100000 in
theorem rbytes_0 (num : Int) (n : Nat) (D : ByteArray) (w : World) (hn : Fits64 n) (h1 : 1 ≤ num) (h2 : num ≤ 536870911) :
    Calls Tryz.prog 93 #[.agg #[.int .i64 num, .int .i64 0, .int .u64 (n : Int), .string D]] w fun e w' => e = .returned (.string (ps (8 * num).toNat ++ ps n)) ∧ Below w.heap.size w w' := by
  have hn' : (n : Int) ≤ 18446744073709551615 := by unfold Fits64 at hn; omega
  have HN := Lib.hid hn
  clear hn
  have q1 := ps_le (8 * num).toNat
  have q2 := ps_le n
  have q3 : (hs 8 n).size ≤ 8 := by rw [hs_size]; omega
  have q4 : (hs 4 n).size ≤ 8 := by rw [hs_size]; omega
  have q5 := ps_le D.size
  go_enter Tryz.func93, Tryz.ntmps93
  go_wp2_with fail
  refine (rput_int _ _ (by omega) (by omega)).mono ?_
  rintro e w1 ⟨g, cap, k, rfl, hconv, hb⟩
  have hblk := (hb.block w.heap.size (by simp)).trans (heap_alloc_new w _)
  have hz := hb.size
  simp at hz
  have HB := Lib.hid (below_one hb)
  obtain ⟨c0, c1, c2, c3⟩ := cells_of4 hblk
  have HK := Lib.hid hblk
  clear hb hblk
  go_wp2_with fail
  refine (rput_int _ _ (by omega) (by omega)).mono ?_
  rintro e w2 ⟨g2, cap2, k2, rfl, hconv2, hb⟩
  have HB3 := Lib.hid (HB.out.trans (hb.mono (by omega)))
  clear hb hconv
  go_wp2_with fail
  go_ret
  exact ⟨rfl, HB3.out⟩

set_option maxRecDepth 100000 in
theorem rbytes_1 (num : Int) (n : Nat) (D : ByteArray) (w : World) (hn : Fits64 n) (h1 : 1 ≤ num) (h2 : num ≤ 536870911) :
    Calls Tryz.prog 93 #[.agg #[.int .i64 num, .int .i64 1, .int .u64 (n : Int), .string D]] w fun e w' => e = .returned (.string (ps (8 * num + 1).toNat ++ hs 8 n)) ∧ Below w.heap.size w w' := by
  have hn' : (n : Int) ≤ 18446744073709551615 := by unfold Fits64 at hn; omega
  have HN := Lib.hid hn
  clear hn
  have q1 := ps_le (8 * num + 1).toNat
  have q2 := ps_le n
  have q3 : (hs 8 n).size ≤ 8 := by rw [hs_size]; omega
  have q4 : (hs 4 n).size ≤ 8 := by rw [hs_size]; omega
  have q5 := ps_le D.size
  go_enter Tryz.func93, Tryz.ntmps93
  go_wp2_with fail
  refine (rput_int _ _ (by omega) (by omega)).mono ?_
  rintro e w1 ⟨g, cap, k, rfl, hconv, hb⟩
  have hblk := (hb.block w.heap.size (by simp)).trans (heap_alloc_new w _)
  have hz := hb.size
  simp at hz
  have HB := Lib.hid (below_one hb)
  obtain ⟨c0, c1, c2, c3⟩ := cells_of4 hblk
  have HK := Lib.hid hblk
  clear hb hblk
  go_wp2_with fail
  refine (rhigh_any n 8 _ HN.out (by omega)).mono ?_
  rintro e w2 ⟨rfl, hb⟩
  have HB3 := Lib.hid (HB.out.trans (hb.mono (by omega)))
  clear hb hconv
  go_wp2_with fail
  go_ret
  exact ⟨rfl, HB3.out⟩

set_option maxRecDepth 100000 in
theorem rbytes_5 (num : Int) (n : Nat) (D : ByteArray) (w : World) (hn : Fits64 n) (h1 : 1 ≤ num) (h2 : num ≤ 536870911) (hmax : (n : Int) ≤ 4294967295) :
    Calls Tryz.prog 93 #[.agg #[.int .i64 num, .int .i64 5, .int .u64 (n : Int), .string D]] w fun e w' => e = .returned (.string (ps (8 * num + 5).toNat ++ hs 4 n)) ∧ Below w.heap.size w w' := by
  have hn' : (n : Int) ≤ 18446744073709551615 := by unfold Fits64 at hn; omega
  have HN := Lib.hid hn
  clear hn
  have q1 := ps_le (8 * num + 5).toNat
  have q2 := ps_le n
  have q3 : (hs 8 n).size ≤ 8 := by rw [hs_size]; omega
  have q4 : (hs 4 n).size ≤ 8 := by rw [hs_size]; omega
  have q5 := ps_le D.size
  go_enter Tryz.func93, Tryz.ntmps93
  go_wp2_with fail
  refine (rput_int _ _ (by omega) (by omega)).mono ?_
  rintro e w1 ⟨g, cap, k, rfl, hconv, hb⟩
  have hblk := (hb.block w.heap.size (by simp)).trans (heap_alloc_new w _)
  have hz := hb.size
  simp at hz
  have HB := Lib.hid (below_one hb)
  obtain ⟨c0, c1, c2, c3⟩ := cells_of4 hblk
  have HK := Lib.hid hblk
  clear hb hblk
  go_wp2_with fail
  refine (rhigh_any n 4 _ HN.out (by omega)).mono ?_
  rintro e w2 ⟨rfl, hb⟩
  have HB3 := Lib.hid (HB.out.trans (hb.mono (by omega)))
  clear hb hconv
  go_wp2_with fail
  go_ret
  exact ⟨rfl, HB3.out⟩

set_option maxRecDepth 100000 in
theorem rbytes_5no (num : Int) (n : Nat) (D : ByteArray) (w : World) (hn : Fits64 n) (h1 : 1 ≤ num) (h2 : num ≤ 536870911) (hmax : 4294967295 < (n : Int)) :
    Calls Tryz.prog 93 #[.agg #[.int .i64 num, .int .i64 5, .int .u64 (n : Int), .string D]] w fun e w' => e = .returned (.string (⟨#[]⟩)) ∧ Below w.heap.size w w' := by
  have hn' : (n : Int) ≤ 18446744073709551615 := by unfold Fits64 at hn; omega
  have HN := Lib.hid hn
  clear hn
  have q1 := ps_le (8 * num + 5).toNat
  have q2 := ps_le n
  have q3 : (hs 8 n).size ≤ 8 := by rw [hs_size]; omega
  have q4 : (hs 4 n).size ≤ 8 := by rw [hs_size]; omega
  have q5 := ps_le D.size
  go_enter Tryz.func93, Tryz.ntmps93
  go_wp2_with fail
  refine (rput_int _ _ (by omega) (by omega)).mono ?_
  rintro e w1 ⟨g, cap, k, rfl, hconv, hb⟩
  have hblk := (hb.block w.heap.size (by simp)).trans (heap_alloc_new w _)
  have hz := hb.size
  simp at hz
  have HB := Lib.hid (below_one hb)
  obtain ⟨c0, c1, c2, c3⟩ := cells_of4 hblk
  have HK := Lib.hid hblk
  clear hb hblk
  go_wp2_with fail
  go_ret
  exact ⟨rfl, HB.out⟩

end Go.Proofs.YtjjfdlgoacockaaGreat
namespace Go.Proofs.YtjjfdlgoacockaaGreat
open Go.RowKit M1 M2

theorem rput_nat (v : Nat) (w : World) (h : v ≤ 281474976710656) :
    Calls Tryz.prog 136 #[.int .u64 (v : Int)] w fun e w' => ∃ g cap n, e = .returned (.slice (some ⟨g, 0, none⟩) n cap) ∧ (convert 113 9 (.slice (some ⟨g, 0, none⟩) n cap)).run Tryz.prog w' = .ok (.string (ps v)) w' ∧ Below w.heap.size w w' :=
  rput_int (v : Int) w (by omega) (by omega)

set_option maxRecDepth 100000 in
set_option maxHeartbeats 2000000 in
theorem rbytes_2 (num : Int) (n : Nat) (D : ByteArray) (w : World) (hn : Fits64 n) (h1 : 1 ≤ num) (h2 : num ≤ 536870911) (hD : (D.size : Int) ≤ 281474976710656) :
    Calls Tryz.prog 93 #[.agg #[.int .i64 num, .int .i64 2, .int .u64 (n : Int), .string D]] w fun e w' => e = .returned (.string (ps (8 * num + 2).toNat ++ ps D.size ++ D)) ∧ Below w.heap.size w w' := by
  have hn' : (n : Int) ≤ 18446744073709551615 := by unfold Fits64 at hn; omega
  have HN := Lib.hid hn
  clear hn
  have q1 := ps_le (8 * num + 2).toNat
  have q2 := ps_le n
  have q3 : (hs 8 n).size ≤ 8 := by rw [hs_size]; omega
  have q4 : (hs 4 n).size ≤ 8 := by rw [hs_size]; omega
  have q5 := ps_le D.size
  go_enter Tryz.func93, Tryz.ntmps93
  go_wp2_with fail
  refine (rput_int _ _ (by omega) (by omega)).mono ?_
  rintro e w1 ⟨g, cap, k, rfl, hconv, hb⟩
  have hblk := (hb.block w.heap.size (by simp)).trans (heap_alloc_new w _)
  have hz := hb.size
  simp at hz
  have HB := Lib.hid (below_one hb)
  obtain ⟨c0, c1, c2, c3⟩ := cells_of4 hblk
  have HK := Lib.hid hblk
  clear hb hblk
  go_wp2_with fail
  clear hconv
  have HP := Lib.hid (fun W => rput_nat D.size W (by omega))
  have hwr : IntKind.u64.wrap (D.size : Int) = (D.size : Int) := IntWalk.u64_in _ (by omega)
  go_region_with (go_at_call 136; (with_reducible refine (HP.out _).mono ?_); rintro e w2 ⟨g2, cap2, k2, rfl, hconv, hb⟩; have hb3 := Lib.hid (HB.out.drew.trans (hb.mono HB.out.drew.size)); have d3 := (hb.cell (p := ⟨w.heap.size, 3, none⟩) (block_lt_of_cell (w := w1.drew) c3)).trans (show w1.drew.cell? ⟨w.heap.size, 3, none⟩ = some (.string D) from c3); clear hb)
  all_goals
    go_wp2_with fail
    go_ret
    exact ⟨rfl, hb3.out⟩

theorem rbytes_any (f : WFd) (w : World) (hn : Fits64 f.n) (hD : f.data.size ≤ 281474976710656) :
    Calls Tryz.prog 93 #[.agg (fc f).toArray] w fun e w' => e = .returned (.string (fb f)) ∧ Below w.heap.size w w' := by
  by_cases hm : mayB f.num f.typ = true
  · obtain ⟨num, typ, n, D⟩ := f
    simp only at *
    have ht := mayB_typ hm
    have hnum : 1 ≤ num ∧ num ≤ 536870911 := by unfold mayB at hm; rw [decide_eq_true_iff] at hm; omega
    rcases ht with rfl | rfl | rfl | rfl
    · have e : fb ⟨num, 0, n, D⟩ = ps (8 * num).toNat ++ ps n := by unfold fb; simp [hm]
      rw [e]; exact rbytes_0 num n D w hn hnum.1 hnum.2
    · have e : fb ⟨num, 1, n, D⟩ = ps (8 * num + 1).toNat ++ hs 8 n := by unfold fb; simp [hm]
      rw [e]; exact rbytes_1 num n D w hn hnum.1 hnum.2
    · have e : fb ⟨num, 2, n, D⟩ = ps (8 * num + 2).toNat ++ ps D.size ++ D := by unfold fb; simp [hm]
      rw [e]; exact rbytes_2 num n D w hn hnum.1 hnum.2 (by omega)
    · by_cases h : 4294967295 < n
      · have e : fb ⟨num, 5, n, D⟩ = ⟨#[]⟩ := by unfold fb; simp [hm, h]
        rw [e]; exact rbytes_5no num n D w hn hnum.1 hnum.2 (by omega)
      · have e : fb ⟨num, 5, n, D⟩ = ps (8 * num + 5).toNat ++ hs 4 n := by unfold fb; simp [hm, h]
        rw [e]; exact rbytes_5 num n D w hn hnum.1 hnum.2 (by omega)
  · have e : fb f = ⟨#[]⟩ := by unfold fb; rw [if_pos (by simpa using hm)]
    rw [e]
    exact rbytes_no f.num f.typ f.n f.data w (by simpa using hm)

theorem rtext_any (num : Int) (D : ByteArray) (w : World) (hD : D.size ≤ 281474976710656) :
    Calls Tryz.prog 47 #[.int .i64 num, .string D] w fun e w' => e = .returned (.string (fb ⟨num, 2, 0, D⟩)) ∧ Below w.heap.size w w' := by
  have hc := fun W => rbytes_any ⟨num, 2, 0, D⟩ W (by unfold Fits64; simp) hD
  have HC := Lib.hid hc; clear hc
  go_enter Tryz.func47, Tryz.ntmps47
  go_wp2_with fail
  refine (HC.out _).mono ?_
  rintro e w1 ⟨rfl, hb⟩
  go_wp2_with fail
  go_ret
  exact ⟨rfl, hb⟩
end Go.Proofs.YtjjfdlgoacockaaGreat
namespace Go.Proofs.YtjjfdlgoacockaaGreat
open Go.RowKit M1 M2
theorem rnumber_any (num : Int) (n : Nat) (w : World) (hn : Fits64 n) :
    Calls Tryz.prog 52 #[.int .i64 num, .int .u64 (n : Int)] w fun e w' => e = .returned (.string (fb ⟨num, 0, n, ⟨#[]⟩⟩)) ∧ Below w.heap.size w w' := by
  have hc := fun W => rbytes_any ⟨num, 0, n, ⟨#[]⟩⟩ W hn (Nat.zero_le _)
  have HC := Lib.hid hc; clear hc
  clear hn
  go_enter Tryz.func52, Tryz.ntmps52
  go_wp2_with fail
  refine (HC.out _).mono ?_
  rintro e w1 ⟨rfl, hb⟩
  go_wp2_with fail
  go_ret
  exact ⟨rfl, hb⟩
end Go.Proofs.YtjjfdlgoacockaaGreat
