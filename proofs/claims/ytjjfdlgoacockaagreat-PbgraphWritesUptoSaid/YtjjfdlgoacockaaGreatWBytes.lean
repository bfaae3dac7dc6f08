import Derived.Test.YtjjfdlgoacockaaGreatMath
import Derived.Test.YtjjfdlgoacockaaGreatPuts
import Derived.Test.YtjjfdlgoacockaaGreatWHigh
import Derived.Lib.QuietBelow
import Derived.BigQuiet
namespace Go.Proofs.YtjjfdlgoacockaaGreat
open Go.RowKit M1 M2 Go.Sort

theorem w_put_int (V : Int) (w : World) (h0 : 0 ≤ V) (h1 : V ≤ 18446744073709551615) :
    Calls Tryz.prog 133 #[.int .u64 V] w fun e w' => e = .returned (.string (ps V.toNat)) ∧ Below w.heap.size w w' := by
  obtain ⟨v, rfl⟩ := Int.eq_ofNat_of_zero_le h0
  exact put_any v w (fits_of64 (by unfold Fits64; omega))

set_option maxRecDepth 100000 in
theorem bytes_no (f : WFd) (w : World) (hm : mayB f.num f.typ = false) (a1 : -9223372036854775808 ≤ f.num) (a2 : f.num ≤ 9223372036854775807) (b1 : -9223372036854775808 ≤ f.typ) (b2 : f.typ ≤ 9223372036854775807) :
    Calls Tryz.prog 92 #[.agg #[.int .i64 f.num, .int .i64 f.typ, .int .u64 (f.n : Int), .string f.data]] w fun e w' => e = .returned (.string (fb f)) ∧ Below w.heap.size w w' := by
  have e : fb f = ⟨#[]⟩ := by unfold fb; rw [if_pos hm]
  rw [e]
  obtain ⟨num, typ, n, D⟩ := f
  simp only at *
  have HM := Lib.hid hm
  clear e hm
  go_enter Tryz.func92, Tryz.ntmps92
  go_wp2_with fail
  refine (w_may_any _ _ _ _ _ a1 a2 b1 b2).mono ?_
  rintro e w1 ⟨rfl, hb⟩
  rw [HM.out]
  go_wp2_with fail
  go_ret
  exact ⟨rfl, below_one hb⟩

set_option maxRecDepth 100000 in
theorem bytes_0 (num : Int) (n : Nat) (D : ByteArray) (w : World) (hm : mayB num 0 = true) (hn : Fits64 n) (h1 : 1 ≤ num) (h2 : num ≤ 536870911) :
    Calls Tryz.prog 92 #[.agg #[.int .i64 num, .int .i64 0, .int .u64 (n : Int), .string D]] w fun e w' => e = .returned (.string (ps (8 * num).toNat ++ ps n)) ∧ Below w.heap.size w w' := by
  have HM := Lib.hid hm
  have hn' : (n : Int) ≤ 18446744073709551615 := by unfold Fits64 at hn; omega
  have HN := Lib.hid hn
  clear hm hn
  have q1 := ps_le (8 * num).toNat
  have q2 := ps_le n
  have q3 : (hs 8 n).size ≤ 8 := by rw [hs_size]; omega
  have q4 : (hs 4 n).size ≤ 8 := by rw [hs_size]; omega
  have q5 := ps_le D.size
  go_enter Tryz.func92, Tryz.ntmps92
  go_wp2_with fail
  refine (w_may_any _ _ _ _ _ (by omega) (by omega) (by omega) (by omega)).mono ?_
  rintro e w1 ⟨rfl, hb⟩
  rw [HM.out]
  have hblk := (hb.block w.heap.size (by simp)).trans (heap_alloc_new w _)
  have hz := hb.size
  simp at hz
  have HB := Lib.hid (below_one hb)
  obtain ⟨c0, c1, c2, c3⟩ := cells_of4 hblk
  have HK := Lib.hid hblk
  clear hb hblk
  go_wp2_with fail
  refine (w_put_int _ _ (by omega) (by omega)).mono ?_
  rintro e w2 ⟨rfl, hb⟩
  have hblk := (hb.block w.heap.size (by omega)).trans HK.out
  have HB2 := Lib.hid (HB.out.trans (hb.mono (by omega)))
  have hz2 := HB2.out.size
  have hw2 : w.heap.size < w2.heap.size := by have := hb.size; omega
  clear c0 c1 c2 c3 HB
  obtain ⟨c0, c1, c2, c3⟩ := cells_of4 hblk
  clear hb
  go_wp2_with fail
  refine (w_put_int _ _ (by omega) (by omega)).mono ?_
  rintro e w3 ⟨rfl, hb⟩
  have HB3 := Lib.hid (HB2.out.trans (hb.mono (by omega)))
  clear hb
  go_wp2_with fail
  go_ret
  exact ⟨rfl, HB3.out⟩

set_option maxRecDepth 100000 in
theorem bytes_1 (num : Int) (n : Nat) (D : ByteArray) (w : World) (hm : mayB num 1 = true) (hn : Fits64 n) (h1 : 1 ≤ num) (h2 : num ≤ 536870911) :
    Calls Tryz.prog 92 #[.agg #[.int .i64 num, .int .i64 1, .int .u64 (n : Int), .string D]] w fun e w' => e = .returned (.string (ps (8 * num + 1).toNat ++ hs 8 n)) ∧ Below w.heap.size w w' := by
  have HM := Lib.hid hm
  have hn' : (n : Int) ≤ 18446744073709551615 := by unfold Fits64 at hn; omega
  have HN := Lib.hid hn
  clear hm hn
  have q1 := ps_le (8 * num + 1).toNat
  have q2 := ps_le n
  have q3 : (hs 8 n).size ≤ 8 := by rw [hs_size]; omega
  have q4 : (hs 4 n).size ≤ 8 := by rw [hs_size]; omega
  have q5 := ps_le D.size
  go_enter Tryz.func92, Tryz.ntmps92
  go_wp2_with fail
  refine (w_may_any _ _ _ _ _ (by omega) (by omega) (by omega) (by omega)).mono ?_
  rintro e w1 ⟨rfl, hb⟩
  rw [HM.out]
  have hblk := (hb.block w.heap.size (by simp)).trans (heap_alloc_new w _)
  have hz := hb.size
  simp at hz
  have HB := Lib.hid (below_one hb)
  obtain ⟨c0, c1, c2, c3⟩ := cells_of4 hblk
  have HK := Lib.hid hblk
  clear hb hblk
  go_wp2_with fail
  refine (w_put_int _ _ (by omega) (by omega)).mono ?_
  rintro e w2 ⟨rfl, hb⟩
  have hblk := (hb.block w.heap.size (by omega)).trans HK.out
  have HB2 := Lib.hid (HB.out.trans (hb.mono (by omega)))
  have hz2 := HB2.out.size
  have hw2 : w.heap.size < w2.heap.size := by have := hb.size; omega
  clear c0 c1 c2 c3 HB
  obtain ⟨c0, c1, c2, c3⟩ := cells_of4 hblk
  clear hb
  go_wp2_with fail
  refine (putLow_any n 8 _ (by omega)).mono ?_
  rintro e w3 ⟨rfl, hb⟩
  have HB3 := Lib.hid (HB2.out.trans (hb.mono (by omega)))
  clear hb
  go_wp2_with fail
  go_ret
  exact ⟨rfl, HB3.out⟩

set_option maxRecDepth 100000 in
theorem bytes_5 (num : Int) (n : Nat) (D : ByteArray) (w : World) (hm : mayB num 5 = true) (hn : Fits64 n) (h1 : 1 ≤ num) (h2 : num ≤ 536870911) (hmax : (n : Int) ≤ 4294967295) :
    Calls Tryz.prog 92 #[.agg #[.int .i64 num, .int .i64 5, .int .u64 (n : Int), .string D]] w fun e w' => e = .returned (.string (ps (8 * num + 5).toNat ++ hs 4 n)) ∧ Below w.heap.size w w' := by
  have HM := Lib.hid hm
  have hn' : (n : Int) ≤ 18446744073709551615 := by unfold Fits64 at hn; omega
  have HN := Lib.hid hn
  clear hm hn
  have q1 := ps_le (8 * num + 5).toNat
  have q2 := ps_le n
  have q3 : (hs 8 n).size ≤ 8 := by rw [hs_size]; omega
  have q4 : (hs 4 n).size ≤ 8 := by rw [hs_size]; omega
  have q5 := ps_le D.size
  go_enter Tryz.func92, Tryz.ntmps92
  go_wp2_with fail
  refine (w_may_any _ _ _ _ _ (by omega) (by omega) (by omega) (by omega)).mono ?_
  rintro e w1 ⟨rfl, hb⟩
  rw [HM.out]
  have hblk := (hb.block w.heap.size (by simp)).trans (heap_alloc_new w _)
  have hz := hb.size
  simp at hz
  have HB := Lib.hid (below_one hb)
  obtain ⟨c0, c1, c2, c3⟩ := cells_of4 hblk
  have HK := Lib.hid hblk
  clear hb hblk
  go_wp2_with fail
  refine (w_put_int _ _ (by omega) (by omega)).mono ?_
  rintro e w2 ⟨rfl, hb⟩
  have hblk := (hb.block w.heap.size (by omega)).trans HK.out
  have HB2 := Lib.hid (HB.out.trans (hb.mono (by omega)))
  have hz2 := HB2.out.size
  have hw2 : w.heap.size < w2.heap.size := by have := hb.size; omega
  clear c0 c1 c2 c3 HB
  obtain ⟨c0, c1, c2, c3⟩ := cells_of4 hblk
  clear hb
  go_wp2_with fail
  refine (putLow_any n 4 _ (by omega)).mono ?_
  rintro e w3 ⟨rfl, hb⟩
  have HB3 := Lib.hid (HB2.out.trans (hb.mono (by omega)))
  clear hb
  go_wp2_with fail
  go_ret
  exact ⟨rfl, HB3.out⟩

set_option maxRecDepth 100000 in
theorem bytes_5no (num : Int) (n : Nat) (D : ByteArray) (w : World) (hm : mayB num 5 = true) (hn : Fits64 n) (h1 : 1 ≤ num) (h2 : num ≤ 536870911) (hmax : 4294967295 < (n : Int)) :
    Calls Tryz.prog 92 #[.agg #[.int .i64 num, .int .i64 5, .int .u64 (n : Int), .string D]] w fun e w' => e = .returned (.string (⟨#[]⟩)) ∧ Below w.heap.size w w' := by
  have HM := Lib.hid hm
  have hn' : (n : Int) ≤ 18446744073709551615 := by unfold Fits64 at hn; omega
  have HN := Lib.hid hn
  clear hm hn
  have q1 := ps_le (8 * num + 5).toNat
  have q2 := ps_le n
  have q3 : (hs 8 n).size ≤ 8 := by rw [hs_size]; omega
  have q4 : (hs 4 n).size ≤ 8 := by rw [hs_size]; omega
  have q5 := ps_le D.size
  go_enter Tryz.func92, Tryz.ntmps92
  go_wp2_with fail
  refine (w_may_any _ _ _ _ _ (by omega) (by omega) (by omega) (by omega)).mono ?_
  rintro e w1 ⟨rfl, hb⟩
  rw [HM.out]
  have hblk := (hb.block w.heap.size (by simp)).trans (heap_alloc_new w _)
  have hz := hb.size
  simp at hz
  have HB := Lib.hid (below_one hb)
  obtain ⟨c0, c1, c2, c3⟩ := cells_of4 hblk
  have HK := Lib.hid hblk
  clear hb hblk
  go_wp2_with fail
  refine (w_put_int _ _ (by omega) (by omega)).mono ?_
  rintro e w2 ⟨rfl, hb⟩
  have hblk := (hb.block w.heap.size (by omega)).trans HK.out
  have HB2 := Lib.hid (HB.out.trans (hb.mono (by omega)))
  have hz2 := HB2.out.size
  have hw2 : w.heap.size < w2.heap.size := by have := hb.size; omega
  clear c0 c1 c2 c3 HB
  obtain ⟨c0, c1, c2, c3⟩ := cells_of4 hblk
  clear hb
  go_wp2_with fail
  go_ret
  exact ⟨rfl, HB2.out⟩

set_option maxRecDepth 100000 in
theorem bytes_2 (num : Int) (n : Nat) (D : ByteArray) (w : World) (hm : mayB num 2 = true) (hn : Fits64 n) (h1 : 1 ≤ num) (h2 : num ≤ 536870911) (hD : (D.size : Int) ≤ 281474976710656) :
    Calls Tryz.prog 92 #[.agg #[.int .i64 num, .int .i64 2, .int .u64 (n : Int), .string D]] w fun e w' => e = .returned (.string (ps (8 * num + 2).toNat ++ ps D.size ++ D)) ∧ Below w.heap.size w w' := by
  have HM := Lib.hid hm
  have hn' : (n : Int) ≤ 18446744073709551615 := by unfold Fits64 at hn; omega
  have HN := Lib.hid hn
  clear hm hn
  have q1 := ps_le (8 * num + 2).toNat
  have q2 := ps_le n
  have q3 : (hs 8 n).size ≤ 8 := by rw [hs_size]; omega
  have q4 : (hs 4 n).size ≤ 8 := by rw [hs_size]; omega
  have q5 := ps_le D.size
  go_enter Tryz.func92, Tryz.ntmps92
  go_wp2_with fail
  refine (w_may_any _ _ _ _ _ (by omega) (by omega) (by omega) (by omega)).mono ?_
  rintro e w1 ⟨rfl, hb⟩
  rw [HM.out]
  have hblk := (hb.block w.heap.size (by simp)).trans (heap_alloc_new w _)
  have hz := hb.size
  simp at hz
  have HB := Lib.hid (below_one hb)
  obtain ⟨c0, c1, c2, c3⟩ := cells_of4 hblk
  have HK := Lib.hid hblk
  clear hb hblk
  go_wp2_with fail
  refine (w_put_int _ _ (by omega) (by omega)).mono ?_
  rintro e w2 ⟨rfl, hb⟩
  have hblk := (hb.block w.heap.size (by omega)).trans HK.out
  have HB2 := Lib.hid (HB.out.trans (hb.mono (by omega)))
  have hz2 := HB2.out.size
  have hw2 : w.heap.size < w2.heap.size := by have := hb.size; omega
  clear c0 c1 c2 c3 HB
  obtain ⟨c0, c1, c2, c3⟩ := cells_of4 hblk
  clear hb
  go_wp2_with fail
  have qc := fun d os => cell_regrown c3 d os
  refine wp_region_quiet_below (by kernel_rfl) (by kernel_rfl) ?_
  repeat (go_big_quiet_step ((go_at_call 133; exact Calls.regrown_of (w_put_int _ _ (by omega) (by omega)))))
  refine wpQuiet_nil ?_
  rintro w3 ⟨p, rfl⟩
  have hbp := below_regrown w2 p.d p.os
  generalize grow (redrawn w2 p.d) p.os = w3 at hbp ⊢
  have HB3 := Lib.hid (HB2.out.trans (hbp.mono (by omega)))
  clear hbp c0 c1 c2 c3 qc
  go_wp2_with fail
  go_ret
  exact ⟨rfl, HB3.out⟩

theorem bytes_any (f : WFd) (w : World) (hn : Fits64 f.n) (hD : f.data.size ≤ 281474976710656) (a1 : -9223372036854775808 ≤ f.num) (a2 : f.num ≤ 9223372036854775807) (b1 : -9223372036854775808 ≤ f.typ) (b2 : f.typ ≤ 9223372036854775807) :
    Calls Tryz.prog 92 #[.agg (fc f).toArray] w fun e w' => e = .returned (.string (fb f)) ∧ Below w.heap.size w w' := by
  by_cases hm : mayB f.num f.typ = true
  · obtain ⟨num, typ, n, D⟩ := f
    simp only at *
    have ht := mayB_typ hm
    have hnum : 1 ≤ num ∧ num ≤ 536870911 := by unfold mayB at hm; rw [decide_eq_true_iff] at hm; omega
    rcases ht with rfl | rfl | rfl | rfl
    · have e : fb ⟨num, 0, n, D⟩ = ps (8 * num).toNat ++ ps n := by unfold fb; simp [hm]
      rw [e]; exact bytes_0 num n D w hm hn hnum.1 hnum.2
    · have e : fb ⟨num, 1, n, D⟩ = ps (8 * num + 1).toNat ++ hs 8 n := by unfold fb; simp [hm]
      rw [e]; exact bytes_1 num n D w hm hn hnum.1 hnum.2
    · have e : fb ⟨num, 2, n, D⟩ = ps (8 * num + 2).toNat ++ ps D.size ++ D := by unfold fb; simp [hm]
      rw [e]; exact bytes_2 num n D w hm hn hnum.1 hnum.2 (by omega)
    · by_cases h : 4294967295 < n
      · have e : fb ⟨num, 5, n, D⟩ = ⟨#[]⟩ := by unfold fb; simp [hm, h]
        rw [e]; exact bytes_5no num n D w hm hn hnum.1 hnum.2 (by omega)
      · have e : fb ⟨num, 5, n, D⟩ = ps (8 * num + 5).toNat ++ hs 4 n := by unfold fb; simp [hm, h]
        rw [e]; exact bytes_5 num n D w hm hn hnum.1 hnum.2 (by omega)
  · exact bytes_no f w (by simpa using hm) a1 a2 b1 b2

theorem number_any (num : Int) (n : Nat) (w : World) (hn : Fits64 n) (a1 : -9223372036854775808 ≤ num) (a2 : num ≤ 9223372036854775807) :
    Calls Tryz.prog 44 #[.int .i64 num, .int .u64 (n : Int)] w fun e w' => e = .returned (.string (fb ⟨num, 0, n, ⟨#[]⟩⟩)) ∧ Below w.heap.size w w' := by
  have hc := fun W => bytes_any ⟨num, 0, n, ⟨#[]⟩⟩ W hn (by simp; exact Nat.zero_le _) a1 a2 (by simp) (by simp)
  have HC := Lib.hid hc; clear hc
  clear hn
  go_enter Tryz.func44, Tryz.ntmps44
  go_wp2_with fail
  refine (HC.out _).mono ?_
  rintro e w1 ⟨rfl, hb⟩
  go_wp2_with fail
  go_ret
  exact ⟨rfl, hb⟩
theorem text_any (num : Int) (D : ByteArray) (w : World) (hD : D.size ≤ 281474976710656) (a1 : -9223372036854775808 ≤ num) (a2 : num ≤ 9223372036854775807) :
    Calls Tryz.prog 45 #[.int .i64 num, .string D] w fun e w' => e = .returned (.string (fb ⟨num, 2, 0, D⟩)) ∧ Below w.heap.size w w' := by
  have hc := fun W => bytes_any ⟨num, 2, 0, D⟩ W (by unfold Fits64; simp) hD a1 a2 (by simp) (by simp)
  have HC := Lib.hid hc; clear hc
  go_enter Tryz.func45, Tryz.ntmps45
  go_wp2_with fail
  refine (HC.out _).mono ?_
  rintro e w1 ⟨rfl, hb⟩
  go_wp2_with fail
  go_ret
  exact ⟨rfl, hb⟩
end Go.Proofs.YtjjfdlgoacockaaGreat
