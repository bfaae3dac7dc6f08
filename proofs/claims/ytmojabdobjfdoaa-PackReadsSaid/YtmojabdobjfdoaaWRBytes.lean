/- The walks of layer 2: a field's writing, as the reference writes it, by contract. -/
import Derived.Test.YtmojabdobjfdoaaWCells
import Derived.Test.YtmojabdobjfdoaaPuts
import Derived.Test.YtmojabdobjfdoaaWRHigh
import Derived.Test.YtmojabdobjfdoaaWMathTwo
import Derived.Deep.RegionHeld3
namespace Go.Proofs.Ytmojabdobjfdoaa
open Go.RowKit M1 M2

/-- a writing as bytes, made a text -/
theorem rput_int (V : Int) (w : World) (h0 : 0 ≤ V) (h1 : V ≤ 18446744073709551615) :
    Calls Try.prog 26 #[.int .u64 V] w fun e w' => ∃ g cap n, e = .returned (.slice (some ⟨g, 0, none⟩) n cap) ∧ (convert 49 9 (.slice (some ⟨g, 0, none⟩) n cap)).run Try.prog w' = .ok (.string (ps V.toNat)) w' ∧ Below w.heap.size w w' := by
  obtain ⟨v, rfl⟩ := Int.eq_ofNat_of_zero_le h0
  refine (rput_any 10 v w (fits_of64 (by unfold Fits64; omega)) (by omega) (by omega)).mono ?_
  rintro e w1 ⟨g, cap, rfl, hown, hb1⟩
  exact ⟨g, cap, sizeN 10 v, rfl, run_bytes_own w1 49 9 5 Try.underlying49 Try.underlying5 Try.underlying9 hown, hb1⟩

set_option maxRecDepth 100000 in
theorem rbytes_no (num typ : Int) (n : Nat) (D : ByteArray) (w : World) (hm : mayB num typ = false) :
    Calls Try.prog 33 #[.agg #[.int .i64 num, .int .i64 typ, .int .u64 (n : Int), .string D]] w fun e w' => e = .returned (.string ⟨#[]⟩) ∧ Below w.heap.size w w' := by
  have hcase : num < 1 ∨ (1 ≤ num ∧ 536870911 < num) ∨ (1 ≤ num ∧ num ≤ 536870911 ∧ typ < 0) ∨ (1 ≤ num ∧ num ≤ 536870911 ∧ 0 ≤ typ ∧ 5 < typ) ∨ (1 ≤ num ∧ num ≤ 536870911 ∧ typ = 3) ∨ (1 ≤ num ∧ num ≤ 536870911 ∧ typ = 4) := by
    unfold mayB at hm
    rw [decide_eq_false_iff_not] at hm
    omega
  clear hm
  rcases hcase with h | ⟨h1, h⟩ | ⟨h1, h2, h⟩ | ⟨h1, h2, h3, h⟩ | ⟨h1, h2, rfl⟩ | ⟨h1, h2, rfl⟩
  all_goals
    go_enter Try.func33, Try.ntmps33
    go_wp2_with fail
    go_ret
    exact ⟨rfl, (Below.refl _ _).alloc (Nat.le_refl _) _⟩

set_option maxRecDepth 100000 in
theorem rbytes_0 (num : Int) (n : Nat) (D : ByteArray) (w : World) (hn : Fits64 n) (h1 : 1 ≤ num) (h2 : num ≤ 536870911) :
    Calls Try.prog 33 #[.agg #[.int .i64 num, .int .i64 0, .int .u64 (n : Int), .string D]] w fun e w' => e = .returned (.string (ps (8 * num).toNat ++ ps n)) ∧ Below w.heap.size w w' := by
  have hn' : (n : Int) ≤ 18446744073709551615 := by unfold Fits64 at hn; omega
  have HN := Lib.hid hn
  clear hn
  have q1 := ps_le (8 * num).toNat
  have q2 := ps_le n
  have q3 : (hs 8 n).size ≤ 8 := by rw [hs_size]; omega
  have q4 : (hs 4 n).size ≤ 8 := by rw [hs_size]; omega
  have q5 := ps_le D.size
  go_enter Try.func33, Try.ntmps33
  go_wp2_with fail
  refine (rput_int _ _ (by omega) (by omega)).mono ?_
  rintro e w1 ⟨g, cap, k, rfl, hconv, hb⟩
  have hblk := (hb.block w.heap.size (by simp)).trans (heap_alloc_new w _)
  have hz := hb.size
  simp at hz
  have HB := Lib.hid (below_one hb)
  obtain ⟨c0, c1, c2, c3⟩ := cells_of4 hblk
  have HK := Lib.hid hblk
  clear hb hblk
  go_wp2_with fail
  refine (rput_int _ _ (by omega) (by omega)).mono ?_
  rintro e w2 ⟨g2, cap2, k2, rfl, hconv2, hb⟩
  have HB3 := Lib.hid (HB.out.trans (hb.mono (by omega)))
  clear hb hconv
  go_wp2_with fail
  go_ret
  exact ⟨rfl, HB3.out⟩

set_option maxRecDepth 100000 in
theorem rbytes_1 (num : Int) (n : Nat) (D : ByteArray) (w : World) (hn : Fits64 n) (h1 : 1 ≤ num) (h2 : num ≤ 536870911) :
    Calls Try.prog 33 #[.agg #[.int .i64 num, .int .i64 1, .int .u64 (n : Int), .string D]] w fun e w' => e = .returned (.string (ps (8 * num + 1).toNat ++ hs 8 n)) ∧ Below w.heap.size w w' := by
  have hn' : (n : Int) ≤ 18446744073709551615 := by unfold Fits64 at hn; omega
  have HN := Lib.hid hn
  clear hn
  have q1 := ps_le (8 * num + 1).toNat
  have q2 := ps_le n
  have q3 : (hs 8 n).size ≤ 8 := by rw [hs_size]; omega
  have q4 : (hs 4 n).size ≤ 8 := by rw [hs_size]; omega
  have q5 := ps_le D.size
  go_enter Try.func33, Try.ntmps33
  go_wp2_with fail
  refine (rput_int _ _ (by omega) (by omega)).mono ?_
  rintro e w1 ⟨g, cap, k, rfl, hconv, hb⟩
  have hblk := (hb.block w.heap.size (by simp)).trans (heap_alloc_new w _)
  have hz := hb.size
  simp at hz
  have HB := Lib.hid (below_one hb)
  obtain ⟨c0, c1, c2, c3⟩ := cells_of4 hblk
  have HK := Lib.hid hblk
  clear hb hblk
  go_wp2_with fail
  refine (rhigh_any n 8 _ HN.out (by omega)).mono ?_
  rintro e w2 ⟨rfl, hb⟩
  have HB3 := Lib.hid (HB.out.trans (hb.mono (by omega)))
  clear hb hconv
  go_wp2_with fail
  go_ret
  exact ⟨rfl, HB3.out⟩

set_option maxRecDepth 100000 in
theorem rbytes_5 (num : Int) (n : Nat) (D : ByteArray) (w : World) (hn : Fits64 n) (h1 : 1 ≤ num) (h2 : num ≤ 536870911) (hmax : (n : Int) ≤ 4294967295) :
    Calls Try.prog 33 #[.agg #[.int .i64 num, .int .i64 5, .int .u64 (n : Int), .string D]] w fun e w' => e = .returned (.string (ps (8 * num + 5).toNat ++ hs 4 n)) ∧ Below w.heap.size w w' := by
  have hn' : (n : Int) ≤ 18446744073709551615 := by unfold Fits64 at hn; omega
  have HN := Lib.hid hn
  clear hn
  have q1 := ps_le (8 * num + 5).toNat
  have q2 := ps_le n
  have q3 : (hs 8 n).size ≤ 8 := by rw [hs_size]; omega
  have q4 : (hs 4 n).size ≤ 8 := by rw [hs_size]; omega
  have q5 := ps_le D.size
  go_enter Try.func33, Try.ntmps33
  go_wp2_with fail
  refine (rput_int _ _ (by omega) (by omega)).mono ?_
  rintro e w1 ⟨g, cap, k, rfl, hconv, hb⟩
  have hblk := (hb.block w.heap.size (by simp)).trans (heap_alloc_new w _)
  have hz := hb.size
  simp at hz
  have HB := Lib.hid (below_one hb)
  obtain ⟨c0, c1, c2, c3⟩ := cells_of4 hblk
  have HK := Lib.hid hblk
  clear hb hblk
  go_wp2_with fail
  refine (rhigh_any n 4 _ HN.out (by omega)).mono ?_
  rintro e w2 ⟨rfl, hb⟩
  have HB3 := Lib.hid (HB.out.trans (hb.mono (by omega)))
  clear hb hconv
  go_wp2_with fail
  go_ret
  exact ⟨rfl, HB3.out⟩

set_option maxRecDepth 100000 in
theorem rbytes_5no (num : Int) (n : Nat) (D : ByteArray) (w : World) (hn : Fits64 n) (h1 : 1 ≤ num) (h2 : num ≤ 536870911) (hmax : 4294967295 < (n : Int)) :
    Calls Try.prog 33 #[.agg #[.int .i64 num, .int .i64 5, .int .u64 (n : Int), .string D]] w fun e w' => e = .returned (.string (⟨#[]⟩)) ∧ Below w.heap.size w w' := by
  have hn' : (n : Int) ≤ 18446744073709551615 := by unfold Fits64 at hn; omega
  have HN := Lib.hid hn
  clear hn
  have q1 := ps_le (8 * num + 5).toNat
  have q2 := ps_le n
  have q3 : (hs 8 n).size ≤ 8 := by rw [hs_size]; omega
  have q4 : (hs 4 n).size ≤ 8 := by rw [hs_size]; omega
  have q5 := ps_le D.size
  go_enter Try.func33, Try.ntmps33
  go_wp2_with fail
  refine (rput_int _ _ (by omega) (by omega)).mono ?_
  rintro e w1 ⟨g, cap, k, rfl, hconv, hb⟩
  have hblk := (hb.block w.heap.size (by simp)).trans (heap_alloc_new w _)
  have hz := hb.size
  simp at hz
  have HB := Lib.hid (below_one hb)
  obtain ⟨c0, c1, c2, c3⟩ := cells_of4 hblk
  have HK := Lib.hid hblk
  clear hb hblk
  go_wp2_with fail
  go_ret
  exact ⟨rfl, HB.out⟩

end Go.Proofs.Ytmojabdobjfdoaa
