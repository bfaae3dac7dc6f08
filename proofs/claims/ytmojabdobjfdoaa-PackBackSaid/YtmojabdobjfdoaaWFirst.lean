/- The walks of layer 2: a text behind its length, by contract; the field at a text's head. -/
import Derived.Test.YtmojabdobjfdoaaWMay
import Derived.Test.YtmojabdobjfdoaaWLow
import Derived.Test.YtmojabdobjfdoaaRead
namespace Go.Proofs.Ytmojabdobjfdoaa
open Go.RowKit M1 M2

set_option maxRecDepth 100000 in
theorem readText_any (s : ByteArray) (w : World) (hs : s.size ≤ maxLen) :
    Calls Try.prog 37 #[.string s] w fun e w' => e = .returned (.tuple #[.string (rt s).1, .int .i64 (rt s).2.1, .int .i64 (rt s).2.2]) ∧ w = w' := by
  have hs' := hs
  unfold maxLen at hs'
  obtain ⟨x, n, e, hr, ok, bad, _⟩ := rd_parts s
  have HR := Lib.hid hr
  have HOK := Lib.hid ok
  have HBAD := Lib.hid bad
  clear ok bad
  by_cases he : e = 0
  · subst he
    obtain ⟨h1, h2, h3⟩ := HOK.out rfl
    have h3' : (x : Int) ≤ 18446744073709551615 := by unfold Fits64 at h3; omega
    have h2' : (n : Int) ≤ (s.size : Int) := by omega
    clear h3 h1 HOK HBAD
    by_cases hl : s.size - n < x
    · have ht : rt s = (⟨#[]⟩, 0, 1) := by unfold rt; rw [hr]; simp [hl]
      rw [ht]
      have hl' : (s.size : Int) - (n : Int) < (x : Int) := by omega
      clear hr ht hl
      go_enter Try.func37, Try.ntmps37
      go_wp2_with fail
      refine (read_any s _ hs).mono ?_
      rintro e w' ⟨rfl, rfl⟩
      rw [HR.out]
      go_wp2_with fail
      go_ret3
      exact ⟨rfl, rfl⟩
    · have ht : rt s = (s.extract n (n + x), n + x, 0) := by unfold rt; rw [hr]; simp [hl]
      rw [ht]
      have hl' : (x : Int) ≤ (s.size : Int) - (n : Int) := by omega
      clear hr ht hl
      go_enter Try.func37, Try.ntmps37
      go_wp2_with fail
      refine (read_any s _ hs).mono ?_
      rintro e w' ⟨rfl, rfl⟩
      rw [HR.out]
      go_wp2_with fail
      go_ret3
      exact ⟨rfl, rfl⟩
  · have ht : rt s = (⟨#[]⟩, 0, e) := by unfold rt; rw [hr]; simp [he]
    rw [ht]
    have hc : ((e : Int) != 0) = true := by simp; omega
    clear hr ht he
    go_enter Try.func37, Try.ntmps37
    go_wp2_with fail
    refine (read_any s _ hs).mono ?_
    rintro e w' ⟨rfl, rfl⟩
    rw [HR.out]
    go_wp2_with fail
    go_ret3
    exact ⟨rfl, rfl⟩

set_option maxRecDepth 100000 in
theorem first_err (s : ByteArray) (w : World) (hs : s.size ≤ maxLen) (he : (rd s).2.2 ≠ 0) :
    Calls Try.prog 29 #[.string s] w fun e w' => e = .returned (.tuple #[.agg #[.int .i64 0, .int .i64 0, .int .u64 0, .string ⟨#[]⟩], .int .i64 0, .int .i64 (rd s).2.2]) ∧ Below w.heap.size w w' := by
  have hc : (((rd s).2.2 : Int) != 0) = true := by simp; omega
  clear he
  generalize hr : (rd s).2.2 = c at hc ⊢
  have HR := Lib.hid hr; clear hr
  go_enter Try.func29, Try.ntmps29
  go_wp2_with fail
  refine (read_any s _ hs).mono ?_
  rintro e w' ⟨rfl, rfl⟩
  rw [HR.out]
  go_wp2_with fail
  exact bodyPost_ret (v := .tuple #[.agg #[.int .i64 0, .int .i64 0, .int .u64 0, .string ⟨#[]⟩], .int .i64 0, .int .i64 c]) (by simp [results, Try.results29, go_sem]) rfl ⟨rfl, (Below.refl _ _).alloc (Nat.le_refl _) _⟩

set_option maxRecDepth 100000 in
theorem first_no (s : ByteArray) (w : World) (hs : s.size ≤ maxLen) (he : (rd s).2.2 = 0) (hm : mayB ((rd s).1 / 8 : Nat) ((rd s).1 % 8 : Nat) = false) :
    Calls Try.prog 29 #[.string s] w fun e w' => e = .returned (.tuple #[.agg #[.int .i64 0, .int .i64 0, .int .u64 0, .string ⟨#[]⟩], .int .i64 0, .int .i64 3]) ∧ Below w.heap.size w w' := by
  have h64 := (rd_fine he).2.2.2
  obtain ⟨x, n, c, hr, -⟩ := rd_parts s
  rw [hr] at he hm h64
  simp only at he hm h64
  subst he
  have h64' : (x : Int) ≤ 18446744073709551615 := by unfold Fits64 at h64; omega
  have HR := Lib.hid hr; clear hr h64
  have HM := Lib.hid hm; clear hm
  go_enter Try.func29, Try.ntmps29
  go_wp2_with fail
  refine (read_any s _ hs).mono ?_
  rintro e w' ⟨rfl, rfl⟩
  rw [HR.out]
  go_wp2_with fail
  refine (may_any _ _ _ _ _ (by omega) (by omega) (by omega) (by omega)).mono ?_
  rintro e w1 ⟨rfl, hb⟩
  have hm : mayB ((x : Int) / 8) ((x : Int) % 8) = false := HM.out
  rw [hm]
  clear hm
  obtain ⟨hc, hf⟩ := kept_cells hb
  have hz := hb.size
  simp at hz
  go_wp2_with fail
  have hblk := (hb.block w.heap.size (by simp; omega)).trans (heap_alloc2_old w _ _)
  obtain ⟨c0, c1, c2, c3⟩ := cells_of4 (set4 hblk (.int .i64 0) (.int .i64 0) (.int .u64 0) (.string ⟨#[]⟩))
  have hbb := ((((below_two hb).setCell (p := ⟨w.heap.size, 0, none⟩) (Nat.le_refl _) (.int .i64 0)).setCell (p := ⟨w.heap.size, 1, none⟩) (Nat.le_refl _) (.int .i64 0)).setCell (p := ⟨w.heap.size, 2, none⟩) (Nat.le_refl _) (.int .u64 0)).setCell (p := ⟨w.heap.size, 3, none⟩) (Nat.le_refl _) (.string ⟨#[]⟩)
  clear hc hf hz
  generalize ((((w1.setCell ⟨w.heap.size, 0, none⟩ (.int .i64 0)).setCell ⟨w.heap.size, 1, none⟩ (.int .i64 0)).setCell ⟨w.heap.size, 2, none⟩ (.int .u64 0)).setCell ⟨w.heap.size, 3, none⟩ (.string ⟨#[]⟩)) = w2 at *
  exact bodyPost_ret (v := .tuple #[.agg #[.int .i64 0, .int .i64 0, .int .u64 0, .string ⟨#[]⟩], .int .i64 0, .int .i64 3]) (by simp [results, Try.results29, go_sem, c0, c1, c2, c3]) rfl ⟨rfl, hbb⟩

set_option maxRecDepth 100000 in
theorem first_0 (s : ByteArray) (x n : Nat) (w : World) (hs : s.size ≤ maxLen) (hr : rd s = (x, n, 0)) (hm : mayB ((x : Int) / 8) ((x : Int) % 8) = true) (ht : x % 8 = 0) (hn : n ≤ s.size) (h64 : Fits64 x)
    (N m c : Nat) (hN : Fits64 N) (hp : rd (rest s n) = (N, m, c)) (hm' : n + m ≤ s.size) :
    Calls Try.prog 29 #[.string s] w fun e w' => e = .returned (.tuple #[.agg (fc (if c = 0 then ⟨(x : Int) / 8, (x : Int) % 8, N, ⟨#[]⟩⟩ else fd0)).toArray, .int .i64 ((if c = 0 then n + m else 0 : Nat) : Int), .int .i64 c]) ∧ Below w.heap.size w w' := by
  have hs' := hs
  unfold maxLen at hs'
  have h64' : (x : Int) ≤ 18446744073709551615 := by unfold Fits64 at h64; omega
  have hN' : (N : Int) ≤ 18446744073709551615 := by unfold Fits64 at hN; omega
  clear hN
  have t0 : ((x : Int) % 8 == 0) = true := by simp; omega
  have HR := Lib.hid hr; clear hr h64
  have HM := Lib.hid hm; clear hm
  have HP := Lib.hid hp; clear hp
  have hrs : (rest s n).size ≤ maxLen := by rw [rest_size]; omega
  clear ht
  unfold rest at hrs
  go_enter Try.func29, Try.ntmps29
  go_wp2_with fail
  refine (read_any s _ hs).mono ?_
  rintro e w' ⟨rfl, rfl⟩
  rw [HR.out]
  go_wp2_with fail
  refine (may_any _ _ _ _ _ (by omega) (by omega) (by omega) (by omega)).mono ?_
  rintro e w1 ⟨rfl, hb⟩
  rw [HM.out]
  have hblk := (hb.block w.heap.size (by simp; omega)).trans (heap_alloc2_old w _ _)
  have hblk2 := (hb.block (w.heap.size + 1) (by simp)).trans (heap_alloc2_new w _ _)
  obtain ⟨hc, hf⟩ := kept_cells hb
  have hz := hb.size
  simp at hz
  go_wp2_with fail
  refine (read_any _ _ hrs).mono ?_
  rintro e w' ⟨rfl, rfl⟩
  rw [show rd (s.extract n s.size) = (N, m, c) from HP.out]
  have hblk' := heap_far hblk (b := w.heap.size + 1) (i := 2) (.int .u64 N) (by omega)
  have hb2 := (below_two hb).setCell (p := ⟨w.heap.size + 1, 2, none⟩) (by simp) (.int .u64 N)
  by_cases h0 : c = 0
  · subst h0
    have hk := cells_of4 (set4 hblk' (.int .i64 ((x : Int) / 8)) (.int .i64 ((x : Int) % 8)) (.int .u64 N) (.string ⟨#[]⟩))
    have hbb := (((hb2.setCell (p := ⟨w.heap.size, 0, none⟩) (Nat.le_refl _) (.int .i64 ((x : Int) / 8))).setCell (p := ⟨w.heap.size, 1, none⟩) (Nat.le_refl _) (.int .i64 ((x : Int) % 8))).setCell (p := ⟨w.heap.size, 2, none⟩) (Nat.le_refl _) (.int .u64 N)).setCell (p := ⟨w.heap.size, 3, none⟩) (Nat.le_refl _) (.string ⟨#[]⟩)
    have HK := Lib.hid (And.intro hk hbb)
    clear hblk hblk2 hblk' hb2 hk hbb
    go_wp2_with fail
    obtain ⟨⟨c0, c1, c2, c3⟩, hbb⟩ := HK.out
    clear hc hf hz HK
    generalize (((((w1.setCell ⟨w.heap.size + 1, 2, none⟩ (.int .u64 N)).setCell ⟨w.heap.size, 0, none⟩ (.int .i64 ((x : Int) / 8))).setCell ⟨w.heap.size, 1, none⟩ (.int .i64 ((x : Int) % 8))).setCell ⟨w.heap.size, 2, none⟩ (.int .u64 N)).setCell ⟨w.heap.size, 3, none⟩ (.string ⟨#[]⟩)) = w2 at *
    exact bodyPost_ret (v := .tuple #[.agg #[.int .i64 ((x : Int) / 8), .int .i64 ((x : Int) % 8), .int .u64 N, .string ⟨#[]⟩], .int .i64 (n + m), .int .i64 0]) (by simp [results, Try.results29, go_sem, c0, c1, c2, c3]) rfl ⟨rfl, hbb⟩
  · have hc1 : ((c : Int) != 0) = true := by simp; omega
    have hk := cells_of4 (set4 hblk' (.int .i64 0) (.int .i64 0) (.int .u64 0) (.string ⟨#[]⟩))
    have hbb := (((hb2.setCell (p := ⟨w.heap.size, 0, none⟩) (Nat.le_refl _) (.int .i64 0)).setCell (p := ⟨w.heap.size, 1, none⟩) (Nat.le_refl _) (.int .i64 0)).setCell (p := ⟨w.heap.size, 2, none⟩) (Nat.le_refl _) (.int .u64 0)).setCell (p := ⟨w.heap.size, 3, none⟩) (Nat.le_refl _) (.string ⟨#[]⟩)
    have HK := Lib.hid (And.intro hk hbb)
    clear hblk hblk2 hblk' hb2 hk hbb
    go_wp2_with fail
    obtain ⟨⟨c0, c1, c2, c3⟩, hbb⟩ := HK.out
    clear hc hf hz HK
    generalize (((((w1.setCell ⟨w.heap.size + 1, 2, none⟩ (.int .u64 N)).setCell ⟨w.heap.size, 0, none⟩ (.int .i64 0)).setCell ⟨w.heap.size, 1, none⟩ (.int .i64 0)).setCell ⟨w.heap.size, 2, none⟩ (.int .u64 0)).setCell ⟨w.heap.size, 3, none⟩ (.string ⟨#[]⟩)) = w2 at *
    exact bodyPost_ret (v := .tuple #[.agg #[.int .i64 0, .int .i64 0, .int .u64 0, .string ⟨#[]⟩], .int .i64 0, .int .i64 c]) (by simp [results, Try.results29, go_sem, c0, c1, c2, c3]) rfl ⟨rfl, hbb⟩

set_option maxRecDepth 100000 in
theorem first_1 (s : ByteArray) (x n : Nat) (w : World) (hs : s.size ≤ maxLen) (hr : rd s = (x, n, 0)) (hm : mayB ((x : Int) / 8) ((x : Int) % 8) = true) (ht : x % 8 = 1) (hn : n ≤ s.size) (h64 : Fits64 x)
    (N m c : Nat) (hN : Fits64 N) (hp : rl (rest s n) 8 = (N, m, c)) (hm' : n + m ≤ s.size) :
    Calls Try.prog 29 #[.string s] w fun e w' => e = .returned (.tuple #[.agg (fc (if c = 0 then ⟨(x : Int) / 8, (x : Int) % 8, N, ⟨#[]⟩⟩ else fd0)).toArray, .int .i64 ((if c = 0 then n + m else 0 : Nat) : Int), .int .i64 c]) ∧ Below w.heap.size w w' := by
  have hs' := hs
  unfold maxLen at hs'
  have h64' : (x : Int) ≤ 18446744073709551615 := by unfold Fits64 at h64; omega
  have hN' : (N : Int) ≤ 18446744073709551615 := by unfold Fits64 at hN; omega
  clear hN
  have t0 : ((x : Int) % 8 == 0) = false := by simp; omega
  have t1 : ((x : Int) % 8 == 1) = true := by simp; omega
  have HR := Lib.hid hr; clear hr h64
  have HM := Lib.hid hm; clear hm
  have HP := Lib.hid hp; clear hp
  have hrs : (rest s n).size ≤ maxLen := by rw [rest_size]; omega
  clear ht
  unfold rest at hrs
  go_enter Try.func29, Try.ntmps29
  go_wp2_with fail
  refine (read_any s _ hs).mono ?_
  rintro e w' ⟨rfl, rfl⟩
  rw [HR.out]
  go_wp2_with fail
  refine (may_any _ _ _ _ _ (by omega) (by omega) (by omega) (by omega)).mono ?_
  rintro e w1 ⟨rfl, hb⟩
  rw [HM.out]
  have hblk := (hb.block w.heap.size (by simp; omega)).trans (heap_alloc2_old w _ _)
  have hblk2 := (hb.block (w.heap.size + 1) (by simp)).trans (heap_alloc2_new w _ _)
  obtain ⟨hc, hf⟩ := kept_cells hb
  have hz := hb.size
  simp at hz
  go_wp2_with fail
  refine (readLow_any _ 8 _ hrs (by omega)).mono ?_
  rintro e w' ⟨rfl, rfl⟩
  rw [show rl (s.extract n s.size) 8 = (N, m, c) from HP.out]
  have hblk' := heap_far hblk (b := w.heap.size + 1) (i := 2) (.int .u64 N) (by omega)
  have hb2 := (below_two hb).setCell (p := ⟨w.heap.size + 1, 2, none⟩) (by simp) (.int .u64 N)
  by_cases h0 : c = 0
  · subst h0
    have hk := cells_of4 (set4 hblk' (.int .i64 ((x : Int) / 8)) (.int .i64 ((x : Int) % 8)) (.int .u64 N) (.string ⟨#[]⟩))
    have hbb := (((hb2.setCell (p := ⟨w.heap.size, 0, none⟩) (Nat.le_refl _) (.int .i64 ((x : Int) / 8))).setCell (p := ⟨w.heap.size, 1, none⟩) (Nat.le_refl _) (.int .i64 ((x : Int) % 8))).setCell (p := ⟨w.heap.size, 2, none⟩) (Nat.le_refl _) (.int .u64 N)).setCell (p := ⟨w.heap.size, 3, none⟩) (Nat.le_refl _) (.string ⟨#[]⟩)
    have HK := Lib.hid (And.intro hk hbb)
    clear hblk hblk2 hblk' hb2 hk hbb
    go_wp2_with fail
    obtain ⟨⟨c0, c1, c2, c3⟩, hbb⟩ := HK.out
    clear hc hf hz HK
    generalize (((((w1.setCell ⟨w.heap.size + 1, 2, none⟩ (.int .u64 N)).setCell ⟨w.heap.size, 0, none⟩ (.int .i64 ((x : Int) / 8))).setCell ⟨w.heap.size, 1, none⟩ (.int .i64 ((x : Int) % 8))).setCell ⟨w.heap.size, 2, none⟩ (.int .u64 N)).setCell ⟨w.heap.size, 3, none⟩ (.string ⟨#[]⟩)) = w2 at *
    exact bodyPost_ret (v := .tuple #[.agg #[.int .i64 ((x : Int) / 8), .int .i64 ((x : Int) % 8), .int .u64 N, .string ⟨#[]⟩], .int .i64 (n + m), .int .i64 0]) (by simp [results, Try.results29, go_sem, c0, c1, c2, c3]) rfl ⟨rfl, hbb⟩
  · have hc1 : ((c : Int) != 0) = true := by simp; omega
    have hk := cells_of4 (set4 hblk' (.int .i64 0) (.int .i64 0) (.int .u64 0) (.string ⟨#[]⟩))
    have hbb := (((hb2.setCell (p := ⟨w.heap.size, 0, none⟩) (Nat.le_refl _) (.int .i64 0)).setCell (p := ⟨w.heap.size, 1, none⟩) (Nat.le_refl _) (.int .i64 0)).setCell (p := ⟨w.heap.size, 2, none⟩) (Nat.le_refl _) (.int .u64 0)).setCell (p := ⟨w.heap.size, 3, none⟩) (Nat.le_refl _) (.string ⟨#[]⟩)
    have HK := Lib.hid (And.intro hk hbb)
    clear hblk hblk2 hblk' hb2 hk hbb
    go_wp2_with fail
    obtain ⟨⟨c0, c1, c2, c3⟩, hbb⟩ := HK.out
    clear hc hf hz HK
    generalize (((((w1.setCell ⟨w.heap.size + 1, 2, none⟩ (.int .u64 N)).setCell ⟨w.heap.size, 0, none⟩ (.int .i64 0)).setCell ⟨w.heap.size, 1, none⟩ (.int .i64 0)).setCell ⟨w.heap.size, 2, none⟩ (.int .u64 0)).setCell ⟨w.heap.size, 3, none⟩ (.string ⟨#[]⟩)) = w2 at *
    exact bodyPost_ret (v := .tuple #[.agg #[.int .i64 0, .int .i64 0, .int .u64 0, .string ⟨#[]⟩], .int .i64 0, .int .i64 c]) (by simp [results, Try.results29, go_sem, c0, c1, c2, c3]) rfl ⟨rfl, hbb⟩

set_option maxRecDepth 100000 in
theorem first_2 (s : ByteArray) (x n : Nat) (w : World) (hs : s.size ≤ maxLen) (hr : rd s = (x, n, 0)) (hm : mayB ((x : Int) / 8) ((x : Int) % 8) = true) (ht : x % 8 = 2) (hn : n ≤ s.size) (h64 : Fits64 x)
    (D : ByteArray) (m c : Nat) (hp : rt (rest s n) = (D, m, c)) (hm' : n + m ≤ s.size) :
    Calls Try.prog 29 #[.string s] w fun e w' => e = .returned (.tuple #[.agg (fc (if c = 0 then ⟨(x : Int) / 8, (x : Int) % 8, 0, D⟩ else fd0)).toArray, .int .i64 ((if c = 0 then n + m else 0 : Nat) : Int), .int .i64 c]) ∧ Below w.heap.size w w' := by
  have hs' := hs
  unfold maxLen at hs'
  have h64' : (x : Int) ≤ 18446744073709551615 := by unfold Fits64 at h64; omega
  have t0 : ((x : Int) % 8 == 0) = false := by simp; omega
  have t1 : ((x : Int) % 8 == 1) = false := by simp; omega
  have t2 : ((x : Int) % 8 == 2) = true := by simp; omega
  have HR := Lib.hid hr; clear hr h64
  have HM := Lib.hid hm; clear hm
  have HP := Lib.hid hp; clear hp
  have hrs : (rest s n).size ≤ maxLen := by rw [rest_size]; omega
  clear ht
  unfold rest at hrs
  go_enter Try.func29, Try.ntmps29
  go_wp2_with fail
  refine (read_any s _ hs).mono ?_
  rintro e w' ⟨rfl, rfl⟩
  rw [HR.out]
  go_wp2_with fail
  refine (may_any _ _ _ _ _ (by omega) (by omega) (by omega) (by omega)).mono ?_
  rintro e w1 ⟨rfl, hb⟩
  rw [HM.out]
  have hblk := (hb.block w.heap.size (by simp; omega)).trans (heap_alloc2_old w _ _)
  have hblk2 := (hb.block (w.heap.size + 1) (by simp)).trans (heap_alloc2_new w _ _)
  obtain ⟨hc, hf⟩ := kept_cells hb
  have hz := hb.size
  simp at hz
  go_wp2_with fail
  refine (readText_any _ _ hrs).mono ?_
  rintro e w' ⟨rfl, rfl⟩
  rw [show rt (s.extract n s.size) = (D, m, c) from HP.out]
  have hblk' := heap_far hblk (b := w.heap.size + 1) (i := 3) (.string D) (by omega)
  have hb2 := (below_two hb).setCell (p := ⟨w.heap.size + 1, 3, none⟩) (by simp) (.string D)
  by_cases h0 : c = 0
  · subst h0
    have hk := cells_of4 (set4 hblk' (.int .i64 ((x : Int) / 8)) (.int .i64 ((x : Int) % 8)) (.int .u64 0) (.string D))
    have hbb := (((hb2.setCell (p := ⟨w.heap.size, 0, none⟩) (Nat.le_refl _) (.int .i64 ((x : Int) / 8))).setCell (p := ⟨w.heap.size, 1, none⟩) (Nat.le_refl _) (.int .i64 ((x : Int) % 8))).setCell (p := ⟨w.heap.size, 2, none⟩) (Nat.le_refl _) (.int .u64 0)).setCell (p := ⟨w.heap.size, 3, none⟩) (Nat.le_refl _) (.string D)
    have HK := Lib.hid (And.intro hk hbb)
    clear hblk hblk2 hblk' hb2 hk hbb
    go_wp2_with fail
    obtain ⟨⟨c0, c1, c2, c3⟩, hbb⟩ := HK.out
    clear hc hf hz HK
    generalize (((((w1.setCell ⟨w.heap.size + 1, 3, none⟩ (.string D)).setCell ⟨w.heap.size, 0, none⟩ (.int .i64 ((x : Int) / 8))).setCell ⟨w.heap.size, 1, none⟩ (.int .i64 ((x : Int) % 8))).setCell ⟨w.heap.size, 2, none⟩ (.int .u64 0)).setCell ⟨w.heap.size, 3, none⟩ (.string D)) = w2 at *
    exact bodyPost_ret (v := .tuple #[.agg #[.int .i64 ((x : Int) / 8), .int .i64 ((x : Int) % 8), .int .u64 0, .string D], .int .i64 (n + m), .int .i64 0]) (by simp [results, Try.results29, go_sem, c0, c1, c2, c3]) rfl ⟨rfl, hbb⟩
  · have hc1 : ((c : Int) != 0) = true := by simp; omega
    have hk := cells_of4 (set4 hblk' (.int .i64 0) (.int .i64 0) (.int .u64 0) (.string ⟨#[]⟩))
    have hbb := (((hb2.setCell (p := ⟨w.heap.size, 0, none⟩) (Nat.le_refl _) (.int .i64 0)).setCell (p := ⟨w.heap.size, 1, none⟩) (Nat.le_refl _) (.int .i64 0)).setCell (p := ⟨w.heap.size, 2, none⟩) (Nat.le_refl _) (.int .u64 0)).setCell (p := ⟨w.heap.size, 3, none⟩) (Nat.le_refl _) (.string ⟨#[]⟩)
    have HK := Lib.hid (And.intro hk hbb)
    clear hblk hblk2 hblk' hb2 hk hbb
    go_wp2_with fail
    obtain ⟨⟨c0, c1, c2, c3⟩, hbb⟩ := HK.out
    clear hc hf hz HK
    generalize (((((w1.setCell ⟨w.heap.size + 1, 3, none⟩ (.string D)).setCell ⟨w.heap.size, 0, none⟩ (.int .i64 0)).setCell ⟨w.heap.size, 1, none⟩ (.int .i64 0)).setCell ⟨w.heap.size, 2, none⟩ (.int .u64 0)).setCell ⟨w.heap.size, 3, none⟩ (.string ⟨#[]⟩)) = w2 at *
    exact bodyPost_ret (v := .tuple #[.agg #[.int .i64 0, .int .i64 0, .int .u64 0, .string ⟨#[]⟩], .int .i64 0, .int .i64 c]) (by simp [results, Try.results29, go_sem, c0, c1, c2, c3]) rfl ⟨rfl, hbb⟩

set_option maxRecDepth 100000 in
theorem first_5 (s : ByteArray) (x n : Nat) (w : World) (hs : s.size ≤ maxLen) (hr : rd s = (x, n, 0)) (hm : mayB ((x : Int) / 8) ((x : Int) % 8) = true) (ht : x % 8 = 5) (hn : n ≤ s.size) (h64 : Fits64 x)
    (N m c : Nat) (hN : Fits64 N) (hp : rl (rest s n) 4 = (N, m, c)) (hm' : n + m ≤ s.size) :
    Calls Try.prog 29 #[.string s] w fun e w' => e = .returned (.tuple #[.agg (fc (if c = 0 then ⟨(x : Int) / 8, (x : Int) % 8, N, ⟨#[]⟩⟩ else fd0)).toArray, .int .i64 ((if c = 0 then n + m else 0 : Nat) : Int), .int .i64 c]) ∧ Below w.heap.size w w' := by
  have hs' := hs
  unfold maxLen at hs'
  have h64' : (x : Int) ≤ 18446744073709551615 := by unfold Fits64 at h64; omega
  have hN' : (N : Int) ≤ 18446744073709551615 := by unfold Fits64 at hN; omega
  clear hN
  have t0 : ((x : Int) % 8 == 0) = false := by simp; omega
  have t1 : ((x : Int) % 8 == 1) = false := by simp; omega
  have t2 : ((x : Int) % 8 == 2) = false := by simp; omega
  have t5 : ((x : Int) % 8 == 5) = true := by simp; omega
  have HR := Lib.hid hr; clear hr h64
  have HM := Lib.hid hm; clear hm
  have HP := Lib.hid hp; clear hp
  have hrs : (rest s n).size ≤ maxLen := by rw [rest_size]; omega
  clear ht
  unfold rest at hrs
  go_enter Try.func29, Try.ntmps29
  go_wp2_with fail
  refine (read_any s _ hs).mono ?_
  rintro e w' ⟨rfl, rfl⟩
  rw [HR.out]
  go_wp2_with fail
  refine (may_any _ _ _ _ _ (by omega) (by omega) (by omega) (by omega)).mono ?_
  rintro e w1 ⟨rfl, hb⟩
  rw [HM.out]
  have hblk := (hb.block w.heap.size (by simp; omega)).trans (heap_alloc2_old w _ _)
  have hblk2 := (hb.block (w.heap.size + 1) (by simp)).trans (heap_alloc2_new w _ _)
  obtain ⟨hc, hf⟩ := kept_cells hb
  have hz := hb.size
  simp at hz
  go_wp2_with fail
  refine (readLow_any _ 4 _ hrs (by omega)).mono ?_
  rintro e w' ⟨rfl, rfl⟩
  rw [show rl (s.extract n s.size) 4 = (N, m, c) from HP.out]
  have hblk' := heap_far hblk (b := w.heap.size + 1) (i := 2) (.int .u64 N) (by omega)
  have hb2 := (below_two hb).setCell (p := ⟨w.heap.size + 1, 2, none⟩) (by simp) (.int .u64 N)
  by_cases h0 : c = 0
  · subst h0
    have hk := cells_of4 (set4 hblk' (.int .i64 ((x : Int) / 8)) (.int .i64 ((x : Int) % 8)) (.int .u64 N) (.string ⟨#[]⟩))
    have hbb := (((hb2.setCell (p := ⟨w.heap.size, 0, none⟩) (Nat.le_refl _) (.int .i64 ((x : Int) / 8))).setCell (p := ⟨w.heap.size, 1, none⟩) (Nat.le_refl _) (.int .i64 ((x : Int) % 8))).setCell (p := ⟨w.heap.size, 2, none⟩) (Nat.le_refl _) (.int .u64 N)).setCell (p := ⟨w.heap.size, 3, none⟩) (Nat.le_refl _) (.string ⟨#[]⟩)
    have HK := Lib.hid (And.intro hk hbb)
    clear hblk hblk2 hblk' hb2 hk hbb
    go_wp2_with fail
    obtain ⟨⟨c0, c1, c2, c3⟩, hbb⟩ := HK.out
    clear hc hf hz HK
    generalize (((((w1.setCell ⟨w.heap.size + 1, 2, none⟩ (.int .u64 N)).setCell ⟨w.heap.size, 0, none⟩ (.int .i64 ((x : Int) / 8))).setCell ⟨w.heap.size, 1, none⟩ (.int .i64 ((x : Int) % 8))).setCell ⟨w.heap.size, 2, none⟩ (.int .u64 N)).setCell ⟨w.heap.size, 3, none⟩ (.string ⟨#[]⟩)) = w2 at *
    exact bodyPost_ret (v := .tuple #[.agg #[.int .i64 ((x : Int) / 8), .int .i64 ((x : Int) % 8), .int .u64 N, .string ⟨#[]⟩], .int .i64 (n + m), .int .i64 0]) (by simp [results, Try.results29, go_sem, c0, c1, c2, c3]) rfl ⟨rfl, hbb⟩
  · have hc1 : ((c : Int) != 0) = true := by simp; omega
    have hk := cells_of4 (set4 hblk' (.int .i64 0) (.int .i64 0) (.int .u64 0) (.string ⟨#[]⟩))
    have hbb := (((hb2.setCell (p := ⟨w.heap.size, 0, none⟩) (Nat.le_refl _) (.int .i64 0)).setCell (p := ⟨w.heap.size, 1, none⟩) (Nat.le_refl _) (.int .i64 0)).setCell (p := ⟨w.heap.size, 2, none⟩) (Nat.le_refl _) (.int .u64 0)).setCell (p := ⟨w.heap.size, 3, none⟩) (Nat.le_refl _) (.string ⟨#[]⟩)
    have HK := Lib.hid (And.intro hk hbb)
    clear hblk hblk2 hblk' hb2 hk hbb
    go_wp2_with fail
    obtain ⟨⟨c0, c1, c2, c3⟩, hbb⟩ := HK.out
    clear hc hf hz HK
    generalize (((((w1.setCell ⟨w.heap.size + 1, 2, none⟩ (.int .u64 N)).setCell ⟨w.heap.size, 0, none⟩ (.int .i64 0)).setCell ⟨w.heap.size, 1, none⟩ (.int .i64 0)).setCell ⟨w.heap.size, 2, none⟩ (.int .u64 0)).setCell ⟨w.heap.size, 3, none⟩ (.string ⟨#[]⟩)) = w2 at *
    exact bodyPost_ret (v := .tuple #[.agg #[.int .i64 0, .int .i64 0, .int .u64 0, .string ⟨#[]⟩], .int .i64 0, .int .i64 c]) (by simp [results, Try.results29, go_sem, c0, c1, c2, c3]) rfl ⟨rfl, hbb⟩

/-- the field at a text's head -/
theorem first_any (s : ByteArray) (w : World) (hs : s.size ≤ maxLen) :
    Calls Try.prog 29 #[.string s] w fun e w' => e = .returned (.tuple #[.agg (fc (one s).1).toArray, .int .i64 (one s).2.1, .int .i64 (one s).2.2]) ∧ Below w.heap.size w w' := by
  by_cases he : (rd s).2.2 = 0
  · by_cases hm : mayB ((rd s).1 / 8 : Nat) ((rd s).1 % 8 : Nat) = true
    · obtain ⟨x, n, c, hr, ok, -, -⟩ := rd_parts s
      have he' : c = 0 := by rw [hr] at he; exact he
      subst he'
      obtain ⟨hn0, hn, h64⟩ := ok rfl
      have e : one s = (if (pay (x % 8) (rest s n)).2.2.2 = 0 then ⟨(x : Int) / 8, (x : Int) % 8, (pay (x % 8) (rest s n)).1, (pay (x % 8) (rest s n)).2.1⟩ else fd0,
          if (pay (x % 8) (rest s n)).2.2.2 = 0 then n + (pay (x % 8) (rest s n)).2.2.1 else 0, (pay (x % 8) (rest s n)).2.2.2) := by
        unfold one
        rw [hr] at hm ⊢
        simp only at hm ⊢
        rw [if_neg (by omega), hm, if_neg (by simp)]
        by_cases h0 : (pay (x % 8) (rest s n)).2.2.2 = 0
        · rw [if_neg (by omega), if_pos h0, if_pos h0, h0]; simp
        · rw [if_pos h0, if_neg h0, if_neg h0]
      have hp := pay_le (x % 8) (rest s n)
      rw [rest_size] at hp
      rw [hr] at hm
      have hm' : mayB ((x : Int) / 8) ((x : Int) % 8) = true := hm
      have ht : x % 8 = 0 ∨ x % 8 = 1 ∨ x % 8 = 2 ∨ x % 8 = 5 := by have := mayB_typ hm'; omega
      rcases ht with ht | ht | ht | ht
      · have e2 : pay (x % 8) (rest s n) = ((rd (rest s n)).1, ⟨#[]⟩, (rd (rest s n)).2.1, (rd (rest s n)).2.2) := by rw [ht]; rfl
        rw [e2] at e hp
        obtain ⟨N, m, c, hq⟩ : ∃ N m c, rd (rest s n) = (N, m, c) := ⟨_, _, _, rfl⟩
        have hN := rd_fits (rest s n)
        rw [hq] at e hp hN
        have := first_0 s x n w hs hr hm' ht hn h64 N m c hN hq (by simp only at hp; omega)
        rw [e]
        exact this
      · have e2 : pay (x % 8) (rest s n) = ((rl (rest s n) 8).1, ⟨#[]⟩, (rl (rest s n) 8).2.1, (rl (rest s n) 8).2.2) := by rw [ht]; rfl
        rw [e2] at e hp
        obtain ⟨N, m, c, hq⟩ : ∃ N m c, rl (rest s n) 8 = (N, m, c) := ⟨_, _, _, rfl⟩
        have hN := rl_fits (rest s n) (show 8 ≤ 8 by omega)
        rw [hq] at e hp hN
        have := first_1 s x n w hs hr hm' ht hn h64 N m c hN hq (by simp only at hp; omega)
        rw [e]
        exact this
      · have e2 : pay (x % 8) (rest s n) = (0, (rt (rest s n)).1, (rt (rest s n)).2.1, (rt (rest s n)).2.2) := by rw [ht]; rfl
        rw [e2] at e hp
        obtain ⟨D, m, c, hq⟩ : ∃ D m c, rt (rest s n) = (D, m, c) := ⟨_, _, _, rfl⟩
        rw [hq] at e hp
        have := first_2 s x n w hs hr hm' ht hn h64 D m c hq (by simp only at hp; omega)
        rw [e]
        exact this
      · have e2 : pay (x % 8) (rest s n) = ((rl (rest s n) 4).1, ⟨#[]⟩, (rl (rest s n) 4).2.1, (rl (rest s n) 4).2.2) := by rw [ht]; rfl
        rw [e2] at e hp
        obtain ⟨N, m, c, hq⟩ : ∃ N m c, rl (rest s n) 4 = (N, m, c) := ⟨_, _, _, rfl⟩
        have hN := rl_fits (rest s n) (show 4 ≤ 8 by omega)
        rw [hq] at e hp hN
        have := first_5 s x n w hs hr hm' ht hn h64 N m c hN hq (by simp only at hp; omega)
        rw [e]
        exact this
    · have hm' : mayB ((rd s).1 / 8 : Nat) ((rd s).1 % 8 : Nat) = false := by simpa using hm
      have e : one s = (fd0, 0, 3) := by unfold one; rw [if_neg (by omega), if_pos hm']
      rw [e]
      exact first_no s w hs he hm'
  · have e : one s = (fd0, 0, (rd s).2.2) := by unfold one; rw [if_pos he]
    rw [e]
    exact first_err s w hs he
end Go.Proofs.Ytmojabdobjfdoaa
