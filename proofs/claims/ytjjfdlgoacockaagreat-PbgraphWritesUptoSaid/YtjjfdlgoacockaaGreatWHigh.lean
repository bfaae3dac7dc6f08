import Derived.Test.YtjjfdlgoacockaaGreatRows
import Derived.Test.YtjjfdlgoacockaaGreatMath
import Derived.Test.YtjjfdlgoacockaaGreatPuts
import Derived.Outline
import Derived.WalkSpells
import Derived.WalkMore
import Derived.OneCell
namespace Go.Proofs.YtjjfdlgoacockaaGreat
open Go.RowKit M1 M2

theorem hi_cell (v n k : Nat) (h : k < n) : (bv (hi k v) ++ List.replicate (n - k) (Value.int .u8 0))[k]? = some (.int .u8 0) := by
  have hl : (bv (hi k v)).length = k := by rw [bv_len, hi_len]
  rw [List.getElem?_append_right (by omega), hl, Nat.sub_self, List.getElem?_replicate, if_pos (by omega)]
theorem pb_two (k : Nat) : (2 : Int) ^ (8 * k) = ((pb k : Nat) : Int) := by
  rw [pb, show (256 : Nat) = 2 ^ 8 from rfl, ← Nat.pow_mul, Int.natCast_pow]; rfl
theorem hi_set (v n k : Nat) (h : k < n) : (bv (hi k v) ++ List.replicate (n - k) (Value.int .u8 0)).set k (.int .u8 ((v : Int) / 2 ^ (8 * k) % 256)) =
    bv (hi (k + 1) v) ++ List.replicate (n - (k + 1)) (.int .u8 0) := by
  have hl : (bv (hi k v)).length = k := by rw [bv_len, hi_len]
  obtain ⟨m, hm⟩ : ∃ m, n - k = m + 1 := ⟨n - k - 1, by omega⟩
  have hm' : n - (k + 1) = m := by omega
  have e : ((v : Int) / 2 ^ (8 * k) % 256) = ((v / pb k % 256 : Nat) : Int) := by rw [pb_two]; simp
  rw [hm, hm', List.replicate_succ, List.set_append, if_neg (by omega), hl, Nat.sub_self, List.set_cons_zero, hi_snoc, bv_append, ← bv_one (by omega), e]
  simp

set_option maxRecDepth 100000 in
theorem putLow_any (v n : Nat) (w : World) (hn : n ≤ 8) :
    Calls Tryz.prog 135 #[.int .u64 v, .int .i64 n] w fun e w' => e = .returned (.string (hs n v)) ∧ Below w.heap.size w w' := by
  obtain ⟨i0, hi0, hz0, hz1, hz2⟩ := info_parts infoByte
  go_enter Tryz.func135, Tryz.ntmps135
  go_wp2_with (at_make; refine wpList_make_full _ rfl (.tmp 7) (.tmp 7) 113 rfl w.heap.size 5 i0 (.int .u8 0) 1 Tryz.underlying113 hi0 hz0 hz1 .i64 .i64 n n n rfl rfl rfl rfl (by rw [hz2]; omega) (by unfold maxLen; omega) (Nat.le_refl _) ?_)
  intro w1 hown hg
  have hb : Below w.heap.size w w1 := (Below.refl _ _).grown hg (Nat.le_refl _) (by simp)
  have e0 : (madeCells #[Value.int .u8 0] n).toList = bv (hi 0 v) ++ List.replicate (n - 0) (.int .u8 0) := toList_madeCells_one _ _
  rw [e0] at hown
  have HOWN := Lib.hid hown
  have HB := Lib.hid hb
  clear e0 hown hg hb
  generalize hG : w.heap.size = G at *
  have HG := Lib.hid hG; clear hG
  go_wp2_with fail
  go_loopw [6, 10] (fun _ i wr => ∃ (k : Nat) (K : Int), k ≤ n ∧ i = .int .i64 K ∧ K = (k : Nat) ∧ wr.ownsRow G 5 1 (.slice (some ⟨G, 0, none⟩) n n) n (bv (hi k v) ++ List.replicate (n - k) (.int .u8 0)) ∧ Below G w wr) (fun _ i _ => n - (intOf i).toNat)
  case atStart => exact ⟨0, _, by omega, rfl, rfl, HOWN.out, HB.out⟩
  case round =>
    obtain ⟨k, K, hk, rfl, rfl, hown, hb⟩ := hrel
    by_cases hlt : k < n
    · have hcell := hown.cellAt k (by omega)
      rw [hi_cell v n k hlt] at hcell
      have hfr := hown.frozenAt k
      obtain ⟨hs1, hs2⟩ := hown.stored k (.int .u8 ((v : Int) / 2 ^ (8 * k) % 256))
      rw [hi_set v n k hlt] at hs1
      have hb1 : Below G w _ := hb.setCell (p := ⟨G, k, none⟩) (Nat.le_refl _) (.int .u8 ((v : Int) / 2 ^ (8 * k) % 256))
      have HS := Lib.hid (And.intro hs1 hb1)
      clear hs1 hs2 hb1 hown hb
      go_wp2
      go_roundw
      case rel => exact ⟨k + 1, _, by omega, rfl, by omega, HS.out.1, HS.out.2⟩
      case measure => simp [intOf]; omega
    · obtain rfl : k = n := by omega
      have e1 : bv (hi k v) ++ List.replicate (k - k) (Value.int .u8 0) = bv (hi k v) := by simp
      rw [e1] at hown
      have hconv := run_bytes_own wr 113 9 5 Tryz.underlying113 Tryz.underlying5 Tryz.underlying9 hown
      clear e1 hown
      go_wp2
      go_ret
      exact ⟨rfl, by rw [HG.out]; exact hb⟩
end Go.Proofs.YtjjfdlgoacockaaGreat
namespace Go.Proofs.YtjjfdlgoacockaaGreat
open Go.RowKit M1 M2

set_option maxRecDepth 100000 in
theorem rhigh_any (v n : Nat) (w : World) (hv : Fits64 v) (hn : n ≤ 8) :
    Calls Tryz.prog 137 #[.int .u64 v, .int .i64 n] w fun e w' => e = .returned (.string (hs n v)) ∧ Below w.heap.size w w' := by
  have HV := Lib.hid hv; clear hv
  go_enter Tryz.func137, Tryz.ntmps137
  go_wp2
  go_loopw [0, 5, 6] (fun x s i wr => ∃ (k : Nat) (X K : Int), k ≤ n ∧ x = .int .u64 X ∧ i = .int .i64 K ∧ X = (v / pb k : Nat) ∧ K = (k : Nat) ∧ s = .string (hs k v) ∧ Below w.heap.size w wr) (fun _ _ i _ => n - (intOf i).toNat)
  case atStart => exact ⟨0, _, _, by omega, rfl, rfl, by simp [pb], rfl, rfl, Below.refl _ _⟩
  case round =>
    obtain ⟨k, X, K, hk, rfl, rfl, rfl, rfl, rfl, hb⟩ := hrel
    by_cases hlt : k < n
    · have hq : (v / pb k : Nat) ≤ v := Nat.div_le_self _ _
      have hv' : (v / pb k : Nat) ≤ 18446744073709551615 := by have := HV.out; unfold Fits64 at this; omega
      have hl := hs_size k v
      have hl2 : (hs k v).size ≤ 8 := by omega
      have hsz := hb.size
      generalize hx : v / pb k = x at *
      have HX := Lib.hid hx
      have HL := Lib.hid hl
      have hown : (wr.alloc (.cells #[.int .u8 ((x : Int) % 256)] 5)).ownsRow wr.heap.size 5 1 (.slice (some ⟨wr.heap.size, 0, none⟩) 1 1) 1 (bv [UInt8.ofNat (x % 256)]) := by
        rw [← bv_one (by omega)]
        exact World.ownsRow_lit wr #[.int .u8 ((x : Int) % 256)] 1 (Nat.le_refl _) (by unfold maxLen; omega) rfl
      have hconv := run_bytes_own (P := Tryz.prog) _ 113 9 5 Tryz.underlying113 Tryz.underlying5 Tryz.underlying9 hown
      have es := hs_snoc k v
      rw [hx] at es
      have ed : x / 256 = v / pb (k + 1) := by rw [← hx, Nat.div_div_eq_div_mul, pb_succ]
      have HE := Lib.hid (And.intro es ed)
      clear hx hl hq hown es ed
      go_wp2
      go_roundw
      case rel =>
        refine ⟨k + 1, _, _, by omega, rfl, rfl, by rw [← HE.out.2]; omega, by omega, ?_, hb.alloc hsz _⟩
        rw [HE.out.1]
      case measure => simp [intOf]; omega
    · obtain rfl : k = n := by omega
      go_wp2
      go_ret
      exact ⟨rfl, hb⟩
end Go.Proofs.YtjjfdlgoacockaaGreat
namespace Go.Proofs.YtjjfdlgoacockaaGreat
open Go.RowKit M1 M2

set_option maxRecDepth 100000 in
theorem readText_any (s : ByteArray) (w : World) (hs : s.size ≤ maxLen) :
    Calls Tryz.prog 155 #[.string s] w fun e w' => e = .returned (.tuple #[.string (rt s).1, .int .i64 (rt s).2.1, .int .i64 (rt s).2.2]) ∧ w = w' := by
  have hs' := hs
  unfold maxLen at hs'
  obtain ⟨x, n, e, hr, ok, bad, _⟩ := rd_parts s
  have HR := Lib.hid hr
  have HOK := Lib.hid ok
  have HBAD := Lib.hid bad
  clear ok bad
  by_cases he : e = 0
  · subst he
    obtain ⟨h1, h2, h3⟩ := HOK.out rfl
    have h3' : (x : Int) ≤ 18446744073709551615 := by unfold Fits64 at h3; omega
    have h2' : (n : Int) ≤ (s.size : Int) := by omega
    clear h3 h1 HOK HBAD
    by_cases hl : s.size - n < x
    · have ht : rt s = (⟨#[]⟩, 0, 1) := by unfold rt; rw [hr]; simp [hl]
      rw [ht]
      have hl' : (s.size : Int) - (n : Int) < (x : Int) := by omega
      clear hr ht hl
      go_enter Tryz.func155, Tryz.ntmps155
      go_wp2_with fail
      refine (v_read_any s _ hs).mono ?_
      rintro e w' ⟨rfl, rfl⟩
      rw [HR.out]
      go_wp2_with fail
      go_ret3
      exact ⟨rfl, rfl⟩
    · have ht : rt s = (s.extract n (n + x), n + x, 0) := by unfold rt; rw [hr]; simp [hl]
      rw [ht]
      have hl' : (x : Int) ≤ (s.size : Int) - (n : Int) := by omega
      clear hr ht hl
      go_enter Tryz.func155, Tryz.ntmps155
      go_wp2_with fail
      refine (v_read_any s _ hs).mono ?_
      rintro e w' ⟨rfl, rfl⟩
      rw [HR.out]
      go_wp2_with fail
      go_ret3
      exact ⟨rfl, rfl⟩
  · have ht : rt s = (⟨#[]⟩, 0, e) := by unfold rt; rw [hr]; simp [he]
    rw [ht]
    have hc : ((e : Int) != 0) = true := by simp; omega
    clear hr ht he
    go_enter Tryz.func155, Tryz.ntmps155
    go_wp2_with fail
    refine (v_read_any s _ hs).mono ?_
    rintro e w' ⟨rfl, rfl⟩
    rw [HR.out]
    go_wp2_with fail
    go_ret3
    exact ⟨rfl, rfl⟩

set_option maxRecDepth 100000 in
theorem first_err (s : ByteArray) (w : World) (hs : s.size ≤ maxLen) (he : (rd s).2.2 ≠ 0) :
    Calls Tryz.prog 109 #[.string s] w fun e w' => e = .returned (.tuple #[.agg #[.int .i64 0, .int .i64 0, .int .u64 0, .string ⟨#[]⟩], .int .i64 0, .int .i64 (rd s).2.2]) ∧ Below w.heap.size w w' := by
  have hc : (((rd s).2.2 : Int) != 0) = true := by simp; omega
  clear he
  generalize hr : (rd s).2.2 = c at hc ⊢
  have HR := Lib.hid hr; clear hr
  go_enter Tryz.func109, Tryz.ntmps109
  go_wp2_with fail
  refine (v_read_any s _ hs).mono ?_
  rintro e w' ⟨rfl, rfl⟩
  rw [HR.out]
  go_wp2_with fail
  exact bodyPost_ret (v := .tuple #[.agg #[.int .i64 0, .int .i64 0, .int .u64 0, .string ⟨#[]⟩], .int .i64 0, .int .i64 c]) (by simp [results, Tryz.results109, go_sem]) rfl ⟨rfl, (Below.refl _ _).alloc (Nat.le_refl _) _⟩

set_option maxRecDepth 100000 in
theorem first_no (s : ByteArray) (w : World) (hs : s.size ≤ maxLen) (he : (rd s).2.2 = 0) (hm : mayB ((rd s).1 / 8 : Nat) ((rd s).1 % 8 : Nat) = false) :
    Calls Tryz.prog 109 #[.string s] w fun e w' => e = .returned (.tuple #[.agg #[.int .i64 0, .int .i64 0, .int .u64 0, .string ⟨#[]⟩], .int .i64 0, .int .i64 3]) ∧ Below w.heap.size w w' := by
  have h64 := (rd_fine he).2.2.2
  obtain ⟨x, n, c, hr, -⟩ := rd_parts s
  rw [hr] at he hm h64
  simp only at he hm h64
  subst he
  have h64' : (x : Int) ≤ 18446744073709551615 := by unfold Fits64 at h64; omega
  have HR := Lib.hid hr; clear hr h64
  have HM := Lib.hid hm; clear hm
  go_enter Tryz.func109, Tryz.ntmps109
  go_wp2_with fail
  refine (v_read_any s _ hs).mono ?_
  rintro e w' ⟨rfl, rfl⟩
  rw [HR.out]
  go_wp2_with fail
  refine (w_may_any _ _ _ _ _ (by omega) (by omega) (by omega) (by omega)).mono ?_
  rintro e w1 ⟨rfl, hb⟩
  have hm : mayB ((x : Int) / 8) ((x : Int) % 8) = false := HM.out
  rw [hm]
  clear hm
  obtain ⟨hc, hf⟩ := kept_cells hb
  have hz := hb.size
  simp at hz
  go_wp2_with fail
  have hblk := (hb.block w.heap.size (by simp; omega)).trans (heap_alloc2_old w _ _)
  obtain ⟨c0, c1, c2, c3⟩ := cells_of4 (set4 hblk (.int .i64 0) (.int .i64 0) (.int .u64 0) (.string ⟨#[]⟩))
  have hbb := ((((below_two hb).setCell (p := ⟨w.heap.size, 0, none⟩) (Nat.le_refl _) (.int .i64 0)).setCell (p := ⟨w.heap.size, 1, none⟩) (Nat.le_refl _) (.int .i64 0)).setCell (p := ⟨w.heap.size, 2, none⟩) (Nat.le_refl _) (.int .u64 0)).setCell (p := ⟨w.heap.size, 3, none⟩) (Nat.le_refl _) (.string ⟨#[]⟩)
  clear hc hf hz
  generalize ((((w1.setCell ⟨w.heap.size, 0, none⟩ (.int .i64 0)).setCell ⟨w.heap.size, 1, none⟩ (.int .i64 0)).setCell ⟨w.heap.size, 2, none⟩ (.int .u64 0)).setCell ⟨w.heap.size, 3, none⟩ (.string ⟨#[]⟩)) = w2 at *
  exact bodyPost_ret (v := .tuple #[.agg #[.int .i64 0, .int .i64 0, .int .u64 0, .string ⟨#[]⟩], .int .i64 0, .int .i64 3]) (by simp [results, Tryz.results109, go_sem, c0, c1, c2, c3]) rfl ⟨rfl, hbb⟩

set_option maxRecDepth 100000 in
theorem first_0 (s : ByteArray) (x n : Nat) (w : World) (hs : s.size ≤ maxLen) (hr : rd s = (x, n, 0)) (hm : mayB ((x : Int) / 8) ((x : Int) % 8) = true) (ht : x % 8 = 0) (hn : n ≤ s.size) (h64 : Fits64 x)
    (N m c : Nat) (hN : Fits64 N) (hp : rd (rest s n) = (N, m, c)) (hm' : n + m ≤ s.size) :
    Calls Tryz.prog 109 #[.string s] w fun e w' => e = .returned (.tuple #[.agg (fc (if c = 0 then ⟨(x : Int) / 8, (x : Int) % 8, N, ⟨#[]⟩⟩ else fd0)).toArray, .int .i64 ((if c = 0 then n + m else 0 : Nat) : Int), .int .i64 c]) ∧ Below w.heap.size w w' := by
  have hs' := hs
  unfold maxLen at hs'
  have h64' : (x : Int) ≤ 18446744073709551615 := by unfold Fits64 at h64; omega
  have hN' : (N : Int) ≤ 18446744073709551615 := by unfold Fits64 at hN; omega
  clear hN
  have t0 : ((x : Int) % 8 == 0) = true := by simp; omega
  have HR := Lib.hid hr; clear hr h64
  have HM := Lib.hid hm; clear hm
  have HP := Lib.hid hp; clear hp
  have hrs : (rest s n).size ≤ maxLen := by rw [rest_size]; omega
  clear ht
  unfold rest at hrs
  go_enter Tryz.func109, Tryz.ntmps109
  go_wp2_with fail
  refine (v_read_any s _ hs).mono ?_
  rintro e w' ⟨rfl, rfl⟩
  rw [HR.out]
  go_wp2_with fail
  refine (w_may_any _ _ _ _ _ (by omega) (by omega) (by omega) (by omega)).mono ?_
  rintro e w1 ⟨rfl, hb⟩
  rw [HM.out]
  have hblk := (hb.block w.heap.size (by simp; omega)).trans (heap_alloc2_old w _ _)
  have hblk2 := (hb.block (w.heap.size + 1) (by simp)).trans (heap_alloc2_new w _ _)
  obtain ⟨hc, hf⟩ := kept_cells hb
  have hz := hb.size
  simp at hz
  go_wp2_with fail
  refine (v_read_any _ _ hrs).mono ?_
  rintro e w' ⟨rfl, rfl⟩
  rw [show rd (s.extract n s.size) = (N, m, c) from HP.out]
  have hblk' := heap_far hblk (b := w.heap.size + 1) (i := 2) (.int .u64 N) (by omega)
  have hb2 := (below_two hb).setCell (p := ⟨w.heap.size + 1, 2, none⟩) (by simp) (.int .u64 N)
  by_cases h0 : c = 0
  · subst h0
    have hk := cells_of4 (set4 hblk' (.int .i64 ((x : Int) / 8)) (.int .i64 ((x : Int) % 8)) (.int .u64 N) (.string ⟨#[]⟩))
    have hbb := (((hb2.setCell (p := ⟨w.heap.size, 0, none⟩) (Nat.le_refl _) (.int .i64 ((x : Int) / 8))).setCell (p := ⟨w.heap.size, 1, none⟩) (Nat.le_refl _) (.int .i64 ((x : Int) % 8))).setCell (p := ⟨w.heap.size, 2, none⟩) (Nat.le_refl _) (.int .u64 N)).setCell (p := ⟨w.heap.size, 3, none⟩) (Nat.le_refl _) (.string ⟨#[]⟩)
    have HK := Lib.hid (And.intro hk hbb)
    clear hblk hblk2 hblk' hb2 hk hbb
    go_wp2_with fail
    obtain ⟨⟨c0, c1, c2, c3⟩, hbb⟩ := HK.out
    clear hc hf hz HK
    generalize (((((w1.setCell ⟨w.heap.size + 1, 2, none⟩ (.int .u64 N)).setCell ⟨w.heap.size, 0, none⟩ (.int .i64 ((x : Int) / 8))).setCell ⟨w.heap.size, 1, none⟩ (.int .i64 ((x : Int) % 8))).setCell ⟨w.heap.size, 2, none⟩ (.int .u64 N)).setCell ⟨w.heap.size, 3, none⟩ (.string ⟨#[]⟩)) = w2 at *
    exact bodyPost_ret (v := .tuple #[.agg #[.int .i64 ((x : Int) / 8), .int .i64 ((x : Int) % 8), .int .u64 N, .string ⟨#[]⟩], .int .i64 (n + m), .int .i64 0]) (by simp [results, Tryz.results109, go_sem, c0, c1, c2, c3]) rfl ⟨rfl, hbb⟩
  · have hc1 : ((c : Int) != 0) = true := by simp; omega
    have hk := cells_of4 (set4 hblk' (.int .i64 0) (.int .i64 0) (.int .u64 0) (.string ⟨#[]⟩))
    have hbb := (((hb2.setCell (p := ⟨w.heap.size, 0, none⟩) (Nat.le_refl _) (.int .i64 0)).setCell (p := ⟨w.heap.size, 1, none⟩) (Nat.le_refl _) (.int .i64 0)).setCell (p := ⟨w.heap.size, 2, none⟩) (Nat.le_refl _) (.int .u64 0)).setCell (p := ⟨w.heap.size, 3, none⟩) (Nat.le_refl _) (.string ⟨#[]⟩)
    have HK := Lib.hid (And.intro hk hbb)
    clear hblk hblk2 hblk' hb2 hk hbb
    go_wp2_with fail
    obtain ⟨⟨c0, c1, c2, c3⟩, hbb⟩ := HK.out
    clear hc hf hz HK
    generalize (((((w1.setCell ⟨w.heap.size + 1, 2, none⟩ (.int .u64 N)).setCell ⟨w.heap.size, 0, none⟩ (.int .i64 0)).setCell ⟨w.heap.size, 1, none⟩ (.int .i64 0)).setCell ⟨w.heap.size, 2, none⟩ (.int .u64 0)).setCell ⟨w.heap.size, 3, none⟩ (.string ⟨#[]⟩)) = w2 at *
    exact bodyPost_ret (v := .tuple #[.agg #[.int .i64 0, .int .i64 0, .int .u64 0, .string ⟨#[]⟩], .int .i64 0, .int .i64 c]) (by simp [results, Tryz.results109, go_sem, c0, c1, c2, c3]) rfl ⟨rfl, hbb⟩

set_option maxRecDepth 100000 in
theorem first_1 (s : ByteArray) (x n : Nat) (w : World) (hs : s.size ≤ maxLen) (hr : rd s = (x, n, 0)) (hm : mayB ((x : Int) / 8) ((x : Int) % 8) = true) (ht : x % 8 = 1) (hn : n ≤ s.size) (h64 : Fits64 x)
    (N m c : Nat) (hN : Fits64 N) (hp : rl (rest s n) 8 = (N, m, c)) (hm' : n + m ≤ s.size) :
    Calls Tryz.prog 109 #[.string s] w fun e w' => e = .returned (.tuple #[.agg (fc (if c = 0 then ⟨(x : Int) / 8, (x : Int) % 8, N, ⟨#[]⟩⟩ else fd0)).toArray, .int .i64 ((if c = 0 then n + m else 0 : Nat) : Int), .int .i64 c]) ∧ Below w.heap.size w w' := by
  have hs' := hs
  unfold maxLen at hs'
  have h64' : (x : Int) ≤ 18446744073709551615 := by unfold Fits64 at h64; omega
  have hN' : (N : Int) ≤ 18446744073709551615 := by unfold Fits64 at hN; omega
  clear hN
  have t0 : ((x : Int) % 8 == 0) = false := by simp; omega
  have t1 : ((x : Int) % 8 == 1) = true := by simp; omega
  have HR := Lib.hid hr; clear hr h64
  have HM := Lib.hid hm; clear hm
  have HP := Lib.hid hp; clear hp
  have hrs : (rest s n).size ≤ maxLen := by rw [rest_size]; omega
  clear ht
  unfold rest at hrs
  go_enter Tryz.func109, Tryz.ntmps109
  go_wp2_with fail
  refine (v_read_any s _ hs).mono ?_
  rintro e w' ⟨rfl, rfl⟩
  rw [HR.out]
  go_wp2_with fail
  refine (w_may_any _ _ _ _ _ (by omega) (by omega) (by omega) (by omega)).mono ?_
  rintro e w1 ⟨rfl, hb⟩
  rw [HM.out]
  have hblk := (hb.block w.heap.size (by simp; omega)).trans (heap_alloc2_old w _ _)
  have hblk2 := (hb.block (w.heap.size + 1) (by simp)).trans (heap_alloc2_new w _ _)
  obtain ⟨hc, hf⟩ := kept_cells hb
  have hz := hb.size
  simp at hz
  go_wp2_with fail
  refine (readLow_any _ 8 _ hrs (by omega)).mono ?_
  rintro e w' ⟨rfl, rfl⟩
  rw [show rl (s.extract n s.size) 8 = (N, m, c) from HP.out]
  have hblk' := heap_far hblk (b := w.heap.size + 1) (i := 2) (.int .u64 N) (by omega)
  have hb2 := (below_two hb).setCell (p := ⟨w.heap.size + 1, 2, none⟩) (by simp) (.int .u64 N)
  by_cases h0 : c = 0
  · subst h0
    have hk := cells_of4 (set4 hblk' (.int .i64 ((x : Int) / 8)) (.int .i64 ((x : Int) % 8)) (.int .u64 N) (.string ⟨#[]⟩))
    have hbb := (((hb2.setCell (p := ⟨w.heap.size, 0, none⟩) (Nat.le_refl _) (.int .i64 ((x : Int) / 8))).setCell (p := ⟨w.heap.size, 1, none⟩) (Nat.le_refl _) (.int .i64 ((x : Int) % 8))).setCell (p := ⟨w.heap.size, 2, none⟩) (Nat.le_refl _) (.int .u64 N)).setCell (p := ⟨w.heap.size, 3, none⟩) (Nat.le_refl _) (.string ⟨#[]⟩)
    have HK := Lib.hid (And.intro hk hbb)
    clear hblk hblk2 hblk' hb2 hk hbb
    go_wp2_with fail
    obtain ⟨⟨c0, c1, c2, c3⟩, hbb⟩ := HK.out
    clear hc hf hz HK
    generalize (((((w1.setCell ⟨w.heap.size + 1, 2, none⟩ (.int .u64 N)).setCell ⟨w.heap.size, 0, none⟩ (.int .i64 ((x : Int) / 8))).setCell ⟨w.heap.size, 1, none⟩ (.int .i64 ((x : Int) % 8))).setCell ⟨w.heap.size, 2, none⟩ (.int .u64 N)).setCell ⟨w.heap.size, 3, none⟩ (.string ⟨#[]⟩)) = w2 at *
    exact bodyPost_ret (v := .tuple #[.agg #[.int .i64 ((x : Int) / 8), .int .i64 ((x : Int) % 8), .int .u64 N, .string ⟨#[]⟩], .int .i64 (n + m), .int .i64 0]) (by simp [results, Tryz.results109, go_sem, c0, c1, c2, c3]) rfl ⟨rfl, hbb⟩
  · have hc1 : ((c : Int) != 0) = true := by simp; omega
    have hk := cells_of4 (set4 hblk' (.int .i64 0) (.int .i64 0) (.int .u64 0) (.string ⟨#[]⟩))
    have hbb := (((hb2.setCell (p := ⟨w.heap.size, 0, none⟩) (Nat.le_refl _) (.int .i64 0)).setCell (p := ⟨w.heap.size, 1, none⟩) (Nat.le_refl _) (.int .i64 0)).setCell (p := ⟨w.heap.size, 2, none⟩) (Nat.le_refl _) (.int .u64 0)).setCell (p := ⟨w.heap.size, 3, none⟩) (Nat.le_refl _) (.string ⟨#[]⟩)
    have HK := Lib.hid (And.intro hk hbb)
    clear hblk hblk2 hblk' hb2 hk hbb
    go_wp2_with fail
    obtain ⟨⟨c0, c1, c2, c3⟩, hbb⟩ := HK.out
    clear hc hf hz HK
    generalize (((((w1.setCell ⟨w.heap.size + 1, 2, none⟩ (.int .u64 N)).setCell ⟨w.heap.size, 0, none⟩ (.int .i64 0)).setCell ⟨w.heap.size, 1, none⟩ (.int .i64 0)).setCell ⟨w.heap.size, 2, none⟩ (.int .u64 0)).setCell ⟨w.heap.size, 3, none⟩ (.string ⟨#[]⟩)) = w2 at *
    exact bodyPost_ret (v := .tuple #[.agg #[.int .i64 0, .int .i64 0, .int .u64 0, .string ⟨#[]⟩], .int .i64 0, .int .i64 c]) (by simp [results, Tryz.results109, go_sem, c0, c1, c2, c3]) rfl ⟨rfl, hbb⟩

set_option maxRecDepth 100000 in
theorem first_2 (s : ByteArray) (x n : Nat) (w : World) (hs : s.size ≤ maxLen) (hr : rd s = (x, n, 0)) (hm : mayB ((x : Int) / 8) ((x : Int) % 8) = true) (ht : x % 8 = 2) (hn : n ≤ s.size) (h64 : Fits64 x)
    (D : ByteArray) (m c : Nat) (hp : rt (rest s n) = (D, m, c)) (hm' : n + m ≤ s.size) :
    Calls Tryz.prog 109 #[.string s] w fun e w' => e = .returned (.tuple #[.agg (fc (if c = 0 then ⟨(x : Int) / 8, (x : Int) % 8, 0, D⟩ else fd0)).toArray, .int .i64 ((if c = 0 then n + m else 0 : Nat) : Int), .int .i64 c]) ∧ Below w.heap.size w w' := by
  have hs' := hs
  unfold maxLen at hs'
  have h64' : (x : Int) ≤ 18446744073709551615 := by unfold Fits64 at h64; omega
  have t0 : ((x : Int) % 8 == 0) = false := by simp; omega
  have t1 : ((x : Int) % 8 == 1) = false := by simp; omega
  have t2 : ((x : Int) % 8 == 2) = true := by simp; omega
  have HR := Lib.hid hr; clear hr h64
  have HM := Lib.hid hm; clear hm
  have HP := Lib.hid hp; clear hp
  have hrs : (rest s n).size ≤ maxLen := by rw [rest_size]; omega
  clear ht
  unfold rest at hrs
  go_enter Tryz.func109, Tryz.ntmps109
  go_wp2_with fail
  refine (v_read_any s _ hs).mono ?_
  rintro e w' ⟨rfl, rfl⟩
  rw [HR.out]
  go_wp2_with fail
  refine (w_may_any _ _ _ _ _ (by omega) (by omega) (by omega) (by omega)).mono ?_
  rintro e w1 ⟨rfl, hb⟩
  rw [HM.out]
  have hblk := (hb.block w.heap.size (by simp; omega)).trans (heap_alloc2_old w _ _)
  have hblk2 := (hb.block (w.heap.size + 1) (by simp)).trans (heap_alloc2_new w _ _)
  obtain ⟨hc, hf⟩ := kept_cells hb
  have hz := hb.size
  simp at hz
  go_wp2_with fail
  refine (readText_any _ _ hrs).mono ?_
  rintro e w' ⟨rfl, rfl⟩
  rw [show rt (s.extract n s.size) = (D, m, c) from HP.out]
  have hblk' := heap_far hblk (b := w.heap.size + 1) (i := 3) (.string D) (by omega)
  have hb2 := (below_two hb).setCell (p := ⟨w.heap.size + 1, 3, none⟩) (by simp) (.string D)
  by_cases h0 : c = 0
  · subst h0
    have hk := cells_of4 (set4 hblk' (.int .i64 ((x : Int) / 8)) (.int .i64 ((x : Int) % 8)) (.int .u64 0) (.string D))
    have hbb := (((hb2.setCell (p := ⟨w.heap.size, 0, none⟩) (Nat.le_refl _) (.int .i64 ((x : Int) / 8))).setCell (p := ⟨w.heap.size, 1, none⟩) (Nat.le_refl _) (.int .i64 ((x : Int) % 8))).setCell (p := ⟨w.heap.size, 2, none⟩) (Nat.le_refl _) (.int .u64 0)).setCell (p := ⟨w.heap.size, 3, none⟩) (Nat.le_refl _) (.string D)
    have HK := Lib.hid (And.intro hk hbb)
    clear hblk hblk2 hblk' hb2 hk hbb
    go_wp2_with fail
    obtain ⟨⟨c0, c1, c2, c3⟩, hbb⟩ := HK.out
    clear hc hf hz HK
    generalize (((((w1.setCell ⟨w.heap.size + 1, 3, none⟩ (.string D)).setCell ⟨w.heap.size, 0, none⟩ (.int .i64 ((x : Int) / 8))).setCell ⟨w.heap.size, 1, none⟩ (.int .i64 ((x : Int) % 8))).setCell ⟨w.heap.size, 2, none⟩ (.int .u64 0)).setCell ⟨w.heap.size, 3, none⟩ (.string D)) = w2 at *
    exact bodyPost_ret (v := .tuple #[.agg #[.int .i64 ((x : Int) / 8), .int .i64 ((x : Int) % 8), .int .u64 0, .string D], .int .i64 (n + m), .int .i64 0]) (by simp [results, Tryz.results109, go_sem, c0, c1, c2, c3]) rfl ⟨rfl, hbb⟩
  · have hc1 : ((c : Int) != 0) = true := by simp; omega
    have hk := cells_of4 (set4 hblk' (.int .i64 0) (.int .i64 0) (.int .u64 0) (.string ⟨#[]⟩))
    have hbb := (((hb2.setCell (p := ⟨w.heap.size, 0, none⟩) (Nat.le_refl _) (.int .i64 0)).setCell (p := ⟨w.heap.size, 1, none⟩) (Nat.le_refl _) (.int .i64 0)).setCell (p := ⟨w.heap.size, 2, none⟩) (Nat.le_refl _) (.int .u64 0)).setCell (p := ⟨w.heap.size, 3, none⟩) (Nat.le_refl _) (.string ⟨#[]⟩)
    have HK := Lib.hid (And.intro hk hbb)
    clear hblk hblk2 hblk' hb2 hk hbb
    go_wp2_with fail
    obtain ⟨⟨c0, c1, c2, c3⟩, hbb⟩ := HK.out
    clear hc hf hz HK
    generalize (((((w1.setCell ⟨w.heap.size + 1, 3, none⟩ (.string D)).setCell ⟨w.heap.size, 0, none⟩ (.int .i64 0)).setCell ⟨w.heap.size, 1, none⟩ (.int .i64 0)).setCell ⟨w.heap.size, 2, none⟩ (.int .u64 0)).setCell ⟨w.heap.size, 3, none⟩ (.string ⟨#[]⟩)) = w2 at *
    exact bodyPost_ret (v := .tuple #[.agg #[.int .i64 0, .int .i64 0, .int .u64 0, .string ⟨#[]⟩], .int .i64 0, .int .i64 c]) (by simp [results, Tryz.results109, go_sem, c0, c1, c2, c3]) rfl ⟨rfl, hbb⟩

set_option maxRecDepth 100000 in
theorem first_5 (s : ByteArray) (x n : Nat) (w : World) (hs : s.size ≤ maxLen) (hr : rd s = (x, n, 0)) (hm : mayB ((x : Int) / 8) ((x : Int) % 8) = true) (ht : x % 8 = 5) (hn : n ≤ s.size) (h64 : Fits64 x)
    (N m c : Nat) (hN : Fits64 N) (hp : rl (rest s n) 4 = (N, m, c)) (hm' : n + m ≤ s.size) :
    Calls Tryz.prog 109 #[.string s] w fun e w' => e = .returned (.tuple #[.agg (fc (if c = 0 then ⟨(x : Int) / 8, (x : Int) % 8, N, ⟨#[]⟩⟩ else fd0)).toArray, .int .i64 ((if c = 0 then n + m else 0 : Nat) : Int), .int .i64 c]) ∧ Below w.heap.size w w' := by
  have hs' := hs
  unfold maxLen at hs'
  have h64' : (x : Int) ≤ 18446744073709551615 := by unfold Fits64 at h64; omega
  have hN' : (N : Int) ≤ 18446744073709551615 := by unfold Fits64 at hN; omega
  clear hN
  have t0 : ((x : Int) % 8 == 0) = false := by simp; omega
  have t1 : ((x : Int) % 8 == 1) = false := by simp; omega
  have t2 : ((x : Int) % 8 == 2) = false := by simp; omega
  have t5 : ((x : Int) % 8 == 5) = true := by simp; omega
  have HR := Lib.hid hr; clear hr h64
  have HM := Lib.hid hm; clear hm
  have HP := Lib.hid hp; clear hp
  have hrs : (rest s n).size ≤ maxLen := by rw [rest_size]; omega
  clear ht
  unfold rest at hrs
  go_enter Tryz.func109, Tryz.ntmps109
  go_wp2_with fail
  refine (v_read_any s _ hs).mono ?_
  rintro e w' ⟨rfl, rfl⟩
  rw [HR.out]
  go_wp2_with fail
  refine (w_may_any _ _ _ _ _ (by omega) (by omega) (by omega) (by omega)).mono ?_
  rintro e w1 ⟨rfl, hb⟩
  rw [HM.out]
  have hblk := (hb.block w.heap.size (by simp; omega)).trans (heap_alloc2_old w _ _)
  have hblk2 := (hb.block (w.heap.size + 1) (by simp)).trans (heap_alloc2_new w _ _)
  obtain ⟨hc, hf⟩ := kept_cells hb
  have hz := hb.size
  simp at hz
  go_wp2_with fail
  refine (readLow_any _ 4 _ hrs (by omega)).mono ?_
  rintro e w' ⟨rfl, rfl⟩
  rw [show rl (s.extract n s.size) 4 = (N, m, c) from HP.out]
  have hblk' := heap_far hblk (b := w.heap.size + 1) (i := 2) (.int .u64 N) (by omega)
  have hb2 := (below_two hb).setCell (p := ⟨w.heap.size + 1, 2, none⟩) (by simp) (.int .u64 N)
  by_cases h0 : c = 0
  · subst h0
    have hk := cells_of4 (set4 hblk' (.int .i64 ((x : Int) / 8)) (.int .i64 ((x : Int) % 8)) (.int .u64 N) (.string ⟨#[]⟩))
    have hbb := (((hb2.setCell (p := ⟨w.heap.size, 0, none⟩) (Nat.le_refl _) (.int .i64 ((x : Int) / 8))).setCell (p := ⟨w.heap.size, 1, none⟩) (Nat.le_refl _) (.int .i64 ((x : Int) % 8))).setCell (p := ⟨w.heap.size, 2, none⟩) (Nat.le_refl _) (.int .u64 N)).setCell (p := ⟨w.heap.size, 3, none⟩) (Nat.le_refl _) (.string ⟨#[]⟩)
    have HK := Lib.hid (And.intro hk hbb)
    clear hblk hblk2 hblk' hb2 hk hbb
    go_wp2_with fail
    obtain ⟨⟨c0, c1, c2, c3⟩, hbb⟩ := HK.out
    clear hc hf hz HK
    generalize (((((w1.setCell ⟨w.heap.size + 1, 2, none⟩ (.int .u64 N)).setCell ⟨w.heap.size, 0, none⟩ (.int .i64 ((x : Int) / 8))).setCell ⟨w.heap.size, 1, none⟩ (.int .i64 ((x : Int) % 8))).setCell ⟨w.heap.size, 2, none⟩ (.int .u64 N)).setCell ⟨w.heap.size, 3, none⟩ (.string ⟨#[]⟩)) = w2 at *
    exact bodyPost_ret (v := .tuple #[.agg #[.int .i64 ((x : Int) / 8), .int .i64 ((x : Int) % 8), .int .u64 N, .string ⟨#[]⟩], .int .i64 (n + m), .int .i64 0]) (by simp [results, Tryz.results109, go_sem, c0, c1, c2, c3]) rfl ⟨rfl, hbb⟩
  · have hc1 : ((c : Int) != 0) = true := by simp; omega
    have hk := cells_of4 (set4 hblk' (.int .i64 0) (.int .i64 0) (.int .u64 0) (.string ⟨#[]⟩))
    have hbb := (((hb2.setCell (p := ⟨w.heap.size, 0, none⟩) (Nat.le_refl _) (.int .i64 0)).setCell (p := ⟨w.heap.size, 1, none⟩) (Nat.le_refl _) (.int .i64 0)).setCell (p := ⟨w.heap.size, 2, none⟩) (Nat.le_refl _) (.int .u64 0)).setCell (p := ⟨w.heap.size, 3, none⟩) (Nat.le_refl _) (.string ⟨#[]⟩)
    have HK := Lib.hid (And.intro hk hbb)
    clear hblk hblk2 hblk' hb2 hk hbb
    go_wp2_with fail
    obtain ⟨⟨c0, c1, c2, c3⟩, hbb⟩ := HK.out
    clear hc hf hz HK
    generalize (((((w1.setCell ⟨w.heap.size + 1, 2, none⟩ (.int .u64 N)).setCell ⟨w.heap.size, 0, none⟩ (.int .i64 0)).setCell ⟨w.heap.size, 1, none⟩ (.int .i64 0)).setCell ⟨w.heap.size, 2, none⟩ (.int .u64 0)).setCell ⟨w.heap.size, 3, none⟩ (.string ⟨#[]⟩)) = w2 at *
    exact bodyPost_ret (v := .tuple #[.agg #[.int .i64 0, .int .i64 0, .int .u64 0, .string ⟨#[]⟩], .int .i64 0, .int .i64 c]) (by simp [results, Tryz.results109, go_sem, c0, c1, c2, c3]) rfl ⟨rfl, hbb⟩

theorem first_any (s : ByteArray) (w : World) (hs : s.size ≤ maxLen) :
    Calls Tryz.prog 109 #[.string s] w fun e w' => e = .returned (.tuple #[.agg (fc (one s).1).toArray, .int .i64 (one s).2.1, .int .i64 (one s).2.2]) ∧ Below w.heap.size w w' := by
  by_cases he : (rd s).2.2 = 0
  · by_cases hm : mayB ((rd s).1 / 8 : Nat) ((rd s).1 % 8 : Nat) = true
    · obtain ⟨x, n, c, hr, ok, -, -⟩ := rd_parts s
      have he' : c = 0 := by rw [hr] at he; exact he
      subst he'
      obtain ⟨hn0, hn, h64⟩ := ok rfl
      have e : one s = (if (pay (x % 8) (rest s n)).2.2.2 = 0 then ⟨(x : Int) / 8, (x : Int) % 8, (pay (x % 8) (rest s n)).1, (pay (x % 8) (rest s n)).2.1⟩ else fd0,
          if (pay (x % 8) (rest s n)).2.2.2 = 0 then n + (pay (x % 8) (rest s n)).2.2.1 else 0, (pay (x % 8) (rest s n)).2.2.2) := by
        unfold one
        rw [hr] at hm ⊢
        simp only at hm ⊢
        rw [if_neg (by omega), hm, if_neg (by simp)]
        by_cases h0 : (pay (x % 8) (rest s n)).2.2.2 = 0
        · rw [if_neg (by omega), if_pos h0, if_pos h0, h0]; simp
        · rw [if_pos h0, if_neg h0, if_neg h0]
      have hp := pay_le (x % 8) (rest s n)
      rw [rest_size] at hp
      rw [hr] at hm
      have hm' : mayB ((x : Int) / 8) ((x : Int) % 8) = true := hm
      have ht : x % 8 = 0 ∨ x % 8 = 1 ∨ x % 8 = 2 ∨ x % 8 = 5 := by have := mayB_typ hm'; omega
      rcases ht with ht | ht | ht | ht
      · have e2 : pay (x % 8) (rest s n) = ((rd (rest s n)).1, ⟨#[]⟩, (rd (rest s n)).2.1, (rd (rest s n)).2.2) := by rw [ht]; rfl
        rw [e2] at e hp
        obtain ⟨N, m, c, hq⟩ : ∃ N m c, rd (rest s n) = (N, m, c) := ⟨_, _, _, rfl⟩
        have hN := rd_fits (rest s n)
        rw [hq] at e hp hN
        have := first_0 s x n w hs hr hm' ht hn h64 N m c hN hq (by simp only at hp; omega)
        rw [e]
        exact this
      · have e2 : pay (x % 8) (rest s n) = ((rl (rest s n) 8).1, ⟨#[]⟩, (rl (rest s n) 8).2.1, (rl (rest s n) 8).2.2) := by rw [ht]; rfl
        rw [e2] at e hp
        obtain ⟨N, m, c, hq⟩ : ∃ N m c, rl (rest s n) 8 = (N, m, c) := ⟨_, _, _, rfl⟩
        have hN := rl_fits (rest s n) (show 8 ≤ 8 by omega)
        rw [hq] at e hp hN
        have := first_1 s x n w hs hr hm' ht hn h64 N m c hN hq (by simp only at hp; omega)
        rw [e]
        exact this
      · have e2 : pay (x % 8) (rest s n) = (0, (rt (rest s n)).1, (rt (rest s n)).2.1, (rt (rest s n)).2.2) := by rw [ht]; rfl
        rw [e2] at e hp
        obtain ⟨D, m, c, hq⟩ : ∃ D m c, rt (rest s n) = (D, m, c) := ⟨_, _, _, rfl⟩
        rw [hq] at e hp
        have := first_2 s x n w hs hr hm' ht hn h64 D m c hq (by simp only at hp; omega)
        rw [e]
        exact this
      · have e2 : pay (x % 8) (rest s n) = ((rl (rest s n) 4).1, ⟨#[]⟩, (rl (rest s n) 4).2.1, (rl (rest s n) 4).2.2) := by rw [ht]; rfl
        rw [e2] at e hp
        obtain ⟨N, m, c, hq⟩ : ∃ N m c, rl (rest s n) 4 = (N, m, c) := ⟨_, _, _, rfl⟩
        have hN := rl_fits (rest s n) (show 4 ≤ 8 by omega)
        rw [hq] at e hp hN
        have := first_5 s x n w hs hr hm' ht hn h64 N m c hN hq (by simp only at hp; omega)
        rw [e]
        exact this
    · have hm' : mayB ((rd s).1 / 8 : Nat) ((rd s).1 % 8 : Nat) = false := by simpa using hm
      have e : one s = (fd0, 0, 3) := by unfold one; rw [if_neg (by omega), if_pos hm']
      rw [e]
      exact first_no s w hs he hm'
  · have e : one s = (fd0, 0, (rd s).2.2) := by unfold one; rw [if_pos he]
    rw [e]
    exact first_err s w hs he
end Go.Proofs.YtjjfdlgoacockaaGreat
namespace Go.Proofs.YtjjfdlgoacockaaGreat
open Go.RowKit M1 M2

set_option maxRecDepth 100000 in
theorem fields_any (s : ByteArray) (w : World) (hs : s.size ≤ maxLen) :
    Calls Tryz.prog 63 #[.string s] w fun e w' => ∃ v, e = .returned (.tuple #[v, .int .i64 (fields s).2]) ∧ w'.ownsRow w.heap.size 184 4 v (fields s).1.length (fcs (fields s).1) ∧ Below w.heap.size w w' := by
  have hs' := hs
  unfold maxLen at hs'
  by_cases hlong : 1048576 < s.size
  · have e : fields s = ([], 2) := by unfold fields; rw [if_pos hlong]
    rw [e]
    have hl : (1048576 : Int) < (s.size : Int) := by omega
    clear e hlong
    go_enter Tryz.func63, Tryz.ntmps63
    go_wp2
    go_ret2
    exact ⟨_, rfl, World.ownsRow_nil _ _ _ _, Below.refl _ _⟩
  · have e : fields s = flw s := by unfold fields; rw [if_neg hlong]
    rw [e]
    have hl : (s.size : Int) ≤ 1048576 := by omega
    obtain ⟨i0, hi0, hz0, hz1, hz2⟩ := info_parts infoField
    clear e hlong
    go_enter Tryz.func63, Tryz.ntmps63
    go_wp2
    go_loopw [0, 4] (fun b v wr => ∃ (t : ByteArray) (acc : List WFd), b = .string t ∧ wr.ownsRow w.heap.size 184 4 v acc.length (fcs acc) ∧ Below w.heap.size w wr ∧ flw s = jn acc (flw t) ∧ acc.length + t.size ≤ s.size) (fun b _ _ => match b with | .string t => t.size | _ => 0)
    case atStart => exact ⟨s, [], rfl, World.ownsRow_nil _ _ _ _, Below.refl _ _, (jn_nil s).symm, by simp⟩
    case round =>
      obtain ⟨t, acc, rfl, hown, hb, hfl, hsz⟩ := hrel
      have HF := Lib.hid hfl; clear hfl
      obtain ⟨A, c0, rfl, hn1, hn2⟩ := own_form hown
      by_cases h0 : t.size = 0
      · have h0' : ¬ (0 : Int) < (t.size : Int) := by omega
        have HO := Lib.hid hown
        have HB := Lib.hid hb
        have he := HF.out
        rw [flw_end h0] at he
        have HE : Hid (flw s = (acc, 0)) := Lib.hid (by rw [he]; simp [jn])
        clear hown hb he
        go_wp2
        go_ret2
        rw [HE.out]
        exact ⟨_, rfl, HO.out, HB.out⟩
      · have h0' : (0 : Int) < (t.size : Int) := by omega
        have hts : t.size ≤ maxLen := by unfold maxLen; omega
        go_wp2_with fail
        refine (first_any t _ hts).mono ?_
        rintro e w1 ⟨rfl, hb1⟩
        have hstep := flw_step (s := t) h0
        have herr := flw_err (s := t) h0
        have hfit := one_fit (s := t)
        obtain ⟨⟨num, typ, N, D⟩, m, c, ho⟩ : ∃ F m c, one t = (F, m, c) := ⟨_, _, _, rfl⟩
        rw [ho] at hstep herr hfit
        rw [ho]
        simp only [fc] at hstep herr hfit ⊢
        have HS := Lib.hid hstep
        have HR := Lib.hid herr
        have HFit := Lib.hid hfit
        clear hstep herr hfit ho
        by_cases he : c = 0
        · subst he
          obtain ⟨hm0, hm⟩ := HFit.out rfl
          have hown1 := own_keep hown hb1
          have hb2 : Below w.heap.size w w1 := hb.trans (hb1.mono hb.size)
          have hz := hb2.size
          have HB2 := Lib.hid hb2
          clear hown hb hb2 hb1
          have hmi : (m : Int) ≤ (t.size : Int) := by omega
          go_wp2_with (at_builtin; refine wpList_append_own _ rfl _ _ 138 rfl w.heap.size 184 i0 _ 4 40 Tryz.underlying138 hi0 hz0 hz1 hz2 rfl (by decide) _ _ _ rfl ((hown1.alloc _).alloc _) ⟨w1.heap.size + 1, 0, none⟩ 1 1 (fc ⟨num, typ, N, D⟩) rfl rfl (cells_new2 _ _ _ _) ?c2 ?c3 ?c4 ?c5 ?_)
          case c2 => intro u hu; exact fcs_one_cell (l := [⟨num, typ, N, D⟩]) u (by rw [fcs_one]; exact hu)
          case c3 => unfold maxLen; omega
          case c4 => omega
          case c5 => first | omega | (simp; omega)
          intro v' w2 hown' hgrow _
          have e1 : fcs acc ++ fc ⟨num, typ, N, D⟩ = fcs (acc ++ [⟨num, typ, N, D⟩]) := by rw [fcs_append, fcs_one]
          have e2 : acc.length + 1 = (acc ++ [(⟨num, typ, N, D⟩ : WFd)]).length := by simp
          rw [e1, e2] at hown'
          have hb3 := ((HB2.out.alloc hz _).alloc (by simp; omega) _).grown hgrow (by simp; omega) (fun q hq => (hown1.lt q hq).1)
          have HO := Lib.hid (And.intro hown' hb3)
          clear hgrow hown' hown1 hb3 e1 e2
          go_wp2_with fail
          go_roundw
          case rel =>
            refine ⟨rest t m, acc ++ [⟨num, typ, N, D⟩], rfl, HO.out.1, HO.out.2, ?_, by rw [rest_size]; simp; omega⟩
            rw [HF.out]
            exact HS.out (by simp) acc
          case measure => show (rest t m).size < t.size; rw [rest_size]; omega
        · have hc : ((c : Int) != 0) = true := by simp; omega
          have hx := HF.out
          rw [HR.out he] at hx
          have HE : Hid (flw s = ([], c)) := Lib.hid (by rw [hx]; simp [jn, he])
          have HB := Lib.hid ((hb.trans (hb1.mono hb.size)).alloc (Nat.le_trans hb.size hb1.size) (.cells #[.int .i64 num, .int .i64 typ, .int .u64 N, .string D] 184))
          clear hown hb hb1 hx
          go_wp2_with fail
          go_ret2
          rw [HE.out]
          exact ⟨_, rfl, World.ownsRow_nil _ _ _ _, HB.out⟩
end Go.Proofs.YtjjfdlgoacockaaGreat
namespace Go.Proofs.YtjjfdlgoacockaaGreat
open Go.RowKit M1 M2

theorem ex_fields : fields ⟨#[8, 150, 1]⟩ = ([⟨1, 0, 150, ⟨#[]⟩⟩], 0) := by
  have h1 := flw_cat [⟨1, 0, 150, ⟨#[]⟩⟩] (fun f hf => by simp at hf; subst hf; exact ⟨by unfold Fits64; simp, by unfold Fits64; show (0 : Nat) < 18446744073709551616; omega⟩)
  have e1 : cat [⟨1, 0, 150, ⟨#[]⟩⟩] = ⟨#[8, 150, 1]⟩ := by decide +kernel
  have e2 : wanted [⟨1, 0, 150, ⟨#[]⟩⟩] = [⟨1, 0, 150, ⟨#[]⟩⟩] := by
    have hb : hasB ⟨1, 0, 150, ⟨#[]⟩⟩ = true := by decide +kernel
    simp [wanted, hb, norm]
  rw [e1, e2] at h1
  unfold fields
  rw [if_neg (by decide +kernel), h1]

set_option maxRecDepth 100000 in
theorem wawake_any (w : World) : Calls Tryz.prog 102 #[] w fun e w' => e = .returned (.bool true) ∧ Below w.heap.size w w' := by
  have hs : ByteArray.size ⟨#[8, 150, 1]⟩ = 3 := rfl
  have h1 := fields_any ⟨#[8, 150, 1]⟩ w (by rw [hs]; unfold maxLen; omega)
  rw [ex_fields] at h1
  have H1 := Lib.hid h1
  clear h1 hs
  go_enter Tryz.func102, Tryz.ntmps102
  go_wp2_with fail
  refine H1.out.mono ?_
  rintro e w1 ⟨v, rfl, hown, hb⟩
  obtain ⟨A, c, rfl, -, -⟩ := own_form hown
  have hsr := SR.of_own hown
  have HB := Lib.hid hb
  clear hown hb
  go_wp2_with fail
  refine (awake_any _).mono ?_
  rintro e w2 ⟨rfl, hb⟩
  obtain ⟨b, o, rfl, hlt, x0, x1, x2, x3⟩ := field_at (hsr.below hb) (k := 0) (by simp)
  simp at x0 x1 x2 x3
  have HB2 := Lib.hid (HB.out.trans (hb.mono HB.out.size))
  clear hsr hb
  go_wp2_with fail
  go_ret
  exact ⟨rfl, HB2.out⟩
end Go.Proofs.YtjjfdlgoacockaaGreat
