import Derived.Test.YtjjfdlgoacockaaGreatTMade
import Derived.Test.YtjjfdlgoacockaaGreatKSort
import Derived.Test.YtjjfdlgoacockaaGreatMath
import Derived.Test.YtjjfdlgoacockaaGreatOpenRow
namespace Go.Proofs.YtjjfdlgoacockaaGreat
open Go.RowKit M1 M2 M9

theorem five_at {k : Nat} (h : k < 5) : ∃ x : Int, fiveK[k]? = some x ∧ isKind x = true ∧ 1 ≤ x ∧ x ≤ 14 := by
  match k, h with
  | 0, _ => exact ⟨1, rfl, by decide, by decide, by decide⟩
  | 1, _ => exact ⟨2, rfl, by decide, by decide, by decide⟩
  | 2, _ => exact ⟨7, rfl, by decide, by decide, by decide⟩
  | 3, _ => exact ⟨9, rfl, by decide, by decide, by decide⟩
  | 4, _ => exact ⟨14, rfl, by decide, by decide, by decide⟩
theorem kindN_yes {n : Nat} {x : Int} (h : isKind x = true) (he : x = (n : Int)) : kindN n = (n : Int) := by subst he; unfold kindN; rw [if_pos h]
theorem kindN_no {n : Nat} (h : ∀ j, j < 5 → fiveK[j]? ≠ some (n : Int)) : kindN n = 0 := by
  unfold kindN; rw [if_neg]
  intro hk
  have hm : (n : Int) ∈ fiveK := mem_five.2 hk
  obtain ⟨j, hj, he⟩ := List.mem_iff_getElem.1 hm
  exact h j hj (by rw [List.getElem?_eq_getElem hj, he])
theorem kindN_in (n : Nat) : 0 ≤ kindN n ∧ kindN n ≤ 14 := by
  unfold kindN
  split
  · rename_i h; have := isKind_bd h; omega
  · omega
theorem zv_at {k : Nat} {x : Int} (h : fiveK[k]? = some x) : (zv fiveK)[k]? = some (.int .i64 x) := by unfold zv; rw [List.getElem?_map, h]; rfl

set_option maxRecDepth 100000 in
theorem kindOf_any (n : Nat) (w : World) : Calls Tryz.prog 160 #[.int .u64 (n : Int)] w fun e w' => e = .returned (.int .i64 (kindN n)) ∧ Below w.heap.size w w' := by
  go_enter Tryz.func160, Tryz.ntmps160
  go_wp2_with fail
  refine (k_all_any _).mono ?_
  rintro e w1 ⟨v, rfl, hown, hb⟩
  obtain ⟨A, c, rfl, -, -⟩ := own_form hown
  have HS := Lib.hid (SR.of_own hown)
  have HB := Lib.hid hb
  clear hb hown
  go_wp2_with fail
  go_loopw [4, 7] (fun _ i wr => ∃ (k : Nat) (K : Int), i = .int .i64 K ∧ K = (k : Nat) ∧ k ≤ 5 ∧ (∀ j, j < k → fiveK[j]? ≠ some (n : Int)) ∧ wr = w1) (fun _ i _ => 5 - (intOf i).toNat)
  case atStart => exact ⟨0, _, rfl, rfl, by omega, fun j h => by omega, rfl⟩
  case round =>
    obtain ⟨k, K, rfl, rfl, hk, hno, rfl⟩ := hrel
    by_cases hlt : k < 5
    · obtain ⟨x, hx, hkx, hx1, hx14⟩ := five_at hlt
      obtain ⟨b, o, rfl, -, hc⟩ := cell_at HS.out (k := k) hlt (zv_at hx)
      have hw : IntKind.u64.wrap x = x := by simp [IntKind.wrap, IntKind.signed, IntKind.bits]; omega
      by_cases he : x = (n : Int)
      · have HE := Lib.hid (kindN_yes hkx he)
        subst he
        clear hno hx
        go_wp2_with fail
        go_ret
        rw [HE.out]
        exact ⟨rfl, HB.out⟩
      · have he' : (x == (n : Int)) = false := by simpa using he
        have HN : Hid (∀ j, j < k + 1 → fiveK[j]? ≠ some (n : Int)) := Lib.hid (fun j hj => by
          rcases Nat.lt_succ_iff_lt_or_eq.1 hj with h | rfl
          · exact hno j h
          · rw [hx]; intro e; cases e; exact he rfl)
        clear hno hx he
        go_wp2_with fail
        go_roundw
        case rel => exact ⟨k + 1, _, rfl, by omega, by omega, HN.out, trivial⟩
        case measure => simp [intOf]; omega
    · obtain rfl : k = 5 := by omega
      have HE := Lib.hid (kindN_no hno)
      clear hno
      go_wp2_with fail
      go_ret
      rw [HE.out]
      exact ⟨rfl, HB.out⟩
set_option maxRecDepth 100000 in
theorem greatest_any (k : Int) (w : World) : Calls Tryz.prog 167 #[.int .i64 k] w fun e w' => e = .returned (.int .i64 (great k)) ∧ w = w' := by
  by_cases h : k = 9
  · subst h
    go_enter Tryz.func167, Tryz.ntmps167
    go_wp2
    go_ret
    exact ⟨rfl, rfl⟩
  · have hk : (k == 9) = false := by simpa using h
    have HE := Lib.hid (show great k = 255 from if_neg h)
    clear h
    go_enter Tryz.func167, Tryz.ntmps167
    go_wp2
    go_ret
    rw [HE.out]
    exact ⟨rfl, rfl⟩

def sb (row : List Int) : List UInt8 := row.map fun n => UInt8.ofNat n.toNat
theorem sb_len (row : List Int) : (sb row).length = row.length := by simp [sb]
theorem sb_at {row : List Int} {k : Nat} (h : k < row.length) (h0 : 0 ≤ row[k]) (h1 : row[k] ≤ 255) : ∃ h2 : k < (bv (sb row)).length, (bv (sb row))[k] = .int .u8 row[k] := by
  refine ⟨by rw [bv_len, sb_len]; exact h, ?_⟩
  simp only [bv, sb, List.getElem_map]
  congr 1
  simp
  omega
def okS (m : Int) (n : Int) : Bool := decide (0 ≤ n) && decide (n ≤ m)
theorem smallD_bad {row : List Int} {m : Int} {k : Nat} (hk : k < row.length) (h : okS m row[k] = false) : smallD row m = (⟨#[]⟩, 17) := by
  unfold smallD; rw [if_neg]
  intro h2
  rw [List.all_eq_true] at h2
  have := h2 row[k] (List.getElem_mem hk)
  unfold okS at h
  rw [h] at this; cases this
theorem smallD_ok {row : List Int} {m : Int} (h : row.all (okS m) = true) : smallD row m = (⟨(sb row).toArray⟩, 0) := by
  unfold smallD; rw [if_pos (by exact h)]; rfl
theorem all_take_next {row : List Int} {m : Int} {k : Nat} (hk : k < row.length) (h : (row.take k).all (okS m) = true) (h2 : okS m row[k] = true) : (row.take (k + 1)).all (okS m) = true := by
  rw [List.take_succ_eq_append_getElem hk, List.all_append, h]; simp [h2]
theorem okS_yes {m n : Int} (h0 : ¬ n < 0) (h1 : ¬ m < n) : okS m n = true := by unfold okS; simp; omega
theorem okS_low {m n : Int} (h0 : n < 0) : okS m n = false := by unfold okS; rw [decide_eq_false (by omega)]; rfl
theorem okS_high {m n : Int} (h1 : m < n) : okS m n = false := by unfold okS; rw [decide_eq_false (by omega : ¬ n ≤ m)]; simp
theorem infoByte9 : (Tryz.prog.info? 5).map (fun i => (i.zero, i.size, i.bytes)) = some (some (.int .u8 0), 1, 1) := by kernel_rfl

set_option maxRecDepth 100000 in
set_option maxHeartbeats 1000000 in
theorem smallData_any (A : Option Addr) (c : Nat) (row : List Int) (m : Int) (w : World) (hl : row.length ≤ 1000000) (hm0 : 0 ≤ m) (hm : m ≤ 255) (ha : SR w w.heap.size 1 A row.length (iv row)) :
    Calls Tryz.prog 166 #[.slice A row.length c, .int .i64 m] w fun e w' => e = .returned (.tuple #[.string (smallD row m).1, .int .i64 (smallD row m).2]) ∧ Below w.heap.size w w' := by
  obtain ⟨i0, hi0, hz0, hz1, hz2⟩ := info_parts infoByte9
  have HA := Lib.hid ha
  clear ha
  go_enter Tryz.func166, Tryz.ntmps166
  go_wp2_with (at_make; refine wpList_make_full _ rfl _ _ 113 rfl w.heap.size 5 i0 _ 1 Tryz.underlying113 hi0 hz0 hz1 .i64 .i64 _ _ row.length rfl rfl rfl rfl (by rw [hz2]; omega) (by unfold maxLen; omega) (Nat.le_refl _) ?_)
  intro w1 hown hg
  rw [made_cells] at hown
  have hb1 := (Below.refl w.heap.size w).grown hg (Nat.le_refl _) (fun q hq => by cases hq)
  have hvl : (bv (sb row)).length = row.length := by rw [bv_len, sb_len]
  have hf0 : Fill w1 w.heap.size w.heap.size 5 (bv (sb row)) (List.replicate row.length (Value.int .u8 0)) 0 := Fill.start (by rw [hvl]; exact hown)
  have HL : Hid ((List.replicate row.length (Value.int .u8 0)).length = (bv (sb row)).length) := Lib.hid (by rw [List.length_replicate, hvl])
  have HF0 := Lib.hid hf0
  have HB1 := Lib.hid hb1
  have HVL := Lib.hid hvl
  clear hown hg hb1 hf0 hi0 hz0 hz1 hz2 hvl
  generalize hgg : w.heap.size = g at *
  have HGG := Lib.hid hgg
  clear hgg
  go_wp2_with fail
  go_loopw [7, 8, 14] (fun _ _ i wr => ∃ (k : Nat) (K : Int), i = .int .i64 K ∧ K = (k : Nat) ∧ k ≤ row.length ∧ (row.take k).all (okS m) = true ∧ Fill wr g g 5 (bv (sb row)) (List.replicate row.length (Value.int .u8 0)) k ∧ Below g w wr) (fun _ _ i _ => row.length - (intOf i).toNat)
  case atStart => exact ⟨0, _, rfl, rfl, by omega, rfl, HF0.out, HB1.out⟩
  case round =>
    obtain ⟨k, K, rfl, rfl, hk, hall, hfill, hbl⟩ := hrel
    by_cases hlt : k < row.length
    · obtain ⟨b, o, rfl, -, hc⟩ := int_at (HA.out.below hbl) hlt
      have HBad := Lib.hid (smallD_bad (m := m) hlt)
      have HNext := Lib.hid (all_take_next hlt hall)
      have HAt := Lib.hid (sb_at hlt)
      have HF := Lib.hid hfill
      have HB := Lib.hid hbl
      clear hall hfill hbl
      generalize row[k] = x at *
      by_cases q1 : x < 0
      · have HE := Lib.hid (HBad.out (okS_low q1))
        go_wp2_with fail
        go_ret2
        rw [HE.out]
        exact ⟨rfl, by rw [← HGG.out] at HB; exact HB.out⟩
      · by_cases q2 : m < x
        · have HE := Lib.hid (HBad.out (okS_high q2))
          go_wp2_with fail
          go_ret2
          rw [HE.out]
          exact ⟨rfl, by rw [← HGG.out] at HB; exact HB.out⟩
        · have HN := Lib.hid (HNext.out (okS_yes q1 q2))
          obtain ⟨hkv, hv⟩ := HAt.out (by omega) (by omega)
          obtain ⟨u, hu⟩ := HF.out.cell HL.out hkv
          have hfz := HF.out.frozenAt k
          have hput := HF.out.put HL.out hkv
          rw [hv] at hput
          have hbs := HB.out.setCell (p := ⟨g, k, none⟩) (Nat.le_refl _) (.int .u8 x)
          have HP := Lib.hid (And.intro hput hbs)
          have hwx : IntKind.u8.wrap x = x := by simp [IntKind.wrap, IntKind.signed, IntKind.bits]; omega
          clear hput hbs hv hkv HF HB HAt
          go_wp2_with fail
          go_roundw
          case rel => exact ⟨k + 1, _, rfl, by omega, by omega, HN.out, HP.out.1, HP.out.2⟩
          case measure => simp [intOf]; omega
    · obtain rfl : k = row.length := by omega
      rw [List.take_length] at hall
      rw [← HVL.out] at hfill
      have hdone := hfill.done (by rw [HVL.out, List.length_replicate])
      rw [bv_len] at hdone
      have hs := run_bytes_own (P := Tryz.prog) wr 113 9 5 Tryz.underlying113 Tryz.underlying5 Tryz.underlying9 hdone
      rw [sb_len] at hs
      have HE := Lib.hid (smallD_ok hall)
      have HB := Lib.hid hbl
      clear hall hfill hdone hbl
      generalize (⟨(sb row).toArray⟩ : ByteArray) = S at *
      go_wp2_with fail
      go_ret2
      rw [HE.out]
      exact ⟨rfl, by rw [← HGG.out] at HB; exact HB.out⟩
end Go.Proofs.YtjjfdlgoacockaaGreat
