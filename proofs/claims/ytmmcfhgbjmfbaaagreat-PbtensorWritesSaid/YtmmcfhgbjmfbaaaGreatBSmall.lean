/- The walks of kindOf, greatest and smallData. -/
import Derived.Test.YtmmcfhgbjmfbaaaGreatOMath
import Derived.Test.YtmmcfhgbjmfbaaaGreatKSort
import Derived.Test.YtmmcfhgbjmfbaaaGreatMath
import Derived.Test.YtmmcfhgbjmfbaaaGreatOpenRow
import Derived.Test.YtmmcfhgbjmfbaaaGreatBChk
import Derived.Test.YtmmcfhgbjmfbaaaGreatTAwake
namespace Go.Proofs.YtmmcfhgbjmfbaaaGreat
open Go.RowKit M1 M2 M9

theorem five_at {k : Nat} (h : k < 5) : ∃ x : Int, fiveK[k]? = some x ∧ isKind x = true ∧ 1 ≤ x ∧ x ≤ 14 := by
  match k, h with
  | 0, _ => exact ⟨1, rfl, by decide, by decide, by decide⟩
  | 1, _ => exact ⟨2, rfl, by decide, by decide, by decide⟩
  | 2, _ => exact ⟨7, rfl, by decide, by decide, by decide⟩
  | 3, _ => exact ⟨9, rfl, by decide, by decide, by decide⟩
  | 4, _ => exact ⟨14, rfl, by decide, by decide, by decide⟩
theorem kindN_yes {n : Nat} {x : Int} (h : isKind x = true) (he : x = (n : Int)) : kindN n = (n : Int) := by subst he; unfold kindN; rw [if_pos h]
theorem kindN_no {n : Nat} (h : ∀ j, j < 5 → fiveK[j]? ≠ some (n : Int)) : kindN n = 0 := by
  unfold kindN; rw [if_neg]
  intro hk
  have hm : (n : Int) ∈ fiveK := mem_five.2 hk
  obtain ⟨j, hj, he⟩ := List.mem_iff_getElem.1 hm
  exact h j hj (by rw [List.getElem?_eq_getElem hj, he])
theorem kindN_in (n : Nat) : 0 ≤ kindN n ∧ kindN n ≤ 14 := by
  unfold kindN
  split
  · rename_i h; have := isKind_bd h; omega
  · omega
theorem zv_at {k : Nat} {x : Int} (h : fiveK[k]? = some x) : (zv fiveK)[k]? = some (.int .i64 x) := by unfold zv; rw [List.getElem?_map, h]; rfl

set_option maxRecDepth 100000 in
theorem kindOf_any (n : Nat) (w : World) : Calls Tryz.prog 57 #[.int .u64 (n : Int)] w fun e w' => e = .returned (.int .i64 (kindN n)) ∧ Below w.heap.size w w' := by
  go_enter Tryz.func57, Tryz.ntmps57
  go_wp2_with fail
  refine (k_all_any _).mono ?_
  rintro e w1 ⟨v, rfl, hown, hb⟩
  obtain ⟨A, c, rfl, -, -⟩ := own_form hown
  have HS := Lib.hid (SR.of_own hown)
  have HB := Lib.hid hb
  clear hb hown
  go_wp2_with fail
  go_loopw [4, 7] (fun _ i wr => ∃ (k : Nat) (K : Int), i = .int .i64 K ∧ K = (k : Nat) ∧ k ≤ 5 ∧ (∀ j, j < k → fiveK[j]? ≠ some (n : Int)) ∧ wr = w1) (fun _ i _ => 5 - (intOf i).toNat)
  case atStart => exact ⟨0, _, rfl, rfl, by omega, fun j h => by omega, rfl⟩
  case round =>
    obtain ⟨k, K, rfl, rfl, hk, hno, rfl⟩ := hrel
    by_cases hlt : k < 5
    · obtain ⟨x, hx, hkx, hx1, hx14⟩ := five_at hlt
      obtain ⟨b, o, rfl, -, hc⟩ := cell_at HS.out (k := k) hlt (zv_at hx)
      have hw : IntKind.u64.wrap x = x := by simp [IntKind.wrap, IntKind.signed, IntKind.bits]; omega
      by_cases he : x = (n : Int)
      · have HE := Lib.hid (kindN_yes hkx he)
        subst he
        clear hno hx
        go_wp2_with fail
        go_ret
        rw [HE.out]
        exact ⟨rfl, HB.out⟩
      · have he' : (x == (n : Int)) = false := by simpa using he
        have HN : Hid (∀ j, j < k + 1 → fiveK[j]? ≠ some (n : Int)) := Lib.hid (fun j hj => by
          rcases Nat.lt_succ_iff_lt_or_eq.1 hj with h | rfl
          · exact hno j h
          · rw [hx]; intro e; cases e; exact he rfl)
        clear hno hx he
        go_wp2_with fail
        go_roundw
        case rel => exact ⟨k + 1, _, rfl, by omega, by omega, HN.out, trivial⟩
        case measure => simp [intOf]; omega
    · obtain rfl : k = 5 := by omega
      have HE := Lib.hid (kindN_no hno)
      clear hno
      go_wp2_with fail
      go_ret
      rw [HE.out]
      exact ⟨rfl, HB.out⟩
set_option maxRecDepth 100000 in
theorem greatest_any (k : Int) (w : World) : Calls Tryz.prog 64 #[.int .i64 k] w fun e w' => e = .returned (.int .i64 (great k)) ∧ w = w' := by
  by_cases h : k = 9
  · subst h
    go_enter Tryz.func64, Tryz.ntmps64
    go_wp2
    go_ret
    exact ⟨rfl, rfl⟩
  · have hk : (k == 9) = false := by simpa using h
    have HE := Lib.hid (show great k = 255 from if_neg h)
    clear h
    go_enter Tryz.func64, Tryz.ntmps64
    go_wp2
    go_ret
    rw [HE.out]
    exact ⟨rfl, rfl⟩

/-- the bytes of small numbers -/
def sb (row : List Int) : List UInt8 := row.map fun n => UInt8.ofNat n.toNat
theorem sb_len (row : List Int) : (sb row).length = row.length := by simp [sb]
theorem sb_at {row : List Int} {k : Nat} (h : k < row.length) (h0 : 0 ≤ row[k]) (h1 : row[k] ≤ 255) : ∃ h2 : k < (bv (sb row)).length, (bv (sb row))[k] = .int .u8 row[k] := by
  refine ⟨by rw [bv_len, sb_len]; exact h, ?_⟩
  simp only [bv, sb, List.getElem_map]
  congr 1
  simp
  omega
def okS (m : Int) (n : Int) : Bool := decide (0 ≤ n) && decide (n ≤ m)
theorem smallD_bad {row : List Int} {m : Int} {k : Nat} (hk : k < row.length) (h : okS m row[k] = false) : smallD row m = (⟨#[]⟩, 17) := by
  unfold smallD; rw [if_neg]
  intro h2
  rw [List.all_eq_true] at h2
  have := h2 row[k] (List.getElem_mem hk)
  unfold okS at h
  rw [h] at this; cases this
theorem smallD_ok {row : List Int} {m : Int} (h : row.all (okS m) = true) : smallD row m = (⟨(sb row).toArray⟩, 0) := by
  unfold smallD; rw [if_pos (by exact h)]; rfl
theorem all_take_next {row : List Int} {m : Int} {k : Nat} (hk : k < row.length) (h : (row.take k).all (okS m) = true) (h2 : okS m row[k] = true) : (row.take (k + 1)).all (okS m) = true := by
  rw [List.take_succ_eq_append_getElem hk, List.all_append, h]; simp [h2]
theorem okS_yes {m n : Int} (h0 : ¬ n < 0) (h1 : ¬ m < n) : okS m n = true := by unfold okS; simp; omega
theorem okS_low {m n : Int} (h0 : n < 0) : okS m n = false := by unfold okS; rw [decide_eq_false (by omega)]; rfl
theorem okS_high {m n : Int} (h1 : m < n) : okS m n = false := by unfold okS; rw [decide_eq_false (by omega : ¬ n ≤ m)]; simp
theorem infoByte9 : (Tryz.prog.info? 5).map (fun i => (i.zero, i.size, i.bytes)) = some (some (.int .u8 0), 1, 1) := by kernel_rfl

set_option maxRecDepth 100000 in
set_option maxHeartbeats 1000000 in
theorem smallData_any (A : Option Addr) (c : Nat) (row : List Int) (m : Int) (w : World) (hl : row.length ≤ 1000000) (hm0 : 0 ≤ m) (hm : m ≤ 255) (ha : SR w w.heap.size 1 A row.length (iv row)) :
    Calls Tryz.prog 63 #[.slice A row.length c, .int .i64 m] w fun e w' => e = .returned (.tuple #[.string (smallD row m).1, .int .i64 (smallD row m).2]) ∧ Below w.heap.size w w' := by
  obtain ⟨i0, hi0, hz0, hz1, hz2⟩ := info_parts infoByte9
  have HA := Lib.hid ha
  clear ha
  go_enter Tryz.func63, Tryz.ntmps63
  go_wp2_with (at_make; refine wpList_make_full _ rfl _ _ 81 rfl w.heap.size 5 i0 _ 1 Tryz.underlying81 hi0 hz0 hz1 .i64 .i64 _ _ row.length rfl rfl rfl rfl (by rw [hz2]; omega) (by unfold maxLen; omega) (Nat.le_refl _) ?_)
  intro w1 hown hg
  rw [made_cells] at hown
  have hb1 := (Below.refl w.heap.size w).grown hg (Nat.le_refl _) (fun q hq => by cases hq)
  have hvl : (bv (sb row)).length = row.length := by rw [bv_len, sb_len]
  have hf0 : Fill w1 w.heap.size w.heap.size 5 (bv (sb row)) (List.replicate row.length (Value.int .u8 0)) 0 := Fill.start (by rw [hvl]; exact hown)
  have HL : Hid ((List.replicate row.length (Value.int .u8 0)).length = (bv (sb row)).length) := Lib.hid (by rw [List.length_replicate, hvl])
  have HF0 := Lib.hid hf0
  have HB1 := Lib.hid hb1
  have HVL := Lib.hid hvl
  clear hown hg hb1 hf0 hi0 hz0 hz1 hz2 hvl
  generalize hgg : w.heap.size = g at *
  have HGG := Lib.hid hgg
  clear hgg
  go_wp2_with fail
  go_loopw [7, 8, 14] (fun _ _ i wr => ∃ (k : Nat) (K : Int), i = .int .i64 K ∧ K = (k : Nat) ∧ k ≤ row.length ∧ (row.take k).all (okS m) = true ∧ Fill wr g g 5 (bv (sb row)) (List.replicate row.length (Value.int .u8 0)) k ∧ Below g w wr) (fun _ _ i _ => row.length - (intOf i).toNat)
  case atStart => exact ⟨0, _, rfl, rfl, by omega, rfl, HF0.out, HB1.out⟩
  case round =>
    obtain ⟨k, K, rfl, rfl, hk, hall, hfill, hbl⟩ := hrel
    by_cases hlt : k < row.length
    · obtain ⟨b, o, rfl, -, hc⟩ := int_at (HA.out.below hbl) hlt
      have HBad := Lib.hid (smallD_bad (m := m) hlt)
      have HNext := Lib.hid (all_take_next hlt hall)
      have HAt := Lib.hid (sb_at hlt)
      have HF := Lib.hid hfill
      have HB := Lib.hid hbl
      clear hall hfill hbl
      generalize row[k] = x at *
      by_cases q1 : x < 0
      · have HE := Lib.hid (HBad.out (okS_low q1))
        go_wp2_with fail
        go_ret2
        rw [HE.out]
        exact ⟨rfl, by rw [← HGG.out] at HB; exact HB.out⟩
      · by_cases q2 : m < x
        · have HE := Lib.hid (HBad.out (okS_high q2))
          go_wp2_with fail
          go_ret2
          rw [HE.out]
          exact ⟨rfl, by rw [← HGG.out] at HB; exact HB.out⟩
        · have HN := Lib.hid (HNext.out (okS_yes q1 q2))
          obtain ⟨hkv, hv⟩ := HAt.out (by omega) (by omega)
          obtain ⟨u, hu⟩ := HF.out.cell HL.out hkv
          have hfz := HF.out.frozenAt k
          have hput := HF.out.put HL.out hkv
          rw [hv] at hput
          have hbs := HB.out.setCell (p := ⟨g, k, none⟩) (Nat.le_refl _) (.int .u8 x)
          have HP := Lib.hid (And.intro hput hbs)
          have hwx : IntKind.u8.wrap x = x := by simp [IntKind.wrap, IntKind.signed, IntKind.bits]; omega
          clear hput hbs hv hkv HF HB HAt
          go_wp2_with fail
          go_roundw
          case rel => exact ⟨k + 1, _, rfl, by omega, by omega, HN.out, HP.out.1, HP.out.2⟩
          case measure => simp [intOf]; omega
    · obtain rfl : k = row.length := by omega
      rw [List.take_length] at hall
      rw [← HVL.out] at hfill
      have hdone := hfill.done (by rw [HVL.out, List.length_replicate])
      rw [bv_len] at hdone
      have hs := run_bytes_own (P := Tryz.prog) wr 81 9 5 Tryz.underlying81 Tryz.underlying5 Tryz.underlying9 hdone
      rw [sb_len] at hs
      have HE := Lib.hid (smallD_ok hall)
      have HB := Lib.hid hbl
      clear hall hfill hdone hbl
      generalize (⟨(sb row).toArray⟩ : ByteArray) = S at *
      go_wp2_with fail
      go_ret2
      rw [HE.out]
      exact ⟨rfl, by rw [← HGG.out] at HB; exact HB.out⟩
end Go.Proofs.YtmmcfhgbjmfbaaaGreat
/- The walk of dataHere: the bytes of elements that are in the message. -/
namespace Go.Proofs.YtmmcfhgbjmfbaaaGreat
open Go.RowKit M2 M9 Go.Sort
open M7 (nm)

theorem len_ne {α : Type} {l : List α} (h : 0 < l.length) : l ≠ [] := List.length_pos_iff.1 h
theorem len_nil {α : Type} {l : List α} (h : ¬ 0 < l.length) : l = [] := List.length_eq_zero_iff.1 (by omega)
theorem here_19 {k : Int} {d : ByteArray} {s i : List Int} (h : hasN s i = true) : here k d true s i = (⟨#[]⟩, 19) := by
  unfold hasN at h; unfold here; rw [if_pos rfl, if_pos (by simpa using h)]
theorem here_raw {k : Int} {d : ByteArray} {s i : List Int} (h : hasN s i = false) : here k d true s i = (d, 0) := by
  unfold hasN at h; unfold here; rw [if_pos rfl, if_neg (by simpa using h)]
theorem here_s5 {k : Int} {d : ByteArray} {s i : List Int} (h : 0 < s.length) (h2 : k ≠ 2) (h9 : k ≠ 9) : here k d false s i = (⟨#[]⟩, 5) := by
  unfold here; rw [if_neg (by simp), if_pos ⟨len_ne h, h2, h9⟩]
theorem here_i5 {k : Int} {d : ByteArray} {s i : List Int} (h : ¬ 0 < s.length ∨ k = 2 ∨ k = 9) (hi : 0 < i.length) (h7 : k ≠ 7) : here k d false s i = (⟨#[]⟩, 5) := by
  unfold here
  rw [if_neg (by simp), if_neg, if_pos ⟨len_ne hi, h7⟩]
  rintro ⟨a, b, c⟩
  rcases h with h | h | h
  · exact a (len_nil h)
  · exact b h
  · exact c h
theorem here_int {k : Int} {d : ByteArray} {s i : List Int} (h : ¬ 0 < s.length) (h7 : k = 7) : here k d false s i = (⟨(flat (fun n => l8 (M7.us n)) 8 i).toArray⟩, 0) := by
  unfold here
  rw [if_neg (by simp), if_neg (fun a => a.1 (len_nil h)), if_neg (fun a => a.2 h7), if_pos h7]
theorem here_small {k : Int} {d : ByteArray} {s i : List Int} (h : ¬ 0 < s.length ∨ k = 2 ∨ k = 9) (hi : ¬ 0 < i.length) (h7 : k ≠ 7) : here k d false s i = smallD s (great k) := by
  unfold here
  rw [if_neg (by simp), if_neg, if_neg (fun a => a.1 (len_nil hi)), if_neg h7]
  rintro ⟨a, b, c⟩
  rcases h with h | h | h
  · exact a (len_nil h)
  · exact b h
  · exact c h
theorem great_in (k : Int) : 0 ≤ great k ∧ great k ≤ 255 := by unfold great; split <;> omega
set_option maxRecDepth 100000 in
theorem tenField3 (n : ByteArray) (k : Int) (v : Value) (d : ByteArray) (w : World) : (Instr.field 33 (t_tv n k v d) 3).run Tryz.prog w = .ok (.string d) w := by kernel_rfl

set_option maxRecDepth 100000 in
set_option maxHeartbeats 2000000 in
theorem dataHere_any (nme : ByteArray) (k : Int) (dv : Value) (d0 : ByteArray) (sz wh : Int) (d : ByteArray) (hs : Bool) (A B : Option Addr) (p q : Nat) (s i : List Int) (bv : Value) (w : World)
    (hsl : s.length ≤ 65536) (hil : i.length ≤ 65536) (ha : SR w w.heap.size 1 A s.length (iv s)) (hb : SR w w.heap.size 1 B i.length (iv i)) :
    Calls Tryz.prog 23 #[wa nme k dv d0 sz wh d hs (.slice A s.length p) (.slice B i.length q) bv] w fun e w' => e = .returned (.tuple #[.string (here k d hs s i).1, .int .i64 (here k d hs s i).2]) ∧ Below w.heap.size w w' := by
  have HBX := Lib.hid (Bx.start w (wc nme k dv d0 sz wh d hs (.slice A s.length p) (.slice B i.length q) bv) 59)
  cases hs
  · have HG := Lib.hid (fun W => greatest_any k W)
    have HS := Lib.hid (fun W (h : Below w.heap.size w W) => smallData_any A p s (great k) W (by omega) (great_in k).1 (great_in k).2 ((ha.below h).more h.size))
    have HO := Lib.hid (fun W (h : Below w.heap.size w W) => ofInt_any ⟨#[]⟩ none 0 [] B q i (fun n => l8 (M7.us n)) W (by simp) (by omega) (SR.empty _ _ _ _) ((hb.below h).more h.size) (fun p _ => t_put_int p))
    clear ha hb
    by_cases h0 : 0 < s.length
    · have h0' : (0 : Int) < (s.length : Int) := by omega
      by_cases h2 : k = 2
      · subst h2
        by_cases h1 : 0 < i.length
        · have h1' : (0 : Int) < (i.length : Int) := by omega
          have HE := Lib.hid (here_i5 (d := d) (s := s) (k := 2) (.inr (by omega)) h1 (by omega))
          clear h0 h1
          go_enter Tryz.func23, Tryz.ntmps23
          go_wp2_with fail
          go_ret2
          rw [HE.out]
          exact ⟨rfl, HBX.out.all⟩
        · have h1' : ¬ (0 : Int) < (i.length : Int) := by omega
          have HE := Lib.hid (here_small (d := d) (s := s) (k := 2) (.inr (by omega)) h1 (by omega))
          clear h0 h1
          clear HO
          go_enter Tryz.func23, Tryz.ntmps23
          go_wp2_with fail
          have HX := Lib.hid HBX.out
          generalize (w.alloc (Obj.cells (wc nme 2 dv d0 sz wh d false (.slice A s.length p) (.slice B i.length q) bv) 59)) = W at HX ⊢
          obtain ⟨c0, c1, c2, c3, c4, c5, c6, c7, c8, c9, c10⟩ := HX.out.eleven
          have qc := fun d os => cell_regrown c8 d os
          have HS2 := Lib.hid (fun d os => HS.out _ (HX.out.all.trans ((below_regrown W d os).mono HX.out.all.size)))
          clear c0 c1 c2 c3 c4 c5 c6 c7 c9 c10
          refine wp_region_quiet_below (by kernel_rfl) (by kernel_rfl) ?_
          repeat (go_big_quiet_step ((first | (go_at_call 64; exact Calls.regrown_of ((HG.out _).mono fun e w' h => ⟨h.1, by rw [← h.2]; exact Below.refl _ _⟩)) | (go_at_call 63; exact Calls.regrown_of (HS2.out _ _)))))
          refine wpQuiet_nil ?_
          rintro w3 ⟨p3, rfl⟩
          have hbp := below_regrown W p3.d p3.os
          generalize grow (redrawn W p3.d) p3.os = w3 at hbp ⊢
          have HB3 := Lib.hid (HX.out.all.trans (hbp.mono HX.out.all.size))
          clear hbp qc c8
          go_wp2_with fail
          go_ret2
          rw [HE.out]
          exact ⟨rfl, HB3.out⟩
      by_cases h9 : k = 9
      · subst h9
        by_cases h1 : 0 < i.length
        · have h1' : (0 : Int) < (i.length : Int) := by omega
          have HE := Lib.hid (here_i5 (d := d) (s := s) (k := 9) (.inr (by omega)) h1 (by omega))
          clear h0 h1
          go_enter Tryz.func23, Tryz.ntmps23
          go_wp2_with fail
          go_ret2
          rw [HE.out]
          exact ⟨rfl, HBX.out.all⟩
        · have h1' : ¬ (0 : Int) < (i.length : Int) := by omega
          have HE := Lib.hid (here_small (d := d) (s := s) (k := 9) (.inr (by omega)) h1 (by omega))
          clear h0 h1
          clear HO
          go_enter Tryz.func23, Tryz.ntmps23
          go_wp2_with fail
          have HX := Lib.hid HBX.out
          generalize (w.alloc (Obj.cells (wc nme 9 dv d0 sz wh d false (.slice A s.length p) (.slice B i.length q) bv) 59)) = W at HX ⊢
          obtain ⟨c0, c1, c2, c3, c4, c5, c6, c7, c8, c9, c10⟩ := HX.out.eleven
          have qc := fun d os => cell_regrown c8 d os
          have HS2 := Lib.hid (fun d os => HS.out _ (HX.out.all.trans ((below_regrown W d os).mono HX.out.all.size)))
          clear c0 c1 c2 c3 c4 c5 c6 c7 c9 c10
          refine wp_region_quiet_below (by kernel_rfl) (by kernel_rfl) ?_
          repeat (go_big_quiet_step ((first | (go_at_call 64; exact Calls.regrown_of ((HG.out _).mono fun e w' h => ⟨h.1, by rw [← h.2]; exact Below.refl _ _⟩)) | (go_at_call 63; exact Calls.regrown_of (HS2.out _ _)))))
          refine wpQuiet_nil ?_
          rintro w3 ⟨p3, rfl⟩
          have hbp := below_regrown W p3.d p3.os
          generalize grow (redrawn W p3.d) p3.os = w3 at hbp ⊢
          have HB3 := Lib.hid (HX.out.all.trans (hbp.mono HX.out.all.size))
          clear hbp qc c8
          go_wp2_with fail
          go_ret2
          rw [HE.out]
          exact ⟨rfl, HB3.out⟩
      have h2' : (k != 2) = true := by simpa using h2
      have h9' : (k != 9) = true := by simpa using h9
      have HE := Lib.hid (here_s5 (d := d) (i := i) h0 h2 h9)
      clear h0 h2 h9
      go_enter Tryz.func23, Tryz.ntmps23
      go_wp2_with fail
      go_ret2
      rw [HE.out]
      exact ⟨rfl, HBX.out.all⟩
    · have h0' : ¬ (0 : Int) < (s.length : Int) := by omega
      by_cases h7 : k = 7
      · have HE := Lib.hid (here_int (d := d) (i := i) h0 h7)
        subst h7
        clear h0 HS HG
        have h3 := fun n v d w => tenField3 n 7 v d w
        by_cases h1' : (0 : Int) < (i.length : Int)
        all_goals
          go_enter Tryz.func23, Tryz.ntmps23
          go_wp2_with fail
          refine (HO.out _ HBX.out.all).mono ?_
          rintro e w1 ⟨v1, rfl, -, hb1⟩
          have H1 := Lib.hid (HBX.out.below hb1)
          clear hb1 HO HBX
          generalize (⟨(flat (fun n => l8 (M7.us n)) 8 i).toArray⟩ : ByteArray) = D at *
          go_wp2_with fail
          go_ret2
          rw [HE.out]
          exact ⟨rfl, H1.out.all⟩
      · have h7' : (k == 7) = false := by simpa using h7
        have h7n : (k != 7) = true := by simpa using h7
        by_cases h1 : 0 < i.length
        · have h1' : (0 : Int) < (i.length : Int) := by omega
          have HE := Lib.hid (here_i5 (d := d) (s := s) (.inl h0) h1 h7)
          clear h0 h1 h7
          go_enter Tryz.func23, Tryz.ntmps23
          go_wp2_with fail
          go_ret2
          rw [HE.out]
          exact ⟨rfl, HBX.out.all⟩
        · have h1' : ¬ (0 : Int) < (i.length : Int) := by omega
          have HE := Lib.hid (here_small (d := d) (s := s) (.inl h0) h1 h7)
          clear h0 h1 h7
          clear HO
          go_enter Tryz.func23, Tryz.ntmps23
          go_wp2_with fail
          have HX := Lib.hid HBX.out
          generalize (w.alloc (Obj.cells (wc nme k dv d0 sz wh d false (.slice A s.length p) (.slice B i.length q) bv) 59)) = W at HX ⊢
          obtain ⟨c0, c1, c2, c3, c4, c5, c6, c7, c8, c9, c10⟩ := HX.out.eleven
          have qc := fun d os => cell_regrown c8 d os
          have HS2 := Lib.hid (fun d os => HS.out _ (HX.out.all.trans ((below_regrown W d os).mono HX.out.all.size)))
          clear c0 c1 c2 c3 c4 c5 c6 c7 c9 c10
          refine wp_region_quiet_below (by kernel_rfl) (by kernel_rfl) ?_
          repeat (go_big_quiet_step ((first | (go_at_call 64; exact Calls.regrown_of ((HG.out _).mono fun e w' h => ⟨h.1, by rw [← h.2]; exact Below.refl _ _⟩)) | (go_at_call 63; exact Calls.regrown_of (HS2.out _ _)))))
          refine wpQuiet_nil ?_
          rintro w3 ⟨p3, rfl⟩
          have hbp := below_regrown W p3.d p3.os
          generalize grow (redrawn W p3.d) p3.os = w3 at hbp ⊢
          have HB3 := Lib.hid (HX.out.all.trans (hbp.mono HX.out.all.size))
          clear hbp qc c8
          go_wp2_with fail
          go_ret2
          rw [HE.out]
          exact ⟨rfl, HB3.out⟩
  · have HN := Lib.hid (fun W => hasNumbers_any nme k dv d0 sz wh d true A B p q s i bv W)
    clear ha hb
    cases hn : hasN s i
    · rw [hn] at HN
      have HE := Lib.hid (here_raw (k := k) (d := d) hn)
      clear hn
      go_enter Tryz.func23, Tryz.ntmps23
      go_wp2_with fail
      refine (HN.out _).mono ?_
      rintro e w1 ⟨rfl, hb1⟩
      have H1 := Lib.hid (HBX.out.below hb1)
      clear hb1 HBX
      obtain ⟨c0, c1, c2, c3, c4, c5, c6, c7, c8, c9, c10⟩ := H1.out.eleven
      go_wp2_with fail
      go_ret2
      rw [HE.out]
      exact ⟨rfl, H1.out.all⟩
    · rw [hn] at HN
      have HE := Lib.hid (here_19 (k := k) (d := d) hn)
      clear hn
      go_enter Tryz.func23, Tryz.ntmps23
      go_wp2_with fail
      refine (HN.out _).mono ?_
      rintro e w1 ⟨rfl, hb1⟩
      have H1 := Lib.hid (HBX.out.below hb1)
      clear hb1 HBX
      go_wp2_with fail
      go_ret2
      rw [HE.out]
      exact ⟨rfl, H1.out.all⟩
end Go.Proofs.YtmmcfhgbjmfbaaaGreat
