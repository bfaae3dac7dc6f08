/- The walk of the law WireReads. -/
import Derived.Test.YtkihbgklfbaiiaaWAwake
import Derived.Test.YtkihbgklfbaiiaaWLast
import Derived.Lib.QuietBelow
import Derived.BigQuiet
namespace Go.Proofs.Ytkihbgklfbaiiaa
open Go.RowKit M1 M2 Go.Sort

theorem fields_le (s : ByteArray) : (fields s).1.length ≤ s.size := by
  unfold fields
  split
  · simp
  · exact fields_list_le s

set_option maxRecDepth 100000 in
theorem reads_walk (b : ByteArray) (num : Int) (hb : b.size ≤ maxLen) (w : World) :
    Calls Try.prog 3 #[.string b, .int .i64 num] w fun e w' => e = .returned (.bool true) ∧ Below w.heap.size w w' := by
  have hb' := hb
  unfold maxLen at hb'
  by_cases hlong : 3000 < b.size
  · have hl : (3000 : Int) < (b.size : Int) := by omega
    go_enter Try.func3, Try.ntmps3
    go_wp2_with fail
    refine (wawake_any _).mono ?_
    rintro e w1 ⟨rfl, hb1⟩
    go_wp2_with fail
    go_ret
    exact ⟨rfl, hb1⟩
  · have hl : (b.size : Int) ≤ 3000 := by omega
    clear hlong
    have hle := fields_le b
    have hf1 := fun W => fields_any b W hb
    have hf2 := fun W => rfields_any b W hb
    obtain ⟨l, c, hlc⟩ : ∃ l c, fields b = (l, c) := ⟨_, _, rfl⟩
    rw [hlc] at hf1 hf2 hle
    simp only at hf1 hf2 hle
    have HF1 := Lib.hid hf1
    have HF2 := Lib.hid hf2
    clear hf1 hf2 hlc
    have hll : l.length ≤ 3000 := by omega
    have hlm : l.length ≤ 3000000 := by omega
    have hlx : l.length ≤ maxLen := by unfold maxLen; omega
    clear hle
    go_enter Try.func3, Try.ntmps3
    go_wp2_with fail
    refine (HF1.out _).mono ?_
    rintro e w1 ⟨v1, rfl, hown1, hb1⟩
    obtain ⟨A1, c1, rfl, -, -⟩ := own_form hown1
    have hs1 := SR.of_own hown1
    have HB1 := Lib.hid hb1
    clear hown1 hb1
    go_wp2_with fail
    refine (HF2.out _).mono ?_
    rintro e w2 ⟨v2, rfl, hown2, hb2⟩
    obtain ⟨A2, c2, rfl, -, -⟩ := own_form hown2
    have hs1 := (hs1.below hb2).more hb2.size
    have hs2 := SR.of_own hown2
    have HB2 := Lib.hid (HB1.out.trans (hb2.mono HB1.out.size))
    clear hown2 hb2 HB1
    go_wp2_with fail
    refine (same_any A1 A2 c1 c2 l _ hlx hs1 hs2).mono ?_
    rintro e w3 ⟨rfl, hb3⟩
    have hs1 := (hs1.below hb3).more hb3.size
    have hs2 := (hs2.below hb3).more hb3.size
    have HB3 := Lib.hid (HB2.out.trans (hb3.mono HB2.out.size))
    clear hb3 HB2
    go_wp2_with fail
    refine (all_any A1 c1 l num _ hlm hs1).mono ?_
    rintro e w4 ⟨v4, rfl, hown4, hb4⟩
    obtain ⟨A4, c4, rfl, -, -⟩ := own_form hown4
    have hs1 := (hs1.below hb4).more hb4.size
    have hs2 := (hs2.below hb4).more hb4.size
    have hs4 := SR.of_own hown4
    have HB4 := Lib.hid (HB3.out.trans (hb4.mono HB3.out.size))
    clear hown4 hb4 HB3
    go_wp2_with fail
    refine (rall_any A2 c2 l num _ hlm hs2).mono ?_
    rintro e w5 ⟨v5, rfl, hown5, hb5⟩
    obtain ⟨A5, c5, rfl, -, -⟩ := own_form hown5
    have hs1 := (hs1.below hb5).more hb5.size
    have hs2 := (hs2.below hb5).more hb5.size
    have hs4 := (hs4.below hb5).more hb5.size
    have hs5 := SR.of_own hown5
    have HB5 := Lib.hid (HB4.out.trans (hb5.mono HB4.out.size))
    clear hown5 hb5 HB4
    go_wp2_with fail
    have hol := ofNum_le l num
    refine (same_any A4 A5 c4 c5 (ofNum l num) _ (by omega) hs4 hs5).mono ?_
    rintro e w6 ⟨rfl, hb6⟩
    have hs1 := (hs1.below hb6).more hb6.size
    have hs2 := (hs2.below hb6).more hb6.size
    have HB6 := Lib.hid (HB5.out.trans (hb6.mono HB5.out.size))
    clear hb6 HB5 hs4 hs5
    go_wp2_with fail
    refine (rall_any A2 c2 l num _ hlm hs2).mono ?_
    rintro e w7 ⟨v7, rfl, hown7, hb7⟩
    obtain ⟨A7, c7, rfl, -, -⟩ := own_form hown7
    have hs1 := (hs1.below hb7).more hb7.size
    have hs7 := SR.of_own hown7
    have HB7 := Lib.hid (HB6.out.trans (hb7.mono HB6.out.size))
    clear hown7 hb7 HB6 hs2
    go_wp2_with fail
    refine (last_any A1 c1 l num _ hlm hs1).mono ?_
    rintro e w8 ⟨rfl, hb8⟩
    have hs7 := (hs7.below hb8).more hb8.size
    have HB8 := Lib.hid (HB7.out.trans (hb8.mono HB7.out.size))
    clear hb8 HB7 hs1
    by_cases hnil : ofNum l num = []
    · have hlast := last_none hnil
      have hd : decide (ofNum l num ≠ []) = false := by simp [hnil]
      rw [hlast, hd, hnil]
      simp only [fc, fd0]
      clear hlast hd hnil hol hs7
      go_wp2_with fail
      refine (wawake_any _).mono ?_
      rintro e w9 ⟨rfl, hb9⟩
      have HB9 := Lib.hid (HB8.out.trans ((((Below.refl _ _).alloc (Nat.le_refl _) _).trans (hb9.mono (by simp))).mono HB8.out.size))
      have hblk := (hb9.block w8.heap.size (by simp)).trans (heap_alloc_new w8 _)
      obtain ⟨k0, k1, k2, k3⟩ := cells_of4 hblk
      clear hb9 hblk HB8
      go_wp2_with fail
      go_ret
      exact ⟨rfl, HB9.out⟩
    · obtain ⟨p, f, hp⟩ : ∃ p f, ofNum l num = p ++ [f] := by
        rcases List.eq_nil_or_concat (ofNum l num) with h | ⟨p, f, h⟩
        · exact absurd h hnil
        · exact ⟨p, f, by rw [h, List.concat_eq_append]⟩
      have hlast : lastF l num = f := by rw [lastF, hp]; simp
      have hd : decide (ofNum l num ≠ []) = true := by simp [hnil]
      rw [hlast, hd]
      obtain ⟨b7, o7, rfl, hlt7, y0, y1, y2, y3⟩ := field_at hs7 (k := p.length) (by rw [hp]; simp)
      have hq : (ofNum l num)[p.length]'(by rw [hp]; simp) = f := by simp [hp]
      rw [hq] at y0 y1 y2 y3
      have hlen : (ofNum l num).length = p.length + 1 := by rw [hp]; simp
      rw [hlen] at hol ⊢
      obtain ⟨fnum, ftyp, fn, fdata⟩ := f
      simp only at y0 y1 y2 y3
      simp only [fc]
      clear hlast hd hnil hs7 hp hq hlen
      go_wp2_with fail
      have k4 := cells_of4 (heap_alloc_new w8 (.cells #[.int .i64 fnum, .int .i64 ftyp, .int .u64 (fn : Int), .string fdata] 35))
      have q0 := fun d os => cell_regrown k4.1 d os
      have q1 := fun d os => cell_regrown k4.2.1 d os
      have q2 := fun d os => cell_regrown k4.2.2.1 d os
      have q3 := fun d os => cell_regrown k4.2.2.2 d os
      have hk := fun (p : Addr) (v : Value) (h : w8.cell? p = some v) => (World.cell?_alloc_lt w8 (.cells #[.int .i64 fnum, .int .i64 ftyp, .int .u64 (fn : Int), .string fdata] 35) p (block_lt_of_cell h)).trans h
      have z0 := fun d os => cell_regrown (hk _ _ y0) d os
      have z1 := fun d os => cell_regrown (hk _ _ y1) d os
      have z2 := fun d os => cell_regrown (hk _ _ y2) d os
      have z3 := fun d os => cell_regrown (hk _ _ y3) d os
      clear hk k4 y0 y1 y2 y3
      refine wp_region_quiet_below (by kernel_rfl) (by kernel_rfl) ?_
      repeat (go_big_quiet_step ((go_at_call 6; exact Calls.regrown_of (wawake_any _))))
      refine wpQuiet_nil ?_
      rintro w9 ⟨p, rfl⟩
      have hbp := below_regrown (w8.alloc (.cells #[.int .i64 fnum, .int .i64 ftyp, .int .u64 (fn : Int), .string fdata] 35)) p.d p.os
      clear q0 q1 q2 q3 z0 z1 z2 z3
      generalize grow (redrawn (w8.alloc (.cells #[.int .i64 fnum, .int .i64 ftyp, .int .u64 (fn : Int), .string fdata] 35)) p.d) p.os = w9 at hbp ⊢
      have HB9 := Lib.hid (HB8.out.trans ((((Below.refl _ _).alloc (Nat.le_refl _) _).trans (hbp.mono (by simp))).mono HB8.out.size))
      clear hbp HB8
      go_wp2_with fail
      go_ret
      exact ⟨rfl, HB9.out⟩
end Go.Proofs.Ytkihbgklfbaiiaa
