import Derived.Test.YtjjfdlgoacockaaGreatBLast
import Derived.Test.YtjjfdlgoacockaaGreatMNew
import Derived.Test.YtjjfdlgoacockaaGreatTMade
import Derived.Maps.OwnOps
import Derived.Test.YtjjfdlgoacockaaGreatGRefTwo
import Derived.Lib.QuietBelow
import Derived.BigQuiet
namespace Go.Proofs.YtjjfdlgoacockaaGreat
open Go.RowKit M1 M2 M3 M9 M10 M11
open M7 (nm)

def attF5 (b : ByteArray) : Nat :=
  orC (orC (orC (orC (orC (fields b).2 (nt (okF (fields b).1 1 2) 3)) (nt (okF (fields b).1 3 0) 3)) (nt (okF (fields b).1 20 0) 3)) (ints (ofNum (fields b).1 8) []).2) (nt (nm (lastF (fields b).1 1).data) 8)
theorem attF5_no {b : ByteArray} (h : attF5 b ≠ 0) : attrM b = (zA11, attF5 b) := by
  unfold attF5 at *
  unfold attrM
  generalize fields b = FF at *
  obtain ⟨L, C⟩ := FF
  dsimp only at *
  by_cases hC : C ≠ 0
  · rw [if_pos hC, orC_no _ hC, orC_no _ hC, orC_no _ hC, orC_no _ hC, orC_no _ hC]
  · obtain rfl : C = 0 := by omega
    rw [if_neg (by simp)]
    simp only [orC_yes] at *
    cases h1 : okF L 1 2
    · rw [attrL_wire (by simp [h1])]; rfl
    cases h2 : okF L 3 0
    · rw [attrL_wire (by simp [h2])]; rfl
    cases h3 : okF L 20 0
    · rw [attrL_wire (by simp [h3])]; rfl
    have hk : (okF L 1 2 && okF L 3 0 && okF L 20 0) = true := by simp [h1, h2, h3]
    simp only [h1, h2, h3, nt, if_true, orC_zero, orC_yes] at h ⊢
    generalize hr : ints (ofNum L 8) [] = R at *
    obtain ⟨R, RC⟩ := R
    dsimp only at *
    by_cases hRC : RC ≠ 0
    · rw [attrL_rows hk hr hRC, orC_no _ hRC]
    · obtain rfl : RC = 0 := by omega
      cases hn : nm (lastF L 1).data
      · rw [attrL_name hk hr hn]; rfl
      · rw [hn] at h; exact absurd rfl h
theorem attF5_yes {b : ByteArray} (h : attF5 b = 0) : (fields b).2 = 0 ∧ (okF (fields b).1 1 2 && okF (fields b).1 3 0 && okF (fields b).1 20 0) = true ∧ ints (ofNum (fields b).1 8) [] = ((ints (ofNum (fields b).1 8) []).1, 0) ∧ nm (lastF (fields b).1 1).data = true := by
  unfold attF5 at h
  simp only [orC_iff, nt_iff (show (3 : Nat) ≠ 0 by decide), nt_iff (show (8 : Nat) ≠ 0 by decide)] at h
  obtain ⟨⟨⟨⟨⟨q0, q1⟩, q2⟩, q3⟩, q4⟩, q5⟩ := h
  exact ⟨q0, by rw [q1, q2, q3]; rfl, by rw [← q4], q5⟩
theorem attF5_two {b : ByteArray} (h : attF5 b = 0) (h2 : (lastF (fields b).1 20).n = 2) : attrM b = (⟨(lastF (fields b).1 1).data, true, sg (lastF (fields b).1 3).n, []⟩, 0) := by
  obtain ⟨q1, q2, q3, q4⟩ := attF5_yes h
  unfold attrM; rw [if_neg (by simp [q1]), attrL_two q2 q3 q4 h2]
theorem attF5_seven {b : ByteArray} (h : attF5 b = 0) (h7 : (lastF (fields b).1 20).n = 7) : attrM b = (⟨(lastF (fields b).1 1).data, false, 0, (ints (ofNum (fields b).1 8) []).1⟩, 0) := by
  obtain ⟨q1, q2, q3, q4⟩ := attF5_yes h
  unfold attrM; rw [if_neg (by simp [q1]), attrL_seven q2 q3 q4 h7]
theorem attF5_other {b : ByteArray} (h2 : (lastF (fields b).1 20).n ≠ 2) (h7 : (lastF (fields b).1 20).n ≠ 7) : attrM b = (zA11, orC (attF5 b) 12) ∧ orC (attF5 b) 12 ≠ 0 := by
  by_cases h : attF5 b = 0
  · obtain ⟨q1, q2, q3, q4⟩ := attF5_yes h
    unfold attrM; rw [if_neg (by simp [q1]), attrL_other q2 q3 q4 h2 h7, h]
    exact ⟨rfl, by decide⟩
  · rw [orC_no _ h]; exact ⟨attF5_no h, h⟩

set_option maxRecDepth 100000 in
set_option maxHeartbeats 4000000 in
theorem readAttr_any (b : ByteArray) (w : World) (hbs : b.size ≤ maxLen) : Calls Tryz.prog 157 #[.string b] w (AttRes w.heap.size (attrM b) w) := by
  have HX0 := Lib.hid (Bx.start w #[.string ⟨#[]⟩, .bool false, .int .i64 0, .slice none 0 0] 108)
  have HO := Lib.hid (open_any b (w.alloc (.cells #[.string ⟨#[]⟩, .bool false, .int .i64 0, .slice none 0 0] 108)) hbs)
  have HFL := Lib.hid (fields_len b)
  have HFO := Lib.hid (fields_ok (s := b))
  have HNO := Lib.hid (attF5_no (b := b))
  have HTWO := Lib.hid (attF5_two (b := b))
  have HSEV := Lib.hid (attF5_seven (b := b))
  have HOTH := Lib.hid (attF5_other (b := b))
  have HIL := Lib.hid (ints_le (ofNum (fields b).1 8) [] (by simp))
  have HF5 := Lib.hid (show attF5 b = orC (orC (orC (orC (orC (fields b).2 (nt (okF (fields b).1 1 2) 3)) (nt (okF (fields b).1 3 0) 3)) (nt (okF (fields b).1 20 0) 3)) (ints (ofNum (fields b).1 8) []).2) (nt (nm (lastF (fields b).1 1).data) 8) from rfl)
  generalize attF5 b = F5 at *
  generalize attrM b = R at *
  generalize fields b = FF at *
  obtain ⟨L, C⟩ := FF
  dsimp only at *
  go_enter Tryz.func157, Tryz.ntmps157
  go_wp2_with fail
  refine HO.out.mono ?_
  rintro e w1 ⟨a1, c1, rfl, hown, hb1⟩
  have hb2 := (Below.refl w1.heap.size w1).alloc (Nat.le_refl _) (.cells #[.slice a1 L.length c1, .int .i64 (C : Int)] 209)
  have HX2 := Lib.hid ((HX0.out.below hb1).below hb2)
  have HM2 : Hid (Ms w1.heap.size (w.alloc (.cells #[.string ⟨#[]⟩, .bool false, .int .i64 0, .slice none 0 0] 108)).heap.size a1 c1 L C (w1.alloc (.cells #[.slice a1 L.length c1, .int .i64 (C : Int)] 209))) := Lib.hid ⟨n_Msg.start w1 _ _, own_keep hown hb2⟩
  have HG := Lib.hid (show w.heap.size < w1.heap.size from by have := hb1.size; have h2 : (w.alloc (.cells #[.string ⟨#[]⟩, .bool false, .int .i64 0, .slice none 0 0] 108)).heap.size = w.heap.size + 1 := by simp
                                                              omega)
  have HL := Lib.hid HFL.out
  clear hb1 hb2 hown HO HX0
  generalize (w.alloc (.cells #[.string ⟨#[]⟩, .bool false, .int .i64 0, .slice none 0 0] 108)).heap.size = B at *
  have hl : L.length ≤ 1048576 := HL.out
  have T3 := Lib.hid (textOf_any w1.heap.size B a1 c1 L 1 C _ HM2.out hl)
  go_wp2_with fail
  refine T3.out.mono ?_
  rintro e w3 ⟨rfl, hm3, hs3⟩
  have HM3 := Lib.hid (HM2.out.step hm3 hs3)
  have HS3 := Lib.hid hs3
  clear hm3 hs3 T3
  have T4 := Lib.hid (n_numberOf_any w1.heap.size B a1 c1 L 3 _ _ HM3.out hl)
  go_wp2_with fail
  refine T4.out.mono ?_
  rintro e w4 ⟨rfl, hm4, hs4⟩
  have HM4 := Lib.hid (HM3.out.step hm4 hs4)
  have HS4 := Lib.hid (HS3.out.trans hs4)
  clear hm4 hs4 T4 HM3 HS3
  have T5 := Lib.hid (n_numberOf_any w1.heap.size B a1 c1 L 20 _ _ HM4.out hl)
  go_wp2_with fail
  refine T5.out.mono ?_
  rintro e w5 ⟨rfl, hm5, hs5⟩
  have HM5 := Lib.hid (HM4.out.step hm5 hs5)
  have HS5 := Lib.hid (HS4.out.trans hs5)
  clear hm5 hs5 T5 HM4 HS4
  have T6 := Lib.hid (rowOf_any w1.heap.size B a1 c1 L 8 _ _ HM5.out hl (fun f hf => (HFO.out f hf).1))
  go_wp2_with fail
  refine T6.out.mono ?_
  rintro e w6 ⟨U, k, rfl, hown6, hm6, hs6⟩
  have HM6 := Lib.hid (HM5.out.step hm6 hs6)
  have HS6 := Lib.hid (HS5.out.trans hs6)
  have HW6 := Lib.hid hown6
  clear hown6 hm6 hs6 T6 HM5 HS5
  have hds : (lastF L 1).data.size ≤ 1048576 := (lastF_ok HFO.out 1).2
  generalize hf1 : lastF L 1 = f1 at *
  generalize lastF L 3 = f3 at *
  generalize lastF L 20 = f20 at *
  generalize ints (ofNum L 8) [] = IR at *
  obtain ⟨RL, RC⟩ := IR
  dsimp only at *
  go_wp2_with fail
  refine (name_any f1.data _ (by unfold maxLen; omega)).mono ?_
  rintro e w7 ⟨rfl, rfl⟩
  have T8 := Lib.hid (must_any w1.heap.size _ _ (nm f1.data) 8 _ HM6.out.msg)
  rw [← HF5.out] at T8
  go_wp2_with fail
  refine T8.out.mono ?_
  rintro e w8 ⟨rfl, hm8, hs8⟩
  have HM8 := Lib.hid (HM6.out.step hm8 hs8)
  have HW8 := Lib.hid (own_stp HW6.out HM6.out.msg (by decide) hs8)
  have HS8 := Lib.hid (HS6.out.trans hs8)
  clear hm8 hs8 T8 HM6 HS6 HW6 HF5
  by_cases h2 : f20.n = 2
  · have ht : ((f20.n : Int) == 2) = true := by rw [h2]; rfl
    have HT := Lib.hid (fun h => HTWO.out h h2)
    clear h2 HSEV HOTH HTWO
    have T9 := Lib.hid (must_any w1.heap.size _ _ true 12 _ HM8.out.msg)
    go_wp2_with fail
    refine T9.out.mono ?_
    rintro e w9 ⟨rfl, hm9, hs9⟩
    rw [show nt true 12 = 0 from rfl, orC_zero] at hm9
    have HM9 := Lib.hid (HM8.out.step hm9 hs9)
    have HW9 := Lib.hid (own_stp HW8.out HM8.out.msg (by decide) hs9)
    have HX9 := Lib.hid (HX2.out.grown (HS8.out.trans hs9) (by intro e; injection e with e; have := HG.out; omega) (fun q hq => by cases hq; exact Nat.le_of_lt HG.out))
    clear hm9 hs9 T9 HM8 HW8 HX2 HS8
    by_cases hF : F5 ≠ 0
    · obtain ⟨F9, hF9⟩ : ∃ F9, F9 = F5 := ⟨_, rfl⟩
      rw [← hF9] at HM9 hF
      have HE := Lib.hid (show R = (zA11, F9) by rw [hF9]; exact HNO.out (by rw [← hF9]; exact hF))
      clear hF9
      have hfb : ((F9 : Int) != 0) = true := by simpa using hF
      obtain ⟨wE, hE, hxE⟩ := n_name (P := fun W => Bx w w.heap.size #[.string ⟨#[]⟩, .bool false, .int .i64 0, .slice none 0 0] 108 W ∧ n_Msg w1.heap.size (.slice a1 L.length c1) F9 W) ⟨HX9.out.four_put (Nat.le_refl _) (.string ⟨#[]⟩) (.bool false) (.int .i64 0) (.slice none 0 0), msg_far4 HM9.out.msg (by have := HG.out; omega) _ _ _ _⟩
      have HXE := Lib.hid hxE
      obtain ⟨z0, z1, z2, z3⟩ := HX9.out.four
      have zf := fun i => HX9.out.free i
      have m1 := HM9.out.msg.c1
      have m2 := HXE.out.2.c1
      clear hxE hF
      go_wp2_with fail
      go_region
      all_goals
        go_wp2_with fail
        obtain ⟨e0, e1, e2, e3⟩ := HXE.out.1.four
        rw [HE.out]
        exact bodyPost_ret (v := .tuple #[.agg #[.string ⟨#[]⟩, .bool false, .int .i64 0, .slice none 0 0], .int .i64 (F9 : Int)]) (by simp [results, Tryz.results157, go_sem, e0, e1, e2, e3]) rfl ⟨_, rfl, own_nothing _ _ _ _, HXE.out.1.all.drew⟩
    · obtain rfl : F5 = 0 := by omega
      have HE := Lib.hid (HT.out rfl)
      have m1 := HM9.out.msg.c1
      rw [Int.natCast_zero] at m1
      have HN := Lib.hid (m_number_any f1.data (wrap64 (f3.n : Int)) w9)
      clear hF
      go_wp2_with fail
      refine HN.out.mono ?_
      rintro e w10 ⟨rfl, hb10⟩
      have HX10 := Lib.hid (HX9.out.below hb10)
      clear hb10 HN m1
      obtain ⟨wE, hE, hxE⟩ := n_name (P := fun W => Bx w w.heap.size #[.string f1.data, .bool true, .int .i64 (wrap64 (f3.n : Int)), .slice none 0 0] 108 W) (HX10.out.four_put (Nat.le_refl _) (.string f1.data) (.bool true) (.int .i64 (wrap64 (f3.n : Int))) (.slice none 0 0))
      have HXE := Lib.hid hxE
      obtain ⟨z0, z1, z2, z3⟩ := HX10.out.four
      have zf := fun i => HX10.out.free i
      clear hxE
      go_wp2_with fail
      obtain ⟨e0, e1, e2, e3⟩ := HXE.out.four
      rw [HE.out]
      exact bodyPost_ret (v := .tuple #[.agg #[.string f1.data, .bool true, .int .i64 (wrap64 (f3.n : Int)), .slice none 0 0], .int .i64 0]) (by simp [results, Tryz.results157, go_sem, e0, e1, e2, e3]) rfl ⟨_, rfl, own_nothing _ _ _ _, HXE.out.all⟩
  by_cases h7 : f20.n = 7
  · have ht : ((f20.n : Int) == 2) = false := by rw [beq_eq_false_iff_ne]; omega
    have ht7 : ((f20.n : Int) == 7) = true := by rw [h7]; rfl
    have HT := Lib.hid (fun h => HSEV.out h h7)
    clear h2 h7 HSEV HOTH HTWO
    have T9 := Lib.hid (must_any w1.heap.size _ _ true 12 _ HM8.out.msg)
    go_wp2_with fail
    refine T9.out.mono ?_
    rintro e w9 ⟨rfl, hm9, hs9⟩
    rw [show nt true 12 = 0 from rfl, orC_zero] at hm9
    have HM9 := Lib.hid (HM8.out.step hm9 hs9)
    have HW9 := Lib.hid (own_stp HW8.out HM8.out.msg (by decide) hs9)
    have HX9 := Lib.hid (HX2.out.grown (HS8.out.trans hs9) (by intro e; injection e with e; have := HG.out; omega) (fun q hq => by cases hq; exact Nat.le_of_lt HG.out))
    clear hm9 hs9 T9 HM8 HW8 HX2 HS8
    by_cases hF : F5 ≠ 0
    · obtain ⟨F9, hF9⟩ : ∃ F9, F9 = F5 := ⟨_, rfl⟩
      rw [← hF9] at HM9 hF
      have HE := Lib.hid (show R = (zA11, F9) by rw [hF9]; exact HNO.out (by rw [← hF9]; exact hF))
      clear hF9
      have hfb : ((F9 : Int) != 0) = true := by simpa using hF
      obtain ⟨wE, hE, hxE⟩ := n_name (P := fun W => Bx w w.heap.size #[.string ⟨#[]⟩, .bool false, .int .i64 0, .slice none 0 0] 108 W ∧ n_Msg w1.heap.size (.slice a1 L.length c1) F9 W) ⟨HX9.out.four_put (Nat.le_refl _) (.string ⟨#[]⟩) (.bool false) (.int .i64 0) (.slice none 0 0), msg_far4 HM9.out.msg (by have := HG.out; omega) _ _ _ _⟩
      have HXE := Lib.hid hxE
      obtain ⟨z0, z1, z2, z3⟩ := HX9.out.four
      have zf := fun i => HX9.out.free i
      have m1 := HM9.out.msg.c1
      have m2 := HXE.out.2.c1
      clear hxE hF
      go_wp2_with fail
      go_region
      all_goals
        go_wp2_with fail
        obtain ⟨e0, e1, e2, e3⟩ := HXE.out.1.four
        rw [HE.out]
        exact bodyPost_ret (v := .tuple #[.agg #[.string ⟨#[]⟩, .bool false, .int .i64 0, .slice none 0 0], .int .i64 (F9 : Int)]) (by simp [results, Tryz.results157, go_sem, e0, e1, e2, e3]) rfl ⟨_, rfl, own_nothing _ _ _ _, HXE.out.1.all.drew⟩
    · obtain rfl : F5 = 0 := by omega
      have HE := Lib.hid (HT.out rfl)
      have m1 := HM9.out.msg.c1
      rw [Int.natCast_zero] at m1
      have HN := Lib.hid (row_any f1.data U k RL w9 (by have := HIL.out; omega) (SR.of_own HW9.out))
      clear hF
      go_wp2_with fail
      refine HN.out.mono ?_
      rintro e w10 ⟨v, rfl, hown, hb10⟩
      obtain ⟨va, vc, rfl, -, -⟩ := own_form hown
      have HX10 := Lib.hid (HX9.out.below hb10)
      have HOW := Lib.hid (own_base hown HX9.out.all.size)
      clear hb10 HN m1 hown
      obtain ⟨wE, hE, hxE⟩ := n_name (P := fun W => Bx w w.heap.size #[.string f1.data, .bool false, .int .i64 0, .slice va RL.length vc] 108 W ∧ W.ownsRow w.heap.size 2 1 (.slice va RL.length vc) RL.length (iv RL))
        ⟨HX10.out.four_put (Nat.le_refl _) (.string f1.data) (.bool false) (.int .i64 0) (.slice va RL.length vc), own_set4 HOW.out HX10.out.1 (by decide) (.string f1.data) (.bool false) (.int .i64 0) (.slice va RL.length vc)⟩
      have HXE := Lib.hid hxE
      obtain ⟨z0, z1, z2, z3⟩ := HX10.out.four
      have zf := fun i => HX10.out.free i
      clear hxE
      go_wp2_with fail
      obtain ⟨e0, e1, e2, e3⟩ := HXE.out.1.four
      rw [HE.out]
      exact bodyPost_ret (v := .tuple #[.agg #[.string f1.data, .bool false, .int .i64 0, .slice va RL.length vc], .int .i64 0]) (by simp [results, Tryz.results157, go_sem, e0, e1, e2, e3]) rfl ⟨_, rfl, HXE.out.2, HXE.out.1.all⟩
  · have ht : ((f20.n : Int) == 2) = false := by rw [beq_eq_false_iff_ne]; omega
    have ht7 : ((f20.n : Int) == 7) = false := by rw [beq_eq_false_iff_ne]; omega
    obtain ⟨he, hF⟩ := HOTH.out h2 h7
    have HE := Lib.hid he
    clear he h2 h7 HSEV HOTH HTWO
    have T9 := Lib.hid (must_any w1.heap.size _ _ false 12 _ HM8.out.msg)
    go_wp2_with fail
    refine T9.out.mono ?_
    rintro e w9 ⟨rfl, hm9, hs9⟩
    rw [show nt false 12 = 12 from rfl] at hm9
    have HM9 := Lib.hid (HM8.out.step hm9 hs9)
    have HW9 := Lib.hid (own_stp HW8.out HM8.out.msg (by decide) hs9)
    have HX9 := Lib.hid (HX2.out.grown (HS8.out.trans hs9) (by intro e; injection e with e; have := HG.out; omega) (fun q hq => by cases hq; exact Nat.le_of_lt HG.out))
    clear hm9 hs9 T9 HM8 HW8 HX2 HS8
    generalize orC F5 12 = F9 at *
    have hfb : ((F9 : Int) != 0) = true := by simpa using hF
    obtain ⟨wE, hE, hxE⟩ := n_name (P := fun W => Bx w w.heap.size #[.string ⟨#[]⟩, .bool false, .int .i64 0, .slice none 0 0] 108 W ∧ n_Msg w1.heap.size (.slice a1 L.length c1) F9 W) ⟨HX9.out.four_put (Nat.le_refl _) (.string ⟨#[]⟩) (.bool false) (.int .i64 0) (.slice none 0 0), msg_far4 HM9.out.msg (by have := HG.out; omega) _ _ _ _⟩
    have HXE := Lib.hid hxE
    obtain ⟨z0, z1, z2, z3⟩ := HX9.out.four
    have zf := fun i => HX9.out.free i
    have m1 := HM9.out.msg.c1
    have m2 := HXE.out.2.c1
    clear hxE hF
    go_wp2_with fail
    go_region
    all_goals
      go_wp2_with fail
      obtain ⟨e0, e1, e2, e3⟩ := HXE.out.1.four
      rw [HE.out]
      exact bodyPost_ret (v := .tuple #[.agg #[.string ⟨#[]⟩, .bool false, .int .i64 0, .slice none 0 0], .int .i64 (F9 : Int)]) (by simp [results, Tryz.results157, go_sem, e0, e1, e2, e3]) rfl ⟨_, rfl, own_nothing _ _ _ _, HXE.out.1.all.drew⟩
end Go.Proofs.YtjjfdlgoacockaaGreat
namespace Go.Proofs.YtjjfdlgoacockaaGreat
open Go.RowKit M1 M2 M3 M8 M9 M10 M11 Go.Maps Go.ChangeMaps Go.Sort
open M7 (nm)

/-! ### the names that were met -/
theorem n_strLaw : Keyed Tryz.prog 9 := string_keyed Tryz.underlying9
set_option maxRecDepth 100000 in
theorem boolZero (w : World) : (zeroValue 4).run Tryz.prog w = .ok (.bool false) w := by kernel_rfl
theorem n_keyOf_fk {s : ByteArray} (h : s.size ≤ maxLen) : keyOf Tryz.prog 9 (.string s) = some (fk s) := by
  unfold keyOf
  simp [Tryz.underlying9, mapKey, h, fk]
def ndat (l : List ByteArray) : FD := l.foldl (fun m s => m.put (fk s) (.lit (.bool true))) (.map [])
theorem ndat_snoc (l : List ByteArray) (s : ByteArray) : ndat (l ++ [s]) = (ndat l).put (fk s) (.lit (.bool true)) := by unfold ndat; simp
theorem nfold_at (k : ByteArray) (z : FD) : ∀ (l : List ByteArray) (m : FD), IsMap m → (l.foldl (fun m s => m.put (fk s) (.lit (.bool true))) m).atKey (fk k) z = if k ∈ l then .lit (.bool true) else m.atKey (fk k) z
  | [], m, _ => by simp
  | s :: l, m, h => by
    rw [List.foldl_cons, nfold_at k z l _ (isMap_put h _ _)]
    by_cases hk : k ∈ l
    · rw [if_pos hk, if_pos (List.mem_cons_of_mem _ hk)]
    · rw [if_neg hk]
      by_cases e : s = k
      · subst e
        rw [atKey_put_same h (fk_ok s), if_pos List.mem_cons_self]
      · rw [atKey_put_other (fun h2 => e (fk_inj h2.symm)), if_neg (by simp [hk, Ne.symm e])]
theorem ndat_at (l : List ByteArray) (k : ByteArray) : (ndat l).atKey (fk k) (.lit (.bool false)) = .lit (.bool (decide (k ∈ l))) := by
  unfold ndat
  rw [nfold_at k _ l _ ⟨[], rfl⟩]
  by_cases h : k ∈ l
  · rw [if_pos h, decide_eq_true h]
  · rw [if_neg h, decide_eq_false h]; rfl
def NM (b : Nat) (l : List ByteArray) (w : World) : Prop := w.ownsMap Tryz.prog 9 (plainElem Tryz.prog 4) b l.length (ndat l)
theorem NM.start (w : World) : NM w.heap.size [] (w.alloc (.map #[] 0)) := World.ownsMap_made _ _ _ _
theorem NM.below {b : Nat} {l : List ByteArray} {w w' : World} (h : NM b l w) (hb : Below w.heap.size w w') : NM b l w' := by
  have hl := h.lt
  obtain ⟨es, clock, hk, rest⟩ := h
  exact ⟨es, clock, (hb.block b hl).trans hk, rest⟩
theorem NM.blk {b : Nat} {l : List ByteArray} {w : World} (h : NM b l w) : ∃ es clock, w.heap[b]? = some (.map es clock) := by
  obtain ⟨es, clock, hk, _⟩ := h
  exact ⟨es, clock, hk⟩
theorem plainElem_bool_inv {H : Type} {P : Program} {e : TypeId} (he : P.underlying e = some .bool) {v : Value} {z : DataW H × List MemPlace} (h : plainElem P e v = some z) : ∃ a, v = .bool a ∧ z = (.lit (.bool a), []) := by
  unfold plainElem at h
  rw [he] at h
  cases v <;> simp at h
  exact ⟨_, rfl, h.symm⟩
set_option maxRecDepth 100000 in
theorem NM.look {b : Nat} {l : List ByteArray} {w : World} (h : NM b l w) {s : ByteArray} (hs : s.size ≤ maxLen) :
    (Instr.lookup 262 (.map (some b)) (.string s) false).run Tryz.prog w = .ok (.bool (decide (s ∈ l))) w := by
  obtain ⟨v, ps, hrun, hv⟩ := h.lookup n_strLaw Tryz.underlying262 (boolZero w) (plainElem_bool Tryz.underlying4 false) (n_keyOf_fk hs)
  rw [hrun]
  rw [ndat_at] at hv
  obtain ⟨a, rfl, h2⟩ := plainElem_bool_inv Tryz.underlying4 hv
  injection h2 with h3 _
  injection h3 with h4
  injection h4 with h5
  rw [h5]
theorem NM.store {b : Nat} {l : List ByteArray} {w : World} {s : ByteArray} (h : NM b l w) (hl : l.length ≤ 3000000) (hs : s.size ≤ maxLen) :
    ∃ w', (Instr.mapUpdate 262 (.map (some b)) (.string s) (.bool true)).run Tryz.prog w = .ok () w' ∧ NM b (l ++ [s]) w' ∧ w.grownBy w' (some b) := by
  obtain ⟨w', r, h1, h2⟩ := h.update (val := .bool true) n_strLaw Tryz.underlying262 (by unfold maxLen; omega) (n_keyOf_fk hs) (plainElem_bool Tryz.underlying4 true)
  refine ⟨w', r, ?_, h2⟩
  unfold NM
  rw [ndat_snoc, List.length_append]
  exact h1
theorem own_map_far {w : World} {B size n b : Nat} {e : TypeId} {v : Value} {xs : List Value} (h : w.ownsRow B e size v n xs) (hb : ∃ es clock, w.heap[b]? = some (.map es clock)) : v.ownBlock ≠ some b := by
  obtain ⟨es, clock, hb⟩ := hb
  rcases h.2 with ⟨rfl, -⟩ | ⟨g, cap, cur, rfl, -, hg, -⟩
  · simp [Value.ownBlock]
  · intro he
    simp only [Value.ownBlock, Option.some.injEq] at he
    subst he
    rw [hg] at hb
    simp at hb
theorem own_map_kept {w w' : World} {B size n b : Nat} {e : TypeId} {v : Value} {xs : List Value} (h : w.ownsRow B e size v n xs) (hb : ∃ es clock, w.heap[b]? = some (.map es clock)) (hg : w.grownBy w' (some b)) : w'.ownsRow B e size v n xs :=
  h.kept hg (.inr (own_map_far h hb))
theorem att_map_kept {w w' : World} {B b : Nat} {a : Att} {cs : List Value} (h : OAtt B w a cs) (hb : ∃ es clock, w.heap[b]? = some (.map es clock)) (hg : w.grownBy w' (some b)) : OAtt B w' a cs := by
  obtain ⟨v, h, ho, k⟩ := h
  exact ⟨v, h, own_map_kept ho hb hg, k⟩
theorem dw_map_kept {w w' : World} {B b : Nat} {T : TypeId} {v : Value} {l : List Att} (h : DW OAtt w B T 4 v l) (hb : ∃ es clock, w.heap[b]? = some (.map es clock)) (hg : w.grownBy w' (some b)) : DW OAtt w' B T 4 v l := by
  obtain ⟨css, ha, hl, ho⟩ := h
  exact ⟨css, ha.mono fun _ _ hp => att_map_kept hp hb hg, hl, own_map_kept ho hb hg⟩
theorem n_makeMap (w : World) : (Instr.makeMap 262 none).run Tryz.prog w = .ok (.map (some w.heap.size)) (w.alloc (.map #[] 0)) := by kernel_rfl

/-! ### in plain words -/
theorem attrM_ok (b : ByteArray) : AOk (attrM b).1 := by
  have hz : AOk zA11 := ⟨Nat.zero_le _, Nat.zero_le _, by unfold I64; dsimp [zA11]; omega, fun n hn => by simp [zA11] at hn⟩
  by_cases h : attF5 b = 0
  · have hd : (lastF (fields b).1 1).data.size ≤ 1048576 := (lastF_ok (fields_ok (s := b)) 1).2
    by_cases h2 : (lastF (fields b).1 20).n = 2
    · rw [attF5_two h h2]
      refine ⟨?_, Nat.zero_le _, sg_in _, fun n hn => by simp at hn⟩
      show (lastF (fields b).1 1).data.size ≤ _
      omega
    · by_cases h7 : (lastF (fields b).1 20).n = 7
      · rw [attF5_seven h h7]
        refine ⟨?_, ?_, by unfold I64; dsimp only; omega, ?_⟩
        · show (lastF (fields b).1 1).data.size ≤ _
          omega
        · have := ints_le (ofNum (fields b).1 8) [] (by simp)
          dsimp only
          omega
        · exact ints_in (ofNum (fields b).1 8) [] (by simp)
      · rw [(attF5_other h2 h7).1]; exact hz
  · rw [attF5_no h]; exact hz
theorem attrsM_err {bs : List ByteArray} {k : Nat} {acc : List Att} (hk : k < bs.length) (h : (attrM bs[k]).2 ≠ 0) : attrsM (bs.drop k) acc = ([], (attrM bs[k]).2) := by
  rw [List.drop_eq_getElem_cons hk, attrsM, if_pos h]
theorem attrsM_next {bs : List ByteArray} {k : Nat} {acc : List Att} (hk : k < bs.length) (h : (attrM bs[k]).2 = 0) : attrsM (bs.drop k) acc = attrsM (bs.drop (k + 1)) (acc ++ [(attrM bs[k]).1]) := by
  rw [List.drop_eq_getElem_cons hk, attrsM, if_neg (by simp [h])]
def attrsT (bs : List ByteArray) : List Att × Nat :=
  if (attrsM bs []).2 ≠ 0 then ([], (attrsM bs []).2) else if once (attrsM bs []).1 = false then ([], 14) else ((attrsM bs []).1, 0)
theorem once_snoc (l : List Att) (a : Att) : (!once (l ++ [a])) = (!once l || decide (a.name ∈ l.map Att.name)) := by
  rw [Bool.eq_iff_iff]
  simp only [Bool.not_eq_true', Bool.or_eq_true, decide_eq_true_eq, ← Bool.not_eq_true, once_nodup, List.map_append, List.map_singleton, List.nodup_append]
  by_cases h : (l.map Att.name).Nodup
  · by_cases h2 : a.name ∈ l.map Att.name
    · simp only [h, h2, not_true, or_true, iff_true]
      exact fun h3 => h3.2.2 _ h2 _ List.mem_cons_self rfl
    · simp only [h, h2, not_true, or_false, iff_false, Classical.not_not, true_and]
      refine ⟨by simp, fun x hx y hy e => ?_⟩
      simp only [List.mem_singleton] at hy
      subst hy; subst e
      exact h2 hx
  · simp [h]
def AttsRes (r : List Att × Nat) (w : World) (e : Ending) (w' : World) : Prop :=
  ∃ v, e = .returned (.tuple #[v, .int .i64 (r.2 : Int)]) ∧ DW OAtt w' w.heap.size 108 4 v r.1 ∧ Below w.heap.size w w'
theorem dw_nil (w : World) (B : Nat) (T : TypeId) : DW OAtt w B T 4 (.slice none 0 0) [] := ⟨[], trivial, by simp, World.ownsRow_nil _ _ _ _⟩
theorem attsRes_no {r : List Att × Nat} {w w' : World} {c : Nat} (h : r = ([], c)) (hb : Below w.heap.size w w') : AttsRes r w (.returned (.tuple #[.slice none 0 0, .int .i64 (c : Int)])) w' := by
  subst h; exact ⟨_, rfl, dw_nil _ _ _, hb⟩
theorem infoMAttr : (Tryz.prog.info? 108).map (fun i => (i.zero, i.size, i.bytes)) = some (some (.agg #[.string ⟨#[]⟩, .bool false, .int .i64 0, .slice none 0 0]), 4, 56) := by kernel_rfl

set_option maxRecDepth 100000 in
set_option maxHeartbeats 4000000 in
theorem readAttrs_any (A : Option Addr) (c : Nat) (bs : List ByteArray) (w : World) (hl : bs.length ≤ 1048576) (hsz : ∀ b ∈ bs, b.size ≤ 1048576) (ha : SR w w.heap.size 1 A bs.length (p_tv bs)) :
    Calls Tryz.prog 116 #[.slice A bs.length c] w (AttsRes (attrsT bs) w) := by
  obtain ⟨i0, hi0, hz0, hz1, hz2⟩ := info_parts infoMAttr
  have hmm := fun W => n_makeMap W
  have HM0 := Lib.hid (NM.start w)
  have HB0 : Hid (Below w.heap.size w (w.alloc (.map #[] 0))) := Lib.hid ((Below.refl _ _).alloc (Nat.le_refl _) _)
  have HA := Lib.hid ha
  have HSZ := Lib.hid hsz
  have HT1 := Lib.hid (show ∀ C, (attrsM bs []).2 = C → C ≠ 0 → attrsT bs = ([], C) from fun C h hC => by unfold attrsT; rw [h, if_pos hC])
  have HT2 := Lib.hid (show (attrsM bs []).2 = 0 → once (attrsM bs []).1 = false → attrsT bs = ([], 14) from fun h h2 => by unfold attrsT; rw [if_neg (by simp [h]), if_pos h2])
  have HT3 := Lib.hid (show (attrsM bs []).2 = 0 → once (attrsM bs []).1 = true → attrsT bs = ((attrsM bs []).1, 0) from fun h h2 => by unfold attrsT; rw [if_neg (by simp [h]), if_neg (by simp [h2])])
  clear ha hsz
  generalize attrsT bs = R at *
  go_enter Tryz.func116, Tryz.ntmps116
  go_wp2_with fail
  clear hmm
  go_loopw [4, 6, 14] (fun V tw i wr => ∃ (k : Nat) (K : Int) (acc : List Att), i = .int .i64 K ∧ tw = .bool (!once acc) ∧ K = (k : Nat) ∧ k ≤ bs.length ∧ acc.length = k ∧ attrsM bs [] = attrsM (bs.drop k) acc ∧ NM w.heap.size (acc.map Att.name) wr ∧ DW OAtt wr w.heap.size 108 4 V acc ∧ Below w.heap.size w wr) (fun _ _ i _ => bs.length - (intOf i).toNat)
  case atStart => exact ⟨0, _, [], rfl, rfl, rfl, by omega, rfl, rfl, HM0.out, dw_nil _ _ _, HB0.out⟩
  case round =>
    obtain ⟨k, K, acc, rfl, rfl, rfl, hk, hacc, hat, hnm, hdw, hb⟩ := hrel
    have HN := Lib.hid hnm
    have HD := Lib.hid hdw
    have HB := Lib.hid hb
    have HQ := Lib.hid hat
    have HAC := Lib.hid hacc
    obtain ⟨VA, VC, rfl⟩ := hdw.form
    by_cases hlt : k < bs.length
    · obtain ⟨bb, oo, rfl, -, hx⟩ := n_txt_at (HA.out.below hb) hlt
      have hsk := HSZ.out bs[k] (List.getElem_mem hlt)
      have HE1 := Lib.hid (attrsM_err (acc := acc) hlt)
      have HE2 := Lib.hid (attrsM_next (acc := acc) hlt)
      have HR := Lib.hid (fun W => readAttr_any bs[k] W (by unfold maxLen; omega))
      have HOK := Lib.hid (attrM_ok bs[k])
      clear hnm hdw hat hacc hb
      generalize bs[k] = X at *
      generalize attrM X = F at *
      obtain ⟨a, C⟩ := F
      dsimp only at HE1 HE2 HR HOK
      go_wp2_with fail
      refine (HR.out _).mono ?_
      rintro e w1 ⟨v1, rfl, hown1, hb1⟩
      dsimp only at hown1
      obtain ⟨a1, c1, rfl, -, -⟩ := own_form hown1
      have hb2 := (Below.refl w1.heap.size w1).alloc (Nat.le_refl _) (.cells #[.string a.name, .bool a.one, .int .i64 a.int, .slice a1 a.ints.length c1] 108)
      have hbB := step_below hb1 hb2
      have HB1 := Lib.hid (HB.out.trans (hbB.mono HB.out.size))
      have HN1 := Lib.hid (HN.out.below hbB)
      have HD1 := Lib.hid (HD.out.keep eo_att hbB)
      have HX1 := Lib.hid (Bx.start w1 #[.string a.name, .bool a.one, .int .i64 a.int, .slice a1 a.ints.length c1] 108)
      have HO1 := Lib.hid (own_keep (own_base hown1 HB.out.size) hb2)
      have HZ1 := Lib.hid (show w.heap.size < w1.heap.size by have := HN.out.lt; have := hb1.size; omega)
      clear hb1 hown1 hb2 hbB HR HN HD HB
      by_cases hC : C ≠ 0
      · have hcb : ((C : Int) != 0) = true := by simpa using hC
        have HE := Lib.hid (HT1.out C (by rw [HQ.out, HE1.out hC]) hC)
        clear hC
        go_wp2_with fail
        go_ret2
        exact attsRes_no HE.out HB1.out
      · obtain rfl : C = 0 := by omega
        have HS := Lib.hid (HQ.out.trans (HE2.out rfl))
        have HON := Lib.hid (once_snoc acc a)
        have hna : a.name.size ≤ maxLen := by have := HOK.out.name; unfold maxLen; omega
        have HLK := Lib.hid (HN1.out.look hna)
        generalize decide (a.name ∈ acc.map Att.name) = met at HLK HON
        obtain ⟨x0, x1, x2, x3⟩ := HX1.out.four
        obtain ⟨w3, hst, hnm3, hg3⟩ := HN1.out.store (s := a.name) (by rw [List.length_map, HAC.out]; omega) hna
        have HN3 := Lib.hid (show NM w.heap.size ((acc ++ [a]).map Att.name) w3 by rw [List.map_append]; exact hnm3)
        have HD3 := Lib.hid (dw_map_kept HD1.out HN1.out.blk hg3)
        have HO3 := Lib.hid (own_map_kept HO1.out HN1.out.blk hg3)
        have HB3 := Lib.hid (HB1.out.grown hg3 HB1.out.size (fun q hq => by cases hq; exact Nat.le_refl _))
        have hblk3 := blk_grown HX1.out.1 hg3 (by intro e; injection e with e; have := HZ1.out; omega)
        obtain ⟨y0, y1, y2, y3⟩ := cells_of4 hblk3
        clear hC hnm3 hg3 hblk3 HE1 HE2
        have hlk := HLK.out
        obtain ⟨css, hal, hcl, hownl⟩ := HD3.out
        have HAL := Lib.hid hal
        have HCL := Lib.hid hcl
        have HOW := Lib.hid hownl
        clear hal hcl hownl HD3 HD1
        cases htw : once acc
        · rw [htw] at HON
          simp only [Bool.not_false]
          go_wp2_with (at_builtin; refine wpList_append_own _ rfl _ _ 100 rfl w.heap.size 108 i0 _ 4 56 Tryz.underlying100 hi0 hz0 hz1 hz2 rfl (by decide) _ _ _ rfl (HOW.out.alloc _) ⟨w3.heap.size, 0, none⟩ 1 1 [.string a.name, .bool a.one, .int .i64 a.int, .slice a1 a.ints.length c1] rfl rfl (cells_new _ _ _) ?c2 ?c3 ?c4 ?c5 ?_)
          case c2 => intro u hu; simp at hu; rcases hu with rfl | rfl | rfl | rfl <;> rfl
          case c3 => have := HAC.out; unfold maxLen; omega
          case c4 => have := HAC.out; omega
          case c5 => have := HB3.out.size; simp; omega
          intro v' w5 hown' hgrow _
          rw [← flatten_snoc] at hown'
          have hbA := (Below.refl w3.heap.size w3).alloc (Nat.le_refl _) (.cells #[.string a.name, .bool a.one, .int .i64 a.int, .slice a1 a.ints.length c1] 108)
          have hzA := HB3.out.size
          have HB5 := Lib.hid ((HB3.out.trans (hbA.mono HB3.out.size)).grown hgrow (by simp; omega) (fun q hq => (HOW.out.lt q hq).1))
          have hfar : ∀ {q : Nat}, (Value.slice VA acc.length VC).ownBlock = some q → w.heap.size ≤ q := fun {q} hq => (HOW.out.lt q hq).1
          have hke : ∀ {b : Att} {cs : List Value}, OAtt w.heap.size w3 b cs → OAtt w.heap.size w5 b cs := fun {b cs} ⟨u, hu, ho, hk⟩ => ⟨u, hu, own_grown_far (own_keep ho hbA) (HOW.out.alloc _) (by decide) hgrow, hk⟩
          have HW5 := Lib.hid (show DW OAtt w5 w.heap.size 108 4 v' (acc ++ [a]) from ⟨css ++ [[.string a.name, .bool a.one, .int .i64 a.int, .slice a1 a.ints.length c1]], (HAL.out.mono fun _ _ hp => hke hp).snoc (hke ⟨_, rfl, HO3.out, HOK.out⟩), fun x hx => by
            rcases List.mem_append.1 hx with h1 | h1
            · exact HCL.out x h1
            · simp at h1; rw [h1]; rfl, by rw [List.length_append]; exact hown'⟩)
          have hnmb := HN3.out.blk
          have hne : (Value.slice VA acc.length VC).ownBlock ≠ some w.heap.size := own_map_far HOW.out hnmb
          have HN5 := Lib.hid (show NM w.heap.size ((acc ++ [a]).map Att.name) w5 from by
            have h1 := HN3.out.below hbA
            obtain ⟨es, clock, hkk, rest⟩ := h1
            exact ⟨es, clock, (hgrow.block _ (blk_lt hkk) (fun e => hne e.symm)).trans hkk, rest⟩)
          clear hown' hgrow hke hbA hnmb hne hzA hfar
          go_wp2_with fail
          go_roundw
          case rel => exact ⟨k + 1, _, acc ++ [a], rfl, by rw [HON.out]; rfl, by omega, by omega, by rw [List.length_append, HAC.out]; rfl, HS.out, HN5.out, HW5.out, HB5.out⟩
          case measure => simp [intOf]; omega
        · rw [htw] at HON
          simp only [Bool.not_true]
          go_wp2_with (at_builtin; refine wpList_append_own _ rfl _ _ 100 rfl w.heap.size 108 i0 _ 4 56 Tryz.underlying100 hi0 hz0 hz1 hz2 rfl (by decide) _ _ _ rfl (HOW.out.alloc _) ⟨w3.heap.size, 0, none⟩ 1 1 [.string a.name, .bool a.one, .int .i64 a.int, .slice a1 a.ints.length c1] rfl rfl (cells_new _ _ _) ?c2 ?c3 ?c4 ?c5 ?_)
          case c2 => intro u hu; simp at hu; rcases hu with rfl | rfl | rfl | rfl <;> rfl
          case c3 => have := HAC.out; unfold maxLen; omega
          case c4 => have := HAC.out; omega
          case c5 => have := HB3.out.size; simp; omega
          intro v' w5 hown' hgrow _
          rw [← flatten_snoc] at hown'
          have hbA := (Below.refl w3.heap.size w3).alloc (Nat.le_refl _) (.cells #[.string a.name, .bool a.one, .int .i64 a.int, .slice a1 a.ints.length c1] 108)
          have hzA := HB3.out.size
          have HB5 := Lib.hid ((HB3.out.trans (hbA.mono HB3.out.size)).grown hgrow (by simp; omega) (fun q hq => (HOW.out.lt q hq).1))
          have hfar : ∀ {q : Nat}, (Value.slice VA acc.length VC).ownBlock = some q → w.heap.size ≤ q := fun {q} hq => (HOW.out.lt q hq).1
          have hke : ∀ {b : Att} {cs : List Value}, OAtt w.heap.size w3 b cs → OAtt w.heap.size w5 b cs := fun {b cs} ⟨u, hu, ho, hk⟩ => ⟨u, hu, own_grown_far (own_keep ho hbA) (HOW.out.alloc _) (by decide) hgrow, hk⟩
          have HW5 := Lib.hid (show DW OAtt w5 w.heap.size 108 4 v' (acc ++ [a]) from ⟨css ++ [[.string a.name, .bool a.one, .int .i64 a.int, .slice a1 a.ints.length c1]], (HAL.out.mono fun _ _ hp => hke hp).snoc (hke ⟨_, rfl, HO3.out, HOK.out⟩), fun x hx => by
            rcases List.mem_append.1 hx with h1 | h1
            · exact HCL.out x h1
            · simp at h1; rw [h1]; rfl, by rw [List.length_append]; exact hown'⟩)
          have hnmb := HN3.out.blk
          have hne : (Value.slice VA acc.length VC).ownBlock ≠ some w.heap.size := own_map_far HOW.out hnmb
          have HN5 := Lib.hid (show NM w.heap.size ((acc ++ [a]).map Att.name) w5 from by
            have h1 := HN3.out.below hbA
            obtain ⟨es, clock, hkk, rest⟩ := h1
            exact ⟨es, clock, (hgrow.block _ (blk_lt hkk) (fun e => hne e.symm)).trans hkk, rest⟩)
          clear hown' hgrow hke hbA hnmb hne hzA hfar
          go_wp2_with fail
          go_roundw
          case rel => exact ⟨k + 1, _, acc ++ [a], rfl, by rw [HON.out]; rfl, by omega, by omega, by rw [List.length_append, HAC.out]; rfl, HS.out, HN5.out, HW5.out, HB5.out⟩
          case measure => simp [intOf]; omega
    · obtain rfl : k = bs.length := by omega
      rw [List.drop_length] at HQ
      have HE : Hid (attrsM bs [] = (acc, 0)) := Lib.hid HQ.out
      clear hnm hdw hat hacc hb
      cases htw : once acc
      · have HF := Lib.hid (HT2.out (by rw [HE.out]) (by rw [HE.out]; exact htw))
        simp only [Bool.not_false]
        go_wp2_with fail
        go_ret2
        exact attsRes_no HF.out HB.out
      · have HF := Lib.hid (HT3.out (by rw [HE.out]) (by rw [HE.out]; exact htw))
        simp only [Bool.not_true]
        go_wp2_with fail
        go_ret2
        rw [HF.out, HE.out]
        exact ⟨_, rfl, HD.out, HB.out⟩
end Go.Proofs.YtjjfdlgoacockaaGreat
namespace Go.Proofs.YtjjfdlgoacockaaGreat
open Go.RowKit M1 M2 M3 M8 M9 M10 M11 Go.Sort
open M7 (nm)

theorem txts_code : ∀ (l : List WFd) (acc : List ByteArray), (txts l acc).2 = 0 ∨ (txts l acc).2 = 3
  | [], acc => .inl rfl
  | f :: l, acc => by
    rw [txts]
    split
    · exact .inr rfl
    · exact txts_code l _
def nodF5 (b : ByteArray) : Nat :=
  orC (orC (orC (orC (orC (orC (orC (fields b).2 (txts (ofNum (fields b).1 1) []).2) (txts (ofNum (fields b).1 2) []).2) (txts (ofNum (fields b).1 5) []).2) (nt (okF (fields b).1 4 2) 3)) (nt (okF (fields b).1 7 2) 3))
    (nt (decide ((txts (ofNum (fields b).1 2) []).1.length = 1) && decide ((txts (ofNum (fields b).1 1) []).1.length ≤ 64)) 11)) (nt (decide ((lastF (fields b).1 7).data = ⟨#[]⟩)) 10)
theorem nodF5_no {b : ByteArray} (h : nodF5 b ≠ 0) : nodeM b = (zN11, nodF5 b) := by
  unfold nodF5 at *
  unfold nodeM nodeL txtsOk
  generalize fields b = FF at *
  obtain ⟨L, C⟩ := FF
  dsimp only at *
  by_cases hC : C ≠ 0
  · rw [if_pos hC, orC_no _ hC, orC_no _ hC, orC_no _ hC, orC_no _ hC, orC_no _ hC, orC_no _ hC, orC_no _ hC]
  obtain rfl : C = 0 := by omega
  rw [if_neg (by simp)]
  simp only [orC_yes] at *
  rcases txts_code (ofNum L 1) [] with h1 | h1
  case inr => rw [h1]; rfl
  rcases txts_code (ofNum L 2) [] with h2 | h2
  case inr => rw [h1, h2]; rfl
  rcases txts_code (ofNum L 5) [] with h5 | h5
  case inr => rw [h1, h2, h5]; rfl
  rw [h1, h2, h5] at h ⊢
  cases h4 : okF L 4 2
  · rfl
  cases h7 : okF L 7 2
  · rfl
  rw [h4, h7] at h
  rw [if_neg (by simp)]
  simp only [nt, if_true, orC_zero, orC_yes] at h ⊢
  by_cases hO : (txts (ofNum L 2) []).1.length = 1
  case neg => rw [if_pos (.inl hO), decide_eq_false hO]; rfl
  by_cases hI : (txts (ofNum L 1) []).1.length ≤ 64
  case neg => rw [if_pos (.inr (by omega)), decide_eq_true hO, decide_eq_false hI]; rfl
  rw [if_neg (by omega)]
  by_cases hE : (lastF L 7).data = ⟨#[]⟩
  · rw [decide_eq_true hO, decide_eq_true hI, decide_eq_true hE] at h
    exact absurd rfl h
  · rw [if_pos hE, decide_eq_true hO, decide_eq_true hI, decide_eq_false hE]; rfl
theorem nodF5_yes {b : ByteArray} (h : nodF5 b = 0) : (txts (ofNum (fields b).1 2) []).1.length = 1 ∧ (txts (ofNum (fields b).1 1) []).1.length ≤ 64 ∧
    nodeM b = if (attrsT (txts (ofNum (fields b).1 5) []).1).2 ≠ 0 then (zN11, (attrsT (txts (ofNum (fields b).1 5) []).1).2)
      else (⟨(lastF (fields b).1 4).data, (txts (ofNum (fields b).1 1) []).1, (txts (ofNum (fields b).1 2) []).1.headD ⟨#[]⟩, (attrsT (txts (ofNum (fields b).1 5) []).1).1⟩, 0) := by
  unfold nodF5 at h
  simp only [orC_iff, nt_iff (show (3 : Nat) ≠ 0 by decide), nt_iff (show (11 : Nat) ≠ 0 by decide), nt_iff (show (10 : Nat) ≠ 0 by decide), Bool.and_eq_true, decide_eq_true_eq] at h
  obtain ⟨⟨⟨⟨⟨⟨⟨q0, q1⟩, q2⟩, q3⟩, q4⟩, q5⟩, q6, q7⟩, q8⟩ := h
  refine ⟨q6, q7, ?_⟩
  unfold nodeM nodeL txtsOk
  rw [if_neg (by simp [q0]), q1, q2, q3, q4, q5, if_neg (by simp), if_neg (by omega), if_neg (by simp [q8])]
  unfold attrsT
  by_cases ha : (attrsM (txts (ofNum (fields b).1 5) []).1 []).2 ≠ 0
  · rw [if_pos ha, if_pos ha, if_pos (by exact ha)]
  · rw [if_neg ha, if_neg ha]
    by_cases ho : once (attrsM (txts (ofNum (fields b).1 5) []).1 []).1 = false
    · rw [if_pos ho, if_pos ho, if_pos (by decide)]
    · rw [if_neg ho, if_neg ho, if_neg (by simp)]
theorem empty_is (b : ByteArray) : decide (b = ⟨#[]⟩) = b.toList.isEmpty := by
  rw [Bool.eq_iff_iff, decide_eq_true_eq, List.isEmpty_iff]
  constructor
  · rintro rfl; rw [ByteArray.toList_eq]
  · intro h; exact text_ext (by rw [h, ByteArray.toList_eq])
theorem attrsM_le : ∀ (bs : List ByteArray) (acc : List Att), (attrsM bs acc).1.length ≤ acc.length + bs.length
  | [], acc => by simp [attrsM]
  | b :: bs, acc => by
    rw [attrsM]
    split
    · simp
    · have := attrsM_le bs (acc ++ [(attrM b).1])
      rw [List.length_append] at this
      simp only [List.length_cons, List.length_nil] at this ⊢
      omega
theorem attrsT_le (bs : List ByteArray) : (attrsT bs).1.length ≤ bs.length := by
  have h := attrsM_le bs []
  unfold attrsT
  split
  · simp
  split
  · simp
  · simpa using h
theorem dw_set4 {w : World} {B b : Nat} {T T2 : TypeId} {v : Value} {l : List Att} {c0 c1 c2 c3 : Value} (h : DW OAtt w B T 4 v l) (hb : w.heap[b]? = some (.cells #[c0, c1, c2, c3] T2 (0, 0))) (hi : T2 ≠ 2) (hT : T2 ≠ T) (v0 v1 v2 v3 : Value) :
    DW OAtt ((((w.setCell ⟨b, 0, none⟩ v0).setCell ⟨b, 1, none⟩ v1).setCell ⟨b, 2, none⟩ v2).setCell ⟨b, 3, none⟩ v3) B T 4 v l := by
  have g1 := heap_setCell_same w b 0 _ T2 v0 hb
  have g2 := heap_setCell_same _ b 1 _ T2 v1 g1
  have g3 := heap_setCell_same _ b 2 _ T2 v2 g2
  exact (((h.set eo_att hb hi hT).set eo_att g1 hi hT).set eo_att g2 hi hT).set eo_att g3 hi hT
def NodRes (r : Nod × Nat) (w : World) (e : Ending) (w' : World) : Prop :=
  ∃ cs, e = .returned (.tuple #[.agg cs.toArray, .int .i64 (r.2 : Int)]) ∧ ONod w.heap.size w' r.1 cs ∧ Below w.heap.size w w'
theorem nod_zero (w : World) (B : Nat) : ONod B w zN11 [.string ⟨#[]⟩, .slice none 0 0, .string ⟨#[]⟩, .slice none 0 0] :=
  ⟨_, _, rfl, own_nothing _ _ _ _, dw_nil _ _ _, ⟨Nat.zero_le _, Nat.zero_le _, by simp [zN11], by simp [zN11], by simp [zN11]⟩⟩
theorem nodRes_no {r : Nod × Nat} {w w' : World} {c : Nat} (h : r = (zN11, c)) (hb : Below w.heap.size w w') : NodRes r w (.returned (.tuple #[.agg #[.string ⟨#[]⟩, .slice none 0 0, .string ⟨#[]⟩, .slice none 0 0], .int .i64 (c : Int)])) w' := by
  subst h; exact ⟨_, rfl, nod_zero _ _, hb⟩

set_option maxRecDepth 100000 in
set_option maxHeartbeats 4000000 in
theorem readNode_any (b : ByteArray) (w : World) (hbs : b.size ≤ maxLen) : Calls Tryz.prog 70 #[.string b] w (NodRes (nodeM b) w) := by
  have HX0 := Lib.hid (Bx.start w #[.string ⟨#[]⟩, .slice none 0 0, .string ⟨#[]⟩, .slice none 0 0] 102)
  have HO := Lib.hid (open_any b (w.alloc (.cells #[.string ⟨#[]⟩, .slice none 0 0, .string ⟨#[]⟩, .slice none 0 0] 102)) hbs)
  have HFL := Lib.hid (fields_len b)
  have HFO := Lib.hid (fields_ok (s := b))
  have HNO := Lib.hid (nodF5_no (b := b))
  have HYES := Lib.hid (nodF5_yes (b := b))
  have HM1 := Lib.hid (txts_mem (ofNum (fields b).1 1) [] (fun f hf => (fields_ok f (List.mem_filter.1 hf).1).2) (by simp))
  have HM2' := Lib.hid (txts_mem (ofNum (fields b).1 2) [] (fun f hf => (fields_ok f (List.mem_filter.1 hf).1).2) (by simp))
  have HM5' := Lib.hid (txts_mem (ofNum (fields b).1 5) [] (fun f hf => (fields_ok f (List.mem_filter.1 hf).1).2) (by simp))
  have hle := txts_le (ofNum (fields b).1 5) []
  have hofl : (ofNum (fields b).1 5).length ≤ (fields b).1.length := List.length_filter_le _ _
  have HF5 := Lib.hid (show nodF5 b = orC (orC (orC (orC (orC (orC (orC (fields b).2 (txts (ofNum (fields b).1 1) []).2) (txts (ofNum (fields b).1 2) []).2) (txts (ofNum (fields b).1 5) []).2) (nt (okF (fields b).1 4 2) 3)) (nt (okF (fields b).1 7 2) 3))
    (nt (decide ((txts (ofNum (fields b).1 2) []).1.length = 1) && decide ((txts (ofNum (fields b).1 1) []).1.length ≤ 64)) 11)) (nt (decide ((lastF (fields b).1 7).data = ⟨#[]⟩)) 10) from rfl)
  rw [empty_is] at HF5
  generalize nodF5 b = F5 at *
  generalize nodeM b = R at *
  generalize fields b = FF at *
  obtain ⟨L, C⟩ := FF
  dsimp only at *
  simp only [List.length_nil, Nat.zero_add] at hle
  go_enter Tryz.func70, Tryz.ntmps70
  go_wp2_with fail
  refine HO.out.mono ?_
  rintro e w1 ⟨a1, c1, rfl, hown, hb1⟩
  have hb2 := (Below.refl w1.heap.size w1).alloc (Nat.le_refl _) (.cells #[.slice a1 L.length c1, .int .i64 (C : Int)] 209)
  have HX2 := Lib.hid ((HX0.out.below hb1).below hb2)
  have HM2 : Hid (Ms w1.heap.size (w.alloc (.cells #[.string ⟨#[]⟩, .slice none 0 0, .string ⟨#[]⟩, .slice none 0 0] 102)).heap.size a1 c1 L C (w1.alloc (.cells #[.slice a1 L.length c1, .int .i64 (C : Int)] 209))) := Lib.hid ⟨n_Msg.start w1 _ _, own_keep hown hb2⟩
  have HG := Lib.hid (show w.heap.size < w1.heap.size from by have := hb1.size; have h2 : (w.alloc (.cells #[.string ⟨#[]⟩, .slice none 0 0, .string ⟨#[]⟩, .slice none 0 0] 102)).heap.size = w.heap.size + 1 := by simp
                                                              omega)
  have hl : L.length ≤ 1048576 := HFL.out
  have HB : Hid (w.heap.size ≤ (w1.alloc (.cells #[.slice a1 L.length c1, .int .i64 (C : Int)] 209)).heap.size) := Lib.hid HX2.out.all.size
  clear hb1 hb2 hown HO HX0
  generalize (w.alloc (.cells #[.string ⟨#[]⟩, .slice none 0 0, .string ⟨#[]⟩, .slice none 0 0] 102)).heap.size = B at *
  have T3 := Lib.hid (textsOf_any w1.heap.size B a1 c1 L 1 _ _ HM2.out hl)
  go_wp2_with fail
  refine T3.out.mono ?_
  rintro e w3 ⟨U1, K1, rfl, hown, hm, hs⟩
  have HM3 := Lib.hid (HM2.out.step hm hs)
  have HO1 := Lib.hid (own_base hown HB.out)
  have HS3 := Lib.hid (hs)
  clear hown hm hs T3
  have T4 := Lib.hid (textsOf_any w1.heap.size B a1 c1 L 2 _ _ HM3.out hl)
  go_wp2_with fail
  refine T4.out.mono ?_
  rintro e w4 ⟨U2, K2, rfl, hown, hm, hs⟩
  have HM4 := Lib.hid (HM3.out.step hm hs)
  have HO2 := Lib.hid (own_base hown (Nat.le_trans HB.out HS3.out.size))
  have HO1 := Lib.hid (own_stp HO1.out HM3.out.msg (by decide) hs)
  have HS4 := Lib.hid (HS3.out.trans hs)
  clear hown hm hs T4 HM3 HS3
  have T5 := Lib.hid (textsOf_any w1.heap.size B a1 c1 L 5 _ _ HM4.out hl)
  go_wp2_with fail
  refine T5.out.mono ?_
  rintro e w5 ⟨U5, K5, rfl, hown, hm, hs⟩
  have HM5 := Lib.hid (HM4.out.step hm hs)
  have HO5 := Lib.hid (own_base hown (Nat.le_trans HB.out HS4.out.size))
  have HO1 := Lib.hid (own_stp HO1.out HM4.out.msg (by decide) hs)
  have HO2 := Lib.hid (own_stp HO2.out HM4.out.msg (by decide) hs)
  have HS5 := Lib.hid (HS4.out.trans hs)
  clear hown hm hs T5 HM4 HS4
  have T6 := Lib.hid (textOf_any w1.heap.size B a1 c1 L 4 _ _ HM5.out hl)
  go_wp2_with fail
  refine T6.out.mono ?_
  rintro e w6 ⟨rfl, hm, hs⟩
  have HM6 := Lib.hid (HM5.out.step hm hs)
  have HO1 := Lib.hid (own_stp HO1.out HM5.out.msg (by decide) hs)
  have HO2 := Lib.hid (own_stp HO2.out HM5.out.msg (by decide) hs)
  have HO5 := Lib.hid (own_stp HO5.out HM5.out.msg (by decide) hs)
  have HS6 := Lib.hid (HS5.out.trans hs)
  clear hm hs T6 HM5 HS5
  have T7 := Lib.hid (textOf_any w1.heap.size B a1 c1 L 7 _ _ HM6.out hl)
  go_wp2_with fail
  refine T7.out.mono ?_
  rintro e w7 ⟨rfl, hm, hs⟩
  have HM7 := Lib.hid (HM6.out.step hm hs)
  have HO1 := Lib.hid (own_stp HO1.out HM6.out.msg (by decide) hs)
  have HO2 := Lib.hid (own_stp HO2.out HM6.out.msg (by decide) hs)
  have HO5 := Lib.hid (own_stp HO5.out HM6.out.msg (by decide) hs)
  have HS7 := Lib.hid (HS6.out.trans hs)
  clear hm hs T7 HM6 HS6
  generalize txts (ofNum L 1) [] = TI at *
  generalize txts (ofNum L 2) [] = TO at *
  generalize txts (ofNum L 5) [] = TA at *
  obtain ⟨LI, CI⟩ := TI
  obtain ⟨LO, CO⟩ := TO
  obtain ⟨LA, CA⟩ := TA
  dsimp only at *
  have HD4 := Lib.hid (lastF_ok HFO.out 4).2
  have HLA := Lib.hid (show LA.length ≤ 1048576 by omega)
  generalize lastF L 4 = f4 at *
  generalize lastF L 7 = f7 at *
  clear hle hofl HM2 HFO HFL
  by_cases hO : LO.length = 1
  case neg =>
    have hOb : ((LO.length : Int) == 1) = false := by rw [beq_eq_false_iff_ne]; omega
    rw [decide_eq_false hO, Bool.false_and] at HF5
    clear hO
    have T8 := Lib.hid (must_any w1.heap.size _ _ false 11 _ HM7.out.msg)
    go_wp2_with fail
    refine T8.out.mono ?_
    rintro e w8 ⟨rfl, hm, hs⟩
    have HM8 := Lib.hid (HM7.out.step hm hs)
    have HO1 := Lib.hid (own_stp HO1.out HM7.out.msg (by decide) hs)
    have HO2 := Lib.hid (own_stp HO2.out HM7.out.msg (by decide) hs)
    have HO5 := Lib.hid (own_stp HO5.out HM7.out.msg (by decide) hs)
    have HS8 := Lib.hid (HS7.out.trans hs)
    clear hm hs T8 HM7 HS7
    have T9 := Lib.hid (must_any w1.heap.size _ _ f7.data.toList.isEmpty 10 _ HM8.out.msg)
    rw [← HF5.out] at T9
    go_wp2_with fail
    refine T9.out.mono ?_
    rintro e w9 ⟨rfl, hm, hs⟩
    have HM9 := Lib.hid (HM8.out.step hm hs)
    have HO1 := Lib.hid (own_stp HO1.out HM8.out.msg (by decide) hs)
    have HO2 := Lib.hid (own_stp HO2.out HM8.out.msg (by decide) hs)
    have HO5 := Lib.hid (own_stp HO5.out HM8.out.msg (by decide) hs)
    have HS9 := Lib.hid (HS8.out.trans hs)
    clear hm hs T9 HM8 HS8
    have hF : F5 ≠ 0 := by intro h; have h1 := HF5.out; rw [h] at h1; have h2 := orC_iff.1 (orC_iff.1 h1.symm).1; exact absurd h2.2 (by decide)
    have hfb : ((F5 : Int) != 0) = true := by simpa using hF
    have HE := Lib.hid (HNO.out hF)
    have HX9 := Lib.hid (HX2.out.grown HS9.out (by intro e; injection e with e; have := HG.out; omega) (fun q hq => by cases hq; exact Nat.le_of_lt HG.out))
    obtain ⟨wE, hE, hxE⟩ := n_name (P := fun W => Bx w w.heap.size #[.string ⟨#[]⟩, .slice none 0 0, .string ⟨#[]⟩, .slice none 0 0] 102 W ∧ n_Msg w1.heap.size (.slice a1 L.length c1) F5 W) ⟨HX9.out.four_put (Nat.le_refl _) (.string ⟨#[]⟩) (.slice none 0 0) (.string ⟨#[]⟩) (.slice none 0 0), msg_far4 HM9.out.msg (by have := HG.out; omega) _ _ _ _⟩
    have HXE := Lib.hid hxE
    obtain ⟨z0, z1, z2, z3⟩ := HX9.out.four
    have zf := fun i => HX9.out.free i
    have m1 := HM9.out.msg.c1
    have m2 := HXE.out.2.c1
    clear hxE hF
    go_wp2_with fail
    go_region
    all_goals
      go_wp2_with fail
      obtain ⟨e0, e1, e2, e3⟩ := HXE.out.1.four
      exact bodyPost_ret (v := .tuple #[.agg #[.string ⟨#[]⟩, .slice none 0 0, .string ⟨#[]⟩, .slice none 0 0], .int .i64 (F5 : Int)]) (by simp [results, Tryz.results70, go_sem, e0, e1, e2, e3]) rfl (nodRes_no HE.out HXE.out.1.all.drew)
  have hOb : ((LO.length : Int) == 1) = true := by rw [hO]; rfl
  by_cases hI : LI.length ≤ 64
  case neg =>
    have hIb : ¬ ((LI.length : Int) ≤ 64) := by omega
    have hIb2 : decide ((LI.length : Int) ≤ 64) = false := decide_eq_false hIb
    rw [decide_eq_true hO, decide_eq_false hI, Bool.true_and] at HF5
    clear hO hI
    have T8 := Lib.hid (must_any w1.heap.size _ _ false 11 _ HM7.out.msg)
    go_wp2_with fail
    refine T8.out.mono ?_
    rintro e w8 ⟨rfl, hm, hs⟩
    have HM8 := Lib.hid (HM7.out.step hm hs)
    have HO1 := Lib.hid (own_stp HO1.out HM7.out.msg (by decide) hs)
    have HO2 := Lib.hid (own_stp HO2.out HM7.out.msg (by decide) hs)
    have HO5 := Lib.hid (own_stp HO5.out HM7.out.msg (by decide) hs)
    have HS8 := Lib.hid (HS7.out.trans hs)
    clear hm hs T8 HM7 HS7
    have T9 := Lib.hid (must_any w1.heap.size _ _ f7.data.toList.isEmpty 10 _ HM8.out.msg)
    rw [← HF5.out] at T9
    go_wp2_with fail
    refine T9.out.mono ?_
    rintro e w9 ⟨rfl, hm, hs⟩
    have HM9 := Lib.hid (HM8.out.step hm hs)
    have HO1 := Lib.hid (own_stp HO1.out HM8.out.msg (by decide) hs)
    have HO2 := Lib.hid (own_stp HO2.out HM8.out.msg (by decide) hs)
    have HO5 := Lib.hid (own_stp HO5.out HM8.out.msg (by decide) hs)
    have HS9 := Lib.hid (HS8.out.trans hs)
    clear hm hs T9 HM8 HS8
    have hF : F5 ≠ 0 := by intro h; have h1 := HF5.out; rw [h] at h1; have h2 := orC_iff.1 (orC_iff.1 h1.symm).1; exact absurd h2.2 (by decide)
    have hfb : ((F5 : Int) != 0) = true := by simpa using hF
    have HE := Lib.hid (HNO.out hF)
    have HX9 := Lib.hid (HX2.out.grown HS9.out (by intro e; injection e with e; have := HG.out; omega) (fun q hq => by cases hq; exact Nat.le_of_lt HG.out))
    obtain ⟨wE, hE, hxE⟩ := n_name (P := fun W => Bx w w.heap.size #[.string ⟨#[]⟩, .slice none 0 0, .string ⟨#[]⟩, .slice none 0 0] 102 W ∧ n_Msg w1.heap.size (.slice a1 L.length c1) F5 W) ⟨HX9.out.four_put (Nat.le_refl _) (.string ⟨#[]⟩) (.slice none 0 0) (.string ⟨#[]⟩) (.slice none 0 0), msg_far4 HM9.out.msg (by have := HG.out; omega) _ _ _ _⟩
    have HXE := Lib.hid hxE
    obtain ⟨z0, z1, z2, z3⟩ := HX9.out.four
    have zf := fun i => HX9.out.free i
    have m1 := HM9.out.msg.c1
    have m2 := HXE.out.2.c1
    clear hxE hF
    go_wp2_with fail
    go_region
    all_goals
      go_wp2_with fail
      obtain ⟨e0, e1, e2, e3⟩ := HXE.out.1.four
      exact bodyPost_ret (v := .tuple #[.agg #[.string ⟨#[]⟩, .slice none 0 0, .string ⟨#[]⟩, .slice none 0 0], .int .i64 (F5 : Int)]) (by simp [results, Tryz.results70, go_sem, e0, e1, e2, e3]) rfl (nodRes_no HE.out HXE.out.1.all.drew)
  have hIb : decide ((LI.length : Int) ≤ 64) = true := decide_eq_true (by omega)
  rw [decide_eq_true hO, decide_eq_true hI, Bool.true_and] at HF5
  have HOL := Lib.hid hO
  have HIL := Lib.hid hI
  clear hO hI
  have T8 := Lib.hid (must_any w1.heap.size _ _ true 11 _ HM7.out.msg)
  go_wp2_with fail
  refine T8.out.mono ?_
  rintro e w8 ⟨rfl, hm, hs⟩
  have HM8 := Lib.hid (HM7.out.step hm hs)
  have HO1 := Lib.hid (own_stp HO1.out HM7.out.msg (by decide) hs)
  have HO2 := Lib.hid (own_stp HO2.out HM7.out.msg (by decide) hs)
  have HO5 := Lib.hid (own_stp HO5.out HM7.out.msg (by decide) hs)
  have HS8 := Lib.hid (HS7.out.trans hs)
  clear hm hs T8 HM7 HS7
  have T9 := Lib.hid (must_any w1.heap.size _ _ f7.data.toList.isEmpty 10 _ HM8.out.msg)
  rw [← HF5.out] at T9
  go_wp2_with fail
  refine T9.out.mono ?_
  rintro e w9 ⟨rfl, hm, hs⟩
  have HM9 := Lib.hid (HM8.out.step hm hs)
  have HO1 := Lib.hid (own_stp HO1.out HM8.out.msg (by decide) hs)
  have HO2 := Lib.hid (own_stp HO2.out HM8.out.msg (by decide) hs)
  have HO5 := Lib.hid (own_stp HO5.out HM8.out.msg (by decide) hs)
  have HS9 := Lib.hid (HS8.out.trans hs)
  clear hm hs T9 HM8 HS8
  by_cases hF : F5 ≠ 0
  · have hfb : ((F5 : Int) != 0) = true := by simpa using hF
    have HE := Lib.hid (HNO.out hF)
    have HX9 := Lib.hid (HX2.out.grown HS9.out (by intro e; injection e with e; have := HG.out; omega) (fun q hq => by cases hq; exact Nat.le_of_lt HG.out))
    obtain ⟨wE, hE, hxE⟩ := n_name (P := fun W => Bx w w.heap.size #[.string ⟨#[]⟩, .slice none 0 0, .string ⟨#[]⟩, .slice none 0 0] 102 W ∧ n_Msg w1.heap.size (.slice a1 L.length c1) F5 W) ⟨HX9.out.four_put (Nat.le_refl _) (.string ⟨#[]⟩) (.slice none 0 0) (.string ⟨#[]⟩) (.slice none 0 0), msg_far4 HM9.out.msg (by have := HG.out; omega) _ _ _ _⟩
    have HXE := Lib.hid hxE
    obtain ⟨z0, z1, z2, z3⟩ := HX9.out.four
    have zf := fun i => HX9.out.free i
    have m1 := HM9.out.msg.c1
    have m2 := HXE.out.2.c1
    clear hxE hF
    go_wp2_with fail
    go_region
    all_goals
      go_wp2_with fail
      obtain ⟨e0, e1, e2, e3⟩ := HXE.out.1.four
      exact bodyPost_ret (v := .tuple #[.agg #[.string ⟨#[]⟩, .slice none 0 0, .string ⟨#[]⟩, .slice none 0 0], .int .i64 (F5 : Int)]) (by simp [results, Tryz.results70, go_sem, e0, e1, e2, e3]) rfl (nodRes_no HE.out HXE.out.1.all.drew)
  · obtain rfl : F5 = 0 := by omega
    obtain ⟨-, -, hR⟩ := HYES.out rfl
    have HR := Lib.hid hR
    have m1 := HM9.out.msg.c1
    rw [Int.natCast_zero] at m1
    have HN := Lib.hid (readAttrs_any U5 K5 LA w9 HLA.out HM5'.out (SR.of_own HO5.out))
    have HTL := Lib.hid (attrsT_le LA)
    have HX9 := Lib.hid (HX2.out.grown HS9.out (by intro e; injection e with e; have := HG.out; omega) (fun q hq => by cases hq; exact Nat.le_of_lt HG.out))
    generalize attrsT LA = TT at *
    obtain ⟨LT, CT⟩ := TT
    dsimp only at HR HTL
    clear hF hR
    go_wp2_with fail
    refine HN.out.mono ?_
    rintro e w10 ⟨v, rfl, hdw, hb10⟩
    dsimp only at hdw
    obtain ⟨A5, C5, rfl⟩ := hdw.form
    have HX10 := Lib.hid (HX9.out.below hb10)
    have HD10 := Lib.hid (hdw.base eo_att HX9.out.all.size)
    have HI10 := Lib.hid (own_keep HO1.out hb10)
    obtain ⟨bo, oo, hU2, -, hx⟩ := n_txt_at (SR.of_own (own_keep HO2.out hb10)) (k := 0) (by have := HOL.out; omega)
    subst hU2
    have HLO := Lib.hid (show LO.headD ⟨#[]⟩ = LO[0]'(by have := HOL.out; omega) by
      have h1 := HOL.out
      match LO, h1 with
      | [x], _ => rfl)
    have HLS := Lib.hid (HM2'.out (LO[0]'(by have := HOL.out; omega)) (List.getElem_mem _))
    generalize LO[0]'(by have := HOL.out; omega) = o at *
    clear hdw hb10 HN m1 HM9 HX9
    obtain ⟨z0, z1, z2, z3⟩ := HX10.out.four
    have zf := fun i => HX10.out.free i
    by_cases hC : CT ≠ 0
    · have hcb : ((CT : Int) != 0) = true := by simpa using hC
      have HE := Lib.hid (HR.out.trans (if_pos hC))
      obtain ⟨wE, hE, hxE⟩ := n_name (P := fun W => Bx w w.heap.size #[.string ⟨#[]⟩, .slice none 0 0, .string ⟨#[]⟩, .slice none 0 0] 102 W) (HX10.out.four_put (Nat.le_refl _) (.string ⟨#[]⟩) (.slice none 0 0) (.string ⟨#[]⟩) (.slice none 0 0))
      have HXE := Lib.hid hxE
      clear hxE hC
      go_wp2_with fail
      obtain ⟨e0, e1, e2, e3⟩ := HXE.out.four
      exact bodyPost_ret (v := .tuple #[.agg #[.string ⟨#[]⟩, .slice none 0 0, .string ⟨#[]⟩, .slice none 0 0], .int .i64 (CT : Int)]) (by simp [results, Tryz.results70, go_sem, e0, e1, e2, e3]) rfl (nodRes_no HE.out HXE.out.all)
    · obtain rfl : CT = 0 := by omega
      have HE := Lib.hid (HR.out.trans (if_neg hC))
      rw [HLO.out] at HE
      rw [Nat.add_zero] at hx
      have hol : (0 : Int) < (LO.length : Int) := by have := HOL.out; omega
      obtain ⟨wE, hE, hxE⟩ := n_name (P := fun W => Bx w w.heap.size #[.string f4.data, .slice U1 LI.length K1, .string o, .slice A5 LT.length C5] 102 W ∧ ONod w.heap.size W ⟨f4.data, LI, o, LT⟩ [.string f4.data, .slice U1 LI.length K1, .string o, .slice A5 LT.length C5])
        ⟨HX10.out.four_put (Nat.le_refl _) (.string f4.data) (.slice U1 LI.length K1) (.string o) (.slice A5 LT.length C5),
          _, _, rfl, own_set4 HI10.out HX10.out.1 (by decide) _ _ _ _, dw_set4 HD10.out HX10.out.1 (by decide) (by decide) _ _ _ _,
          ⟨by have := HD4.out; dsimp only; omega, by have := HLS.out; dsimp only; omega, fun x hx => by have := HM1.out x hx; omega, by have := HIL.out; dsimp only; omega, by have := HTL.out; have := HLA.out; dsimp only; omega⟩⟩
      have HXE := Lib.hid hxE
      clear hxE hC
      go_wp2_with fail
      obtain ⟨e0, e1, e2, e3⟩ := HXE.out.1.four
      rw [HE.out]
      exact bodyPost_ret (v := .tuple #[.agg #[.string f4.data, .slice U1 LI.length K1, .string o, .slice A5 LT.length C5], .int .i64 0]) (by simp [results, Tryz.results70, go_sem, e0, e1, e2, e3]) rfl ⟨_, rfl, HXE.out.2, HXE.out.1.all⟩
end Go.Proofs.YtjjfdlgoacockaaGreat
namespace Go.Proofs.YtjjfdlgoacockaaGreat
open Go.RowKit M1 M2 M3 M8 M9 M10 M11 Go.Sort
open M7 (nm)

/-! ### in plain words -/
theorem fnd_low {l : List Att} {k : Nat} (hk : k < l.length) : decide (fndI (fun a => decide (a.name = l[k].name)) l < (k : Int)) = decide (l[k].name ∈ (l.take k).map Att.name) := by
  generalize hp : (fun a : Att => decide (a.name = l[k].name)) = p
  have hpp : ∀ a, p a = decide (a.name = l[k].name) := fun a => by rw [← hp]
  have hpk : p l[k] = true := by rw [hpp]; simp
  have h1 : l.findIdx p ≤ k := by
    rcases Nat.lt_or_ge k (l.findIdx p) with h | h
    · have := List.not_of_lt_findIdx h
      rw [hpk] at this; cases this
    · exact h
  unfold fndI
  rw [if_pos (by omega)]
  by_cases hm : l[k].name ∈ (l.take k).map Att.name
  · rw [decide_eq_true hm, decide_eq_true_eq]
    obtain ⟨a, ha, he⟩ := List.mem_map.1 hm
    obtain ⟨j, hj, rfl⟩ := List.mem_iff_getElem.1 ha
    have hjk : j < k := by rw [List.length_take] at hj; omega
    rw [List.getElem_take] at he
    rcases Nat.lt_or_ge j (l.findIdx p) with h | h
    · have := List.not_of_lt_findIdx h
      rw [hpp] at this
      simp [he] at this
    · omega
  · rw [decide_eq_false hm, decide_eq_false_iff_not]
    intro hlt
    apply hm
    have hf : l.findIdx p < l.length := by omega
    have h3 := List.findIdx_getElem (w := hf)
    rw [hpp, decide_eq_true_eq] at h3
    refine List.mem_map.2 ⟨l[l.findIdx p], ?_, h3⟩
    rw [List.mem_take_iff_getElem]
    exact ⟨l.findIdx p, by omega, rfl⟩

end Go.Proofs.YtjjfdlgoacockaaGreat
