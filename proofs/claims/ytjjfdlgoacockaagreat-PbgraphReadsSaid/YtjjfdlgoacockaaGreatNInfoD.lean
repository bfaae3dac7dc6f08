import Derived.Test.YtjjfdlgoacockaaGreatNDims
import Derived.Test.YtjjfdlgoacockaaGreatBLast
import Derived.Test.YtjjfdlgoacockaaGreatMNew
import Derived.Test.YtjjfdlgoacockaaGreatGRefTwo
namespace Go.Proofs.YtjjfdlgoacockaaGreat
open Go.RowKit M1 M2 M3 M8 M9 M10 M11 Go.Sort
open M7 (nm)

theorem whole_ok (L : List WFd) (num : Int) : (M11.whole L num).1.length≤1048576∧∀ f ∈ (M11.whole L num).1,f.data.size≤1048576 := by
  rw [← innM_zero]; exact innM_ok 0 L num
theorem dimsM_err {bs : List ByteArray} {k : Nat} {acc : List Int} (hk : k < bs.length) (h : (fields bs[k]).2≠0) : dimsM (bs.drop k) acc = ([],(fields bs[k]).2) := by
  rw [List.drop_eq_getElem_cons hk,dimsM,if_pos h]
theorem dimsM_wire {bs : List ByteArray} {k : Nat} {acc : List Int} (hk : k < bs.length) (h : (fields bs[k]).2 = 0) (h2 : okF (fields bs[k]).1 1 0 = false) : dimsM (bs.drop k) acc = ([],3) := by
  rw [List.drop_eq_getElem_cons hk,dimsM,if_neg (by simp [h]),if_pos h2]
theorem dimsM_has {bs : List ByteArray} {k : Nat} {acc : List Int} (hk : k < bs.length) (h : (fields bs[k]).2 = 0) (h2 : okF (fields bs[k]).1 1 0 = true) (h3 : has (fields bs[k]).1 1 = false) : dimsM (bs.drop k) acc = ([],6) := by
  rw [List.drop_eq_getElem_cons hk,dimsM,if_neg (by simp [h]),if_neg (by simp [h2]),if_pos h3]
theorem dimsM_next {bs : List ByteArray} {k : Nat} {acc : List Int} (hk : k < bs.length) (h : (fields bs[k]).2 = 0) (h2 : okF (fields bs[k]).1 1 0 = true) (h3 : has (fields bs[k]).1 1 = true) : dimsM (bs.drop k) acc = dimsM (bs.drop (k + 1)) (acc ++ [sg (lastF (fields bs[k]).1 1).n]) := by
  rw [List.drop_eq_getElem_cons hk,dimsM,if_neg (by simp [h]),if_neg (by simp [h2]),if_neg (by simp [h3])]
theorem lstC_false {l : List WFd} {a b : Int} (h : okF l a b = false) : lstC l a b = 3 := by rw [lstC_is,if_neg (by simp [h])]
theorem lstC_true {l : List WFd} {a b : Int} (h : okF l a b = true) : lstC l a b = 0 := by rw [lstC_is,if_pos h]
theorem lstF_true {l : List WFd} {a b : Int} (h : okF l a b = true) : lstF l a b = lastF l a := by unfold lstF; rw [if_pos h]
theorem n_infoInt2 : (Tryz.prog.info? 2).map (fun i => (i.zero,i.size,i.bytes)) = some (some (.int .i64 0),1,8) := by kernel_rfl

set_option maxRecDepth 100000 in
set_option maxHeartbeats 8000000 in
theorem rinfo11_any (b : ByteArray) (w : World) (hbs : b.size ≤ maxLen) : Calls Tryz.prog 29 #[.string b] w (InfRes (infoM b) w) := by
  obtain ⟨i0,hi0,hz0,hz1,hz2⟩ := info_parts n_infoInt2
  have HX0 := Lib.hid (Bx.start w #[.string ⟨#[]⟩,.int .i64 0,.slice none 0 0] 89)
  have HF := Lib.hid (fun W => rfields_any b W hbs)
  have KL := Lib.hid (show (fields b).1.length≤1048576∧∀ f ∈ (fields b).1,f.data.size≤1048576 from ⟨fields_len b,fun f hf => (fields_ok f hf).2⟩)
  have HR0 : infoM b = infoM b := rfl
  conv at HR0 => rhs; unfold infoM
  have HR := Lib.hid HR0
  clear HR0
  generalize infoM b = R at *
  generalize fields b = FF at *
  obtain ⟨L,C⟩ := FF
  dsimp only at *
  go_enter Tryz.func29,Tryz.ntmps29
  go_wp2_with fail
  refine (HF.out _).mono ?_
  rintro e w1 ⟨v1,rfl,hown,hb1⟩
  obtain ⟨a1,c1,rfl,-,-⟩ := own_form hown
  have HX1 := Lib.hid (HX0.out.below hb1)
  have HO1 := Lib.hid hown
  clear hb1 hown HF HX0
  by_cases hC : C≠0
  · have hcb : ((C : Int) != 0) = true := by simpa using hC
    have HE := Lib.hid (HR.out.trans (if_pos hC))
    clear hC
    obtain ⟨wE,hE,hxE⟩ := n_name (P := fun W => Bx w w.heap.size #[.string ⟨#[]⟩,.int .i64 0,.slice none 0 0] 89 W) (HX1.out.three_put (Nat.le_refl _) (.string ⟨#[]⟩) (.int .i64 0) (.slice none 0 0))
    have HXE := Lib.hid hxE
    obtain ⟨z0,z1,z2⟩ := HX1.out.three
    have zf := fun i => HX1.out.free i
    clear hxE
    go_wp2_with fail
    obtain ⟨e0,e1,e2⟩ := HXE.out.three
    exact bodyPost_ret (v := .tuple #[.agg #[.string ⟨#[]⟩,.int .i64 0,.slice none 0 0],.int .i64 (C : Int)]) (by simp [results,Tryz.results29,go_sem,e0,e1,e2]) rfl (infRes_no HE.out HXE.out.all)
  have HR := Lib.hid (HR.out.trans (if_neg hC))
  obtain rfl : C = 0 := by omega
  clear hC
  have HT := Lib.hid (rlast_any a1 c1 L 1 2 w1 (by have := KL.out.1; omega) (SR.of_own HO1.out))
  have HSZ := Lib.hid (last_size (l := L) KL.out.2 1 2)
  have HC1 := Lib.hid (lstC_false (l := L) (a := 1) (b := 2))
  have HC2 := Lib.hid (lstC_true (l := L) (a := 1) (b := 2))
  have HC3 := Lib.hid (lstF_true (l := L) (a := 1) (b := 2))
  generalize lstF L 1 2 = f1 at *
  generalize lstC L 1 2 = x1 at *
  generalize has L 1 = hs1 at *
  go_wp2_with fail
  refine HT.out.mono ?_
  rintro e w2 ⟨rfl,hb2⟩
  have hba := step_below hb2 ((Below.refl w2.heap.size w2).alloc (Nat.le_refl _) (.cells #[.int .i64 f1.num,.int .i64 f1.typ,.int .u64 (f1.n : Int),.string f1.data] 75))
  have HX2 := Lib.hid (HX1.out.below hba)
  have HB1 := Lib.hid ((HX1.out.below hb2).next #[.int .i64 f1.num,.int .i64 f1.typ,.int .u64 (f1.n : Int),.string f1.data] 75)
  have HO2 := Lib.hid (own_keep HO1.out hba)
  clear hb2 hba HT HX1 HO1
  cases hk1 : okF L 1 2
  · rw [HC1.out hk1]
    have HE := Lib.hid (HR.out.trans (if_pos hk1))
    clear hk1
    obtain ⟨wE,hE,hxE⟩ := n_name (P := fun W => Bx w w.heap.size #[.string ⟨#[]⟩,.int .i64 0,.slice none 0 0] 89 W) (HX2.out.three_put (Nat.le_refl _) (.string ⟨#[]⟩) (.int .i64 0) (.slice none 0 0))
    have HXE := Lib.hid hxE
    obtain ⟨z0,z1,z2⟩ := HX2.out.three
    have zf := fun i => HX2.out.free i
    clear hxE
    go_wp2_with fail
    obtain ⟨e0,e1,e2⟩ := HXE.out.three
    exact bodyPost_ret (v := .tuple #[.agg #[.string ⟨#[]⟩,.int .i64 0,.slice none 0 0],.int .i64 3]) (by simp [results,Tryz.results29,go_sem,e0,e1,e2]) rfl (infRes_no HE.out HXE.out.all)
  rw [HC2.out hk1]
  have HN1 := Lib.hid (HC3.out hk1)
  have HR := Lib.hid (HR.out.trans (if_neg (by simp [hk1])))
  rw [← HN1.out] at HR
  clear hk1 HC1 HC2 HC3
  have K3 := Lib.hid (whole_ok L 2)
  have HT := Lib.hid (n_whole_any a1 c1 L 2 _ KL.out.1 KL.out.2 (SR.of_own HO2.out))
  generalize M11.whole L 2 = WW at *
  obtain ⟨L2,C2⟩ := WW
  dsimp only at *
  go_wp2_with fail
  refine HT.out.mono ?_
  rintro e w3 ⟨v,rfl,hown,hb⟩
  obtain ⟨a3,c3,rfl,-,-⟩ := own_form hown
  dsimp only at hown
  have HX3 := Lib.hid (HX2.out.below hb)
  have HO3 := Lib.hid hown
  have HB1 := Lib.hid (HB1.out.below hb)
  clear hb hown HT HX2 HO2
  by_cases hC : C2≠0
  · have hcb : ((C2 : Int) != 0) = true := by simpa using hC
    have HE := Lib.hid (HR.out.trans (if_pos hC))
    clear hC
    obtain ⟨wE,hE,hxE⟩ := n_name (P := fun W => Bx w w.heap.size #[.string ⟨#[]⟩,.int .i64 0,.slice none 0 0] 89 W) (HX3.out.three_put (Nat.le_refl _) (.string ⟨#[]⟩) (.int .i64 0) (.slice none 0 0))
    have HXE := Lib.hid hxE
    obtain ⟨z0,z1,z2⟩ := HX3.out.three
    have zf := fun i => HX3.out.free i
    clear hxE
    go_wp2_with fail
    obtain ⟨e0,e1,e2⟩ := HXE.out.three
    exact bodyPost_ret (v := .tuple #[.agg #[.string ⟨#[]⟩,.int .i64 0,.slice none 0 0],.int .i64 (C2 : Int)]) (by simp [results,Tryz.results29,go_sem,e0,e1,e2]) rfl (infRes_no HE.out HXE.out.all)
  have HR := Lib.hid (HR.out.trans (if_neg hC))
  obtain rfl : C2 = 0 := by omega
  clear hC
  have K4 := Lib.hid (whole_ok L2 1)
  have HT := Lib.hid (n_whole_any a3 c3 L2 1 _ K3.out.1 K3.out.2 (SR.of_own HO3.out))
  generalize M11.whole L2 1 = WW at *
  obtain ⟨L3,C3⟩ := WW
  dsimp only at *
  go_wp2_with fail
  refine HT.out.mono ?_
  rintro e w4 ⟨v,rfl,hown,hb⟩
  obtain ⟨a4,c4,rfl,-,-⟩ := own_form hown
  dsimp only at hown
  have HX4 := Lib.hid (HX3.out.below hb)
  have HO4 := Lib.hid hown
  have HB1 := Lib.hid (HB1.out.below hb)
  clear hb hown HT HX3 HO3
  by_cases hC : C3≠0
  · have hcb : ((C3 : Int) != 0) = true := by simpa using hC
    have HE := Lib.hid (HR.out.trans (if_pos hC))
    clear hC
    obtain ⟨wE,hE,hxE⟩ := n_name (P := fun W => Bx w w.heap.size #[.string ⟨#[]⟩,.int .i64 0,.slice none 0 0] 89 W) (HX4.out.three_put (Nat.le_refl _) (.string ⟨#[]⟩) (.int .i64 0) (.slice none 0 0))
    have HXE := Lib.hid hxE
    obtain ⟨z0,z1,z2⟩ := HX4.out.three
    have zf := fun i => HX4.out.free i
    clear hxE
    go_wp2_with fail
    obtain ⟨e0,e1,e2⟩ := HXE.out.three
    exact bodyPost_ret (v := .tuple #[.agg #[.string ⟨#[]⟩,.int .i64 0,.slice none 0 0],.int .i64 (C3 : Int)]) (by simp [results,Tryz.results29,go_sem,e0,e1,e2]) rfl (infRes_no HE.out HXE.out.all)
  have HR := Lib.hid (HR.out.trans (if_neg hC))
  obtain rfl : C3 = 0 := by omega
  clear hC
  have HT := Lib.hid (rlast_any a4 c4 L3 1 0 w4 (by have := K4.out.1; omega) (SR.of_own HO4.out))
  have HC1 := Lib.hid (lstC_false (l := L3) (a := 1) (b := 0))
  have HC2 := Lib.hid (lstC_true (l := L3) (a := 1) (b := 0))
  have HC3 := Lib.hid (lstF_true (l := L3) (a := 1) (b := 0))
  generalize lstF L3 1 0 = f3 at *
  generalize lstC L3 1 0 = x3 at *
  generalize has L3 1 = hs3 at *
  go_wp2_with fail
  refine HT.out.mono ?_
  rintro e w5 ⟨rfl,hb5⟩
  have hba := step_below hb5 ((Below.refl w5.heap.size w5).alloc (Nat.le_refl _) (.cells #[.int .i64 f3.num,.int .i64 f3.typ,.int .u64 (f3.n : Int),.string f3.data] 75))
  have HX5 := Lib.hid (HX4.out.below hba)
  have HB3 := Lib.hid ((HX4.out.below hb5).next #[.int .i64 f3.num,.int .i64 f3.typ,.int .u64 (f3.n : Int),.string f3.data] 75)
  have HB1 := Lib.hid (HB1.out.below hba)
  have HO5 := Lib.hid (own_keep HO4.out hba)
  clear hb5 hba HT HX4 HO4
  cases hk1 : okF L3 1 0
  · rw [HC1.out hk1]
    have HE := Lib.hid (HR.out.trans (if_pos hk1))
    clear hk1
    obtain ⟨wE,hE,hxE⟩ := n_name (P := fun W => Bx w w.heap.size #[.string ⟨#[]⟩,.int .i64 0,.slice none 0 0] 89 W) (HX5.out.three_put (Nat.le_refl _) (.string ⟨#[]⟩) (.int .i64 0) (.slice none 0 0))
    have HXE := Lib.hid hxE
    obtain ⟨z0,z1,z2⟩ := HX5.out.three
    have zf := fun i => HX5.out.free i
    clear hxE
    go_wp2_with fail
    obtain ⟨e0,e1,e2⟩ := HXE.out.three
    exact bodyPost_ret (v := .tuple #[.agg #[.string ⟨#[]⟩,.int .i64 0,.slice none 0 0],.int .i64 3]) (by simp [results,Tryz.results29,go_sem,e0,e1,e2]) rfl (infRes_no HE.out HXE.out.all)
  rw [HC2.out hk1]
  have HN3 := Lib.hid (HC3.out hk1)
  have HR := Lib.hid (HR.out.trans (if_neg (by simp [hk1])))
  rw [← HN3.out] at HR
  clear hk1 HC1 HC2 HC3
  have K6 := Lib.hid (whole_ok L3 2)
  have HT := Lib.hid (n_whole_any a4 c4 L3 2 _ K4.out.1 K4.out.2 (SR.of_own HO5.out))
  generalize M11.whole L3 2 = WW at *
  obtain ⟨L5,C5⟩ := WW
  dsimp only at *
  go_wp2_with fail
  refine HT.out.mono ?_
  rintro e w6 ⟨v,rfl,hown,hb⟩
  obtain ⟨a6,c6,rfl,-,-⟩ := own_form hown
  dsimp only at hown
  have HX6 := Lib.hid (HX5.out.below hb)
  have HO6 := Lib.hid hown
  have HB1 := Lib.hid (HB1.out.below hb)
  have HB3 := Lib.hid (HB3.out.below hb)
  clear hb hown HT HX5 HO5
  by_cases hC : C5≠0
  · have hcb : ((C5 : Int) != 0) = true := by simpa using hC
    have HE := Lib.hid (HR.out.trans (if_pos hC))
    clear hC
    obtain ⟨wE,hE,hxE⟩ := n_name (P := fun W => Bx w w.heap.size #[.string ⟨#[]⟩,.int .i64 0,.slice none 0 0] 89 W) (HX6.out.three_put (Nat.le_refl _) (.string ⟨#[]⟩) (.int .i64 0) (.slice none 0 0))
    have HXE := Lib.hid hxE
    obtain ⟨z0,z1,z2⟩ := HX6.out.three
    have zf := fun i => HX6.out.free i
    clear hxE
    go_wp2_with fail
    obtain ⟨e0,e1,e2⟩ := HXE.out.three
    exact bodyPost_ret (v := .tuple #[.agg #[.string ⟨#[]⟩,.int .i64 0,.slice none 0 0],.int .i64 (C5 : Int)]) (by simp [results,Tryz.results29,go_sem,e0,e1,e2]) rfl (infRes_no HE.out HXE.out.all)
  have HR := Lib.hid (HR.out.trans (if_neg hC))
  obtain rfl : C5 = 0 := by omega
  clear hC
  have HT := Lib.hid (rtexts_any a6 c6 L5 1 w6 (by have := K6.out.1; omega) (SR.of_own HO6.out))
  have HMEM := Lib.hid (txts_mem (ofNum L5 1) [] (fun f hf => K6.out.2 f (List.mem_filter.1 hf).1) (by simp))
  have HTL := Lib.hid (show (txts (ofNum L5 1) []).1.length≤1048576 by
    have h1 := txts_le (ofNum L5 1) []
    have h2 : (ofNum L5 1).length≤L5.length := List.length_filter_le _ _
    have h3 := K6.out.1
    simp only [List.length_nil,Nat.zero_add] at h1
    omega)
  generalize txts (ofNum L5 1) [] = TT at *
  obtain ⟨ts,CT⟩ := TT
  dsimp only at *
  go_wp2_with fail
  refine HT.out.mono ?_
  rintro e w7 ⟨v,rfl,hown,hb⟩
  obtain ⟨U,K,rfl,-,-⟩ := own_form hown
  dsimp only at hown
  have HX7 := Lib.hid (HX6.out.below hb)
  have HOT := Lib.hid (own_base hown HX6.out.all.size)
  have HB1 := Lib.hid (HB1.out.below hb)
  have HB3 := Lib.hid (HB3.out.below hb)
  clear hb hown HT HX6 HO6
  by_cases hC : CT≠0
  · have hcb : ((CT : Int) != 0) = true := by simpa using hC
    have HE := Lib.hid (HR.out.trans (if_pos hC))
    clear hC
    obtain ⟨wE,hE,hxE⟩ := n_name (P := fun W => Bx w w.heap.size #[.string ⟨#[]⟩,.int .i64 0,.slice none 0 0] 89 W) (HX7.out.three_put (Nat.le_refl _) (.string ⟨#[]⟩) (.int .i64 0) (.slice none 0 0))
    have HXE := Lib.hid hxE
    obtain ⟨z0,z1,z2⟩ := HX7.out.three
    have zf := fun i => HX7.out.free i
    clear hxE
    go_wp2_with fail
    obtain ⟨e0,e1,e2⟩ := HXE.out.three
    exact bodyPost_ret (v := .tuple #[.agg #[.string ⟨#[]⟩,.int .i64 0,.slice none 0 0],.int .i64 (CT : Int)]) (by simp [results,Tryz.results29,go_sem,e0,e1,e2]) rfl (infRes_no HE.out HXE.out.all)
  have HR := Lib.hid (HR.out.trans (if_neg hC))
  obtain rfl : CT = 0 := by omega
  clear hC
  obtain ⟨g0,g1,g2,g3⟩ := HB1.out.four
  have hbn := (Below.refl w7.heap.size w7).alloc (Nat.le_refl _) (.cells #[.string f1.data,.int .i64 0,.slice none 0 0] 89)
  have HI : Hid (Bx w w.heap.size #[.string ⟨#[]⟩,.int .i64 0,.slice none 0 0] 89 (w7.alloc (.cells #[.string f1.data,.int .i64 0,.slice none 0 0] 89))∧Bx w w7.heap.size #[.string f1.data,.int .i64 0,.slice none 0 0] 89 (w7.alloc (.cells #[.string f1.data,.int .i64 0,.slice none 0 0] 89))∧Bx w w2.heap.size #[.int .i64 f1.num,.int .i64 f1.typ,.int .u64 (f1.n : Int),.string f1.data] 75 (w7.alloc (.cells #[.string f1.data,.int .i64 0,.slice none 0 0] 89))∧Bx w w5.heap.size #[.int .i64 f3.num,.int .i64 f3.typ,.int .u64 (f3.n : Int),.string f3.data] 75 (w7.alloc (.cells #[.string f1.data,.int .i64 0,.slice none 0 0] 89))∧(w7.alloc (.cells #[.string f1.data,.int .i64 0,.slice none 0 0] 89)).ownsRow w.heap.size 9 1 (.slice U ts.length K) ts.length (p_tv ts)) :=
    Lib.hid ⟨HX7.out.below hbn,HX7.out.next _ _,HB1.out.below hbn,HB3.out.below hbn,own_keep HOT.out hbn⟩
  have HGL := Lib.hid (show w.heap.size < w7.heap.size from HX7.out.2.1)
  have HG2 := Lib.hid (show w2.heap.size < w7.heap.size from HB1.out.2.1)
  have HG5 := Lib.hid (show w5.heap.size < w7.heap.size from HB3.out.2.1)
  clear hbn HX7 HB1 HB3 HOT
  go_wp2_with fail
  clear g0 g1 g2 g3
  go_loopw [15] (fun i wr => ∃ (k : Nat) (K2 : Int) (acc : List Int) (V : Value),i = .int .i64 K2∧K2 = (k : Nat)∧k≤ts.length∧acc.length = k∧dimsM ts [] = dimsM (ts.drop k) acc∧Bx w w.heap.size #[.string ⟨#[]⟩,.int .i64 0,.slice none 0 0] 89 wr∧Bx w w7.heap.size #[.string f1.data,.int .i64 0,V] 89 wr∧Bx w w2.heap.size #[.int .i64 f1.num,.int .i64 f1.typ,.int .u64 (f1.n : Int),.string f1.data] 75 wr∧Bx w w5.heap.size #[.int .i64 f3.num,.int .i64 f3.typ,.int .u64 (f3.n : Int),.string f3.data] 75 wr∧wr.ownsRow w.heap.size 2 1 V acc.length (iv acc)∧wr.ownsRow w.heap.size 9 1 (.slice U ts.length K) ts.length (p_tv ts)) (fun i _ => ts.length - (intOf i).toNat)
  case atStart => exact ⟨0,_,[],_,rfl,rfl,by omega,rfl,rfl,HI.out.1,HI.out.2.1,HI.out.2.2.1,HI.out.2.2.2.1,own_nothing _ _ _ _,HI.out.2.2.2.2⟩
  case round =>
    obtain ⟨k,K2,acc,V,rfl,rfl,hk,hacc,hat,hbz,hbn,hb1,hb3,hod,hot⟩ := hrel
    obtain ⟨VA,VC,rfl,-,-⟩ := own_form hod
    have HAC := Lib.hid hacc
    have HQ := Lib.hid hat
    have HBZ := Lib.hid hbz
    have HBN := Lib.hid hbn
    have HB1 := Lib.hid hb1
    have HB3 := Lib.hid hb3
    have HOD := Lib.hid hod
    have HOT := Lib.hid hot
    clear HI
    have htl := HTL.out
    by_cases hlt : k < ts.length
    · obtain ⟨bb,ob,rfl,-,hx⟩ := n_txt_at (SR.of_own hot) hlt
      have hsk := HMEM.out ts[k] (List.getElem_mem hlt)
      have HE1 := Lib.hid (dimsM_err (acc := acc) hlt)
      have HE2 := Lib.hid (dimsM_wire (acc := acc) hlt)
      have HE3 := Lib.hid (dimsM_has (acc := acc) hlt)
      have HE4 := Lib.hid (dimsM_next (acc := acc) hlt)
      have HRF := Lib.hid (fun W => rfields_any ts[k] W (by unfold maxLen; omega))
      have HFL := Lib.hid (fields_len ts[k])
      clear hacc hat hbz hbn hb1 hb3 hod hot
      generalize ts[k] = X at *
      generalize fields X = F at *
      obtain ⟨L4,C4⟩ := F
      dsimp only at HE1 HE2 HE3 HE4 HRF HFL
      go_wp2_with fail
      refine (HRF.out _).mono ?_
      rintro e w8 ⟨v8,rfl,hown8,hb8⟩
      obtain ⟨a8,c8,rfl,-,-⟩ := own_form hown8
      have HBZ := Lib.hid (HBZ.out.below hb8)
      have HBN := Lib.hid (HBN.out.below hb8)
      have HB1 := Lib.hid (HB1.out.below hb8)
      have HB3 := Lib.hid (HB3.out.below hb8)
      have HOD := Lib.hid (own_keep HOD.out hb8)
      have HOT := Lib.hid (own_keep HOT.out hb8)
      have HO8 := Lib.hid hown8
      clear hb8 hown8 HRF
      by_cases hC : C4≠0
      · have hcb : ((C4 : Int) != 0) = true := by simpa using hC
        have HD : Hid (dimsM ts [] = ([],C4)) := Lib.hid (by rw [HQ.out,HE1.out hC])
        rw [HD.out] at HR
        have HE := Lib.hid (HR.out.trans (if_pos hC))
        clear hC
        obtain ⟨wE,hE,hxE⟩ := n_name (P := fun W => Bx w w.heap.size #[.string ⟨#[]⟩,.int .i64 0,.slice none 0 0] 89 W) (HBZ.out.three_put (Nat.le_refl _) (.string ⟨#[]⟩) (.int .i64 0) (.slice none 0 0))
        have HXE := Lib.hid hxE
        obtain ⟨z0,z1,z2⟩ := HBZ.out.three
        have zf := fun i => HBZ.out.free i
        clear hxE
        go_wp2_with fail
        obtain ⟨e0,e1,e2⟩ := HXE.out.three
        exact bodyPost_ret (v := .tuple #[.agg #[.string ⟨#[]⟩,.int .i64 0,.slice none 0 0],.int .i64 (C4 : Int)]) (by simp [results,Tryz.results29,go_sem,e0,e1,e2]) rfl (infRes_no HE.out HXE.out.all)
      obtain rfl : C4 = 0 := by omega
      have HE2b := Lib.hid (HE2.out rfl)
      have HE3b := Lib.hid (HE3.out rfl)
      have HE4b := Lib.hid (HE4.out rfl)
      clear hC HE1 HE2 HE3 HE4
      have HT := Lib.hid (rlast_any a8 c8 L4 1 0 w8 (by have := HFL.out; omega) (SR.of_own HO8.out))
      have HC1 := Lib.hid (lstC_false (l := L4) (a := 1) (b := 0))
      have HC2 := Lib.hid (lstC_true (l := L4) (a := 1) (b := 0))
      have HC3 := Lib.hid (lstF_true (l := L4) (a := 1) (b := 0))
      generalize lstF L4 1 0 = f4 at *
      generalize lstC L4 1 0 = x4 at *
      generalize has L4 1 = hs4 at *
      go_wp2_with fail
      refine HT.out.mono ?_
      rintro e w9 ⟨rfl,hb9⟩
      have hba := step_below hb9 ((Below.refl w9.heap.size w9).alloc (Nat.le_refl _) (.cells #[.int .i64 f4.num,.int .i64 f4.typ,.int .u64 (f4.n : Int),.string f4.data] 75))
      have HB4 := Lib.hid ((HBZ.out.below hb9).next #[.int .i64 f4.num,.int .i64 f4.typ,.int .u64 (f4.n : Int),.string f4.data] 75)
      have HBZ := Lib.hid (HBZ.out.below hba)
      have HBN := Lib.hid (HBN.out.below hba)
      have HB1 := Lib.hid (HB1.out.below hba)
      have HB3 := Lib.hid (HB3.out.below hba)
      have HOD := Lib.hid (own_keep HOD.out hba)
      have HOT := Lib.hid (own_keep HOT.out hba)
      clear hb9 hba HT HO8
      cases hk1 : okF L4 1 0
      · rw [HC1.out hk1]
        have HD : Hid (dimsM ts [] = ([],3)) := Lib.hid (by rw [HQ.out,HE2b.out hk1])
        rw [HD.out] at HR
        have HE := Lib.hid (HR.out.trans (if_pos (by decide)))
        clear hk1
        obtain ⟨wE,hE,hxE⟩ := n_name (P := fun W => Bx w w.heap.size #[.string ⟨#[]⟩,.int .i64 0,.slice none 0 0] 89 W) (HBZ.out.three_put (Nat.le_refl _) (.string ⟨#[]⟩) (.int .i64 0) (.slice none 0 0))
        have HXE := Lib.hid hxE
        obtain ⟨z0,z1,z2⟩ := HBZ.out.three
        have zf := fun i => HBZ.out.free i
        clear hxE
        go_wp2_with fail
        obtain ⟨e0,e1,e2⟩ := HXE.out.three
        exact bodyPost_ret (v := .tuple #[.agg #[.string ⟨#[]⟩,.int .i64 0,.slice none 0 0],.int .i64 3]) (by simp [results,Tryz.results29,go_sem,e0,e1,e2]) rfl (infRes_no HE.out HXE.out.all)
      rw [HC2.out hk1]
      have HN4 := Lib.hid (HC3.out hk1)
      have HE3c := Lib.hid (HE3b.out hk1)
      have HE4c := Lib.hid (HE4b.out hk1)
      clear hk1 HC1 HC2 HC3 HE2b HE3b HE4b
      cases hs4
      · have HD : Hid (dimsM ts [] = ([],6)) := Lib.hid (by rw [HQ.out,HE3c.out rfl])
        rw [HD.out] at HR
        have HE := Lib.hid (HR.out.trans (if_pos (by decide)))
        obtain ⟨wE,hE,hxE⟩ := n_name (P := fun W => Bx w w.heap.size #[.string ⟨#[]⟩,.int .i64 0,.slice none 0 0] 89 W) (HBZ.out.three_put (Nat.le_refl _) (.string ⟨#[]⟩) (.int .i64 0) (.slice none 0 0))
        have HXE := Lib.hid hxE
        obtain ⟨z0,z1,z2⟩ := HBZ.out.three
        have zf := fun i => HBZ.out.free i
        clear hxE
        go_wp2_with fail
        obtain ⟨e0,e1,e2⟩ := HXE.out.three
        exact bodyPost_ret (v := .tuple #[.agg #[.string ⟨#[]⟩,.int .i64 0,.slice none 0 0],.int .i64 6]) (by simp [results,Tryz.results29,go_sem,e0,e1,e2]) rfl (infRes_no HE.out HXE.out.all)
      have HS := Lib.hid (HQ.out.trans (HE4c.out rfl))
      rw [← HN4.out] at HS
      clear HE3c HE4c
      obtain ⟨x0,x1,x2,x3⟩ := HB4.out.four
      obtain ⟨n0,n1,n2⟩ := HBN.out.three
      go_wp2_with (at_builtin; refine wpList_append_own _ rfl _ _ 83 rfl w.heap.size 2 i0 _ 1 8 Tryz.underlying83 hi0 hz0 hz1 hz2 rfl (by decide) _ _ _ rfl (HOD.out.alloc _) ⟨w9.heap.size + 1,0,none⟩ 1 1 [.int .i64 (wrap64 (f4.n : Int))] rfl rfl (cells_new2 _ _ _ _) ?c2 ?c3 ?c4 ?c5 ?_)
      case c2 => intro u hu; simp at hu; rcases hu with rfl; rfl
      case c3 => have := HAC.out; have := HTL.out; unfold maxLen; omega
      case c4 => have := HAC.out; have := HTL.out; omega
      case c5 => have := HBZ.out.2.1; simp at this ⊢; omega
      intro v' w10 hown' hgrow _
      obtain ⟨vp,vq,rfl,-,-⟩ := own_form hown'
      have hbA := (Below.refl (w9.alloc (.cells #[.int .i64 f4.num,.int .i64 f4.typ,.int .u64 (f4.n : Int),.string f4.data] 75)).heap.size (w9.alloc (.cells #[.int .i64 f4.num,.int .i64 f4.typ,.int .u64 (f4.n : Int),.string f4.data] 75))).alloc (Nat.le_refl _) (.cells #[.int .i64 (wrap64 (f4.n : Int))] 2)
      have hlq : ∀ {q : Nat},(Value.slice VA acc.length VC).ownBlock = some q→w.heap.size≤q := fun {q} hq => (HOD.out.lt q hq).1
      have HBZ1 := Lib.hid ((HBZ.out.below hbA).grown hgrow (own_far (HOD.out.alloc _) (HBZ.out.below hbA).1 (by decide)) (fun q hq => hlq hq))
      have HBN1 := Lib.hid ((HBN.out.below hbA).grown hgrow (own_far (HOD.out.alloc _) (HBN.out.below hbA).1 (by decide)) (fun q hq => hlq hq))
      have HB11 := Lib.hid ((HB1.out.below hbA).grown hgrow (own_far (HOD.out.alloc _) (HB1.out.below hbA).1 (by decide)) (fun q hq => hlq hq))
      have HB31 := Lib.hid ((HB3.out.below hbA).grown hgrow (own_far (HOD.out.alloc _) (HB3.out.below hbA).1 (by decide)) (fun q hq => hlq hq))
      have HOT1 := Lib.hid (own_grown_far (own_keep HOT.out hbA) (HOD.out.alloc _) (by decide) hgrow)
      have HOD1 := Lib.hid (show w10.ownsRow w.heap.size 2 1 (.slice vp (acc.length + 1) vq) (acc ++ [wrap64 (f4.n : Int)]).length (iv (acc ++ [wrap64 (f4.n : Int)])) by rw [List.length_append,iv_append]; exact hown')
      clear hown' hgrow hbA hlq HBZ HBN HB1 HB3 HOT HOD x0 x1 x2 x3 n0 n1 n2 HB4
      have hg1 := HGL.out
      have hg2 := HG2.out
      have hg5 := HG5.out
      obtain ⟨n0,n1,n2⟩ := HBN1.out.three
      have nf := fun i => HBN1.out.free i
      obtain ⟨w11,hw11,h11⟩ := n_name (P := fun W => Bx w w.heap.size #[.string ⟨#[]⟩,.int .i64 0,.slice none 0 0] 89 W∧Bx w w7.heap.size #[.string f1.data,.int .i64 0,.slice vp (acc.length + 1) vq] 89 W∧Bx w w2.heap.size #[.int .i64 f1.num,.int .i64 f1.typ,.int .u64 (f1.n : Int),.string f1.data] 75 W∧Bx w w5.heap.size #[.int .i64 f3.num,.int .i64 f3.typ,.int .u64 (f3.n : Int),.string f3.data] 75 W∧W.ownsRow w.heap.size 2 1 (.slice vp (acc.length + 1) vq) (acc ++ [wrap64 (f4.n : Int)]).length (iv (acc ++ [wrap64 (f4.n : Int)]))∧W.ownsRow w.heap.size 9 1 (.slice (some ⟨bb,ob,none⟩) ts.length K) ts.length (p_tv ts)) (W := w10.setCell ⟨w7.heap.size,2,none⟩ (.slice vp (acc.length + 1) vq))
        ⟨HBZ1.out.far_set _ (by omega) (by omega),HBN1.out.set (by omega) 2 _,HB11.out.far_set _ (by omega) (by omega),HB31.out.far_set _ (by omega) (by omega),own_set HOD1.out (own_far HOD1.out HBN1.out.1 (by decide)) 2 _,own_set HOT1.out (own_far HOT1.out HBN1.out.1 (by decide)) 2 _⟩
      have H11 := Lib.hid h11
      clear h11 HBZ1 HBN1 HB11 HB31 HOT1 HOD1 hg1 hg2 hg5
      go_wp2_with fail
      go_roundw
      case rel => exact ⟨k + 1,_,acc ++ [wrap64 (f4.n : Int)],_,rfl,by omega,by omega,by rw [List.length_append,HAC.out]; rfl,HS.out,H11.out.1,H11.out.2.1,H11.out.2.2.1,H11.out.2.2.2.1,H11.out.2.2.2.2.1,H11.out.2.2.2.2.2⟩
      case measure => simp [intOf]; omega
    · obtain rfl : k = ts.length := by omega
      rw [List.drop_length] at HQ
      have HD : Hid (dimsM ts [] = (acc,0)) := Lib.hid HQ.out
      rw [HD.out] at HR
      have HIN := Lib.hid (show ∀ n ∈ acc,I64 n by
        have h1 := dimsM_is ts []
        rw [HD.out] at h1
        by_cases h2 : dflt 0 ts≠0
        · rw [if_pos h2] at h1; injection h1 with h3 h4; omega
        · rw [if_neg h2] at h1
          injection h1 with h3 h4
          intro n hn
          rw [h3,List.nil_append] at hn
          obtain ⟨b,_,rfl⟩ := List.mem_map.1 hn
          exact dimV_in b)
      have HR := Lib.hid (HR.out.trans (if_neg (by simp)))
      clear hacc hat hbz hbn hb1 hb3 hod hot HQ HD
      obtain ⟨g0,g1,g2,g3⟩ := HB1.out.four
      have hds := HSZ.out
      go_wp2_with fail
      refine (rname_any f1.data _ (by unfold maxLen; omega)).mono ?_
      rintro e w12 ⟨rfl,rfl⟩
      cases hnm : nm f1.data
      · have HE := Lib.hid (HR.out.trans (if_pos hnm))
        clear hnm
        obtain ⟨wE,hE,hxE⟩ := n_name (P := fun W => Bx w w.heap.size #[.string ⟨#[]⟩,.int .i64 0,.slice none 0 0] 89 W) (HBZ.out.three_put (Nat.le_refl _) (.string ⟨#[]⟩) (.int .i64 0) (.slice none 0 0))
        have HXE := Lib.hid hxE
        obtain ⟨z0,z1,z2⟩ := HBZ.out.three
        have zf := fun i => HBZ.out.free i
        clear hxE
        go_wp2_with fail
        obtain ⟨e0,e1,e2⟩ := HXE.out.three
        exact bodyPost_ret (v := .tuple #[.agg #[.string ⟨#[]⟩,.int .i64 0,.slice none 0 0],.int .i64 8]) (by simp [results,Tryz.results29,go_sem,e0,e1,e2]) rfl (infRes_no HE.out HXE.out.all)
      have HR := Lib.hid (HR.out.trans (if_neg (by simp [hnm])))
      clear hnm g0 g1 g2 g3
      obtain ⟨k0,k1,k2,k3⟩ := HB3.out.four
      by_cases hg : 100 < f3.n
      · have hgb : decide ((100 : Int) < (f3.n : Int)) = true := decide_eq_true (by omega)
        have HE := Lib.hid (HR.out.trans (if_pos (by unfold M11.kindOk; rw [decide_eq_false (by omega)]; rfl)))
        clear hg
        obtain ⟨wE,hE,hxE⟩ := n_name (P := fun W => Bx w w.heap.size #[.string ⟨#[]⟩,.int .i64 0,.slice none 0 0] 89 W) (HBZ.out.three_put (Nat.le_refl _) (.string ⟨#[]⟩) (.int .i64 0) (.slice none 0 0))
        have HXE := Lib.hid hxE
        obtain ⟨z0,z1,z2⟩ := HBZ.out.three
        have zf := fun i => HBZ.out.free i
        clear hxE
        go_wp2_with fail
        obtain ⟨e0,e1,e2⟩ := HXE.out.three
        exact bodyPost_ret (v := .tuple #[.agg #[.string ⟨#[]⟩,.int .i64 0,.slice none 0 0],.int .i64 5]) (by simp [results,Tryz.results29,go_sem,e0,e1,e2]) rfl (infRes_no HE.out HXE.out.all)
      have hgb : decide ((100 : Int) < (f3.n : Int)) = false := decide_eq_false (by omega)
      have hcv : wrap64 (f3.n : Int) = (f3.n : Int) := by unfold wrap64; omega
      have HKO := Lib.hid (show M11.kindOk f3.n = decide (kSize (f3.n : Int)≠0) by unfold M11.kindOk; rw [decide_eq_true (by omega : f3.n≤100),Bool.true_and])
      clear hg
      go_wp2_with fail
      refine (refSize_any (f3.n : Int) _).mono ?_
      rintro e w13 ⟨rfl,rfl⟩
      by_cases hks : kSize (f3.n : Int) = 0
      · have HE := Lib.hid (HR.out.trans (if_pos (by rw [HKO.out,decide_eq_false (by simp [hks])])))
        rw [hks]
        clear hks
        obtain ⟨wE,hE,hxE⟩ := n_name (P := fun W => Bx w w.heap.size #[.string ⟨#[]⟩,.int .i64 0,.slice none 0 0] 89 W) (HBZ.out.three_put (Nat.le_refl _) (.string ⟨#[]⟩) (.int .i64 0) (.slice none 0 0))
        have HXE := Lib.hid hxE
        obtain ⟨z0,z1,z2⟩ := HBZ.out.three
        have zf := fun i => HBZ.out.free i
        clear hxE
        go_wp2_with fail
        obtain ⟨e0,e1,e2⟩ := HXE.out.three
        exact bodyPost_ret (v := .tuple #[.agg #[.string ⟨#[]⟩,.int .i64 0,.slice none 0 0],.int .i64 5]) (by simp [results,Tryz.results29,go_sem,e0,e1,e2]) rfl (infRes_no HE.out HXE.out.all)
      have hkb : (kSize (f3.n : Int) == 0) = false := by rw [beq_eq_false_iff_ne]; exact hks
      have HE := Lib.hid (HR.out.trans (if_neg (by rw [HKO.out,decide_eq_true hks]; simp)))
      have HKW := Lib.hid (show (Lit.int .i64 (f3.n : Int)).wf = true by have h := nkf_wf f3.n; rwa [nkf_yes (by rw [HKO.out,decide_eq_true hks])] at h)
      clear hks
      have hg1 := HGL.out
      obtain ⟨n0,n1,n2⟩ := HBN.out.three
      have nf := fun i => HBN.out.free i
      obtain ⟨w14,hw14,h14⟩ := n_name (P := fun W => Bx w w.heap.size #[.string ⟨#[]⟩,.int .i64 0,.slice none 0 0] 89 W∧Bx w w7.heap.size #[.string f1.data,.int .i64 (f3.n : Int),.slice VA acc.length VC] 89 W∧W.ownsRow w.heap.size 2 1 (.slice VA acc.length VC) acc.length (iv acc)) (W := wr.setCell ⟨w7.heap.size,1,none⟩ (.int .i64 (f3.n : Int)))
        ⟨HBZ.out.far_set _ (by omega) (by omega),HBN.out.set (by omega) 1 _,own_set HOD.out (own_far HOD.out HBN.out.1 (by decide)) 1 _⟩
      have H14 := Lib.hid h14
      obtain ⟨m0,m1,m2⟩ := h14.2.1.three
      obtain ⟨z0,z1,z2⟩ := h14.1.three
      have zf := fun i => h14.1.free i
      obtain ⟨wE,hE,hxE⟩ := n_name (P := fun W => Bx w w.heap.size #[.string f1.data,.int .i64 (f3.n : Int),.slice VA acc.length VC] 89 W∧OInf w.heap.size W ⟨f1.data,(f3.n : Int),acc⟩ [.string f1.data,.int .i64 (f3.n : Int),.slice VA acc.length VC])
        ⟨H14.out.1.three_put (Nat.le_refl _) (.string f1.data) (.int .i64 (f3.n : Int)) (.slice VA acc.length VC),_,rfl,n_own_set3 H14.out.2.2 H14.out.1.1 (by decide) _ _ _,⟨by dsimp only; omega,HKW.out,by have := HAC.out; have := HTL.out; dsimp only; omega,HIN.out⟩⟩
      have HXE := Lib.hid hxE
      clear hxE h14 hg1
      go_wp2_with fail
      obtain ⟨e0,e1,e2⟩ := HXE.out.1.three
      rw [HE.out]
      exact bodyPost_ret (v := .tuple #[.agg #[.string f1.data,.int .i64 (f3.n : Int),.slice VA acc.length VC],.int .i64 0]) (by simp [results,Tryz.results29,go_sem,e0,e1,e2]) rfl ⟨_,rfl,HXE.out.2,HXE.out.1.all⟩
end Go.Proofs.YtjjfdlgoacockaaGreat
