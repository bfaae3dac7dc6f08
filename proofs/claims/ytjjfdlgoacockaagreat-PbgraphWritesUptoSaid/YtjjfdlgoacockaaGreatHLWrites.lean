/- The law PbgraphWrites (agatelaw12) in its second form: for every input that can be read and is of the bulk that the statement names the call returns true, and its arguments read behind it as before. -/
import Derived.Test.YtjjfdlgoacockaaGreatHRows
import Derived.Test.YtjjfdlgoacockaaGreatNDims
import Derived.Test.YtjjfdlgoacockaaGreatMNew
import Derived.Test.YtjjfdlgoacockaaGreatBLawR
import Derived.Lib.MinMax
import Derived.Test.YtjjfdlgoacockaaGreatBLast
import Derived.Deep.Cut
import Derived.Deep.CutRange
import Derived.Deep.RegionWith
import Derived.Deep.RegionHeld
import Derived.Test.YtjjfdlgoacockaaGreatHPutT
import Derived.Test.YtjjfdlgoacockaaGreatOOpen
import Derived.Test.YtjjfdlgoacockaaGreatLift
import Derived.Deep.CondSized
import Derived.JoinedCond
namespace Go.Proofs.YtjjfdlgoacockaaGreat
open Go.RowKit M1 M2 M3 M8 M9 M10 M11 M12 Go.Sort
open M7 (nm Ten ck)


set_option maxRecDepth 100000 in
set_option maxHeartbeats 4000000 in
theorem each_inf12 (A : Option Addr) (c : Nat) (L : List ByteArray) (w : World) (hl : L.length ≤ 1048576) (hsz : ∀ b ∈ L, b.size ≤ 1048576) (ha : SR w w.heap.size 1 A L.length (p_tv L)) :
    Calls Tryz.prog 74 #[.slice A L.length c, .func (.func 75) #[] #[]] w (EachRes OInf 106 3 (eachM infoI L []) w) := by
  obtain ⟨i0, hi0, hz0, hz1, hz2⟩ := info_parts infoInfo10
  have HA := Lib.hid ha
  have HSZ := Lib.hid hsz
  have HRD : Hid (∀ b W, b.size ≤ 1048576 → Below w.heap.size w W → Calls Tryz.prog 75 #[.string b] W (ReadRes OInf (infoI b) W)) := Lib.hid (fun b W h _ => readInfo_any b W (by unfold maxLen; omega))
  clear ha hsz
  go_enter Tryz.func74, Tryz.ntmps74
  go_wp2_with fail
  go_loopw [6, 13] (fun V i wr => ∃ (k : Nat) (K : Int) (acc : List Inf), i = .int .i64 K ∧ K = (k : Nat) ∧ k ≤ L.length ∧ acc.length = k ∧ eachM infoI L [] = eachM infoI (L.drop k) acc ∧ DW OInf wr w.heap.size 106 3 V acc ∧ Below w.heap.size w wr) (fun _ i _ => L.length - (intOf i).toNat)
  case atStart => exact ⟨0, _, [], rfl, rfl, by omega, rfl, rfl, dwn _ _ _ _ _, Below.refl _ _⟩
  case round =>
    obtain ⟨k, K, acc, rfl, rfl, hk, hacc, hat, hdw, hb⟩ := hrel
    have HD := Lib.hid hdw
    have HB := Lib.hid hb
    have HAC := Lib.hid hacc
    obtain ⟨VA, VC, rfl⟩ := hdw.form
    by_cases hlt : k < L.length
    · obtain ⟨bb, oo, rfl, -, hx⟩ := n_txt_at (HA.out.below hb) hlt
      have hsk := HSZ.out L[k] (List.getElem_mem hlt)
      have HE1 := Lib.hid (eachM_err (f := infoI) hlt hat)
      have HE2 := Lib.hid (eachM_step (f := infoI) hlt hat)
      have HR := Lib.hid (fun W => HRD.out L[k] W hsk)
      clear hdw hat hacc hb
      generalize eachM infoI L [] = RES at *
      generalize L[k] = X at *
      generalize infoI X = F at HE1 HE2 HR
      obtain ⟨a, C⟩ := F
      dsimp only at HE1 HE2 HR
      go_wp2_with fail
      refine (HR.out _ HB.out).mono ?_
      rintro e w1 ⟨cs, rfl, hq1, hb1⟩
      dsimp only at hq1
      obtain ⟨A5, c5, rfl⟩ := OInf.shape hq1
      have hb2 := (Below.refl w1.heap.size w1).alloc (Nat.le_refl _) (.cells #[.string a.name, .int .i64 a.kind, .slice A5 a.dims.length c5] 106)
      have hbB := step_below hb1 hb2
      have HB1 := Lib.hid (HB.out.trans (hbB.mono HB.out.size))
      have HX1 := Lib.hid (Bx.start w1 #[.string a.name, .int .i64 a.kind, .slice A5 a.dims.length c5] 106)
      obtain ⟨css, ho, hpush⟩ := (HD.out.kept eg_inf hbB).push eg_inf (eg_inf.base (eg_inf.keep hq1 hb2) HB.out.size)
      have HOW := Lib.hid ho
      have HPU := Lib.hid hpush
      clear hb1 hq1 hb2 hbB HR HD HB ho hpush
      by_cases hC : C ≠ 0
      · have hcb : (C != 0) = true := by simpa using hC
        have HE := Lib.hid (HE1.out hC)
        clear hC
        go_wp2_with fail
        go_ret2
        exact eachRes_no HE.out HB1.out
      · obtain rfl : C = 0 := by omega
        have HS := Lib.hid (HE2.out rfl)
        obtain ⟨x0, x1, x2⟩ := HX1.out.three
        clear hC HE1 HE2
        go_wp2_with (at_builtin; refine wpList_append_own _ rfl _ _ 30 rfl w.heap.size 106 i0 _ 3 48 Tryz.underlying30 hi0 hz0 hz1 hz2 rfl (by decide) _ _ _ rfl (HOW.out.alloc _) ⟨w1.heap.size + 1, 0, none⟩ 1 1 [.string a.name, .int .i64 a.kind, .slice A5 a.dims.length c5] rfl rfl (cells_new2 _ _ _ _) ?c2 ?c3 ?c4 ?c5 ?_)
        case c2 => intro u hu; simp at hu; rcases hu with rfl | rfl | rfl <;> rfl
        case c3 => have := HAC.out; unfold maxLen; omega
        case c4 => have := HAC.out; omega
        case c5 => have := HB1.out.size; simp at this ⊢; omega
        intro v' w5 hown' hgrow _
        have HB5 := Lib.hid ((HB1.out.alloc HB1.out.size (.cells #[.string a.name, .int .i64 a.kind, .slice A5 a.dims.length c5] 106)).grown hgrow (by have := HB1.out.size; simp at this ⊢; omega) (fun q hq => (HOW.out.lt q hq).1))
        have HD5 := Lib.hid (HPU.out _ _ _ hown' hgrow)
        clear hown' hgrow x0 x1 x2
        go_wp2_with fail
        go_roundw
        case rel => exact ⟨k + 1, _, acc ++ [a], rfl, by omega, by omega, by rw [List.length_append, HAC.out]; rfl, HS.out, HD5.out, HB5.out⟩
        case measure => simp [intOf]; omega
    · obtain rfl : k = L.length := by omega
      have HE := Lib.hid (eachM_end (f := infoI) hat)
      clear hdw hb hat
      go_wp2_with fail
      go_ret2
      exact eachRes_yes HE.out HD.out HB.out
end Go.Proofs.YtjjfdlgoacockaaGreat
namespace Go.Proofs.YtjjfdlgoacockaaGreat
open Go.RowKit M1 M2 M3 M8 M9 M10 M11 M12 Go.Sort
open M7 (nm Ten ck)

set_option maxRecDepth 100000 in
set_option maxHeartbeats 8000000 in
theorem readGraph_any (b : ByteArray) (B0 : Nat) (fs : List Fl) (mb : Option Nat) (w : World) (hbs : b.size ≤ maxLen) (hfd : ∀ f ∈ fs, f.data.size ≤ maxLen) (hst : o_St B0 fs mb w) :
    Calls Tryz.prog 22 #[.string b, .agg #[.map mb]] w (ModRes (graphB b fs) w) := by
  have HX0 : Hid (G2 w mb ((w.alloc (.cells #[.map mb] 25)).alloc (.cells #[.int .i64 0, .slice none 0 0, .slice none 0 0, .slice none 0 0, .slice none 0 0] 34))) := Lib.hid ⟨(Bx.start w #[.map mb] 25).more _, Bx.two w _ _ 34⟩
  have HST := Lib.hid (fun W (h : Below w.heap.size w W) => hst.below h)
  have HFD := Lib.hid hfd
  have hz : ((w.alloc (.cells #[.map mb] 25)).alloc (.cells #[.int .i64 0, .slice none 0 0, .slice none 0 0, .slice none 0 0, .slice none 0 0] 34)).heap.size = w.heap.size + 1 + 1 := by simp
  have hs := SR.lit ((w.alloc (.cells #[.map mb] 25)).alloc (.cells #[.int .i64 0, .slice none 0 0, .slice none 0 0, .slice none 0 0, .slice none 0 0] 34)) (iv [1, 5, 11, 12]) 3 (size := 1) (n := 4) rfl
  rw [hz] at hs
  have HT : Hid (Calls Tryz.prog 20 #[.string b, .slice (some ⟨w.heap.size + 1 + 1, 0, none⟩) 4 4] (((w.alloc (.cells #[.map mb] 25)).alloc (.cells #[.int .i64 0, .slice none 0 0, .slice none 0 0, .slice none 0 0, .slice none 0 0] 34)).alloc (.cells #[.int .i64 1, .int .i64 5, .int .i64 11, .int .i64 12] 3)) (EachRes OTx 64 1 (textsM b [1, 5, 11, 12]) (((w.alloc (.cells #[.map mb] 25)).alloc (.cells #[.int .i64 0, .slice none 0 0, .slice none 0 0, .slice none 0 0, .slice none 0 0] 34)).alloc (.cells #[.int .i64 1, .int .i64 5, .int .i64 11, .int .i64 12] 3)))) :=
    Lib.hid (textsOf12_any b (some ⟨w.heap.size + 1 + 1, 0, none⟩) 4 [1, 5, 11, 12] _ hbs (by simp) (hs.more (by simp)))
  have hal : Below ((w.alloc (.cells #[.map mb] 25)).alloc (.cells #[.int .i64 0, .slice none 0 0, .slice none 0 0, .slice none 0 0, .slice none 0 0] 34)).heap.size ((w.alloc (.cells #[.map mb] 25)).alloc (.cells #[.int .i64 0, .slice none 0 0, .slice none 0 0, .slice none 0 0, .slice none 0 0] 34)) (((w.alloc (.cells #[.map mb] 25)).alloc (.cells #[.int .i64 0, .slice none 0 0, .slice none 0 0, .slice none 0 0, .slice none 0 0] 34)).alloc (.cells #[.int .i64 1, .int .i64 5, .int .i64 11, .int .i64 12] 3)) := (Below.refl _ _).alloc (Nat.le_refl _) _
  have HAL := Lib.hid hal
  have HN := Lib.hid (fun LL C => graphB_no (b := b) (fs := fs) (LL := LL) (C := C))
  have HY := Lib.hid (fun LL => graphB_yes (b := b) (fs := fs) (LL := LL))
  clear hst hfd hz hs hal
  generalize graphB b fs = R at *
  generalize hTM : textsM b [1, 5, 11, 12] = TM at *
  obtain ⟨LL, C⟩ := TM
  have HN := Lib.hid (HN.out LL C rfl)
  have HY := Lib.hid (fun h : C = 0 => HY.out LL (by rw [h]))
  clear hTM
  go_enter Tryz.func22, Tryz.ntmps22
  go_wp2_with fail
  refine HT.out.mono ?_
  rintro e w1 ⟨v, rfl, hdw, hb1⟩
  dsimp only at hdw
  have HX1 := Lib.hid (HX0.out.below (step_below HAL.out hb1))
  have hdw := hdw.based eg_tx (B' := w.heap.size) (by simp; omega)
  clear hb1 HT HX0 HAL
  by_cases hC : C ≠ 0
  · have hcb : (C != 0) = true := by simpa using hC
    have HE := Lib.hid (HN.out hC)
    obtain ⟨A1, c1, rfl⟩ := hdw.form
    clear hC hdw HY HN
    obtain ⟨wE, hE, hxE⟩ := n_name (P := fun W => Bx w (w.heap.size + 1) #[.int .i64 0, .slice none 0 0, .slice none 0 0, .slice none 0 0, .slice none 0 0] 34 W) (HX1.out.b.five_put (Nat.le_succ _) (.int .i64 0) (.slice none 0 0) (.slice none 0 0) (.slice none 0 0) (.slice none 0 0))
    have HXE := Lib.hid hxE
    obtain ⟨z0, z1, z2, z3, z4⟩ := HX1.out.b.five
    have zf := fun i => HX1.out.b.free i
    clear hxE
    go_wp2_with fail
    obtain ⟨e0, e1, e2, e3, e4⟩ := HXE.out.five
    exact bodyPost_ret (v := .tuple #[.agg #[.int .i64 0, .slice none 0 0, .slice none 0 0, .slice none 0 0, .slice none 0 0], .int .i64 C]) (by simp [results, Tryz.results22, go_sem, e0, e1, e2, e3, e4]) rfl (modRes_no HE.out HXE.out.all)
  obtain rfl : C = 0 := by omega
  obtain ⟨l, rfl, hw, hgr, hll, hlm⟩ := HY.out rfl
  subst hgr
  obtain ⟨g, cap, va, vb, vc, vd, rfl, ⟨k0, k1, k2, k3⟩, ht4⟩ := dw_four hdw
  obtain ⟨Aa, ca, rfl, -, -⟩ := own_form ht4.a
  obtain ⟨Ab, cb, rfl, -, -⟩ := own_form ht4.b
  obtain ⟨Ac, cc, rfl, -, -⟩ := own_form ht4.c
  obtain ⟨Ad, cd, rfl, -, -⟩ := own_form ht4.d
  have HT4 := Lib.hid (ht4.keep (Below.refl w1.heap.size w1).drew)
  have HX2 := Lib.hid HX1.out.drew
  have HW := Lib.hid hw
  have HMA := Lib.hid (many_is l)
  have HLM := Lib.hid hlm
  have HLL := Lib.hid (fun k => txL_len hll k)
  clear hC hdw HY HN ht4 hw hlm hll
  go_wp2_with fail
  go_region
  have NMANY := Lib.hid (fun h => graphL_many (v := 0) (fs := fs) (l := l) HW.out h)
  have NN := Lib.hid (fun h2 c => graphL_nodes (v := 0) (fs := fs) (l := l) (c := c) HW.out h2)
  have NT := Lib.hid (fun h2 h3 c => graphL_inits (v := 0) (fs := fs) (l := l) (c := c) HW.out h2 h3)
  have NI := Lib.hid (fun h2 h3 h4 c => graphL_ins (v := 0) (fs := fs) (l := l) (c := c) HW.out h2 h3 h4)
  have NO := Lib.hid (fun h2 h3 h4 h5 c => graphL_outs (v := 0) (fs := fs) (l := l) (c := c) HW.out h2 h3 h4 h5)
  have NK := Lib.hid (fun ns ts is os h2 => graphL_all (v := 0) (fs := fs) (l := l) (ns := ns) (ts := ts) (is := is) (os := os) HW.out h2)
  have HS1 := Lib.hid (txL_mem HLM.out 1)
  have HS5 := Lib.hid (txL_mem HLM.out 5)
  have HS11 := Lib.hid (txL_mem HLM.out 11)
  have HS12 := Lib.hid (txL_mem HLM.out 12)
  have HL1 := Lib.hid (HLL.out 1)
  have HL5 := Lib.hid (HLL.out 5)
  have HL11 := Lib.hid (HLL.out 11)
  have HL12 := Lib.hid (HLL.out 12)
  clear HLL HLM HW k0 k1 k2 k3 HX1
  generalize w1.drew = W at *
  generalize tooMany l = tm at *
  generalize graphL 0 l fs = R at *
  generalize txL l 1 = L1 at *
  generalize txL l 5 = L5 at *
  generalize txL l 11 = L11 at *
  generalize txL l 12 = L12 at *
  by_cases h1 : (1024 : Int) < max (L1.length : Int) (L5.length : Int)
  · have HE := Lib.hid (NMANY.out (by rw [HMA.out]; simp [h1]))
    clear NN NT NI NO NK
    obtain ⟨wE, hE, hxE⟩ := n_name (P := fun W => Bx w (w.heap.size + 1) #[.int .i64 0, .slice none 0 0, .slice none 0 0, .slice none 0 0, .slice none 0 0] 34 W) (HX2.out.b.five_put (Nat.le_succ _) (.int .i64 0) (.slice none 0 0) (.slice none 0 0) (.slice none 0 0) (.slice none 0 0))
    have HXE := Lib.hid hxE
    obtain ⟨z0, z1, z2, z3, z4⟩ := HX2.out.b.five
    have zf := fun i => HX2.out.b.free i
    clear hxE
    go_wp2_with fail
    obtain ⟨e0, e1, e2, e3, e4⟩ := HXE.out.five
    exact bodyPost_ret (v := .tuple #[.agg #[.int .i64 0, .slice none 0 0, .slice none 0 0, .slice none 0 0, .slice none 0 0], .int .i64 7]) (by simp [results, Tryz.results22, go_sem, e0, e1, e2, e3, e4]) rfl (modRes_no HE.out HXE.out.all)
  by_cases h2 : (64 : Int) < max (L11.length : Int) (L12.length : Int)
  · have HE := Lib.hid (NMANY.out (by rw [HMA.out]; simp [h2]))
    clear NN NT NI NO NK
    obtain ⟨wE, hE, hxE⟩ := n_name (P := fun W => Bx w (w.heap.size + 1) #[.int .i64 0, .slice none 0 0, .slice none 0 0, .slice none 0 0, .slice none 0 0] 34 W) (HX2.out.b.five_put (Nat.le_succ _) (.int .i64 0) (.slice none 0 0) (.slice none 0 0) (.slice none 0 0) (.slice none 0 0))
    have HXE := Lib.hid hxE
    obtain ⟨z0, z1, z2, z3, z4⟩ := HX2.out.b.five
    have zf := fun i => HX2.out.b.free i
    clear hxE
    go_wp2_with fail
    obtain ⟨e0, e1, e2, e3, e4⟩ := HXE.out.five
    exact bodyPost_ret (v := .tuple #[.agg #[.int .i64 0, .slice none 0 0, .slice none 0 0, .slice none 0 0, .slice none 0 0], .int .i64 7]) (by simp [results, Tryz.results22, go_sem, e0, e1, e2, e3, e4]) rfl (modRes_no HE.out HXE.out.all)
  have HTM := Lib.hid (show tm = false by rw [HMA.out]; simp [h1, h2])
  have HP := Lib.hid (HX2.out.gp HT4.out)
  have HCN := Lib.hid (each_nod12 Aa ca L1 _ HL1.out HS1.out (SR.of_own HP.out.x.a))
  have HW := Lib.hid (Eq.refl W.heap.size)
  clear HX2 HT4 HMA NMANY
  obtain ⟨RQN, HQN⟩ : ∃ r, Hid (eachM nodeI L1 [] = r) := ⟨_, Lib.hid rfl⟩
  rw [HQN.out] at HCN
  obtain ⟨ns, CN⟩ := RQN
  go_wp2_with fail
  refine HCN.out.mono ?_
  rintro e wN ⟨vN, rfl, hdw, hb⟩
  dsimp only at hdw
  obtain ⟨AN, cN, rfl⟩ := hdw.form
  have hbx := HP.out.g.m.below hb
  obtain ⟨m0, m1, m2, m3, m4⟩ := hbx.five
  have mf := fun i => hbx.free i
  obtain ⟨WN, hWN, hp⟩ := n_name (HP.out.st4 hb hdw)
  have HP := Lib.hid hp
  clear hbx hdw hb hp HCN
  by_cases hC : CN ≠ 0
  · have hcb : (CN != 0) = true := by simpa using hC
    have HE := Lib.hid (NN.out HTM.out CN (by rw [HQN.out]) hC)
    clear hC NN NT NI NO NK
    obtain ⟨wE, hE, hxE⟩ := n_name (P := fun W => Bx w (w.heap.size + 1) #[.int .i64 0, .slice none 0 0, .slice none 0 0, .slice none 0 0, .slice none 0 0] 34 W) (HP.out.g.two.b.five_put (Nat.le_succ _) (.int .i64 0) (.slice none 0 0) (.slice none 0 0) (.slice none 0 0) (.slice none 0 0))
    have HXE := Lib.hid hxE
    obtain ⟨z0, z1, z2, z3, z4⟩ := HP.out.g.two.b.five
    have zf := fun i => HP.out.g.two.b.free i
    clear hxE
    go_wp2_with fail
    obtain ⟨e0, e1, e2, e3, e4⟩ := HXE.out.five
    exact bodyPost_ret (v := .tuple #[.agg #[.int .i64 0, .slice none 0 0, .slice none 0 0, .slice none 0 0, .slice none 0 0], .int .i64 CN]) (by simp [results, Tryz.results22, go_sem, e0, e1, e2, e3, e4]) rfl (modRes_no HE.out HXE.out.all)
  obtain rfl : CN = 0 := by omega
  clear hC
  have HCT := Lib.hid (each_ten12 w.heap.size B0 fs mb Ab cb L5 _ HL5.out HS5.out HFD.out HP.out.g.two.a.1 (HST.out _ HP.out.all) (SR.of_own HP.out.x.b))
  obtain ⟨RQT, HQT⟩ : ∃ r, Hid (eachM (fun b => rd9 b fs) L5 [] = r) := ⟨_, Lib.hid rfl⟩
  rw [HQT.out] at HCT
  obtain ⟨ts, CT⟩ := RQT
  go_wp2_with fail
  refine HCT.out.mono ?_
  rintro e wT ⟨vT, rfl, hdw, hb⟩
  dsimp only at hdw
  obtain ⟨AT, cT, rfl⟩ := hdw.form
  have hbx := HP.out.g.m.below hb
  obtain ⟨m0, m1, m2, m3, m4⟩ := hbx.five
  have mf := fun i => hbx.free i
  obtain ⟨WT, hWT, hp⟩ := n_name (HP.out.st3 hb hdw)
  have HP := Lib.hid hp
  clear hbx hdw hb hp HCT
  by_cases hC : CT ≠ 0
  · have hcb : (CT != 0) = true := by simpa using hC
    have HE := Lib.hid (NT.out HTM.out (by rw [HQN.out]) CT (by rw [HQT.out]) hC)
    clear hC NN NT NI NO NK
    obtain ⟨wE, hE, hxE⟩ := n_name (P := fun W => Bx w (w.heap.size + 1) #[.int .i64 0, .slice none 0 0, .slice none 0 0, .slice none 0 0, .slice none 0 0] 34 W) (HP.out.g.two.b.five_put (Nat.le_succ _) (.int .i64 0) (.slice none 0 0) (.slice none 0 0) (.slice none 0 0) (.slice none 0 0))
    have HXE := Lib.hid hxE
    obtain ⟨z0, z1, z2, z3, z4⟩ := HP.out.g.two.b.five
    have zf := fun i => HP.out.g.two.b.free i
    clear hxE
    go_wp2_with fail
    obtain ⟨e0, e1, e2, e3, e4⟩ := HXE.out.five
    exact bodyPost_ret (v := .tuple #[.agg #[.int .i64 0, .slice none 0 0, .slice none 0 0, .slice none 0 0, .slice none 0 0], .int .i64 CT]) (by simp [results, Tryz.results22, go_sem, e0, e1, e2, e3, e4]) rfl (modRes_no HE.out HXE.out.all)
  obtain rfl : CT = 0 := by omega
  clear hC
  have HCI := Lib.hid (each_inf12 Ac cc L11 _ HL11.out HS11.out (SR.of_own HP.out.x.c))
  obtain ⟨RQI, HQI⟩ : ∃ r, Hid (eachM infoI L11 [] = r) := ⟨_, Lib.hid rfl⟩
  rw [HQI.out] at HCI
  obtain ⟨is, CI⟩ := RQI
  go_wp2_with fail
  refine HCI.out.mono ?_
  rintro e wI ⟨vI, rfl, hdw, hb⟩
  dsimp only at hdw
  obtain ⟨AI, cI, rfl⟩ := hdw.form
  have hbx := HP.out.g.m.below hb
  obtain ⟨m0, m1, m2, m3, m4⟩ := hbx.five
  have mf := fun i => hbx.free i
  obtain ⟨WI, hWI, hp⟩ := n_name (HP.out.st1 hb hdw)
  have HP := Lib.hid hp
  clear hbx hdw hb hp HCI
  by_cases hC : CI ≠ 0
  · have hcb : (CI != 0) = true := by simpa using hC
    have HE := Lib.hid (NI.out HTM.out (by rw [HQN.out]) (by rw [HQT.out]) CI (by rw [HQI.out]) hC)
    clear hC NN NT NI NO NK
    obtain ⟨wE, hE, hxE⟩ := n_name (P := fun W => Bx w (w.heap.size + 1) #[.int .i64 0, .slice none 0 0, .slice none 0 0, .slice none 0 0, .slice none 0 0] 34 W) (HP.out.g.two.b.five_put (Nat.le_succ _) (.int .i64 0) (.slice none 0 0) (.slice none 0 0) (.slice none 0 0) (.slice none 0 0))
    have HXE := Lib.hid hxE
    obtain ⟨z0, z1, z2, z3, z4⟩ := HP.out.g.two.b.five
    have zf := fun i => HP.out.g.two.b.free i
    clear hxE
    go_wp2_with fail
    obtain ⟨e0, e1, e2, e3, e4⟩ := HXE.out.five
    exact bodyPost_ret (v := .tuple #[.agg #[.int .i64 0, .slice none 0 0, .slice none 0 0, .slice none 0 0, .slice none 0 0], .int .i64 CI]) (by simp [results, Tryz.results22, go_sem, e0, e1, e2, e3, e4]) rfl (modRes_no HE.out HXE.out.all)
  obtain rfl : CI = 0 := by omega
  clear hC
  have HCO := Lib.hid (each_inf12 Ad cd L12 _ HL12.out HS12.out (SR.of_own HP.out.x.d))
  obtain ⟨RQO, HQO⟩ : ∃ r, Hid (eachM infoI L12 [] = r) := ⟨_, Lib.hid rfl⟩
  rw [HQO.out] at HCO
  obtain ⟨os, CO⟩ := RQO
  go_wp2_with fail
  refine HCO.out.mono ?_
  rintro e wO ⟨vO, rfl, hdw, hb⟩
  dsimp only at hdw
  obtain ⟨AO, cO, rfl⟩ := hdw.form
  have hbx := HP.out.g.m.below hb
  obtain ⟨m0, m1, m2, m3, m4⟩ := hbx.five
  have mf := fun i => hbx.free i
  obtain ⟨WO, hWO, hp⟩ := n_name (HP.out.st2 hb hdw)
  have HP := Lib.hid hp
  clear hbx hdw hb hp HCO
  by_cases hC : CO ≠ 0
  · have hcb : (CO != 0) = true := by simpa using hC
    have HE := Lib.hid (NO.out HTM.out (by rw [HQN.out]) (by rw [HQT.out]) (by rw [HQI.out]) CO (by rw [HQO.out]) hC)
    clear hC NN NT NI NO NK
    obtain ⟨wE, hE, hxE⟩ := n_name (P := fun W => Bx w (w.heap.size + 1) #[.int .i64 0, .slice none 0 0, .slice none 0 0, .slice none 0 0, .slice none 0 0] 34 W) (HP.out.g.two.b.five_put (Nat.le_succ _) (.int .i64 0) (.slice none 0 0) (.slice none 0 0) (.slice none 0 0) (.slice none 0 0))
    have HXE := Lib.hid hxE
    obtain ⟨z0, z1, z2, z3, z4⟩ := HP.out.g.two.b.five
    have zf := fun i => HP.out.g.two.b.free i
    clear hxE
    go_wp2_with fail
    obtain ⟨e0, e1, e2, e3, e4⟩ := HXE.out.five
    exact bodyPost_ret (v := .tuple #[.agg #[.int .i64 0, .slice none 0 0, .slice none 0 0, .slice none 0 0, .slice none 0 0], .int .i64 CO]) (by simp [results, Tryz.results22, go_sem, e0, e1, e2, e3, e4]) rfl (modRes_no HE.out HXE.out.all)
  obtain rfl : CO = 0 := by omega
  clear hC
  have HE := Lib.hid (NK.out ns ts is os HTM.out HQN.out HQT.out HQI.out HQO.out)
  have HPL := Lib.hid HP.out.g.lt
  obtain ⟨wE, hE, hxE⟩ := n_name (P := fun W => Bx w (w.heap.size + 1) #[.int .i64 0, .slice AI is.length cI, .slice AO os.length cO, .slice AT ts.length cT, .slice AN ns.length cN] 34 W ∧ MRows W w.heap.size is os ts ns (.slice AI is.length cI) (.slice AO os.length cO) (.slice AT ts.length cT) (.slice AN ns.length cN))
    ⟨HP.out.g.two.b.five_put (Nat.le_succ _) (.int .i64 0) (.slice AI is.length cI) (.slice AO os.length cO) (.slice AT ts.length cT) (.slice AN ns.length cN), HP.out.r.set5 HP.out.g.two.b.1 _ _ _ _ _⟩
  have HXE := Lib.hid hxE
  obtain ⟨z0, z1, z2, z3, z4⟩ := HP.out.g.two.b.five
  have zf := fun i => HP.out.g.two.b.free i
  obtain ⟨y0, y1, y2, y3, y4⟩ := HP.out.g.m.five
  clear hxE
  go_wp2_with fail
  obtain ⟨e0, e1, e2, e3, e4⟩ := HXE.out.1.five
  exact bodyPost_ret (v := .tuple #[.agg #[.int .i64 0, .slice AI is.length cI, .slice AO os.length cO, .slice AT ts.length cT, .slice AN ns.length cN], .int .i64 0]) (by simp [results, Tryz.results22, go_sem, e0, e1, e2, e3, e4]) rfl (modRes_yes HE.out HXE.out.2 HXE.out.1.all)
end Go.Proofs.YtjjfdlgoacockaaGreat
namespace Go.Proofs.YtjjfdlgoacockaaGreat
open Go.RowKit M1 M2 M3 M8 M9 M10 M11 M12 Go.Sort
open M7 (nm Ten ck)

theorem joined_from {M : Nat} : ∀ (l : List ByteArray) (s : ByteArray), (∀ b ∈ l, b.size ≤ M) → (l.foldl (fun s t => s ++ t) s).size ≤ s.size + l.length * M
  | [], s, _ => by simp
  | a :: l, s, h => by
    have h1 := joined_from l (s ++ a) fun b hb => h b (List.mem_cons_of_mem _ hb)
    have h2 := h a List.mem_cons_self
    rw [ByteArray.size_append] at h1
    rw [List.foldl_cons, List.length_cons, Nat.succ_mul]
    omega
theorem joined_le {M : Nat} {l : List ByteArray} (h : ∀ b ∈ l, b.size ≤ M) : (joined l).size ≤ l.length * M := by
  have h1 := joined_from l ⟨#[]⟩ h
  have z : (⟨#[]⟩ : ByteArray).size = 0 := rfl
  unfold joined
  omega
theorem G3.put5 {w W : World} {mb : Option Nat} {gm : Nat} {a0 a1 a2 a3 a4 : Value} (h : G3 w mb gm #[a0, a1, a2, a3, a4] W) (u0 u1 u2 u3 u4 : Value) :
    G3 w mb gm #[u0, u1, u2, u3, u4] (((((W.setCell ⟨gm, 0, none⟩ u0).setCell ⟨gm, 1, none⟩ u1).setCell ⟨gm, 2, none⟩ u2).setCell ⟨gm, 3, none⟩ u3).setCell ⟨gm, 4, none⟩ u4) := ((((h.set 0 u0).set 1 u1).set 2 u2).set 3 u3).set 4 u4
theorem G3.drew {w W : World} {mb : Option Nat} {gm : Nat} {mc : Array Value} (h : G3 w mb gm mc W) : G3 w mb gm mc W.drew := ⟨h.two.drew, h.m.drew10, h.lt⟩
def GR (w : World) (mb : Option Nat) (gm : Nat) (o : Int) (m : Mod) (W : World) : Prop :=
  ∃ A1 c1 A2 c2 A3 c3 A4 c4, G3 w mb gm #[.int .i64 o, .slice A1 m.inputs.length c1, .slice A2 m.outputs.length c2, .slice A3 m.inits.length c3, .slice A4 m.nodes.length c4] W ∧ MRows W w.heap.size m.inputs m.outputs m.inits m.nodes (.slice A1 m.inputs.length c1) (.slice A2 m.outputs.length c2) (.slice A3 m.inits.length c3) (.slice A4 m.nodes.length c4)
theorem modelM_no {b : ByteArray} {fs : List Fl} {LL : List (List ByteArray)} {C : Int} (h : textsM b [7, 8] = (LL, C)) (hC : C ≠ 0) : modelM b fs = (zM12, C) := by
  unfold textsM at h
  unfold modelM
  by_cases hf : (fields b).2 ≠ 0
  · rw [if_pos hf] at h ⊢; injection h with _ h2; rw [h2]
  · rw [if_neg hf] at h ⊢
    rw [textsG_two] at h
    split at h
    · rename_i hw
      injection h with _ h2
      rw [modelL_wire hw, h2]
    · injection h with _ h2; exact absurd h2.symm hC
theorem modelM_yes {b : ByteArray} {fs : List Fl} {LL : List (List ByteArray)} (h : textsM b [7, 8] = (LL, 0)) :
    ∃ g o, LL = [g, o] ∧ g.length ≤ 1048576 ∧ o.length ≤ 1048576 ∧ (∀ b ∈ g, b.size ≤ 1048576) ∧ (∀ b ∈ o, b.size ≤ 1048576) ∧ (joined g).size ≤ 1048576 * 1048576 ∧
      ((verM o).2 ≠ 0 → modelM b fs = (zM12, (verM o).2)) ∧ ((verM o).2 = 0 → g.length = 0 → modelM b fs = (zM12, 18)) ∧
      ((verM o).2 = 0 → g.length ≠ 0 → (graphB (joined g) fs).2 ≠ 0 → modelM b fs = (zM12, (graphB (joined g) fs).2)) ∧
      ((verM o).2 = 0 → g.length ≠ 0 → (graphB (joined g) fs).2 = 0 → modelM b fs = (⟨(verM o).1, (graphB (joined g) fs).1.inputs, (graphB (joined g) fs).1.outputs, (graphB (joined g) fs).1.inits, (graphB (joined g) fs).1.nodes⟩, 0)) := by
  unfold textsM at h
  have hM : (fields b).2 = 0 → modelM b fs = modelL (fields b).1 fs := modelM_ok
  by_cases hf : (fields b).2 ≠ 0
  · rw [if_pos hf] at h; injection h with _ h2; omega
  · rw [if_neg hf] at h
    rw [hM (by omega)]
    have hll := fields_len b
    have hlm : ∀ f ∈ (fields b).1, f.data.size ≤ 1048576 := fun f hf => (fields_ok f hf).2
    generalize (fields b).1 = l at *
    rw [textsG_two] at h
    split at h
    · injection h with _ h2; omega
    · rename_i hw
      injection h with h1 _
      refine ⟨txL l 7, txL l 8, h1.symm, txL_len hll 7, txL_len hll 8, txL_mem hlm 7, txL_mem hlm 8, ?_, ?_, ?_, ?_, ?_⟩
      · exact Nat.le_trans (joined_le (txL_mem hlm 7)) (Nat.mul_le_mul_right _ (txL_len hll 7))
      · unfold verM
        by_cases h0 : opErr (txL l 8) ≠ 0
        · rw [if_pos h0]; intro _; exact modelL_ops hw h0
        · rw [if_neg h0]
          by_cases hb : opBad (txL l 8) = true
          · rw [if_pos hb]; intro _; exact modelL_bad hw (by omega) hb
          · rw [if_neg hb]; intro h; exact absurd rfl h
      all_goals
        unfold verM
        by_cases h0 : opErr (txL l 8) ≠ 0
        · rw [if_pos h0]; intro h; dsimp only at h; omega
        rw [if_neg h0]
        by_cases hb : opBad (txL l 8) = true
        · rw [if_pos hb]; intro h; simp at h
        rw [if_neg hb]
        have h0' : opErr (txL l 8) = 0 := by omega
        have hb' : opBad (txL l 8) = false := by simpa using hb
      · intro _ h4; exact modelL_none hw h0' hb' h4
      all_goals
        intro _ h4 h5
        unfold graphB at h5 ⊢
        by_cases hg : (fields (joined (txL l 7))).2 ≠ 0
      · rw [modelL_fields hw h0' hb' h4 hg, if_pos hg]
      · rw [if_neg hg] at h5 ⊢
        rw [modelL_graph hw h0' hb' h4 (by omega), graphL_ver, if_pos h5]
      · rw [if_pos hg] at h5; dsimp only at h5; omega
      · rw [if_neg hg] at h5 ⊢
        rw [modelL_graph hw h0' hb' h4 (by omega), graphL_ver, if_neg (by rw [h5]; simp)]

set_option maxRecDepth 100000 in
set_option maxHeartbeats 8000000 in
theorem read12_any (b : ByteArray) (B0 : Nat) (fs : List Fl) (mb : Option Nat) (w : World) (hbs : b.size ≤ maxLen) (hfd : ∀ f ∈ fs, f.data.size ≤ maxLen) (hst : o_St B0 fs mb w) :
    Calls Tryz.prog 7 #[.string b, .agg #[.map mb]] w (ModRes (modelM b fs) w) := by
  have HX0 : Hid (G2 w mb ((w.alloc (.cells #[.map mb] 25)).alloc (.cells #[.int .i64 0, .slice none 0 0, .slice none 0 0, .slice none 0 0, .slice none 0 0] 34))) := Lib.hid ⟨(Bx.start w #[.map mb] 25).more _, Bx.two w _ _ 34⟩
  have HST := Lib.hid (fun W (h : Below w.heap.size w W) => hst.below h)
  have HFD := Lib.hid hfd
  have hz : ((w.alloc (.cells #[.map mb] 25)).alloc (.cells #[.int .i64 0, .slice none 0 0, .slice none 0 0, .slice none 0 0, .slice none 0 0] 34)).heap.size = w.heap.size + 1 + 1 := by simp
  have hs := SR.lit ((w.alloc (.cells #[.map mb] 25)).alloc (.cells #[.int .i64 0, .slice none 0 0, .slice none 0 0, .slice none 0 0, .slice none 0 0] 34)) (iv [7, 8]) 3 (size := 1) (n := 2) rfl
  rw [hz] at hs
  have HT : Hid (Calls Tryz.prog 20 #[.string b, .slice (some ⟨w.heap.size + 1 + 1, 0, none⟩) 2 2] (((w.alloc (.cells #[.map mb] 25)).alloc (.cells #[.int .i64 0, .slice none 0 0, .slice none 0 0, .slice none 0 0, .slice none 0 0] 34)).alloc (.cells #[.int .i64 7, .int .i64 8] 3)) (EachRes OTx 64 1 (textsM b [7, 8]) (((w.alloc (.cells #[.map mb] 25)).alloc (.cells #[.int .i64 0, .slice none 0 0, .slice none 0 0, .slice none 0 0, .slice none 0 0] 34)).alloc (.cells #[.int .i64 7, .int .i64 8] 3)))) :=
    Lib.hid (textsOf12_any b (some ⟨w.heap.size + 1 + 1, 0, none⟩) 2 [7, 8] _ hbs (by simp) (hs.more (by simp)))
  have hal : Below ((w.alloc (.cells #[.map mb] 25)).alloc (.cells #[.int .i64 0, .slice none 0 0, .slice none 0 0, .slice none 0 0, .slice none 0 0] 34)).heap.size ((w.alloc (.cells #[.map mb] 25)).alloc (.cells #[.int .i64 0, .slice none 0 0, .slice none 0 0, .slice none 0 0, .slice none 0 0] 34)) (((w.alloc (.cells #[.map mb] 25)).alloc (.cells #[.int .i64 0, .slice none 0 0, .slice none 0 0, .slice none 0 0, .slice none 0 0] 34)).alloc (.cells #[.int .i64 7, .int .i64 8] 3)) := (Below.refl _ _).alloc (Nat.le_refl _) _
  have HAL := Lib.hid hal
  have HN := Lib.hid (fun LL C => modelM_no (b := b) (fs := fs) (LL := LL) (C := C))
  have HY := Lib.hid (fun LL => modelM_yes (b := b) (fs := fs) (LL := LL))
  clear hst hfd hz hs hal
  generalize modelM b fs = R at *
  generalize hTM : textsM b [7, 8] = TM at *
  obtain ⟨LL, C⟩ := TM
  have HN := Lib.hid (HN.out LL C rfl)
  have HY := Lib.hid (fun h : C = 0 => HY.out LL (by rw [h]))
  clear hTM
  go_enter Tryz.func7, Tryz.ntmps7
  go_wp2_with fail
  refine HT.out.mono ?_
  rintro e w1 ⟨v, rfl, hdw, hb1⟩
  dsimp only at hdw
  have HX1 := Lib.hid (HX0.out.below (step_below HAL.out hb1))
  have hdw := hdw.based eg_tx (B' := w.heap.size) (by simp; omega)
  clear hb1 HT HX0 HAL
  by_cases hC : C ≠ 0
  · have hcb : (C != 0) = true := by simpa using hC
    have HE := Lib.hid (HN.out hC)
    obtain ⟨A1, c1, rfl⟩ := hdw.form
    clear hC hdw HY HN
    obtain ⟨wE, hE, hxE⟩ := n_name (P := fun W => Bx w (w.heap.size + 1) #[.int .i64 0, .slice none 0 0, .slice none 0 0, .slice none 0 0, .slice none 0 0] 34 W) (HX1.out.b.five_put (Nat.le_succ _) (.int .i64 0) (.slice none 0 0) (.slice none 0 0) (.slice none 0 0) (.slice none 0 0))
    have HXE := Lib.hid hxE
    obtain ⟨z0, z1, z2, z3, z4⟩ := HX1.out.b.five
    have zf := fun i => HX1.out.b.free i
    clear hxE
    go_wp2_with fail
    obtain ⟨e0, e1, e2, e3, e4⟩ := HXE.out.five
    exact bodyPost_ret (v := .tuple #[.agg #[.int .i64 0, .slice none 0 0, .slice none 0 0, .slice none 0 0, .slice none 0 0], .int .i64 C]) (by simp [results, Tryz.results7, go_sem, e0, e1, e2, e3, e4]) rfl (modRes_no HE.out HXE.out.all)
  obtain rfl : C = 0 := by omega
  obtain ⟨g, o, rfl, hgl, hol, hgm, hom, hjs, hA, hB, hD, hF⟩ := HY.out rfl
  obtain ⟨gb, cap, va, vb, rfl, k0, k1, hra, hrb⟩ := dw_two hdw
  obtain ⟨Aa, ca, rfl, hca, -⟩ := own_form hra
  obtain ⟨Ab, cb, rfl, -, -⟩ := own_form hrb
  have HCA := Lib.hid hca
  have HRA := Lib.hid (own_keep hra (Below.refl w1.heap.size w1).drew)
  have HX2 := Lib.hid HX1.out.drew
  have HV := Lib.hid (readVersion_any Ab cb o w1.drew hol hom (SR.of_own (own_keep hrb (Below.refl w1.heap.size w1).drew)))
  have HGL := Lib.hid hgl
  have HGM := Lib.hid hgm
  have HJS := Lib.hid hjs
  have HA := Lib.hid hA
  have HB := Lib.hid hB
  have HD := Lib.hid hD
  have HF := Lib.hid hF
  clear hC hdw HY HN hra hrb HX1 hca hgl hol hgm hom hjs hA hB hD hF
  generalize verM o = VM at *
  obtain ⟨ver, CV⟩ := VM
  dsimp only at HV HA HB HD HF
  go_wp2_with fail
  go_region
  generalize w1.drew = W at *
  clear k0 k1
  go_wp2_with fail
  refine HV.out.mono ?_
  rintro e w2 ⟨rfl, hb2⟩
  have HX3 := Lib.hid (HX2.out.below hb2)
  have HRA := Lib.hid (own_keep HRA.out hb2)
  clear hb2 HX2 HV
  by_cases hC : CV ≠ 0
  · have hcb : (CV != 0) = true := by simpa using hC
    have HE := Lib.hid (HA.out hC)
    clear hC HA HB HD HF
    obtain ⟨wE, hE, hxE⟩ := n_name (P := fun W => Bx w (w.heap.size + 1) #[.int .i64 0, .slice none 0 0, .slice none 0 0, .slice none 0 0, .slice none 0 0] 34 W) (HX3.out.b.five_put (Nat.le_succ _) (.int .i64 0) (.slice none 0 0) (.slice none 0 0) (.slice none 0 0) (.slice none 0 0))
    have HXE := Lib.hid hxE
    obtain ⟨z0, z1, z2, z3, z4⟩ := HX3.out.b.five
    have zf := fun i => HX3.out.b.free i
    clear hxE
    go_wp2_with fail
    obtain ⟨e0, e1, e2, e3, e4⟩ := HXE.out.five
    exact bodyPost_ret (v := .tuple #[.agg #[.int .i64 0, .slice none 0 0, .slice none 0 0, .slice none 0 0, .slice none 0 0], .int .i64 CV]) (by simp [results, Tryz.results7, go_sem, e0, e1, e2, e3, e4]) rfl (modRes_no HE.out HXE.out.all)
  obtain rfl : CV = 0 := by omega
  clear hC HA
  by_cases hg0 : g.length = 0
  · have hgb : ((g.length : Int) == 0) = true := by rw [hg0]; rfl
    have HE := Lib.hid (HB.out rfl hg0)
    clear hg0 HB HD HF
    obtain ⟨wE, hE, hxE⟩ := n_name (P := fun W => Bx w (w.heap.size + 1) #[.int .i64 0, .slice none 0 0, .slice none 0 0, .slice none 0 0, .slice none 0 0] 34 W) (HX3.out.b.five_put (Nat.le_succ _) (.int .i64 0) (.slice none 0 0) (.slice none 0 0) (.slice none 0 0) (.slice none 0 0))
    have HXE := Lib.hid hxE
    obtain ⟨z0, z1, z2, z3, z4⟩ := HX3.out.b.five
    have zf := fun i => HX3.out.b.free i
    clear hxE
    go_wp2_with fail
    obtain ⟨e0, e1, e2, e3, e4⟩ := HXE.out.five
    exact bodyPost_ret (v := .tuple #[.agg #[.int .i64 0, .slice none 0 0, .slice none 0 0, .slice none 0 0, .slice none 0 0], .int .i64 18]) (by simp [results, Tryz.results7, go_sem, e0, e1, e2, e3, e4]) rfl (modRes_no HE.out HXE.out.all)
  have hgb : ((g.length : Int) == 0) = false := by rw [beq_eq_false_iff_ne]; omega
  have HE := Lib.hid (HD.out rfl hg0)
  have HK := Lib.hid (HF.out rfl hg0)
  clear HB HD HF hg0
  go_upto_region 10 with fail
  have HX3 := Lib.hid HX3.out
  have HRA := Lib.hid HRA.out
  have HJ := Lib.hid (fun W' (h : Below w2.heap.size w2 W') => join_any Aa ca g W' HGL.out HCA.out HGM.out (((SR.of_own HRA.out).below h).more h.size))
  have HG := Lib.hid (fun W' (h : Below w.heap.size w W') => readGraph_any (joined g) B0 fs mb W' (by have := HJS.out; unfold maxLen; omega) HFD.out (HST.out W' h))
  generalize joined g = J at *
  generalize graphB J fs = GB at *
  obtain ⟨m, CG⟩ := GB
  dsimp only at HG HE HK
  have HB0 := Lib.hid (Below.refl w2.heap.size w2)
  go_cut [7, 11] from 41 (fun s7 s11 wx => ∃ gm, s7 = .int .i64 CG ∧ s11 = .pointer (some ⟨gm, 0, none⟩) ∧ GR w mb gm m.opset m wx)
  case first =>
    have HBD := Lib.hid HB0.out.drew
    have HBA := Lib.hid ((HB0.out.alloc HB0.out.size (.cells #[.int .i64 0, .slice none 0 0, .slice none 0 0, .slice none 0 0, .slice none 0 0] 34)).drew)
    have HXD := Lib.hid HX3.out.drew
    have HXA := Lib.hid (HX3.out.make #[.int .i64 0, .slice none 0 0, .slice none 0 0, .slice none 0 0, .slice none 0 0]).drew
    have s2 : w2.cell? ⟨w.heap.size, 0, none⟩ = some (.map mb) := HX3.out.a.cell 0
    have s3 : (w2.alloc (.cells #[.int .i64 0, .slice none 0 0, .slice none 0 0, .slice none 0 0, .slice none 0 0] 34)).cell? ⟨w.heap.size, 0, none⟩ = some (.map mb) := (HX3.out.make #[.int .i64 0, .slice none 0 0, .slice none 0 0, .slice none 0 0, .slice none 0 0]).two.a.cell 0
    have s0 : w2.drew.cell? ⟨w.heap.size, 0, none⟩ = some (.map mb) := HXD.out.a.cell 0
    have s1 : (w2.alloc (.cells #[.int .i64 0, .slice none 0 0, .slice none 0 0, .slice none 0 0, .slice none 0 0] 34)).drew.cell? ⟨w.heap.size, 0, none⟩ = some (.map mb) := HXA.out.two.a.cell 0
    go_region_with (first
      | (go_at_call 23; (with_reducible refine (HJ.out _ HBA.out).mono ?_); rintro e w3 ⟨rfl, hb3⟩; have HX4 := Lib.hid (HXA.out.below hb3); clear hb3; have q0 : w3.cell? ⟨w.heap.size, 0, none⟩ = some (.map mb) := HX4.out.two.a.cell 0)
      | (go_at_call 23; (with_reducible refine (HJ.out _ HBD.out).mono ?_); rintro e w3 ⟨rfl, hb3⟩; have HX4 := Lib.hid (HXD.out.below hb3); clear hb3; have q0 : w3.cell? ⟨w.heap.size, 0, none⟩ = some (.map mb) := HX4.out.a.cell 0; have HX5 := Lib.hid (HX4.out.make #[.int .i64 0, .slice none 0 0, .slice none 0 0, .slice none 0 0, .slice none 0 0]); have q1 : (w3.alloc (.cells #[.int .i64 0, .slice none 0 0, .slice none 0 0, .slice none 0 0, .slice none 0 0] 34)).cell? ⟨w.heap.size, 0, none⟩ = some (.map mb) := HX5.out.two.a.cell 0)
      | (go_at_call 22; (with_reducible refine (HG.out _ HX4.out.m.all).mono ?_); rintro e w4 ⟨v1, v2, v3, v4, rfl, hmr, hb4⟩; have HMR := Lib.hid (hmr.base HX4.out.m.all.size); have HX6 := Lib.hid (HX4.out.below hb4); clear hb4 hmr; (obtain ⟨A1, c1, rfl⟩ := HMR.out.r1.form); (obtain ⟨A2, c2, rfl⟩ := HMR.out.r2.form); (obtain ⟨A3, c3, rfl⟩ := HMR.out.r3.form); (obtain ⟨A4, c4, rfl⟩ := HMR.out.r4.form); (obtain ⟨m0, m1, m2, m3, m4⟩ := HX6.out.m.five); have mf := fun i => HX6.out.m.free i; (obtain ⟨W7, hW7, hx7⟩ := n_name (P := fun W => GR w mb _ m.opset m W) ⟨A1, c1, A2, c2, A3, c3, A4, c4, HX6.out.put5 (.int .i64 m.opset) (.slice A1 m.inputs.length c1) (.slice A2 m.outputs.length c2) (.slice A3 m.inits.length c3) (.slice A4 m.nodes.length c4), HMR.out.set5 HX6.out.m.1 _ _ _ _ _⟩); have HX7 := Lib.hid hx7; clear hx7)
      | (go_at_call 22; (with_reducible refine (HG.out _ HX5.out.m.all).mono ?_); rintro e w4 ⟨v1, v2, v3, v4, rfl, hmr, hb4⟩; have HMR := Lib.hid (hmr.base HX5.out.m.all.size); have HX6 := Lib.hid (HX5.out.below hb4); clear hb4 hmr; (obtain ⟨A1, c1, rfl⟩ := HMR.out.r1.form); (obtain ⟨A2, c2, rfl⟩ := HMR.out.r2.form); (obtain ⟨A3, c3, rfl⟩ := HMR.out.r3.form); (obtain ⟨A4, c4, rfl⟩ := HMR.out.r4.form); (obtain ⟨m0, m1, m2, m3, m4⟩ := HX6.out.m.five); have mf := fun i => HX6.out.m.free i; (obtain ⟨W7, hW7, hx7⟩ := n_name (P := fun W => GR w mb _ m.opset m W) ⟨A1, c1, A2, c2, A3, c3, A4, c4, HX6.out.put5 (.int .i64 m.opset) (.slice A1 m.inputs.length c1) (.slice A2 m.outputs.length c2) (.slice A3 m.inits.length c3) (.slice A4 m.nodes.length c4), HMR.out.set5 HX6.out.m.1 _ _ _ _ _⟩); have HX7 := Lib.hid hx7; clear hx7)
      | (go_at_call 22; (with_reducible refine (HG.out _ HX4.out.a.all).mono ?_); rintro e w4 ⟨v1, v2, v3, v4, rfl, hmr, hb4⟩; have HMR := Lib.hid (hmr.base HX4.out.a.all.size); have HX6 := Lib.hid (HX4.out.below hb4); clear hb4 hmr; (obtain ⟨A1, c1, rfl⟩ := HMR.out.r1.form); (obtain ⟨A2, c2, rfl⟩ := HMR.out.r2.form); (obtain ⟨A3, c3, rfl⟩ := HMR.out.r3.form); (obtain ⟨A4, c4, rfl⟩ := HMR.out.r4.form); have HX7 : Hid (GR w mb w4.heap.size m.opset m (w4.alloc (.cells #[.int .i64 m.opset, .slice A1 m.inputs.length c1, .slice A2 m.outputs.length c2, .slice A3 m.inits.length c3, .slice A4 m.nodes.length c4] 34))) := Lib.hid ⟨A1, c1, A2, c2, A3, c3, A4, c4, HX6.out.make #[.int .i64 m.opset, .slice A1 m.inputs.length c1, .slice A2 m.outputs.length c2, .slice A3 m.inits.length c3, .slice A4 m.nodes.length c4], HMR.out.keep ((Below.refl w4.heap.size w4).alloc (Nat.le_refl _) (.cells #[.int .i64 m.opset, .slice A1 m.inputs.length c1, .slice A2 m.outputs.length c2, .slice A3 m.inits.length c3, .slice A4 m.nodes.length c4] 34))⟩)
      | fail)
    all_goals
      go_wp2_with fail
      go_meet
      exact ⟨_, rfl, rfl, HX7.out⟩
  case rest =>
    obtain ⟨gm, rfl, rfl, hgr⟩ := hcut
    obtain ⟨A1, c1, A2, c2, A3, c3, A4, c4, hg3, hmr⟩ := hgr
    have HG3 := Lib.hid hg3
    have HMR := Lib.hid hmr
    clear hg3 hmr HJ HG HX3 HRA HB0
    by_cases hC : CG ≠ 0
    · have hcb : (CG != 0) = true := by simpa using hC
      have HE := Lib.hid (HE.out hC)
      clear hC HK
      obtain ⟨wE, hE, hxE⟩ := n_name (P := fun W => Bx w (w.heap.size + 1) #[.int .i64 0, .slice none 0 0, .slice none 0 0, .slice none 0 0, .slice none 0 0] 34 W) (HG3.out.two.b.five_put (Nat.le_succ _) (.int .i64 0) (.slice none 0 0) (.slice none 0 0) (.slice none 0 0) (.slice none 0 0))
      have HXE := Lib.hid hxE
      obtain ⟨z0, z1, z2, z3, z4⟩ := HG3.out.two.b.five
      have zf := fun i => HG3.out.two.b.free i
      clear hxE
      go_wp2_with fail
      obtain ⟨e0, e1, e2, e3, e4⟩ := HXE.out.five
      exact bodyPost_ret (v := .tuple #[.agg #[.int .i64 0, .slice none 0 0, .slice none 0 0, .slice none 0 0, .slice none 0 0], .int .i64 CG]) (by simp [results, Tryz.results7, go_sem, e0, e1, e2, e3, e4]) rfl (modRes_no HE.out HXE.out.all)
    obtain rfl : CG = 0 := by omega
    have HE := Lib.hid (HK.out rfl)
    clear hC HK
    have hlt := HG3.out.lt
    obtain ⟨m0, m1, m2, m3, m4⟩ := HG3.out.m.five
    have mf := fun i => HG3.out.m.free i
    have HQ := Lib.hid (HG3.out.set 0 (.int .i64 ver))
    have HQR := Lib.hid (HMR.out.set HG3.out.m.1 0 (.int .i64 ver))
    obtain ⟨W8, hW8, hp8⟩ := n_name (P := fun W => G3 w mb gm #[.int .i64 ver, .slice A1 m.inputs.length c1, .slice A2 m.outputs.length c2, .slice A3 m.inits.length c3, .slice A4 m.nodes.length c4] W ∧ MRows W w.heap.size m.inputs m.outputs m.inits m.nodes (.slice A1 m.inputs.length c1) (.slice A2 m.outputs.length c2) (.slice A3 m.inits.length c3) (.slice A4 m.nodes.length c4)) ⟨HQ.out, HQR.out⟩
    have H8 := Lib.hid hp8
    clear hp8 HQ HQR
    obtain ⟨wE, hE, hxE⟩ := n_name (P := fun W => Bx w (w.heap.size + 1) #[.int .i64 ver, .slice A1 m.inputs.length c1, .slice A2 m.outputs.length c2, .slice A3 m.inits.length c3, .slice A4 m.nodes.length c4] 34 W ∧ MRows W w.heap.size m.inputs m.outputs m.inits m.nodes (.slice A1 m.inputs.length c1) (.slice A2 m.outputs.length c2) (.slice A3 m.inits.length c3) (.slice A4 m.nodes.length c4))
      ⟨H8.out.1.two.b.five_put (Nat.le_succ _) (.int .i64 ver) (.slice A1 m.inputs.length c1) (.slice A2 m.outputs.length c2) (.slice A3 m.inits.length c3) (.slice A4 m.nodes.length c4), H8.out.2.set5 H8.out.1.two.b.1 _ _ _ _ _⟩
    have HXE := Lib.hid hxE
    obtain ⟨z0, z1, z2, z3, z4⟩ := H8.out.1.two.b.five
    have zf := fun i => H8.out.1.two.b.free i
    obtain ⟨y0, y1, y2, y3, y4⟩ := H8.out.1.m.five
    clear hxE hlt
    go_wp2_with fail
    obtain ⟨e0, e1, e2, e3, e4⟩ := HXE.out.1.five
    exact bodyPost_ret (v := .tuple #[.agg #[.int .i64 ver, .slice A1 m.inputs.length c1, .slice A2 m.outputs.length c2, .slice A3 m.inits.length c3, .slice A4 m.nodes.length c4], .int .i64 0]) (by simp [results, Tryz.results7, go_sem, e0, e1, e2, e3, e4]) rfl (modRes_yes HE.out HXE.out.2 HXE.out.1.all)
end Go.Proofs.YtjjfdlgoacockaaGreat
namespace Go.Proofs.YtjjfdlgoacockaaGreat
open Go.RowKit M1 M2 M3 M8 M9 M10 M11 M12 Go.Sort
open M7 (nm Ten ck)

structure W2m (w : World) (ga gb : Nat) (ca cb : Array Value) (W : World) : Prop where
  a : Bx w ga ca 34 W
  b : Bx w gb cb 42 W
section
variable {w W W' : World} {ga gb : Nat} {ca cb : Array Value}
theorem W2m.below (h : W2m w ga gb ca cb W) (hb : Below W.heap.size W W') : W2m w ga gb ca cb W' := ⟨h.a.below hb, h.b.below hb⟩
theorem W2m.drew (h : W2m w ga gb ca cb W) : W2m w ga gb ca cb W.drew := ⟨h.a.drew10, h.b.drew10⟩
end
theorem at_oks {B : Nat} {w : World} {m : Mod} {A1 A2 A3 A4 : Option Addr} (h : ModAt B w m A1 A2 A3 A4) : (∀ n ∈ m.nodes, ∀ a ∈ n.attrs, AOk a) ∧ (∀ i ∈ m.inputs, IOk i) ∧ (∀ i ∈ m.outputs, IOk i) ∧ (∀ t ∈ m.inits, TOk t) := by
  refine ⟨fun n hn a ha => ?_, fun i hi => ?_, fun i hi => ?_, fun t ht => ?_⟩
  · obtain ⟨_, _, _, _, _, _, _, hd, _⟩ := h.nodes.all n hn
    obtain ⟨_, _, _, _, _, ok⟩ := hd.all a ha
    exact ok
  · obtain ⟨_, _, _, _, _, ok⟩ := h.inputs.all i hi
    exact ok
  · obtain ⟨_, _, _, _, _, ok⟩ := h.outputs.all i hi
    exact ok
  · obtain ⟨_, _, _, _, _, ok⟩ := h.inits.all t ht
    exact ok

set_option maxRecDepth 100000 in
set_option maxHeartbeats 8000000 in
theorem writes12_walk (m : Mod) (A1 A2 A3 A4 : Option Addr) (c1 c2 c3 c4 : Nat) (l : List Fl) (A : Option Addr) (c : Nat) (w : World) (hm : ModAt w.heap.size w m A1 A2 A3 A4) (hT : cM m ≤ 1099511627776) (hl : l.length ≤ 4398046510976) (hs : ∀ f ∈ l, FlOk f) (hA : SR w w.heap.size 2 A l.length (fcl l)) :
    Calls Tryz.prog 4 #[.agg (mv m.opset A1 m.inputs.length c1 A2 m.outputs.length c2 A3 m.inits.length c3 A4 m.nodes.length c4), .slice A l.length c] w fun e w' => e = .returned (.bool true) ∧ Below w.heap.size w w' := by
  have HAW := Lib.hid (fun W => hawake_any W)
  have HX0 := Lib.hid (Bx.start w #[.int .i64 m.opset, .slice A1 m.inputs.length c1, .slice A2 m.outputs.length c2, .slice A3 m.inits.length c3, .slice A4 m.nodes.length c4] 34)
  have HLD := Lib.hid (laid9_any l A c _ hl hs ((hA.below HX0.out.all).more HX0.out.all.size))
  have HMA := Lib.hid (fun W (h : Below w.heap.size w W) => (hm.below h).more h.size)
  have HOKS := Lib.hid (at_oks hm)
  have HSL := Lib.hid (fun W (h : Below w.heap.size w W) => lsmallX_any m A1 A2 A3 A4 c1 c2 c3 c4 W ((hm.below h).more h.size) hT)
  simp only [mv] at HSL
  clear hA hs hm hT
  unfold mv
  go_enter Tryz.func4, Tryz.ntmps4
  go_wp2_with fail
  refine HLD.out.mono ?_
  rintro e w1 ⟨mb, V, n, vc, ok, rfl, hok, hb1⟩
  have hal := hb1.alloc hb1.size (.cells #[.map mb] 25)
  have HX1 := Lib.hid (HX0.out.below hal)
  have HS1 := Lib.hid ((HX0.out.below hb1).next #[.map mb] 25)
  have HBW := Lib.hid ((Below.refl w1.heap.size w1).alloc (Nat.le_refl _) (.cells #[.map mb] 25))
  have HOK := Lib.hid hok
  obtain ⟨x0, x1, x2, x3, x4⟩ := HX1.out.five
  clear hb1 hok hal HLD HX0
  cases ok
  · go_wp2_with fail
    refine (HAW.out _).mono ?_
    rintro e w2 ⟨rfl, hb2⟩
    have HB := Lib.hid (HX1.out.below hb2).all
    clear hb2
    go_wp2_with fail
    go_ret
    exact ⟨rfl, HB.out⟩
  obtain ⟨hc, ht, rfl, ⟨B, hst⟩, -⟩ := HOK.out rfl
  have HFS := Lib.hid (fun f (hf : f ∈ l) => show f.data.size ≤ 10000 by have := totL_mem hf; omega)
  have HST := Lib.hid (hst.below HBW.out)
  clear hc ht hst HOK HBW
  go_wp2_with fail
  refine (HSL.out _ HX1.out.all).mono ?_
  rintro e w2 ⟨rfl, hb2⟩
  have HX2 := Lib.hid (HX1.out.below hb2)
  have HS2 := Lib.hid (HS1.out.below hb2)
  have HST2 := Lib.hid (HST.out.below hb2)
  clear hb2 HX1 HS1 HST HSL x0 x1 x2 x3 x4
  by_cases h6 : cM m ≤ 6000
  case neg =>
    have h6b : decide (cM m ≤ 6000) = false := decide_eq_false h6
    clear h6
    go_wp2_with fail
    refine (HAW.out _).mono ?_
    rintro e w3 ⟨rfl, hb3⟩
    have HB := Lib.hid (HX2.out.below hb3).all
    clear hb3
    go_wp2_with fail
    go_ret
    exact ⟨rfl, HB.out⟩
  have HSM := Lib.hid (msm_of h6)
  have HWS := Lib.hid (wrM_size h6)
  have HBK := Lib.hid (fun (h : backM m = true) (h2 : tenErr m.inits = 0) => back_model l h h2 HOKS.out.1 HOKS.out.2.1 HOKS.out.2.2.1 HOKS.out.2.2.2 h6)
  have HOF := Lib.hid (fun W (h : Below w.heap.size w W) => lof_any m A1 A2 A3 A4 c1 c2 c3 c4 W (HMA.out W h))
  have HPU := Lib.hid (fun W (h : Below w.heap.size w W) => put12_any m A1 A2 A3 A4 c1 c2 c3 c4 W (HMA.out W h) HSM.out)
  have h6b : decide (cM m ≤ 6000) = true := decide_eq_true h6
  simp only [mv] at HOF HPU
  obtain ⟨x0, x1, x2, x3, x4⟩ := HX2.out.five
  clear h6 HMA HOKS
  go_wp2_with fail
  refine (HOF.out _ HX2.out.all).mono ?_
  rintro e w3 ⟨B1, B2, B3, B4, d1, d2, d3, d4, rfl, hma, hb3⟩
  have hal := hb3.alloc hb3.size (.cells #[.int .i64 m.opset, .slice B1 m.inputs.length d1, .slice B2 m.outputs.length d2, .slice B3 m.inits.length d3, .slice B4 m.nodes.length d4] 42)
  have hal0 := (Below.refl w3.heap.size w3).alloc (Nat.le_refl _) (.cells #[.int .i64 m.opset, .slice B1 m.inputs.length d1, .slice B2 m.outputs.length d2, .slice B3 m.inits.length d3, .slice B4 m.nodes.length d4] 42)
  have HX3 := Lib.hid (HX2.out.below hal)
  have HS3 := Lib.hid (HS2.out.below hal)
  have HST3 := Lib.hid (HST2.out.below hal)
  have HD3 := Lib.hid ((HX2.out.below hb3).next #[.int .i64 m.opset, .slice B1 m.inputs.length d1, .slice B2 m.outputs.length d2, .slice B3 m.inits.length d3, .slice B4 m.nodes.length d4] 42)
  have HM3 := Lib.hid ((hma.below hal0).more hal0.size)
  clear hb3 hal hal0 hma HX2 HS2 HST2 HOF x0 x1 x2 x3 x4
  obtain ⟨x0, x1, x2, x3, x4⟩ := HX3.out.five
  go_wp2_with fail
  generalize w3.alloc (.cells #[.int .i64 m.opset, .slice B1 m.inputs.length d1, .slice B2 m.outputs.length d2, .slice B3 m.inits.length d3, .slice B4 m.nodes.length d4] 42) = w4 at *
  generalize w3.heap.size = gd at *
  refine (HPU.out _ HX3.out.all).mono ?_
  rintro e w5 ⟨rfl, hb5⟩
  have HX5 := Lib.hid (HX3.out.below hb5)
  have HS5 := Lib.hid (HS3.out.below hb5)
  have HST5 := Lib.hid (HST3.out.below hb5)
  have HD5 := Lib.hid (HD3.out.below hb5)
  have HM5 := Lib.hid ((HM3.out.below hb5).more hb5.size)
  have HRP := Lib.hid (rputmod_any m B1 B2 B3 B4 d1 d2 d3 d4 w5 HM5.out HSM.out)
  simp only [mv] at HRP
  have HPM := Lib.hid (show tenErr m.inits ≠ 0 → (putM m).2 = tenErr m.inits from fun h => by unfold putM; rw [if_pos h])
  have HPY := Lib.hid (show tenErr m.inits = 0 → putM m = (wrM m, 0) from fun h => by unfold putM; rw [if_neg (by simp [h])])
  clear hb5 HX3 HS3 HST3 HD3 HM3 HPU x0 x1 x2 x3 x4
  obtain ⟨y0, y1, y2, y3, y4⟩ := HD5.out.five
  by_cases hte : tenErr m.inits ≠ 0
  case pos =>
    have HK := Lib.hid (HPM.out hte)
    have hkc : (tenErr m.inits != 0) = true := by simpa using hte
    clear hte HPY HPM HBK
    generalize putM m = P at *
    obtain ⟨T, K⟩ := P
    dsimp only at HK HRP
    have hk := HK.out
    subst hk
    clear HK
    generalize tenErr m.inits = K at *
    dsimp only
    have htt : (T.toList == T.toList) = true := teq_yes rfl
    go_wp2_with fail
    refine HRP.out.mono ?_
    rintro e w6 ⟨rfl, hb6⟩
    have HX6 := Lib.hid (HX5.out.below hb6)
    clear hb6 HRP
    go_wp2_with fail
    refine (HAW.out _).mono ?_
    rintro e w7 ⟨rfl, hb7⟩
    have HB := Lib.hid (HX6.out.below hb7).all
    clear hb7
    go_wp2_with fail
    go_ret
    exact ⟨rfl, HB.out⟩
  have hte0 : tenErr m.inits = 0 := by omega
  have hpy := HPY.out hte0
  rw [hpy] at HRP ⊢
  have HBK2 := Lib.hid (fun h => HBK.out h hte0)
  clear hte hte0 hpy HPY HPM HBK
  dsimp only at HRP ⊢
  have HRD := Lib.hid (fun (h : backM m = true) W (hb : Below w5.heap.size w5 W) => (by have q := read12_any (wrM m) B l mb W (by have := HWS.out; unfold maxLen; omega) (fun f hf => by have := HFS.out f hf; unfold maxLen; omega) (HST5.out.below hb); rwa [HBK2.out h] at q : Calls Tryz.prog 7 #[.string (wrM m), .agg #[.map mb]] W (ModRes (nM m, 0) W)))
  have HIN := Lib.hid (fun (h : backM m = true) => (show ModIn (nM m) from by have q := modelM_in (wrM m) l; rwa [HBK2.out h] at q))
  have HSA := Lib.hid (sameM_nM m)
  have HBC := Lib.hid (fun W (hb : Below w5.heap.size w5 W) => back12_any m B1 B2 B3 B4 d1 d2 d3 d4 W ((HM5.out.below hb).more hb.size))
  simp only [mv] at HBC
  clear HBK2 HST5
  generalize nM m = m2 at *
  generalize wrM m = T at *
  have htt : (T.toList == T.toList) = true := teq_yes rfl
  go_wp2_with fail
  refine HRP.out.mono ?_
  rintro e w6 ⟨rfl, hb6⟩
  have HX6 := Lib.hid (HX5.out.below hb6)
  have HS6 := Lib.hid (HS5.out.below hb6)
  have HD6 := Lib.hid (HD5.out.below hb6)
  have HL6 := Lib.hid hb6
  clear hb6 HRP HX5 HS5 HD5 y0 y1 y2 y3 y4
  obtain ⟨y0, y1, y2, y3, y4⟩ := HD6.out.five
  go_wp2_with fail
  refine (HBC.out _ HL6.out).mono ?_
  rintro e w7 ⟨rfl, hb7⟩
  have HX7 := Lib.hid (HX6.out.below hb7)
  have HS7 := Lib.hid (HS6.out.below hb7)
  have HD7 := Lib.hid (HD6.out.below hb7)
  have HL7 := Lib.hid (HL6.out.trans (hb7.mono HL6.out.size))
  clear hb7 HX6 HS6 HD6 HL6 y0 y1 y2 y3 y4 HBC
  cases hbk : backM m
  · go_wp2_with fail
    refine (HAW.out _).mono ?_
    rintro e w8 ⟨rfl, hb8⟩
    have HB := Lib.hid (HX7.out.below hb8).all
    clear hb8
    go_wp2_with fail
    go_ret
    exact ⟨rfl, HB.out⟩
  have HR := Lib.hid (HRD.out hbk w7 HL7.out)
  have HI := Lib.hid (HIN.out hbk)
  have sc : w7.cell? ⟨w1.heap.size, 0, none⟩ = some (.map mb) := HS7.out.cell 0
  clear HRD HIN
  go_wp2_with fail
  refine HR.out.mono ?_
  rintro e w8 ⟨v1, v2, v3, v4, rfl, hmr, hb8⟩
  dsimp only at hmr
  obtain ⟨C1, f1, rfl⟩ := hmr.r1.form
  obtain ⟨C2, f2, rfl⟩ := hmr.r2.form
  obtain ⟨C3, f3, rfl⟩ := hmr.r3.form
  obtain ⟨C4, f4, rfl⟩ := hmr.r4.form
  have hal := (Below.refl w8.heap.size w8).alloc (Nat.le_refl _) (.cells #[.int .i64 m2.opset, .slice C1 m2.inputs.length f1, .slice C2 m2.outputs.length f2, .slice C3 m2.inits.length f3, .slice C4 m2.nodes.length f4] 34)
  have HMR := Lib.hid (hmr.keep hal)
  have HX8 := Lib.hid (HX7.out.below (step_below hb8 hal))
  have HL8 := Lib.hid (HL7.out.trans ((step_below hb8 hal).mono HL7.out.size))
  have HX : Hid (W2m w w8.heap.size gd #[.int .i64 m2.opset, .slice C1 m2.inputs.length f1, .slice C2 m2.outputs.length f2, .slice C3 m2.inits.length f3, .slice C4 m2.nodes.length f4] #[.int .i64 m.opset, .slice B1 m.inputs.length d1, .slice B2 m.outputs.length d2, .slice B3 m.inits.length d3, .slice B4 m.nodes.length d4] (w8.alloc (.cells #[.int .i64 m2.opset, .slice C1 m2.inputs.length f1, .slice C2 m2.outputs.length f2, .slice C3 m2.inits.length f3, .slice C4 m2.nodes.length f4] 34))) :=
    Lib.hid ⟨(HX7.out.below hb8).next _ 34, HD7.out.below (step_below hb8 hal)⟩
  clear hb8 hal hmr HR HX7 HS7 HD7 HL7 sc
  go_upto_region 12 with fail
  generalize w8.alloc (.cells #[.int .i64 m2.opset, .slice C1 m2.inputs.length f1, .slice C2 m2.outputs.length f2, .slice C3 m2.inits.length f3, .slice C4 m2.nodes.length f4] 34) = W at *
  have HB := Lib.hid HX.out.a.all
  have HL0 : Hid (Below W.heap.size W W.drew) := Lib.hid (Below.refl _ _).drew
  have HX0 := Lib.hid HX.out.drew
  have HOF := Lib.hid (fun W' (h : Below W.heap.size W W') => lof_any m2 C1 C2 C3 C4 f1 f2 f3 f4 W' ((HMR.out.keep h).at_ HI.out))
  have HSM2 : Hid (∀ W' (h : Below W.heap.size W W') G1 G2 G3 G4 e1 e2 e3 e4 (hm : ModAt W'.heap.size W' m2 G1 G2 G3 G4), Calls Tryz.prog 9 #[.agg (mv m2.opset G1 m2.inputs.length e1 G2 m2.outputs.length e2 G3 m2.inits.length e3 G4 m2.nodes.length e4), .agg (mv m.opset B1 m.inputs.length d1 B2 m.outputs.length d2 B3 m.inits.length d3 B4 m.nodes.length d4)] W' fun e w' => e = .returned (.bool true) ∧ Below W'.heap.size W' w') := Lib.hid (fun W' h G1 G2 G3 G4 e1 e2 e3 e4 hm => by
    have hb := HL8.out.trans (h.mono HL8.out.size)
    have q := rmodel_any m2 m G1 G2 G3 G4 B1 B2 B3 B4 e1 e2 e3 e4 d1 d2 d3 d4 W' hm ((HM5.out.below hb).more hb.size)
    rwa [HSA.out] at q)
  simp only [mv] at HOF HSM2
  clear HMR HX HM5 HL8 HX8
  obtain ⟨p0, p1, p2, p3, p4⟩ := HX0.out.a.five
  obtain ⟨q0, q1, q2, q3, q4⟩ := HX0.out.b.five
  go_region_with (first
    | (go_at_call 6; (with_reducible refine (HAW.out _).mono ?_); rintro e w15 ⟨rfl, hb⟩; have HX1 := Lib.hid (HX0.out.below hb); have HL1 := Lib.hid (HL0.out.trans (hb.mono HL0.out.size)); clear hb; (obtain ⟨r0, r1, r2, r3, r4⟩ := HX1.out.a.five); (obtain ⟨s0, s1, s2, s3, s4⟩ := HX1.out.b.five))
    | (go_at_call 10; (with_reducible refine (HOF.out _ HL1.out).mono ?_); rintro e w16 ⟨G1, G2, G3, G4, e1, e2, e3, e4, rfl, hma, hb⟩; have HX2 := Lib.hid (HX1.out.below hb); have HL2 := Lib.hid (HL1.out.trans (hb.mono HL1.out.size)); have HMB := Lib.hid hma; clear hb hma; (obtain ⟨t0, t1, t2, t3, t4⟩ := HX2.out.a.five); (obtain ⟨u0, u1, u2, u3, u4⟩ := HX2.out.b.five))
    | (go_at_call 9; (with_reducible refine (HSM2.out _ HL2.out _ _ _ _ _ _ _ _ HMB.out).mono ?_); rintro e w17 ⟨rfl, hb⟩; have HL3 := Lib.hid (HL2.out.trans (hb.mono HL2.out.size)); clear hb))
  all_goals
    have HZ := Lib.hid (HB.out.trans (HL3.out.mono HB.out.size))
    go_wp2_with fail
    go_ret
    exact ⟨rfl, HZ.out⟩
end Go.Proofs.YtjjfdlgoacockaaGreat
/- The law PbgraphWrites (agatelaw12) in its second form: for every input that can be read and is of the bulk that the statement names the call returns true, and its arguments read behind it as before. -/
namespace Go.Proofs.YtjjfdlgoacockaaGreat.pbgraphWritesUpto
open Go.ChangeShapes Go.WideShapes Go.ChangeAt Go.RowKit
open Go.ChangeMaps (open_string shut_string)
set_option linter.unusedVariables false
theorem own : ownKnob Tryz.prog.godebug = none := by kernel_rfl
theorem laidOut : laidOutB Tryz.prog = true := by kernel_rfl
theorem readable : ([34, 22].all fun t => Tryz.prog.readableRec t && decide (t < Tryz.prog.types.size)) = true := by kernel_rfl
set_option maxRecDepth 100000 in
theorem lifted (os : Os) (started : os.Started) (H : Type) (enc : TypeId × Value → H) (F : Stop.Interp) :
    ReturnsInHanded {} Tryz.checked os 4 .any ((Rows.OpenSpec.upto Rows.pbgraphWritesSpec).pre6 enc Tryz.prog Tryz.f4 Rows.pbgraphWritesUptoRow.domain false) (((Rows.OpenSpec.upto Rows.pbgraphWritesSpec).at F).post enc Tryz.prog Tryz.f4 false true false false) := by
  refine returnsInHanded_of_cond_sized (C := Tryz.checked) (s := Rows.OpenSpec.upto Rows.pbgraphWritesSpec) (k := Rows.uptoSmall) rfl own started (by kernel_rfl) Tryz.func4
    (OpenSpec.witness (enc := enc) (C := Tryz.checked) (s := Rows.OpenSpec.upto Rows.pbgraphWritesSpec) (k := Rows.uptoSmall) rfl false ⟨#[], #[.agg #[.int .i64 0, .slice none 0 0, .slice none 0 0, .slice none 0 0, .slice none 0 0], .slice none 0 0], []⟩ 8 (by kernel_rfl) (by kernel_rfl) (by kernel_rfl)
      (x := ([.agg [.lit (.int .i64 0), .nil, .nil, .nil, .nil], .nil], [], [])) (by kernel_rfl) rfl (by kernel_rfl)) ?_
  intro W base args ds gs before hval0 hW hcnd hcond hsz _
  have hval : ∀ (j : Nat) t v, Tryz.f4.params[j]? = some t → args[j]? = some v → Value.okWide Tryz.prog W .any base t v := hval0
  have hW' := hW
  obtain ⟨p, q, hA0, hV, rfl, hfz, hnd⟩ := hW
  have hA : DataW.TrodAll enc Tryz.prog W 0 (fun _ => true) true Tryz.f4.params.toList args.toList ds p := hA0
  rw [Tryz.params4] at hA hval
  obtain ⟨rfl, rfl⟩ := trodVars_none hV
  have hkeep := hA
  have hcalls : Calls Tryz.prog 4 args W fun e W' => e = .returned (.bool true) ∧ Below W.heap.size W W' := by
    clear hW' hA0 hval0 hfz hnd hV hkeep
    obtain ⟨v0, vs0, d0, ds0, p0, q0, hargs, rfl, rfl, h0, r0⟩ := trodAll_cons hA
    obtain ⟨v1, vs1, d1, ds1, p1, q1, rfl, rfl, rfl, h1, r1⟩ := trodAll_cons r0
    obtain ⟨rfl, rfl, rfl⟩ := trodAll_nil r1
    obtain rfl : args = #[v0, v1] := by cases args; simp_all
    obtain ⟨fs0, hfs0⟩ := modelStruct
    obtain ⟨cn, rfl, hn0⟩ := okWide_struct hfs0 (hval 0 34 v0 rfl rfl)
    have hv1 := okWide_slice Tryz.underlying22 (hval 1 22 v1 rfl rfl)
    have hz0 : ∀ n ∈ d0.weights Tryz.prog 34, n ≤ reachBytes := fun n hn => by
      have := List.all_eq_true.1 hsz n (DataW.weights_mem_each (j := 0) (t := 34) (d := d0) rfl rfl n hn)
      simpa using this
    have hz1 : ∀ n ∈ d1.weights Tryz.prog 22, n ≤ reachBytes := fun n hn => by
      have := List.all_eq_true.1 hsz n (DataW.weights_mem_each (j := 1) (t := 22) (d := d1) rfl rfl n hn)
      simpa using this
    have hb : Rows.uptoBulkAll ([d0, d1] ++ []) ≤ 1048576 := of_decide_eq_true hcond
    simp only [List.append_nil, Rows.uptoBulkAll] at hb
    obtain ⟨fuel0, h0⟩ := h0
    rw [cells_mod] at hn0
    obtain ⟨m, A1, A2, A3, A4, c1, c2, c3, c4, he, hm, km⟩ := deep_modC h0 (by simpa [Value.cells] using hn0) hz0
    obtain ⟨A, c, l, rfl, hs1, hl1, hok⟩ := open_files Tryz.underlying22 h1 hv1 hz1
    have hT : cM m ≤ 1099511627776 := by
      have km' : cM m ≤ Rows.uptoBulk d0 := km
      omega
    have hw := writes12_walk m A1 A2 A3 A4 c1 c2 c3 c4 l A c W hm hT hl1 hok hs1
    rw [← he] at hw
    simpa [Value.cells] using hw
  refine hcalls.mono fun e W' ⟨he, bel⟩ => ?_
  subst he
  have hargs := below_trodAll laidOut bel readable hkeep
  have hlen := trodAll_length hkeep
  match ds, hlen, hargs, hW' with
  | [e0, e1], _, hargs, hW' => exact ⟨_, rfl, _, _, _, [], _, [], hW', trodAll_mk1 (shut_bool Tryz.underlying4 _), hargs, rfl, bel.frame _, fun h => by cases h⟩

theorem over : Rows.pbgraphWritesUptoRow.holds Tryz.pinned (Rows.OpenSpec.upto Rows.pbgraphWritesSpec) :=
  OpenClaim.holds_of_cond 4 Tryz.f4 rfl rfl rfl rfl rfl rfl rfl ⟨rfl, rfl, rfl, rfl, rfl⟩ rfl rfl rfl rfl rfl (by kernel_rfl) Tryz.func4 (by kernel_rfl)
    (of_decide_eq_true (by kernel_rfl)) (by unfold Func.isWrapper; first | (rw [if_pos (by decide +kernel)]; kernel_rfl) | (rw [if_neg (by decide +kernel)]; exact ⟨rfl, rfl⟩))
    (fun os started H enc _ F => lifted os started H enc F)
theorem proved : Rows.PbgraphWritesUptoSaid := over
#print axioms proved
end Go.Proofs.YtjjfdlgoacockaaGreat.pbgraphWritesUpto
