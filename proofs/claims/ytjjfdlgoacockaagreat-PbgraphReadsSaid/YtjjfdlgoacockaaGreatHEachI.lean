import Derived.Test.YtjjfdlgoacockaaGreatHRows
import Derived.Test.YtjjfdlgoacockaaGreatNDims
import Derived.Test.YtjjfdlgoacockaaGreatMNew
import Derived.Test.YtjjfdlgoacockaaGreatBLawR
import Derived.Lib.MinMax
import Derived.Test.YtjjfdlgoacockaaGreatBLast
import Derived.Deep.Cut
import Derived.Deep.CutRange
import Derived.Deep.RegionWith
import Derived.Deep.RegionHeld
namespace Go.Proofs.YtjjfdlgoacockaaGreat
open Go.RowKit M1 M2 M3 M8 M9 M10 M11 M12 Go.Sort
open M7 (nm Ten ck)


set_option maxRecDepth 100000 in
set_option maxHeartbeats 4000000 in
theorem each_inf12 (A : Option Addr) (c : Nat) (L : List ByteArray) (w : World) (hl : L.length ≤ 1048576) (hsz : ∀ b ∈ L, b.size ≤ 1048576) (ha : SR w w.heap.size 1 A L.length (p_tv L)) :
    Calls Tryz.prog 74 #[.slice A L.length c,.func (.func 75) #[] #[]] w (EachRes OInf 106 3 (eachM infoI L []) w) := by
  obtain ⟨i0,hi0,hz0,hz1,hz2⟩ := info_parts infoInfo10
  have HA := Lib.hid ha
  have HSZ := Lib.hid hsz
  have HRD : Hid (∀ b W,b.size≤1048576→Below w.heap.size w W→Calls Tryz.prog 75 #[.string b] W (ReadRes OInf (infoI b) W)) := Lib.hid (fun b W h _ => readInfo_any b W (by unfold maxLen; omega))
  clear ha hsz
  go_enter Tryz.func74,Tryz.ntmps74
  go_wp2_with fail
  go_loopw [6,13] (fun V i wr => ∃ (k : Nat) (K : Int) (acc : List Inf),i = .int .i64 K∧K = (k : Nat)∧k≤L.length∧acc.length = k∧eachM infoI L [] = eachM infoI (L.drop k) acc∧DW OInf wr w.heap.size 106 3 V acc∧Below w.heap.size w wr) (fun _ i _ => L.length - (intOf i).toNat)
  case atStart => exact ⟨0,_,[],rfl,rfl,by omega,rfl,rfl,dwn _ _ _ _ _,Below.refl _ _⟩
  case round =>
    obtain ⟨k,K,acc,rfl,rfl,hk,hacc,hat,hdw,hb⟩ := hrel
    have HD := Lib.hid hdw
    have HB := Lib.hid hb
    have HAC := Lib.hid hacc
    obtain ⟨VA,VC,rfl⟩ := hdw.form
    by_cases hlt : k < L.length
    · obtain ⟨bb,oo,rfl,-,hx⟩ := n_txt_at (HA.out.below hb) hlt
      have hsk := HSZ.out L[k] (List.getElem_mem hlt)
      have HE1 := Lib.hid (eachM_err (f := infoI) hlt hat)
      have HE2 := Lib.hid (eachM_step (f := infoI) hlt hat)
      have HR := Lib.hid (fun W => HRD.out L[k] W hsk)
      clear hdw hat hacc hb
      generalize eachM infoI L [] = RES at *
      generalize L[k] = X at *
      generalize infoI X = F at HE1 HE2 HR
      obtain ⟨a,C⟩ := F
      dsimp only at HE1 HE2 HR
      go_wp2_with fail
      refine (HR.out _ HB.out).mono ?_
      rintro e w1 ⟨cs,rfl,hq1,hb1⟩
      dsimp only at hq1
      obtain ⟨A5,c5,rfl⟩ := OInf.shape hq1
      have hb2 := (Below.refl w1.heap.size w1).alloc (Nat.le_refl _) (.cells #[.string a.name,.int .i64 a.kind,.slice A5 a.dims.length c5] 106)
      have hbB := step_below hb1 hb2
      have HB1 := Lib.hid (HB.out.trans (hbB.mono HB.out.size))
      have HX1 := Lib.hid (Bx.start w1 #[.string a.name,.int .i64 a.kind,.slice A5 a.dims.length c5] 106)
      obtain ⟨css,ho,hpush⟩ := (HD.out.kept eg_inf hbB).push eg_inf (eg_inf.base (eg_inf.keep hq1 hb2) HB.out.size)
      have HOW := Lib.hid ho
      have HPU := Lib.hid hpush
      clear hb1 hq1 hb2 hbB HR HD HB ho hpush
      by_cases hC : C≠0
      · have hcb : (C != 0) = true := by simpa using hC
        have HE := Lib.hid (HE1.out hC)
        clear hC
        go_wp2_with fail
        go_ret2
        exact eachRes_no HE.out HB1.out
      · obtain rfl : C = 0 := by omega
        have HS := Lib.hid (HE2.out rfl)
        obtain ⟨x0,x1,x2⟩ := HX1.out.three
        clear hC HE1 HE2
        go_wp2_with (at_builtin; refine wpList_append_own _ rfl _ _ 30 rfl w.heap.size 106 i0 _ 3 48 Tryz.underlying30 hi0 hz0 hz1 hz2 rfl (by decide) _ _ _ rfl (HOW.out.alloc _) ⟨w1.heap.size + 1,0,none⟩ 1 1 [.string a.name,.int .i64 a.kind,.slice A5 a.dims.length c5] rfl rfl (cells_new2 _ _ _ _) ?c2 ?c3 ?c4 ?c5 ?_)
        case c2 => intro u hu; simp at hu; rcases hu with rfl | rfl | rfl <;> rfl
        case c3 => have := HAC.out; unfold maxLen; omega
        case c4 => have := HAC.out; omega
        case c5 => have := HB1.out.size; simp at this ⊢; omega
        intro v' w5 hown' hgrow _
        have HB5 := Lib.hid ((HB1.out.alloc HB1.out.size (.cells #[.string a.name,.int .i64 a.kind,.slice A5 a.dims.length c5] 106)).grown hgrow (by have := HB1.out.size; simp at this ⊢; omega) (fun q hq => (HOW.out.lt q hq).1))
        have HD5 := Lib.hid (HPU.out _ _ _ hown' hgrow)
        clear hown' hgrow x0 x1 x2
        go_wp2_with fail
        go_roundw
        case rel => exact ⟨k + 1,_,acc ++ [a],rfl,by omega,by omega,by rw [List.length_append,HAC.out]; rfl,HS.out,HD5.out,HB5.out⟩
        case measure => simp [intOf]; omega
    · obtain rfl : k = L.length := by omega
      have HE := Lib.hid (eachM_end (f := infoI) hat)
      clear hdw hb hat
      go_wp2_with fail
      go_ret2
      exact eachRes_yes HE.out HD.out HB.out
end Go.Proofs.YtjjfdlgoacockaaGreat
namespace Go.Proofs.YtjjfdlgoacockaaGreat
open Go.RowKit M1 M2 M3 M8 M9 M10 M11 M12 Go.Sort
open M7 (nm Ten ck)

set_option maxRecDepth 100000 in
set_option maxHeartbeats 8000000 in
theorem readGraph_any (b : ByteArray) (B0 : Nat) (fs : List Fl) (mb : Option Nat) (w : World) (hbs : b.size≤maxLen) (hfd : ∀ f ∈ fs,f.data.size≤maxLen) (hst : o_St B0 fs mb w) :
    Calls Tryz.prog 22 #[.string b,.agg #[.map mb]] w (ModRes (graphB b fs) w) := by
  have HX0 : Hid (G2 w mb ((w.alloc (.cells #[.map mb] 25)).alloc (.cells #[.int .i64 0,.slice none 0 0,.slice none 0 0,.slice none 0 0,.slice none 0 0] 34))) := Lib.hid ⟨(Bx.start w #[.map mb] 25).more _,Bx.two w _ _ 34⟩
  have HST := Lib.hid (fun W (h : Below w.heap.size w W) => hst.below h)
  have HFD := Lib.hid hfd
  have hz : ((w.alloc (.cells #[.map mb] 25)).alloc (.cells #[.int .i64 0,.slice none 0 0,.slice none 0 0,.slice none 0 0,.slice none 0 0] 34)).heap.size = w.heap.size + 1 + 1 := by simp
  have hs := SR.lit ((w.alloc (.cells #[.map mb] 25)).alloc (.cells #[.int .i64 0,.slice none 0 0,.slice none 0 0,.slice none 0 0,.slice none 0 0] 34)) (iv [1,5,11,12]) 3 (size := 1) (n := 4) rfl
  rw [hz] at hs
  have HT : Hid (Calls Tryz.prog 20 #[.string b,.slice (some ⟨w.heap.size + 1 + 1,0,none⟩) 4 4] (((w.alloc (.cells #[.map mb] 25)).alloc (.cells #[.int .i64 0,.slice none 0 0,.slice none 0 0,.slice none 0 0,.slice none 0 0] 34)).alloc (.cells #[.int .i64 1,.int .i64 5,.int .i64 11,.int .i64 12] 3)) (EachRes OTx 64 1 (textsM b [1,5,11,12]) (((w.alloc (.cells #[.map mb] 25)).alloc (.cells #[.int .i64 0,.slice none 0 0,.slice none 0 0,.slice none 0 0,.slice none 0 0] 34)).alloc (.cells #[.int .i64 1,.int .i64 5,.int .i64 11,.int .i64 12] 3)))) :=
    Lib.hid (textsOf12_any b (some ⟨w.heap.size + 1 + 1,0,none⟩) 4 [1,5,11,12] _ hbs (by simp) (hs.more (by simp)))
  have hal : Below ((w.alloc (.cells #[.map mb] 25)).alloc (.cells #[.int .i64 0,.slice none 0 0,.slice none 0 0,.slice none 0 0,.slice none 0 0] 34)).heap.size ((w.alloc (.cells #[.map mb] 25)).alloc (.cells #[.int .i64 0,.slice none 0 0,.slice none 0 0,.slice none 0 0,.slice none 0 0] 34)) (((w.alloc (.cells #[.map mb] 25)).alloc (.cells #[.int .i64 0,.slice none 0 0,.slice none 0 0,.slice none 0 0,.slice none 0 0] 34)).alloc (.cells #[.int .i64 1,.int .i64 5,.int .i64 11,.int .i64 12] 3)) := (Below.refl _ _).alloc (Nat.le_refl _) _
  have HAL := Lib.hid hal
  have HN := Lib.hid (fun LL C => graphB_no (b := b) (fs := fs) (LL := LL) (C := C))
  have HY := Lib.hid (fun LL => graphB_yes (b := b) (fs := fs) (LL := LL))
  clear hst hfd hz hs hal
  generalize graphB b fs = R at *
  generalize hTM : textsM b [1,5,11,12] = TM at *
  obtain ⟨LL,C⟩ := TM
  have HN := Lib.hid (HN.out LL C rfl)
  have HY := Lib.hid (fun h : C = 0 => HY.out LL (by rw [h]))
  clear hTM
  go_enter Tryz.func22,Tryz.ntmps22
  go_wp2_with fail
  refine HT.out.mono ?_
  rintro e w1 ⟨v,rfl,hdw,hb1⟩
  dsimp only at hdw
  have HX1 := Lib.hid (HX0.out.below (step_below HAL.out hb1))
  have hdw := hdw.based eg_tx (B' := w.heap.size) (by simp; omega)
  clear hb1 HT HX0 HAL
  by_cases hC : C≠0
  · have hcb : (C != 0) = true := by simpa using hC
    have HE := Lib.hid (HN.out hC)
    obtain ⟨A1,c1,rfl⟩ := hdw.form
    clear hC hdw HY HN
    obtain ⟨wE,hE,hxE⟩ := n_name (P := fun W => Bx w (w.heap.size + 1) #[.int .i64 0,.slice none 0 0,.slice none 0 0,.slice none 0 0,.slice none 0 0] 34 W) (HX1.out.b.five_put (Nat.le_succ _) (.int .i64 0) (.slice none 0 0) (.slice none 0 0) (.slice none 0 0) (.slice none 0 0))
    have HXE := Lib.hid hxE
    obtain ⟨z0,z1,z2,z3,z4⟩ := HX1.out.b.five
    have zf := fun i => HX1.out.b.free i
    clear hxE
    go_wp2_with fail
    obtain ⟨e0,e1,e2,e3,e4⟩ := HXE.out.five
    exact bodyPost_ret (v := .tuple #[.agg #[.int .i64 0,.slice none 0 0,.slice none 0 0,.slice none 0 0,.slice none 0 0],.int .i64 C]) (by simp [results,Tryz.results22,go_sem,e0,e1,e2,e3,e4]) rfl (modRes_no HE.out HXE.out.all)
  obtain rfl : C = 0 := by omega
  obtain ⟨l,rfl,hw,hgr,hll,hlm⟩ := HY.out rfl
  subst hgr
  obtain ⟨g,cap,va,vb,vc,vd,rfl,⟨k0,k1,k2,k3⟩,ht4⟩ := dw_four hdw
  obtain ⟨Aa,ca,rfl,-,-⟩ := own_form ht4.a
  obtain ⟨Ab,cb,rfl,-,-⟩ := own_form ht4.b
  obtain ⟨Ac,cc,rfl,-,-⟩ := own_form ht4.c
  obtain ⟨Ad,cd,rfl,-,-⟩ := own_form ht4.d
  have HT4 := Lib.hid (ht4.keep (Below.refl w1.heap.size w1).drew)
  have HX2 := Lib.hid HX1.out.drew
  have HW := Lib.hid hw
  have HMA := Lib.hid (many_is l)
  have HLM := Lib.hid hlm
  have HLL := Lib.hid (fun k => txL_len hll k)
  clear hC hdw HY HN ht4 hw hlm hll
  go_wp2_with fail
  go_region
  have NMANY := Lib.hid (fun h => graphL_many (v := 0) (fs := fs) (l := l) HW.out h)
  have NN := Lib.hid (fun h2 c => graphL_nodes (v := 0) (fs := fs) (l := l) (c := c) HW.out h2)
  have NT := Lib.hid (fun h2 h3 c => graphL_inits (v := 0) (fs := fs) (l := l) (c := c) HW.out h2 h3)
  have NI := Lib.hid (fun h2 h3 h4 c => graphL_ins (v := 0) (fs := fs) (l := l) (c := c) HW.out h2 h3 h4)
  have NO := Lib.hid (fun h2 h3 h4 h5 c => graphL_outs (v := 0) (fs := fs) (l := l) (c := c) HW.out h2 h3 h4 h5)
  have NK := Lib.hid (fun ns ts is os h2 => graphL_all (v := 0) (fs := fs) (l := l) (ns := ns) (ts := ts) (is := is) (os := os) HW.out h2)
  have HS1 := Lib.hid (txL_mem HLM.out 1)
  have HS5 := Lib.hid (txL_mem HLM.out 5)
  have HS11 := Lib.hid (txL_mem HLM.out 11)
  have HS12 := Lib.hid (txL_mem HLM.out 12)
  have HL1 := Lib.hid (HLL.out 1)
  have HL5 := Lib.hid (HLL.out 5)
  have HL11 := Lib.hid (HLL.out 11)
  have HL12 := Lib.hid (HLL.out 12)
  clear HLL HLM HW k0 k1 k2 k3 HX1
  generalize w1.drew = W at *
  generalize tooMany l = tm at *
  generalize graphL 0 l fs = R at *
  generalize txL l 1 = L1 at *
  generalize txL l 5 = L5 at *
  generalize txL l 11 = L11 at *
  generalize txL l 12 = L12 at *
  by_cases h1 : (1024 : Int) < max (L1.length : Int) (L5.length : Int)
  · have HE := Lib.hid (NMANY.out (by rw [HMA.out]; simp [h1]))
    clear NN NT NI NO NK
    obtain ⟨wE,hE,hxE⟩ := n_name (P := fun W => Bx w (w.heap.size + 1) #[.int .i64 0,.slice none 0 0,.slice none 0 0,.slice none 0 0,.slice none 0 0] 34 W) (HX2.out.b.five_put (Nat.le_succ _) (.int .i64 0) (.slice none 0 0) (.slice none 0 0) (.slice none 0 0) (.slice none 0 0))
    have HXE := Lib.hid hxE
    obtain ⟨z0,z1,z2,z3,z4⟩ := HX2.out.b.five
    have zf := fun i => HX2.out.b.free i
    clear hxE
    go_wp2_with fail
    obtain ⟨e0,e1,e2,e3,e4⟩ := HXE.out.five
    exact bodyPost_ret (v := .tuple #[.agg #[.int .i64 0,.slice none 0 0,.slice none 0 0,.slice none 0 0,.slice none 0 0],.int .i64 7]) (by simp [results,Tryz.results22,go_sem,e0,e1,e2,e3,e4]) rfl (modRes_no HE.out HXE.out.all)
  by_cases h2 : (64 : Int) < max (L11.length : Int) (L12.length : Int)
  · have HE := Lib.hid (NMANY.out (by rw [HMA.out]; simp [h2]))
    clear NN NT NI NO NK
    obtain ⟨wE,hE,hxE⟩ := n_name (P := fun W => Bx w (w.heap.size + 1) #[.int .i64 0,.slice none 0 0,.slice none 0 0,.slice none 0 0,.slice none 0 0] 34 W) (HX2.out.b.five_put (Nat.le_succ _) (.int .i64 0) (.slice none 0 0) (.slice none 0 0) (.slice none 0 0) (.slice none 0 0))
    have HXE := Lib.hid hxE
    obtain ⟨z0,z1,z2,z3,z4⟩ := HX2.out.b.five
    have zf := fun i => HX2.out.b.free i
    clear hxE
    go_wp2_with fail
    obtain ⟨e0,e1,e2,e3,e4⟩ := HXE.out.five
    exact bodyPost_ret (v := .tuple #[.agg #[.int .i64 0,.slice none 0 0,.slice none 0 0,.slice none 0 0,.slice none 0 0],.int .i64 7]) (by simp [results,Tryz.results22,go_sem,e0,e1,e2,e3,e4]) rfl (modRes_no HE.out HXE.out.all)
  have HTM := Lib.hid (show tm = false by rw [HMA.out]; simp [h1,h2])
  have HP := Lib.hid (HX2.out.gp HT4.out)
  have HCN := Lib.hid (each_nod12 Aa ca L1 _ HL1.out HS1.out (SR.of_own HP.out.x.a))
  have HW := Lib.hid (Eq.refl W.heap.size)
  clear HX2 HT4 HMA NMANY
  obtain ⟨RQN,HQN⟩ : ∃ r,Hid (eachM nodeI L1 [] = r) := ⟨_,Lib.hid rfl⟩
  rw [HQN.out] at HCN
  obtain ⟨ns,CN⟩ := RQN
  go_wp2_with fail
  refine HCN.out.mono ?_
  rintro e wN ⟨vN,rfl,hdw,hb⟩
  dsimp only at hdw
  obtain ⟨AN,cN,rfl⟩ := hdw.form
  have hbx := HP.out.g.m.below hb
  obtain ⟨m0,m1,m2,m3,m4⟩ := hbx.five
  have mf := fun i => hbx.free i
  obtain ⟨WN,hWN,hp⟩ := n_name (HP.out.st4 hb hdw)
  have HP := Lib.hid hp
  clear hbx hdw hb hp HCN
  by_cases hC : CN≠0
  · have hcb : (CN != 0) = true := by simpa using hC
    have HE := Lib.hid (NN.out HTM.out CN (by rw [HQN.out]) hC)
    clear hC NN NT NI NO NK
    obtain ⟨wE,hE,hxE⟩ := n_name (P := fun W => Bx w (w.heap.size + 1) #[.int .i64 0,.slice none 0 0,.slice none 0 0,.slice none 0 0,.slice none 0 0] 34 W) (HP.out.g.two.b.five_put (Nat.le_succ _) (.int .i64 0) (.slice none 0 0) (.slice none 0 0) (.slice none 0 0) (.slice none 0 0))
    have HXE := Lib.hid hxE
    obtain ⟨z0,z1,z2,z3,z4⟩ := HP.out.g.two.b.five
    have zf := fun i => HP.out.g.two.b.free i
    clear hxE
    go_wp2_with fail
    obtain ⟨e0,e1,e2,e3,e4⟩ := HXE.out.five
    exact bodyPost_ret (v := .tuple #[.agg #[.int .i64 0,.slice none 0 0,.slice none 0 0,.slice none 0 0,.slice none 0 0],.int .i64 CN]) (by simp [results,Tryz.results22,go_sem,e0,e1,e2,e3,e4]) rfl (modRes_no HE.out HXE.out.all)
  obtain rfl : CN = 0 := by omega
  clear hC
  have HCT := Lib.hid (each_ten12 w.heap.size B0 fs mb Ab cb L5 _ HL5.out HS5.out HFD.out HP.out.g.two.a.1 (HST.out _ HP.out.all) (SR.of_own HP.out.x.b))
  obtain ⟨RQT,HQT⟩ : ∃ r,Hid (eachM (fun b => rd9 b fs) L5 [] = r) := ⟨_,Lib.hid rfl⟩
  rw [HQT.out] at HCT
  obtain ⟨ts,CT⟩ := RQT
  go_wp2_with fail
  refine HCT.out.mono ?_
  rintro e wT ⟨vT,rfl,hdw,hb⟩
  dsimp only at hdw
  obtain ⟨AT,cT,rfl⟩ := hdw.form
  have hbx := HP.out.g.m.below hb
  obtain ⟨m0,m1,m2,m3,m4⟩ := hbx.five
  have mf := fun i => hbx.free i
  obtain ⟨WT,hWT,hp⟩ := n_name (HP.out.st3 hb hdw)
  have HP := Lib.hid hp
  clear hbx hdw hb hp HCT
  by_cases hC : CT≠0
  · have hcb : (CT != 0) = true := by simpa using hC
    have HE := Lib.hid (NT.out HTM.out (by rw [HQN.out]) CT (by rw [HQT.out]) hC)
    clear hC NN NT NI NO NK
    obtain ⟨wE,hE,hxE⟩ := n_name (P := fun W => Bx w (w.heap.size + 1) #[.int .i64 0,.slice none 0 0,.slice none 0 0,.slice none 0 0,.slice none 0 0] 34 W) (HP.out.g.two.b.five_put (Nat.le_succ _) (.int .i64 0) (.slice none 0 0) (.slice none 0 0) (.slice none 0 0) (.slice none 0 0))
    have HXE := Lib.hid hxE
    obtain ⟨z0,z1,z2,z3,z4⟩ := HP.out.g.two.b.five
    have zf := fun i => HP.out.g.two.b.free i
    clear hxE
    go_wp2_with fail
    obtain ⟨e0,e1,e2,e3,e4⟩ := HXE.out.five
    exact bodyPost_ret (v := .tuple #[.agg #[.int .i64 0,.slice none 0 0,.slice none 0 0,.slice none 0 0,.slice none 0 0],.int .i64 CT]) (by simp [results,Tryz.results22,go_sem,e0,e1,e2,e3,e4]) rfl (modRes_no HE.out HXE.out.all)
  obtain rfl : CT = 0 := by omega
  clear hC
  have HCI := Lib.hid (each_inf12 Ac cc L11 _ HL11.out HS11.out (SR.of_own HP.out.x.c))
  obtain ⟨RQI,HQI⟩ : ∃ r,Hid (eachM infoI L11 [] = r) := ⟨_,Lib.hid rfl⟩
  rw [HQI.out] at HCI
  obtain ⟨is,CI⟩ := RQI
  go_wp2_with fail
  refine HCI.out.mono ?_
  rintro e wI ⟨vI,rfl,hdw,hb⟩
  dsimp only at hdw
  obtain ⟨AI,cI,rfl⟩ := hdw.form
  have hbx := HP.out.g.m.below hb
  obtain ⟨m0,m1,m2,m3,m4⟩ := hbx.five
  have mf := fun i => hbx.free i
  obtain ⟨WI,hWI,hp⟩ := n_name (HP.out.st1 hb hdw)
  have HP := Lib.hid hp
  clear hbx hdw hb hp HCI
  by_cases hC : CI≠0
  · have hcb : (CI != 0) = true := by simpa using hC
    have HE := Lib.hid (NI.out HTM.out (by rw [HQN.out]) (by rw [HQT.out]) CI (by rw [HQI.out]) hC)
    clear hC NN NT NI NO NK
    obtain ⟨wE,hE,hxE⟩ := n_name (P := fun W => Bx w (w.heap.size + 1) #[.int .i64 0,.slice none 0 0,.slice none 0 0,.slice none 0 0,.slice none 0 0] 34 W) (HP.out.g.two.b.five_put (Nat.le_succ _) (.int .i64 0) (.slice none 0 0) (.slice none 0 0) (.slice none 0 0) (.slice none 0 0))
    have HXE := Lib.hid hxE
    obtain ⟨z0,z1,z2,z3,z4⟩ := HP.out.g.two.b.five
    have zf := fun i => HP.out.g.two.b.free i
    clear hxE
    go_wp2_with fail
    obtain ⟨e0,e1,e2,e3,e4⟩ := HXE.out.five
    exact bodyPost_ret (v := .tuple #[.agg #[.int .i64 0,.slice none 0 0,.slice none 0 0,.slice none 0 0,.slice none 0 0],.int .i64 CI]) (by simp [results,Tryz.results22,go_sem,e0,e1,e2,e3,e4]) rfl (modRes_no HE.out HXE.out.all)
  obtain rfl : CI = 0 := by omega
  clear hC
  have HCO := Lib.hid (each_inf12 Ad cd L12 _ HL12.out HS12.out (SR.of_own HP.out.x.d))
  obtain ⟨RQO,HQO⟩ : ∃ r,Hid (eachM infoI L12 [] = r) := ⟨_,Lib.hid rfl⟩
  rw [HQO.out] at HCO
  obtain ⟨os,CO⟩ := RQO
  go_wp2_with fail
  refine HCO.out.mono ?_
  rintro e wO ⟨vO,rfl,hdw,hb⟩
  dsimp only at hdw
  obtain ⟨AO,cO,rfl⟩ := hdw.form
  have hbx := HP.out.g.m.below hb
  obtain ⟨m0,m1,m2,m3,m4⟩ := hbx.five
  have mf := fun i => hbx.free i
  obtain ⟨WO,hWO,hp⟩ := n_name (HP.out.st2 hb hdw)
  have HP := Lib.hid hp
  clear hbx hdw hb hp HCO
  by_cases hC : CO≠0
  · have hcb : (CO != 0) = true := by simpa using hC
    have HE := Lib.hid (NO.out HTM.out (by rw [HQN.out]) (by rw [HQT.out]) (by rw [HQI.out]) CO (by rw [HQO.out]) hC)
    clear hC NN NT NI NO NK
    obtain ⟨wE,hE,hxE⟩ := n_name (P := fun W => Bx w (w.heap.size + 1) #[.int .i64 0,.slice none 0 0,.slice none 0 0,.slice none 0 0,.slice none 0 0] 34 W) (HP.out.g.two.b.five_put (Nat.le_succ _) (.int .i64 0) (.slice none 0 0) (.slice none 0 0) (.slice none 0 0) (.slice none 0 0))
    have HXE := Lib.hid hxE
    obtain ⟨z0,z1,z2,z3,z4⟩ := HP.out.g.two.b.five
    have zf := fun i => HP.out.g.two.b.free i
    clear hxE
    go_wp2_with fail
    obtain ⟨e0,e1,e2,e3,e4⟩ := HXE.out.five
    exact bodyPost_ret (v := .tuple #[.agg #[.int .i64 0,.slice none 0 0,.slice none 0 0,.slice none 0 0,.slice none 0 0],.int .i64 CO]) (by simp [results,Tryz.results22,go_sem,e0,e1,e2,e3,e4]) rfl (modRes_no HE.out HXE.out.all)
  obtain rfl : CO = 0 := by omega
  clear hC
  have HE := Lib.hid (NK.out ns ts is os HTM.out HQN.out HQT.out HQI.out HQO.out)
  have HPL := Lib.hid HP.out.g.lt
  obtain ⟨wE,hE,hxE⟩ := n_name (P := fun W => Bx w (w.heap.size + 1) #[.int .i64 0,.slice AI is.length cI,.slice AO os.length cO,.slice AT ts.length cT,.slice AN ns.length cN] 34 W∧MRows W w.heap.size is os ts ns (.slice AI is.length cI) (.slice AO os.length cO) (.slice AT ts.length cT) (.slice AN ns.length cN))
    ⟨HP.out.g.two.b.five_put (Nat.le_succ _) (.int .i64 0) (.slice AI is.length cI) (.slice AO os.length cO) (.slice AT ts.length cT) (.slice AN ns.length cN),HP.out.r.set5 HP.out.g.two.b.1 _ _ _ _ _⟩
  have HXE := Lib.hid hxE
  obtain ⟨z0,z1,z2,z3,z4⟩ := HP.out.g.two.b.five
  have zf := fun i => HP.out.g.two.b.free i
  obtain ⟨y0,y1,y2,y3,y4⟩ := HP.out.g.m.five
  clear hxE
  go_wp2_with fail
  obtain ⟨e0,e1,e2,e3,e4⟩ := HXE.out.1.five
  exact bodyPost_ret (v := .tuple #[.agg #[.int .i64 0,.slice AI is.length cI,.slice AO os.length cO,.slice AT ts.length cT,.slice AN ns.length cN],.int .i64 0]) (by simp [results,Tryz.results22,go_sem,e0,e1,e2,e3,e4]) rfl (modRes_yes HE.out HXE.out.2 HXE.out.1.all)
end Go.Proofs.YtjjfdlgoacockaaGreat
namespace Go.Proofs.YtjjfdlgoacockaaGreat
open Go.RowKit M1 M2 M3 M8 M9 M10 M11 M12 Go.Sort
open M7 (nm Ten ck)

theorem joined_from {M : Nat} : ∀ (l : List ByteArray) (s : ByteArray),(∀ b ∈ l,b.size≤M)→(l.foldl (fun s t => s ++ t) s).size≤s.size + l.length * M
  | [],s,_ => by simp
  | a :: l,s,h => by
    have h1 := joined_from l (s ++ a) fun b hb => h b (List.mem_cons_of_mem _ hb)
    have h2 := h a List.mem_cons_self
    rw [ByteArray.size_append] at h1
    rw [List.foldl_cons,List.length_cons,Nat.succ_mul]
    omega
theorem joined_le {M : Nat} {l : List ByteArray} (h : ∀ b ∈ l,b.size≤M) : (joined l).size≤l.length * M := by
  have h1 := joined_from l ⟨#[]⟩ h
  have z : (⟨#[]⟩ : ByteArray).size = 0 := rfl
  unfold joined
  omega
theorem G3.put5 {w W : World} {mb : Option Nat} {gm : Nat} {a0 a1 a2 a3 a4 : Value} (h : G3 w mb gm #[a0,a1,a2,a3,a4] W) (u0 u1 u2 u3 u4 : Value) :
    G3 w mb gm #[u0,u1,u2,u3,u4] (((((W.setCell ⟨gm,0,none⟩ u0).setCell ⟨gm,1,none⟩ u1).setCell ⟨gm,2,none⟩ u2).setCell ⟨gm,3,none⟩ u3).setCell ⟨gm,4,none⟩ u4) := ((((h.set 0 u0).set 1 u1).set 2 u2).set 3 u3).set 4 u4
theorem G3.drew {w W : World} {mb : Option Nat} {gm : Nat} {mc : Array Value} (h : G3 w mb gm mc W) : G3 w mb gm mc W.drew := ⟨h.two.drew,h.m.drew10,h.lt⟩
def GR (w : World) (mb : Option Nat) (gm : Nat) (o : Int) (m : Mod) (W : World) : Prop :=
  ∃ A1 c1 A2 c2 A3 c3 A4 c4,G3 w mb gm #[.int .i64 o,.slice A1 m.inputs.length c1,.slice A2 m.outputs.length c2,.slice A3 m.inits.length c3,.slice A4 m.nodes.length c4] W∧MRows W w.heap.size m.inputs m.outputs m.inits m.nodes (.slice A1 m.inputs.length c1) (.slice A2 m.outputs.length c2) (.slice A3 m.inits.length c3) (.slice A4 m.nodes.length c4)
theorem modelM_no {b : ByteArray} {fs : List Fl} {LL : List (List ByteArray)} {C : Int} (h : textsM b [7,8] = (LL,C)) (hC : C≠0) : modelM b fs = (zM12,C) := by
  unfold textsM at h
  unfold modelM
  by_cases hf : (fields b).2≠0
  · rw [if_pos hf] at h ⊢; injection h with _ h2; rw [h2]
  · rw [if_neg hf] at h ⊢
    rw [textsG_two] at h
    split at h
    · rename_i hw
      injection h with _ h2
      rw [modelL_wire hw,h2]
    · injection h with _ h2; exact absurd h2.symm hC
theorem modelM_yes {b : ByteArray} {fs : List Fl} {LL : List (List ByteArray)} (h : textsM b [7, 8] = (LL, 0)) :
    ∃ g o,LL = [g,o]∧g.length≤1048576∧o.length≤1048576∧(∀ b ∈ g,b.size≤1048576)∧(∀ b ∈ o,b.size≤1048576)∧(joined g).size≤1048576 * 1048576 ∧
      ((verM o).2≠0→modelM b fs = (zM12,(verM o).2))∧((verM o).2 = 0→g.length = 0→modelM b fs = (zM12,18)) ∧
      ((verM o).2 = 0→g.length≠0→(graphB (joined g) fs).2≠0→modelM b fs = (zM12,(graphB (joined g) fs).2)) ∧
      ((verM o).2 = 0→g.length≠0→(graphB (joined g) fs).2 = 0→modelM b fs = (⟨(verM o).1,(graphB (joined g) fs).1.inputs,(graphB (joined g) fs).1.outputs,(graphB (joined g) fs).1.inits,(graphB (joined g) fs).1.nodes⟩,0)) := by
  unfold textsM at h
  have hM : (fields b).2 = 0→modelM b fs = modelL (fields b).1 fs := modelM_ok
  by_cases hf : (fields b).2≠0
  · rw [if_pos hf] at h; injection h with _ h2; omega
  · rw [if_neg hf] at h
    rw [hM (by omega)]
    have hll := fields_len b
    have hlm : ∀ f ∈ (fields b).1,f.data.size≤1048576 := fun f hf => (fields_ok f hf).2
    generalize (fields b).1 = l at *
    rw [textsG_two] at h
    split at h
    · injection h with _ h2; omega
    · rename_i hw
      injection h with h1 _
      refine ⟨txL l 7,txL l 8,h1.symm,txL_len hll 7,txL_len hll 8,txL_mem hlm 7,txL_mem hlm 8,?_,?_,?_,?_,?_⟩
      · exact Nat.le_trans (joined_le (txL_mem hlm 7)) (Nat.mul_le_mul_right _ (txL_len hll 7))
      · unfold verM
        by_cases h0 : opErr (txL l 8)≠0
        · rw [if_pos h0]; intro _; exact modelL_ops hw h0
        · rw [if_neg h0]
          by_cases hb : opBad (txL l 8) = true
          · rw [if_pos hb]; intro _; exact modelL_bad hw (by omega) hb
          · rw [if_neg hb]; intro h; exact absurd rfl h
      all_goals
        unfold verM
        by_cases h0 : opErr (txL l 8)≠0
        · rw [if_pos h0]; intro h; dsimp only at h; omega
        rw [if_neg h0]
        by_cases hb : opBad (txL l 8) = true
        · rw [if_pos hb]; intro h; simp at h
        rw [if_neg hb]
        have h0' : opErr (txL l 8) = 0 := by omega
        have hb' : opBad (txL l 8) = false := by simpa using hb
      · intro _ h4; exact modelL_none hw h0' hb' h4
      all_goals
        intro _ h4 h5
        unfold graphB at h5 ⊢
        by_cases hg : (fields (joined (txL l 7))).2≠0
      · rw [modelL_fields hw h0' hb' h4 hg,if_pos hg]
      · rw [if_neg hg] at h5 ⊢
        rw [modelL_graph hw h0' hb' h4 (by omega),graphL_ver,if_pos h5]
      · rw [if_pos hg] at h5; dsimp only at h5; omega
      · rw [if_neg hg] at h5 ⊢
        rw [modelL_graph hw h0' hb' h4 (by omega),graphL_ver,if_neg (by rw [h5]; simp)]

set_option maxRecDepth 100000 in
set_option maxHeartbeats 8000000 in
theorem read12_any (b : ByteArray) (B0 : Nat) (fs : List Fl) (mb : Option Nat) (w : World) (hbs : b.size≤maxLen) (hfd : ∀ f ∈ fs,f.data.size≤maxLen) (hst : o_St B0 fs mb w) :
    Calls Tryz.prog 7 #[.string b,.agg #[.map mb]] w (ModRes (modelM b fs) w) := by
  have HX0 : Hid (G2 w mb ((w.alloc (.cells #[.map mb] 25)).alloc (.cells #[.int .i64 0,.slice none 0 0,.slice none 0 0,.slice none 0 0,.slice none 0 0] 34))) := Lib.hid ⟨(Bx.start w #[.map mb] 25).more _,Bx.two w _ _ 34⟩
  have HST := Lib.hid (fun W (h : Below w.heap.size w W) => hst.below h)
  have HFD := Lib.hid hfd
  have hz : ((w.alloc (.cells #[.map mb] 25)).alloc (.cells #[.int .i64 0,.slice none 0 0,.slice none 0 0,.slice none 0 0,.slice none 0 0] 34)).heap.size = w.heap.size + 1 + 1 := by simp
  have hs := SR.lit ((w.alloc (.cells #[.map mb] 25)).alloc (.cells #[.int .i64 0,.slice none 0 0,.slice none 0 0,.slice none 0 0,.slice none 0 0] 34)) (iv [7,8]) 3 (size := 1) (n := 2) rfl
  rw [hz] at hs
  have HT : Hid (Calls Tryz.prog 20 #[.string b,.slice (some ⟨w.heap.size + 1 + 1,0,none⟩) 2 2] (((w.alloc (.cells #[.map mb] 25)).alloc (.cells #[.int .i64 0,.slice none 0 0,.slice none 0 0,.slice none 0 0,.slice none 0 0] 34)).alloc (.cells #[.int .i64 7,.int .i64 8] 3)) (EachRes OTx 64 1 (textsM b [7,8]) (((w.alloc (.cells #[.map mb] 25)).alloc (.cells #[.int .i64 0,.slice none 0 0,.slice none 0 0,.slice none 0 0,.slice none 0 0] 34)).alloc (.cells #[.int .i64 7,.int .i64 8] 3)))) :=
    Lib.hid (textsOf12_any b (some ⟨w.heap.size + 1 + 1,0,none⟩) 2 [7,8] _ hbs (by simp) (hs.more (by simp)))
  have hal : Below ((w.alloc (.cells #[.map mb] 25)).alloc (.cells #[.int .i64 0,.slice none 0 0,.slice none 0 0,.slice none 0 0,.slice none 0 0] 34)).heap.size ((w.alloc (.cells #[.map mb] 25)).alloc (.cells #[.int .i64 0,.slice none 0 0,.slice none 0 0,.slice none 0 0,.slice none 0 0] 34)) (((w.alloc (.cells #[.map mb] 25)).alloc (.cells #[.int .i64 0,.slice none 0 0,.slice none 0 0,.slice none 0 0,.slice none 0 0] 34)).alloc (.cells #[.int .i64 7,.int .i64 8] 3)) := (Below.refl _ _).alloc (Nat.le_refl _) _
  have HAL := Lib.hid hal
  have HN := Lib.hid (fun LL C => modelM_no (b := b) (fs := fs) (LL := LL) (C := C))
  have HY := Lib.hid (fun LL => modelM_yes (b := b) (fs := fs) (LL := LL))
  clear hst hfd hz hs hal
  generalize modelM b fs = R at *
  generalize hTM : textsM b [7,8] = TM at *
  obtain ⟨LL,C⟩ := TM
  have HN := Lib.hid (HN.out LL C rfl)
  have HY := Lib.hid (fun h : C = 0 => HY.out LL (by rw [h]))
  clear hTM
  go_enter Tryz.func7,Tryz.ntmps7
  go_wp2_with fail
  refine HT.out.mono ?_
  rintro e w1 ⟨v,rfl,hdw,hb1⟩
  dsimp only at hdw
  have HX1 := Lib.hid (HX0.out.below (step_below HAL.out hb1))
  have hdw := hdw.based eg_tx (B' := w.heap.size) (by simp; omega)
  clear hb1 HT HX0 HAL
  by_cases hC : C≠0
  · have hcb : (C != 0) = true := by simpa using hC
    have HE := Lib.hid (HN.out hC)
    obtain ⟨A1,c1,rfl⟩ := hdw.form
    clear hC hdw HY HN
    obtain ⟨wE,hE,hxE⟩ := n_name (P := fun W => Bx w (w.heap.size + 1) #[.int .i64 0,.slice none 0 0,.slice none 0 0,.slice none 0 0,.slice none 0 0] 34 W) (HX1.out.b.five_put (Nat.le_succ _) (.int .i64 0) (.slice none 0 0) (.slice none 0 0) (.slice none 0 0) (.slice none 0 0))
    have HXE := Lib.hid hxE
    obtain ⟨z0,z1,z2,z3,z4⟩ := HX1.out.b.five
    have zf := fun i => HX1.out.b.free i
    clear hxE
    go_wp2_with fail
    obtain ⟨e0,e1,e2,e3,e4⟩ := HXE.out.five
    exact bodyPost_ret (v := .tuple #[.agg #[.int .i64 0,.slice none 0 0,.slice none 0 0,.slice none 0 0,.slice none 0 0],.int .i64 C]) (by simp [results,Tryz.results7,go_sem,e0,e1,e2,e3,e4]) rfl (modRes_no HE.out HXE.out.all)
  obtain rfl : C = 0 := by omega
  obtain ⟨g,o,rfl,hgl,hol,hgm,hom,hjs,hA,hB,hD,hF⟩ := HY.out rfl
  obtain ⟨gb,cap,va,vb,rfl,k0,k1,hra,hrb⟩ := dw_two hdw
  obtain ⟨Aa,ca,rfl,hca,-⟩ := own_form hra
  obtain ⟨Ab,cb,rfl,-,-⟩ := own_form hrb
  have HCA := Lib.hid hca
  have HRA := Lib.hid (own_keep hra (Below.refl w1.heap.size w1).drew)
  have HX2 := Lib.hid HX1.out.drew
  have HV := Lib.hid (readVersion_any Ab cb o w1.drew hol hom (SR.of_own (own_keep hrb (Below.refl w1.heap.size w1).drew)))
  have HGL := Lib.hid hgl
  have HGM := Lib.hid hgm
  have HJS := Lib.hid hjs
  have HA := Lib.hid hA
  have HB := Lib.hid hB
  have HD := Lib.hid hD
  have HF := Lib.hid hF
  clear hC hdw HY HN hra hrb HX1 hca hgl hol hgm hom hjs hA hB hD hF
  generalize verM o = VM at *
  obtain ⟨ver,CV⟩ := VM
  dsimp only at HV HA HB HD HF
  go_wp2_with fail
  go_region
  generalize w1.drew = W at *
  clear k0 k1
  go_wp2_with fail
  refine HV.out.mono ?_
  rintro e w2 ⟨rfl,hb2⟩
  have HX3 := Lib.hid (HX2.out.below hb2)
  have HRA := Lib.hid (own_keep HRA.out hb2)
  clear hb2 HX2 HV
  by_cases hC : CV≠0
  · have hcb : (CV != 0) = true := by simpa using hC
    have HE := Lib.hid (HA.out hC)
    clear hC HA HB HD HF
    obtain ⟨wE,hE,hxE⟩ := n_name (P := fun W => Bx w (w.heap.size + 1) #[.int .i64 0,.slice none 0 0,.slice none 0 0,.slice none 0 0,.slice none 0 0] 34 W) (HX3.out.b.five_put (Nat.le_succ _) (.int .i64 0) (.slice none 0 0) (.slice none 0 0) (.slice none 0 0) (.slice none 0 0))
    have HXE := Lib.hid hxE
    obtain ⟨z0,z1,z2,z3,z4⟩ := HX3.out.b.five
    have zf := fun i => HX3.out.b.free i
    clear hxE
    go_wp2_with fail
    obtain ⟨e0,e1,e2,e3,e4⟩ := HXE.out.five
    exact bodyPost_ret (v := .tuple #[.agg #[.int .i64 0,.slice none 0 0,.slice none 0 0,.slice none 0 0,.slice none 0 0],.int .i64 CV]) (by simp [results,Tryz.results7,go_sem,e0,e1,e2,e3,e4]) rfl (modRes_no HE.out HXE.out.all)
  obtain rfl : CV = 0 := by omega
  clear hC HA
  by_cases hg0 : g.length = 0
  · have hgb : ((g.length : Int) == 0) = true := by rw [hg0]; rfl
    have HE := Lib.hid (HB.out rfl hg0)
    clear hg0 HB HD HF
    obtain ⟨wE,hE,hxE⟩ := n_name (P := fun W => Bx w (w.heap.size + 1) #[.int .i64 0,.slice none 0 0,.slice none 0 0,.slice none 0 0,.slice none 0 0] 34 W) (HX3.out.b.five_put (Nat.le_succ _) (.int .i64 0) (.slice none 0 0) (.slice none 0 0) (.slice none 0 0) (.slice none 0 0))
    have HXE := Lib.hid hxE
    obtain ⟨z0,z1,z2,z3,z4⟩ := HX3.out.b.five
    have zf := fun i => HX3.out.b.free i
    clear hxE
    go_wp2_with fail
    obtain ⟨e0,e1,e2,e3,e4⟩ := HXE.out.five
    exact bodyPost_ret (v := .tuple #[.agg #[.int .i64 0,.slice none 0 0,.slice none 0 0,.slice none 0 0,.slice none 0 0],.int .i64 18]) (by simp [results,Tryz.results7,go_sem,e0,e1,e2,e3,e4]) rfl (modRes_no HE.out HXE.out.all)
  have hgb : ((g.length : Int) == 0) = false := by rw [beq_eq_false_iff_ne]; omega
  have HE := Lib.hid (HD.out rfl hg0)
  have HK := Lib.hid (HF.out rfl hg0)
  clear HB HD HF hg0
  go_upto_region 10 with fail
  have HX3 := Lib.hid HX3.out
  have HRA := Lib.hid HRA.out
  have HJ := Lib.hid (fun W' (h : Below w2.heap.size w2 W') => join_any Aa ca g W' HGL.out HCA.out HGM.out (((SR.of_own HRA.out).below h).more h.size))
  have HG := Lib.hid (fun W' (h : Below w.heap.size w W') => readGraph_any (joined g) B0 fs mb W' (by have := HJS.out; unfold maxLen; omega) HFD.out (HST.out W' h))
  generalize joined g = J at *
  generalize graphB J fs = GB at *
  obtain ⟨m,CG⟩ := GB
  dsimp only at HG HE HK
  have HB0 := Lib.hid (Below.refl w2.heap.size w2)
  go_cut [7,11] from 41 (fun s7 s11 wx => ∃ gm,s7 = .int .i64 CG∧s11 = .pointer (some ⟨gm,0,none⟩)∧GR w mb gm m.opset m wx)
  case first =>
    have HBD := Lib.hid HB0.out.drew
    have HBA := Lib.hid ((HB0.out.alloc HB0.out.size (.cells #[.int .i64 0,.slice none 0 0,.slice none 0 0,.slice none 0 0,.slice none 0 0] 34)).drew)
    have HXD := Lib.hid HX3.out.drew
    have HXA := Lib.hid (HX3.out.make #[.int .i64 0,.slice none 0 0,.slice none 0 0,.slice none 0 0,.slice none 0 0]).drew
    have s2 : w2.cell? ⟨w.heap.size,0,none⟩ = some (.map mb) := HX3.out.a.cell 0
    have s3 : (w2.alloc (.cells #[.int .i64 0,.slice none 0 0,.slice none 0 0,.slice none 0 0,.slice none 0 0] 34)).cell? ⟨w.heap.size,0,none⟩ = some (.map mb) := (HX3.out.make #[.int .i64 0,.slice none 0 0,.slice none 0 0,.slice none 0 0,.slice none 0 0]).two.a.cell 0
    have s0 : w2.drew.cell? ⟨w.heap.size,0,none⟩ = some (.map mb) := HXD.out.a.cell 0
    have s1 : (w2.alloc (.cells #[.int .i64 0,.slice none 0 0,.slice none 0 0,.slice none 0 0,.slice none 0 0] 34)).drew.cell? ⟨w.heap.size,0,none⟩ = some (.map mb) := HXA.out.two.a.cell 0
    go_region_with (first
      | (go_at_call 23; (with_reducible refine (HJ.out _ HBA.out).mono ?_); rintro e w3 ⟨rfl,hb3⟩; have HX4 := Lib.hid (HXA.out.below hb3); clear hb3; have q0 : w3.cell? ⟨w.heap.size,0,none⟩ = some (.map mb) := HX4.out.two.a.cell 0)
      | (go_at_call 23; (with_reducible refine (HJ.out _ HBD.out).mono ?_); rintro e w3 ⟨rfl,hb3⟩; have HX4 := Lib.hid (HXD.out.below hb3); clear hb3; have q0 : w3.cell? ⟨w.heap.size,0,none⟩ = some (.map mb) := HX4.out.a.cell 0; have HX5 := Lib.hid (HX4.out.make #[.int .i64 0,.slice none 0 0,.slice none 0 0,.slice none 0 0,.slice none 0 0]); have q1 : (w3.alloc (.cells #[.int .i64 0,.slice none 0 0,.slice none 0 0,.slice none 0 0,.slice none 0 0] 34)).cell? ⟨w.heap.size,0,none⟩ = some (.map mb) := HX5.out.two.a.cell 0)
      | (go_at_call 22; (with_reducible refine (HG.out _ HX4.out.m.all).mono ?_); rintro e w4 ⟨v1,v2,v3,v4,rfl,hmr,hb4⟩; have HMR := Lib.hid (hmr.base HX4.out.m.all.size); have HX6 := Lib.hid (HX4.out.below hb4); clear hb4 hmr; (obtain ⟨A1,c1,rfl⟩ := HMR.out.r1.form); (obtain ⟨A2,c2,rfl⟩ := HMR.out.r2.form); (obtain ⟨A3,c3,rfl⟩ := HMR.out.r3.form); (obtain ⟨A4,c4,rfl⟩ := HMR.out.r4.form); (obtain ⟨m0,m1,m2,m3,m4⟩ := HX6.out.m.five); have mf := fun i => HX6.out.m.free i; (obtain ⟨W7,hW7,hx7⟩ := n_name (P := fun W => GR w mb _ m.opset m W) ⟨A1,c1,A2,c2,A3,c3,A4,c4,HX6.out.put5 (.int .i64 m.opset) (.slice A1 m.inputs.length c1) (.slice A2 m.outputs.length c2) (.slice A3 m.inits.length c3) (.slice A4 m.nodes.length c4),HMR.out.set5 HX6.out.m.1 _ _ _ _ _⟩); have HX7 := Lib.hid hx7; clear hx7)
      | (go_at_call 22; (with_reducible refine (HG.out _ HX5.out.m.all).mono ?_); rintro e w4 ⟨v1,v2,v3,v4,rfl,hmr,hb4⟩; have HMR := Lib.hid (hmr.base HX5.out.m.all.size); have HX6 := Lib.hid (HX5.out.below hb4); clear hb4 hmr; (obtain ⟨A1,c1,rfl⟩ := HMR.out.r1.form); (obtain ⟨A2,c2,rfl⟩ := HMR.out.r2.form); (obtain ⟨A3,c3,rfl⟩ := HMR.out.r3.form); (obtain ⟨A4,c4,rfl⟩ := HMR.out.r4.form); (obtain ⟨m0,m1,m2,m3,m4⟩ := HX6.out.m.five); have mf := fun i => HX6.out.m.free i; (obtain ⟨W7,hW7,hx7⟩ := n_name (P := fun W => GR w mb _ m.opset m W) ⟨A1,c1,A2,c2,A3,c3,A4,c4,HX6.out.put5 (.int .i64 m.opset) (.slice A1 m.inputs.length c1) (.slice A2 m.outputs.length c2) (.slice A3 m.inits.length c3) (.slice A4 m.nodes.length c4),HMR.out.set5 HX6.out.m.1 _ _ _ _ _⟩); have HX7 := Lib.hid hx7; clear hx7)
      | (go_at_call 22; (with_reducible refine (HG.out _ HX4.out.a.all).mono ?_); rintro e w4 ⟨v1,v2,v3,v4,rfl,hmr,hb4⟩; have HMR := Lib.hid (hmr.base HX4.out.a.all.size); have HX6 := Lib.hid (HX4.out.below hb4); clear hb4 hmr; (obtain ⟨A1,c1,rfl⟩ := HMR.out.r1.form); (obtain ⟨A2,c2,rfl⟩ := HMR.out.r2.form); (obtain ⟨A3,c3,rfl⟩ := HMR.out.r3.form); (obtain ⟨A4,c4,rfl⟩ := HMR.out.r4.form); have HX7 : Hid (GR w mb w4.heap.size m.opset m (w4.alloc (.cells #[.int .i64 m.opset,.slice A1 m.inputs.length c1,.slice A2 m.outputs.length c2,.slice A3 m.inits.length c3,.slice A4 m.nodes.length c4] 34))) := Lib.hid ⟨A1,c1,A2,c2,A3,c3,A4,c4,HX6.out.make #[.int .i64 m.opset,.slice A1 m.inputs.length c1,.slice A2 m.outputs.length c2,.slice A3 m.inits.length c3,.slice A4 m.nodes.length c4],HMR.out.keep ((Below.refl w4.heap.size w4).alloc (Nat.le_refl _) (.cells #[.int .i64 m.opset,.slice A1 m.inputs.length c1,.slice A2 m.outputs.length c2,.slice A3 m.inits.length c3,.slice A4 m.nodes.length c4] 34))⟩)
      | fail)
    all_goals
      go_wp2_with fail
      go_meet
      exact ⟨_,rfl,rfl,HX7.out⟩
  case rest =>
    obtain ⟨gm,rfl,rfl,hgr⟩ := hcut
    obtain ⟨A1,c1,A2,c2,A3,c3,A4,c4,hg3,hmr⟩ := hgr
    have HG3 := Lib.hid hg3
    have HMR := Lib.hid hmr
    clear hg3 hmr HJ HG HX3 HRA HB0
    by_cases hC : CG≠0
    · have hcb : (CG != 0) = true := by simpa using hC
      have HE := Lib.hid (HE.out hC)
      clear hC HK
      obtain ⟨wE,hE,hxE⟩ := n_name (P := fun W => Bx w (w.heap.size + 1) #[.int .i64 0,.slice none 0 0,.slice none 0 0,.slice none 0 0,.slice none 0 0] 34 W) (HG3.out.two.b.five_put (Nat.le_succ _) (.int .i64 0) (.slice none 0 0) (.slice none 0 0) (.slice none 0 0) (.slice none 0 0))
      have HXE := Lib.hid hxE
      obtain ⟨z0,z1,z2,z3,z4⟩ := HG3.out.two.b.five
      have zf := fun i => HG3.out.two.b.free i
      clear hxE
      go_wp2_with fail
      obtain ⟨e0,e1,e2,e3,e4⟩ := HXE.out.five
      exact bodyPost_ret (v := .tuple #[.agg #[.int .i64 0,.slice none 0 0,.slice none 0 0,.slice none 0 0,.slice none 0 0],.int .i64 CG]) (by simp [results,Tryz.results7,go_sem,e0,e1,e2,e3,e4]) rfl (modRes_no HE.out HXE.out.all)
    obtain rfl : CG = 0 := by omega
    have HE := Lib.hid (HK.out rfl)
    clear hC HK
    have hlt := HG3.out.lt
    obtain ⟨m0,m1,m2,m3,m4⟩ := HG3.out.m.five
    have mf := fun i => HG3.out.m.free i
    have HQ := Lib.hid (HG3.out.set 0 (.int .i64 ver))
    have HQR := Lib.hid (HMR.out.set HG3.out.m.1 0 (.int .i64 ver))
    obtain ⟨W8,hW8,hp8⟩ := n_name (P := fun W => G3 w mb gm #[.int .i64 ver,.slice A1 m.inputs.length c1,.slice A2 m.outputs.length c2,.slice A3 m.inits.length c3,.slice A4 m.nodes.length c4] W∧MRows W w.heap.size m.inputs m.outputs m.inits m.nodes (.slice A1 m.inputs.length c1) (.slice A2 m.outputs.length c2) (.slice A3 m.inits.length c3) (.slice A4 m.nodes.length c4)) ⟨HQ.out,HQR.out⟩
    have H8 := Lib.hid hp8
    clear hp8 HQ HQR
    obtain ⟨wE,hE,hxE⟩ := n_name (P := fun W => Bx w (w.heap.size + 1) #[.int .i64 ver,.slice A1 m.inputs.length c1,.slice A2 m.outputs.length c2,.slice A3 m.inits.length c3,.slice A4 m.nodes.length c4] 34 W∧MRows W w.heap.size m.inputs m.outputs m.inits m.nodes (.slice A1 m.inputs.length c1) (.slice A2 m.outputs.length c2) (.slice A3 m.inits.length c3) (.slice A4 m.nodes.length c4))
      ⟨H8.out.1.two.b.five_put (Nat.le_succ _) (.int .i64 ver) (.slice A1 m.inputs.length c1) (.slice A2 m.outputs.length c2) (.slice A3 m.inits.length c3) (.slice A4 m.nodes.length c4),H8.out.2.set5 H8.out.1.two.b.1 _ _ _ _ _⟩
    have HXE := Lib.hid hxE
    obtain ⟨z0,z1,z2,z3,z4⟩ := H8.out.1.two.b.five
    have zf := fun i => H8.out.1.two.b.free i
    obtain ⟨y0,y1,y2,y3,y4⟩ := H8.out.1.m.five
    clear hxE hlt
    go_wp2_with fail
    obtain ⟨e0,e1,e2,e3,e4⟩ := HXE.out.1.five
    exact bodyPost_ret (v := .tuple #[.agg #[.int .i64 ver,.slice A1 m.inputs.length c1,.slice A2 m.outputs.length c2,.slice A3 m.inits.length c3,.slice A4 m.nodes.length c4],.int .i64 0]) (by simp [results,Tryz.results7,go_sem,e0,e1,e2,e3,e4]) rfl (modRes_yes HE.out HXE.out.2 HXE.out.1.all)
end Go.Proofs.YtjjfdlgoacockaaGreat
