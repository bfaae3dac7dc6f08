/- The law PbgraphReads (agatelaw12): for every input that can be read the call returns true, and its arguments read behind it as before. -/
import Derived.Test.YtjjfdlgoacockaaGreatBLawR
import Derived.Test.YtjjfdlgoacockaaGreatNInfoD
import Derived.Test.YtjjfdlgoacockaaGreatBRead
import Derived.Test.YtjjfdlgoacockaaGreatBLast
import Derived.Test.YtjjfdlgoacockaaGreatHRows
import Derived.Test.YtjjfdlgoacockaaGreatHEachI
import Derived.Test.YtjjfdlgoacockaaGreatOOpen
import Derived.Test.YtjjfdlgoacockaaGreatMNew
import Derived.Deep.RegionHeld
import Derived.Test.YtjjfdlgoacockaaGreatLift
import Derived.SizedLaws
namespace Go.Proofs.YtjjfdlgoacockaaGreat
open Go.RowKit M1 M2 M3 M8 M9 M10 M11 M12 Go.Sort
open M7 (nm Ten ck)

theorem ask_sum (x1 x2 : Int) (l : List WFd) (h1 : x1 = lstC l 1 2) (h2 : x2 = lstC l 2 0) : (x1 + x2 != 0) = !(okF l 1 2 && okF l 2 0) := by
  subst h1; subst h2
  rw [lstC_is,lstC_is]
  cases okF l 1 2 <;> cases okF l 2 0 <;> rfl
theorem lst_two {l : List WFd} (h : (okF l 1 2 && okF l 2 0) = true) : lstF l 1 2 = lastF l 1∧lstF l 2 0 = lastF l 2 := by
  simp only [Bool.and_eq_true] at h
  exact ⟨lstF_true h.1,lstF_true h.2⟩
theorem op_small {o : List ByteArray} (h : opBad o = false) : opVal o 0≤2147483648 := by
  unfold opBad at h
  simp only [Bool.or_eq_false_iff,decide_eq_false_iff_not,Decidable.not_not] at h
  obtain ⟨h1,h2⟩ := h
  obtain ⟨b,rfl⟩ := List.length_eq_one_iff.1 h1
  simp only [List.any_cons,List.any_nil,Bool.or_false] at h2
  unfold opBad1 at h2
  simp only [Bool.or_eq_false_iff,decide_eq_false_iff_not] at h2
  rw [opVal_one]; omega
set_option maxRecDepth 100000 in
set_option maxHeartbeats 16000000 in
theorem rread12_any (b : ByteArray) (V : Option Addr) (vc : Nat) (fs : List Fl) (w : World) (hbs : b.size ≤ maxLen) (hfl : fs.length ≤ 100) (hfd : ∀ f ∈ fs, f.data.size ≤ 10000) (hf : SR w w.heap.size 2 V fs.length (fcl fs)) :
    Calls Tryz.prog 8 #[.string b,.slice V fs.length vc] w (ModResD (modelM b fs) w) := by
  obtain ⟨i4,hi4,hz4,hz41,hz42⟩ := info_parts infoRNode
  obtain ⟨i3,hi3,hz3,hz31,hz32⟩ := info_parts infoRTen
  obtain ⟨i1,hi1,hz1,hz11,hz12⟩ := info_parts infoRInfo
  have HX0 := Lib.hid (Bx.start w #[.int .i64 0,.slice none 0 0,.slice none 0 0,.slice none 0 0,.slice none 0 0] 42)
  have HFI := Lib.hid (fun W (h : Below w.heap.size w W) => (hf.below h).more h.size)
  have HFD := Lib.hid hfd
  have HFLN := Lib.hid hfl
  have HF := Lib.hid (fun W => rfields_any b W hbs)
  have HFL := Lib.hid (fields_len b)
  have HFO := Lib.hid (fun f hf => (fields_ok (s := b) f hf).2)
  have HE1 := Lib.hid (modelM_err (b := b) (fs := fs))
  have HE2 := Lib.hid (modelM_ok (b := b) (fs := fs))
  clear hf hfd hfl
  generalize modelM b fs = R at *
  generalize fields b = FF at *
  obtain ⟨L,C⟩ := FF
  dsimp only at *
  go_enter Tryz.func8,Tryz.ntmps8
  go_wp2_with fail
  refine (HF.out _).mono ?_
  rintro e w1 ⟨v1,rfl,hown,hb1⟩
  obtain ⟨a1,c1,rfl,-,-⟩ := own_form hown
  have HX1 := Lib.hid (HX0.out.below hb1)
  have HS1 := Lib.hid (fun W (h : Below w1.heap.size w1 W) => ((SR.of_own hown).below h).more h.size)
  clear hb1 hown HF HX0
  by_cases hC : C≠0
  · have hcb : ((C : Int) != 0) = true := by simpa using hC
    have HE := Lib.hid (HE1.out hC)
    clear hC
    obtain ⟨wE,hE,hxE⟩ := n_name (P := fun W => Bx w w.heap.size #[.int .i64 0,.slice none 0 0,.slice none 0 0,.slice none 0 0,.slice none 0 0] 42 W) (HX1.out.five_put (Nat.le_refl _) (.int .i64 0) (.slice none 0 0) (.slice none 0 0) (.slice none 0 0) (.slice none 0 0))
    have HXE := Lib.hid hxE
    obtain ⟨z0,z1,z2,z3,z4⟩ := HX1.out.five
    have zf := fun i => HX1.out.free i
    clear hxE
    go_wp2_with fail
    obtain ⟨e0,e1,e2,e3,e4⟩ := HXE.out.five
    exact bodyPost_ret (v := .tuple #[.agg #[.int .i64 0,.slice none 0 0,.slice none 0 0,.slice none 0 0,.slice none 0 0],.int .i64 (C : Int)]) (by simp [results,Tryz.results8,go_sem,e0,e1,e2,e3,e4]) rfl (modResD_no HE.out HXE.out.all)
  obtain rfl : C = 0 := by omega
  have HR := Lib.hid (HE2.out rfl)
  have HT7 : Hid (∀ W,Below w1.heap.size w1 W→Calls Tryz.prog 25 #[.slice a1 L.length c1,.int .i64 7] W (TxtRes W.heap.size (txL L 7,txE L 7) W)) := Lib.hid (fun W h => rtexts_any a1 c1 L 7 W (by have := HFL.out; omega) (HS1.out W h))
  have HT8 : Hid (∀ W,Below w1.heap.size w1 W→Calls Tryz.prog 25 #[.slice a1 L.length c1,.int .i64 8] W (TxtRes W.heap.size (txL L 8,txE L 8) W)) := Lib.hid (fun W h => rtexts_any a1 c1 L 8 W (by have := HFL.out; omega) (HS1.out W h))
  have HGL := Lib.hid (txL_len HFL.out 7)
  have HOL := Lib.hid (txL_len HFL.out 8)
  have HGM := Lib.hid (txL_mem HFO.out 7)
  have HOM := Lib.hid (txL_mem HFO.out 8)
  have H7 := Lib.hid (txE_or L 7)
  have H8 := Lib.hid (txE_or L 8)
  have MW := Lib.hid (modelL_wire (l := L) (fs := fs))
  have MO := Lib.hid (modelL_ops (l := L) (fs := fs))
  have MB := Lib.hid (modelL_bad (l := L) (fs := fs))
  have MN := Lib.hid (modelL_none (l := L) (fs := fs))
  have MF := Lib.hid (modelL_fields (l := L) (fs := fs))
  have MG := Lib.hid (modelL_graph (l := L) (fs := fs))
  have HW1 := Lib.hid (Below.refl w1.heap.size w1)
  clear hC HE1 HE2 HFL HFO HS1
  rw [← HR.out] at MW MO MB MN MF MG
  generalize txL L 7 = g at *
  generalize txL L 8 = o at *
  generalize txE L 7 = e7 at *
  generalize txE L 8 = e8 at *
  go_wp2_with fail
  refine (HT7.out _ HW1.out).mono ?_
  rintro e w2 ⟨v,rfl,hown,hb⟩
  dsimp only at hown
  obtain ⟨Ag,cg,rfl,-,-⟩ := own_form hown
  have HX2 := Lib.hid (HX1.out.below hb)
  have HW2 := Lib.hid (HW1.out.trans (hb.mono HW1.out.size))
  have HRG := Lib.hid (own_base hown HX1.out.all.size)
  clear hb hown HX1 HW1 HT7
  go_wp2_with fail
  refine (HT8.out _ HW2.out).mono ?_
  rintro e w3 ⟨v,rfl,hown,hb⟩
  dsimp only at hown
  obtain ⟨Ao,co,rfl,-,-⟩ := own_form hown
  have HX3 := Lib.hid (HX2.out.below hb)
  have HRO := Lib.hid (own_base hown HX2.out.all.size)
  have HRG := Lib.hid (own_keep HRG.out hb)
  clear hb hown HX2 HW2 HT8
  by_cases hw : e7≠0∨e8≠0
  · have HE := Lib.hid (MW.out hw)
    have hwr : IntKind.i64.wrap ((e7 : Int) + (e8 : Int)) = (e7 : Int) + (e8 : Int) := by
      rw [IntKind.wrap_i64]; rcases H7.out with h | h <;> rcases H8.out with h2 | h2 <;> rw [h,h2] <;> decide
    have hsum : ((e7 : Int) + (e8 : Int) != 0) = true := by
      rcases H7.out with h | h <;> rcases H8.out with h2 | h2 <;> rw [h,h2] at hw ⊢ <;> first | rfl | (exfalso; omega)
    clear MW MO MB MN MF MG hw
    obtain ⟨wE,hE,hxE⟩ := n_name (P := fun W => Bx w w.heap.size #[.int .i64 0,.slice none 0 0,.slice none 0 0,.slice none 0 0,.slice none 0 0] 42 W) (HX3.out.five_put (Nat.le_refl _) (.int .i64 0) (.slice none 0 0) (.slice none 0 0) (.slice none 0 0) (.slice none 0 0))
    have HXE := Lib.hid hxE
    obtain ⟨z0,z1,z2,z3,z4⟩ := HX3.out.five
    have zf := fun i => HX3.out.free i
    clear hxE
    go_wp2_with fail
    obtain ⟨e0,e1,e2,e3,e4⟩ := HXE.out.five
    exact bodyPost_ret (v := .tuple #[.agg #[.int .i64 0,.slice none 0 0,.slice none 0 0,.slice none 0 0,.slice none 0 0],.int .i64 3]) (by simp [results,Tryz.results8,go_sem,e0,e1,e2,e3,e4]) rfl (modResD_no HE.out HXE.out.all)
  have h7 : e7 = 0 := by omega
  have h8 : e8 = 0 := by omega
  have HWR := Lib.hid hw
  subst h7
  subst h8
  clear MW hw H7 H8
  have HO := Lib.hid (show GD w w3.heap.size #[.int .i64 0,.slice none 0 0,.slice none 0 0,.slice none 0 0,.slice none 0 0] (w3.alloc (.cells #[.int .i64 0,.slice none 0 0,.slice none 0 0,.slice none 0 0,.slice none 0 0] 42)) from ⟨HX3.out.more _,HX3.out.next _ 42,HX3.out.2.1⟩)
  have hb3 : Below w3.heap.size w3 (w3.alloc (.cells #[.int .i64 0,.slice none 0 0,.slice none 0 0,.slice none 0 0,.slice none 0 0] 42)) := (Below.refl _ _).alloc (Nat.le_refl _) _
  have HRG := Lib.hid (own_keep HRG.out hb3)
  have HRO := Lib.hid (own_keep HRO.out hb3)
  clear HX3 hb3
  go_wp2_with fail
  generalize w3.alloc (.cells #[.int .i64 0,.slice none 0 0,.slice none 0 0,.slice none 0 0,.slice none 0 0] 42) = w4 at *
  generalize w3.heap.size = gm at *
  have hol := HOL.out
  have hgl := HGL.out
  go_loopw [12,14] (fun q i wr => ∃ (k : Nat) (K O : Int),i = .int .i64 K∧q = .bool (opBadK o k)∧K = (k : Nat)∧k≤o.length∧O = wrap64 ((opVal (o.take k) 0 : Nat) : Int)∧opErr o = opErr (o.drop k)∧GD w gm #[.int .i64 O,.slice none 0 0,.slice none 0 0,.slice none 0 0,.slice none 0 0] wr∧wr.ownsRow w.heap.size 9 1 (.slice Ag g.length cg) g.length (p_tv g)∧wr.ownsRow w.heap.size 9 1 (.slice Ao o.length co) o.length (p_tv o)) (fun _ i _ => o.length - (intOf i).toNat)
  case atStart => exact ⟨0,_,_,rfl,by rw [opBadK_zero]; first | rfl | (congr 1; rw [Bool.eq_iff_iff]; simp; omega),rfl,by omega,by simp [opVal,wrap64],rfl,HO.out,HRG.out,HRO.out⟩
  case round =>
    clear HO HRG HRO
    obtain ⟨k,K,O,rfl,rfl,rfl,hk,hO,hoe,hgd,hrg,hro⟩ := hrel
    have HG := Lib.hid hgd
    have HRG := Lib.hid hrg
    have HRO := Lib.hid hro
    have HOE := Lib.hid hoe
    have HOV := Lib.hid hO
    clear hO hoe hrg hgd
    by_cases hlt : k < o.length
    · obtain ⟨bb,ob,rfl,-,hx⟩ := n_txt_at (SR.of_own hro) hlt
      have hsk := HOM.out o[k] (List.getElem_mem hlt)
      have HE1 := Lib.hid (opErr_err hlt HOE.out)
      have HE2 := Lib.hid (opErr_wire hlt HOE.out)
      have HE3 := Lib.hid (opErr_step hlt HOE.out)
      have HBS := Lib.hid (opBadK_step hlt)
      have HVS := Lib.hid (opVal_step hlt)
      have HF := Lib.hid (fun W => rfields_any o[k] W (by unfold maxLen; omega))
      have HFL := Lib.hid (fields_len o[k])
      clear hro HOV HOE
      unfold opBad1 opDom opVer at HBS
      unfold opVer at HVS
      rw [empty_ne12] at HBS
      generalize o[k] = X at *
      generalize fields X = FX at *
      obtain ⟨LX,CX⟩ := FX
      dsimp only at HE1 HE2 HE3 HBS HVS HF HFL
      generalize opBadK o k = q at *
      go_wp2_with fail
      refine (HF.out _).mono ?_
      rintro e w5 ⟨v5,rfl,hown,hb5⟩
      obtain ⟨a5,c5,rfl,-,-⟩ := own_form hown
      have HG5 := Lib.hid (HG.out.below hb5)
      have HRG5 := Lib.hid (own_keep HRG.out hb5)
      have HRO5 := Lib.hid (own_keep HRO.out hb5)
      have HS5 := Lib.hid (fun W (h : Below w5.heap.size w5 W) => ((SR.of_own hown).below h).more h.size)
      clear hb5 hown HF HG HRG HRO hx
      by_cases hC : CX≠0
      · have hcb : ((CX : Int) != 0) = true := by simpa using hC
        have HE := Lib.hid (show R = (zM12,(CX : Int)) by rw [← HE1.out hC]; exact MO.out HWR.out (by rw [HE1.out hC]; exact hC))
        clear hC HE1 HE2 HE3 MO MB MN MF MG
        obtain ⟨wE,hE,hxE⟩ := n_name (P := fun W => Bx w w.heap.size #[.int .i64 0,.slice none 0 0,.slice none 0 0,.slice none 0 0,.slice none 0 0] 42 W) (HG5.out.z.five_put (Nat.le_refl _) (.int .i64 0) (.slice none 0 0) (.slice none 0 0) (.slice none 0 0) (.slice none 0 0))
        have HXE := Lib.hid hxE
        obtain ⟨z0,z1,z2,z3,z4⟩ := HG5.out.z.five
        have zf := fun i => HG5.out.z.free i
        clear hxE
        go_wp2_with fail
        obtain ⟨e0,e1,e2,e3,e4⟩ := HXE.out.five
        exact bodyPost_ret (v := .tuple #[.agg #[.int .i64 0,.slice none 0 0,.slice none 0 0,.slice none 0 0,.slice none 0 0],.int .i64 (CX : Int)]) (by simp [results,Tryz.results8,go_sem,e0,e1,e2,e3,e4]) rfl (modResD_no HE.out HXE.out.all)
      obtain rfl : CX = 0 := by omega
      have HLA := Lib.hid (fun W (h : Below w5.heap.size w5 W) => rlast_any a5 c5 LX 1 2 W (by have := HFL.out; omega) (HS5.out W h))
      have HLB := Lib.hid (fun W (h : Below w5.heap.size w5 W) => rlast_any a5 c5 LX 2 0 W (by have := HFL.out; omega) (HS5.out W h))
      have HSUM := Lib.hid (fun x1 x2 => ask_sum x1 x2 LX)
      have HP1 := Lib.hid (n_lstC_in LX 1 2)
      have HP2 := Lib.hid (n_lstC_in LX 2 0)
      have HLT := Lib.hid (lst_two (l := LX))
      have HSU := Lib.hid (HSUM.out _ _ rfl rfl)
      have HEB2 := Lib.hid (HE2.out rfl)
      have HEB3 := Lib.hid (HE3.out rfl)
      clear HE2 HE3
      have HW5 := Lib.hid (Below.refl w5.heap.size w5)
      clear hC HE1 HSUM HS5 HFL
      generalize lstC LX 1 2 = x1 at *
      generalize lstC LX 2 0 = x2 at *
      generalize lstF LX 1 2 = f1 at *
      generalize lstF LX 2 0 = f2 at *
      generalize lastF LX 1 = F1 at *
      generalize lastF LX 2 = F2 at *
      generalize (okF LX 1 2 && okF LX 2 0) = ok at *
      obtain ⟨n1,t1,m1,d1⟩ := f1
      obtain ⟨n2,t2,m2,d2⟩ := f2
      dsimp only at HLA HLB
      go_wp2_with fail
      refine (HLA.out _ HW5.out).mono ?_
      rintro e w6 ⟨rfl,hb⟩
      have hba := step_below hb ((Below.refl w6.heap.size w6).alloc (Nat.le_refl _) (.cells #[.int .i64 n1,.int .i64 t1,.int .u64 (m1 : Int),.string d1] 75))
      have HG6 := Lib.hid (HG5.out.below hba)
      have HW6 := Lib.hid (HW5.out.trans (hba.mono HW5.out.size))
      have HU1 := Lib.hid ((HG5.out.m.below hb).next #[.int .i64 n1,.int .i64 t1,.int .u64 (m1 : Int),.string d1] 75)
      have HRG6 := Lib.hid (own_keep HRG5.out hba)
      have HRO6 := Lib.hid (own_keep HRO5.out hba)
      clear hb hba HG5 HW5 HLA HRG5 HRO5
      go_wp2_with fail
      refine (HLB.out _ HW6.out).mono ?_
      rintro e w7 ⟨rfl,hb⟩
      have hba := step_below hb ((Below.refl w7.heap.size w7).alloc (Nat.le_refl _) (.cells #[.int .i64 n2,.int .i64 t2,.int .u64 (m2 : Int),.string d2] 75))
      have HG7 := Lib.hid (HG6.out.below hba)
      have HU2 := Lib.hid ((HG6.out.m.below hb).next #[.int .i64 n2,.int .i64 t2,.int .u64 (m2 : Int),.string d2] 75)
      have HU1 := Lib.hid (HU1.out.below hba)
      have HRG7 := Lib.hid (own_keep HRG6.out hba)
      have HRO7 := Lib.hid (own_keep HRO6.out hba)
      clear hb hba HG6 HW6 HLB HRG6 HRO6
      have hwr : IntKind.i64.wrap (x1 + x2) = x1 + x2 := by have := HP1.out; have := HP2.out; rw [IntKind.wrap_i64]; omega
      have hsum := HSU.out
      cases ok
      · have HE := Lib.hid (show R = (zM12,3) by have h := HEB2.out rfl; have h2 := MO.out HWR.out (by rw [h]; decide); rw [h] at h2; exact h2)
        clear HEB2 HEB3 MO MB MN MF MG HU1 HU2
        obtain ⟨wE,hE,hxE⟩ := n_name (P := fun W => Bx w w.heap.size #[.int .i64 0,.slice none 0 0,.slice none 0 0,.slice none 0 0,.slice none 0 0] 42 W) (HG7.out.z.five_put (Nat.le_refl _) (.int .i64 0) (.slice none 0 0) (.slice none 0 0) (.slice none 0 0) (.slice none 0 0))
        have HXE := Lib.hid hxE
        obtain ⟨z0,z1,z2,z3,z4⟩ := HG7.out.z.five
        have zf := fun i => HG7.out.z.free i
        clear hxE
        go_wp2_with fail
        obtain ⟨e0,e1,e2,e3,e4⟩ := HXE.out.five
        exact bodyPost_ret (v := .tuple #[.agg #[.int .i64 0,.slice none 0 0,.slice none 0 0,.slice none 0 0,.slice none 0 0],.int .i64 3]) (by simp [results,Tryz.results8,go_sem,e0,e1,e2,e3,e4]) rfl (modResD_no HE.out HXE.out.all)
      obtain ⟨rfl,rfl⟩ := HLT.out rfl
      have HEC3 := Lib.hid (HEB3.out rfl)
      dsimp only at HBS HVS
      obtain ⟨y0,y1,y2,y3⟩ := HU1.out.four
      obtain ⟨u0,u1,u2,u3⟩ := HU2.out.four
      obtain ⟨m0,m3,m4,m5,m6⟩ := HG7.out.m.five
      have mf := fun i => HG7.out.m.free i
      obtain ⟨w8,hw8,hx8⟩ := n_name (P := fun W => GD w gm #[.int .i64 (wrap64 (m2 : Int)),.slice none 0 0,.slice none 0 0,.slice none 0 0,.slice none 0 0] W∧W.ownsRow w.heap.size 9 1 (.slice Ag g.length cg) g.length (p_tv g)∧W.ownsRow w.heap.size 9 1 (.slice (some ⟨bb,ob,none⟩) o.length co) o.length (p_tv o))
        ⟨HG7.out.set 0 (.int .i64 (wrap64 (m2 : Int))),own_set HRG7.out (own_far HRG7.out HG7.out.m.1 (by decide)) 0 _,own_set HRO7.out (own_far HRO7.out HG7.out.m.1 (by decide)) 0 _⟩
      have H8 := Lib.hid hx8
      clear hx8 HG7 HU1 HU2 HRG7 HRO7 HEB2 HEB3 HSU HP1 HP2 HLT
      have HVT := Lib.hid (congrArg (fun n : Nat => wrap64 (n : Int)) HVS.out)
      cases q
      case true =>
        go_wp2_with fail
        go_roundw
        case rel => exact ⟨k + 1,_,_,rfl,by rw [HBS.out]; rfl,by omega,by omega,HVT.out.symm,HEC3.out,H8.out.1,H8.out.2.1,H8.out.2.2⟩
        case measure => simp [intOf]; omega
      cases hem : d1.toList.isEmpty
      case false =>
        rw [hem] at HBS
        go_wp2_with fail
        go_roundw
        case rel => exact ⟨k + 1,_,_,rfl,by rw [HBS.out]; rfl,by omega,by omega,HVT.out.symm,HEC3.out,H8.out.1,H8.out.2.1,H8.out.2.2⟩
        case measure => simp [intOf]; omega
      rw [hem] at HBS
      by_cases hn : 2147483648 < m2
      · have hn' : (2147483648 : Int) < (m2 : Int) := by omega
        rw [decide_eq_true hn] at HBS
        clear hn
        go_wp2_with fail
        go_roundw
        case rel => exact ⟨k + 1,_,_,rfl,by rw [HBS.out]; rfl,by omega,by omega,HVT.out.symm,HEC3.out,H8.out.1,H8.out.2.1,H8.out.2.2⟩
        case measure => simp [intOf]; omega
      · have hn' : ¬ (2147483648 : Int) < (m2 : Int) := by omega
        rw [decide_eq_false hn] at HBS
        have hwe : wrap64 (m2 : Int) = (m2 : Int) := by unfold wrap64; omega
        rw [hwe] at hw8 H8 HVT
        clear hn hwe
        go_wp2_with fail
        go_roundw
        case rel => exact ⟨k + 1,_,_,rfl,by rw [HBS.out]; first | rfl | (rw [decide_eq_false (show ¬ (2147483648 : Int) < (m2 : Int) by omega)]; rfl),by omega,by omega,HVT.out.symm,HEC3.out,H8.out.1,H8.out.2.1,H8.out.2.2⟩
        case measure => simp [intOf]; omega
    · obtain rfl : k = o.length := by omega
      have HER := Lib.hid (opErr_end HOE.out)
      have hov := HOV.out
      rw [opVal_end] at hov
      rw [opBadK_end]
      have MB1 := Lib.hid (MB.out HWR.out HER.out)
      have MN1 := Lib.hid (MN.out HWR.out HER.out)
      have MF1 := Lib.hid (MF.out HWR.out HER.out)
      have MG1 := Lib.hid (MG.out HWR.out HER.out)
      clear MB MN MF MG
      have HSM := Lib.hid (op_small (o := o))
      clear hro hlt hk HOE HOV MO HRO HOM HER HWR
      generalize opBad o = bad at *
      generalize opVal o 0 = ver at *
      cases bad
      case true =>
        have HE := Lib.hid (MB1.out rfl)
        clear MB1 MN1 MF1 MG1 HSM hov
        obtain ⟨wE,hE,hxE⟩ := n_name (P := fun W => Bx w w.heap.size #[.int .i64 0,.slice none 0 0,.slice none 0 0,.slice none 0 0,.slice none 0 0] 42 W) (HG.out.z.five_put (Nat.le_refl _) (.int .i64 0) (.slice none 0 0) (.slice none 0 0) (.slice none 0 0) (.slice none 0 0))
        have HXE := Lib.hid hxE
        obtain ⟨z0,z1,z2,z3,z4⟩ := HG.out.z.five
        have zf := fun i => HG.out.z.free i
        clear hxE
        go_wp2_with fail
        obtain ⟨e0,e1,e2,e3,e4⟩ := HXE.out.five
        exact bodyPost_ret (v := .tuple #[.agg #[.int .i64 0,.slice none 0 0,.slice none 0 0,.slice none 0 0,.slice none 0 0],.int .i64 16]) (by simp [results,Tryz.results8,go_sem,e0,e1,e2,e3,e4]) rfl (modResD_no HE.out HXE.out.all)
      obtain rfl : O = (ver : Int) := by have := HSM.out rfl; rw [hov]; unfold wrap64; omega
      have MN2 := Lib.hid (MN1.out rfl)
      have MF2 := Lib.hid (MF1.out rfl)
      have MG2 := Lib.hid (MG1.out rfl)
      clear MB1 MN1 MF1 MG1 hov
      by_cases hg0 : g.length = 0
      · have hgb : ((g.length : Int) == 0) = true := by rw [hg0]; rfl
        have HE := Lib.hid (MN2.out hg0)
        clear hg0 MN2 MF2 MG2 HSM
        obtain ⟨wE,hE,hxE⟩ := n_name (P := fun W => Bx w w.heap.size #[.int .i64 0,.slice none 0 0,.slice none 0 0,.slice none 0 0,.slice none 0 0] 42 W) (HG.out.z.five_put (Nat.le_refl _) (.int .i64 0) (.slice none 0 0) (.slice none 0 0) (.slice none 0 0) (.slice none 0 0))
        have HXE := Lib.hid hxE
        obtain ⟨z0,z1,z2,z3,z4⟩ := HG.out.z.five
        have zf := fun i => HG.out.z.free i
        clear hxE
        go_wp2_with fail
        obtain ⟨e0,e1,e2,e3,e4⟩ := HXE.out.five
        exact bodyPost_ret (v := .tuple #[.agg #[.int .i64 0,.slice none 0 0,.slice none 0 0,.slice none 0 0,.slice none 0 0],.int .i64 18]) (by simp [results,Tryz.results8,go_sem,e0,e1,e2,e3,e4]) rfl (modResD_no HE.out HXE.out.all)
      have hgb : ((g.length : Int) == 0) = false := by rw [beq_eq_false_iff_ne]; omega
      have MF3 := Lib.hid (MF2.out hg0)
      have MG3 := Lib.hid (MG2.out hg0)
      clear hg0 MN2 MF2 MG2
      go_wp2_with fail
      go_loopw [23,24] (fun s i wr => ∃ (k : Nat) (K : Int) (t : ByteArray),i = .int .i64 K∧s = .string t∧K = (k : Nat)∧k≤g.length∧t = joined (g.take k)∧GD w gm #[.int .i64 (ver : Int),.slice none 0 0,.slice none 0 0,.slice none 0 0,.slice none 0 0] wr∧wr.ownsRow w.heap.size 9 1 (.slice Ag g.length cg) g.length (p_tv g)) (fun _ i _ => g.length - (intOf i).toNat)
      case atStart => exact ⟨0,_,_,rfl,rfl,rfl,by omega,rfl,HG.out,HRG.out⟩
      case round =>
        clear HG HRG
        obtain ⟨k,K,t,rfl,rfl,rfl,hk,htk,hgd,hrg⟩ := hrel
        have HG := Lib.hid hgd
        have HRG := Lib.hid hrg
        have HTK := Lib.hid htk
        have hsz : t.size≤1099511627776 := by
          rw [htk]
          have h1 := joined_size (l := g.take k) fun s hs => HGM.out s (List.mem_of_mem_take hs)
          have h2 : (g.take k).length≤1048576 := by simp; omega
          omega
        clear htk hgd
        by_cases hlt : k < g.length
        · obtain ⟨b1,o1,rfl,hb1,x0⟩ := n_txt_at (SR.of_own hrg) hlt
          have hs1 := HGM.out _ (List.getElem_mem hlt)
          have HN := Lib.hid (show t ++ g[k] = joined (g.take (k + 1)) by rw [List.take_succ_eq_append_getElem hlt,joined_snoc,HTK.out])
          clear hrg MF3 MG3
          generalize g[k] = u at *
          go_wp2_with fail
          go_roundw
          case rel => exact ⟨k + 1,_,_,rfl,rfl,by omega,by omega,HN.out,HG.out,HRG.out⟩
          case measure => simp [intOf]; omega
        obtain rfl : k = g.length := by omega
        have htj : t = joined g := by rw [HTK.out,List.take_length]
        have HF := Lib.hid (fun W => rfields_any t W (by unfold maxLen; omega))
        rw [← htj] at MF3 MG3
        have HFL := Lib.hid (fields_len t)
        have HFO := Lib.hid (fun f hf => (fields_ok (s := t) f hf).2)
        clear hrg HTK HRG hlt hk htj HGM hgl
        generalize fields t = FF at *
        obtain ⟨FL,C⟩ := FF
        dsimp only at HF MF3 MG3 HFL HFO
        go_wp2_with fail
        refine (HF.out _).mono ?_
        rintro e w9 ⟨v9,rfl,hown,hb9⟩
        obtain ⟨a9,c9,rfl,-,-⟩ := own_form hown
        have HX1 := Lib.hid (HG.out.below hb9)
        have HS1 := Lib.hid (fun W (h : Below w9.heap.size w9 W) => ((SR.of_own hown).below h).more h.size)
        clear hb9 hown HF HG
        by_cases hC : C≠0
        · have hcb : ((C : Int) != 0) = true := by simpa using hC
          have HE := Lib.hid (MF3.out hC)
          clear hC MF3 MG3
          obtain ⟨wE,hE,hxE⟩ := n_name (P := fun W => Bx w w.heap.size #[.int .i64 0,.slice none 0 0,.slice none 0 0,.slice none 0 0,.slice none 0 0] 42 W) (HX1.out.z.five_put (Nat.le_refl _) (.int .i64 0) (.slice none 0 0) (.slice none 0 0) (.slice none 0 0) (.slice none 0 0))
          have HXE := Lib.hid hxE
          obtain ⟨z0,z1,z2,z3,z4⟩ := HX1.out.z.five
          have zf := fun i => HX1.out.z.free i
          clear hxE
          go_wp2_with fail
          obtain ⟨e0,e1,e2,e3,e4⟩ := HXE.out.five
          exact bodyPost_ret (v := .tuple #[.agg #[.int .i64 0,.slice none 0 0,.slice none 0 0,.slice none 0 0,.slice none 0 0],.int .i64 (C : Int)]) (by simp [results,Tryz.results8,go_sem,e0,e1,e2,e3,e4]) rfl (modResD_no HE.out HXE.out.all)
        obtain rfl : C = 0 := by omega
        have HR := Lib.hid (MG3.out rfl)
        clear MF3 MG3 hC
        have HW1 := Lib.hid (Below.refl w9.heap.size w9)
        have HT1 : Hid (∀ W,Below w9.heap.size w9 W→Calls Tryz.prog 25 #[.slice a9 FL.length c9,.int .i64 1] W (TxtRes W.heap.size (txL FL 1,txE FL 1) W)) := Lib.hid (fun W h => rtexts_any a9 c9 FL 1 W (by have := HFL.out; omega) (HS1.out W h))
        have HL1 := Lib.hid (txL_len HFL.out 1)
        have HM1 := Lib.hid (txL_mem HFO.out 1)
        have H1 := Lib.hid (txE_or FL 1)
        have HT5 : Hid (∀ W,Below w9.heap.size w9 W→Calls Tryz.prog 25 #[.slice a9 FL.length c9,.int .i64 5] W (TxtRes W.heap.size (txL FL 5,txE FL 5) W)) := Lib.hid (fun W h => rtexts_any a9 c9 FL 5 W (by have := HFL.out; omega) (HS1.out W h))
        have HL5 := Lib.hid (txL_len HFL.out 5)
        have HM5 := Lib.hid (txL_mem HFO.out 5)
        have H5 := Lib.hid (txE_or FL 5)
        have HT11 : Hid (∀ W,Below w9.heap.size w9 W→Calls Tryz.prog 25 #[.slice a9 FL.length c9,.int .i64 11] W (TxtRes W.heap.size (txL FL 11,txE FL 11) W)) := Lib.hid (fun W h => rtexts_any a9 c9 FL 11 W (by have := HFL.out; omega) (HS1.out W h))
        have HL11 := Lib.hid (txL_len HFL.out 11)
        have HM11 := Lib.hid (txL_mem HFO.out 11)
        have H11 := Lib.hid (txE_or FL 11)
        have HT12 : Hid (∀ W,Below w9.heap.size w9 W→Calls Tryz.prog 25 #[.slice a9 FL.length c9,.int .i64 12] W (TxtRes W.heap.size (txL FL 12,txE FL 12) W)) := Lib.hid (fun W h => rtexts_any a9 c9 FL 12 W (by have := HFL.out; omega) (HS1.out W h))
        have HL12 := Lib.hid (txL_len HFL.out 12)
        have HM12 := Lib.hid (txL_mem HFO.out 12)
        have H12 := Lib.hid (txE_or FL 12)
        have MW := Lib.hid (graphL_wire (v := ver) (fs := fs) (l := FL))
        have MM := Lib.hid (graphL_many (v := ver) (fs := fs) (l := FL))
        have NN := Lib.hid (fun hw h2 c => graphL_nodes (v := ver) (fs := fs) (l := FL) (c := c) hw h2)
        have NT := Lib.hid (fun hw h2 h3 c => graphL_inits (v := ver) (fs := fs) (l := FL) (c := c) hw h2 h3)
        have NI := Lib.hid (fun hw h2 h3 h4 c => graphL_ins (v := ver) (fs := fs) (l := FL) (c := c) hw h2 h3 h4)
        have NO := Lib.hid (fun hw h2 h3 h4 h5 c => graphL_outs (v := ver) (fs := fs) (l := FL) (c := c) hw h2 h3 h4 h5)
        have NK := Lib.hid (fun ns ts is os hw h2 => graphL_all (v := ver) (fs := fs) (l := FL) (ns := ns) (ts := ts) (is := is) (os := os) hw h2)
        rw [← HR.out] at MW MM NN NT NI NO NK
        have HTM := Lib.hid (show tooMany FL = (decide (1024 < (txL FL 1).length) || decide (1024 < (txL FL 5).length) || decide (64 < (txL FL 11).length) || decide (64 < (txL FL 12).length)) from rfl)
        unfold graWire at MW MM NN NT NI NO NK
        clear HR HFL HFO HS1
        generalize txL FL 1 = L1 at *
        generalize txL FL 5 = L5 at *
        generalize txL FL 11 = L11 at *
        generalize txL FL 12 = L12 at *
        generalize txE FL 1 = e1 at *
        generalize txE FL 5 = e5 at *
        generalize txE FL 11 = e11 at *
        generalize txE FL 12 = e12 at *
        generalize tooMany FL = tm at *
        go_wp2_with fail
        refine (HT1.out _ HW1.out).mono ?_
        rintro e u1 ⟨v,rfl,hown,hb⟩
        dsimp only at hown
        obtain ⟨Aa,ca,rfl,-,-⟩ := own_form hown
        have HRa := Lib.hid (own_base hown HX1.out.m.all.size)
        have HX1 := Lib.hid (HX1.out.below hb)
        have HW1 := Lib.hid (HW1.out.trans (hb.mono HW1.out.size))
        clear hb hown HT1
        go_wp2_with fail
        refine (HT5.out _ HW1.out).mono ?_
        rintro e u5 ⟨v,rfl,hown,hb⟩
        dsimp only at hown
        obtain ⟨Ab,cb,rfl,-,-⟩ := own_form hown
        have HRb := Lib.hid (own_base hown HX1.out.m.all.size)
        have HX1 := Lib.hid (HX1.out.below hb)
        have HW1 := Lib.hid (HW1.out.trans (hb.mono HW1.out.size))
        have HRa := Lib.hid (own_keep HRa.out hb)
        clear hb hown HT5
        go_wp2_with fail
        refine (HT11.out _ HW1.out).mono ?_
        rintro e u11 ⟨v,rfl,hown,hb⟩
        dsimp only at hown
        obtain ⟨Ac,cc,rfl,-,-⟩ := own_form hown
        have HRc := Lib.hid (own_base hown HX1.out.m.all.size)
        have HX1 := Lib.hid (HX1.out.below hb)
        have HW1 := Lib.hid (HW1.out.trans (hb.mono HW1.out.size))
        have HRa := Lib.hid (own_keep HRa.out hb)
        have HRb := Lib.hid (own_keep HRb.out hb)
        clear hb hown HT11
        go_wp2_with fail
        refine (HT12.out _ HW1.out).mono ?_
        rintro e u12 ⟨v,rfl,hown,hb⟩
        dsimp only at hown
        obtain ⟨Ad,cd,rfl,-,-⟩ := own_form hown
        have HRd := Lib.hid (own_base hown HX1.out.m.all.size)
        have HX1 := Lib.hid (HX1.out.below hb)
        have HW1 := Lib.hid (HW1.out.trans (hb.mono HW1.out.size))
        have HRa := Lib.hid (own_keep HRa.out hb)
        have HRb := Lib.hid (own_keep HRb.out hb)
        have HRc := Lib.hid (own_keep HRc.out hb)
        clear hb hown HT12
        have HXT := Lib.hid (show Tx4 u12 w.heap.size L1 L5 L11 L12 (.slice Aa L1.length ca) (.slice Ab L5.length cb) (.slice Ac L11.length cc) (.slice Ad L12.length cd) from ⟨HRa.out,HRb.out,HRc.out,HRd.out⟩)
        clear HRa HRb HRc HRd HW1
        by_cases hw : e1≠0∨e5≠0∨e11≠0∨e12≠0
        · have HE := Lib.hid (MW.out hw)
          clear MM NN NT NI NO NK
          have h1 := H1.out
          have h5 := H5.out
          have h11 := H11.out
          have h12 := H12.out
          have hw1 : IntKind.i64.wrap ((e1 : Int) + (e5 : Int)) = (e1 : Int) + (e5 : Int) := by rw [IntKind.wrap_i64]; omega
          have hw2 : IntKind.i64.wrap ((e1 : Int) + (e5 : Int) + (e11 : Int)) = (e1 : Int) + (e5 : Int) + (e11 : Int) := by rw [IntKind.wrap_i64]; omega
          have hw3 : IntKind.i64.wrap ((e1 : Int) + (e5 : Int) + (e11 : Int) + (e12 : Int)) = (e1 : Int) + (e5 : Int) + (e11 : Int) + (e12 : Int) := by rw [IntKind.wrap_i64]; omega
          have hsum : ((e1 : Int) + (e5 : Int) + (e11 : Int) + (e12 : Int) != 0) = true := by simp only [bne_iff_ne,ne_eq]; omega
          clear hw h1 h5 h11 h12
          obtain ⟨wE,hE,hxE⟩ := n_name (P := fun W => Bx w w.heap.size #[.int .i64 0,.slice none 0 0,.slice none 0 0,.slice none 0 0,.slice none 0 0] 42 W) (HX1.out.z.five_put (Nat.le_refl _) (.int .i64 0) (.slice none 0 0) (.slice none 0 0) (.slice none 0 0) (.slice none 0 0))
          have HXE := Lib.hid hxE
          obtain ⟨z0,z1,z2,z3,z4⟩ := HX1.out.z.five
          have zf := fun i => HX1.out.z.free i
          clear hxE
          go_wp2_with fail
          obtain ⟨e0,e1,e2,e3,e4⟩ := HXE.out.five
          exact bodyPost_ret (v := .tuple #[.agg #[.int .i64 0,.slice none 0 0,.slice none 0 0,.slice none 0 0,.slice none 0 0],.int .i64 3]) (by simp [results,Tryz.results8,go_sem,e0,e1,e2,e3,e4]) rfl (modResD_no HE.out HXE.out.all)
        obtain rfl : e1 = 0 := by omega
        obtain rfl : e5 = 0 := by omega
        obtain rfl : e11 = 0 := by omega
        obtain rfl : e12 = 0 := by omega
        have HWR := Lib.hid hw
        clear MW hw H1 H5 H11 H12
        have MM := Lib.hid (MM.out HWR.out)
        have NN := Lib.hid (NN.out HWR.out)
        have NT := Lib.hid (NT.out HWR.out)
        have NI := Lib.hid (NI.out HWR.out)
        have NO := Lib.hid (NO.out HWR.out)
        have NK := Lib.hid (fun ns ts is os => NK.out ns ts is os HWR.out)
        clear HWR
        by_cases q1 : 1024 < L1.length
        · have HE := Lib.hid (MM.out (by rw [HTM.out]; simp [q1]))
          have p1 : (1024 : Int) < (L1.length : Int) := by omega
          clear NN NT NI NO NK MM q1
          obtain ⟨wE,hE,hxE⟩ := n_name (P := fun W => Bx w w.heap.size #[.int .i64 0,.slice none 0 0,.slice none 0 0,.slice none 0 0,.slice none 0 0] 42 W) (HX1.out.z.five_put (Nat.le_refl _) (.int .i64 0) (.slice none 0 0) (.slice none 0 0) (.slice none 0 0) (.slice none 0 0))
          have HXE := Lib.hid hxE
          obtain ⟨z0,z1,z2,z3,z4⟩ := HX1.out.z.five
          have zf := fun i => HX1.out.z.free i
          clear hxE
          go_wp2_with fail
          obtain ⟨e0,e1,e2,e3,e4⟩ := HXE.out.five
          exact bodyPost_ret (v := .tuple #[.agg #[.int .i64 0,.slice none 0 0,.slice none 0 0,.slice none 0 0,.slice none 0 0],.int .i64 7]) (by simp [results,Tryz.results8,go_sem,e0,e1,e2,e3,e4]) rfl (modResD_no HE.out HXE.out.all)
        have p1 : ¬ (1024 : Int) < (L1.length : Int) := by omega
        by_cases q5 : 1024 < L5.length
        · have HE := Lib.hid (MM.out (by rw [HTM.out]; simp [q5]))
          have p5 : (1024 : Int) < (L5.length : Int) := by omega
          clear NN NT NI NO NK MM q5
          obtain ⟨wE,hE,hxE⟩ := n_name (P := fun W => Bx w w.heap.size #[.int .i64 0,.slice none 0 0,.slice none 0 0,.slice none 0 0,.slice none 0 0] 42 W) (HX1.out.z.five_put (Nat.le_refl _) (.int .i64 0) (.slice none 0 0) (.slice none 0 0) (.slice none 0 0) (.slice none 0 0))
          have HXE := Lib.hid hxE
          obtain ⟨z0,z1,z2,z3,z4⟩ := HX1.out.z.five
          have zf := fun i => HX1.out.z.free i
          clear hxE
          go_wp2_with fail
          obtain ⟨e0,e1,e2,e3,e4⟩ := HXE.out.five
          exact bodyPost_ret (v := .tuple #[.agg #[.int .i64 0,.slice none 0 0,.slice none 0 0,.slice none 0 0,.slice none 0 0],.int .i64 7]) (by simp [results,Tryz.results8,go_sem,e0,e1,e2,e3,e4]) rfl (modResD_no HE.out HXE.out.all)
        have p5 : ¬ (1024 : Int) < (L5.length : Int) := by omega
        by_cases q11 : 64 < L11.length
        · have HE := Lib.hid (MM.out (by rw [HTM.out]; simp [q11]))
          have p11 : (64 : Int) < (L11.length : Int) := by omega
          clear NN NT NI NO NK MM q11
          obtain ⟨wE,hE,hxE⟩ := n_name (P := fun W => Bx w w.heap.size #[.int .i64 0,.slice none 0 0,.slice none 0 0,.slice none 0 0,.slice none 0 0] 42 W) (HX1.out.z.five_put (Nat.le_refl _) (.int .i64 0) (.slice none 0 0) (.slice none 0 0) (.slice none 0 0) (.slice none 0 0))
          have HXE := Lib.hid hxE
          obtain ⟨z0,z1,z2,z3,z4⟩ := HX1.out.z.five
          have zf := fun i => HX1.out.z.free i
          clear hxE
          go_wp2_with fail
          obtain ⟨e0,e1,e2,e3,e4⟩ := HXE.out.five
          exact bodyPost_ret (v := .tuple #[.agg #[.int .i64 0,.slice none 0 0,.slice none 0 0,.slice none 0 0,.slice none 0 0],.int .i64 7]) (by simp [results,Tryz.results8,go_sem,e0,e1,e2,e3,e4]) rfl (modResD_no HE.out HXE.out.all)
        have p11 : ¬ (64 : Int) < (L11.length : Int) := by omega
        by_cases q12 : 64 < L12.length
        · have HE := Lib.hid (MM.out (by rw [HTM.out]; simp [q12]))
          have p12 : (64 : Int) < (L12.length : Int) := by omega
          clear NN NT NI NO NK MM q12
          obtain ⟨wE,hE,hxE⟩ := n_name (P := fun W => Bx w w.heap.size #[.int .i64 0,.slice none 0 0,.slice none 0 0,.slice none 0 0,.slice none 0 0] 42 W) (HX1.out.z.five_put (Nat.le_refl _) (.int .i64 0) (.slice none 0 0) (.slice none 0 0) (.slice none 0 0) (.slice none 0 0))
          have HXE := Lib.hid hxE
          obtain ⟨z0,z1,z2,z3,z4⟩ := HX1.out.z.five
          have zf := fun i => HX1.out.z.free i
          clear hxE
          go_wp2_with fail
          obtain ⟨e0,e1,e2,e3,e4⟩ := HXE.out.five
          exact bodyPost_ret (v := .tuple #[.agg #[.int .i64 0,.slice none 0 0,.slice none 0 0,.slice none 0 0,.slice none 0 0],.int .i64 7]) (by simp [results,Tryz.results8,go_sem,e0,e1,e2,e3,e4]) rfl (modResD_no HE.out HXE.out.all)
        have p12 : ¬ (64 : Int) < (L12.length : Int) := by omega
        have HTM := Lib.hid (show tm = false by rw [HTM.out]; simp [q1,q5,q11,q12])
        have NN := Lib.hid (NN.out HTM.out)
        have NT := Lib.hid (NT.out HTM.out)
        have NI := Lib.hid (NI.out HTM.out)
        have NO := Lib.hid (NO.out HTM.out)
        have NK := Lib.hid (fun ns ts is os => NK.out ns ts is os HTM.out)
        have HLT := Lib.hid HX1.out.lt
        have HQ := Lib.hid (show GQ w gm (ver : Int) [] [] [] (.slice none 0 0) (.slice none 0 0) (.slice none 0 0) (.slice none 0 0) L1 L5 L11 L12 (.slice Aa L1.length ca) (.slice Ab L5.length cb) (.slice Ac L11.length cc) (.slice Ad L12.length cd) u12 from ⟨HX1.out,dwn _ _ _ _ _,dwn _ _ _ _ _,dwn _ _ _ _ _,HXT.out⟩)
        clear HX1 HXT MM HTM
        go_wp2_with fail
        clear p1 p5 p11 p12
        go_loopw [34] (fun i wr => ∃ (k : Nat) (K : Int) (acc : List Nod) (A : Option Addr) (c : Nat),i = .int .i64 K∧K = (k : Nat)∧k≤L1.length∧acc.length = k∧eachM nodeI L1 [] = eachM nodeI (L1.drop k) acc∧GQ w gm (ver : Int) [] [] acc (.slice none 0 0) (.slice none 0 0) (.slice none 0 0) (.slice A k c) L1 L5 L11 L12 (.slice Aa L1.length ca) (.slice Ab L5.length cb) (.slice Ac L11.length cc) (.slice Ad L12.length cd) wr) (fun i _ => L1.length - (intOf i).toNat)
        case atStart => exact ⟨0,_,[],none,0,rfl,rfl,by omega,rfl,rfl,HQ.out⟩
        case round =>
          clear HQ
          obtain ⟨k,K,acc,A,c,rfl,rfl,hk,rfl,hat,hgq⟩ := hrel
          have HQ := Lib.hid hgq
          have hlb := q1
          by_cases hlt : acc.length < L1.length
          · obtain ⟨bb,ob,hAx,-,hx⟩ := n_txt_at (SR.of_own hgq.x.a) hlt
            subst hAx
            have hsk := HM1.out _ (List.getElem_mem hlt)
            have HE1 := Lib.hid (eachM_err (f := nodeI) hlt hat)
            have HE2 := Lib.hid (eachM_step (f := nodeI) hlt hat)
            clear hat hgq
            generalize L1[acc.length] = X at *
            have HR : Hid (∀ W,Below w.heap.size w W→Calls Tryz.prog 27 #[.string X] W (ReadRes RONod (nodeI X) W)) := Lib.hid (fun W _ => rnode11_any X W (by unfold maxLen; omega))
            generalize nodeI X = FX at HE1 HE2 HR
            obtain ⟨a,C⟩ := FX
            dsimp only at HE1 HE2 HR
            go_wp2_with fail
            refine (HR.out _ HQ.out.all).mono ?_
            rintro e w7 ⟨cs,rfl,hq1,hb7⟩
            dsimp only at hq1
            obtain ⟨Y1,y1,Y2,y2,hcs⟩ : ∃ Y1 y1 Y2 y2,cs = [.string a.op,.slice Y1 a.ins.length y1,.string a.out,.slice Y2 a.attrs.length y2] := NodAt.shape hq1.at_
            subst hcs
            have hb2 := (Below.refl w7.heap.size w7).alloc (Nat.le_refl _) (.cells #[.string a.op,.slice Y1 a.ins.length y1,.string a.out,.slice Y2 a.attrs.length y2] 80)
            have HQ7 := Lib.hid (HQ.out.below (step_below hb7 hb2))
            have HX7 := Lib.hid (Bx.start w7 #[.string a.op,.slice Y1 a.ins.length y1,.string a.out,.slice Y2 a.attrs.length y2] 80)
            obtain ⟨css,ho,hpush⟩ := HQ7.out.push4 (ef_nod.base (ef_nod.keep hq1 hb2) HQ.out.all.size)
            have HOW := Lib.hid ho
            have HPU := Lib.hid hpush
            clear hq1 hb2 HR ho hpush hb7
            by_cases hC : C≠0
            · have hcb : (C != 0) = true := by simpa using hC
              have HE := Lib.hid (NN.out C (by rw [HE1.out hC]) hC)
              clear hC HE1 HE2 NN NT NI NO NK HPU HOW
              obtain ⟨wE,hE,hxE⟩ := n_name (P := fun W => Bx w w.heap.size #[.int .i64 0,.slice none 0 0,.slice none 0 0,.slice none 0 0,.slice none 0 0] 42 W) (HQ7.out.g.z.five_put (Nat.le_refl _) (.int .i64 0) (.slice none 0 0) (.slice none 0 0) (.slice none 0 0) (.slice none 0 0))
              have HXE := Lib.hid hxE
              obtain ⟨z0,z1,z2,z3,z4⟩ := HQ7.out.g.z.five
              have zf := fun i => HQ7.out.g.z.free i
              clear hxE
              go_wp2_with fail
              obtain ⟨e0,e1,e2,e3,e4⟩ := HXE.out.five
              exact bodyPost_ret (v := .tuple #[.agg #[.int .i64 0,.slice none 0 0,.slice none 0 0,.slice none 0 0,.slice none 0 0],.int .i64 C]) (by simp [results,Tryz.results8,go_sem,e0,e1,e2,e3,e4]) rfl (modResD_no HE.out HXE.out.all)
            obtain rfl : C = 0 := by omega
            have HS := Lib.hid (HE2.out rfl)
            clear hC HE1 HE2
            obtain ⟨x0,x1,x2,x3⟩ := HX7.out.four
            obtain ⟨m0,m1,m2,m3,m4⟩ := HQ7.out.g.m.five
            go_wp2_with (at_builtin; refine wpList_append_own _ rfl _ _ 40 rfl w.heap.size 80 i4 _ 4 80 Tryz.underlying40 hi4 hz4 hz41 hz42 rfl (by decide) _ _ _ rfl (HOW.out.alloc _) ⟨w7.heap.size + 1,0,none⟩ 1 1 [.string a.op,.slice Y1 a.ins.length y1,.string a.out,.slice Y2 a.attrs.length y2] rfl rfl (cells_new2 _ _ _ _) ?c2 ?c3 ?c4 ?c5 ?_)
            case c2 => intro u hu; simp at hu; rcases hu with rfl | rfl | rfl | rfl <;> rfl
            case c3 => unfold maxLen; omega
            case c4 => omega
            case c5 => have := HQ7.out.all.size; simp at this ⊢; omega
            intro v' w9 hown' hgrow _
            obtain ⟨vp,vq,rfl,-,-⟩ := own_form hown'
            obtain ⟨hm9,hq9⟩ := HPU.out _ _ _ hown' hgrow
            obtain ⟨w10,hw10,hx10⟩ := n_name (P := fun W => GQ w gm (ver : Int) [] [] (acc ++ [a]) (.slice none 0 0) (.slice none 0 0) (.slice none 0 0) (.slice vp (acc.length + 1) vq) L1 L5 L11 L12 (.slice (some ⟨bb,ob,none⟩) L1.length ca) (.slice Ab L5.length cb) (.slice Ac L11.length cc) (.slice Ad L12.length cd) W) hq9
            obtain ⟨y0,y1,y2,y3,y4⟩ := hm9.five
            have yf := fun i => hm9.free i
            have H10 := Lib.hid hx10
            clear hx10 hown' hgrow hm9 m0 m1 m2 m3 m4 x0 x1 x2 x3 HPU HOW HX7
            go_wp2_with fail
            go_roundw
            case rel => exact ⟨acc.length + 1,_,acc ++ [a],vp,vq,rfl,by omega,by omega,by simp,HS.out,H10.out⟩
            case measure => simp [intOf]; omega
          obtain ⟨ns,hacc⟩ : ∃ x,x = acc := ⟨_,rfl⟩
          subst hacc
          have hle : ns.length = L1.length := by omega
          have HQN := Lib.hid (eachM_end (f := nodeI) (l := L1) (acc := ns) (by rw [← hle]; exact hat))
          obtain ⟨A4,hA⟩ : ∃ x,x = A := ⟨_,rfl⟩
          obtain ⟨c4,hc⟩ : ∃ x,x = c := ⟨_,rfl⟩
          subst hA
          subst hc
          clear hat hgq hk hlt
          have HLEN := Lib.hid hle
          go_wp2_with fail
          clear hle
          go_loopw [37] (fun i wr => ∃ (k : Nat) (K : Int) (acc : List Ten) (A : Option Addr) (c : Nat),i = .int .i64 K∧K = (k : Nat)∧k≤L5.length∧acc.length = k∧eachM (fun b => rd9 b fs) L5 [] = eachM (fun b => rd9 b fs) (L5.drop k) acc∧GQ w gm (ver : Int) [] acc ns (.slice none 0 0) (.slice none 0 0) (.slice A k c) (.slice A4 ns.length c4) L1 L5 L11 L12 (.slice Aa L1.length ca) (.slice Ab L5.length cb) (.slice Ac L11.length cc) (.slice Ad L12.length cd) wr) (fun i _ => L5.length - (intOf i).toNat)
          case atStart => exact ⟨0,_,[],none,0,rfl,rfl,by omega,rfl,rfl,HQ.out⟩
          case round =>
            clear HQ
            obtain ⟨k,K,acc,A,c,rfl,rfl,hk,rfl,hat,hgq⟩ := hrel
            have HQ := Lib.hid hgq
            have hlb := q5
            by_cases hlt : acc.length < L5.length
            · obtain ⟨bb,ob,hAx,-,hx⟩ := n_txt_at (SR.of_own hgq.x.b) hlt
              subst hAx
              have hsk := HM5.out _ (List.getElem_mem hlt)
              have HE1 := Lib.hid (eachM_err (f := (fun b => rd9 b fs)) hlt hat)
              have HE2 := Lib.hid (eachM_step (f := (fun b => rd9 b fs)) hlt hat)
              clear hat hgq
              generalize L5[acc.length] = X at *
              have HR : Hid (∀ W,Below w.heap.size w W→Calls Tryz.prog 28 #[.string X,.slice V fs.length vc] W (ReadRes OTen (rd9 X fs) W)) := Lib.hid (fun W (h : Below w.heap.size w W) => (rread9_any X V vc fs W (by unfold maxLen; omega) HFLN.out HFD.out (HFI.out W h)).mono fun e w' ⟨v,he,ho,hb⟩ => ⟨_,he,⟨v,rfl,ho,tOk12 X fs⟩,hb⟩)
              generalize rd9 X fs = FX at HE1 HE2 HR
              obtain ⟨a,C⟩ := FX
              dsimp only at HE1 HE2 HR
              go_wp2_with fail
              refine (HR.out _ HQ.out.all).mono ?_
              rintro e w7 ⟨cs,rfl,hq1,hb7⟩
              dsimp only at hq1
              obtain ⟨Y1,y1,rfl⟩ := OTen.shape hq1
              have hb2 := (Below.refl w7.heap.size w7).alloc (Nat.le_refl _) (.cells #[.string a.name,.int .i64 a.kind,.slice Y1 a.dims.length y1,.string a.data] 85)
              have HQ7 := Lib.hid (HQ.out.below (step_below hb7 hb2))
              have HX7 := Lib.hid (Bx.start w7 #[.string a.name,.int .i64 a.kind,.slice Y1 a.dims.length y1,.string a.data] 85)
              obtain ⟨css,ho,hpush⟩ := HQ7.out.push3 (ef_ten.base (ef_ten.keep hq1 hb2) HQ.out.all.size)
              have HOW := Lib.hid ho
              have HPU := Lib.hid hpush
              clear hq1 hb2 HR ho hpush hb7
              by_cases hC : C≠0
              · have hcb : (C != 0) = true := by simpa using hC
                have HE := Lib.hid (NT.out (by rw [HQN.out]) C (by rw [HE1.out hC]) hC)
                clear hC HE1 HE2 NN NT NI NO NK HPU HOW
                obtain ⟨wE,hE,hxE⟩ := n_name (P := fun W => Bx w w.heap.size #[.int .i64 0,.slice none 0 0,.slice none 0 0,.slice none 0 0,.slice none 0 0] 42 W) (HQ7.out.g.z.five_put (Nat.le_refl _) (.int .i64 0) (.slice none 0 0) (.slice none 0 0) (.slice none 0 0) (.slice none 0 0))
                have HXE := Lib.hid hxE
                obtain ⟨z0,z1,z2,z3,z4⟩ := HQ7.out.g.z.five
                have zf := fun i => HQ7.out.g.z.free i
                clear hxE
                go_wp2_with fail
                obtain ⟨e0,e1,e2,e3,e4⟩ := HXE.out.five
                exact bodyPost_ret (v := .tuple #[.agg #[.int .i64 0,.slice none 0 0,.slice none 0 0,.slice none 0 0,.slice none 0 0],.int .i64 C]) (by simp [results,Tryz.results8,go_sem,e0,e1,e2,e3,e4]) rfl (modResD_no HE.out HXE.out.all)
              obtain rfl : C = 0 := by omega
              have HS := Lib.hid (HE2.out rfl)
              clear hC HE1 HE2
              obtain ⟨x0,x1,x2,x3⟩ := HX7.out.four
              obtain ⟨m0,m1,m2,m3,m4⟩ := HQ7.out.g.m.five
              go_wp2_with (at_builtin; refine wpList_append_own _ rfl _ _ 39 rfl w.heap.size 85 i3 _ 4 64 Tryz.underlying39 hi3 hz3 hz31 hz32 rfl (by decide) _ _ _ rfl (HOW.out.alloc _) ⟨w7.heap.size + 1,0,none⟩ 1 1 [.string a.name,.int .i64 a.kind,.slice Y1 a.dims.length y1,.string a.data] rfl rfl (cells_new2 _ _ _ _) ?c2 ?c3 ?c4 ?c5 ?_)
              case c2 => intro u hu; simp at hu; rcases hu with rfl | rfl | rfl | rfl <;> rfl
              case c3 => unfold maxLen; omega
              case c4 => omega
              case c5 => have := HQ7.out.all.size; simp at this ⊢; omega
              intro v' w9 hown' hgrow _
              obtain ⟨vp,vq,rfl,-,-⟩ := own_form hown'
              obtain ⟨hm9,hq9⟩ := HPU.out _ _ _ hown' hgrow
              obtain ⟨w10,hw10,hx10⟩ := n_name (P := fun W => GQ w gm (ver : Int) [] (acc ++ [a]) ns (.slice none 0 0) (.slice none 0 0) (.slice vp (acc.length + 1) vq) (.slice A4 ns.length c4) L1 L5 L11 L12 (.slice Aa L1.length ca) (.slice (some ⟨bb,ob,none⟩) L5.length cb) (.slice Ac L11.length cc) (.slice Ad L12.length cd) W) hq9
              obtain ⟨y0,y1,y2,y3,y4⟩ := hm9.five
              have yf := fun i => hm9.free i
              have H10 := Lib.hid hx10
              clear hx10 hown' hgrow hm9 m0 m1 m2 m3 m4 x0 x1 x2 x3 HPU HOW HX7
              go_wp2_with fail
              go_roundw
              case rel => exact ⟨acc.length + 1,_,acc ++ [a],vp,vq,rfl,by omega,by omega,by simp,HS.out,H10.out⟩
              case measure => simp [intOf]; omega
            obtain ⟨ts,hacc⟩ : ∃ x,x = acc := ⟨_,rfl⟩
            subst hacc
            have hle : ts.length = L5.length := by omega
            have HQT := Lib.hid (eachM_end (f := (fun b => rd9 b fs)) (l := L5) (acc := ts) (by rw [← hle]; exact hat))
            obtain ⟨A3,hA⟩ : ∃ x,x = A := ⟨_,rfl⟩
            obtain ⟨c3,hc⟩ : ∃ x,x = c := ⟨_,rfl⟩
            subst hA
            subst hc
            clear hat hgq hk hlt
            have HLET := Lib.hid hle
            go_wp2_with fail
            clear hle
            go_loopw [40] (fun i wr => ∃ (k : Nat) (K : Int) (acc : List Inf) (A : Option Addr) (c : Nat),i = .int .i64 K∧K = (k : Nat)∧k≤L11.length∧acc.length = k∧eachM infoI L11 [] = eachM infoI (L11.drop k) acc∧GQ w gm (ver : Int) acc ts ns (.slice A k c) (.slice none 0 0) (.slice A3 ts.length c3) (.slice A4 ns.length c4) L1 L5 L11 L12 (.slice Aa L1.length ca) (.slice Ab L5.length cb) (.slice Ac L11.length cc) (.slice Ad L12.length cd) wr) (fun i _ => L11.length - (intOf i).toNat)
            case atStart => exact ⟨0,_,[],none,0,rfl,rfl,by omega,rfl,rfl,HQ.out⟩
            case round =>
              clear HQ
              obtain ⟨k,K,acc,A,c,rfl,rfl,hk,rfl,hat,hgq⟩ := hrel
              have HQ := Lib.hid hgq
              have hlb := q11
              by_cases hlt : acc.length < L11.length
              · obtain ⟨bb,ob,hAx,-,hx⟩ := n_txt_at (SR.of_own hgq.x.c) hlt
                subst hAx
                have hsk := HM11.out _ (List.getElem_mem hlt)
                have HE1 := Lib.hid (eachM_err (f := infoI) hlt hat)
                have HE2 := Lib.hid (eachM_step (f := infoI) hlt hat)
                clear hat hgq
                generalize L11[acc.length] = X at *
                have HR : Hid (∀ W,Below w.heap.size w W→Calls Tryz.prog 29 #[.string X] W (ReadRes OInf (infoI X) W)) := Lib.hid (fun W _ => rinfo11_any X W (by unfold maxLen; omega))
                generalize infoI X = FX at HE1 HE2 HR
                obtain ⟨a,C⟩ := FX
                dsimp only at HE1 HE2 HR
                go_wp2_with fail
                refine (HR.out _ HQ.out.all).mono ?_
                rintro e w7 ⟨cs,rfl,hq1,hb7⟩
                dsimp only at hq1
                obtain ⟨Y1,y1,rfl⟩ := OInf.shape hq1
                have hb2 := (Below.refl w7.heap.size w7).alloc (Nat.le_refl _) (.cells #[.string a.name,.int .i64 a.kind,.slice Y1 a.dims.length y1] 89)
                have HQ7 := Lib.hid (HQ.out.below (step_below hb7 hb2))
                have HX7 := Lib.hid (Bx.start w7 #[.string a.name,.int .i64 a.kind,.slice Y1 a.dims.length y1] 89)
                obtain ⟨css,ho,hpush⟩ := HQ7.out.push1 (ef_inf.base (ef_inf.keep hq1 hb2) HQ.out.all.size)
                have HOW := Lib.hid ho
                have HPU := Lib.hid hpush
                clear hq1 hb2 HR ho hpush hb7
                by_cases hC : C≠0
                · have hcb : (C != 0) = true := by simpa using hC
                  have HE := Lib.hid (NI.out (by rw [HQN.out]) (by rw [HQT.out]) C (by rw [HE1.out hC]) hC)
                  clear hC HE1 HE2 NN NT NI NO NK HPU HOW
                  obtain ⟨wE,hE,hxE⟩ := n_name (P := fun W => Bx w w.heap.size #[.int .i64 0,.slice none 0 0,.slice none 0 0,.slice none 0 0,.slice none 0 0] 42 W) (HQ7.out.g.z.five_put (Nat.le_refl _) (.int .i64 0) (.slice none 0 0) (.slice none 0 0) (.slice none 0 0) (.slice none 0 0))
                  have HXE := Lib.hid hxE
                  obtain ⟨z0,z1,z2,z3,z4⟩ := HQ7.out.g.z.five
                  have zf := fun i => HQ7.out.g.z.free i
                  clear hxE
                  go_wp2_with fail
                  obtain ⟨e0,e1,e2,e3,e4⟩ := HXE.out.five
                  exact bodyPost_ret (v := .tuple #[.agg #[.int .i64 0,.slice none 0 0,.slice none 0 0,.slice none 0 0,.slice none 0 0],.int .i64 C]) (by simp [results,Tryz.results8,go_sem,e0,e1,e2,e3,e4]) rfl (modResD_no HE.out HXE.out.all)
                obtain rfl : C = 0 := by omega
                have HS := Lib.hid (HE2.out rfl)
                clear hC HE1 HE2
                obtain ⟨x0,x1,x2⟩ := HX7.out.three
                obtain ⟨m0,m1,m2,m3,m4⟩ := HQ7.out.g.m.five
                go_wp2_with (at_builtin; refine wpList_append_own _ rfl _ _ 38 rfl w.heap.size 89 i1 _ 3 48 Tryz.underlying38 hi1 hz1 hz11 hz12 rfl (by decide) _ _ _ rfl (HOW.out.alloc _) ⟨w7.heap.size + 1,0,none⟩ 1 1 [.string a.name,.int .i64 a.kind,.slice Y1 a.dims.length y1] rfl rfl (cells_new2 _ _ _ _) ?c2 ?c3 ?c4 ?c5 ?_)
                case c2 => intro u hu; simp at hu; rcases hu with rfl | rfl | rfl <;> rfl
                case c3 => unfold maxLen; omega
                case c4 => omega
                case c5 => have := HQ7.out.all.size; simp at this ⊢; omega
                intro v' w9 hown' hgrow _
                obtain ⟨vp,vq,rfl,-,-⟩ := own_form hown'
                obtain ⟨hm9,hq9⟩ := HPU.out _ _ _ hown' hgrow
                obtain ⟨w10,hw10,hx10⟩ := n_name (P := fun W => GQ w gm (ver : Int) (acc ++ [a]) ts ns (.slice vp (acc.length + 1) vq) (.slice none 0 0) (.slice A3 ts.length c3) (.slice A4 ns.length c4) L1 L5 L11 L12 (.slice Aa L1.length ca) (.slice Ab L5.length cb) (.slice (some ⟨bb,ob,none⟩) L11.length cc) (.slice Ad L12.length cd) W) hq9
                obtain ⟨y0,y1,y2,y3,y4⟩ := hm9.five
                have yf := fun i => hm9.free i
                have H10 := Lib.hid hx10
                clear hx10 hown' hgrow hm9 m0 m1 m2 m3 m4 x0 x1 x2 HPU HOW HX7
                go_wp2_with fail
                go_roundw
                case rel => exact ⟨acc.length + 1,_,acc ++ [a],vp,vq,rfl,by omega,by omega,by simp,HS.out,H10.out⟩
                case measure => simp [intOf]; omega
              obtain ⟨is,hacc⟩ : ∃ x,x = acc := ⟨_,rfl⟩
              subst hacc
              have hle : is.length = L11.length := by omega
              have HQI := Lib.hid (eachM_end (f := infoI) (l := L11) (acc := is) (by rw [← hle]; exact hat))
              obtain ⟨A1,hA⟩ : ∃ x,x = A := ⟨_,rfl⟩
              obtain ⟨c1,hc⟩ : ∃ x,x = c := ⟨_,rfl⟩
              subst hA
              subst hc
              clear hat hgq hk hlt
              have HLEI := Lib.hid hle
              go_wp2_with fail
              clear hle
              obtain ⟨G,hGe⟩ : ∃ G,G = wr.heap.size := ⟨_,rfl⟩
              have HGW := Lib.hid (show w.heap.size≤G by rw [hGe]; exact HQ.out.all.size)
              have HNE := Lib.hid (show ∀ g,(Value.slice A1 is.length c1).ownBlock = some g→g < G from fun g hg => by rw [hGe]; exact (HQ.out.r1.blk hg).2)
              have HGZ0 := Lib.hid (show G≤wr.heap.size by rw [hGe]; exact Nat.le_refl _)
              clear hGe
              go_loopw [43] (fun i wr => ∃ (k : Nat) (K : Int) (acc : List Inf) (A : Option Addr) (c : Nat),i = .int .i64 K∧K = (k : Nat)∧k≤L12.length∧acc.length = k∧eachM infoI L12 [] = eachM infoI (L12.drop k) acc∧GQ w gm (ver : Int) is ts ns (.slice A1 is.length c1) (.slice A k c) (.slice A3 ts.length c3) (.slice A4 ns.length c4) L1 L5 L11 L12 (.slice Aa L1.length ca) (.slice Ab L5.length cb) (.slice Ac L11.length cc) (.slice Ad L12.length cd) wr∧DW OInf wr G 89 3 (.slice A k c) acc∧G≤wr.heap.size) (fun i _ => L12.length - (intOf i).toNat)
              case atStart => exact ⟨0,_,[],none,0,rfl,rfl,by omega,rfl,rfl,HQ.out,dwn _ _ _ _ _,HGZ0.out⟩
              case round =>
                clear HQ HGZ0
                obtain ⟨k,K,acc,A,c,rfl,rfl,hk,rfl,hat,hgq,hd2,hgz⟩ := hrel
                have HQ := Lib.hid hgq
                have HD2 := Lib.hid hd2
                have HGZ := Lib.hid hgz
                clear hd2 hgz
                have hlb := q12
                by_cases hlt : acc.length < L12.length
                · obtain ⟨bb,ob,hAx,-,hx⟩ := n_txt_at (SR.of_own hgq.x.d) hlt
                  subst hAx
                  have hsk := HM12.out _ (List.getElem_mem hlt)
                  have HE1 := Lib.hid (eachM_err (f := infoI) hlt hat)
                  have HE2 := Lib.hid (eachM_step (f := infoI) hlt hat)
                  clear hat hgq
                  generalize L12[acc.length] = X at *
                  have HR : Hid (∀ W,Below w.heap.size w W→Calls Tryz.prog 29 #[.string X] W (ReadRes OInf (infoI X) W)) := Lib.hid (fun W _ => rinfo11_any X W (by unfold maxLen; omega))
                  generalize infoI X = FX at HE1 HE2 HR
                  obtain ⟨a,C⟩ := FX
                  dsimp only at HE1 HE2 HR
                  go_wp2_with fail
                  refine (HR.out _ HQ.out.all).mono ?_
                  rintro e w7 ⟨cs,rfl,hq1,hb7⟩
                  dsimp only at hq1
                  obtain ⟨Y1,y1,rfl⟩ := OInf.shape hq1
                  have hb2 := (Below.refl w7.heap.size w7).alloc (Nat.le_refl _) (.cells #[.string a.name,.int .i64 a.kind,.slice Y1 a.dims.length y1] 89)
                  have HQ7 := Lib.hid (HQ.out.below (step_below hb7 hb2))
                  have HX7 := Lib.hid (Bx.start w7 #[.string a.name,.int .i64 a.kind,.slice Y1 a.dims.length y1] 89)
                  have HGZ7 := Lib.hid (Nat.le_trans HGZ.out (Nat.le_trans hb7.size hb2.size))
                  obtain ⟨css,ho,hpush⟩ := HQ7.out.push2 (HD2.out.keepF ef_inf (step_below hb7 hb2)) HGW.out HNE.out (ef_inf.base (ef_inf.keep hq1 hb2) HGZ.out)
                  have HOW := Lib.hid ho
                  have HPU := Lib.hid hpush
                  clear hq1 hb2 HR ho hpush HD2 HGZ hb7
                  by_cases hC : C≠0
                  · have hcb : (C != 0) = true := by simpa using hC
                    have HE := Lib.hid (NO.out (by rw [HQN.out]) (by rw [HQT.out]) (by rw [HQI.out]) C (by rw [HE1.out hC]) hC)
                    clear hC HE1 HE2 NN NT NI NO NK HPU HOW
                    obtain ⟨wE,hE,hxE⟩ := n_name (P := fun W => Bx w w.heap.size #[.int .i64 0,.slice none 0 0,.slice none 0 0,.slice none 0 0,.slice none 0 0] 42 W) (HQ7.out.g.z.five_put (Nat.le_refl _) (.int .i64 0) (.slice none 0 0) (.slice none 0 0) (.slice none 0 0) (.slice none 0 0))
                    have HXE := Lib.hid hxE
                    obtain ⟨z0,z1,z2,z3,z4⟩ := HQ7.out.g.z.five
                    have zf := fun i => HQ7.out.g.z.free i
                    clear hxE
                    go_wp2_with fail
                    obtain ⟨e0,e1,e2,e3,e4⟩ := HXE.out.five
                    exact bodyPost_ret (v := .tuple #[.agg #[.int .i64 0,.slice none 0 0,.slice none 0 0,.slice none 0 0,.slice none 0 0],.int .i64 C]) (by simp [results,Tryz.results8,go_sem,e0,e1,e2,e3,e4]) rfl (modResD_no HE.out HXE.out.all)
                  obtain rfl : C = 0 := by omega
                  have HS := Lib.hid (HE2.out rfl)
                  clear hC HE1 HE2
                  obtain ⟨x0,x1,x2⟩ := HX7.out.three
                  obtain ⟨m0,m1,m2,m3,m4⟩ := HQ7.out.g.m.five
                  go_wp2_with (at_builtin; refine wpList_append_own _ rfl _ _ 38 rfl G 89 i1 _ 3 48 Tryz.underlying38 hi1 hz1 hz11 hz12 rfl (by decide) _ _ _ rfl (HOW.out.alloc _) ⟨w7.heap.size + 1,0,none⟩ 1 1 [.string a.name,.int .i64 a.kind,.slice Y1 a.dims.length y1] rfl rfl (cells_new2 _ _ _ _) ?c2 ?c3 ?c4 ?c5 ?_)
                  case c2 => intro u hu; simp at hu; rcases hu with rfl | rfl | rfl <;> rfl
                  case c3 => unfold maxLen; omega
                  case c4 => omega
                  case c5 => have := HGZ7.out; simp at this ⊢; omega
                  intro v' w9 hown' hgrow _
                  obtain ⟨vp,vq,rfl,-,-⟩ := own_form hown'
                  have hg9 := hgrow.size
                  obtain ⟨hm9,hq9,hd9⟩ := HPU.out _ _ _ hown' hgrow
                  obtain ⟨w10,hw10,hx10⟩ := n_name (P := fun W => GQ w gm (ver : Int) is ts ns (.slice A1 is.length c1) (.slice vp (acc.length + 1) vq) (.slice A3 ts.length c3) (.slice A4 ns.length c4) L1 L5 L11 L12 (.slice Aa L1.length ca) (.slice Ab L5.length cb) (.slice Ac L11.length cc) (.slice (some ⟨bb,ob,none⟩) L12.length cd) W∧DW OInf W G 89 3 (.slice vp (acc.length + 1) vq) (acc ++ [a])∧G≤W.heap.size) ⟨hq9,hd9,by have := HGZ7.out; simp [World.setCell] at this hg9 ⊢; omega⟩
                  obtain ⟨y0,y1,y2,y3,y4⟩ := hm9.five
                  have yf := fun i => hm9.free i
                  have H10 := Lib.hid hx10
                  clear hx10 hown' hgrow hm9 m0 m1 m2 m3 m4 x0 x1 x2 HPU HOW HX7
                  go_wp2_with fail
                  go_roundw
                  case rel => exact ⟨acc.length + 1,_,acc ++ [a],vp,vq,rfl,by omega,by omega,by simp,HS.out,H10.out.1,H10.out.2.1,H10.out.2.2⟩
                  case measure => simp [intOf]; omega
                obtain ⟨os,hacc⟩ : ∃ x,x = acc := ⟨_,rfl⟩
                subst hacc
                have hle : os.length = L12.length := by omega
                have HQO := Lib.hid (eachM_end (f := infoI) (l := L12) (acc := os) (by rw [← hle]; exact hat))
                obtain ⟨A2,hA⟩ : ∃ x,x = A := ⟨_,rfl⟩
                obtain ⟨c2,hc⟩ : ∃ x,x = c := ⟨_,rfl⟩
                subst hA
                subst hc
                clear hat hgq hk hlt
                have HE := Lib.hid (NK.out ns ts is os HQN.out HQT.out HQI.out HQO.out)
                have hnl : ¬ os.length < L12.length := by omega
                clear hle
                obtain ⟨wE,hE,hxE⟩ := n_name (P := fun W => Bx w w.heap.size #[.int .i64 (ver : Int),.slice A1 is.length c1,.slice A2 os.length c2,.slice A3 ts.length c3,.slice A4 ns.length c4] 42 W∧(DW OInf W w.heap.size 89 3 (.slice A1 is.length c1) is∧DW OInf W w.heap.size 89 3 (.slice A2 os.length c2) os∧DW OTen W w.heap.size 85 4 (.slice A3 ts.length c3) ts∧DW RONod W w.heap.size 80 4 (.slice A4 ns.length c4) ns))
                  ⟨HQ.out.set5z (.int .i64 (ver : Int)) (.slice A1 is.length c1) (.slice A2 os.length c2) (.slice A3 ts.length c3) (.slice A4 ns.length c4),dw_set5 HQ.out.r1 ef_inf HQ.out.g.z.1 (by decide) (by decide) _ _ _ _ _,dw_set5 (HD2.out.baseF ef_inf HGW.out) ef_inf HQ.out.g.z.1 (by decide) (by decide) _ _ _ _ _,dw_set5 HQ.out.r3 ef_ten HQ.out.g.z.1 (by decide) (by decide) _ _ _ _ _,dw_set5 HQ.out.r4 ef_nod HQ.out.g.z.1 (by decide) (by decide) _ _ _ _ _⟩
                have HXE := Lib.hid hxE
                obtain ⟨z0,z1,z2,z3,z4⟩ := HQ.out.g.z.five
                have zf := fun i => HQ.out.g.z.free i
                obtain ⟨y0,y1,y2,y3,y4⟩ := HQ.out.g.m.five
                clear hxE NN NT NI NO NK
                go_wp2_with fail
                obtain ⟨e0,e1,e2,e3,e4⟩ := HXE.out.1.five
                rw [HE.out]
                exact bodyPost_ret (v := .tuple #[.agg #[.int .i64 (ver : Int),.slice A1 is.length c1,.slice A2 os.length c2,.slice A3 ts.length c3,.slice A4 ns.length c4],.int .i64 0]) (by simp [results,Tryz.results8,go_sem,e0,e1,e2,e3,e4]) rfl ⟨A1,A2,A3,A4,c1,c2,c3,c4,rfl,HXE.out.2,HXE.out.1.all⟩
end Go.Proofs.YtjjfdlgoacockaaGreat
namespace Go.Proofs.YtjjfdlgoacockaaGreat
open Go.RowKit M1 M2 M3 M8 M9 M10 M11 M12 Go.Sort
open M7 (nm Ten ck)

structure R2m (w : World) (ga gb : Nat) (ca cb : Array Value) (W : World) : Prop where
  a : Bx w ga ca 34 W
  b : Bx w gb cb 42 W
section
variable {w W W' : World} {ga gb : Nat} {ca cb : Array Value}
theorem R2m.below (h : R2m w ga gb ca cb W) (hb : Below W.heap.size W W') : R2m w ga gb ca cb W' := ⟨h.a.below hb,h.b.below hb⟩
theorem R2m.drew (h : R2m w ga gb ca cb W) : R2m w ga gb ca cb W.drew := ⟨h.a.drew10,h.b.drew10⟩
end

set_option maxRecDepth 100000 in
set_option maxHeartbeats 8000000 in
theorem reads12_walk (b : ByteArray) (l : List Fl) (A : Option Addr) (c : Nat) (w : World) (hb : b.size≤140737488351232) (hl : l.length≤4398046510976) (hs : ∀ f ∈ l,FlOk f) (hA : SR w w.heap.size 2 A l.length (fcl l)) :
    Calls Tryz.prog 3 #[.string b,.slice A l.length c] w fun e w' => e = .returned (.bool true)∧Below w.heap.size w w' := by
  have HAW := Lib.hid (fun W => hawake_any W)
  have HLD := Lib.hid (laid9_any l A c w hl hs hA)
  clear hA hs
  go_enter Tryz.func3,Tryz.ntmps3
  go_wp2_with fail
  refine HLD.out.mono ?_
  rintro e w1 ⟨mb,V,n,vc,ok,rfl,hok,hb1⟩
  have HB1 := Lib.hid hb1
  have hst1 := Bx.start w1 #[.map mb] 25
  have HX1 := Lib.hid hst1
  have HOK := Lib.hid hok
  clear hb1 hok HLD hst1
  cases ok
  · go_wp2_with fail
    refine (HAW.out _).mono ?_
    rintro e w2 ⟨rfl,hb2⟩
    have HB := Lib.hid (HB1.out.trans ((HX1.out.below hb2).all.mono HB1.out.size))
    clear hb2
    go_wp2_with fail
    go_ret
    exact ⟨rfl,HB.out⟩
  by_cases h3 : 6000 < b.size
  · have h3' : (6000 : Int) < (b.size : Int) := by omega
    go_wp2_with fail
    refine (HAW.out _).mono ?_
    rintro e w2 ⟨rfl,hb2⟩
    have HB := Lib.hid (HB1.out.trans ((HX1.out.below hb2).all.mono HB1.out.size))
    clear hb2
    go_wp2_with fail
    go_ret
    exact ⟨rfl,HB.out⟩
  have h3' : ¬ (6000 : Int) < (b.size : Int) := by omega
  obtain ⟨hc,ht,rfl,⟨B,hst⟩,hsr⟩ := HOK.out rfl
  have HLL := Lib.hid (show l.length≤100 from by
    by_cases h : 64 < l.length
    · rw [newC_size h] at hc; cases hc
    · omega)
  have HFS := Lib.hid (fun f (hf : f ∈ l) => show f.data.size≤10000 by have := totL_mem hf; omega)
  have HR1 := Lib.hid (read12_any b B l mb (w1.alloc (.cells #[.map mb] 25)) (by unfold maxLen; omega) (fun f hf => by have := HFS.out f hf; unfold maxLen; omega) (hst.below HX1.out.all))
  have HR2 := Lib.hid (fun W (h : Below w1.heap.size w1 W) => rread12_any b V vc l W (by unfold maxLen; omega) HLL.out HFS.out ((hsr.below h).more h.size))
  have HIN := Lib.hid (modelM_in b l)
  clear hc ht hst hsr HOK
  generalize modelM b l = R at *
  obtain ⟨m,K⟩ := R
  dsimp only at HIN
  go_wp2_with fail
  refine HR1.out.mono ?_
  rintro e w2 ⟨v1,v2,v3,v4,rfl,hmr,hb2⟩
  dsimp only at hmr
  obtain ⟨A1,c1,rfl⟩ := hmr.r1.form
  obtain ⟨A2,c2,rfl⟩ := hmr.r2.form
  obtain ⟨A3,c3,rfl⟩ := hmr.r3.form
  obtain ⟨A4,c4,rfl⟩ := hmr.r4.form
  have hal := (Below.refl w2.heap.size w2).alloc (Nat.le_refl _) (.cells #[.int .i64 m.opset,.slice A1 m.inputs.length c1,.slice A2 m.outputs.length c2,.slice A3 m.inits.length c3,.slice A4 m.nodes.length c4] 34)
  have HX2 := Lib.hid (HX1.out.below (step_below hb2 hal))
  have HY2 := Lib.hid ((HX1.out.below hb2).next #[.int .i64 m.opset,.slice A1 m.inputs.length c1,.slice A2 m.outputs.length c2,.slice A3 m.inits.length c3,.slice A4 m.nodes.length c4] 34)
  have HM2 := Lib.hid (hmr.keep hal)
  clear hb2 hal hmr HR1
  go_wp2_with fail
  refine (HR2.out _ HX2.out.all).mono ?_
  rintro e w3 ⟨D1,D2,D3,D4,d1,d2,d3,d4,rfl,hdr,hb3⟩
  dsimp only at hdr
  have hal := (Below.refl w3.heap.size w3).alloc (Nat.le_refl _) (.cells #[.int .i64 m.opset,.slice D1 m.inputs.length d1,.slice D2 m.outputs.length d2,.slice D3 m.inits.length d3,.slice D4 m.nodes.length d4] 42)
  have HD3 := Lib.hid (DRows.keep hdr hal)
  have HM3 := Lib.hid (HM2.out.keep (step_below hb3 hal))
  have HX : Hid (R2m w1 w2.heap.size w3.heap.size #[.int .i64 m.opset,.slice A1 m.inputs.length c1,.slice A2 m.outputs.length c2,.slice A3 m.inits.length c3,.slice A4 m.nodes.length c4] #[.int .i64 m.opset,.slice D1 m.inputs.length d1,.slice D2 m.outputs.length d2,.slice D3 m.inits.length d3,.slice D4 m.nodes.length d4] (w3.alloc (.cells #[.int .i64 m.opset,.slice D1 m.inputs.length d1,.slice D2 m.outputs.length d2,.slice D3 m.inits.length d3,.slice D4 m.nodes.length d4] 42))) :=
    Lib.hid ⟨HY2.out.below (step_below hb3 hal),(HY2.out.below hb3).next _ 42⟩
  clear hb3 hal hdr HR2 HX2 HY2 HM2 HX1
  simp only [mv]
  go_upto_region 6 with fail
  generalize w3.alloc (.cells #[.int .i64 m.opset,.slice D1 m.inputs.length d1,.slice D2 m.outputs.length d2,.slice D3 m.inits.length d3,.slice D4 m.nodes.length d4] 42) = W at *
  have HB := Lib.hid (HB1.out.trans (HX.out.a.all.mono HB1.out.size))
  have HL0 : Hid (Below W.heap.size W W.drew) := Lib.hid (Below.refl _ _).drew
  have HX0 := Lib.hid HX.out.drew
  have HOF := Lib.hid (fun W' (h : Below W.heap.size W W') => lof_any m A1 A2 A3 A4 c1 c2 c3 c4 W' ((HM3.out.keep h).at_ HIN.out))
  have HSM : Hid (∀ W' (h : Below W.heap.size W W') B1 B2 B3 B4 e1 e2 e3 e4 (hm : ModAt W'.heap.size W' m B1 B2 B3 B4),Calls Tryz.prog 9 #[.agg (mv m.opset B1 m.inputs.length e1 B2 m.outputs.length e2 B3 m.inits.length e3 B4 m.nodes.length e4),.agg (mv m.opset D1 m.inputs.length d1 D2 m.outputs.length d2 D3 m.inits.length d3 D4 m.nodes.length d4)] W' fun e w' => e = .returned (.bool true)∧Below W'.heap.size W' w') := Lib.hid (fun W' h B1 B2 B3 B4 e1 e2 e3 e4 hm => by
    have q := rmodel_any m m B1 B2 B3 B4 D1 D2 D3 D4 e1 e2 e3 e4 d1 d2 d3 d4 W' hm ((HD3.out.keep h).at_ HIN.out)
    rwa [sameM_refl] at q)
  simp only [mv] at HOF HSM
  clear HD3 HM3 HX HB1
  obtain ⟨p0,p1,p2,p3,p4⟩ := HX0.out.a.five
  obtain ⟨q0,q1,q2,q3,q4⟩ := HX0.out.b.five
  go_region_with (first
    | (go_at_call 6; (with_reducible refine (HAW.out _).mono ?_); rintro e w5 ⟨rfl,hb⟩; have HX1 := Lib.hid (HX0.out.below hb); have HL1 := Lib.hid (HL0.out.trans (hb.mono HL0.out.size)); clear hb; (obtain ⟨r0,r1,r2,r3,r4⟩ := HX1.out.a.five); (obtain ⟨s0,s1,s2,s3,s4⟩ := HX1.out.b.five))
    | (go_at_call 10; (with_reducible refine (HOF.out _ HL1.out).mono ?_); rintro e w6 ⟨B1,B2,B3,B4,e1,e2,e3,e4,rfl,hma,hb⟩; have HX2 := Lib.hid (HX1.out.below hb); have HL2 := Lib.hid (HL1.out.trans (hb.mono HL1.out.size)); have HMA := Lib.hid hma; clear hb hma; (obtain ⟨t0,t1,t2,t3,t4⟩ := HX2.out.a.five); (obtain ⟨u0,u1,u2,u3,u4⟩ := HX2.out.b.five))
    | (go_at_call 9; (with_reducible refine (HSM.out _ HL2.out _ _ _ _ _ _ _ _ HMA.out).mono ?_); rintro e w7 ⟨rfl,hb⟩; have HL3 := Lib.hid (HL2.out.trans (hb.mono HL2.out.size)); clear hb))
  all_goals
    have HZ := Lib.hid (HB.out.trans (HL3.out.mono HB.out.size))
    go_wp2_with fail
    go_ret
    exact ⟨rfl,HZ.out⟩
end Go.Proofs.YtjjfdlgoacockaaGreat
/- The law PbgraphReads (agatelaw12): for every input that can be read the call returns true, and its arguments read behind it as before. -/
namespace Go.Proofs.YtjjfdlgoacockaaGreat.pbgraphReads
open Go.ChangeShapes Go.WideShapes Go.ChangeAt Go.RowKit
open Go.ChangeMaps (open_string shut_string)
set_option linter.unusedVariables false
theorem own : ownKnob Tryz.prog.godebug = none := by kernel_rfl
theorem laidOut : laidOutB Tryz.prog = true := by kernel_rfl
theorem readable : ([9, 22].all fun t => Tryz.prog.readableRec t && decide (t < Tryz.prog.types.size)) = true := by kernel_rfl
set_option maxRecDepth 100000 in
theorem lifted (os : Os) (started : os.Started) (H : Type) (enc : TypeId × Value → H) :
    ReturnsInHanded {} Tryz.checked os 3 .any (Rows.pbgraphReadsSpec.pre6 enc Tryz.prog Tryz.f3 Rows.pbgraphReadsRow.domain false) (Rows.pbgraphReadsSpec.post enc Tryz.prog Tryz.f3 false true false false) := by
  refine returnsInHanded_of_change_sized (C := Tryz.checked) own started (by kernel_rfl) Tryz.func3
    (ChangeSpec.witness6 (enc := enc) (C := Tryz.checked) false ⟨#[], #[.string ByteArray.empty, .slice none 0 0], []⟩ 8 (by kernel_rfl) (by kernel_rfl) (by kernel_rfl) (by kernel_rfl)) ?_
  intro W base args ds gs before hval0 hW hcnd hsz _
  have hval : ∀ (j : Nat) t v, Tryz.f3.params[j]? = some t → args[j]? = some v → Value.okWide Tryz.prog W .any base t v := hval0
  have hW' := hW
  obtain ⟨p, q, hA0, hV, rfl, hfz, hnd⟩ := hW
  have hA : DataW.TrodAll enc Tryz.prog W 0 (fun _ => true) true Tryz.f3.params.toList args.toList ds p := hA0
  rw [Tryz.params3] at hA hval
  obtain ⟨rfl, rfl⟩ := trodVars_none hV
  have hkeep := hA
  have hcalls : Calls Tryz.prog 3 args W fun e W' => e = .returned (.bool true) ∧ Below W.heap.size W W' := by
    clear hW' hA0 hval0 hfz hnd hV hkeep
    obtain ⟨v0, vs0, d0, ds0, p0, q0, hargs, rfl, rfl, h0, r0⟩ := trodAll_cons hA
    obtain ⟨v1, vs1, d1, ds1, p1, q1, rfl, rfl, rfl, h1, r1⟩ := trodAll_cons r0
    obtain ⟨rfl, rfl, rfl⟩ := trodAll_nil r1
    obtain rfl : args = #[v0, v1] := by cases args; simp_all
    have hv1 := okWide_slice Tryz.underlying22 (hval 1 22 v1 rfl rfl)
    have hz0 : ∀ n ∈ d0.weights Tryz.prog 9, n ≤ reachBytes := fun n hn => by
      have := List.all_eq_true.1 hsz n (DataW.weights_mem_each (j := 0) (t := 9) (d := d0) rfl rfl n hn)
      simpa using this
    have hz1 : ∀ n ∈ d1.weights Tryz.prog 22, n ≤ reachBytes := fun n hn => by
      have := List.all_eq_true.1 hsz n (DataW.weights_mem_each (j := 1) (t := 22) (d := d1) rfl rfl n hn)
      simpa using this
    obtain ⟨s0, rfl, rfl, rfl, w0⟩ := open_string Tryz.underlying9 (hval 0 9 v0 rfl rfl) h0
    obtain ⟨A, c, l, rfl, hs1, hl1, hok⟩ := open_files Tryz.underlying22 h1 hv1 hz1
    have hk : s0.size ≤ 140737488351232 := by
      have e : reachBytes = 140737488351232 := by decide
      have := hz0 s0.data.toList.length (by simp [DataW.weights])
      rw [e] at this
      simpa using this
    exact reads12_walk s0 l A c W hk hl1 hok hs1
  refine hcalls.mono fun e W' ⟨he, bel⟩ => ?_
  subst he
  have hargs := below_trodAll laidOut bel readable hkeep
  have hlen := trodAll_length hkeep
  match ds, hlen, hargs, hW' with
  | [e0, e1], _, hargs, hW' => exact ⟨_, rfl, _, _, _, [], _, [], hW', trodAll_mk1 (shut_bool Tryz.underlying4 _), hargs, rfl, bel.frame _, fun h => by cases h⟩

theorem over : Rows.pbgraphReadsRow.holds Tryz.pinned (OpenSpec.ofChange Rows.pbgraphReadsSpec) :=
  OpenClaim.holds_of_wide 3 Tryz.f3 rfl rfl rfl rfl rfl rfl rfl ⟨rfl, rfl, rfl, rfl, rfl⟩ rfl rfl rfl rfl rfl (by kernel_rfl) Tryz.func3 (by kernel_rfl)
    (of_decide_eq_true (by kernel_rfl)) (by unfold Func.isWrapper; first | (rw [if_pos (by decide +kernel)]; kernel_rfl) | (rw [if_neg (by decide +kernel)]; exact ⟨rfl, rfl⟩))
    (fun os started H enc _ => lifted os started H enc)
theorem proved : Rows.PbgraphReadsSaid := over
#print axioms proved
end Go.Proofs.YtjjfdlgoacockaaGreat.pbgraphReads
