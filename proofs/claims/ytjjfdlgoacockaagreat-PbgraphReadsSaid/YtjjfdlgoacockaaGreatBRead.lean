import Derived.Test.YtjjfdlgoacockaaGreatBHere
import Derived.Test.YtjjfdlgoacockaaGreatBMsg
import Derived.Test.YtjjfdlgoacockaaGreatBFile
import Derived.Test.YtjjfdlgoacockaaGreatTCheck
import Derived.Test.YtjjfdlgoacockaaGreatBLast
import Derived.Test.YtjjfdlgoacockaaGreatBVals
import Derived.Test.YtjjfdlgoacockaaGreatWRAll
import Derived.Test.YtjjfdlgoacockaaGreatORRead
import Derived.Test.YtjjfdlgoacockaaGreatPWith
import Derived.Test.YtjjfdlgoacockaaGreatPAt
import Derived.Test.YtjjfdlgoacockaaGreatTPut
import Derived.Deep.RegionWith
import Derived.Deep.CutRange
import Derived.Test.YtjjfdlgoacockaaGreatBPut
import Derived.Test.YtjjfdlgoacockaaGreatMath
import Derived.Test.YtjjfdlgoacockaaGreatNMath
import Derived.Laws.CopyOwn
import Derived.OwnWalk
namespace Go.Proofs.YtjjfdlgoacockaaGreat
open Go.RowKit M1 M2 M3 M8 M9
open M7 (Ten ck)

def TenRes (r : Ten×Int) (w : World) (e : Ending) (w' : World) : Prop :=
  ∃ v,e = .returned (.tuple #[t_tv r.1.name r.1.kind v r.1.data,.int .i64 r.2])∧w'.ownsRow w.heap.size 2 1 v r.1.dims.length (iv r.1.dims)∧Below w.heap.size w w'
theorem tenRes_no {r : Ten×Int} {c : Int} {w W : World} (h : r = (z9,c)) (hb : Below w.heap.size w W) : TenRes r w (.returned (.tuple #[t_tv ⟨#[]⟩ 0 (.slice none 0 0) ⟨#[]⟩,.int .i64 c])) W := by
  subst h; exact ⟨.slice none 0 0,rfl,own_nothing _ _ _ _,hb⟩
theorem tenRes_yes {r : Ten×Int} {t : Ten} {v : Value} {w W : World} (h : r = (t,0)) (ho : W.ownsRow w.heap.size 2 1 v t.dims.length (iv t.dims)) (hb : Below w.heap.size w W) : TenRes r w (.returned (.tuple #[t_tv t.name t.kind v t.data,.int .i64 0])) W := by
  subst h; exact ⟨v,rfl,ho,hb⟩
theorem elems_file {m : Msg} {fs : List Fl} (h : m.wh = 1) : elems m fs = inFile m.size m.hs m.s m.i m.b fs := if_pos h
theorem elems_here {m : Msg} {fs : List Fl} (h : m.wh≠1) : elems m fs = here m.t.kind m.d m.hs m.s m.i := if_neg h
theorem Bx.zero4 {w W : World} {g : Nat} {a0 a1 a2 a3 : Value} {T : TypeId} (h : Bx w g #[a0,a1,a2,a3] T W) (hg : w.heap.size≤g) :
    Bx w g #[.string ⟨#[]⟩,.int .i64 0,.slice none 0 0,.string ⟨#[]⟩] T ((((W.setCell ⟨g,0,none⟩ (.string ⟨#[]⟩)).setCell ⟨g,1,none⟩ (.int .i64 0)).setCell ⟨g,2,none⟩ (.slice none 0 0)).setCell ⟨g,3,none⟩ (.string ⟨#[]⟩)) := h.four_put hg _ _ _ _
def RdA (w : World) (mb : Option Nat) (g6 : Nat) (nme d : ByteArray) (k sz wh : Int) (hs : Bool) (r : Rws9) (dv sv nv bv : Value) (W : World) : Prop :=
  Bx w w.heap.size #[.map mb] 25 W∧Bx w (w.heap.size + 1) #[.string ⟨#[]⟩,.int .i64 0,.slice none 0 0,.string ⟨#[]⟩] 98 W∧WX w g6 w.heap.size nme k ⟨#[]⟩ sz wh d hs r dv sv nv bv W∧w.heap.size + 1 < g6
theorem RdA.below {w W W' : World} {mb : Option Nat} {g6 : Nat} {nme d : ByteArray} {k sz wh : Int} {hs : Bool} {r : Rws9} {dv sv nv bv : Value} (h : RdA w mb g6 nme d k sz wh hs r dv sv nv bv W) (hb : Below W.heap.size W W') : RdA w mb g6 nme d k sz wh hs r dv sv nv bv W' :=
  ⟨h.1.below hb,h.2.1.below hb,h.2.2.1.below hb,h.2.2.2⟩

set_option maxRecDepth 100000 in
set_option maxHeartbeats 4000000 in
theorem b_read_any (b : ByteArray) (B0 : Nat) (fs : List Fl) (mb : Option Nat) (w : World) (hbs : b.size ≤ maxLen) (hfd : ∀ f ∈ fs, f.data.size ≤ maxLen) (hst : o_St B0 fs mb w) :
    Calls Tryz.prog 72 #[.string b,.agg #[.map mb]] w (TenRes (rd9 b fs) w) := by
  have HMO := Lib.hid (msg_ok b)
  have HE1 := Lib.hid (fun c (h : (msg b).2 = c) (hc : c≠0) => show rd9 b fs = (z9,c) by rw [rd9_err (by rw [h]; exact hc),h])
  have HE2 := Lib.hid (fun (h : (msg b).2 = 0) => rd9_ok (fs := fs) h)
  have HB3 := Lib.hid ((Bx.start w #[.map mb] 25).more (.cells #[.string ⟨#[]⟩,.int .i64 0,.slice none 0 0,.string ⟨#[]⟩] 98))
  have HB4 := Lib.hid (Bx.two w (.cells #[.map mb] 25) #[.string ⟨#[]⟩,.int .i64 0,.slice none 0 0,.string ⟨#[]⟩] 98)
  have HRD := Lib.hid (fun W => read_any9 b W hbs)
  have HST := Lib.hid (fun W (h : Below w.heap.size w W) => hst.below h)
  clear hst
  generalize rd9 b fs = RR at *
  generalize msg b = MM at *
  obtain ⟨⟨⟨nme,k,dims,d0⟩,sz,wh,d,hs,ss,ii,bs⟩,C⟩ := MM
  have hd0 := HMO.out.data0
  dsimp only at hd0
  subst hd0
  go_enter Tryz.func72,Tryz.ntmps72
  go_wp2_with fail
  refine (HRD.out _).mono ?_
  rintro e w1 ⟨dv,sv,nv,bv,rfl,⟨x1,x2,x3,x4⟩,hb1⟩
  dsimp only at x1 x2 x3 x4
  obtain ⟨da,dc,rfl,-,-⟩ := own_form x1
  obtain ⟨sa,sc,rfl,-,-⟩ := own_form x2
  obtain ⟨na,nc,rfl,-,-⟩ := own_form x3
  obtain ⟨ba,bc,rfl,-,-⟩ := own_form x4
  have hsz2 : w.heap.size≤((w.alloc (.cells #[.map mb] 25)).alloc (.cells #[.string ⟨#[]⟩,.int .i64 0,.slice none 0 0,.string ⟨#[]⟩] 98)).heap.size := HB4.out.all.size
  have hz : w.heap.size + 1 < w1.heap.size := Nat.lt_of_lt_of_le HB4.out.2.1 hb1.size
  have hown : Own4 w.heap.size ⟨dims,ss,ii,bs⟩ (.slice da dims.length dc) (.slice sa ss.length sc) (.slice na ii.length nc) (.slice ba bs.length bc) w1 := ⟨own_base x1 hsz2,own_base x2 hsz2,own_base x3 hsz2,own_base x4 hsz2⟩
  have hal := (Below.refl w1.heap.size w1).alloc (Nat.le_refl _) (.cells (wc nme k (.slice da dims.length dc) ⟨#[]⟩ sz (wh : Int) d hs (.slice sa ss.length sc) (.slice na ii.length nc) (.slice ba bs.length bc)) 217)
  obtain ⟨w2,hw2,hra⟩ := name_world (P := fun W => RdA w mb w1.heap.size nme d k sz wh hs ⟨dims,ss,ii,bs⟩ (.slice da dims.length dc) (.slice sa ss.length sc) (.slice na ii.length nc) (.slice ba bs.length bc) W)
    ⟨(HB3.out.below hb1).below hal,(HB4.out.below hb1).below hal,⟨(HB4.out.below hb1).next _ _,hown.below hal⟩,hz⟩
  have HA := Lib.hid hra
  clear x1 x2 x3 x4 hsz2 hz hown hal hra hb1 HB3 HB4 HRD
  have c0 := HA.out.2.1.cell 0
  have c1 := HA.out.2.1.cell 1
  have c2 := HA.out.2.1.cell 2
  have c3 := HA.out.2.1.cell 3
  change _ = some _ at c0 c1 c2 c3
  have f4 := fun i => HA.out.2.1.free i
  by_cases hC : C≠0
  · have hcb : (C != 0) = true := by simpa using hC
    have HE := Lib.hid (HE1.out C rfl hC)
    clear hC
    obtain ⟨wE,hE,hxE⟩ := name_world (P := fun W => Bx w (w.heap.size + 1) #[.string ⟨#[]⟩,.int .i64 0,.slice none 0 0,.string ⟨#[]⟩] 98 W) (HA.out.2.1.zero4 (by omega))
    have HXE := Lib.hid hxE
    clear hxE
    go_wp2_with fail
    obtain ⟨e0,e1,e2,e3⟩ := HXE.out.four
    exact bodyPost_ret (v := .tuple #[t_tv ⟨#[]⟩ 0 (.slice none 0 0) ⟨#[]⟩,.int .i64 C]) (by simp [results,Tryz.results72,go_sem,e0,e1,e2,e3]) rfl (tenRes_no HE.out HXE.out.all)
  · obtain rfl : C = 0 := by omega
    have HR := Lib.hid (HE2.out rfl)
    clear hC HE1 HE2
    clear c0 c1 c2 c3 f4
    obtain ⟨y0,y1,y2,y3,y4,y5,y6,y7,y8,y9,y10⟩ := HA.out.2.2.1.cells
    have hal := (Below.refl w2.heap.size w2).alloc (Nat.le_refl _) (.cells #[.string nme,.int .i64 k,.slice da dims.length dc,.string ⟨#[]⟩] 98)
    have hra3 := HA.out.below hal
    have hx8 := HA.out.1.next #[.string nme,.int .i64 k,.slice da dims.length dc,.string ⟨#[]⟩] 98
    have hp3 := And.intro hra3 hx8
    have H3 := Lib.hid hp3
    have HG := Lib.hid (show w1.heap.size < w2.heap.size from HA.out.2.2.1.1.2.1)
    have HM1 := HMO.out
    have HES := Lib.hid (elems_size HM1 fs)
    have HEF := Lib.hid (fun h => elems_file (m := ⟨⟨nme,k,dims,⟨#[]⟩⟩,sz,wh,d,hs,ss,ii,bs⟩) (fs := fs) h)
    have HEH := Lib.hid (fun h => elems_here (m := ⟨⟨nme,k,dims,⟨#[]⟩⟩,sz,wh,d,hs,ss,ii,bs⟩) (fs := fs) h)
    have HFi := Lib.hid (fun W (h : Below (w2.alloc (.cells #[.string nme,.int .i64 k,.slice da dims.length dc,.string ⟨#[]⟩] 98)).heap.size (w2.alloc (.cells #[.string nme,.int .i64 k,.slice da dims.length dc,.string ⟨#[]⟩] 98)) W) => dataInFile_any nme k (.slice da dims.length dc) ⟨#[]⟩ sz (wh : Int) d hs sa na ba sc nc bc ss ii bs B0 fs mb W HM1.tl HM1.tb (((SR.of_own H3.out.1.2.2.1.2.2.2.2).below h).more h.size) HM1.sz0 HM1.sz1 hfd (HST.out _ (step_below H3.out.2.all h)))
    have HHe := Lib.hid (fun W (h : Below (w2.alloc (.cells #[.string nme,.int .i64 k,.slice da dims.length dc,.string ⟨#[]⟩] 98)).heap.size (w2.alloc (.cells #[.string nme,.int .i64 k,.slice da dims.length dc,.string ⟨#[]⟩] 98)) W) => dataHere_any nme k (.slice da dims.length dc) ⟨#[]⟩ sz (wh : Int) d hs sa na sc nc ss ii (.slice ba bs.length bc) W HM1.sl HM1.il (((SR.of_own H3.out.1.2.2.1.2.2.1).below h).more h.size) (((SR.of_own H3.out.1.2.2.1.2.2.2.1).below h).more h.size))
    dsimp only at HEF HEH HES HR
    clear HA hal hra3 hx8 hp3 HM1 HST hfd
    generalize elems ⟨⟨nme,k,dims,⟨#[]⟩⟩,sz,wh,d,hs,ss,ii,bs⟩ fs = EL at *
    have hcase : (wh = 1∧((wh : Int) == 1) = true)∨(wh≠1∧((wh : Int) == 1) = false) := by
      by_cases h : wh = 1
      · exact .inl ⟨h,by simp [h]⟩
      · exact .inr ⟨h,by rw [beq_eq_false_iff_ne]; omega⟩
    rcases hcase with ⟨hw1,hwb⟩ | ⟨hw1,hwb⟩
    · have HEL := Lib.hid (HEF.out hw1)
      clear HEF HEH hw1
      obtain ⟨v0,v1,v2,v3,v4,v5,v6,v7,v8,v9,v10⟩ := H3.out.1.2.2.1.cells
      have s0 := H3.out.1.1.cell 0
      change _ = some _ at s0
      go_wp2_with fail
      refine (HFi.out _ (Below.refl _ _)).mono ?_
      rintro e w4 ⟨rfl,hb4⟩
      rw [← HEL.out]
      have hra4 := H3.out.1.below hb4
      have hx84 := H3.out.2.below hb4
      have hdr := (own_keep H3.out.1.2.2.1.2.1 hb4)
      obtain ⟨ED,EC⟩ := EL
      have z3 := hx84.cell 3
      change _ = some _ at z3
      have g8f := fun i => hx84.free i
      obtain ⟨w5,hw5,hp5⟩ := name_world (P := fun W => Bx w (w.heap.size + 1) #[.string ⟨#[]⟩,.int .i64 0,.slice none 0 0,.string ⟨#[]⟩] 98 W∧Bx w w2.heap.size #[.string nme,.int .i64 k,.slice da dims.length dc,.string ED] 98 W∧W.ownsRow w.heap.size 2 1 (.slice da dims.length dc) dims.length (iv dims))
        ⟨hra4.2.1.far_set (b := w2.heap.size) (i := 3) (.string ED) (by have := hra4.2.2.2; have := HG.out; omega) (by have := hra4.2.2.2; have := HG.out; omega),hx84.set (by have := hra4.2.2.2; have := HG.out; omega) 3 (.string ED),own_set hdr (own_far hdr hx84.1 (by decide)) 3 (.string ED)⟩
      have H5 := Lib.hid hp5
      clear hra4 hx84 hdr hp5 hb4 H3 HFi HHe y0 y1 y2 y3 y4 y5 y6 y7 y8 y9 y10 v0 v1 v2 v3 v4 v5 v6 v7 v8 v9 v10 s0 hw2
      try dsimp only at HES
      have c0 := H5.out.1.cell 0
      have c1 := H5.out.1.cell 1
      have c2 := H5.out.1.cell 2
      have c3 := H5.out.1.cell 3
      change _ = some _ at c0 c1 c2 c3
      have f4 := fun i => H5.out.1.free i
      obtain ⟨a0,a1,a2,a3⟩ := H5.out.2.1.four
      by_cases hEC : EC≠0
      · have hcb : (EC == 0) = false := by simpa using hEC
        have hcb2 : (EC != 0) = true := by simpa using hEC
        have HE := Lib.hid (HR.out.trans (fin_err (t := ⟨nme,k,dims,⟨#[]⟩⟩) (r := (ED,EC)) hEC))
        clear hEC
        obtain ⟨wE,hE,hxE⟩ := name_world (P := fun W => Bx w (w.heap.size + 1) #[.string ⟨#[]⟩,.int .i64 0,.slice none 0 0,.string ⟨#[]⟩] 98 W) (H5.out.1.zero4 (by omega))
        have HXE := Lib.hid hxE
        clear hxE
        go_wp2_with fail
        obtain ⟨e0,e1,e2,e3⟩ := HXE.out.four
        exact bodyPost_ret (v := .tuple #[t_tv ⟨#[]⟩ 0 (.slice none 0 0) ⟨#[]⟩,.int .i64 EC]) (by simp [results,Tryz.results72,go_sem,e0,e1,e2,e3]) rfl (tenRes_no HE.out HXE.out.all)
      · obtain rfl : EC = 0 := by omega
        have HTC := Lib.hid (tcheck_any ⟨nme,k,dims,ED⟩ da dc w5 ⟨by have := HMO.out.name; dsimp only at this ⊢; omega,by have := HES.out; dsimp only at this ⊢; omega,WalkArith.wf_i64 (by have h1 := HMO.out.kind0; have h2 := HMO.out.kind1; dsimp only at h1 h2 ⊢; omega),SR.of_own H5.out.2.2,by have := HMO.out.dl; unfold maxLen; dsimp only at this ⊢; omega,HMO.out.di⟩)
        try dsimp only at HTC
        have HFC := Lib.hid (fun h => HR.out.trans (fin_ck (t := ⟨nme,k,dims,⟨#[]⟩⟩) (r := (ED,0)) rfl h))
        have HFO := Lib.hid (fun h => HR.out.trans (fin_ok (t := ⟨nme,k,dims,⟨#[]⟩⟩) (r := (ED,0)) rfl h))
        try dsimp only at HFC HFO
        generalize ck ⟨nme,k,dims,ED⟩ = CK at *
        clear hEC
        go_wp2_with fail
        refine HTC.out.mono ?_
        rintro e w6 ⟨rfl,hb6⟩
        have hx46 := H5.out.1.below hb6
        have hx86 := H5.out.2.1.below hb6
        have ho6 := own_keep H5.out.2.2 hb6
        have H6 := Lib.hid (And.intro hx46 (And.intro hx86 ho6))
        clear hb6 HTC c0 c1 c2 c3 f4 a0 a1 a2 a3 hx46 hx86 ho6
        have c0 := H6.out.1.cell 0
        have c1 := H6.out.1.cell 1
        have c2 := H6.out.1.cell 2
        have c3 := H6.out.1.cell 3
        change _ = some _ at c0 c1 c2 c3
        have f4 := fun i => H6.out.1.free i
        by_cases hck : CK≠0
        · have hcb2 : (CK != 0) = true := by simpa using hck
          have HE := Lib.hid (HFC.out hck)
          clear hck
          obtain ⟨wE,hE,hxE⟩ := name_world (P := fun W => Bx w (w.heap.size + 1) #[.string ⟨#[]⟩,.int .i64 0,.slice none 0 0,.string ⟨#[]⟩] 98 W) (H6.out.1.zero4 (by omega))
          have HXE := Lib.hid hxE
          clear hxE
          go_wp2_with fail
          obtain ⟨e0,e1,e2,e3⟩ := HXE.out.four
          exact bodyPost_ret (v := .tuple #[t_tv ⟨#[]⟩ 0 (.slice none 0 0) ⟨#[]⟩,.int .i64 CK]) (by simp [results,Tryz.results72,go_sem,e0,e1,e2,e3]) rfl (tenRes_no HE.out HXE.out.all)
        · obtain rfl : CK = 0 := by omega
          have HE := Lib.hid (HFO.out rfl)
          obtain ⟨a0,a1,a2,a3⟩ := H6.out.2.1.four
          obtain ⟨wE,hE,hxE⟩ := name_world (P := fun W => Bx w (w.heap.size + 1) #[.string nme,.int .i64 k,.slice da dims.length dc,.string ED] 98 W∧W.ownsRow w.heap.size 2 1 (.slice da dims.length dc) dims.length (iv dims))
            ⟨H6.out.1.four_put (by omega) (.string nme) (.int .i64 k) (.slice da dims.length dc) (.string ED),own_set (own_set (own_set (own_set H6.out.2.2 (own_far H6.out.2.2 H6.out.1.1 (by decide)) 0 (.string nme)) (own_far H6.out.2.2 H6.out.1.1 (by decide)) 1 (.int .i64 k)) (own_far H6.out.2.2 H6.out.1.1 (by decide)) 2 (.slice da dims.length dc)) (own_far H6.out.2.2 H6.out.1.1 (by decide)) 3 (.string ED)⟩
          have HXE := Lib.hid hxE
          clear hck hxE
          go_wp2_with fail
          obtain ⟨e0,e1,e2,e3⟩ := HXE.out.1.four
          exact bodyPost_ret (v := .tuple #[t_tv nme k (.slice da dims.length dc) ED,.int .i64 0]) (by simp [results,Tryz.results72,go_sem,e0,e1,e2,e3]) rfl (tenRes_yes (t := ⟨nme,k,dims,ED⟩) HE.out HXE.out.2 HXE.out.1.all)
    · have HEL := Lib.hid (HEH.out hw1)
      clear HEF HEH hw1
      obtain ⟨v0,v1,v2,v3,v4,v5,v6,v7,v8,v9,v10⟩ := H3.out.1.2.2.1.cells
      have s0 := H3.out.1.1.cell 0
      change _ = some _ at s0
      go_wp2_with fail
      refine (HHe.out _ (Below.refl _ _)).mono ?_
      rintro e w4 ⟨rfl,hb4⟩
      rw [← HEL.out]
      have hra4 := H3.out.1.below hb4
      have hx84 := H3.out.2.below hb4
      have hdr := (own_keep H3.out.1.2.2.1.2.1 hb4)
      obtain ⟨ED,EC⟩ := EL
      have z3 := hx84.cell 3
      change _ = some _ at z3
      have g8f := fun i => hx84.free i
      obtain ⟨w5,hw5,hp5⟩ := name_world (P := fun W => Bx w (w.heap.size + 1) #[.string ⟨#[]⟩,.int .i64 0,.slice none 0 0,.string ⟨#[]⟩] 98 W∧Bx w w2.heap.size #[.string nme,.int .i64 k,.slice da dims.length dc,.string ED] 98 W∧W.ownsRow w.heap.size 2 1 (.slice da dims.length dc) dims.length (iv dims))
        ⟨hra4.2.1.far_set (b := w2.heap.size) (i := 3) (.string ED) (by have := hra4.2.2.2; have := HG.out; omega) (by have := hra4.2.2.2; have := HG.out; omega),hx84.set (by have := hra4.2.2.2; have := HG.out; omega) 3 (.string ED),own_set hdr (own_far hdr hx84.1 (by decide)) 3 (.string ED)⟩
      have H5 := Lib.hid hp5
      clear hra4 hx84 hdr hp5 hb4 H3 HFi HHe y0 y1 y2 y3 y4 y5 y6 y7 y8 y9 y10 v0 v1 v2 v3 v4 v5 v6 v7 v8 v9 v10 s0 hw2
      try dsimp only at HES
      have c0 := H5.out.1.cell 0
      have c1 := H5.out.1.cell 1
      have c2 := H5.out.1.cell 2
      have c3 := H5.out.1.cell 3
      change _ = some _ at c0 c1 c2 c3
      have f4 := fun i => H5.out.1.free i
      obtain ⟨a0,a1,a2,a3⟩ := H5.out.2.1.four
      by_cases hEC : EC≠0
      · have hcb : (EC == 0) = false := by simpa using hEC
        have hcb2 : (EC != 0) = true := by simpa using hEC
        have HE := Lib.hid (HR.out.trans (fin_err (t := ⟨nme,k,dims,⟨#[]⟩⟩) (r := (ED,EC)) hEC))
        clear hEC
        obtain ⟨wE,hE,hxE⟩ := name_world (P := fun W => Bx w (w.heap.size + 1) #[.string ⟨#[]⟩,.int .i64 0,.slice none 0 0,.string ⟨#[]⟩] 98 W) (H5.out.1.zero4 (by omega))
        have HXE := Lib.hid hxE
        clear hxE
        go_wp2_with fail
        obtain ⟨e0,e1,e2,e3⟩ := HXE.out.four
        exact bodyPost_ret (v := .tuple #[t_tv ⟨#[]⟩ 0 (.slice none 0 0) ⟨#[]⟩,.int .i64 EC]) (by simp [results,Tryz.results72,go_sem,e0,e1,e2,e3]) rfl (tenRes_no HE.out HXE.out.all)
      · obtain rfl : EC = 0 := by omega
        have HTC := Lib.hid (tcheck_any ⟨nme,k,dims,ED⟩ da dc w5 ⟨by have := HMO.out.name; dsimp only at this ⊢; omega,by have := HES.out; dsimp only at this ⊢; omega,WalkArith.wf_i64 (by have h1 := HMO.out.kind0; have h2 := HMO.out.kind1; dsimp only at h1 h2 ⊢; omega),SR.of_own H5.out.2.2,by have := HMO.out.dl; unfold maxLen; dsimp only at this ⊢; omega,HMO.out.di⟩)
        try dsimp only at HTC
        have HFC := Lib.hid (fun h => HR.out.trans (fin_ck (t := ⟨nme,k,dims,⟨#[]⟩⟩) (r := (ED,0)) rfl h))
        have HFO := Lib.hid (fun h => HR.out.trans (fin_ok (t := ⟨nme,k,dims,⟨#[]⟩⟩) (r := (ED,0)) rfl h))
        try dsimp only at HFC HFO
        generalize ck ⟨nme,k,dims,ED⟩ = CK at *
        clear hEC
        go_wp2_with fail
        refine HTC.out.mono ?_
        rintro e w6 ⟨rfl,hb6⟩
        have hx46 := H5.out.1.below hb6
        have hx86 := H5.out.2.1.below hb6
        have ho6 := own_keep H5.out.2.2 hb6
        have H6 := Lib.hid (And.intro hx46 (And.intro hx86 ho6))
        clear hb6 HTC c0 c1 c2 c3 f4 a0 a1 a2 a3 hx46 hx86 ho6
        have c0 := H6.out.1.cell 0
        have c1 := H6.out.1.cell 1
        have c2 := H6.out.1.cell 2
        have c3 := H6.out.1.cell 3
        change _ = some _ at c0 c1 c2 c3
        have f4 := fun i => H6.out.1.free i
        by_cases hck : CK≠0
        · have hcb2 : (CK != 0) = true := by simpa using hck
          have HE := Lib.hid (HFC.out hck)
          clear hck
          obtain ⟨wE,hE,hxE⟩ := name_world (P := fun W => Bx w (w.heap.size + 1) #[.string ⟨#[]⟩,.int .i64 0,.slice none 0 0,.string ⟨#[]⟩] 98 W) (H6.out.1.zero4 (by omega))
          have HXE := Lib.hid hxE
          clear hxE
          go_wp2_with fail
          obtain ⟨e0,e1,e2,e3⟩ := HXE.out.four
          exact bodyPost_ret (v := .tuple #[t_tv ⟨#[]⟩ 0 (.slice none 0 0) ⟨#[]⟩,.int .i64 CK]) (by simp [results,Tryz.results72,go_sem,e0,e1,e2,e3]) rfl (tenRes_no HE.out HXE.out.all)
        · obtain rfl : CK = 0 := by omega
          have HE := Lib.hid (HFO.out rfl)
          obtain ⟨a0,a1,a2,a3⟩ := H6.out.2.1.four
          obtain ⟨wE,hE,hxE⟩ := name_world (P := fun W => Bx w (w.heap.size + 1) #[.string nme,.int .i64 k,.slice da dims.length dc,.string ED] 98 W∧W.ownsRow w.heap.size 2 1 (.slice da dims.length dc) dims.length (iv dims))
            ⟨H6.out.1.four_put (by omega) (.string nme) (.int .i64 k) (.slice da dims.length dc) (.string ED),own_set (own_set (own_set (own_set H6.out.2.2 (own_far H6.out.2.2 H6.out.1.1 (by decide)) 0 (.string nme)) (own_far H6.out.2.2 H6.out.1.1 (by decide)) 1 (.int .i64 k)) (own_far H6.out.2.2 H6.out.1.1 (by decide)) 2 (.slice da dims.length dc)) (own_far H6.out.2.2 H6.out.1.1 (by decide)) 3 (.string ED)⟩
          have HXE := Lib.hid hxE
          clear hck hxE
          go_wp2_with fail
          obtain ⟨e0,e1,e2,e3⟩ := HXE.out.1.four
          exact bodyPost_ret (v := .tuple #[t_tv nme k (.slice da dims.length dc) ED,.int .i64 0]) (by simp [results,Tryz.results72,go_sem,e0,e1,e2,e3]) rfl (tenRes_yes (t := ⟨nme,k,dims,ED⟩) HE.out HXE.out.2 HXE.out.1.all)
end Go.Proofs.YtjjfdlgoacockaaGreat
namespace Go.Proofs.YtjjfdlgoacockaaGreat
open Go.RowKit M1 M2 M3 M8 M9
open M7 (Ten ck nm)

def b_rdL (L : List WFd) (fs : List Fl) : Ten×Int := if (msgL L).2≠0 then (z9,(msgL L).2) else fin (msgL L).1.t (elems (msgL L).1 fs)
theorem rd9_fields {b : ByteArray} {fs : List Fl} {L : List WFd} {C : Nat} (h : fields b = (L,C)) (hC : C≠0) : rd9 b fs = (z9,(C : Int)) := by
  rw [rd9_err (by rw [msg_err h hC]; simpa using hC),msg_err h hC]
theorem rd9_L {b : ByteArray} {fs : List Fl} {L : List WFd} (h : fields b = (L,0)) : rd9 b fs = b_rdL L fs := by unfold rd9 b_rdL; rw [msg_go h]
theorem okFs_sum (L : List WFd) : okFs L = decide (lstC L 2 0 + lstC L 8 2 + lstC L 9 2 + lstC L 14 0 = 0) := by
  unfold okFs lstC
  cases okF L 2 0 <;> cases okF L 8 2 <;> cases okF L 9 2 <;> cases okF L 14 0 <;> decide
theorem okFs_lst {L : List WFd} (h : okFs L = true) : lstF L 2 0 = lastF L 2∧lstF L 8 2 = lastF L 8∧lstF L 9 2 = lastF L 9∧lstF L 14 0 = lastF L 14 := by
  unfold okFs at h
  simp only [Bool.and_eq_true] at h
  exact ⟨if_pos h.1.1.1,if_pos h.1.1.2,if_pos h.1.2,if_pos h.2⟩
theorem rdL_wire {L : List WFd} {fs : List Fl} (h : okFs L = false) : b_rdL L fs = (z9,3) := by unfold b_rdL; rw [msgL_wire h]; rfl
theorem rdL_rows {L : List WFd} {fs : List Fl} {r : Rws9} {C : Nat} (h : okFs L = true) (hr : rows L = (r,C)) (hC : C≠0) : b_rdL L fs = (z9,(C : Int)) := by
  unfold b_rdL; rw [msgL_rows h hr hC]; exact if_pos (by simpa using hC)
theorem rdL_chk {L : List WFd} {fs : List Fl} {r : Rws9} {n c : Int} (h : okFs L = true) (hr : rows L = (r,0)) (hc : chkL L r = (n,c)) (h0 : c≠0) : b_rdL L fs = (z9,c) := by
  unfold b_rdL; rw [msgL_chk h hr hc h0]; exact if_pos h0
theorem rdL_ok {L : List WFd} {fs : List Fl} {r : Rws9} {n : Int} (h : okFs L = true) (hr : rows L = (r,0)) (hc : chkL L r = (n,0)) : b_rdL L fs = fin (mk L r n).t (elems (mk L r n) fs) := by
  unfold b_rdL; rw [msgL_ok h hr hc]; exact if_neg (by simp)
theorem rows_1 {L : List WFd} {d : List Int} {c : Nat} (h1 : ints (ofNum L 1) [] = (d,c)) (hc : c≠0) : rows L = (zr,c) := by unfold rows rowsOf; rw [h1]; exact if_pos hc
theorem rows_5 {L : List WFd} {d s : List Int} {c : Nat} (h1 : ints (ofNum L 1) [] = (d,0)) (h5 : ints (ofNum L 5) [] = (s,c)) (hc : c≠0) : rows L = (zr,c) := by
  unfold rows rowsOf; rw [h1,h5,if_neg (by simp)]; exact if_pos hc
theorem rows_7 {L : List WFd} {d s i : List Int} {c : Nat} (h1 : ints (ofNum L 1) [] = (d,0)) (h5 : ints (ofNum L 5) [] = (s,0)) (h7 : ints (ofNum L 7) [] = (i,c)) (hc : c≠0) : rows L = (zr,c) := by
  unfold rows rowsOf; rw [h1,h5,h7,if_neg (by simp),if_neg (by simp)]; exact if_pos hc
theorem rows_13 {L : List WFd} {d s i : List Int} {t : List ByteArray} {c : Nat} (h1 : ints (ofNum L 1) [] = (d,0)) (h5 : ints (ofNum L 5) [] = (s,0)) (h7 : ints (ofNum L 7) [] = (i,0)) (h13 : txts (ofNum L 13) [] = (t,c)) (hc : c≠0) : rows L = (zr,c) := by
  unfold rows rowsOf; rw [h1,h5,h7,h13,if_neg (by simp),if_neg (by simp),if_neg (by simp)]; exact if_pos hc
theorem rows_all {L : List WFd} {d s i : List Int} {t : List ByteArray} (h1 : ints (ofNum L 1) [] = (d,0)) (h5 : ints (ofNum L 5) [] = (s,0)) (h7 : ints (ofNum L 7) [] = (i,0)) (h13 : txts (ofNum L 13) [] = (t,0)) : rows L = (⟨d,s,i,t⟩,0) := by
  unfold rows rowsOf; rw [h1,h5,h7,h13]; simp
theorem kSize_big {n : Nat} (h : ¬ n < 100) : kSize (kindN n) = 0 := by
  unfold kindN
  split
  · rename_i hk; have := isKind_bd hk; omega
  · rfl
theorem kSize_low (n : Nat) : kSize (kindN n) = kSize (n : Int) := by
  unfold kindN
  split
  · rfl
  · rename_i h; rw [kSize_none (k := (n : Int)) (by simpa using h)]; rfl
theorem kindN_of {n : Nat} (h : kSize (n : Int)≠0) : kindN n = (n : Int) := by
  unfold kindN
  rw [if_pos]
  have := kSize_pos (k := (n : Int))
  obtain ⟨s,hs,-⟩ := size_nat (n : Int)
  exact this.1 (by omega)
theorem here_all {k : Int} {d : ByteArray} {s i : List Int} (h1 : ¬ (0 < s.length ∧ k ≠ 2 ∧ k ≠ 9)) (h2 : ¬ (0 < i.length ∧ k ≠ 7)) :
    here k d false s i = if s.all (okS (great k)) = true then (⟨(sb s ++ flat (fun n => l8 (M7.us n)) 8 i).toArray⟩,0) else (⟨#[]⟩,17) := by
  by_cases h7 : k = 7
  · have hs : ¬ 0 < s.length := fun h => h1 ⟨h,by omega,by omega⟩
    rw [here_int hs h7,len_nil hs]
    simp [sb]
  · have hi : ¬ 0 < i.length := fun h => h2 ⟨h,h7⟩
    rw [here_small (by
      by_cases h : 0 < s.length
      · right
        by_cases h2 : k = 2
        · exact .inl h2
        · exact .inr (Decidable.of_not_not fun h9 => h1 ⟨h,h2,h9⟩)
      · exact .inl h) hi h7,len_nil hi]
    unfold smallD
    show (if s.all (okS (great k)) = true then _ else _) = _
    split
    · simp [flat,sb]
    · rfl
theorem here_5 {k : Int} {d : ByteArray} {s i : List Int} (h : (0 < s.length∧k≠2∧k≠9)∨(0 < i.length∧k≠7)) : here k d false s i = (⟨#[]⟩,5) := by
  by_cases h1 : 0 < s.length∧k≠2∧k≠9
  · exact here_s5 h1.1 h1.2.1 h1.2.2
  · have h2 := h.resolve_left h1
    refine here_i5 ?_ h2.1 h2.2
    by_cases h3 : 0 < s.length
    · right
      by_cases h4 : k = 2
      · exact .inl h4
      · exact .inr (Decidable.of_not_not fun h9 => h1 ⟨h3,h4,h9⟩)
    · exact .inl h3
theorem fin_dims {t : Ten} {r : ByteArray×Int} {R : Ten×Int} (h : R = fin t r) (h0 : R.2 = 0) : R.1.dims = t.dims := by
  subst h
  unfold fin at h0 ⊢
  split at h0
  · rename_i h1; exact absurd h0 h1
  · split at h0
    · rename_i h2; exact absurd h0 h2
    · rename_i h1 h2; rw [if_neg h1,if_neg h2]
theorem okS_ref {k : Int} {n : Int} (hk : k = 2∨k = 9) : okS (great k) n = !(decide (n < 0) || decide (255 < n) || (decide (1 < n) && decide (k = 9))) := by
  unfold okS great
  rcases hk with rfl | rfl
  · simp; rw [Bool.eq_iff_iff]; simp; try omega
  · simp; rw [Bool.eq_iff_iff]; simp; try omega
end Go.Proofs.YtjjfdlgoacockaaGreat

namespace Go.Proofs.YtjjfdlgoacockaaGreat
open Go.RowKit M1 M2 M3 M8 M9
open M7 (Ten ck)

theorem lLoc : kLoc.toList = [108,111,99,97,116,105,111,110] := by decide +kernel
theorem lOff : kOff.toList = [111,102,102,115,101,116] := by decide +kernel
theorem lLen : kLen.toList = [108,101,110,103,116,104] := by decide +kernel
def zeroT : ByteArray := ⟨#[48]⟩
theorem dg_zeroT : dg zeroT = 0 := by decide +kernel
def eKey (l : List KV) : ByteArray := (val l kLoc).getD ⟨#[]⟩
def eHas (l : List KV) : Bool := (val l kLoc).isSome
def eFrom (l : List KV) : ByteArray := (val l kOff).getD zeroT
def eLen (l : List KV) : ByteArray := (val l kLen).getD ⟨#[]⟩
def eSized (l : List KV) : Bool := (val l kLen).isSome
theorem ne_lo : kLoc≠kOff := by decide
theorem ne_ll : kLoc≠kLen := by decide
theorem ne_ol : kOff≠kLen := by decide
theorem e_loc (l : List KV) (v : ByteArray) : eKey (l ++ [(kLoc,v)]) = v∧eHas (l ++ [(kLoc,v)]) = true∧eFrom (l ++ [(kLoc,v)]) = eFrom l∧eLen (l ++ [(kLoc,v)]) = eLen l∧eSized (l ++ [(kLoc,v)]) = eSized l := by
  simp [eKey,eHas,eFrom,eLen,eSized,val_snoc,ne_lo,ne_ll]
theorem e_off (l : List KV) (v : ByteArray) : eKey (l ++ [(kOff,v)]) = eKey l∧eHas (l ++ [(kOff,v)]) = eHas l∧eFrom (l ++ [(kOff,v)]) = v∧eLen (l ++ [(kOff,v)]) = eLen l∧eSized (l ++ [(kOff,v)]) = eSized l := by
  simp [eKey,eHas,eFrom,eLen,eSized,val_snoc,ne_lo.symm,ne_ol]
theorem e_len (l : List KV) (v : ByteArray) : eKey (l ++ [(kLen,v)]) = eKey l∧eHas (l ++ [(kLen,v)]) = eHas l∧eFrom (l ++ [(kLen,v)]) = eFrom l∧eLen (l ++ [(kLen,v)]) = v∧eSized (l ++ [(kLen,v)]) = true := by
  simp [eKey,eHas,eFrom,eLen,eSized,val_snoc,ne_ll.symm,ne_ol.symm]
theorem e_other (l : List KV) {k : ByteArray} (v : ByteArray) (h1 : k≠kLoc) (h2 : k≠kOff) (h3 : k≠kLen) : eKey (l ++ [(k,v)]) = eKey l∧eHas (l ++ [(k,v)]) = eHas l∧eFrom (l ++ [(k,v)]) = eFrom l∧eLen (l ++ [(k,v)]) = eLen l∧eSized (l ++ [(k,v)]) = eSized l := by
  simp [eKey,eHas,eFrom,eLen,eSized,val_snoc,h1,h2,h3]
theorem e_vals (l : List KV) (size : Int) (fs : List Fl) (h0 : 0 ≤ size) : inVals size l fs =
    if eHas l = false then (⟨#[]⟩,18) else if (decide (dg (eFrom l) < 0) || (eSized l && decide (dg (eLen l) < 0))) = true then (⟨#[]⟩,17)
    else if (eSized l && decide (dg (eLen l)≠size)) = true then (⟨#[]⟩,7) else rdC fs (eKey l) (dg (eFrom l)) size := by
  have hF : num l kOff 0 = dg (eFrom l) := by
    unfold num eFrom
    cases val l kOff with
    | none => exact dg_zeroT.symm
    | some s => rfl
  unfold inVals eHas eKey
  cases val l kLoc with
  | none => simp
  | some key =>
    simp only [Option.isSome_some,Option.getD_some,hF]
    unfold num eSized eLen
    cases val l kLen with
    | none =>
      simp only [Option.isSome_none,Bool.false_and,Bool.or_false,decide_eq_true_eq]
      by_cases h : dg (eFrom l) < 0
      · simp [h]
      · simp [h,Int.not_lt.2 h0]
    | some s =>
      simp only [Option.isSome_some,Bool.true_and,Option.getD_some]
      by_cases h : dg (eFrom l) < 0
      · simp [h]
      · by_cases h2 : dg s < 0
        · simp [h,h2]
        · by_cases h3 : dg s = size <;> simp [h,h2,h3]
theorem kvs_wire2 {bs : List ByteArray} {k : Nat} {acc : List KV} (hk : k < bs.length) (h : (fields bs[k]).2 = 0) (h2 : lstC (fields bs[k]).1 1 2 + lstC (fields bs[k]).1 2 2≠0) : kvs (bs.drop k) acc = ([],3) := by
  refine kvs_wire hk h ?_
  unfold lstC at h2
  cases h3 : okF (fields bs[k]).1 1 2
  · rfl
  · cases h4 : okF (fields bs[k]).1 2 2
    · rfl
    · rw [h3,h4] at h2; simp at h2
theorem kvs_next2 {bs : List ByteArray} {k : Nat} {acc : List KV} (hk : k < bs.length) (h : (fields bs[k]).2 = 0) (h2 : lstC (fields bs[k]).1 1 2 + lstC (fields bs[k]).1 2 2 = 0) :
    kvs (bs.drop k) acc = kvs (bs.drop (k + 1)) (acc ++ [((lstF (fields bs[k]).1 1 2).data,(lstF (fields bs[k]).1 2 2).data)]) := by
  unfold lstC at h2
  unfold lstF
  cases h3 : okF (fields bs[k]).1 1 2
  · rw [h3] at h2; simp only [Bool.false_eq_true,if_false] at h2; split at h2 <;> omega
  · cases h4 : okF (fields bs[k]).1 2 2
    · rw [h3,h4] at h2; simp at h2
    · rw [if_pos rfl,if_pos rfl]
      exact kvs_next hk h (by rw [h3,h4]; rfl)
theorem b_lstC_in (l : List WFd) (n t : Int) : 0≤lstC l n t∧lstC l n t≤3 := by unfold lstC; split <;> omega
def ExtRes (R : Ten×Int) (dv : Value) (w : World) (e : Ending) (w' : World) : Prop :=
  ∃ v,e = .returned (.tuple #[t_tv R.1.name R.1.kind v R.1.data,.int .i64 R.2])∧((R.2 = 0∧v = dv)∨(R.2≠0∧v = .slice none 0 0∧R.1 = z9))∧Below w.heap.size w w'
theorem extRes_no {R : Ten×Int} {dv : Value} {c : Int} {w W : World} (h : R = (z9,c)) (hc : c≠0) (hb : Below w.heap.size w W) : ExtRes R dv w (.returned (.tuple #[t_tv ⟨#[]⟩ 0 (.slice none 0 0) ⟨#[]⟩,.int .i64 c])) W := by
  subst h; exact ⟨_,rfl,.inr ⟨hc,rfl,rfl⟩,hb⟩
theorem extRes_yes {R : Ten×Int} {t : Ten} {dv : Value} {w W : World} (h : R = (t,0)) (hb : Below w.heap.size w W) : ExtRes R dv w (.returned (.tuple #[t_tv t.name t.kind dv t.data,.int .i64 0])) W := by
  subst h; exact ⟨_,rfl,.inl ⟨rfl,rfl⟩,hb⟩
abbrev zc7 : Array Value := #[.string ⟨#[]⟩,.int .i64 0,.slice none 0 0,.string ⟨#[]⟩]
def ExI (w : World) (nme d0 : ByteArray) (k : Int) (dv : Value) (W : World) : Prop :=
  Bx w w.heap.size #[.string nme,.int .i64 k,dv,.string d0] 85 W∧Bx w (w.heap.size + 1) zc7 85 W
theorem ExI.below {w W W' : World} {nme d0 : ByteArray} {k : Int} {dv : Value} (h : ExI w nme d0 k dv W) (hb : Below W.heap.size W W') : ExI w nme d0 k dv W' := ⟨h.1.below hb,h.2.below hb⟩

set_option maxRecDepth 100000 in
set_option maxHeartbeats 8000000 in
theorem extern_any (nme d0 : ByteArray) (k : Int) (A : Option Addr) (c : Nat) (dims : List Int) (hs : Bool) (s i : List Int) (C : Option Addr) (r : Nat) (bs : List ByteArray) (V : Option Addr) (vc : Nat) (fs : List Fl) (size : Int) (w : World)
    (hn : nme.size≤1048576) (hk : (Lit.int .i64 k).wf = true) (hd : SR w w.heap.size 1 A dims.length (iv dims)) (hdl : dims.length≤65536) (hdi : ∀ n ∈ dims,I64 n)
    (hl : bs.length≤1048576) (hsz : ∀ b ∈ bs,b.size≤1048576) (ha : SR w w.heap.size 1 C bs.length (p_tv bs)) (hz0 : 0≤size) (hz1 : size≤524288) (hfl : fs.length≤100) (hfd : ∀ f ∈ fs,f.data.size≤10000) (hf : SR w w.heap.size 2 V fs.length (fcl fs)) :
    Calls Tryz.prog 84 #[t_tv nme k (.slice A dims.length c) d0,.bool (hs || hasN s i),.slice C bs.length r,.slice V fs.length vc,.int .i64 size] w (ExtRes (fin ⟨nme,k,dims,⟨#[]⟩⟩ (inFile size hs s i bs fs)) (.slice A dims.length c) w) := by
  have hi0 : ExI w nme d0 k (.slice A dims.length c) ((w.alloc (.cells #[.string nme,.int .i64 k,.slice A dims.length c,.string d0] 85)).alloc (.cells zc7 85)) :=
    ⟨(Bx.start w _ _).more _,Bx.two w _ _ _⟩
  have HI0 := Lib.hid hi0
  have HD := Lib.hid (fun W (h : Below w.heap.size w W) => (hd.below h).more h.size)
  have HA := Lib.hid (fun W (h : Below w.heap.size w W) => (ha.below h).more h.size)
  have HF := Lib.hid (fun W (h : Below w.heap.size w W) => (hf.below h).more h.size)
  have HSZ := Lib.hid hsz
  clear hd ha hf hi0 hsz
  generalize hR : fin ⟨nme,k,dims,⟨#[]⟩⟩ (inFile size hs s i bs fs) = R
  cases hfull : (hs || hasN s i)
  · have HR0 := Lib.hid (show R = _ from by rw [← hR, inFile_kv hfull])
    clear hR hfull
    go_enter Tryz.func84,Tryz.ntmps84
    go_wp2_with fail
    go_loopw [12,13,14,15,16,17,18,19,20,21,22,23,24,25,68,72,76] (fun s12 s13 s14 s15 s16 i _ _ _ _ _ _ _ _ _ _ _ wr => ∃ (k0 : Nat) (K : Int) (acc : List KV),i = .int .i64 K∧K = (k0 : Nat)∧k0≤bs.length∧s12 = .string (eKey acc)∧s13 = .bool (eHas acc)∧s14 = .string (eFrom acc)∧s15 = .string (eLen acc)∧s16 = .bool (eSized acc)∧kvs bs [] = kvs (bs.drop k0) acc∧ExI w nme d0 k (.slice A dims.length c) wr) (fun _ _ _ _ _ i _ _ _ _ _ _ _ _ _ _ _ _ => bs.length - (intOf i).toNat)
    case atStart => exact ⟨0,_,[],rfl,rfl,by omega,rfl,rfl,rfl,rfl,rfl,rfl,HI0.out⟩
    case round =>
      obtain ⟨k0,K,acc,rfl,rfl,hk0,rfl,rfl,rfl,rfl,rfl,hkv,hinv⟩ := hrel
      have HV := Lib.hid hkv
      have HI := Lib.hid hinv
      clear hkv hinv
      by_cases hlt : k0 < bs.length
      · obtain ⟨bb, oo, rfl, -, hx⟩ := txt_at (HA.out _ HI.out.1.all) hlt
        have hsk := HSZ.out bs[k0] (List.getElem_mem hlt)
        have HE1 := Lib.hid (kvs_err (acc := acc) hlt)
        have HE2 := Lib.hid (kvs_wire2 (acc := acc) hlt)
        have HE3 := Lib.hid (kvs_next2 (acc := acc) hlt)
        have HFi := Lib.hid (fun W => rfields_any bs[k0] W (by unfold maxLen; omega))
        have HFL := Lib.hid (fields_len bs[k0])
        generalize bs[k0] = X at *
        generalize fields X = F at *
        obtain ⟨L,E⟩ := F
        try dsimp only at HE1 HE2 HE3 HFL
        go_wp2_with fail
        refine (HFi.out _).mono ?_
        rintro e w1 ⟨v1,rfl,hown,hb1⟩
        obtain ⟨a1,c1,rfl,-,-⟩ := own_form hown
        have HI1 := Lib.hid (HI.out.below hb1)
        have HS1 := Lib.hid (SR.of_own hown)
        clear hb1 hown HFi HI
        by_cases hE : E≠0
        · have hcb : ((E : Int) != 0) = true := by simpa using hE
          have HKE := Lib.hid (HV.out.trans (HE1.out hE))
          have HE := Lib.hid (show R = (z9,(E : Int)) from by rw [HR0.out,HKE.out,if_pos hE]; exact fin_err (by simpa using hE))
          have HEC := Lib.hid hE
          clear hE
          obtain ⟨wE,hE,hxE⟩ := name_world (P := fun W => Bx w (w.heap.size + 1) zc7 85 W) (HI1.out.2.zero4 (by omega))
          have HXE := Lib.hid hxE
          obtain ⟨q0,q1,q2,q3⟩ := HI1.out.2.four
          have f4 := fun i => HI1.out.2.free i
          clear hxE
          go_wp2_with fail
          obtain ⟨e0,e1,e2,e3⟩ := HXE.out.four
          exact bodyPost_ret (v := .tuple #[t_tv ⟨#[]⟩ 0 (.slice none 0 0) ⟨#[]⟩,.int .i64 (E : Int)]) (by simp [results,Tryz.results84,go_sem,e0,e1,e2,e3]) rfl (extRes_no HE.out (by simpa using HEC.out) HXE.out.all)
        · obtain rfl : E = 0 := by omega
          have HW2 := Lib.hid (HE2.out rfl)
          have HW3 := Lib.hid (HE3.out rfl)
          have HLA := Lib.hid (fun W (h : Below w1.heap.size w1 W) num => rlast_any a1 c1 L num 2 W (by have := HFL.out; omega) ((HS1.out.below h).more h.size))
          have HL1 := Lib.hid (fun W h => HLA.out W h 1)
          have HL2 := Lib.hid (fun W h => HLA.out W h 2)
          have hc1 := b_lstC_in L 1 2
          have hc2 := b_lstC_in L 2 2
          generalize lstF L 1 2 = f1 at *
          generalize lstF L 2 2 = f2 at *
          generalize lstC L 1 2 = C1 at *
          generalize lstC L 2 2 = C2 at *
          obtain ⟨num1,typ1,n1,D1⟩ := f1
          obtain ⟨num2,typ2,n2,D2⟩ := f2
          try dsimp only at HL1 HL2 HW3
          clear hE HE1 HE2 HE3 HLA
          go_wp2_with fail
          refine (HL1.out _ (Below.refl _ _)).mono ?_
          rintro e w2 ⟨rfl,hb2⟩
          have hal := hb2.alloc hb2.size (.cells #[.int .i64 num1,.int .i64 typ1,.int .u64 (n1 : Int),.string D1] 75)
          have HI2 := Lib.hid (HI1.out.below hal)
          have HX2 := Lib.hid ((HI1.out.1.below hb2).next #[.int .i64 num1,.int .i64 typ1,.int .u64 (n1 : Int),.string D1] 75)
          have HN2 := Lib.hid hal
          clear hb2 hal HI1
          go_wp2_with fail
          refine (HL2.out _ HN2.out).mono ?_
          rintro e w3 ⟨rfl,hb3⟩
          have hal := hb3.alloc hb3.size (.cells #[.int .i64 num2,.int .i64 typ2,.int .u64 (n2 : Int),.string D2] 75)
          have HI3 := Lib.hid (HI2.out.below hal)
          have HX3 := Lib.hid (HX2.out.below hal)
          have HY3 := Lib.hid ((HX2.out.below hb3).next #[.int .i64 num2,.int .i64 typ2,.int .u64 (n2 : Int),.string D2] 75)
          clear hb3 hal HI2 HX2 HN2 HL1 HL2
          by_cases hCC : C1 + C2≠0
          · have hcb : (C1 + C2 != 0) = true := by simpa using hCC
            have HKE := Lib.hid (HV.out.trans (HW2.out hCC))
            have HE := Lib.hid (show R = (z9,3) from by rw [HR0.out,HKE.out,if_pos (by decide)]; exact fin_err (by decide))
            clear hCC
            obtain ⟨wE,hE,hxE⟩ := name_world (P := fun W => Bx w (w.heap.size + 1) zc7 85 W) (HI3.out.2.zero4 (by omega))
            have HXE := Lib.hid hxE
            obtain ⟨q0,q1,q2,q3⟩ := HI3.out.2.four
            have f4 := fun i => HI3.out.2.free i
            clear hxE
            go_wp2_with fail
            obtain ⟨e0,e1,e2,e3⟩ := HXE.out.four
            exact bodyPost_ret (v := .tuple #[t_tv ⟨#[]⟩ 0 (.slice none 0 0) ⟨#[]⟩,.int .i64 3]) (by simp [results,Tryz.results84,go_sem,e0,e1,e2,e3]) rfl (extRes_no HE.out (by decide) HXE.out.all)
          · have hCC' : C1 + C2 = 0 := by omega
            have hcb : (C1 + C2 != 0) = false := by simpa using hCC'
            have HKE := Lib.hid (HV.out.trans (HW3.out hCC'))
            obtain ⟨p0,p1,p2,p3⟩ := HX3.out.four
            obtain ⟨q0,q1,q2,q3⟩ := HY3.out.four
            clear hCC hCC' HW2 HW3 HV
            by_cases k1 : D1 = kLoc
            · have ht1 : (D1.toList == [108,111,99,97,116,105,111,110]) = true := lLoc ▸ teq_yes k1
              have HU := Lib.hid (show eKey (acc ++ [(D1,D2)]) = D2∧eHas (acc ++ [(D1,D2)]) = true∧eFrom (acc ++ [(D1,D2)]) = eFrom acc∧eLen (acc ++ [(D1,D2)]) = eLen acc∧eSized (acc ++ [(D1,D2)]) = eSized acc from by rw [k1]; exact e_loc acc D2)
              clear k1
              go_wp2_with fail
              go_roundw
              case rel => exact ⟨k0 + 1,_,acc ++ [(_,D2)],rfl,by omega,by omega,by rw [HU.out.1],by rw [HU.out.2.1],by rw [HU.out.2.2.1],by rw [HU.out.2.2.2.1],by rw [HU.out.2.2.2.2],HKE.out,HI3.out⟩
              case measure => simp [intOf]; omega
            · have ht1 : (D1.toList == [108,111,99,97,116,105,111,110]) = false := lLoc ▸ teq_no k1
              by_cases k2 : D1 = kOff
              · have ht2 : (D1.toList == [111,102,102,115,101,116]) = true := lOff ▸ teq_yes k2
                have HU := Lib.hid (show eKey (acc ++ [(D1,D2)]) = eKey acc∧eHas (acc ++ [(D1,D2)]) = eHas acc∧eFrom (acc ++ [(D1,D2)]) = D2∧eLen (acc ++ [(D1,D2)]) = eLen acc∧eSized (acc ++ [(D1,D2)]) = eSized acc from by rw [k2]; exact e_off acc D2)
                clear k1 k2
                go_wp2_with fail
                go_roundw
                case rel => exact ⟨k0 + 1,_,acc ++ [(_,D2)],rfl,by omega,by omega,by rw [HU.out.1],by rw [HU.out.2.1],by rw [HU.out.2.2.1],by rw [HU.out.2.2.2.1],by rw [HU.out.2.2.2.2],HKE.out,HI3.out⟩
                case measure => simp [intOf]; omega
              · have ht2 : (D1.toList == [111,102,102,115,101,116]) = false := lOff ▸ teq_no k2
                by_cases k3 : D1 = kLen
                · have ht3 : (D1.toList == [108,101,110,103,116,104]) = true := lLen ▸ teq_yes k3
                  have HU := Lib.hid (show eKey (acc ++ [(D1,D2)]) = eKey acc∧eHas (acc ++ [(D1,D2)]) = eHas acc∧eFrom (acc ++ [(D1,D2)]) = eFrom acc∧eLen (acc ++ [(D1,D2)]) = D2∧eSized (acc ++ [(D1,D2)]) = true from by rw [k3]; exact e_len acc D2)
                  clear k1 k2 k3
                  go_wp2_with fail
                  go_roundw
                  case rel => exact ⟨k0 + 1,_,acc ++ [(_,D2)],rfl,by omega,by omega,by rw [HU.out.1],by rw [HU.out.2.1],by rw [HU.out.2.2.1],by rw [HU.out.2.2.2.1],by rw [HU.out.2.2.2.2],HKE.out,HI3.out⟩
                  case measure => simp [intOf]; omega
                · have ht3 : (D1.toList == [108,101,110,103,116,104]) = false := lLen ▸ teq_no k3
                  have HU := Lib.hid (e_other acc D2 k1 k2 k3)
                  clear k1 k2 k3
                  go_wp2_with fail
                  go_roundw
                  case rel => exact ⟨k0 + 1,_,acc ++ [(_,D2)],rfl,by omega,by omega,by rw [HU.out.1],by rw [HU.out.2.1],by rw [HU.out.2.2.1],by rw [HU.out.2.2.2.1],by rw [HU.out.2.2.2.2],HKE.out,HI3.out⟩
                  case measure => simp [intOf]; omega
      · obtain rfl : k0 = bs.length := by omega
        rw [List.drop_length] at HV
        have HR1 := Lib.hid (show R = fin ⟨nme,k,dims,⟨#[]⟩⟩ (inVals size acc fs) from by rw [HR0.out,HV.out]; rfl)
        have HKI := Lib.hid (e_vals acc size fs hz0)
        have HKY : Hid ((eKey acc).size≤2000000) := Lib.hid (by
          unfold eKey
          cases hv : val acc kLoc with
          | none => exact et_le _
          | some v =>
            have h := val_size (bs := bs) (k := kLoc) (v := v) (by rw [HV.out]; exact hv)
            show v.size≤_
            omega)
        have hx := dg_in (eFrom acc)
        have hy := dg_in (eLen acc)
        have HG1 := Lib.hid (fun W => digits_any (eFrom acc) W)
        have HG2 := Lib.hid (fun W => digits_any (eLen acc) W)
        rw [HKI.out] at HR1
        clear HKI HV HR0 hlt
        generalize inVals size acc fs = IV at *
        generalize dg (eFrom acc) = XF at *
        generalize dg (eLen acc) = YL at *
        generalize eFrom acc = FR at *
        generalize eLen acc = LN at *
        generalize eKey acc = KY at *
        generalize eHas acc = HH at *
        generalize eSized acc = SS at *
        cases HH
        · have HE := Lib.hid (show R = (z9,18) from by rw [HR1.out,if_pos rfl]; exact fin_err (by decide))
          obtain ⟨wE,hE,hxE⟩ := name_world (P := fun W => Bx w (w.heap.size + 1) zc7 85 W) (HI.out.2.zero4 (by omega))
          have HXE := Lib.hid hxE
          obtain ⟨q0,q1,q2,q3⟩ := HI.out.2.four
          have f4 := fun i => HI.out.2.free i
          clear hxE
          go_wp2_with fail
          obtain ⟨e0,e1,e2,e3⟩ := HXE.out.four
          exact bodyPost_ret (v := .tuple #[t_tv ⟨#[]⟩ 0 (.slice none 0 0) ⟨#[]⟩,.int .i64 18]) (by simp [results,Tryz.results84,go_sem,e0,e1,e2,e3]) rfl (extRes_no HE.out (by decide) HXE.out.all)
        · by_cases hX : XF < 0
          · have HE := Lib.hid (show R = (z9,17) from by rw [HR1.out,if_neg (by decide),if_pos (by simp [hX])]; exact fin_err (by decide))
            go_wp2_with fail
            refine (HG1.out _).mono ?_
            rintro e w1 ⟨rfl,rfl⟩
            obtain ⟨wE,hE,hxE⟩ := name_world (P := fun W => Bx w (w.heap.size + 1) zc7 85 W) (HI.out.2.zero4 (by omega))
            have HXE := Lib.hid hxE
            obtain ⟨q0,q1,q2,q3⟩ := HI.out.2.four
            have f4 := fun i => HI.out.2.free i
            clear hxE
            go_wp2_with fail
            obtain ⟨e0,e1,e2,e3⟩ := HXE.out.four
            exact bodyPost_ret (v := .tuple #[t_tv ⟨#[]⟩ 0 (.slice none 0 0) ⟨#[]⟩,.int .i64 17]) (by simp [results,Tryz.results84,go_sem,e0,e1,e2,e3]) rfl (extRes_no HE.out (by decide) HXE.out.all)
          · cases SS
            · have HQ := Lib.hid (show R = fin ⟨nme,k,dims,⟨#[]⟩⟩ (rdC fs KY XF size) from by rw [HR1.out,if_neg (by decide),if_neg (by simp [hX]),if_neg (by simp)])
              have HRR := Lib.hid (fun W (h : Below w.heap.size w W) => o_rread_any fs V vc W.heap.size KY XF size W hfl HKY.out hfd ⟨by omega,by omega⟩ ⟨by omega,by omega⟩ (HF.out W h))
              have HRS := Lib.hid (rdC_size fs KY XF hz0)
              generalize rdC fs KY XF size = RD at *
              obtain ⟨RB,RC⟩ := RD
              try dsimp only at HRR HRS
              go_wp2_with fail
              refine (HG1.out _).mono ?_
              rintro e w1 ⟨rfl,rfl⟩
              go_wp2_with fail
              refine (HG1.out _).mono ?_
              rintro e w1 ⟨rfl,rfl⟩
              go_wp2_with fail
              refine (HRR.out _ HI.out.1.all).mono ?_
              rintro e w2 ⟨rfl,rfl⟩
              by_cases hRC : RC≠0
              · have hcb2 : (RC != 0) = true := by simpa using hRC
                have HE := Lib.hid (HQ.out.trans (fin_err (t := ⟨nme,k,dims,⟨#[]⟩⟩) (r := (RB,RC)) hRC))
                have HEC := Lib.hid hRC
                clear hRC
                obtain ⟨wE,hE,hxE⟩ := name_world (P := fun W => Bx w (w.heap.size + 1) zc7 85 W) (HI.out.2.zero4 (by omega))
                have HXE := Lib.hid hxE
                obtain ⟨q0,q1,q2,q3⟩ := HI.out.2.four
                have f4 := fun i => HI.out.2.free i
                clear hxE
                go_wp2_with fail
                obtain ⟨e0,e1,e2,e3⟩ := HXE.out.four
                exact bodyPost_ret (v := .tuple #[t_tv ⟨#[]⟩ 0 (.slice none 0 0) ⟨#[]⟩,.int .i64 RC]) (by simp [results,Tryz.results84,go_sem,e0,e1,e2,e3]) rfl (extRes_no HE.out (by simpa using HEC.out) HXE.out.all)
              · obtain rfl : RC = 0 := by omega
                have HFC := Lib.hid (fun h => HQ.out.trans (fin_ck (t := ⟨nme,k,dims,⟨#[]⟩⟩) (r := (RB,0)) rfl h))
                have HFO := Lib.hid (fun h => HQ.out.trans (fin_ok (t := ⟨nme,k,dims,⟨#[]⟩⟩) (r := (RB,0)) rfl h))
                try dsimp only at HFC HFO
                have z3 := HI.out.1.cell 3
                change _ = some _ at z3
                have g5 := fun i => HI.out.1.free i
                obtain ⟨wD,hD,hiD⟩ := name_world (P := fun W => ExI w nme RB k (.slice A dims.length c) W) ⟨HI.out.1.set (Nat.le_refl _) 3 (.string RB),HI.out.2.far_set (.string RB) (by omega) (Nat.le_refl _)⟩
                have HID := Lib.hid hiD
                obtain ⟨y0,y1,y2,y3⟩ := hiD.1.four
                have HTC := Lib.hid (rcheck_any ⟨nme,k,dims,RB⟩ A c wD ⟨by dsimp only; omega,by have := HRS.out; dsimp only at this ⊢; omega,hk,HD.out wD hiD.1.all,by unfold maxLen; dsimp only; omega,hdi⟩)
                try dsimp only at HTC
                generalize ck ⟨nme,k,dims,RB⟩ = CK at *
                clear hRC hiD
                go_wp2_with fail
                refine HTC.out.mono ?_
                rintro e w6 ⟨rfl,hb6⟩
                have HI6 := Lib.hid (HID.out.below hb6)
                clear hb6 HTC y0 y1 y2 y3 z3 g5 hD
                by_cases hck : CK≠0
                · have hcb2 : (CK != 0) = true := by simpa using hck
                  have HE := Lib.hid (HFC.out hck)
                  have HEC := Lib.hid hck
                  clear hck
                  obtain ⟨wE,hE,hxE⟩ := name_world (P := fun W => Bx w (w.heap.size + 1) zc7 85 W) (HI6.out.2.zero4 (by omega))
                  have HXE := Lib.hid hxE
                  obtain ⟨q0,q1,q2,q3⟩ := HI6.out.2.four
                  have f4 := fun i => HI6.out.2.free i
                  clear hxE
                  go_wp2_with fail
                  obtain ⟨e0,e1,e2,e3⟩ := HXE.out.four
                  exact bodyPost_ret (v := .tuple #[t_tv ⟨#[]⟩ 0 (.slice none 0 0) ⟨#[]⟩,.int .i64 CK]) (by simp [results,Tryz.results84,go_sem,e0,e1,e2,e3]) rfl (extRes_no HE.out (by simpa using HEC.out) HXE.out.all)
                · obtain rfl : CK = 0 := by omega
                  have HE := Lib.hid (HFO.out rfl)
                  obtain ⟨a0,a1,a2,a3⟩ := HI6.out.1.four
                  obtain ⟨q0,q1,q2,q3⟩ := HI6.out.2.four
                  have f4 := fun i => HI6.out.2.free i
                  obtain ⟨wE,hE,hxE⟩ := name_world (P := fun W => Bx w (w.heap.size + 1) #[.string nme,.int .i64 k,.slice A dims.length c,.string RB] 85 W) (HI6.out.2.four_put (by omega) (.string nme) (.int .i64 k) (.slice A dims.length c) (.string RB))
                  have HXE := Lib.hid hxE
                  clear hck hxE
                  go_wp2_with fail
                  obtain ⟨e0,e1,e2,e3⟩ := HXE.out.four
                  exact bodyPost_ret (v := .tuple #[t_tv nme k (.slice A dims.length c) RB,.int .i64 0]) (by simp [results,Tryz.results84,go_sem,e0,e1,e2,e3]) rfl (extRes_yes (t := ⟨nme,k,dims,RB⟩) HE.out HXE.out.all)
            · by_cases hY : YL < 0
              · have HE := Lib.hid (show R = (z9,17) from by rw [HR1.out,if_neg (by decide),if_pos (by simp [hY])]; exact fin_err (by decide))
                go_wp2_with fail
                refine (HG1.out _).mono ?_
                rintro e w1 ⟨rfl,rfl⟩
                go_wp2_with fail
                refine (HG2.out _).mono ?_
                rintro e w1 ⟨rfl,rfl⟩
                obtain ⟨wE,hE,hxE⟩ := name_world (P := fun W => Bx w (w.heap.size + 1) zc7 85 W) (HI.out.2.zero4 (by omega))
                have HXE := Lib.hid hxE
                obtain ⟨q0,q1,q2,q3⟩ := HI.out.2.four
                have f4 := fun i => HI.out.2.free i
                clear hxE
                go_wp2_with fail
                obtain ⟨e0,e1,e2,e3⟩ := HXE.out.four
                exact bodyPost_ret (v := .tuple #[t_tv ⟨#[]⟩ 0 (.slice none 0 0) ⟨#[]⟩,.int .i64 17]) (by simp [results,Tryz.results84,go_sem,e0,e1,e2,e3]) rfl (extRes_no HE.out (by decide) HXE.out.all)
              · by_cases hZ : YL≠size
                · have HE := Lib.hid (show R = (z9,7) from by rw [HR1.out,if_neg (by decide),if_neg (by simp [hX,hY]),if_pos (by simpa using hZ)]; exact fin_err (by decide))
                  have hZb : (YL != size) = true := by simpa using hZ
                  clear hZ
                  go_wp2_with fail
                  refine (HG1.out _).mono ?_
                  rintro e w1 ⟨rfl,rfl⟩
                  go_wp2_with fail
                  refine (HG2.out _).mono ?_
                  rintro e w1 ⟨rfl,rfl⟩
                  go_wp2_with fail
                  refine (HG2.out _).mono ?_
                  rintro e w1 ⟨rfl,rfl⟩
                  obtain ⟨wE,hE,hxE⟩ := name_world (P := fun W => Bx w (w.heap.size + 1) zc7 85 W) (HI.out.2.zero4 (by omega))
                  have HXE := Lib.hid hxE
                  obtain ⟨q0,q1,q2,q3⟩ := HI.out.2.four
                  have f4 := fun i => HI.out.2.free i
                  clear hxE
                  go_wp2_with fail
                  obtain ⟨e0,e1,e2,e3⟩ := HXE.out.four
                  exact bodyPost_ret (v := .tuple #[t_tv ⟨#[]⟩ 0 (.slice none 0 0) ⟨#[]⟩,.int .i64 7]) (by simp [results,Tryz.results84,go_sem,e0,e1,e2,e3]) rfl (extRes_no HE.out (by decide) HXE.out.all)
                · have hZ' : YL = size := Decidable.of_not_not hZ
                  have hZb : (YL != size) = false := by simpa using hZ'
                  have HQ := Lib.hid (show R = fin ⟨nme,k,dims,⟨#[]⟩⟩ (rdC fs KY XF size) from by rw [HR1.out,if_neg (by decide),if_neg (by simp [hX,hY]),if_neg (by simp [hZ'])])
                  clear hZ hZ'
                  have HRR := Lib.hid (fun W (h : Below w.heap.size w W) => o_rread_any fs V vc W.heap.size KY XF size W hfl HKY.out hfd ⟨by omega,by omega⟩ ⟨by omega,by omega⟩ (HF.out W h))
                  have HRS := Lib.hid (rdC_size fs KY XF hz0)
                  generalize rdC fs KY XF size = RD at *
                  obtain ⟨RB,RC⟩ := RD
                  try dsimp only at HRR HRS
                  go_wp2_with fail
                  refine (HG1.out _).mono ?_
                  rintro e w1 ⟨rfl,rfl⟩
                  go_wp2_with fail
                  refine (HG2.out _).mono ?_
                  rintro e w1 ⟨rfl,rfl⟩
                  go_wp2_with fail
                  refine (HG2.out _).mono ?_
                  rintro e w1 ⟨rfl,rfl⟩
                  go_wp2_with fail
                  refine (HG1.out _).mono ?_
                  rintro e w1 ⟨rfl,rfl⟩
                  go_wp2_with fail
                  refine (HRR.out _ HI.out.1.all).mono ?_
                  rintro e w2 ⟨rfl,rfl⟩
                  by_cases hRC : RC≠0
                  · have hcb2 : (RC != 0) = true := by simpa using hRC
                    have HE := Lib.hid (HQ.out.trans (fin_err (t := ⟨nme,k,dims,⟨#[]⟩⟩) (r := (RB,RC)) hRC))
                    have HEC := Lib.hid hRC
                    clear hRC
                    obtain ⟨wE,hE,hxE⟩ := name_world (P := fun W => Bx w (w.heap.size + 1) zc7 85 W) (HI.out.2.zero4 (by omega))
                    have HXE := Lib.hid hxE
                    obtain ⟨q0,q1,q2,q3⟩ := HI.out.2.four
                    have f4 := fun i => HI.out.2.free i
                    clear hxE
                    go_wp2_with fail
                    obtain ⟨e0,e1,e2,e3⟩ := HXE.out.four
                    exact bodyPost_ret (v := .tuple #[t_tv ⟨#[]⟩ 0 (.slice none 0 0) ⟨#[]⟩,.int .i64 RC]) (by simp [results,Tryz.results84,go_sem,e0,e1,e2,e3]) rfl (extRes_no HE.out (by simpa using HEC.out) HXE.out.all)
                  · obtain rfl : RC = 0 := by omega
                    have HFC := Lib.hid (fun h => HQ.out.trans (fin_ck (t := ⟨nme,k,dims,⟨#[]⟩⟩) (r := (RB,0)) rfl h))
                    have HFO := Lib.hid (fun h => HQ.out.trans (fin_ok (t := ⟨nme,k,dims,⟨#[]⟩⟩) (r := (RB,0)) rfl h))
                    try dsimp only at HFC HFO
                    have z3 := HI.out.1.cell 3
                    change _ = some _ at z3
                    have g5 := fun i => HI.out.1.free i
                    obtain ⟨wD,hD,hiD⟩ := name_world (P := fun W => ExI w nme RB k (.slice A dims.length c) W) ⟨HI.out.1.set (Nat.le_refl _) 3 (.string RB),HI.out.2.far_set (.string RB) (by omega) (Nat.le_refl _)⟩
                    have HID := Lib.hid hiD
                    obtain ⟨y0,y1,y2,y3⟩ := hiD.1.four
                    have HTC := Lib.hid (rcheck_any ⟨nme,k,dims,RB⟩ A c wD ⟨by dsimp only; omega,by have := HRS.out; dsimp only at this ⊢; omega,hk,HD.out wD hiD.1.all,by unfold maxLen; dsimp only; omega,hdi⟩)
                    try dsimp only at HTC
                    generalize ck ⟨nme,k,dims,RB⟩ = CK at *
                    clear hRC hiD
                    go_wp2_with fail
                    refine HTC.out.mono ?_
                    rintro e w6 ⟨rfl,hb6⟩
                    have HI6 := Lib.hid (HID.out.below hb6)
                    clear hb6 HTC y0 y1 y2 y3 z3 g5 hD
                    by_cases hck : CK≠0
                    · have hcb2 : (CK != 0) = true := by simpa using hck
                      have HE := Lib.hid (HFC.out hck)
                      have HEC := Lib.hid hck
                      clear hck
                      obtain ⟨wE,hE,hxE⟩ := name_world (P := fun W => Bx w (w.heap.size + 1) zc7 85 W) (HI6.out.2.zero4 (by omega))
                      have HXE := Lib.hid hxE
                      obtain ⟨q0,q1,q2,q3⟩ := HI6.out.2.four
                      have f4 := fun i => HI6.out.2.free i
                      clear hxE
                      go_wp2_with fail
                      obtain ⟨e0,e1,e2,e3⟩ := HXE.out.four
                      exact bodyPost_ret (v := .tuple #[t_tv ⟨#[]⟩ 0 (.slice none 0 0) ⟨#[]⟩,.int .i64 CK]) (by simp [results,Tryz.results84,go_sem,e0,e1,e2,e3]) rfl (extRes_no HE.out (by simpa using HEC.out) HXE.out.all)
                    · obtain rfl : CK = 0 := by omega
                      have HE := Lib.hid (HFO.out rfl)
                      obtain ⟨a0,a1,a2,a3⟩ := HI6.out.1.four
                      obtain ⟨q0,q1,q2,q3⟩ := HI6.out.2.four
                      have f4 := fun i => HI6.out.2.free i
                      obtain ⟨wE,hE,hxE⟩ := name_world (P := fun W => Bx w (w.heap.size + 1) #[.string nme,.int .i64 k,.slice A dims.length c,.string RB] 85 W) (HI6.out.2.four_put (by omega) (.string nme) (.int .i64 k) (.slice A dims.length c) (.string RB))
                      have HXE := Lib.hid hxE
                      clear hck hxE
                      go_wp2_with fail
                      obtain ⟨e0,e1,e2,e3⟩ := HXE.out.four
                      exact bodyPost_ret (v := .tuple #[t_tv nme k (.slice A dims.length c) RB,.int .i64 0]) (by simp [results,Tryz.results84,go_sem,e0,e1,e2,e3]) rfl (extRes_yes (t := ⟨nme,k,dims,RB⟩) HE.out HXE.out.all)
  · have HE := Lib.hid (show R = (z9,19) from by rw [← hR,inFile_19 hfull]; exact fin_err (by decide))
    clear hR hfull
    go_enter Tryz.func84,Tryz.ntmps84
    go_wp2_with fail
    exact bodyPost_ret (v := .tuple #[t_tv ⟨#[]⟩ 0 (.slice none 0 0) ⟨#[]⟩,.int .i64 19]) (by simp [results,Tryz.results84,go_sem]) rfl (extRes_no HE.out (by decide) HI0.out.2.all)
end Go.Proofs.YtjjfdlgoacockaaGreat
namespace Go.Proofs.YtjjfdlgoacockaaGreat
open Go.RowKit M1 M2 M3 M8 M9
open M7 (Ten ck nm)

abbrev fcA (f : WFd) : Array Value := #[.int .i64 f.num,.int .i64 f.typ,.int .u64 (f.n : Int),.string f.data]
def RfI (w : World) (g8 g11 g14 g17 : Nat) (f2 f8 f9 f14 : WFd) (W : World) : Prop :=
  Bx w w.heap.size zc7 85 W∧Bx w g8 (fcA f2) 75 W∧Bx w g11 (fcA f8) 75 W∧Bx w g14 (fcA f9) 75 W∧Bx w g17 (fcA f14) 75 W
theorem RfI.below {w W W' : World} {g8 g11 g14 g17 : Nat} {f2 f8 f9 f14 : WFd} (h : RfI w g8 g11 g14 g17 f2 f8 f9 f14 W) (hb : Below W.heap.size W W') : RfI w g8 g11 g14 g17 f2 f8 f9 f14 W' :=
  ⟨h.1.below hb,h.2.1.below hb,h.2.2.1.below hb,h.2.2.2.1.below hb,h.2.2.2.2.below hb⟩

set_option maxRecDepth 100000 in
set_option maxHeartbeats 16000000 in
theorem rread9_any (b : ByteArray) (V : Option Addr) (vc : Nat) (fs : List Fl) (w : World) (hbs : b.size ≤ maxLen) (hfl : fs.length ≤ 100) (hfd : ∀ f ∈ fs, f.data.size ≤ 10000) (hf : SR w w.heap.size 2 V fs.length (fcl fs)) :
    Calls Tryz.prog 28 #[.string b,.slice V fs.length vc] w (TenRes (rd9 b fs) w) := by
  have HX0 := Lib.hid (Bx.start w zc7 85)
  have HFI := Lib.hid (fun W (h : Below w.heap.size w W) => (hf.below h).more h.size)
  have HF := Lib.hid (fun W => rfields_any b W hbs)
  have HFL := Lib.hid (fields_len b)
  have HFO := Lib.hid (fields_ok (s := b))
  have HE1 := Lib.hid (fun L C h hC => rd9_fields (b := b) (fs := fs) (L := L) (C := C) h hC)
  have HE2 := Lib.hid (fun L h => rd9_L (b := b) (fs := fs) (L := L) h)
  clear hf
  generalize rd9 b fs = R at *
  generalize fields b = F at *
  obtain ⟨L,C⟩ := F
  go_enter Tryz.func28,Tryz.ntmps28
  go_wp2_with fail
  refine (HF.out _).mono ?_
  rintro e w1 ⟨v1,rfl,hown,hb1⟩
  obtain ⟨a1,c1,rfl,-,-⟩ := own_form hown
  have HX1 := Lib.hid (HX0.out.below hb1)
  have HS1 := Lib.hid (fun W (h : Below w1.heap.size w1 W) => ((SR.of_own hown).below h).more h.size)
  clear hb1 hown HF HX0
  by_cases hC : C≠0
  · have hcb : ((C : Int) != 0) = true := by simpa using hC
    have HE := Lib.hid (HE1.out L C rfl hC)
    clear hC
    obtain ⟨wE,hE,hxE⟩ := name_world (P := fun W => Bx w w.heap.size zc7 85 W) (HX1.out.zero4 (Nat.le_refl _))
    have HXE := Lib.hid hxE
    obtain ⟨z0,z1,z2,z3⟩ := HX1.out.four
    have f4 := fun i => HX1.out.free i
    clear hxE
    go_wp2_with fail
    obtain ⟨e0,e1,e2,e3⟩ := HXE.out.four
    exact bodyPost_ret (v := .tuple #[t_tv ⟨#[]⟩ 0 (.slice none 0 0) ⟨#[]⟩,.int .i64 (C : Int)]) (by simp [results,Tryz.results28,go_sem,e0,e1,e2,e3]) rfl (tenRes_no HE.out HXE.out.all)
  · obtain rfl : C = 0 := by omega
    have HM := Lib.hid (HE2.out L rfl)
    have HLA := Lib.hid (fun W (h : Below w1.heap.size w1 W) num typ => rlast_any a1 c1 L num typ W (by have := HFL.out; omega) (HS1.out W h))
    have HI1 := Lib.hid (fun W (h : Below w1.heap.size w1 W) num => p_rints_any a1 c1 L num W (by have := HFL.out; omega) (HS1.out W h) (fun f hf => (HFO.out f hf).1))
    have HT1 := Lib.hid (fun W (h : Below w1.heap.size w1 W) num => rtexts_any a1 c1 L num W (by have := HFL.out; omega) (HS1.out W h))
    have HL1 := Lib.hid (fun W h => HLA.out W h 2 0)
    have HL2 := Lib.hid (fun W h => HLA.out W h 8 2)
    have HL3 := Lib.hid (fun W h => HLA.out W h 9 2)
    have HL4 := Lib.hid (fun W h => HLA.out W h 14 0)
    have HOS := Lib.hid (okFs_sum L)
    have HOL := Lib.hid (fun h => okFs_lst (L := L) h)
    have HMW := Lib.hid (fun h => HM.out.trans (rdL_wire (fs := fs) (L := L) h))
    have q1 := b_lstC_in L 2 0
    have q2 := b_lstC_in L 8 2
    have q3 := b_lstC_in L 9 2
    have q4 := b_lstC_in L 14 0
    generalize lstF L 2 0 = f2 at *
    generalize lstF L 8 2 = f8 at *
    generalize lstF L 9 2 = f9 at *
    generalize lstF L 14 0 = f14 at *
    generalize lstC L 2 0 = C1 at *
    generalize lstC L 8 2 = C2 at *
    generalize lstC L 9 2 = C3 at *
    generalize lstC L 14 0 = C4 at *
    generalize has L 2 = b2 at *
    generalize has L 8 = b8 at *
    generalize hh9 : has L 9 = b9 at *
    have HH9 := Lib.hid hh9
    generalize has L 14 = b14 at *
    obtain ⟨u2,y2,n2,d2⟩ := f2
    obtain ⟨u8,y8,n8,d8⟩ := f8
    obtain ⟨u9,y9,n9,d9⟩ := f9
    obtain ⟨u14,y14,n14,d14⟩ := f14
    try dsimp only at HL1 HL2 HL3 HL4
    clear hC HE1 HE2 HLA hh9
    go_wp2_with fail
    refine (HL1.out _ (Below.refl _ _)).mono ?_
    rintro e wl1 ⟨rfl,hb⟩
    have hal := hb.alloc hb.size (.cells (fcA ⟨u2,y2,n2,d2⟩) 75)
    have HN1 := Lib.hid hal
    have HR1 := Lib.hid (HX1.out.below hal)
    have HB11 := Lib.hid ((HX1.out.below hb).next (fcA ⟨u2,y2,n2,d2⟩) 75)
    clear hb hal
    go_wp2_with fail
    refine (HL2.out _ HN1.out).mono ?_
    rintro e wl2 ⟨rfl,hb⟩
    have hal := hb.alloc hb.size (.cells (fcA ⟨u8,y8,n8,d8⟩) 75)
    have HN2 := Lib.hid (step_below HN1.out hal)
    have HR2 := Lib.hid (HR1.out.below hal)
    have HB12 := Lib.hid (HB11.out.below hal)
    have HB22 := Lib.hid ((HR1.out.below hb).next (fcA ⟨u8,y8,n8,d8⟩) 75)
    clear hb hal
    go_wp2_with fail
    refine (HL3.out _ HN2.out).mono ?_
    rintro e wl3 ⟨rfl,hb⟩
    have hal := hb.alloc hb.size (.cells (fcA ⟨u9,y9,n9,d9⟩) 75)
    have HN3 := Lib.hid (step_below HN2.out hal)
    have HR3 := Lib.hid (HR2.out.below hal)
    have HB13 := Lib.hid (HB12.out.below hal)
    have HB23 := Lib.hid (HB22.out.below hal)
    have HB33 := Lib.hid ((HR2.out.below hb).next (fcA ⟨u9,y9,n9,d9⟩) 75)
    clear hb hal
    go_wp2_with fail
    refine (HL4.out _ HN3.out).mono ?_
    rintro e wl4 ⟨rfl,hb⟩
    have hal := hb.alloc hb.size (.cells (fcA ⟨u14,y14,n14,d14⟩) 75)
    have HN4 := Lib.hid (step_below HN3.out hal)
    have HR4 := Lib.hid (HR3.out.below hal)
    have HB14 := Lib.hid (HB13.out.below hal)
    have HB24 := Lib.hid (HB23.out.below hal)
    have HB34 := Lib.hid (HB33.out.below hal)
    have HB44 := Lib.hid ((HR3.out.below hb).next (fcA ⟨u14,y14,n14,d14⟩) 75)
    have hri : RfI w wl1.heap.size wl2.heap.size wl3.heap.size wl4.heap.size ⟨u2,y2,n2,d2⟩ ⟨u8,y8,n8,d8⟩ ⟨u9,y9,n9,d9⟩ ⟨u14,y14,n14,d14⟩ (wl4.alloc (.cells (fcA ⟨u14,y14,n14,d14⟩) 75)) := ⟨HR4.out,HB14.out,HB24.out,HB34.out,HB44.out⟩
    have HI := Lib.hid hri
    clear hb hal hri HR1 HR2 HR3 HR4 HB11 HB12 HB13 HB14 HB22 HB23 HB24 HB33 HB34 HB44 HN1 HN2 HN3 HL1 HL2 HL3 HL4 HX1
    by_cases hS : C1 + C2 + C3 + C4≠0
    · have hcb : (C1 + C2 + C3 + C4 != 0) = true := by simpa using hS
      have HE := Lib.hid (HMW.out (by rw [HOS.out,decide_eq_false hS]))
      clear hS
      obtain ⟨wE,hE,hxE⟩ := name_world (P := fun W => Bx w w.heap.size zc7 85 W) (HI.out.1.zero4 (Nat.le_refl _))
      have HXE := Lib.hid hxE
      obtain ⟨z0,z1,z2,z3⟩ := HI.out.1.four
      have f4 := fun i => HI.out.1.free i
      clear hxE
      go_wp2_with fail
      obtain ⟨e0,e1,e2,e3⟩ := HXE.out.four
      exact bodyPost_ret (v := .tuple #[t_tv ⟨#[]⟩ 0 (.slice none 0 0) ⟨#[]⟩,.int .i64 3]) (by simp [results,Tryz.results28,go_sem,e0,e1,e2,e3]) rfl (tenRes_no HE.out HXE.out.all)
    · have hS' : C1 + C2 + C3 + C4 = 0 := by omega
      have hcb : (C1 + C2 + C3 + C4 != 0) = false := by simpa using hS'
      have HOK := Lib.hid (show okFs L = true by rw [HOS.out,decide_eq_true hS'])
      obtain ⟨l2,l8,l9,l14⟩ := HOL.out HOK.out
      have HLF := Lib.hid (And.intro l2 (And.intro l8 (And.intro l9 l14)))
      clear hS hS' HOS HOL HMW l2 l8 l9 l14
      have HRO := Lib.hid (rows_ok (l := L) HFL.out HFO.out)
      have HRR := Lib.hid (fun r C hr hC => HM.out.trans (rdL_rows (fs := fs) (L := L) (r := r) (C := C) HOK.out hr hC))
      have HRC := Lib.hid (fun r n c hr hc h0 => HM.out.trans (rdL_chk (fs := fs) (L := L) (r := r) (n := n) (c := c) HOK.out hr hc h0))
      have HRK := Lib.hid (fun r n hr hc => HM.out.trans (rdL_ok (fs := fs) (L := L) (r := r) (n := n) HOK.out hr hc))
      have HO1 := Lib.hid (fun d c (h : ints (ofNum L 1) [] = (d,c)) hc => HRR.out zr c (rows_1 h hc) hc)
      have HO5 := Lib.hid (fun d s c (h1 : ints (ofNum L 1) [] = (d,0)) (h5 : ints (ofNum L 5) [] = (s,c)) hc => HRR.out zr c (rows_5 h1 h5 hc) hc)
      have HO7 := Lib.hid (fun d s i c (h1 : ints (ofNum L 1) [] = (d,0)) (h5 : ints (ofNum L 5) [] = (s,0)) (h7 : ints (ofNum L 7) [] = (i,c)) hc => HRR.out zr c (rows_7 h1 h5 h7 hc) hc)
      have HO13 := Lib.hid (fun d s i t c (h1 : ints (ofNum L 1) [] = (d,0)) (h5 : ints (ofNum L 5) [] = (s,0)) (h7 : ints (ofNum L 7) [] = (i,0)) (h13 : txts (ofNum L 13) [] = (t,c)) hc => HRR.out zr c (rows_13 h1 h5 h7 h13 hc) hc)
      have HOA := Lib.hid (fun d s i t (h1 : ints (ofNum L 1) [] = (d,0)) (h5 : ints (ofNum L 5) [] = (s,0)) (h7 : ints (ofNum L 7) [] = (i,0)) (h13 : txts (ofNum L 13) [] = (t,0)) => rows_all h1 h5 h7 h13)
      have HI1a := Lib.hid (fun W h => HI1.out W h 1)
      have HI1b := Lib.hid (fun W h => HI1.out W h 5)
      have HI1c := Lib.hid (fun W h => HI1.out W h 7)
      have HT1a := Lib.hid (fun W h => HT1.out W h 13)
      generalize ints (ofNum L 1) [] = R1 at *
      generalize ints (ofNum L 5) [] = R5 at *
      generalize ints (ofNum L 7) [] = R7 at *
      generalize txts (ofNum L 13) [] = R13 at *
      obtain ⟨L1,E1⟩ := R1
      obtain ⟨L5,E5⟩ := R5
      obtain ⟨L7,E7⟩ := R7
      obtain ⟨L13,E13⟩ := R13
      clear HI1 HT1 HRR HM
      go_wp2_with fail
      clear q1 q2 q3 q4 hcb
      refine (HI1a.out _ HN4.out).mono ?_
      rintro e wr1 ⟨v1,rfl,hown,hb⟩
      try dsimp only at hown
      obtain ⟨r1,k1,rfl,-,-⟩ := own_form hown
      have HNr1 := Lib.hid (step_below HN4.out hb)
      have HIr1 := Lib.hid (HI.out.below hb)
      have HW1 := Lib.hid (own_base hown (show w.heap.size≤_ from HI.out.1.all.size))
      clear hb hown HI1a HI
      by_cases hc : E1≠0
      · have hcb : ((E1 : Int) != 0) = true := by simpa using hc
        have HE := Lib.hid (HO1.out L1 E1 rfl hc)
        clear hc
        obtain ⟨wE,hE,hxE⟩ := name_world (P := fun W => Bx w w.heap.size zc7 85 W) (HIr1.out.1.zero4 (Nat.le_refl _))
        have HXE := Lib.hid hxE
        obtain ⟨z0,z1,z2,z3⟩ := HIr1.out.1.four
        have f4 := fun i => HIr1.out.1.free i
        clear hxE
        go_wp2_with fail
        obtain ⟨e0,e1,e2,e3⟩ := HXE.out.four
        exact bodyPost_ret (v := .tuple #[t_tv ⟨#[]⟩ 0 (.slice none 0 0) ⟨#[]⟩,.int .i64 (E1 : Int)]) (by simp [results,Tryz.results28,go_sem,e0,e1,e2,e3]) rfl (tenRes_no HE.out HXE.out.all)
      obtain rfl : E1 = 0 := by omega
      clear hc
      go_wp2_with fail
      refine (HI1b.out _ HNr1.out).mono ?_
      rintro e wr5 ⟨v5,rfl,hown,hb⟩
      try dsimp only at hown
      obtain ⟨r5,k5,rfl,-,-⟩ := own_form hown
      have HNr5 := Lib.hid (step_below HNr1.out hb)
      have HIr5 := Lib.hid (HIr1.out.below hb)
      have HW1 := Lib.hid (own_keep HW1.out hb)
      have HW5 := Lib.hid (own_base hown (show w.heap.size≤_ from HIr1.out.1.all.size))
      clear hb hown HI1b HIr1
      by_cases hc : E5≠0
      · have hcb : ((E5 : Int) != 0) = true := by simpa using hc
        have HE := Lib.hid (HO5.out L1 L5 E5 rfl rfl hc)
        clear hc
        obtain ⟨wE,hE,hxE⟩ := name_world (P := fun W => Bx w w.heap.size zc7 85 W) (HIr5.out.1.zero4 (Nat.le_refl _))
        have HXE := Lib.hid hxE
        obtain ⟨z0,z1,z2,z3⟩ := HIr5.out.1.four
        have f4 := fun i => HIr5.out.1.free i
        clear hxE
        go_wp2_with fail
        obtain ⟨e0,e1,e2,e3⟩ := HXE.out.four
        exact bodyPost_ret (v := .tuple #[t_tv ⟨#[]⟩ 0 (.slice none 0 0) ⟨#[]⟩,.int .i64 (E5 : Int)]) (by simp [results,Tryz.results28,go_sem,e0,e1,e2,e3]) rfl (tenRes_no HE.out HXE.out.all)
      obtain rfl : E5 = 0 := by omega
      clear hc
      go_wp2_with fail
      refine (HI1c.out _ HNr5.out).mono ?_
      rintro e wr7 ⟨v7,rfl,hown,hb⟩
      try dsimp only at hown
      obtain ⟨r7,k7,rfl,-,-⟩ := own_form hown
      have HNr7 := Lib.hid (step_below HNr5.out hb)
      have HIr7 := Lib.hid (HIr5.out.below hb)
      have HW1 := Lib.hid (own_keep HW1.out hb)
      have HW5 := Lib.hid (own_keep HW5.out hb)
      have HW7 := Lib.hid (own_base hown (show w.heap.size≤_ from HIr5.out.1.all.size))
      clear hb hown HI1c HIr5
      by_cases hc : E7≠0
      · have hcb : ((E7 : Int) != 0) = true := by simpa using hc
        have HE := Lib.hid (HO7.out L1 L5 L7 E7 rfl rfl rfl hc)
        clear hc
        obtain ⟨wE,hE,hxE⟩ := name_world (P := fun W => Bx w w.heap.size zc7 85 W) (HIr7.out.1.zero4 (Nat.le_refl _))
        have HXE := Lib.hid hxE
        obtain ⟨z0,z1,z2,z3⟩ := HIr7.out.1.four
        have f4 := fun i => HIr7.out.1.free i
        clear hxE
        go_wp2_with fail
        obtain ⟨e0,e1,e2,e3⟩ := HXE.out.four
        exact bodyPost_ret (v := .tuple #[t_tv ⟨#[]⟩ 0 (.slice none 0 0) ⟨#[]⟩,.int .i64 (E7 : Int)]) (by simp [results,Tryz.results28,go_sem,e0,e1,e2,e3]) rfl (tenRes_no HE.out HXE.out.all)
      obtain rfl : E7 = 0 := by omega
      clear hc
      go_wp2_with fail
      refine (HT1a.out _ HNr7.out).mono ?_
      rintro e wr13 ⟨v13,rfl,hown,hb⟩
      try dsimp only at hown
      obtain ⟨r13,k13,rfl,-,-⟩ := own_form hown
      have HNr13 := Lib.hid (step_below HNr7.out hb)
      have HIr13 := Lib.hid (HIr7.out.below hb)
      have HW1 := Lib.hid (own_keep HW1.out hb)
      have HW5 := Lib.hid (own_keep HW5.out hb)
      have HW7 := Lib.hid (own_keep HW7.out hb)
      have HW13 := Lib.hid (own_base hown (show w.heap.size≤_ from HIr7.out.1.all.size))
      clear hb hown HT1a HIr7
      by_cases hc : E13≠0
      · have hcb : ((E13 : Int) != 0) = true := by simpa using hc
        have HE := Lib.hid (HO13.out L1 L5 L7 L13 E13 rfl rfl rfl rfl hc)
        clear hc
        obtain ⟨wE,hE,hxE⟩ := name_world (P := fun W => Bx w w.heap.size zc7 85 W) (HIr13.out.1.zero4 (Nat.le_refl _))
        have HXE := Lib.hid hxE
        obtain ⟨z0,z1,z2,z3⟩ := HIr13.out.1.four
        have f4 := fun i => HIr13.out.1.free i
        clear hxE
        go_wp2_with fail
        obtain ⟨e0,e1,e2,e3⟩ := HXE.out.four
        exact bodyPost_ret (v := .tuple #[t_tv ⟨#[]⟩ 0 (.slice none 0 0) ⟨#[]⟩,.int .i64 (E13 : Int)]) (by simp [results,Tryz.results28,go_sem,e0,e1,e2,e3]) rfl (tenRes_no HE.out HXE.out.all)
      obtain rfl : E13 = 0 := by omega
      clear hc
      obtain ⟨l2,l8,l9,l14⟩ := HLF.out
      have hrw := HOA.out L1 L5 L7 L13 rfl rfl rfl rfl
      have hck9 : chkL L ⟨L1,L5,L7,L13⟩ = chk n14 d8 (kindN n2) L1 := by unfold chkL; rw [← l14,← l8,← l2]
      have HC9 := Lib.hid (fun n c (h : chk n14 d8 (kindN n2) L1 = (n,c)) h0 => HRC.out _ n c hrw (hck9.trans h) h0)
      have HK9 := Lib.hid (fun n (h : chk n14 d8 (kindN n2) L1 = (n,0)) => show R = fin ⟨d8,kindN n2,L1,⟨#[]⟩⟩ (elems ⟨⟨d8,kindN n2,L1,⟨#[]⟩⟩,n,n14,d9,b9,L5,L7,L13⟩ fs) from by
        rw [HRK.out _ n hrw (hck9.trans h)]; unfold mk; rw [← l2,← l8,← l9,← l14,HH9.out])
      have HRO2 := Lib.hid (show RwOk ⟨L1,L5,L7,L13⟩ from by have h := HRO.out; rw [hrw] at h; exact h)
      have HD9 := Lib.hid (show b9 = false→d9 = ⟨#[]⟩ from fun h => by
        have h1 : ofNum L 9 = [] := by rw [← HH9.out] at h; unfold has at h; simpa using h
        have h2 := l9.trans (last_none h1)
        exact (congrArg WFd.data h2))
      have HO8 := Lib.hid (show d8.size≤1048576 from by have h := (lastF_ok HFO.out 8).2; rw [← l8] at h; exact h)
      have HO9 := Lib.hid (show d9.size≤1048576 from by have h := (lastF_ok HFO.out 9).2; rw [← l9] at h; exact h)
      have HNM := Lib.hid (fun W => rname_any d8 W (by have := HO8.out; unfold maxLen; omega))
      have HSZ := Lib.hid (fun W h => shRefSize_any r1 k1 L1 W (by have := HRO2.out.dl; unfold maxLen; dsimp only at this; omega) h HRO2.out.di)
      clear HRC HRK HRO HLF l2 l8 l9 l14 hrw hck9 HOA HO1 HO5 HO7 HO13
      obtain ⟨p0,p1,p2,p3⟩ := HIr13.out.2.2.2.2.four
      obtain ⟨m0,m1,m2,m3⟩ := HIr13.out.2.2.1.four
      obtain ⟨t0,t1,t2,t3⟩ := HIr13.out.2.1.four
      by_cases h14 : 1 < n14
      · have hi : (1 : Int) < (n14 : Int) := by omega
        have HE := Lib.hid (HC9.out 0 19 (chk_form (by omega) (by omega)) (by decide))
        obtain ⟨wE,hE,hxE⟩ := name_world (P := fun W => Bx w w.heap.size zc7 85 W) (HIr13.out.1.zero4 (Nat.le_refl _))
        have HXE := Lib.hid hxE
        obtain ⟨z0,z1,z2,z3⟩ := HIr13.out.1.four
        have f4 := fun i => HIr13.out.1.free i
        clear hxE
        go_wp2_with fail
        obtain ⟨e0,e1,e2,e3⟩ := HXE.out.four
        exact bodyPost_ret (v := .tuple #[t_tv ⟨#[]⟩ 0 (.slice none 0 0) ⟨#[]⟩,.int .i64 19]) (by simp [results,Tryz.results28,go_sem,e0,e1,e2,e3]) rfl (tenRes_no HE.out HXE.out.all)
      · have hi : ¬ (1 : Int) < (n14 : Int) := by omega
        have H01 := Lib.hid (show n14 = 0∨n14 = 1 by omega)
        clear h14
        cases hnm : nm d8
        · rw [hnm] at HNM
          have HE := Lib.hid (HC9.out 0 8 (chk_name H01.out hnm) (by decide))
          clear hnm
          go_wp2_with fail
          refine (HNM.out _).mono ?_
          rintro e wn ⟨rfl,rfl⟩
          obtain ⟨wE,hE,hxE⟩ := name_world (P := fun W => Bx w w.heap.size zc7 85 W) (HIr13.out.1.zero4 (Nat.le_refl _))
          have HXE := Lib.hid hxE
          obtain ⟨z0,z1,z2,z3⟩ := HIr13.out.1.four
          have f4 := fun i => HIr13.out.1.free i
          clear hxE
          go_wp2_with fail
          obtain ⟨e0,e1,e2,e3⟩ := HXE.out.four
          exact bodyPost_ret (v := .tuple #[t_tv ⟨#[]⟩ 0 (.slice none 0 0) ⟨#[]⟩,.int .i64 8]) (by simp [results,Tryz.results28,go_sem,e0,e1,e2,e3]) rfl (tenRes_no HE.out HXE.out.all)
        · rw [hnm] at HNM
          have HNMt := Lib.hid hnm
          clear hnm
          go_wp2_with fail
          refine (HNM.out _).mono ?_
          rintro e wn ⟨rfl,rfl⟩
          by_cases h100 : n2 < 100
          · have h100' : (n2 : Int) < 100 := by omega
            have HKS := Lib.hid (fun W => refSize_any (n2 : Int) W)
            obtain ⟨S,hS,hS8⟩ := size_nat (n2 : Int)
            have HS2 := Lib.hid (show kSize (kindN n2) = (S : Int) by rw [kSize_low]; exact hS)
            rw [hS] at HKS
            by_cases hS0 : S = 0
            · subst hS0
              have HE := Lib.hid (HC9.out 0 5 (chk_kind H01.out HNMt.out HS2.out) (by decide))
              clear hS h100
              go_wp2_with fail
              refine (HKS.out _).mono ?_
              rintro e wn ⟨rfl,rfl⟩
              obtain ⟨wE,hE,hxE⟩ := name_world (P := fun W => Bx w w.heap.size zc7 85 W) (HIr13.out.1.zero4 (Nat.le_refl _))
              have HXE := Lib.hid hxE
              obtain ⟨z0,z1,z2,z3⟩ := HIr13.out.1.four
              have f4 := fun i => HIr13.out.1.free i
              clear hxE
              go_wp2_with fail
              obtain ⟨e0,e1,e2,e3⟩ := HXE.out.four
              exact bodyPost_ret (v := .tuple #[t_tv ⟨#[]⟩ 0 (.slice none 0 0) ⟨#[]⟩,.int .i64 5]) (by simp [results,Tryz.results28,go_sem,e0,e1,e2,e3]) rfl (tenRes_no HE.out HXE.out.all)
            · have hS0' : ((S : Int) == 0) = false := by rw [beq_eq_false_iff_ne]; omega
              have HKN := Lib.hid (kindN_of (n := n2) (by rw [hS]; omega))
              obtain ⟨cn,hcn,hcn6⟩ := count_nat L1
              have HCK := Lib.hid (chk_size (l := L1) (k := kindN n2) H01.out HNMt.out (by rw [HS2.out]; omega))
              rw [HS2.out,hcn] at HCK
              have HZZ := Lib.hid (HSZ.out _ (SR.of_own HW1.out))
              rw [hcn] at HZZ
              have hpp := small_prod hcn6 hS8
              have HPM := Lib.hid (Int.mul_comm (S : Int) (cn : Int))
              clear HSZ hS h100
              generalize hsc : (M5.sz L1).2 = SC at HZZ HCK
              go_wp2_with fail
              refine (HKS.out _).mono ?_
              rintro e wn ⟨rfl,rfl⟩
              go_wp2_with fail
              refine HZZ.out.mono ?_
              rintro e wn ⟨rfl,rfl⟩
              clear HKS HZZ HNM hsc hcn
              by_cases hSC : SC≠0
              · have hcb : ((SC : Int) != 0) = true := by simpa using hSC
                have HE := Lib.hid (HC9.out _ _ HCK.out (by simpa using hSC))
                clear hSC
                obtain ⟨wE,hE,hxE⟩ := name_world (P := fun W => Bx w w.heap.size zc7 85 W) (HIr13.out.1.zero4 (Nat.le_refl _))
                have HXE := Lib.hid hxE
                obtain ⟨z0,z1,z2,z3⟩ := HIr13.out.1.four
                have f4 := fun i => HIr13.out.1.free i
                clear hxE
                go_wp2_with fail
                obtain ⟨e0,e1,e2,e3⟩ := HXE.out.four
                exact bodyPost_ret (v := .tuple #[t_tv ⟨#[]⟩ 0 (.slice none 0 0) ⟨#[]⟩,.int .i64 (SC : Int)]) (by simp [results,Tryz.results28,go_sem,e0,e1,e2,e3]) rfl (tenRes_no HE.out HXE.out.all)
              · obtain rfl : SC = 0 := by omega
                have HK10 := Lib.hid (HK9.out _ HCK.out)
                rw [HKN.out] at HK10
                clear hSC HK9 HC9 HCK
                obtain ⟨s0,s1,s2,s3⟩ := HIr13.out.2.2.2.1.four
                have hal := (Below.refl wr13.heap.size wr13).alloc (Nat.le_refl _) (.cells #[.string d8,.int .i64 (n2 : Int),.slice r1 L1.length k1,.string d9] 85)
                have hri := HIr13.out.below hal
                have hgg := HIr13.out.1.next #[.string d8,.int .i64 (n2 : Int),.slice r1 L1.length k1,.string d9] 85
                have HRT := Lib.hid (And.intro hri (And.intro hgg (And.intro (own_keep HW1.out hal) hal)))
                have hlt13 := HIr13.out.1.2.1
                have HLT := Lib.hid hlt13
                have HAS := Lib.hid (show n14 = 0∨n14 = 1 from H01.out)
                clear hal hri hgg hlt13 p0 p1 p2 p3 m0 m1 m2 m3 t0 t1 t2 t3
                obtain ⟨p0,p1,p2,p3⟩ := HIr13.out.2.2.2.2.four
                obtain ⟨P0,P1,P2,P3⟩ := HRT.out.1.2.2.2.2.four
                obtain ⟨m0,m1,m2,m3⟩ := HIr13.out.2.2.1.four
                obtain ⟨t0,t1,t2,t3⟩ := HIr13.out.2.1.four
                clear p0 p1 p3 P0 P1 P3 m0 m1 m2 t0 t1 t3 s0 s1 s2
                dsimp only at p2 P2 m3 t2 s3
                rcases H01.out with rfl | rfl
                · have HEL := Lib.hid (HK10.out.trans (congrArg (fin _) (elems_here (by show (0 : Nat) ≠ 1; omega))))
                  dsimp only at HEL
                  clear HK10 HFI HAS H01
                  cases b9
                  · have hd9 := HD9.out rfl
                    subst hd9
                    have hl5 := HRO2.out.sl
                    have hl7 := HRO2.out.il
                    try dsimp only at hl5 hl7
                    by_cases h5 : (0 < L5.length∧(n2 : Int)≠2∧(n2 : Int)≠9)∨(0 < L7.length∧(n2 : Int)≠7)
                    · have HE := Lib.hid (HEL.out.trans ((congrArg (fin _) (here_5 h5)).trans (fin_err (by decide))))
                      have hcases : ((0 : Int) < (L5.length : Int)∧((n2 : Int) != 2) = true∧((n2 : Int) != 9) = true)∨(¬ (0 : Int) < (L5.length : Int)∧(0 : Int) < (L7.length : Int)∧((n2 : Int) != 7) = true)∨((0 : Int) < (L5.length : Int)∧(n2 = 2∨n2 = 9)∧(0 : Int) < (L7.length : Int)) := by
                        by_cases g5 : 0 < L5.length
                        · by_cases g : (n2 : Int)≠2∧(n2 : Int)≠9
                          · exact .inl ⟨by omega,by simpa using g.1,by simpa using g.2⟩
                          · rcases h5 with h | h
                            · exact absurd h.2 g
                            · exact .inr (.inr ⟨by omega,by omega,by omega⟩)
                        · rcases h5 with h | h
                          · exact absurd h.1 g5
                          · exact .inr (.inl ⟨by omega,by omega,by simpa using h.2⟩)
                      clear h5
                      rcases hcases with ⟨g1,g2,g3⟩ | ⟨g1,g2,g3⟩ | ⟨g1,g2 | g2,g3⟩
                      · skip
                        obtain ⟨wE,hE,hxE⟩ := name_world (P := fun W => Bx w w.heap.size zc7 85 W) (HRT.out.1.1.zero4 (Nat.le_refl _))
                        have HXE := Lib.hid hxE
                        obtain ⟨z0,z1,z2,z3⟩ := HRT.out.1.1.four
                        have f4 := fun i => HRT.out.1.1.free i
                        clear hxE
                        go_wp2_with fail
                        obtain ⟨e0,e1,e2,e3⟩ := HXE.out.four
                        exact bodyPost_ret (v := .tuple #[t_tv ⟨#[]⟩ 0 (.slice none 0 0) ⟨#[]⟩,.int .i64 5]) (by simp [results,Tryz.results28,go_sem,e0,e1,e2,e3]) rfl (tenRes_no HE.out HXE.out.all)
                      · skip
                        obtain ⟨wE,hE,hxE⟩ := name_world (P := fun W => Bx w w.heap.size zc7 85 W) (HRT.out.1.1.zero4 (Nat.le_refl _))
                        have HXE := Lib.hid hxE
                        obtain ⟨z0,z1,z2,z3⟩ := HRT.out.1.1.four
                        have f4 := fun i => HRT.out.1.1.free i
                        clear hxE
                        go_wp2_with fail
                        obtain ⟨e0,e1,e2,e3⟩ := HXE.out.four
                        exact bodyPost_ret (v := .tuple #[t_tv ⟨#[]⟩ 0 (.slice none 0 0) ⟨#[]⟩,.int .i64 5]) (by simp [results,Tryz.results28,go_sem,e0,e1,e2,e3]) rfl (tenRes_no HE.out HXE.out.all)
                      · have e1 : ((n2 : Int) != 2) = false := by subst g2; rfl
                        have e2 : ((n2 : Int) != 7) = true := by subst g2; rfl
                        clear g2
                        obtain ⟨wE,hE,hxE⟩ := name_world (P := fun W => Bx w w.heap.size zc7 85 W) (HRT.out.1.1.zero4 (Nat.le_refl _))
                        have HXE := Lib.hid hxE
                        obtain ⟨z0,z1,z2,z3⟩ := HRT.out.1.1.four
                        have f4 := fun i => HRT.out.1.1.free i
                        clear hxE
                        go_wp2_with fail
                        obtain ⟨e0,e1,e2,e3⟩ := HXE.out.four
                        exact bodyPost_ret (v := .tuple #[t_tv ⟨#[]⟩ 0 (.slice none 0 0) ⟨#[]⟩,.int .i64 5]) (by simp [results,Tryz.results28,go_sem,e0,e1,e2,e3]) rfl (tenRes_no HE.out HXE.out.all)
                      · have e0 : ((n2 : Int) != 2) = true := by subst g2; rfl
                        have e1 : ((n2 : Int) != 9) = false := by subst g2; rfl
                        have e2 : ((n2 : Int) != 7) = true := by subst g2; rfl
                        clear g2
                        obtain ⟨wE,hE,hxE⟩ := name_world (P := fun W => Bx w w.heap.size zc7 85 W) (HRT.out.1.1.zero4 (Nat.le_refl _))
                        have HXE := Lib.hid hxE
                        obtain ⟨z0,z1,z2,z3⟩ := HRT.out.1.1.four
                        have f4 := fun i => HRT.out.1.1.free i
                        clear hxE
                        go_wp2_with fail
                        obtain ⟨e0,e1,e2,e3⟩ := HXE.out.four
                        exact bodyPost_ret (v := .tuple #[t_tv ⟨#[]⟩ 0 (.slice none 0 0) ⟨#[]⟩,.int .i64 5]) (by simp [results,Tryz.results28,go_sem,e0,e1,e2,e3]) rfl (tenRes_no HE.out HXE.out.all)
                    · have hp1 : ¬ (0 < L5.length ∧ (n2 : Int) ≠ 2 ∧ (n2 : Int) ≠ 9) := fun h => h5 (.inl h)
                      have hp2 : ¬ (0 < L7.length∧(n2 : Int)≠7) := fun h => h5 (.inr h)
                      have HP1 := Lib.hid hp1
                      have HER := Lib.hid (HEL.out.trans (congrArg (fin _) (here_all (d := ⟨#[]⟩) hp1 hp2)))
                      have hcases : (¬ (0 : Int) < (L5.length : Int)∧¬ (0 : Int) < (L7.length : Int))∨(¬ (0 : Int) < (L5.length : Int)∧(0 : Int) < (L7.length : Int)∧n2 = 7)∨((0 : Int) < (L5.length : Int)∧(n2 = 2∨n2 = 9)∧¬ (0 : Int) < (L7.length : Int)) := by omega
                      have HPK := Lib.hid (show 0 < L5.length→(n2 : Int) = 2∨(n2 : Int) = 9 from fun h => by
                        by_cases g : (n2 : Int) = 2
                        · exact .inl g
                        · exact .inr (Decidable.of_not_not fun g9 => hp1 ⟨h,g,g9⟩))
                      have hbool : (((n2 : Int) != 2) = false∨¬ (0 : Int) < (L5.length : Int)∨(((n2 : Int) != 2) = true∧((n2 : Int) != 9) = false)) := by
                        by_cases g5 : 0 < L5.length
                        · rcases HPK.out g5 with g | g
                          · exact .inl (by rw [g]; rfl)
                          · exact .inr (.inr (by rw [g]; exact ⟨rfl,rfl⟩))
                        · exact .inr (.inl (by omega))
                      have hbool7 : (¬ (0 : Int) < (L7.length : Int)∨((0 : Int) < (L7.length : Int)∧((n2 : Int) != 7) = false)) := by
                        by_cases g7 : 0 < L7.length
                        · refine .inr ⟨by omega,?_⟩
                          have g : (n2 : Int) = 7 := Decidable.of_not_not fun g => hp2 ⟨g7,g⟩
                          rw [g]; rfl
                        · exact .inl (by omega)
                      clear h5 hp1 hp2 HEL hcases
                      go_upto_region 40 with fail
                      go_cut [200] from 178 to 199 (fun s200 wx => s200 = .bool false∧wx = wr13.alloc (.cells #[.string d8,.int .i64 (n2 : Int),.slice r1 L1.length k1,.string ⟨#[]⟩] 85))
                      case first =>
                        by_cases g5 : (0 : Int) < (L5.length : Int)
                        · rcases hbool with e1 | e1 | ⟨e1,e2⟩
                          · rcases hbool7 with e3 | ⟨e3,e4⟩
                            all_goals
                              go_wp2_with fail
                              go_meet
                              exact ⟨rfl,rfl⟩
                          · exact absurd g5 (by omega)
                          · rcases hbool7 with e3 | ⟨e3,e4⟩
                            all_goals
                              go_wp2_with fail
                              go_meet
                              exact ⟨rfl,rfl⟩
                        · rcases hbool7 with e3 | ⟨e3,e4⟩
                          all_goals
                            go_wp2_with fail
                            go_meet
                            exact ⟨rfl,rfl⟩
                      case rest =>
                        obtain ⟨rfl,rfl⟩ := hcut
                        have HR0 := Lib.hid (And.intro HRT.out.2.1 HRT.out.2.2.2)
                        have HS5 := Lib.hid (SR.of_own HW5.out)
                        have HS7 := Lib.hid (SR.of_own HW7.out)
                        have HZ := Lib.hid (HIr13.out.1)
                        have HO1 := Lib.hid (HW1.out)
                        clear HRT HW1 HW5 HW7 HW13 HIr13 HNr13 HNr1 HNr5 HNr7 hbool hbool7 HN4 p2 P2 m3 t2 s3 HS1
                        generalize hg26 : wr13.heap.size = g26 at *
                        have HG := Lib.hid hg26
                        clear hg26
                        go_wp2_with fail
                        go_loopw [27] (fun i wr => ∃ (j : Nat) (J : Int),i = .int .i64 J∧J = (j : Nat)∧j≤L5.length∧(L5.take j).all (okS (great n2)) = true∧Bx w g26 #[.string d8,.int .i64 (n2 : Int),.slice r1 L1.length k1,.string ⟨(sb (L5.take j)).toArray⟩] 85 wr∧Below g26 wr13 wr) (fun i _ => L5.length - (intOf i).toNat)
                        case atStart => exact ⟨0,_,rfl,rfl,by omega,rfl,HR0.out.1,HR0.out.2⟩
                        case round =>
                          obtain ⟨j,J,rfl,rfl,hj,hall,hbx,hbl⟩ := hrel
                          have HB := Lib.hid hbx
                          have HBL := Lib.hid hbl
                          have HAL := Lib.hid hall
                          clear hbx hbl hall HR0
                          by_cases hlt : j < L5.length
                          · have hpk := HPK.out (by omega)
                            obtain ⟨rb,ro,rfl,hrb,hx⟩ := int_at (HS5.out.below HBL.out) hlt
                            have HOK2 := Lib.hid (okS_ref (n := L5[j]) hpk)
                            have HNX := Lib.hid (all_take_next (m := great n2) hlt HAL.out)
                            have HBD := Lib.hid (fun (h : okS (great n2) L5[j] = false) => show R = (z9,17) from by
                              rw [HER.out,if_neg]
                              · exact fin_err (by decide)
                              · intro h2
                                rw [List.all_eq_true] at h2
                                have := h2 L5[j] (List.getElem_mem hlt)
                                rw [h] at this; cases this)
                            have HSN := Lib.hid (show sb (L5.take (j + 1)) = sb (L5.take j) ++ [UInt8.ofNat L5[j].toNat] from by rw [List.take_succ_eq_append_getElem hlt]; unfold sb; rw [List.map_append]; rfl)
                            have hp9 : ((n2 : Int) == 9) = true∨((n2 : Int) == 9) = false := by cases ((n2 : Int) == 9) <;> simp
                            have HGW := Lib.hid (show w.heap.size < g26 from by rw [← HG.out]; exact HZ.out.2.1)
                            have HZW := Lib.hid (HZ.out.low HBL.out HGW.out (Nat.le_of_lt HGW.out))
                            clear hpk hrb
                            obtain ⟨c0,c1',c2,c3⟩ := HB.out.four
                            generalize L5[j] = x at *
                            by_cases x0 : x < 0
                            · have HE := Lib.hid (HBD.out (by rw [HOK2.out]; simp [x0]))
                              obtain ⟨wE,hE,hxE⟩ := name_world (P := fun W => Bx w w.heap.size zc7 85 W) (HZW.out.zero4 (Nat.le_refl _))
                              have HXE := Lib.hid hxE
                              obtain ⟨z0,z1,z2,z3⟩ := HZW.out.four
                              have f4 := fun i => HZW.out.free i
                              clear hxE
                              go_wp2_with fail
                              obtain ⟨e0,e1,e2,e3⟩ := HXE.out.four
                              exact bodyPost_ret (v := .tuple #[t_tv ⟨#[]⟩ 0 (.slice none 0 0) ⟨#[]⟩,.int .i64 17]) (by simp [results,Tryz.results28,go_sem,e0,e1,e2,e3]) rfl (tenRes_no HE.out HXE.out.all)
                            · by_cases x255 : 255 < x
                              · have HE := Lib.hid (HBD.out (by rw [HOK2.out]; simp [x255]))
                                obtain ⟨wE,hE,hxE⟩ := name_world (P := fun W => Bx w w.heap.size zc7 85 W) (HZW.out.zero4 (Nat.le_refl _))
                                have HXE := Lib.hid hxE
                                obtain ⟨z0,z1,z2,z3⟩ := HZW.out.four
                                have f4 := fun i => HZW.out.free i
                                clear hxE
                                go_wp2_with fail
                                obtain ⟨e0,e1,e2,e3⟩ := HXE.out.four
                                exact bodyPost_ret (v := .tuple #[t_tv ⟨#[]⟩ 0 (.slice none 0 0) ⟨#[]⟩,.int .i64 17]) (by simp [results,Tryz.results28,go_sem,e0,e1,e2,e3]) rfl (tenRes_no HE.out HXE.out.all)
                              · by_cases x1 : 1 < x
                                · rcases hp9 with h9 | h9
                                  · have HQ9 := Lib.hid (show (n2 : Int) = 9 from by simpa using h9)
                                    have HE := Lib.hid (HBD.out (by rw [HOK2.out]; have h := HQ9.out; simp [x1,h]))
                                    obtain ⟨wE,hE,hxE⟩ := name_world (P := fun W => Bx w w.heap.size zc7 85 W) (HZW.out.zero4 (Nat.le_refl _))
                                    have HXE := Lib.hid hxE
                                    obtain ⟨z0,z1,z2,z3⟩ := HZW.out.four
                                    have f4 := fun i => HZW.out.free i
                                    clear hxE
                                    go_wp2_with fail
                                    obtain ⟨e0,e1,e2,e3⟩ := HXE.out.four
                                    exact bodyPost_ret (v := .tuple #[t_tv ⟨#[]⟩ 0 (.slice none 0 0) ⟨#[]⟩,.int .i64 17]) (by simp [results,Tryz.results28,go_sem,e0,e1,e2,e3]) rfl (tenRes_no HE.out HXE.out.all)
                                  · have HQ9 := Lib.hid (show ¬ (n2 : Int) = 9 from by simpa using h9)
                                    have HN := Lib.hid (HNX.out (by rw [HOK2.out]; have h := HQ9.out; simp [x0,x255,h]))
                                    have hxn : IntKind.u8.wrap x = x := by simp [IntKind.wrap,IntKind.signed,IntKind.bits]; omega
                                    have hs := run_bytes_cells (P := Tryz.prog) ((wr.alloc (Obj.cells #[.int .u8 x] 5)).drew) 113 9 5 Tryz.underlying113 Tryz.underlying5 Tryz.underlying9 (g := wr.heap.size) (cap := 1) (l := [UInt8.ofNat x.toNat]) (by
                                      have e : bv [UInt8.ofNat x.toNat] = [.int .u8 x] := by simp [bv]; omega
                                      rw [e]
                                      exact cells_new wr [.int .u8 x] 5)
                                    rw [show [UInt8.ofNat x.toNat].length = 1 from rfl] at hs
                                    have hcat : (⟨(sb (L5.take j)).toArray⟩ : ByteArray) ++ ⟨[UInt8.ofNat x.toNat].toArray⟩ = ⟨(sb (L5.take (j + 1))).toArray⟩ := by
                                      rw [HSN.out]
                                      exact ByteArray.ext (by simp)
                                    have HC := Lib.hid hcat
                                    have hl1 : (⟨(sb (L5.take j)).toArray⟩ : ByteArray).size = j := by
                                      show (sb (L5.take j)).toArray.size = j
                                      rw [List.size_toArray,sb_len,List.length_take]; omega
                                    have hl2 : (⟨[UInt8.ofNat x.toNat].toArray⟩ : ByteArray).size = 1 := rfl
                                    generalize (⟨(sb (L5.take j)).toArray⟩ : ByteArray) = S0 at *
                                    generalize (⟨[UInt8.ofNat x.toNat].toArray⟩ : ByteArray) = T0 at *
                                    have hbm := HB.out.more (.cells #[.int .u8 x] 5)
                                    have k3 := hbm.cell 3
                                    have kf := fun i => hbm.free i
                                    change _ = some _ at k3
                                    have hfin := (hbm.set (Nat.le_of_lt HGW.out) 3 (.string (S0 ++ T0))).drew
                                    have hfb := below_drewN (((HBL.out.alloc (by rw [← HG.out]; exact HBL.out.size) (.cells #[.int .u8 x] 5))).setCell (p := ⟨g26,3,none⟩) (Nat.le_refl _) (.string (S0 ++ T0))) 1
                                    have HFN := Lib.hid (And.intro hfin hfb)
                                    clear hcat hbm hfin hfb HBD HNX HSN HOK2
                                    go_upto_region 47 with fail
                                    go_region
                                    go_wp2_with fail
                                    go_roundw
                                    case rel => exact ⟨j + 1,_,rfl,by omega,by omega,HN.out,by rw [← HC.out]; exact HFN.out.1,HFN.out.2⟩
                                    case measure => simp [intOf]; omega
                                · have HN := Lib.hid (HNX.out (by rw [HOK2.out]; simp [x0,x255,x1]))
                                  have hxn : IntKind.u8.wrap x = x := by simp [IntKind.wrap,IntKind.signed,IntKind.bits]; omega
                                  have hs := run_bytes_cells (P := Tryz.prog) ((wr.alloc (Obj.cells #[.int .u8 x] 5)).drew) 113 9 5 Tryz.underlying113 Tryz.underlying5 Tryz.underlying9 (g := wr.heap.size) (cap := 1) (l := [UInt8.ofNat x.toNat]) (by
                                    have e : bv [UInt8.ofNat x.toNat] = [.int .u8 x] := by simp [bv]; omega
                                    rw [e]
                                    exact cells_new wr [.int .u8 x] 5)
                                  rw [show [UInt8.ofNat x.toNat].length = 1 from rfl] at hs
                                  have hcat : (⟨(sb (L5.take j)).toArray⟩ : ByteArray) ++ ⟨[UInt8.ofNat x.toNat].toArray⟩ = ⟨(sb (L5.take (j + 1))).toArray⟩ := by
                                    rw [HSN.out]
                                    exact ByteArray.ext (by simp)
                                  have HC := Lib.hid hcat
                                  have hl1 : (⟨(sb (L5.take j)).toArray⟩ : ByteArray).size = j := by
                                    show (sb (L5.take j)).toArray.size = j
                                    rw [List.size_toArray,sb_len,List.length_take]; omega
                                  have hl2 : (⟨[UInt8.ofNat x.toNat].toArray⟩ : ByteArray).size = 1 := rfl
                                  generalize (⟨(sb (L5.take j)).toArray⟩ : ByteArray) = S0 at *
                                  generalize (⟨[UInt8.ofNat x.toNat].toArray⟩ : ByteArray) = T0 at *
                                  have hbm := HB.out.more (.cells #[.int .u8 x] 5)
                                  have k3 := hbm.cell 3
                                  have kf := fun i => hbm.free i
                                  change _ = some _ at k3
                                  have hfin := (hbm.set (Nat.le_of_lt HGW.out) 3 (.string (S0 ++ T0))).drew
                                  have hfb := below_drewN (((HBL.out.alloc (by rw [← HG.out]; exact HBL.out.size) (.cells #[.int .u8 x] 5))).setCell (p := ⟨g26,3,none⟩) (Nat.le_refl _) (.string (S0 ++ T0))) 1
                                  have HFN := Lib.hid (And.intro hfin hfb)
                                  clear hcat hbm hfin hfb HBD HNX HSN HOK2
                                  go_upto_region 47 with fail
                                  go_region
                                  go_wp2_with fail
                                  go_roundw
                                  case rel => exact ⟨j + 1,_,rfl,by omega,by omega,HN.out,by rw [← HC.out]; exact HFN.out.1,HFN.out.2⟩
                                  case measure => simp [intOf]; omega
                          · obtain rfl : j = L5.length := by omega
                            have hbx := HB.out
                            have hall := HAL.out
                            rw [List.take_length] at hbx hall
                            have HQ := Lib.hid (show R = fin ⟨d8,(n2 : Int),L1,⟨#[]⟩⟩ (⟨(sb L5 ++ flat (fun n => l8 (M7.us n)) 8 L7).toArray⟩,0) from by rw [HER.out,if_pos hall])
                            have hb0 : Bx w g26 #[.string d8,.int .i64 (n2 : Int),.slice r1 L1.length k1,.string ⟨(sb L5 ++ flat (fun n => l8 (M7.us n)) 8 (L7.take 0)).toArray⟩] 85 wr := by
                              rw [List.take_zero,show flat (fun n => l8 (M7.us n)) 8 [] = [] from rfl,List.append_nil]; exact hbx
                            have HBS := Lib.hid hb0
                            clear HER HPK HB HAL hbx hall hb0
                            go_wp2_with fail
                            go_loopw [28] (fun i wq => ∃ (j : Nat) (J : Int),i = .int .i64 J∧J = (j : Nat)∧j≤L7.length∧Bx w g26 #[.string d8,.int .i64 (n2 : Int),.slice r1 L1.length k1,.string ⟨(sb L5 ++ flat (fun n => l8 (M7.us n)) 8 (L7.take j)).toArray⟩] 85 wq∧Below g26 wr13 wq) (fun i _ => L7.length - (intOf i).toNat)
                            case atStart => exact ⟨0,_,rfl,rfl,by omega,HBS.out,HBL.out⟩
                            case round =>
                              obtain ⟨j,J,rfl,rfl,hj,hbx,hbl⟩ := hrel
                              clear HBL HBS
                              have HB := Lib.hid hbx
                              have HBL := Lib.hid hbl
                              have HGW := Lib.hid (show w.heap.size < g26 from by rw [← HG.out]; exact HZ.out.2.1)
                              clear hbx hbl
                              by_cases hlt : j < L7.length
                              · obtain ⟨rb,ro,rfl,hrb,hx⟩ := int_at (HS7.out.below HBL.out) hlt
                                obtain ⟨c0,c1',c2,c3⟩ := HB.out.four
                                have HSN := Lib.hid (flat_snoc (fun n => l8 (M7.us n)) 8 hlt)
                                have hlen := flat_len (fun n => l8 (M7.us n)) 8 (xs := L7.take j) (fun _ _ => rfl) (by omega)
                                have HLD := Lib.hid (fun W => laid8_any L7[j] W)
                                have hl1 : (⟨(sb L5 ++ flat (fun n => l8 (M7.us n)) 8 (L7.take j)).toArray⟩ : ByteArray).size≤1048576 := by
                                  show (sb L5 ++ flat (fun n => l8 (M7.us n)) 8 (L7.take j)).toArray.size≤_
                                  rw [List.size_toArray,List.length_append,sb_len,hlen,List.length_take]
                                  omega
                                have hl2 : (⟨(l8 (M7.us L7[j])).toArray⟩ : ByteArray).size = 8 := rfl
                                have HC := Lib.hid (show (⟨(sb L5 ++ flat (fun n => l8 (M7.us n)) 8 (L7.take j)).toArray⟩ : ByteArray) ++ ⟨(l8 (M7.us L7[j])).toArray⟩ = ⟨(sb L5 ++ flat (fun n => l8 (M7.us n)) 8 (L7.take (j + 1))).toArray⟩ from by
                                  rw [HSN.out,show (l8 (M7.us L7[j])).take 8 = l8 (M7.us L7[j]) from rfl]
                                  exact ByteArray.ext (by simp))
                                clear hlen HSN hrb
                                generalize (⟨(sb L5 ++ flat (fun n => l8 (M7.us n)) 8 (L7.take j)).toArray⟩ : ByteArray) = S0 at *
                                generalize (⟨(l8 (M7.us L7[j])).toArray⟩ : ByteArray) = T0 at *
                                generalize L7[j] = x at *
                                go_upto_region 51 with fail
                                go_region_with (go_at_call 85; refine (HLD.out _).mono ?_; rintro e w9 ⟨rfl,hb9⟩; have hbx9 := HB.out.drew.below hb9; have k3 := hbx9.cell 3; have kf := fun i => hbx9.free i; change _ = some _ at k3)
                                all_goals
                                  have hfin := hbx9.set (Nat.le_of_lt HGW.out) 3 (.string (S0 ++ T0))
                                  have hfb := ((below_drewN HBL.out 1).trans (hb9.mono (by rw [← HG.out]; exact HBL.out.size))).setCell (p := ⟨g26,3,none⟩) (Nat.le_refl _) (.string (S0 ++ T0))
                                  have HFN := Lib.hid (And.intro hfin hfb)
                                  clear hfin hfb k3 kf hbx9 hb9
                                  go_wp2_with fail
                                  go_roundw
                                  case rel => exact ⟨j + 1,_,rfl,by omega,by omega,by rw [← HC.out]; exact HFN.out.1,HFN.out.2⟩
                                  case measure => simp [intOf]; omega
                              · obtain rfl : j = L7.length := by omega
                                have hbx := HB.out
                                rw [List.take_length] at hbx
                                have HBX := Lib.hid hbx
                                have hlen := flat_len (fun n => l8 (M7.us n)) 8 (xs := L7) (fun _ _ => rfl) (by omega)
                                have HDZ := Lib.hid (show (⟨(sb L5 ++ flat (fun n => l8 (M7.us n)) 8 L7).toArray⟩ : ByteArray).size≤1048576 from by
                                  show (sb L5 ++ flat (fun n => l8 (M7.us n)) 8 L7).toArray.size≤_
                                  rw [List.size_toArray,List.length_append,sb_len,hlen]
                                  omega)
                                clear hbx hlen HB
                                generalize (⟨(sb L5 ++ flat (fun n => l8 (M7.us n)) 8 L7).toArray⟩ : ByteArray) = DD at *
                                have HFC := Lib.hid (fun h => HQ.out.trans (fin_ck (t := ⟨d8,(n2 : Int),L1,⟨#[]⟩⟩) (r := (DD,0)) rfl h))
                                have HFO := Lib.hid (fun h => HQ.out.trans (fin_ok (t := ⟨d8,(n2 : Int),L1,⟨#[]⟩⟩) (r := (DD,0)) rfl h))
                                try dsimp only at HFC HFO
                                have HTT := Lib.hid (And.intro (HZ.out.low HBL.out HGW.out (Nat.le_of_lt HGW.out)) (And.intro (HBX.out) (own_keep HO1.out (by rw [HG.out]; exact HBL.out))))
                                have HTC := Lib.hid (rcheck_any ⟨d8,(n2 : Int),L1,DD⟩ r1 k1 _ ⟨by have := HO8.out; dsimp only; omega,by have := HDZ.out; dsimp only at this ⊢; omega,WalkArith.wf_i64 (by dsimp only; omega),SR.of_own HTT.out.2.2,by have := HRO2.out.dl; unfold maxLen; dsimp only at this ⊢; omega,HRO2.out.di⟩)
                                try dsimp only at HTC
                                generalize ck ⟨d8,(n2 : Int),L1,DD⟩ = CK at *
                                obtain ⟨a0,a1',a2,a3⟩ := HTT.out.2.1.four
                                go_wp2_with fail
                                refine HTC.out.mono ?_
                                rintro e w6 ⟨rfl,hb6⟩
                                have HT6 := Lib.hid (And.intro (HTT.out.1.below hb6) (And.intro (HTT.out.2.1.below hb6) (own_keep HTT.out.2.2 hb6)))
                                clear hb6 HTC a0 a1' a2 a3 HTT
                                by_cases hck : CK≠0
                                · have hcb2 : (CK != 0) = true := by simpa using hck
                                  have HE := Lib.hid (HFC.out hck)
                                  clear hck
                                  obtain ⟨wE,hE,hxE⟩ := name_world (P := fun W => Bx w w.heap.size zc7 85 W) (HT6.out.1.zero4 (Nat.le_refl _))
                                  have HXE := Lib.hid hxE
                                  obtain ⟨z0,z1,z2,z3⟩ := HT6.out.1.four
                                  have f4 := fun i => HT6.out.1.free i
                                  clear hxE
                                  go_wp2_with fail
                                  obtain ⟨e0,e1,e2,e3⟩ := HXE.out.four
                                  exact bodyPost_ret (v := .tuple #[t_tv ⟨#[]⟩ 0 (.slice none 0 0) ⟨#[]⟩,.int .i64 CK]) (by simp [results,Tryz.results28,go_sem,e0,e1,e2,e3]) rfl (tenRes_no HE.out HXE.out.all)
                                · obtain rfl : CK = 0 := by omega
                                  have HE := Lib.hid (HFO.out rfl)
                                  obtain ⟨a0,a1',a2,a3⟩ := HT6.out.2.1.four
                                  obtain ⟨q0,q1,q2,q3⟩ := HT6.out.1.four
                                  have f4 := fun i => HT6.out.1.free i
                                  obtain ⟨wE,hE,hxE⟩ := name_world (P := fun W => Bx w w.heap.size #[.string d8,.int .i64 (n2 : Int),.slice r1 L1.length k1,.string DD] 85 W∧W.ownsRow w.heap.size 2 1 (.slice r1 L1.length k1) L1.length (iv L1))
                                    ⟨HT6.out.1.four_put (Nat.le_refl _) (.string d8) (.int .i64 (n2 : Int)) (.slice r1 L1.length k1) (.string DD),own_set (own_set (own_set (own_set HT6.out.2.2 (own_far HT6.out.2.2 HT6.out.1.1 (by decide)) 0 (.string d8)) (own_far HT6.out.2.2 HT6.out.1.1 (by decide)) 1 (.int .i64 (n2 : Int))) (own_far HT6.out.2.2 HT6.out.1.1 (by decide)) 2 (.slice r1 L1.length k1)) (own_far HT6.out.2.2 HT6.out.1.1 (by decide)) 3 (.string DD)⟩
                                  have HXE := Lib.hid hxE
                                  clear hck hxE
                                  go_wp2_with fail
                                  obtain ⟨e0,e1,e2,e3⟩ := HXE.out.1.four
                                  exact bodyPost_ret (v := .tuple #[t_tv d8 (n2 : Int) (.slice r1 L1.length k1) DD,.int .i64 0]) (by simp [results,Tryz.results28,go_sem,e0,e1,e2,e3]) rfl (tenRes_yes (t := ⟨d8,(n2 : Int),L1,DD⟩) HE.out HXE.out.2 HXE.out.1.all)
                  · cases hN : hasN L5 L7
                    · have HQ := Lib.hid (HEL.out.trans (congrArg (fin _) (here_raw hN)))
                      have hN0 : decide ((0 : Int) < (L5.length : Int) + (L7.length : Int)) = false := by rw [hasN_len] at hN; simp only [Bool.or_eq_false_iff,decide_eq_false_iff_not] at hN; exact decide_eq_false (by omega)
                      have HDZ := Lib.hid (show d9.size≤1048576 from HO9.out)
                      clear hN HEL
                      have hl5 := HRO2.out.sl
                      have hl7 := HRO2.out.il
                      try dsimp only at hl5 hl7
                      have HFC := Lib.hid (fun h => HQ.out.trans (fin_ck (t := ⟨d8,(n2 : Int),L1,⟨#[]⟩⟩) (r := (d9,0)) rfl h))
                      have HFO := Lib.hid (fun h => HQ.out.trans (fin_ok (t := ⟨d8,(n2 : Int),L1,⟨#[]⟩⟩) (r := (d9,0)) rfl h))
                      try dsimp only at HFC HFO
                      have HTT := Lib.hid (And.intro (HRT.out.1.1) (And.intro (HRT.out.2.1) (HRT.out.2.2.1)))
                      have HTC := Lib.hid (rcheck_any ⟨d8,(n2 : Int),L1,d9⟩ r1 k1 _ ⟨by have := HO8.out; dsimp only; omega,by have := HDZ.out; dsimp only at this ⊢; omega,WalkArith.wf_i64 (by dsimp only; omega),SR.of_own HTT.out.2.2,by have := HRO2.out.dl; unfold maxLen; dsimp only at this ⊢; omega,HRO2.out.di⟩)
                      try dsimp only at HTC
                      generalize ck ⟨d8,(n2 : Int),L1,d9⟩ = CK at *
                      obtain ⟨a0,a1',a2,a3⟩ := HTT.out.2.1.four
                      go_wp2_with fail
                      refine HTC.out.mono ?_
                      rintro e w6 ⟨rfl,hb6⟩
                      have HT6 := Lib.hid (And.intro (HTT.out.1.below hb6) (And.intro (HTT.out.2.1.below hb6) (own_keep HTT.out.2.2 hb6)))
                      clear hb6 HTC a0 a1' a2 a3 HTT
                      by_cases hck : CK≠0
                      · have hcb2 : (CK != 0) = true := by simpa using hck
                        have HE := Lib.hid (HFC.out hck)
                        clear hck
                        obtain ⟨wE,hE,hxE⟩ := name_world (P := fun W => Bx w w.heap.size zc7 85 W) (HT6.out.1.zero4 (Nat.le_refl _))
                        have HXE := Lib.hid hxE
                        obtain ⟨z0,z1,z2,z3⟩ := HT6.out.1.four
                        have f4 := fun i => HT6.out.1.free i
                        clear hxE
                        go_wp2_with fail
                        obtain ⟨e0,e1,e2,e3⟩ := HXE.out.four
                        exact bodyPost_ret (v := .tuple #[t_tv ⟨#[]⟩ 0 (.slice none 0 0) ⟨#[]⟩,.int .i64 CK]) (by simp [results,Tryz.results28,go_sem,e0,e1,e2,e3]) rfl (tenRes_no HE.out HXE.out.all)
                      · obtain rfl : CK = 0 := by omega
                        have HE := Lib.hid (HFO.out rfl)
                        obtain ⟨a0,a1',a2,a3⟩ := HT6.out.2.1.four
                        obtain ⟨q0,q1,q2,q3⟩ := HT6.out.1.four
                        have f4 := fun i => HT6.out.1.free i
                        obtain ⟨wE,hE,hxE⟩ := name_world (P := fun W => Bx w w.heap.size #[.string d8,.int .i64 (n2 : Int),.slice r1 L1.length k1,.string d9] 85 W∧W.ownsRow w.heap.size 2 1 (.slice r1 L1.length k1) L1.length (iv L1))
                          ⟨HT6.out.1.four_put (Nat.le_refl _) (.string d8) (.int .i64 (n2 : Int)) (.slice r1 L1.length k1) (.string d9),own_set (own_set (own_set (own_set HT6.out.2.2 (own_far HT6.out.2.2 HT6.out.1.1 (by decide)) 0 (.string d8)) (own_far HT6.out.2.2 HT6.out.1.1 (by decide)) 1 (.int .i64 (n2 : Int))) (own_far HT6.out.2.2 HT6.out.1.1 (by decide)) 2 (.slice r1 L1.length k1)) (own_far HT6.out.2.2 HT6.out.1.1 (by decide)) 3 (.string d9)⟩
                        have HXE := Lib.hid hxE
                        clear hck hxE
                        go_wp2_with fail
                        obtain ⟨e0,e1,e2,e3⟩ := HXE.out.1.four
                        exact bodyPost_ret (v := .tuple #[t_tv d8 (n2 : Int) (.slice r1 L1.length k1) d9,.int .i64 0]) (by simp [results,Tryz.results28,go_sem,e0,e1,e2,e3]) rfl (tenRes_yes (t := ⟨d8,(n2 : Int),L1,d9⟩) HE.out HXE.out.2 HXE.out.1.all)
                    · have HE := Lib.hid (HEL.out.trans ((congrArg (fin _) (here_19 hN)).trans (fin_err (by decide))))
                      have hN0 : (0 : Int) < (L5.length : Int) + (L7.length : Int) := by rw [hasN_len] at hN; simp only [Bool.or_eq_true,decide_eq_true_eq] at hN; omega
                      clear hN HEL
                      have hl5 := HRO2.out.sl
                      have hl7 := HRO2.out.il
                      try dsimp only at hl5 hl7
                      obtain ⟨wE,hE,hxE⟩ := name_world (P := fun W => Bx w w.heap.size zc7 85 W) (HRT.out.1.1.zero4 (Nat.le_refl _))
                      have HXE := Lib.hid hxE
                      obtain ⟨z0,z1,z2,z3⟩ := HRT.out.1.1.four
                      have f4 := fun i => HRT.out.1.1.free i
                      clear hxE
                      go_wp2_with fail
                      obtain ⟨e0,e1,e2,e3⟩ := HXE.out.four
                      exact bodyPost_ret (v := .tuple #[t_tv ⟨#[]⟩ 0 (.slice none 0 0) ⟨#[]⟩,.int .i64 19]) (by simp [results,Tryz.results28,go_sem,e0,e1,e2,e3]) rfl (tenRes_no HE.out HXE.out.all)
                · have HEL := Lib.hid (HK10.out.trans (congrArg (fin _) (elems_file rfl)))
                  dsimp only at HEL
                  rw [← HPM.out] at HEL hpp
                  have hl5 := HRO2.out.sl
                  have hl7 := HRO2.out.il
                  try dsimp only at hl5 hl7
                  have HEX := Lib.hid (extern_any d8 d9 (n2 : Int) r1 k1 L1 b9 L5 L7 r13 k13 L13 V vc fs ((S : Int) * (cn : Int)) _ HO8.out (WalkArith.wf_i64 (by omega)) (SR.of_own HRT.out.2.2.1) HRO2.out.dl HRO2.out.di HRO2.out.tl HRO2.out.tb (SR.of_own (own_keep HW13.out HRT.out.2.2.2)) hpp.1 hpp.2 hfl hfd (HFI.out _ HRT.out.1.1.all))
                  rw [← HEL.out] at HEX
                  have HDM := Lib.hid (fun h : R.2 = 0 => fin_dims (t := ⟨d8,(n2 : Int),L1,⟨#[]⟩⟩) HEL.out h)
                  clear HK10 HEL HFI
                  have hcases : (b9 = true∧(b9 || hasN L5 L7) = true)∨(b9 = false∧(0 : Int) < (L5.length : Int) + (L7.length : Int)∧(b9 || hasN L5 L7) = true)∨(b9 = false∧decide ((0 : Int) < (L5.length : Int) + (L7.length : Int)) = false∧(b9 || hasN L5 L7) = false) := by
                    cases b9
                    · rw [Bool.false_or]
                      cases hN : hasN L5 L7
                      · rw [hasN_len] at hN
                        simp only [Bool.or_eq_false_iff,decide_eq_false_iff_not] at hN
                        exact .inr (.inr ⟨rfl,decide_eq_false (by omega),rfl⟩)
                      · rw [hasN_len] at hN
                        simp only [Bool.or_eq_true,decide_eq_true_eq] at hN
                        exact .inr (.inl ⟨rfl,by omega,rfl⟩)
                    · exact .inl ⟨rfl,rfl⟩
                  rcases hcases with ⟨g1,g2⟩ | ⟨g1,g3,g2⟩ | ⟨g1,g3,g2⟩
                  all_goals
                    rw [g2] at HEX
                    clear g2
                    subst g1
                    go_wp2_with fail
                    refine HEX.out.mono ?_
                    rintro e w7 ⟨v,rfl,hv,hb7⟩
                    have hz := HRT.out.1.1.below hb7
                    have ho := own_keep HRT.out.2.2.1 hb7
                    have hvv : w7.ownsRow w.heap.size 2 1 v R.1.dims.length (iv R.1.dims) := by
                      rcases hv with ⟨h0,rfl⟩ | ⟨h0,rfl,hr⟩
                      · rw [HDM.out h0]; exact ho
                      · rw [hr]; exact own_nothing _ _ _ _
                    obtain ⟨va,vk,rfl,-,-⟩ := own_form hvv
                    obtain ⟨wE,hE,hxE⟩ := name_world (P := fun W => Bx w w.heap.size #[.string R.1.name,.int .i64 R.1.kind,.slice va R.1.dims.length vk,.string R.1.data] 85 W∧W.ownsRow w.heap.size 2 1 (.slice va R.1.dims.length vk) R.1.dims.length (iv R.1.dims))
                      ⟨hz.four_put (Nat.le_refl _) _ _ _ _,own_set (own_set (own_set (own_set hvv (own_far hvv hz.1 (by decide)) 0 _) (own_far hvv hz.1 (by decide)) 1 _) (own_far hvv hz.1 (by decide)) 2 _) (own_far hvv hz.1 (by decide)) 3 _⟩
                    have HXE := Lib.hid hxE
                    have HTR := Lib.hid (fun W (ho : W.ownsRow w.heap.size 2 1 (.slice va R.1.dims.length vk) R.1.dims.length (iv R.1.dims)) (hb : Below w.heap.size w W) => (show TenRes R w (.returned (.tuple #[t_tv R.1.name R.1.kind (.slice va R.1.dims.length vk) R.1.data,.int .i64 R.2])) W from ⟨_,rfl,ho,hb⟩))
                    obtain ⟨z0,z1,z2,z3⟩ := hz.four
                    have f4 := fun i => hz.free i
                    clear hv hvv ho hz hb7 hxE HEX HDM
                    obtain ⟨⟨Rn,Rk,Rd,Rb⟩,Rc⟩ := R
                    dsimp only at HXE HTR hE
                    go_wp2_with fail
                    obtain ⟨e0,e1,e2,e3⟩ := HXE.out.1.four
                    exact bodyPost_ret (v := .tuple #[t_tv Rn Rk (.slice va Rd.length vk) Rb,.int .i64 Rc]) (by simp [results,Tryz.results28,go_sem,e0,e1,e2,e3]) rfl (HTR.out _ HXE.out.2 HXE.out.1.all)
          · have h100' : ¬ (n2 : Int) < 100 := by omega
            have HE := Lib.hid (HC9.out 0 5 (chk_kind H01.out HNMt.out (kSize_big h100)) (by decide))
            clear h100
            obtain ⟨wE,hE,hxE⟩ := name_world (P := fun W => Bx w w.heap.size zc7 85 W) (HIr13.out.1.zero4 (Nat.le_refl _))
            have HXE := Lib.hid hxE
            obtain ⟨z0,z1,z2,z3⟩ := HIr13.out.1.four
            have f4 := fun i => HIr13.out.1.free i
            clear hxE
            go_wp2_with fail
            obtain ⟨e0,e1,e2,e3⟩ := HXE.out.four
            exact bodyPost_ret (v := .tuple #[t_tv ⟨#[]⟩ 0 (.slice none 0 0) ⟨#[]⟩,.int .i64 5]) (by simp [results,Tryz.results28,go_sem,e0,e1,e2,e3]) rfl (tenRes_no HE.out HXE.out.all)
end Go.Proofs.YtjjfdlgoacockaaGreat
namespace Go.Proofs.YtjjfdlgoacockaaGreat
open Go.RowKit M1 M2 M3 M8 M9
open M7 (Ten ck)

theorem app_et (a : ByteArray) : a ++ (⟨#[]⟩ : ByteArray) = a := ByteArray.ext (by simp)
end Go.Proofs.YtjjfdlgoacockaaGreat
namespace Go.Proofs.YtjjfdlgoacockaaGreat
namespace M12
open Go.RowKit M1 M2 M3 M8 M9 M10 M11
open M7 (nm Ten ck)

def zM12 : Mod := ⟨0,[],[],[],[]⟩
def txE (l : List WFd) (k : Int) : Nat := (txts (ofNum l k) []).2
def txL (l : List WFd) (k : Int) : List ByteArray := (txts (ofNum l k) []).1
def opErr : List ByteArray→Nat
  | [] => 0
  | b :: r => if (fields b).2≠0 then (fields b).2 else if (okF (fields b).1 1 2 && okF (fields b).1 2 0) = false then 3 else opErr r
def opDom (b : ByteArray) : ByteArray := (lastF (fields b).1 1).data
def opVer (b : ByteArray) : Nat := (lastF (fields b).1 2).n
def opBad1 (b : ByteArray) : Bool := decide (opDom b≠⟨#[]⟩) || decide (2147483648 < opVer b)
def opBad (o : List ByteArray) : Bool := decide (o.length≠1) || o.any opBad1
def opVal : List ByteArray→Nat→Nat
  | [],v => v
  | b :: r,_ => opVal r (opVer b)
def eachM {α : Type} (f : ByteArray→α×Int) : List ByteArray→List α→List α×Int
  | [],acc => (acc,0)
  | b :: r,acc => if (f b).2≠0 then ([],(f b).2) else eachM f r (acc ++ [(f b).1])
def nodeI (b : ByteArray) : Nod×Int := ((nodeM b).1,((nodeM b).2 : Int))
def infoI (b : ByteArray) : Inf×Int := ((infoM b).1,((infoM b).2 : Int))
def tooMany (l : List WFd) : Bool := decide (1024 < (txL l 1).length) || decide (1024 < (txL l 5).length) || decide (64 < (txL l 11).length) || decide (64 < (txL l 12).length)
def graphL (v : Nat) (l : List WFd) (fs : List Fl) : Mod×Int :=
  if txE l 1≠0∨txE l 5≠0∨txE l 11≠0∨txE l 12≠0 then (zM12,3)
  else if tooMany l = true then (zM12,7)
  else if (eachM nodeI (txL l 1) []).2≠0 then (zM12,(eachM nodeI (txL l 1) []).2)
  else if (eachM (fun b => rd9 b fs) (txL l 5) []).2≠0 then (zM12,(eachM (fun b => rd9 b fs) (txL l 5) []).2)
  else if (eachM infoI (txL l 11) []).2≠0 then (zM12,(eachM infoI (txL l 11) []).2)
  else if (eachM infoI (txL l 12) []).2≠0 then (zM12,(eachM infoI (txL l 12) []).2)
  else (⟨(v : Int),(eachM infoI (txL l 11) []).1,(eachM infoI (txL l 12) []).1,(eachM (fun b => rd9 b fs) (txL l 5) []).1,(eachM nodeI (txL l 1) []).1⟩,0)
def modelL (l : List WFd) (fs : List Fl) : Mod×Int :=
  if txE l 7≠0∨txE l 8≠0 then (zM12,3)
  else if opErr (txL l 8)≠0 then (zM12,(opErr (txL l 8) : Int))
  else if opBad (txL l 8) = true then (zM12,16)
  else if (txL l 7).length = 0 then (zM12,18)
  else if (fields (joined (txL l 7))).2≠0 then (zM12,((fields (joined (txL l 7))).2 : Int))
  else graphL (opVal (txL l 8) 0) (fields (joined (txL l 7))).1 fs
def modelM (b : ByteArray) (fs : List Fl) : Mod×Int := if (fields b).2≠0 then (zM12,((fields b).2 : Int)) else modelL (fields b).1 fs

/-! ### the least writing -/
def graF (m : Mod) : List WFd := (m.nodes.map wrN).map (tF 1) ++ ((m.inits.map wr9).map (tF 5) ++ ((m.inputs.map wrI).map (tF 11) ++ (m.outputs.map wrI).map (tF 12)))
def opsW (m : Mod) : ByteArray := cat [nF 2 (us m.opset)]
def modF (m : Mod) : List WFd := [tF 7 (cat (graF m)),tF 8 (opsW m)]
def wrM (m : Mod) : ByteArray := cat (modF m)
def tenErr : List Ten→Int
  | [] => 0
  | t :: r => if ck t≠0 then ck t else tenErr r
def putM (m : Mod) : ByteArray×Int := if tenErr m.inits≠0 then (⟨#[]⟩,tenErr m.inits) else (wrM m,0)

end M12
end Go.Proofs.YtjjfdlgoacockaaGreat
namespace Go.Proofs.YtjjfdlgoacockaaGreat
namespace M12
open Go.RowKit M1 M2 M3 M8 M9 M10 M11
open M7 (nm Ten ck)

/-! ### message by message -/
theorem eachM_err {α : Type} {f : ByteArray→α×Int} {l : List ByteArray} {k : Nat} {acc : List α} (hk : k < l.length) (h : eachM f l [] = eachM f (l.drop k) acc) (he : (f l[k]).2≠0) : eachM f l [] = ([],(f l[k]).2) := by
  rw [h,List.drop_eq_getElem_cons hk,eachM,if_pos he]
theorem eachM_step {α : Type} {f : ByteArray→α×Int} {l : List ByteArray} {k : Nat} {acc : List α} (hk : k < l.length) (h : eachM f l [] = eachM f (l.drop k) acc) (he : (f l[k]).2 = 0) : eachM f l [] = eachM f (l.drop (k + 1)) (acc ++ [(f l[k]).1]) := by
  rw [h,List.drop_eq_getElem_cons hk,eachM,if_neg (by simp [he])]
theorem eachM_end {α : Type} {f : ByteArray→α×Int} {l : List ByteArray} {acc : List α} (h : eachM f l [] = eachM f (l.drop l.length) acc) : eachM f l [] = (acc,0) := by
  rw [h,List.drop_length,eachM]

/-! ### opset by opset -/
theorem opErr_err {l : List ByteArray} {k : Nat} (hk : k < l.length) (h : opErr l = opErr (l.drop k)) (he : (fields l[k]).2≠0) : opErr l = (fields l[k]).2 := by
  rw [h,List.drop_eq_getElem_cons hk,opErr,if_pos he]
theorem opErr_wire {l : List ByteArray} {k : Nat} (hk : k < l.length) (h : opErr l = opErr (l.drop k)) (he : (fields l[k]).2 = 0) (hw : (okF (fields l[k]).1 1 2 && okF (fields l[k]).1 2 0) = false) : opErr l = 3 := by
  rw [h,List.drop_eq_getElem_cons hk,opErr,if_neg (by simp [he]),if_pos hw]
theorem opErr_step {l : List ByteArray} {k : Nat} (hk : k < l.length) (h : opErr l = opErr (l.drop k)) (he : (fields l[k]).2 = 0) (hw : (okF (fields l[k]).1 1 2 && okF (fields l[k]).1 2 0) = true) : opErr l = opErr (l.drop (k + 1)) := by
  rw [h,List.drop_eq_getElem_cons hk,opErr,if_neg (by simp [he]),if_neg (by rw [hw]; simp)]
theorem opErr_end {l : List ByteArray} (h : opErr l = opErr (l.drop l.length)) : opErr l = 0 := by rw [h,List.drop_length,opErr]
def opBadK (l : List ByteArray) (k : Nat) : Bool := decide (l.length≠1) || (l.take k).any opBad1
theorem opBadK_zero (l : List ByteArray) : opBadK l 0 = decide (l.length≠1) := by unfold opBadK; simp
theorem opBadK_step {l : List ByteArray} {k : Nat} (hk : k < l.length) : opBadK l (k + 1) = (opBadK l k || opBad1 l[k]) := by
  unfold opBadK
  rw [List.take_succ_eq_append_getElem hk,List.any_append]
  simp [Bool.or_assoc]
theorem opBadK_end (l : List ByteArray) : opBadK l l.length = opBad l := by unfold opBadK opBad; rw [List.take_length]
theorem opVal_app : ∀ (l r : List ByteArray) (v : Nat),opVal (l ++ r) v = opVal r (opVal l v)
  | [],_,_ => rfl
  | b :: l,r,v => by rw [List.cons_append,opVal,opVal,opVal_app l r]
theorem opVal_step {l : List ByteArray} {k : Nat} (hk : k < l.length) : opVal (l.take (k + 1)) 0 = opVer l[k] := by
  rw [List.take_succ_eq_append_getElem hk,opVal_app]; rfl
theorem opVal_end (l : List ByteArray) : opVal (l.take l.length) 0 = opVal l 0 := by rw [List.take_length]

/-! ### the model, decision by decision -/
theorem modelL_wire {l : List WFd} {fs : List Fl} (h : txE l 7≠0∨txE l 8≠0) : modelL l fs = (zM12,3) := by unfold modelL; rw [if_pos h]
theorem modelL_ops {l : List WFd} {fs : List Fl} (h : ¬ (txE l 7≠0∨txE l 8≠0)) (h2 : opErr (txL l 8)≠0) : modelL l fs = (zM12,(opErr (txL l 8) : Int)) := by unfold modelL; rw [if_neg h,if_pos h2]
theorem modelL_bad {l : List WFd} {fs : List Fl} (h : ¬ (txE l 7≠0∨txE l 8≠0)) (h2 : opErr (txL l 8) = 0) (h3 : opBad (txL l 8) = true) : modelL l fs = (zM12,16) := by unfold modelL; rw [if_neg h,if_neg (by simp [h2]),if_pos h3]
theorem modelL_none {l : List WFd} {fs : List Fl} (h : ¬ (txE l 7≠0∨txE l 8≠0)) (h2 : opErr (txL l 8) = 0) (h3 : opBad (txL l 8) = false) (h4 : (txL l 7).length = 0) : modelL l fs = (zM12,18) := by
  unfold modelL; rw [if_neg h,if_neg (by simp [h2]),if_neg (by simp [h3]),if_pos h4]
theorem modelL_fields {l : List WFd} {fs : List Fl} (h : ¬ (txE l 7≠0∨txE l 8≠0)) (h2 : opErr (txL l 8) = 0) (h3 : opBad (txL l 8) = false) (h4 : (txL l 7).length≠0) (h5 : (fields (joined (txL l 7))).2≠0) :
    modelL l fs = (zM12,((fields (joined (txL l 7))).2 : Int)) := by
  unfold modelL; rw [if_neg h,if_neg (by simp [h2]),if_neg (by simp [h3]),if_neg h4,if_pos h5]
theorem modelL_graph {l : List WFd} {fs : List Fl} (h : ¬ (txE l 7≠0∨txE l 8≠0)) (h2 : opErr (txL l 8) = 0) (h3 : opBad (txL l 8) = false) (h4 : (txL l 7).length≠0) (h5 : (fields (joined (txL l 7))).2 = 0) :
    modelL l fs = graphL (opVal (txL l 8) 0) (fields (joined (txL l 7))).1 fs := by
  unfold modelL; rw [if_neg h,if_neg (by simp [h2]),if_neg (by simp [h3]),if_neg h4,if_neg (by simp [h5])]
def graWire (l : List WFd) : Prop := txE l 1≠0∨txE l 5≠0∨txE l 11≠0∨txE l 12≠0
theorem graphL_wire {v : Nat} {l : List WFd} {fs : List Fl} (h : graWire l) : graphL v l fs = (zM12,3) := by unfold graWire at h; unfold graphL; rw [if_pos h]
theorem graphL_many {v : Nat} {l : List WFd} {fs : List Fl} (h : ¬ graWire l) (h2 : tooMany l = true) : graphL v l fs = (zM12,7) := by unfold graWire at h; unfold graphL; rw [if_neg h,if_pos h2]
theorem graphL_nodes {v : Nat} {l : List WFd} {fs : List Fl} {c : Int} (h : ¬ graWire l) (h2 : tooMany l = false) (h3 : (eachM nodeI (txL l 1) []).2 = c) (hc : c≠0) : graphL v l fs = (zM12,c) := by
  unfold graWire at h; unfold graphL; rw [if_neg h,if_neg (by simp [h2]),h3,if_pos hc]
theorem graphL_inits {v : Nat} {l : List WFd} {fs : List Fl} {c : Int} (h : ¬ graWire l) (h2 : tooMany l = false) (h3 : (eachM nodeI (txL l 1) []).2 = 0) (h4 : (eachM (fun b => rd9 b fs) (txL l 5) []).2 = c) (hc : c≠0) : graphL v l fs = (zM12,c) := by
  unfold graWire at h; unfold graphL; rw [if_neg h,if_neg (by simp [h2]),if_neg (by simp [h3]),h4,if_pos hc]
theorem graphL_ins {v : Nat} {l : List WFd} {fs : List Fl} {c : Int} (h : ¬ graWire l) (h2 : tooMany l = false) (h3 : (eachM nodeI (txL l 1) []).2 = 0) (h4 : (eachM (fun b => rd9 b fs) (txL l 5) []).2 = 0) (h5 : (eachM infoI (txL l 11) []).2 = c) (hc : c≠0) :
    graphL v l fs = (zM12,c) := by
  unfold graWire at h; unfold graphL; rw [if_neg h,if_neg (by simp [h2]),if_neg (by simp [h3]),if_neg (by simp [h4]),h5,if_pos hc]
theorem graphL_outs {v : Nat} {l : List WFd} {fs : List Fl} {c : Int} (h : ¬ graWire l) (h2 : tooMany l = false) (h3 : (eachM nodeI (txL l 1) []).2 = 0) (h4 : (eachM (fun b => rd9 b fs) (txL l 5) []).2 = 0) (h5 : (eachM infoI (txL l 11) []).2 = 0) (h6 : (eachM infoI (txL l 12) []).2 = c) (hc : c≠0) :
    graphL v l fs = (zM12,c) := by
  unfold graWire at h; unfold graphL; rw [if_neg h,if_neg (by simp [h2]),if_neg (by simp [h3]),if_neg (by simp [h4]),if_neg (by simp [h5]),h6,if_pos hc]
theorem graphL_all {v : Nat} {l : List WFd} {fs : List Fl} {ns : List Nod} {ts : List Ten} {is os : List Inf} (h : ¬ graWire l) (h2 : tooMany l = false) (h3 : eachM nodeI (txL l 1) [] = (ns,0)) (h4 : eachM (fun b => rd9 b fs) (txL l 5) [] = (ts,0)) (h5 : eachM infoI (txL l 11) [] = (is,0)) (h6 : eachM infoI (txL l 12) [] = (os,0)) :
    graphL v l fs = (⟨(v : Int),is,os,ts,ns⟩,0) := by
  unfold graWire at h; unfold graphL; rw [if_neg h,if_neg (by simp [h2]),h3,h4,h5,h6,if_neg (by simp),if_neg (by simp),if_neg (by simp),if_neg (by simp)]
theorem modelM_err {b : ByteArray} {fs : List Fl} (h : (fields b).2≠0) : modelM b fs = (zM12,((fields b).2 : Int)) := by unfold modelM; rw [if_pos h]
theorem modelM_ok {b : ByteArray} {fs : List Fl} (h : (fields b).2 = 0) : modelM b fs = modelL (fields b).1 fs := by unfold modelM; rw [if_neg (by simp [h])]
end M12
end Go.Proofs.YtjjfdlgoacockaaGreat
namespace Go.Proofs.YtjjfdlgoacockaaGreat
open Go.RowKit

theorem run_copy_wide {P : Program} (w : World) (dT sT ty elem : TypeId) (g o dLen dCap : Nat) (a : Addr) (sLen sCap size n : Nat) (cur : Array Value) (t : TypeId) (cs : List Value)
    (hu : P.underlying dT = some (.slice elem)) (hs : (P.info? elem).map (·.size) = some size)
    (hg : w.heap[g]? = some (.cells cur t (0,0))) (hn : n = Nat.min sLen dLen) (hcl : cs.length = n * size)
    (hsrc : ∀ j v,cs[j]? = some v→w.cell? (a.add j) = some v) (hfit : o + cs.length≤cur.size) (h1 : ∀ v ∈ cs,v.oneCell' = true) :
    (Builtin.copy_ #[dT,sT] ty #[.slice (some ⟨g,o,none⟩) dLen dCap,.slice (some a) sLen sCap]).run P w =
      .ok (goInt n) (w.setRow g (cur.toList.take o ++ cs ++ cur.toList.drop (o + cs.length)).toArray) := by
  have hl := run_loadCells_list (P := P) w a cs hsrc
  have hst := run_storeCells_at P g o t cs 0 cur w hg (by simpa using hfit) h1
  rw [hcl] at hl
  cases hq : P.info? elem with
  | none => simp [hq] at hs
  | some i =>
    have hi : i.size = size := by simpa [hq] using hs
    simp [Builtin.copy_,run_underlying hu,Builtin.lenOf,Builtin.firstCells,sizeOf,typeInfo,hq,hi,← hn,hl,hst]
theorem copy_whole {P : Program} {w : World} {dT sT ty elem : TypeId} {size : Nat} (hu : P.underlying dT = some (.slice elem)) (hsz : (P.info? elem).map (·.size) = some size)
    {B g n : Nat} {ad : Addr} {sCap : Nat} {xs : List Value} (hown : w.ownsRow B elem size (.slice (some ⟨g,0,none⟩) n n) n xs) (hpos : 0 < n)
    {cs : List Value} (hcl : cs.length = n * size) (hsrc : ∀ j v,cs[j]? = some v→w.cell? (ad.add j) = some v) (h1 : ∀ v ∈ cs,v.oneCell' = true) :
    ∃ w',(Builtin.copy_ #[dT,sT] ty #[.slice (some ⟨g,0,none⟩) n n,.slice (some ad) n sCap]).run P w = .ok (goInt n) w' ∧
      w'.ownsRow B elem size (.slice (some ⟨g,0,none⟩) n n) n cs∧Below B w w' := by
  rcases hown.2 with ⟨hv,h0⟩ | ⟨g2,cap,cur,hv,hB,hg,hnc,hcap,hsz2,hcur⟩
  · omega
  · have e : g2 = g∧cap = n := by injection hv with e1 e2 e3; simp at e1; exact ⟨e1.symm,e3.symm⟩
    obtain ⟨rfl,rfl⟩ := e
    have hfit : cs.length≤cur.size := by rw [hcl]; omega
    refine ⟨_,run_copy_wide (P := P) w dT sT ty elem g2 0 cap cap ad cap sCap size cap cur elem cs hu hsz hg (by simp) hcl hsrc (by simpa using hfit) h1,⟨hcl,.inr ⟨g2,cap,_,rfl,hB,by simpa using setRow_heap w g2 cur _ elem (0,0) hg,Nat.le_refl _,hcap,?_,?_⟩⟩,below_setRow (Below.refl _ _) hB _⟩
    · simp; omega
    · simp [hcl]
end Go.Proofs.YtjjfdlgoacockaaGreat
