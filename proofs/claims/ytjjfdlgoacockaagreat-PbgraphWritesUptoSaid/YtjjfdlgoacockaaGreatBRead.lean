import Derived.Test.YtjjfdlgoacockaaGreatBHere
import Derived.Test.YtjjfdlgoacockaaGreatBMsg
import Derived.Test.YtjjfdlgoacockaaGreatBFile
import Derived.Test.YtjjfdlgoacockaaGreatTCheck
import Derived.Test.YtjjfdlgoacockaaGreatBLast
import Derived.Test.YtjjfdlgoacockaaGreatBVals
import Derived.Test.YtjjfdlgoacockaaGreatBRows
import Derived.Test.YtjjfdlgoacockaaGreatPWith
import Derived.Test.YtjjfdlgoacockaaGreatPAt
import Derived.Test.YtjjfdlgoacockaaGreatTPut
import Derived.Deep.RegionWith
import Derived.Deep.CutRange
import Derived.Test.YtjjfdlgoacockaaGreatBPut
import Derived.Test.YtjjfdlgoacockaaGreatMath
import Derived.Test.YtjjfdlgoacockaaGreatNMath
import Derived.Laws.CopyOwn
import Derived.OwnWalk
namespace Go.Proofs.YtjjfdlgoacockaaGreat
open Go.RowKit M1 M2 M3 M8 M9
open M7 (Ten ck)

def TenRes (r : Ten × Int) (w : World) (e : Ending) (w' : World) : Prop :=
  ∃ v, e = .returned (.tuple #[t_tv r.1.name r.1.kind v r.1.data, .int .i64 r.2]) ∧ w'.ownsRow w.heap.size 2 1 v r.1.dims.length (iv r.1.dims) ∧ Below w.heap.size w w'
theorem tenRes_no {r : Ten × Int} {c : Int} {w W : World} (h : r = (z9, c)) (hb : Below w.heap.size w W) : TenRes r w (.returned (.tuple #[t_tv ⟨#[]⟩ 0 (.slice none 0 0) ⟨#[]⟩, .int .i64 c])) W := by
  subst h; exact ⟨.slice none 0 0, rfl, own_nothing _ _ _ _, hb⟩
theorem tenRes_yes {r : Ten × Int} {t : Ten} {v : Value} {w W : World} (h : r = (t, 0)) (ho : W.ownsRow w.heap.size 2 1 v t.dims.length (iv t.dims)) (hb : Below w.heap.size w W) : TenRes r w (.returned (.tuple #[t_tv t.name t.kind v t.data, .int .i64 0])) W := by
  subst h; exact ⟨v, rfl, ho, hb⟩
theorem elems_file {m : Msg} {fs : List Fl} (h : m.wh = 1) : elems m fs = inFile m.size m.hs m.s m.i m.b fs := if_pos h
theorem elems_here {m : Msg} {fs : List Fl} (h : m.wh ≠ 1) : elems m fs = here m.t.kind m.d m.hs m.s m.i := if_neg h
theorem Bx.zero4 {w W : World} {g : Nat} {a0 a1 a2 a3 : Value} {T : TypeId} (h : Bx w g #[a0, a1, a2, a3] T W) (hg : w.heap.size ≤ g) :
    Bx w g #[.string ⟨#[]⟩, .int .i64 0, .slice none 0 0, .string ⟨#[]⟩] T ((((W.setCell ⟨g, 0, none⟩ (.string ⟨#[]⟩)).setCell ⟨g, 1, none⟩ (.int .i64 0)).setCell ⟨g, 2, none⟩ (.slice none 0 0)).setCell ⟨g, 3, none⟩ (.string ⟨#[]⟩)) := h.four_put hg _ _ _ _
def RdA (w : World) (mb : Option Nat) (g6 : Nat) (nme d : ByteArray) (k sz wh : Int) (hs : Bool) (r : Rws9) (dv sv nv bv : Value) (W : World) : Prop :=
  Bx w w.heap.size #[.map mb] 25 W ∧ Bx w (w.heap.size + 1) #[.string ⟨#[]⟩, .int .i64 0, .slice none 0 0, .string ⟨#[]⟩] 98 W ∧ WX w g6 w.heap.size nme k ⟨#[]⟩ sz wh d hs r dv sv nv bv W ∧ w.heap.size + 1 < g6
theorem RdA.below {w W W' : World} {mb : Option Nat} {g6 : Nat} {nme d : ByteArray} {k sz wh : Int} {hs : Bool} {r : Rws9} {dv sv nv bv : Value} (h : RdA w mb g6 nme d k sz wh hs r dv sv nv bv W) (hb : Below W.heap.size W W') : RdA w mb g6 nme d k sz wh hs r dv sv nv bv W' :=
  ⟨h.1.below hb, h.2.1.below hb, h.2.2.1.below hb, h.2.2.2⟩

set_option maxRecDepth 100000 in
set_option maxHeartbeats 4000000 in
theorem b_read_any (b : ByteArray) (B0 : Nat) (fs : List Fl) (mb : Option Nat) (w : World) (hbs : b.size ≤ maxLen) (hfd : ∀ f ∈ fs, f.data.size ≤ maxLen) (hst : o_St B0 fs mb w) :
    Calls Tryz.prog 72 #[.string b, .agg #[.map mb]] w (TenRes (rd9 b fs) w) := by
  have HMO := Lib.hid (msg_ok b)
  have HE1 := Lib.hid (fun c (h : (msg b).2 = c) (hc : c ≠ 0) => show rd9 b fs = (z9, c) by rw [rd9_err (by rw [h]; exact hc), h])
  have HE2 := Lib.hid (fun (h : (msg b).2 = 0) => rd9_ok (fs := fs) h)
  have HB3 := Lib.hid ((Bx.start w #[.map mb] 25).more (.cells #[.string ⟨#[]⟩, .int .i64 0, .slice none 0 0, .string ⟨#[]⟩] 98))
  have HB4 := Lib.hid (Bx.two w (.cells #[.map mb] 25) #[.string ⟨#[]⟩, .int .i64 0, .slice none 0 0, .string ⟨#[]⟩] 98)
  have HRD := Lib.hid (fun W => read_any9 b W hbs)
  have HST := Lib.hid (fun W (h : Below w.heap.size w W) => hst.below h)
  clear hst
  generalize rd9 b fs = RR at *
  generalize msg b = MM at *
  obtain ⟨⟨⟨nme, k, dims, d0⟩, sz, wh, d, hs, ss, ii, bs⟩, C⟩ := MM
  have hd0 := HMO.out.data0
  dsimp only at hd0
  subst hd0
  go_enter Tryz.func72, Tryz.ntmps72
  go_wp2_with fail
  refine (HRD.out _).mono ?_
  rintro e w1 ⟨dv, sv, nv, bv, rfl, ⟨x1, x2, x3, x4⟩, hb1⟩
  dsimp only at x1 x2 x3 x4
  obtain ⟨da, dc, rfl, -, -⟩ := own_form x1
  obtain ⟨sa, sc, rfl, -, -⟩ := own_form x2
  obtain ⟨na, nc, rfl, -, -⟩ := own_form x3
  obtain ⟨ba, bc, rfl, -, -⟩ := own_form x4
  have hsz2 : w.heap.size ≤ ((w.alloc (.cells #[.map mb] 25)).alloc (.cells #[.string ⟨#[]⟩, .int .i64 0, .slice none 0 0, .string ⟨#[]⟩] 98)).heap.size := HB4.out.all.size
  have hz : w.heap.size + 1 < w1.heap.size := Nat.lt_of_lt_of_le HB4.out.2.1 hb1.size
  have hown : Own4 w.heap.size ⟨dims, ss, ii, bs⟩ (.slice da dims.length dc) (.slice sa ss.length sc) (.slice na ii.length nc) (.slice ba bs.length bc) w1 := ⟨own_base x1 hsz2, own_base x2 hsz2, own_base x3 hsz2, own_base x4 hsz2⟩
  have hal := (Below.refl w1.heap.size w1).alloc (Nat.le_refl _) (.cells (wc nme k (.slice da dims.length dc) ⟨#[]⟩ sz (wh : Int) d hs (.slice sa ss.length sc) (.slice na ii.length nc) (.slice ba bs.length bc)) 217)
  obtain ⟨w2, hw2, hra⟩ := name_world (P := fun W => RdA w mb w1.heap.size nme d k sz wh hs ⟨dims, ss, ii, bs⟩ (.slice da dims.length dc) (.slice sa ss.length sc) (.slice na ii.length nc) (.slice ba bs.length bc) W)
    ⟨(HB3.out.below hb1).below hal, (HB4.out.below hb1).below hal, ⟨(HB4.out.below hb1).next _ _, hown.below hal⟩, hz⟩
  have HA := Lib.hid hra
  clear x1 x2 x3 x4 hsz2 hz hown hal hra hb1 HB3 HB4 HRD
  have c0 := HA.out.2.1.cell 0
  have c1 := HA.out.2.1.cell 1
  have c2 := HA.out.2.1.cell 2
  have c3 := HA.out.2.1.cell 3
  change _ = some _ at c0 c1 c2 c3
  have f4 := fun i => HA.out.2.1.free i
  by_cases hC : C ≠ 0
  · have hcb : (C != 0) = true := by simpa using hC
    have HE := Lib.hid (HE1.out C rfl hC)
    clear hC
    obtain ⟨wE, hE, hxE⟩ := name_world (P := fun W => Bx w (w.heap.size + 1) #[.string ⟨#[]⟩, .int .i64 0, .slice none 0 0, .string ⟨#[]⟩] 98 W) (HA.out.2.1.zero4 (by omega))
    have HXE := Lib.hid hxE
    clear hxE
    go_wp2_with fail
    obtain ⟨e0, e1, e2, e3⟩ := HXE.out.four
    exact bodyPost_ret (v := .tuple #[t_tv ⟨#[]⟩ 0 (.slice none 0 0) ⟨#[]⟩, .int .i64 C]) (by simp [results, Tryz.results72, go_sem, e0, e1, e2, e3]) rfl (tenRes_no HE.out HXE.out.all)
  · obtain rfl : C = 0 := by omega
    have HR := Lib.hid (HE2.out rfl)
    clear hC HE1 HE2
    clear c0 c1 c2 c3 f4
    obtain ⟨y0, y1, y2, y3, y4, y5, y6, y7, y8, y9, y10⟩ := HA.out.2.2.1.cells
    have hal := (Below.refl w2.heap.size w2).alloc (Nat.le_refl _) (.cells #[.string nme, .int .i64 k, .slice da dims.length dc, .string ⟨#[]⟩] 98)
    have hra3 := HA.out.below hal
    have hx8 := HA.out.1.next #[.string nme, .int .i64 k, .slice da dims.length dc, .string ⟨#[]⟩] 98
    have hp3 := And.intro hra3 hx8
    have H3 := Lib.hid hp3
    have HG := Lib.hid (show w1.heap.size < w2.heap.size from HA.out.2.2.1.1.2.1)
    have HM1 := HMO.out
    have HES := Lib.hid (elems_size HM1 fs)
    have HEF := Lib.hid (fun h => elems_file (m := ⟨⟨nme, k, dims, ⟨#[]⟩⟩, sz, wh, d, hs, ss, ii, bs⟩) (fs := fs) h)
    have HEH := Lib.hid (fun h => elems_here (m := ⟨⟨nme, k, dims, ⟨#[]⟩⟩, sz, wh, d, hs, ss, ii, bs⟩) (fs := fs) h)
    have HFi := Lib.hid (fun W (h : Below (w2.alloc (.cells #[.string nme, .int .i64 k, .slice da dims.length dc, .string ⟨#[]⟩] 98)).heap.size (w2.alloc (.cells #[.string nme, .int .i64 k, .slice da dims.length dc, .string ⟨#[]⟩] 98)) W) => dataInFile_any nme k (.slice da dims.length dc) ⟨#[]⟩ sz (wh : Int) d hs sa na ba sc nc bc ss ii bs B0 fs mb W HM1.tl HM1.tb (((SR.of_own H3.out.1.2.2.1.2.2.2.2).below h).more h.size) HM1.sz0 HM1.sz1 hfd (HST.out _ (step_below H3.out.2.all h)))
    have HHe := Lib.hid (fun W (h : Below (w2.alloc (.cells #[.string nme, .int .i64 k, .slice da dims.length dc, .string ⟨#[]⟩] 98)).heap.size (w2.alloc (.cells #[.string nme, .int .i64 k, .slice da dims.length dc, .string ⟨#[]⟩] 98)) W) => dataHere_any nme k (.slice da dims.length dc) ⟨#[]⟩ sz (wh : Int) d hs sa na sc nc ss ii (.slice ba bs.length bc) W HM1.sl HM1.il (((SR.of_own H3.out.1.2.2.1.2.2.1).below h).more h.size) (((SR.of_own H3.out.1.2.2.1.2.2.2.1).below h).more h.size))
    dsimp only at HEF HEH HES HR
    clear HA hal hra3 hx8 hp3 HM1 HST hfd
    generalize elems ⟨⟨nme, k, dims, ⟨#[]⟩⟩, sz, wh, d, hs, ss, ii, bs⟩ fs = EL at *
    have hcase : (wh = 1 ∧ ((wh : Int) == 1) = true) ∨ (wh ≠ 1 ∧ ((wh : Int) == 1) = false) := by
      by_cases h : wh = 1
      · exact .inl ⟨h, by simp [h]⟩
      · exact .inr ⟨h, by rw [beq_eq_false_iff_ne]; omega⟩
    rcases hcase with ⟨hw1, hwb⟩ | ⟨hw1, hwb⟩
    · have HEL := Lib.hid (HEF.out hw1)
      clear HEF HEH hw1
      obtain ⟨v0, v1, v2, v3, v4, v5, v6, v7, v8, v9, v10⟩ := H3.out.1.2.2.1.cells
      have s0 := H3.out.1.1.cell 0
      change _ = some _ at s0
      go_wp2_with fail
      refine (HFi.out _ (Below.refl _ _)).mono ?_
      rintro e w4 ⟨rfl, hb4⟩
      rw [← HEL.out]
      have hra4 := H3.out.1.below hb4
      have hx84 := H3.out.2.below hb4
      have hdr := (own_keep H3.out.1.2.2.1.2.1 hb4)
      obtain ⟨ED, EC⟩ := EL
      have z3 := hx84.cell 3
      change _ = some _ at z3
      have g8f := fun i => hx84.free i
      obtain ⟨w5, hw5, hp5⟩ := name_world (P := fun W => Bx w (w.heap.size + 1) #[.string ⟨#[]⟩, .int .i64 0, .slice none 0 0, .string ⟨#[]⟩] 98 W ∧ Bx w w2.heap.size #[.string nme, .int .i64 k, .slice da dims.length dc, .string ED] 98 W ∧ W.ownsRow w.heap.size 2 1 (.slice da dims.length dc) dims.length (iv dims))
        ⟨hra4.2.1.far_set (b := w2.heap.size) (i := 3) (.string ED) (by have := hra4.2.2.2; have := HG.out; omega) (by have := hra4.2.2.2; have := HG.out; omega), hx84.set (by have := hra4.2.2.2; have := HG.out; omega) 3 (.string ED), own_set hdr (own_far hdr hx84.1 (by decide)) 3 (.string ED)⟩
      have H5 := Lib.hid hp5
      clear hra4 hx84 hdr hp5 hb4 H3 HFi HHe y0 y1 y2 y3 y4 y5 y6 y7 y8 y9 y10 v0 v1 v2 v3 v4 v5 v6 v7 v8 v9 v10 s0 hw2
      try dsimp only at HES
      have c0 := H5.out.1.cell 0
      have c1 := H5.out.1.cell 1
      have c2 := H5.out.1.cell 2
      have c3 := H5.out.1.cell 3
      change _ = some _ at c0 c1 c2 c3
      have f4 := fun i => H5.out.1.free i
      obtain ⟨a0, a1, a2, a3⟩ := H5.out.2.1.four
      by_cases hEC : EC ≠ 0
      · have hcb : (EC == 0) = false := by simpa using hEC
        have hcb2 : (EC != 0) = true := by simpa using hEC
        have HE := Lib.hid (HR.out.trans (fin_err (t := ⟨nme, k, dims, ⟨#[]⟩⟩) (r := (ED, EC)) hEC))
        clear hEC
        obtain ⟨wE, hE, hxE⟩ := name_world (P := fun W => Bx w (w.heap.size + 1) #[.string ⟨#[]⟩, .int .i64 0, .slice none 0 0, .string ⟨#[]⟩] 98 W) (H5.out.1.zero4 (by omega))
        have HXE := Lib.hid hxE
        clear hxE
        go_wp2_with fail
        obtain ⟨e0, e1, e2, e3⟩ := HXE.out.four
        exact bodyPost_ret (v := .tuple #[t_tv ⟨#[]⟩ 0 (.slice none 0 0) ⟨#[]⟩, .int .i64 EC]) (by simp [results, Tryz.results72, go_sem, e0, e1, e2, e3]) rfl (tenRes_no HE.out HXE.out.all)
      · obtain rfl : EC = 0 := by omega
        have HTC := Lib.hid (tcheck_any ⟨nme, k, dims, ED⟩ da dc w5 ⟨by have := HMO.out.name; dsimp only at this ⊢; omega, by have := HES.out; dsimp only at this ⊢; omega, WalkArith.wf_i64 (by have h1 := HMO.out.kind0; have h2 := HMO.out.kind1; dsimp only at h1 h2 ⊢; omega), SR.of_own H5.out.2.2, by have := HMO.out.dl; unfold maxLen; dsimp only at this ⊢; omega, HMO.out.di⟩)
        try dsimp only at HTC
        have HFC := Lib.hid (fun h => HR.out.trans (fin_ck (t := ⟨nme, k, dims, ⟨#[]⟩⟩) (r := (ED, 0)) rfl h))
        have HFO := Lib.hid (fun h => HR.out.trans (fin_ok (t := ⟨nme, k, dims, ⟨#[]⟩⟩) (r := (ED, 0)) rfl h))
        try dsimp only at HFC HFO
        generalize ck ⟨nme, k, dims, ED⟩ = CK at *
        clear hEC
        go_wp2_with fail
        refine HTC.out.mono ?_
        rintro e w6 ⟨rfl, hb6⟩
        have hx46 := H5.out.1.below hb6
        have hx86 := H5.out.2.1.below hb6
        have ho6 := own_keep H5.out.2.2 hb6
        have H6 := Lib.hid (And.intro hx46 (And.intro hx86 ho6))
        clear hb6 HTC c0 c1 c2 c3 f4 a0 a1 a2 a3 hx46 hx86 ho6
        have c0 := H6.out.1.cell 0
        have c1 := H6.out.1.cell 1
        have c2 := H6.out.1.cell 2
        have c3 := H6.out.1.cell 3
        change _ = some _ at c0 c1 c2 c3
        have f4 := fun i => H6.out.1.free i
        by_cases hck : CK ≠ 0
        · have hcb2 : (CK != 0) = true := by simpa using hck
          have HE := Lib.hid (HFC.out hck)
          clear hck
          obtain ⟨wE, hE, hxE⟩ := name_world (P := fun W => Bx w (w.heap.size + 1) #[.string ⟨#[]⟩, .int .i64 0, .slice none 0 0, .string ⟨#[]⟩] 98 W) (H6.out.1.zero4 (by omega))
          have HXE := Lib.hid hxE
          clear hxE
          go_wp2_with fail
          obtain ⟨e0, e1, e2, e3⟩ := HXE.out.four
          exact bodyPost_ret (v := .tuple #[t_tv ⟨#[]⟩ 0 (.slice none 0 0) ⟨#[]⟩, .int .i64 CK]) (by simp [results, Tryz.results72, go_sem, e0, e1, e2, e3]) rfl (tenRes_no HE.out HXE.out.all)
        · obtain rfl : CK = 0 := by omega
          have HE := Lib.hid (HFO.out rfl)
          obtain ⟨a0, a1, a2, a3⟩ := H6.out.2.1.four
          obtain ⟨wE, hE, hxE⟩ := name_world (P := fun W => Bx w (w.heap.size + 1) #[.string nme, .int .i64 k, .slice da dims.length dc, .string ED] 98 W ∧ W.ownsRow w.heap.size 2 1 (.slice da dims.length dc) dims.length (iv dims))
            ⟨H6.out.1.four_put (by omega) (.string nme) (.int .i64 k) (.slice da dims.length dc) (.string ED), own_set (own_set (own_set (own_set H6.out.2.2 (own_far H6.out.2.2 H6.out.1.1 (by decide)) 0 (.string nme)) (own_far H6.out.2.2 H6.out.1.1 (by decide)) 1 (.int .i64 k)) (own_far H6.out.2.2 H6.out.1.1 (by decide)) 2 (.slice da dims.length dc)) (own_far H6.out.2.2 H6.out.1.1 (by decide)) 3 (.string ED)⟩
          have HXE := Lib.hid hxE
          clear hck hxE
          go_wp2_with fail
          obtain ⟨e0, e1, e2, e3⟩ := HXE.out.1.four
          exact bodyPost_ret (v := .tuple #[t_tv nme k (.slice da dims.length dc) ED, .int .i64 0]) (by simp [results, Tryz.results72, go_sem, e0, e1, e2, e3]) rfl (tenRes_yes (t := ⟨nme, k, dims, ED⟩) HE.out HXE.out.2 HXE.out.1.all)
    · have HEL := Lib.hid (HEH.out hw1)
      clear HEF HEH hw1
      obtain ⟨v0, v1, v2, v3, v4, v5, v6, v7, v8, v9, v10⟩ := H3.out.1.2.2.1.cells
      have s0 := H3.out.1.1.cell 0
      change _ = some _ at s0
      go_wp2_with fail
      refine (HHe.out _ (Below.refl _ _)).mono ?_
      rintro e w4 ⟨rfl, hb4⟩
      rw [← HEL.out]
      have hra4 := H3.out.1.below hb4
      have hx84 := H3.out.2.below hb4
      have hdr := (own_keep H3.out.1.2.2.1.2.1 hb4)
      obtain ⟨ED, EC⟩ := EL
      have z3 := hx84.cell 3
      change _ = some _ at z3
      have g8f := fun i => hx84.free i
      obtain ⟨w5, hw5, hp5⟩ := name_world (P := fun W => Bx w (w.heap.size + 1) #[.string ⟨#[]⟩, .int .i64 0, .slice none 0 0, .string ⟨#[]⟩] 98 W ∧ Bx w w2.heap.size #[.string nme, .int .i64 k, .slice da dims.length dc, .string ED] 98 W ∧ W.ownsRow w.heap.size 2 1 (.slice da dims.length dc) dims.length (iv dims))
        ⟨hra4.2.1.far_set (b := w2.heap.size) (i := 3) (.string ED) (by have := hra4.2.2.2; have := HG.out; omega) (by have := hra4.2.2.2; have := HG.out; omega), hx84.set (by have := hra4.2.2.2; have := HG.out; omega) 3 (.string ED), own_set hdr (own_far hdr hx84.1 (by decide)) 3 (.string ED)⟩
      have H5 := Lib.hid hp5
      clear hra4 hx84 hdr hp5 hb4 H3 HFi HHe y0 y1 y2 y3 y4 y5 y6 y7 y8 y9 y10 v0 v1 v2 v3 v4 v5 v6 v7 v8 v9 v10 s0 hw2
      try dsimp only at HES
      have c0 := H5.out.1.cell 0
      have c1 := H5.out.1.cell 1
      have c2 := H5.out.1.cell 2
      have c3 := H5.out.1.cell 3
      change _ = some _ at c0 c1 c2 c3
      have f4 := fun i => H5.out.1.free i
      obtain ⟨a0, a1, a2, a3⟩ := H5.out.2.1.four
      by_cases hEC : EC ≠ 0
      · have hcb : (EC == 0) = false := by simpa using hEC
        have hcb2 : (EC != 0) = true := by simpa using hEC
        have HE := Lib.hid (HR.out.trans (fin_err (t := ⟨nme, k, dims, ⟨#[]⟩⟩) (r := (ED, EC)) hEC))
        clear hEC
        obtain ⟨wE, hE, hxE⟩ := name_world (P := fun W => Bx w (w.heap.size + 1) #[.string ⟨#[]⟩, .int .i64 0, .slice none 0 0, .string ⟨#[]⟩] 98 W) (H5.out.1.zero4 (by omega))
        have HXE := Lib.hid hxE
        clear hxE
        go_wp2_with fail
        obtain ⟨e0, e1, e2, e3⟩ := HXE.out.four
        exact bodyPost_ret (v := .tuple #[t_tv ⟨#[]⟩ 0 (.slice none 0 0) ⟨#[]⟩, .int .i64 EC]) (by simp [results, Tryz.results72, go_sem, e0, e1, e2, e3]) rfl (tenRes_no HE.out HXE.out.all)
      · obtain rfl : EC = 0 := by omega
        have HTC := Lib.hid (tcheck_any ⟨nme, k, dims, ED⟩ da dc w5 ⟨by have := HMO.out.name; dsimp only at this ⊢; omega, by have := HES.out; dsimp only at this ⊢; omega, WalkArith.wf_i64 (by have h1 := HMO.out.kind0; have h2 := HMO.out.kind1; dsimp only at h1 h2 ⊢; omega), SR.of_own H5.out.2.2, by have := HMO.out.dl; unfold maxLen; dsimp only at this ⊢; omega, HMO.out.di⟩)
        try dsimp only at HTC
        have HFC := Lib.hid (fun h => HR.out.trans (fin_ck (t := ⟨nme, k, dims, ⟨#[]⟩⟩) (r := (ED, 0)) rfl h))
        have HFO := Lib.hid (fun h => HR.out.trans (fin_ok (t := ⟨nme, k, dims, ⟨#[]⟩⟩) (r := (ED, 0)) rfl h))
        try dsimp only at HFC HFO
        generalize ck ⟨nme, k, dims, ED⟩ = CK at *
        clear hEC
        go_wp2_with fail
        refine HTC.out.mono ?_
        rintro e w6 ⟨rfl, hb6⟩
        have hx46 := H5.out.1.below hb6
        have hx86 := H5.out.2.1.below hb6
        have ho6 := own_keep H5.out.2.2 hb6
        have H6 := Lib.hid (And.intro hx46 (And.intro hx86 ho6))
        clear hb6 HTC c0 c1 c2 c3 f4 a0 a1 a2 a3 hx46 hx86 ho6
        have c0 := H6.out.1.cell 0
        have c1 := H6.out.1.cell 1
        have c2 := H6.out.1.cell 2
        have c3 := H6.out.1.cell 3
        change _ = some _ at c0 c1 c2 c3
        have f4 := fun i => H6.out.1.free i
        by_cases hck : CK ≠ 0
        · have hcb2 : (CK != 0) = true := by simpa using hck
          have HE := Lib.hid (HFC.out hck)
          clear hck
          obtain ⟨wE, hE, hxE⟩ := name_world (P := fun W => Bx w (w.heap.size + 1) #[.string ⟨#[]⟩, .int .i64 0, .slice none 0 0, .string ⟨#[]⟩] 98 W) (H6.out.1.zero4 (by omega))
          have HXE := Lib.hid hxE
          clear hxE
          go_wp2_with fail
          obtain ⟨e0, e1, e2, e3⟩ := HXE.out.four
          exact bodyPost_ret (v := .tuple #[t_tv ⟨#[]⟩ 0 (.slice none 0 0) ⟨#[]⟩, .int .i64 CK]) (by simp [results, Tryz.results72, go_sem, e0, e1, e2, e3]) rfl (tenRes_no HE.out HXE.out.all)
        · obtain rfl : CK = 0 := by omega
          have HE := Lib.hid (HFO.out rfl)
          obtain ⟨a0, a1, a2, a3⟩ := H6.out.2.1.four
          obtain ⟨wE, hE, hxE⟩ := name_world (P := fun W => Bx w (w.heap.size + 1) #[.string nme, .int .i64 k, .slice da dims.length dc, .string ED] 98 W ∧ W.ownsRow w.heap.size 2 1 (.slice da dims.length dc) dims.length (iv dims))
            ⟨H6.out.1.four_put (by omega) (.string nme) (.int .i64 k) (.slice da dims.length dc) (.string ED), own_set (own_set (own_set (own_set H6.out.2.2 (own_far H6.out.2.2 H6.out.1.1 (by decide)) 0 (.string nme)) (own_far H6.out.2.2 H6.out.1.1 (by decide)) 1 (.int .i64 k)) (own_far H6.out.2.2 H6.out.1.1 (by decide)) 2 (.slice da dims.length dc)) (own_far H6.out.2.2 H6.out.1.1 (by decide)) 3 (.string ED)⟩
          have HXE := Lib.hid hxE
          clear hck hxE
          go_wp2_with fail
          obtain ⟨e0, e1, e2, e3⟩ := HXE.out.1.four
          exact bodyPost_ret (v := .tuple #[t_tv nme k (.slice da dims.length dc) ED, .int .i64 0]) (by simp [results, Tryz.results72, go_sem, e0, e1, e2, e3]) rfl (tenRes_yes (t := ⟨nme, k, dims, ED⟩) HE.out HXE.out.2 HXE.out.1.all)
end Go.Proofs.YtjjfdlgoacockaaGreat
namespace Go.Proofs.YtjjfdlgoacockaaGreat
open Go.RowKit M1 M2 M3 M8 M9
open M7 (Ten ck nm)

def b_rdL (L : List WFd) (fs : List Fl) : Ten × Int := if (msgL L).2 ≠ 0 then (z9, (msgL L).2) else fin (msgL L).1.t (elems (msgL L).1 fs)
theorem rd9_L {b : ByteArray} {fs : List Fl} {L : List WFd} (h : fields b = (L, 0)) : rd9 b fs = b_rdL L fs := by unfold rd9 b_rdL; rw [msg_go h]
theorem rdL_ok {L : List WFd} {fs : List Fl} {r : Rws9} {n : Int} (h : okFs L = true) (hr : rows L = (r, 0)) (hc : chkL L r = (n, 0)) : b_rdL L fs = fin (mk L r n).t (elems (mk L r n) fs) := by
  unfold b_rdL; rw [msgL_ok h hr hc]; exact if_neg (by simp)
theorem rows_all {L : List WFd} {d s i : List Int} {t : List ByteArray} (h1 : ints (ofNum L 1) [] = (d, 0)) (h5 : ints (ofNum L 5) [] = (s, 0)) (h7 : ints (ofNum L 7) [] = (i, 0)) (h13 : txts (ofNum L 13) [] = (t, 0)) : rows L = (⟨d, s, i, t⟩, 0) := by
  unfold rows rowsOf; rw [h1, h5, h7, h13]; simp
end Go.Proofs.YtjjfdlgoacockaaGreat

namespace Go.Proofs.YtjjfdlgoacockaaGreat
open Go.RowKit M1 M2 M3 M8 M9
open M7 (Ten ck)

end Go.Proofs.YtjjfdlgoacockaaGreat
namespace Go.Proofs.YtjjfdlgoacockaaGreat
open Go.RowKit M1 M2 M3 M8 M9
open M7 (Ten ck nm)

end Go.Proofs.YtjjfdlgoacockaaGreat
namespace Go.Proofs.YtjjfdlgoacockaaGreat
open Go.RowKit M1 M2 M3 M8 M9
open M7 (Ten ck)

def wl (t : Ten) : List WFd := (if t.dims = [] then [] else [⟨1, 2, 0, cps t.dims⟩]) ++ [⟨2, 0, us t.kind, ⟨#[]⟩⟩, ⟨8, 2, 0, t.name⟩, ⟨9, 2, 0, t.data⟩]
theorem app_et (a : ByteArray) : a ++ (⟨#[]⟩ : ByteArray) = a := ByteArray.ext (by simp)
theorem et_app (a : ByteArray) : (⟨#[]⟩ : ByteArray) ++ a = a := ByteArray.ext (by simp)
theorem b_cat_app (a b : List WFd) : cat (a ++ b) = cat a ++ cat b := by
  induction a with
  | nil => exact (et_app _).symm
  | cons f a ih =>
    show fb f ++ cat (a ++ b) = fb f ++ cat a ++ cat b
    rw [ih]
    exact ByteArray.ext (by simp)
theorem wl_cat (t : Ten) : cat (wl t) = wr9 t := by
  unfold wl wr9
  rw [b_cat_app]
  have h3 : cat [⟨2, 0, us t.kind, ⟨#[]⟩⟩, ⟨8, 2, 0, t.name⟩, ⟨9, 2, 0, t.data⟩] = fb ⟨2, 0, us t.kind, ⟨#[]⟩⟩ ++ (fb ⟨8, 2, 0, t.name⟩ ++ (fb ⟨9, 2, 0, t.data⟩ ++ ⟨#[]⟩)) := rfl
  have h1 : cat (if t.dims = [] then [] else [⟨1, 2, 0, cps t.dims⟩]) = M3.pt 1 t.dims := by
    unfold M3.pt
    by_cases h : t.dims = []
    · rw [if_pos h, if_pos h]; rfl
    · rw [if_neg h, if_neg h]
      show fb ⟨1, 2, 0, cps t.dims⟩ ++ ⟨#[]⟩ = _
      exact app_et _
  rw [h1, h3, app_et]
  exact ByteArray.ext (by simp)
theorem wl_of1 (t : Ten) : ofNum (wl t) 1 = if t.dims = [] then [] else [⟨1, 2, 0, cps t.dims⟩] := by
  unfold wl ofNum
  by_cases h : t.dims = []
  · rw [if_pos h]; simp
  · rw [if_neg h]; simp
theorem wl_ints1 {t : Ten} (hi : ∀ n ∈ t.dims, I64 n) (hl : t.dims.length ≤ 20) : ints (ofNum (wl t) 1) [] = (t.dims, 0) := by
  rw [wl_of1]
  by_cases h : t.dims = []
  · rw [if_pos h, h]; rfl
  · rw [if_neg h]
    have e := pks_cps t.dims [] hi (by simp; omega)
    have ha : addF ⟨1, 2, 0, cps t.dims⟩ [] = (t.dims, 0) := by
      unfold addF
      rw [if_neg (by show ¬ (2 : Int) = 0; decide), if_pos rfl]
      simpa using e
    rw [ints_ok ha]; rfl
theorem wl_none (t : Ten) (k : Int) (h1 : k ≠ 1) (h2 : k ≠ 2) (h8 : k ≠ 8) (h9 : k ≠ 9) : ofNum (wl t) k = [] := by
  unfold wl ofNum
  by_cases h : t.dims = []
  · rw [if_pos h]; simp [Ne.symm h2, Ne.symm h8, Ne.symm h9]
  · rw [if_neg h]; simp [Ne.symm h1, Ne.symm h2, Ne.symm h8, Ne.symm h9]
theorem wl_2 (t : Ten) : ofNum (wl t) 2 = [⟨2, 0, us t.kind, ⟨#[]⟩⟩] := by
  unfold wl ofNum
  by_cases h : t.dims = []
  · rw [if_pos h]; simp
  · rw [if_neg h]; simp
theorem wl_8 (t : Ten) : ofNum (wl t) 8 = [⟨8, 2, 0, t.name⟩] := by
  unfold wl ofNum
  by_cases h : t.dims = []
  · rw [if_pos h]; simp
  · rw [if_neg h]; simp
theorem wl_9 (t : Ten) : ofNum (wl t) 9 = [⟨9, 2, 0, t.data⟩] := by
  unfold wl ofNum
  by_cases h : t.dims = []
  · rw [if_pos h]; simp
  · rw [if_neg h]; simp
theorem us_kind {k : Int} (h : kSize k ≠ 0) : kindN (us k) = k := by
  obtain ⟨s, hs, -⟩ := size_nat k
  have hk : isKind k = true := (kSize_pos (k := k)).1 (by omega)
  rcases isKind_iff.1 hk with rfl | rfl | rfl | rfl | rfl <;> decide +kernel
end Go.Proofs.YtjjfdlgoacockaaGreat
namespace Go.Proofs.YtjjfdlgoacockaaGreat
namespace M12
open Go.RowKit M1 M2 M3 M8 M9 M10 M11
open M7 (nm Ten ck)

def zM12 : Mod := ⟨0, [], [], [], []⟩
def txE (l : List WFd) (k : Int) : Nat := (txts (ofNum l k) []).2
def txL (l : List WFd) (k : Int) : List ByteArray := (txts (ofNum l k) []).1
def opErr : List ByteArray → Nat
  | [] => 0
  | b :: r => if (fields b).2 ≠ 0 then (fields b).2 else if (okF (fields b).1 1 2 && okF (fields b).1 2 0) = false then 3 else opErr r
def opDom (b : ByteArray) : ByteArray := (lastF (fields b).1 1).data
def opVer (b : ByteArray) : Nat := (lastF (fields b).1 2).n
def opBad1 (b : ByteArray) : Bool := decide (opDom b ≠ ⟨#[]⟩) || decide (2147483648 < opVer b)
def opBad (o : List ByteArray) : Bool := decide (o.length ≠ 1) || o.any opBad1
def opVal : List ByteArray → Nat → Nat
  | [], v => v
  | b :: r, _ => opVal r (opVer b)
def eachM {α : Type} (f : ByteArray → α × Int) : List ByteArray → List α → List α × Int
  | [], acc => (acc, 0)
  | b :: r, acc => if (f b).2 ≠ 0 then ([], (f b).2) else eachM f r (acc ++ [(f b).1])
def nodeI (b : ByteArray) : Nod × Int := ((nodeM b).1, ((nodeM b).2 : Int))
def infoI (b : ByteArray) : Inf × Int := ((infoM b).1, ((infoM b).2 : Int))
def tooMany (l : List WFd) : Bool := decide (1024 < (txL l 1).length) || decide (1024 < (txL l 5).length) || decide (64 < (txL l 11).length) || decide (64 < (txL l 12).length)
def graphL (v : Nat) (l : List WFd) (fs : List Fl) : Mod × Int :=
  if txE l 1 ≠ 0 ∨ txE l 5 ≠ 0 ∨ txE l 11 ≠ 0 ∨ txE l 12 ≠ 0 then (zM12, 3)
  else if tooMany l = true then (zM12, 7)
  else if (eachM nodeI (txL l 1) []).2 ≠ 0 then (zM12, (eachM nodeI (txL l 1) []).2)
  else if (eachM (fun b => rd9 b fs) (txL l 5) []).2 ≠ 0 then (zM12, (eachM (fun b => rd9 b fs) (txL l 5) []).2)
  else if (eachM infoI (txL l 11) []).2 ≠ 0 then (zM12, (eachM infoI (txL l 11) []).2)
  else if (eachM infoI (txL l 12) []).2 ≠ 0 then (zM12, (eachM infoI (txL l 12) []).2)
  else (⟨(v : Int), (eachM infoI (txL l 11) []).1, (eachM infoI (txL l 12) []).1, (eachM (fun b => rd9 b fs) (txL l 5) []).1, (eachM nodeI (txL l 1) []).1⟩, 0)
def modelL (l : List WFd) (fs : List Fl) : Mod × Int :=
  if txE l 7 ≠ 0 ∨ txE l 8 ≠ 0 then (zM12, 3)
  else if opErr (txL l 8) ≠ 0 then (zM12, (opErr (txL l 8) : Int))
  else if opBad (txL l 8) = true then (zM12, 16)
  else if (txL l 7).length = 0 then (zM12, 18)
  else if (fields (joined (txL l 7))).2 ≠ 0 then (zM12, ((fields (joined (txL l 7))).2 : Int))
  else graphL (opVal (txL l 8) 0) (fields (joined (txL l 7))).1 fs
def modelM (b : ByteArray) (fs : List Fl) : Mod × Int := if (fields b).2 ≠ 0 then (zM12, ((fields b).2 : Int)) else modelL (fields b).1 fs

/-! ### the least writing -/
def graF (m : Mod) : List WFd := (m.nodes.map wrN).map (tF 1) ++ ((m.inits.map wr9).map (tF 5) ++ ((m.inputs.map wrI).map (tF 11) ++ (m.outputs.map wrI).map (tF 12)))
def opsW (m : Mod) : ByteArray := cat [nF 2 (us m.opset)]
def modF (m : Mod) : List WFd := [tF 7 (cat (graF m)), tF 8 (opsW m)]
def wrM (m : Mod) : ByteArray := cat (modF m)
def tenErr : List Ten → Int
  | [] => 0
  | t :: r => if ck t ≠ 0 then ck t else tenErr r
def putM (m : Mod) : ByteArray × Int := if tenErr m.inits ≠ 0 then (⟨#[]⟩, tenErr m.inits) else (wrM m, 0)

theorem tenErr_zero : ∀ {l : List Ten}, tenErr l = 0 → ∀ t ∈ l, ck t = 0
  | t :: r, h, u, hu => by
    rw [tenErr] at h
    by_cases hc : ck t ≠ 0
    · rw [if_pos hc] at h; exact absurd h hc
    · rw [if_neg hc] at h
      rcases List.mem_cons.1 hu with rfl | hu
      · exact Decidable.not_not.1 hc
      · exact tenErr_zero h u hu
theorem eachM_map {α β : Type} {f : ByteArray → α × Int} {g : β → ByteArray} {k : β → α} : ∀ {l : List β} (acc : List α), (∀ a ∈ l, f (g a) = (k a, 0)) → eachM f (l.map g) acc = (acc ++ l.map k, 0)
  | [], acc, _ => by simp [eachM]
  | a :: l, acc, h => by
    have ha := h a List.mem_cons_self
    rw [List.map_cons, eachM, ha, if_neg (by simp), eachM_map _ fun b hb => h b (List.mem_cons_of_mem _ hb)]
    simp
theorem wl_pr (t : Ten) : ∀ f ∈ wl t, Pr f := by
  intro f hf
  unfold wl at hf
  have hcase : f = ⟨1, 2, 0, cps t.dims⟩ ∨ f = ⟨2, 0, us t.kind, ⟨#[]⟩⟩ ∨ f = ⟨8, 2, 0, t.name⟩ ∨ f = ⟨9, 2, 0, t.data⟩ := by
    by_cases h : t.dims = []
    · rw [if_pos h] at hf
      simp at hf
      exact .inr hf
    · rw [if_neg h] at hf
      simpa using hf
  rcases hcase with rfl | rfl | rfl | rfl
  · exact Pr.text (k := 1) _ (by omega) (by omega)
  · exact Pr.num (k := 2) (by omega) (by omega) (us_fits _)
  · exact Pr.text (k := 8) _ (by omega) (by omega)
  · exact Pr.text (k := 9) _ (by omega) (by omega)
theorem rd9_wr9X {t : Ten} (fs : List Fl) (h : ck t = 0) (hi : ∀ n ∈ t.dims, I64 n) (hs : (wr9 t).size ≤ 1048576) : rd9 (wr9 t) fs = (t, 0) := by
  obtain ⟨g1, g2, g3, g4, g5⟩ := M7.ck_zero h
  have hl : t.dims.length ≤ 20 := by have := (M5.sz_shp g3).len; omega
  have hf : fields (wr9 t) = (wl t, 0) := by
    rw [← wl_cat] at hs ⊢
    exact fields_cat (wl_pr t) hs
  rw [rd9_L hf]
  have hok : okFs (wl t) = true := by
    unfold okFs okF lastF
    rw [wl_2, wl_8, wl_9, wl_none t 14 (by decide) (by decide) (by decide) (by decide)]
    simp
  have hr : rows (wl t) = (⟨t.dims, [], [], []⟩, 0) := by
    refine rows_all (wl_ints1 hi hl) ?_ ?_ ?_
    · rw [wl_none t 5 (by decide) (by decide) (by decide) (by decide)]; rfl
    · rw [wl_none t 7 (by decide) (by decide) (by decide) (by decide)]; rfl
    · rw [wl_none t 13 (by decide) (by decide) (by decide) (by decide)]; rfl
  have l2 : lastF (wl t) 2 = ⟨2, 0, us t.kind, ⟨#[]⟩⟩ := by unfold lastF; rw [wl_2]; rfl
  have l8 : lastF (wl t) 8 = ⟨8, 2, 0, t.name⟩ := by unfold lastF; rw [wl_8]; rfl
  have l9 : lastF (wl t) 9 = ⟨9, 2, 0, t.data⟩ := by unfold lastF; rw [wl_9]; rfl
  have l14 : lastF (wl t) 14 = fd0 := last_none (wl_none t 14 (by decide) (by decide) (by decide) (by decide))
  have h9 : has (wl t) 9 = true := by unfold has; rw [wl_9]; simp
  have hc : chkL (wl t) ⟨t.dims, [], [], []⟩ = ((M5.sz t.dims).1 * kSize t.kind, 0) := by
    unfold chkL
    rw [l2, l8, l14]
    dsimp only
    rw [us_kind g2, show fd0.n = 0 from rfl]
    unfold chk
    rw [if_neg (by omega), if_neg (by simp [g1]), if_neg g2, g3]
    rfl
  rw [rdL_ok hok hr hc]
  unfold mk
  rw [l2, l8, l9, l14, h9]
  dsimp only
  rw [us_kind g2]
  rw [elems_here (by show (0 : Nat) ≠ 1; omega)]
  dsimp only
  rw [here_raw (by rfl)]
  exact fin_ok (t := ⟨t.name, t.kind, t.dims, ⟨#[]⟩⟩) (r := (t.data, 0)) rfl h
theorem graF_pr (m : Mod) : ∀ f ∈ graF m, Pr f := by
  intro f hf
  unfold graF at hf
  simp only [List.mem_append, List.mem_map] at hf
  rcases hf with ⟨s, _, rfl⟩ | ⟨s, _, rfl⟩ | ⟨s, _, rfl⟩ | ⟨s, _, rfl⟩
  all_goals exact Pr.text _ (by omega) (by omega)
theorem modF_pr (m : Mod) : ∀ f ∈ modF m, Pr f := by
  intro f hf
  unfold modF at hf
  simp only [List.mem_cons, List.not_mem_nil, or_false] at hf
  rcases hf with rfl | rfl
  all_goals exact Pr.text _ (by omega) (by omega)
theorem gra_le (m : Mod) : (cat (graF m)).size ≤ (wrM m).size := by
  have hm : tF 7 (cat (graF m)) ∈ modF m := by unfold modF; simp
  exact Nat.le_trans (fb_data_le (Pr.text (k := 7) _ (by omega) (by omega)) rfl) (cat_size_mem hm)
theorem ops_le (m : Mod) : (opsW m).size ≤ (wrM m).size := by
  have hm : tF 8 (opsW m) ∈ modF m := by unfold modF; simp
  exact Nat.le_trans (fb_data_le (Pr.text (k := 8) _ (by omega) (by omega)) rfl) (cat_size_mem hm)
theorem part_le {m : Mod} {k : Int} {s : ByteArray} (h1 : 1 ≤ k) (h2 : k ≤ 100) (h : tF k s ∈ graF m) : s.size ≤ (wrM m).size :=
  Nat.le_trans (Nat.le_trans (fb_data_le (Pr.text (k := k) s h1 h2) rfl) (cat_size_mem h)) (gra_le m)
theorem node_le {m : Mod} {n : Nod} (h : n ∈ m.nodes) : (wrN n).size ≤ (wrM m).size :=
  part_le (k := 1) (by omega) (by omega) (by unfold graF; simp only [List.mem_append, List.mem_map]; exact .inl ⟨_, ⟨n, h, rfl⟩, rfl⟩)
theorem init_le {m : Mod} {t : Ten} (h : t ∈ m.inits) : (wr9 t).size ≤ (wrM m).size :=
  part_le (k := 5) (by omega) (by omega) (by unfold graF; simp only [List.mem_append, List.mem_map]; exact .inr (.inl ⟨_, ⟨t, h, rfl⟩, rfl⟩))
theorem input_le {m : Mod} {i : Inf} (h : i ∈ m.inputs) : (wrI i).size ≤ (wrM m).size :=
  part_le (k := 11) (by omega) (by omega) (by unfold graF; simp only [List.mem_append, List.mem_map]; exact .inr (.inr (.inl ⟨_, ⟨i, h, rfl⟩, rfl⟩)))
theorem output_le {m : Mod} {i : Inf} (h : i ∈ m.outputs) : (wrI i).size ≤ (wrM m).size :=
  part_le (k := 12) (by omega) (by omega) (by unfold graF; simp only [List.mem_append, List.mem_map]; exact .inr (.inr (.inr ⟨_, ⟨i, h, rfl⟩, rfl⟩)))
theorem gra_of1 (m : Mod) : ofNum (graF m) 1 = (m.nodes.map wrN).map (tF 1) := by
  unfold graF; rw [of_app, of_app, of_app, of_map_self, of_map_other (by decide), of_map_other (by decide), of_map_other (by decide)]; simp
theorem gra_of5 (m : Mod) : ofNum (graF m) 5 = (m.inits.map wr9).map (tF 5) := by
  unfold graF; rw [of_app, of_app, of_app, of_map_self, of_map_other (by decide), of_map_other (by decide), of_map_other (by decide)]; simp
theorem gra_of11 (m : Mod) : ofNum (graF m) 11 = (m.inputs.map wrI).map (tF 11) := by
  unfold graF; rw [of_app, of_app, of_app, of_map_self, of_map_other (by decide), of_map_other (by decide), of_map_other (by decide)]; simp
theorem gra_of12 (m : Mod) : ofNum (graF m) 12 = (m.outputs.map wrI).map (tF 12) := by
  unfold graF; rw [of_app, of_app, of_app, of_map_self, of_map_other (by decide), of_map_other (by decide), of_map_other (by decide)]; simp
theorem tx_map {l : List WFd} {k : Int} {s : List ByteArray} (h : ofNum l k = s.map (tF k)) : txE l k = 0 ∧ txL l k = s := by
  unfold txE txL
  rw [h, txts_map]
  exact ⟨rfl, by simp⟩
structure NBk (n : Nod) : Prop where
  ins : n.ins.length ≤ 64
  att : ∀ a ∈ n.attrs, nm a.name = true ∧ I64 a.int ∧ (∀ k ∈ a.ints, I64 k) ∧ a.ints.length ≤ 65536
  once : (n.attrs.map Att.name).Nodup
structure IBk (i : Inf) : Prop where
  name : nm i.name = true
  kind : kSize i.kind ≠ 0
  dims : ∀ n ∈ i.dims, I64 n
structure MBk (m : Mod) : Prop where
  ops0 : 0 ≤ m.opset
  ops1 : m.opset ≤ 2147483648
  len1 : m.nodes.length ≤ 1024
  len2 : m.inits.length ≤ 1024
  len3 : m.inputs.length ≤ 64
  len4 : m.outputs.length ≤ 64
  nodes : ∀ n ∈ m.nodes, NBk n
  inits : ∀ t ∈ m.inits, ck t = 0 ∧ ∀ n ∈ t.dims, I64 n
  inputs : ∀ i ∈ m.inputs, IBk i
  outputs : ∀ i ∈ m.outputs, IBk i
theorem us_pos12 {n : Int} (h0 : 0 ≤ n) (h1 : n ≤ 2147483648) : ((us n : Nat) : Int) = n := by
  rw [← us_eq]
  have h : IntKind.u64.wrap n = n % 18446744073709551616 := by simp [IntKind.wrap, IntKind.bits, IntKind.signed]
  rw [h]; omega
theorem ver_one {m : Mod} (h0 : 0 ≤ m.opset) (h1 : m.opset ≤ 2147483648) (hs : (opsW m).size ≤ 1048576) :
    opErr [opsW m] = 0 ∧ opBad [opsW m] = false ∧ (opVal [opsW m] 0 : Int) = m.opset := by
  have hf : fields (opsW m) = ([nF 2 (us m.opset)], 0) := fields_cat (fun f hf => by
    rw [List.mem_singleton] at hf; subst hf; exact Pr.num (by omega) (by omega) (us_fits _)) hs
  have o1 : ofNum [nF 2 (us m.opset)] 1 = [] := by simp [ofNum, nF]
  have o2 : ofNum [nF 2 (us m.opset)] 2 = [nF 2 (us m.opset)] := by simp [ofNum, nF]
  have l1 : lastF [nF 2 (us m.opset)] 1 = fd0 := last_none o1
  have l2 : lastF [nF 2 (us m.opset)] 2 = nF 2 (us m.opset) := by unfold lastF; rw [o2]; rfl
  have hu : ((us m.opset : Nat) : Int) = m.opset := us_pos12 h0 h1
  have hv : opVer (opsW m) = us m.opset := by unfold opVer; rw [hf]; dsimp only; rw [l2]; rfl
  have hd : opDom (opsW m) = ⟨#[]⟩ := by unfold opDom; rw [hf]; dsimp only; rw [l1]; rfl
  have h2 : okF [nF 2 (us m.opset)] 2 0 = true := by unfold okF; rw [l2]; simp [nF]
  refine ⟨?_, ?_, ?_⟩
  · rw [opErr, hf, if_neg (by simp), okF_no o1, h2, if_neg (by simp), opErr]
  · unfold opBad opBad1
    simp only [List.any_cons, List.any_nil, hd, hv]
    simp
    omega
  · rw [opVal, opVal, hv, hu]
theorem modelM_wrM {m : Mod} (fs : List Fl) (h : MBk m) (hs : (wrM m).size ≤ 1048576) : modelM (wrM m) fs = (nM m, 0) := by
  have hf : fields (wrM m) = (modF m, 0) := fields_cat (modF_pr m) hs
  have hg : fields (cat (graF m)) = (graF m, 0) := fields_cat (graF_pr m) (Nat.le_trans (gra_le m) hs)
  obtain ⟨v1, v2, v3⟩ := ver_one h.ops0 h.ops1 (Nat.le_trans (ops_le m) hs)
  obtain ⟨a1, a2⟩ := tx_map (l := modF m) (k := 7) (s := [cat (graF m)]) (by unfold modF; simp [ofNum, tF])
  obtain ⟨b1, b2⟩ := tx_map (l := modF m) (k := 8) (s := [opsW m]) (by unfold modF; simp [ofNum, tF])
  obtain ⟨c1, c2⟩ := tx_map (gra_of1 m)
  obtain ⟨d1, d2⟩ := tx_map (gra_of5 m)
  obtain ⟨e1, e2⟩ := tx_map (gra_of11 m)
  obtain ⟨f1, f2⟩ := tx_map (gra_of12 m)
  have en : eachM nodeI (m.nodes.map wrN) [] = (m.nodes.map nN, 0) := by
    rw [eachM_map (k := nN) [] fun n hn => ?_]
    · simp
    · unfold nodeI
      rw [nodeM_wrN (h.nodes n hn).ins (h.nodes n hn).att (h.nodes n hn).once (Nat.le_trans (node_le hn) hs)]; rfl
  have et : eachM (fun b => rd9 b fs) (m.inits.map wr9) [] = (m.inits, 0) := by
    rw [eachM_map (k := id) [] fun t ht => rd9_wr9X fs (h.inits t ht).1 (h.inits t ht).2 (Nat.le_trans (init_le ht) hs)]
    simp
  have ei : eachM infoI (m.inputs.map wrI) [] = (m.inputs, 0) := by
    rw [eachM_map (k := id) [] fun i hi => ?_]
    · simp
    · unfold infoI
      rw [infoM_wrI (h.inputs i hi).name (h.inputs i hi).kind (h.inputs i hi).dims (Nat.le_trans (input_le hi) hs)]; rfl
  have eo : eachM infoI (m.outputs.map wrI) [] = (m.outputs, 0) := by
    rw [eachM_map (k := id) [] fun i hi => ?_]
    · simp
    · unfold infoI
      rw [infoM_wrI (h.outputs i hi).name (h.outputs i hi).kind (h.outputs i hi).dims (Nat.le_trans (output_le hi) hs)]; rfl
  unfold modelM
  rw [hf, if_neg (by simp)]
  unfold modelL
  dsimp only
  rw [a1, b1, a2, b2, if_neg (by simp), if_neg (by rw [v1]; simp), if_neg (by rw [v2]; simp), if_neg (by simp), joined_one, hg, if_neg (by simp)]
  have hmany : tooMany (graF m) = false := by
    unfold tooMany
    rw [c2, d2, e2, f2]
    have n1 := h.len1
    have n2 := h.len2
    have n3 := h.len3
    have n4 := h.len4
    simp [n1, n2, n3, n4]
  unfold graphL
  dsimp only
  rw [c1, d1, e1, f1, c2, d2, e2, f2, if_neg (by simp), if_neg (by rw [hmany]; simp), en, et, ei, eo, if_neg (by simp), if_neg (by simp), if_neg (by simp), if_neg (by simp), v3]
  rfl
end M12
end Go.Proofs.YtjjfdlgoacockaaGreat
namespace Go.Proofs.YtjjfdlgoacockaaGreat
namespace M12
open Go.RowKit M1 M2 M3 M8 M9 M10 M11
open M7 (nm Ten ck)

/-! ### message by message -/
theorem eachM_err {α : Type} {f : ByteArray → α × Int} {l : List ByteArray} {k : Nat} {acc : List α} (hk : k < l.length) (h : eachM f l [] = eachM f (l.drop k) acc) (he : (f l[k]).2 ≠ 0) : eachM f l [] = ([], (f l[k]).2) := by
  rw [h, List.drop_eq_getElem_cons hk, eachM, if_pos he]
theorem eachM_step {α : Type} {f : ByteArray → α × Int} {l : List ByteArray} {k : Nat} {acc : List α} (hk : k < l.length) (h : eachM f l [] = eachM f (l.drop k) acc) (he : (f l[k]).2 = 0) : eachM f l [] = eachM f (l.drop (k + 1)) (acc ++ [(f l[k]).1]) := by
  rw [h, List.drop_eq_getElem_cons hk, eachM, if_neg (by simp [he])]
theorem eachM_end {α : Type} {f : ByteArray → α × Int} {l : List ByteArray} {acc : List α} (h : eachM f l [] = eachM f (l.drop l.length) acc) : eachM f l [] = (acc, 0) := by
  rw [h, List.drop_length, eachM]

/-! ### opset by opset -/
/-! ### the model, decision by decision -/
theorem modelL_wire {l : List WFd} {fs : List Fl} (h : txE l 7 ≠ 0 ∨ txE l 8 ≠ 0) : modelL l fs = (zM12, 3) := by unfold modelL; rw [if_pos h]
theorem modelL_ops {l : List WFd} {fs : List Fl} (h : ¬ (txE l 7 ≠ 0 ∨ txE l 8 ≠ 0)) (h2 : opErr (txL l 8) ≠ 0) : modelL l fs = (zM12, (opErr (txL l 8) : Int)) := by unfold modelL; rw [if_neg h, if_pos h2]
theorem modelL_bad {l : List WFd} {fs : List Fl} (h : ¬ (txE l 7 ≠ 0 ∨ txE l 8 ≠ 0)) (h2 : opErr (txL l 8) = 0) (h3 : opBad (txL l 8) = true) : modelL l fs = (zM12, 16) := by unfold modelL; rw [if_neg h, if_neg (by simp [h2]), if_pos h3]
theorem modelL_none {l : List WFd} {fs : List Fl} (h : ¬ (txE l 7 ≠ 0 ∨ txE l 8 ≠ 0)) (h2 : opErr (txL l 8) = 0) (h3 : opBad (txL l 8) = false) (h4 : (txL l 7).length = 0) : modelL l fs = (zM12, 18) := by
  unfold modelL; rw [if_neg h, if_neg (by simp [h2]), if_neg (by simp [h3]), if_pos h4]
theorem modelL_fields {l : List WFd} {fs : List Fl} (h : ¬ (txE l 7 ≠ 0 ∨ txE l 8 ≠ 0)) (h2 : opErr (txL l 8) = 0) (h3 : opBad (txL l 8) = false) (h4 : (txL l 7).length ≠ 0) (h5 : (fields (joined (txL l 7))).2 ≠ 0) :
    modelL l fs = (zM12, ((fields (joined (txL l 7))).2 : Int)) := by
  unfold modelL; rw [if_neg h, if_neg (by simp [h2]), if_neg (by simp [h3]), if_neg h4, if_pos h5]
theorem modelL_graph {l : List WFd} {fs : List Fl} (h : ¬ (txE l 7 ≠ 0 ∨ txE l 8 ≠ 0)) (h2 : opErr (txL l 8) = 0) (h3 : opBad (txL l 8) = false) (h4 : (txL l 7).length ≠ 0) (h5 : (fields (joined (txL l 7))).2 = 0) :
    modelL l fs = graphL (opVal (txL l 8) 0) (fields (joined (txL l 7))).1 fs := by
  unfold modelL; rw [if_neg h, if_neg (by simp [h2]), if_neg (by simp [h3]), if_neg h4, if_neg (by simp [h5])]
def graWire (l : List WFd) : Prop := txE l 1 ≠ 0 ∨ txE l 5 ≠ 0 ∨ txE l 11 ≠ 0 ∨ txE l 12 ≠ 0
theorem graphL_wire {v : Nat} {l : List WFd} {fs : List Fl} (h : graWire l) : graphL v l fs = (zM12, 3) := by unfold graWire at h; unfold graphL; rw [if_pos h]
theorem graphL_many {v : Nat} {l : List WFd} {fs : List Fl} (h : ¬ graWire l) (h2 : tooMany l = true) : graphL v l fs = (zM12, 7) := by unfold graWire at h; unfold graphL; rw [if_neg h, if_pos h2]
theorem graphL_nodes {v : Nat} {l : List WFd} {fs : List Fl} {c : Int} (h : ¬ graWire l) (h2 : tooMany l = false) (h3 : (eachM nodeI (txL l 1) []).2 = c) (hc : c ≠ 0) : graphL v l fs = (zM12, c) := by
  unfold graWire at h; unfold graphL; rw [if_neg h, if_neg (by simp [h2]), h3, if_pos hc]
theorem graphL_inits {v : Nat} {l : List WFd} {fs : List Fl} {c : Int} (h : ¬ graWire l) (h2 : tooMany l = false) (h3 : (eachM nodeI (txL l 1) []).2 = 0) (h4 : (eachM (fun b => rd9 b fs) (txL l 5) []).2 = c) (hc : c ≠ 0) : graphL v l fs = (zM12, c) := by
  unfold graWire at h; unfold graphL; rw [if_neg h, if_neg (by simp [h2]), if_neg (by simp [h3]), h4, if_pos hc]
theorem graphL_ins {v : Nat} {l : List WFd} {fs : List Fl} {c : Int} (h : ¬ graWire l) (h2 : tooMany l = false) (h3 : (eachM nodeI (txL l 1) []).2 = 0) (h4 : (eachM (fun b => rd9 b fs) (txL l 5) []).2 = 0) (h5 : (eachM infoI (txL l 11) []).2 = c) (hc : c ≠ 0) :
    graphL v l fs = (zM12, c) := by
  unfold graWire at h; unfold graphL; rw [if_neg h, if_neg (by simp [h2]), if_neg (by simp [h3]), if_neg (by simp [h4]), h5, if_pos hc]
theorem graphL_outs {v : Nat} {l : List WFd} {fs : List Fl} {c : Int} (h : ¬ graWire l) (h2 : tooMany l = false) (h3 : (eachM nodeI (txL l 1) []).2 = 0) (h4 : (eachM (fun b => rd9 b fs) (txL l 5) []).2 = 0) (h5 : (eachM infoI (txL l 11) []).2 = 0) (h6 : (eachM infoI (txL l 12) []).2 = c) (hc : c ≠ 0) :
    graphL v l fs = (zM12, c) := by
  unfold graWire at h; unfold graphL; rw [if_neg h, if_neg (by simp [h2]), if_neg (by simp [h3]), if_neg (by simp [h4]), if_neg (by simp [h5]), h6, if_pos hc]
theorem graphL_all {v : Nat} {l : List WFd} {fs : List Fl} {ns : List Nod} {ts : List Ten} {is os : List Inf} (h : ¬ graWire l) (h2 : tooMany l = false) (h3 : eachM nodeI (txL l 1) [] = (ns, 0)) (h4 : eachM (fun b => rd9 b fs) (txL l 5) [] = (ts, 0)) (h5 : eachM infoI (txL l 11) [] = (is, 0)) (h6 : eachM infoI (txL l 12) [] = (os, 0)) :
    graphL v l fs = (⟨(v : Int), is, os, ts, ns⟩, 0) := by
  unfold graWire at h; unfold graphL; rw [if_neg h, if_neg (by simp [h2]), h3, h4, h5, h6, if_neg (by simp), if_neg (by simp), if_neg (by simp), if_neg (by simp)]
theorem modelM_ok {b : ByteArray} {fs : List Fl} (h : (fields b).2 = 0) : modelM b fs = modelL (fields b).1 fs := by unfold modelM; rw [if_neg (by simp [h])]
end M12
end Go.Proofs.YtjjfdlgoacockaaGreat
namespace Go.Proofs.YtjjfdlgoacockaaGreat
open Go.RowKit

theorem run_copy_wide {P : Program} (w : World) (dT sT ty elem : TypeId) (g o dLen dCap : Nat) (a : Addr) (sLen sCap size n : Nat) (cur : Array Value) (t : TypeId) (cs : List Value)
    (hu : P.underlying dT = some (.slice elem)) (hs : (P.info? elem).map (·.size) = some size)
    (hg : w.heap[g]? = some (.cells cur t (0, 0))) (hn : n = Nat.min sLen dLen) (hcl : cs.length = n * size)
    (hsrc : ∀ j v, cs[j]? = some v → w.cell? (a.add j) = some v) (hfit : o + cs.length ≤ cur.size) (h1 : ∀ v ∈ cs, v.oneCell' = true) :
    (Builtin.copy_ #[dT, sT] ty #[.slice (some ⟨g, o, none⟩) dLen dCap, .slice (some a) sLen sCap]).run P w =
      .ok (goInt n) (w.setRow g (cur.toList.take o ++ cs ++ cur.toList.drop (o + cs.length)).toArray) := by
  have hl := run_loadCells_list (P := P) w a cs hsrc
  have hst := run_storeCells_at P g o t cs 0 cur w hg (by simpa using hfit) h1
  rw [hcl] at hl
  cases hq : P.info? elem with
  | none => simp [hq] at hs
  | some i =>
    have hi : i.size = size := by simpa [hq] using hs
    simp [Builtin.copy_, run_underlying hu, Builtin.lenOf, Builtin.firstCells, sizeOf, typeInfo, hq, hi, ← hn, hl, hst]
theorem copy_whole {P : Program} {w : World} {dT sT ty elem : TypeId} {size : Nat} (hu : P.underlying dT = some (.slice elem)) (hsz : (P.info? elem).map (·.size) = some size)
    {B g n : Nat} {ad : Addr} {sCap : Nat} {xs : List Value} (hown : w.ownsRow B elem size (.slice (some ⟨g, 0, none⟩) n n) n xs) (hpos : 0 < n)
    {cs : List Value} (hcl : cs.length = n * size) (hsrc : ∀ j v, cs[j]? = some v → w.cell? (ad.add j) = some v) (h1 : ∀ v ∈ cs, v.oneCell' = true) :
    ∃ w', (Builtin.copy_ #[dT, sT] ty #[.slice (some ⟨g, 0, none⟩) n n, .slice (some ad) n sCap]).run P w = .ok (goInt n) w' ∧
      w'.ownsRow B elem size (.slice (some ⟨g, 0, none⟩) n n) n cs ∧ Below B w w' := by
  rcases hown.2 with ⟨hv, h0⟩ | ⟨g2, cap, cur, hv, hB, hg, hnc, hcap, hsz2, hcur⟩
  · omega
  · have e : g2 = g ∧ cap = n := by injection hv with e1 e2 e3; simp at e1; exact ⟨e1.symm, e3.symm⟩
    obtain ⟨rfl, rfl⟩ := e
    have hfit : cs.length ≤ cur.size := by rw [hcl]; omega
    refine ⟨_, run_copy_wide (P := P) w dT sT ty elem g2 0 cap cap ad cap sCap size cap cur elem cs hu hsz hg (by simp) hcl hsrc (by simpa using hfit) h1, ⟨hcl, .inr ⟨g2, cap, _, rfl, hB, by simpa using setRow_heap w g2 cur _ elem (0, 0) hg, Nat.le_refl _, hcap, ?_, ?_⟩⟩, below_setRow (Below.refl _ _) hB _⟩
    · simp; omega
    · simp [hcl]
end Go.Proofs.YtjjfdlgoacockaaGreat
