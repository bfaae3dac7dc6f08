/- The walk of Read: the tensor of a message, its files in a store. -/
import Derived.Test.YtmmcfhgbjmfbaaaGreatBRd
import Derived.Test.YtmmcfhgbjmfbaaaGreatBMsg
import Derived.Test.YtmmcfhgbjmfbaaaGreatBSmall
import Derived.Test.YtmmcfhgbjmfbaaaGreatBVals
import Derived.Test.YtmmcfhgbjmfbaaaGreatTCheck
namespace Go.Proofs.YtmmcfhgbjmfbaaaGreat
open Go.RowKit M1 M2 M3 M8 M9
open M7 (Ten ck)

/-- what the calls give that tell a tensor -/
def TenRes (r : Ten × Int) (w : World) (e : Ending) (w' : World) : Prop :=
  ∃ v, e = .returned (.tuple #[t_tv r.1.name r.1.kind v r.1.data, .int .i64 r.2]) ∧ w'.ownsRow w.heap.size 2 1 v r.1.dims.length (iv r.1.dims) ∧ Below w.heap.size w w'
theorem tenRes_no {r : Ten × Int} {c : Int} {w W : World} (h : r = (z9, c)) (hb : Below w.heap.size w W) : TenRes r w (.returned (.tuple #[t_tv ⟨#[]⟩ 0 (.slice none 0 0) ⟨#[]⟩, .int .i64 c])) W := by
  subst h; exact ⟨.slice none 0 0, rfl, own_nothing _ _ _ _, hb⟩
theorem tenRes_yes {r : Ten × Int} {t : Ten} {v : Value} {w W : World} (h : r = (t, 0)) (ho : W.ownsRow w.heap.size 2 1 v t.dims.length (iv t.dims)) (hb : Below w.heap.size w W) : TenRes r w (.returned (.tuple #[t_tv t.name t.kind v t.data, .int .i64 0])) W := by
  subst h; exact ⟨v, rfl, ho, hb⟩
theorem elems_file {m : Msg} {fs : List Fl} (h : m.wh = 1) : elems m fs = inFile m.size m.hs m.s m.i m.b fs := if_pos h
theorem elems_here {m : Msg} {fs : List Fl} (h : m.wh ≠ 1) : elems m fs = here m.t.kind m.d m.hs m.s m.i := if_neg h
theorem Bx.zero4 {w W : World} {g : Nat} {a0 a1 a2 a3 : Value} {T : TypeId} (h : Bx w g #[a0, a1, a2, a3] T W) (hg : w.heap.size ≤ g) :
    Bx w g #[.string ⟨#[]⟩, .int .i64 0, .slice none 0 0, .string ⟨#[]⟩] T ((((W.setCell ⟨g, 0, none⟩ (.string ⟨#[]⟩)).setCell ⟨g, 1, none⟩ (.int .i64 0)).setCell ⟨g, 2, none⟩ (.slice none 0 0)).setCell ⟨g, 3, none⟩ (.string ⟨#[]⟩)) := h.four_put hg _ _ _ _
/-- the zero result, the store, what read told -/
def RdA (w : World) (mb : Option Nat) (g6 : Nat) (nme d : ByteArray) (k sz wh : Int) (hs : Bool) (r : Rws9) (dv sv nv bv : Value) (W : World) : Prop :=
  Bx w w.heap.size #[.map mb] 25 W ∧ Bx w (w.heap.size + 1) #[.string ⟨#[]⟩, .int .i64 0, .slice none 0 0, .string ⟨#[]⟩] 33 W ∧ WX w g6 w.heap.size nme k ⟨#[]⟩ sz wh d hs r dv sv nv bv W ∧ w.heap.size + 1 < g6
theorem RdA.below {w W W' : World} {mb : Option Nat} {g6 : Nat} {nme d : ByteArray} {k sz wh : Int} {hs : Bool} {r : Rws9} {dv sv nv bv : Value} (h : RdA w mb g6 nme d k sz wh hs r dv sv nv bv W) (hb : Below W.heap.size W W') : RdA w mb g6 nme d k sz wh hs r dv sv nv bv W' :=
  ⟨h.1.below hb, h.2.1.below hb, h.2.2.1.below hb, h.2.2.2⟩

set_option maxRecDepth 100000 in
set_option maxHeartbeats 4000000 in
theorem b_read_any (b : ByteArray) (B0 : Nat) (fs : List Fl) (mb : Option Nat) (w : World) (hbs : b.size ≤ maxLen) (hfd : ∀ f ∈ fs, f.data.size ≤ maxLen) (hst : o_St B0 fs mb w) :
    Calls Tryz.prog 7 #[.string b, .agg #[.map mb]] w (TenRes (rd9 b fs) w) := by
  have HMO := Lib.hid (msg_ok b)
  have HE1 := Lib.hid (fun c (h : (msg b).2 = c) (hc : c ≠ 0) => show rd9 b fs = (z9, c) by rw [rd9_err (by rw [h]; exact hc), h])
  have HE2 := Lib.hid (fun (h : (msg b).2 = 0) => rd9_ok (fs := fs) h)
  have HB3 := Lib.hid ((Bx.start w #[.map mb] 25).more (.cells #[.string ⟨#[]⟩, .int .i64 0, .slice none 0 0, .string ⟨#[]⟩] 33))
  have HB4 := Lib.hid (Bx.two w (.cells #[.map mb] 25) #[.string ⟨#[]⟩, .int .i64 0, .slice none 0 0, .string ⟨#[]⟩] 33)
  have HRD := Lib.hid (fun W => read_any9 b W hbs)
  have HST := Lib.hid (fun W (h : Below w.heap.size w W) => hst.below h)
  clear hst
  generalize rd9 b fs = RR at *
  generalize msg b = MM at *
  obtain ⟨⟨⟨nme, k, dims, d0⟩, sz, wh, d, hs, ss, ii, bs⟩, C⟩ := MM
  have hd0 := HMO.out.data0
  dsimp only at hd0
  subst hd0
  go_enter Tryz.func7, Tryz.ntmps7
  go_wp2_with fail
  refine (HRD.out _).mono ?_
  rintro e w1 ⟨dv, sv, nv, bv, rfl, ⟨x1, x2, x3, x4⟩, hb1⟩
  dsimp only at x1 x2 x3 x4
  obtain ⟨da, dc, rfl, -, -⟩ := own_form x1
  obtain ⟨sa, sc, rfl, -, -⟩ := own_form x2
  obtain ⟨na, nc, rfl, -, -⟩ := own_form x3
  obtain ⟨ba, bc, rfl, -, -⟩ := own_form x4
  have hsz2 : w.heap.size ≤ ((w.alloc (.cells #[.map mb] 25)).alloc (.cells #[.string ⟨#[]⟩, .int .i64 0, .slice none 0 0, .string ⟨#[]⟩] 33)).heap.size := HB4.out.all.size
  have hz : w.heap.size + 1 < w1.heap.size := Nat.lt_of_lt_of_le HB4.out.2.1 hb1.size
  have hown : Own4 w.heap.size ⟨dims, ss, ii, bs⟩ (.slice da dims.length dc) (.slice sa ss.length sc) (.slice na ii.length nc) (.slice ba bs.length bc) w1 := ⟨own_base x1 hsz2, own_base x2 hsz2, own_base x3 hsz2, own_base x4 hsz2⟩
  have hal := (Below.refl w1.heap.size w1).alloc (Nat.le_refl _) (.cells (wc nme k (.slice da dims.length dc) ⟨#[]⟩ sz (wh : Int) d hs (.slice sa ss.length sc) (.slice na ii.length nc) (.slice ba bs.length bc)) 59)
  obtain ⟨w2, hw2, hra⟩ := name_world (P := fun W => RdA w mb w1.heap.size nme d k sz wh hs ⟨dims, ss, ii, bs⟩ (.slice da dims.length dc) (.slice sa ss.length sc) (.slice na ii.length nc) (.slice ba bs.length bc) W)
    ⟨(HB3.out.below hb1).below hal, (HB4.out.below hb1).below hal, ⟨(HB4.out.below hb1).next _ _, hown.below hal⟩, hz⟩
  have HA := Lib.hid hra
  clear x1 x2 x3 x4 hsz2 hz hown hal hra hb1 HB3 HB4 HRD
  have c0 := HA.out.2.1.cell 0
  have c1 := HA.out.2.1.cell 1
  have c2 := HA.out.2.1.cell 2
  have c3 := HA.out.2.1.cell 3
  change _ = some _ at c0 c1 c2 c3
  have f4 := fun i => HA.out.2.1.free i
  by_cases hC : C ≠ 0
  · have hcb : (C != 0) = true := by simpa using hC
    have HE := Lib.hid (HE1.out C rfl hC)
    clear hC
    obtain ⟨wE, hE, hxE⟩ := name_world (P := fun W => Bx w (w.heap.size + 1) #[.string ⟨#[]⟩, .int .i64 0, .slice none 0 0, .string ⟨#[]⟩] 33 W) (HA.out.2.1.zero4 (by omega))
    have HXE := Lib.hid hxE
    clear hxE
    go_wp2_with fail
    obtain ⟨e0, e1, e2, e3⟩ := HXE.out.four
    exact bodyPost_ret (v := .tuple #[t_tv ⟨#[]⟩ 0 (.slice none 0 0) ⟨#[]⟩, .int .i64 C]) (by simp [results, Tryz.results7, go_sem, e0, e1, e2, e3]) rfl (tenRes_no HE.out HXE.out.all)
  · obtain rfl : C = 0 := by omega
    have HR := Lib.hid (HE2.out rfl)
    clear hC HE1 HE2
    clear c0 c1 c2 c3 f4
    obtain ⟨y0, y1, y2, y3, y4, y5, y6, y7, y8, y9, y10⟩ := HA.out.2.2.1.cells
    have hal := (Below.refl w2.heap.size w2).alloc (Nat.le_refl _) (.cells #[.string nme, .int .i64 k, .slice da dims.length dc, .string ⟨#[]⟩] 33)
    have hra3 := HA.out.below hal
    have hx8 := HA.out.1.next #[.string nme, .int .i64 k, .slice da dims.length dc, .string ⟨#[]⟩] 33
    have hp3 := And.intro hra3 hx8
    have H3 := Lib.hid hp3
    have HG := Lib.hid (show w1.heap.size < w2.heap.size from HA.out.2.2.1.1.2.1)
    have HM1 := HMO.out
    have HES := Lib.hid (elems_size HM1 fs)
    have HEF := Lib.hid (fun h => elems_file (m := ⟨⟨nme, k, dims, ⟨#[]⟩⟩, sz, wh, d, hs, ss, ii, bs⟩) (fs := fs) h)
    have HEH := Lib.hid (fun h => elems_here (m := ⟨⟨nme, k, dims, ⟨#[]⟩⟩, sz, wh, d, hs, ss, ii, bs⟩) (fs := fs) h)
    have HFi := Lib.hid (fun W (h : Below (w2.alloc (.cells #[.string nme, .int .i64 k, .slice da dims.length dc, .string ⟨#[]⟩] 33)).heap.size (w2.alloc (.cells #[.string nme, .int .i64 k, .slice da dims.length dc, .string ⟨#[]⟩] 33)) W) => dataInFile_any nme k (.slice da dims.length dc) ⟨#[]⟩ sz (wh : Int) d hs sa na ba sc nc bc ss ii bs B0 fs mb W HM1.tl HM1.tb (((SR.of_own H3.out.1.2.2.1.2.2.2.2).below h).more h.size) HM1.sz0 HM1.sz1 hfd (HST.out _ (step_below H3.out.2.all h)))
    have HHe := Lib.hid (fun W (h : Below (w2.alloc (.cells #[.string nme, .int .i64 k, .slice da dims.length dc, .string ⟨#[]⟩] 33)).heap.size (w2.alloc (.cells #[.string nme, .int .i64 k, .slice da dims.length dc, .string ⟨#[]⟩] 33)) W) => dataHere_any nme k (.slice da dims.length dc) ⟨#[]⟩ sz (wh : Int) d hs sa na sc nc ss ii (.slice ba bs.length bc) W HM1.sl HM1.il (((SR.of_own H3.out.1.2.2.1.2.2.1).below h).more h.size) (((SR.of_own H3.out.1.2.2.1.2.2.2.1).below h).more h.size))
    dsimp only at HEF HEH HES HR
    clear HA hal hra3 hx8 hp3 HM1 HST hfd
    generalize elems ⟨⟨nme, k, dims, ⟨#[]⟩⟩, sz, wh, d, hs, ss, ii, bs⟩ fs = EL at *
    have hcase : (wh = 1 ∧ ((wh : Int) == 1) = true) ∨ (wh ≠ 1 ∧ ((wh : Int) == 1) = false) := by
      by_cases h : wh = 1
      · exact .inl ⟨h, by simp [h]⟩
      · exact .inr ⟨h, by rw [beq_eq_false_iff_ne]; omega⟩
    rcases hcase with ⟨hw1, hwb⟩ | ⟨hw1, hwb⟩
    · have HEL := Lib.hid (HEF.out hw1)
      clear HEF HEH hw1
      obtain ⟨v0, v1, v2, v3, v4, v5, v6, v7, v8, v9, v10⟩ := H3.out.1.2.2.1.cells
      have s0 := H3.out.1.1.cell 0
      change _ = some _ at s0
      go_wp2_with fail
      refine (HFi.out _ (Below.refl _ _)).mono ?_
      rintro e w4 ⟨rfl, hb4⟩
      rw [← HEL.out]
      have hra4 := H3.out.1.below hb4
      have hx84 := H3.out.2.below hb4
      have hdr := (own_keep H3.out.1.2.2.1.2.1 hb4)
      obtain ⟨ED, EC⟩ := EL
      have z3 := hx84.cell 3
      change _ = some _ at z3
      have g8f := fun i => hx84.free i
      obtain ⟨w5, hw5, hp5⟩ := name_world (P := fun W => Bx w (w.heap.size + 1) #[.string ⟨#[]⟩, .int .i64 0, .slice none 0 0, .string ⟨#[]⟩] 33 W ∧ Bx w w2.heap.size #[.string nme, .int .i64 k, .slice da dims.length dc, .string ED] 33 W ∧ W.ownsRow w.heap.size 2 1 (.slice da dims.length dc) dims.length (iv dims))
        ⟨hra4.2.1.far_set (b := w2.heap.size) (i := 3) (.string ED) (by have := hra4.2.2.2; have := HG.out; omega) (by have := hra4.2.2.2; have := HG.out; omega), hx84.set (by have := hra4.2.2.2; have := HG.out; omega) 3 (.string ED), own_set hdr (own_far hdr hx84.1 (by decide)) 3 (.string ED)⟩
      have H5 := Lib.hid hp5
      clear hra4 hx84 hdr hp5 hb4 H3 HFi HHe y0 y1 y2 y3 y4 y5 y6 y7 y8 y9 y10 v0 v1 v2 v3 v4 v5 v6 v7 v8 v9 v10 s0 hw2
      try dsimp only at HES
      have c0 := H5.out.1.cell 0
      have c1 := H5.out.1.cell 1
      have c2 := H5.out.1.cell 2
      have c3 := H5.out.1.cell 3
      change _ = some _ at c0 c1 c2 c3
      have f4 := fun i => H5.out.1.free i
      obtain ⟨a0, a1, a2, a3⟩ := H5.out.2.1.four
      by_cases hEC : EC ≠ 0
      · have hcb : (EC == 0) = false := by simpa using hEC
        have hcb2 : (EC != 0) = true := by simpa using hEC
        have HE := Lib.hid (HR.out.trans (fin_err (t := ⟨nme, k, dims, ⟨#[]⟩⟩) (r := (ED, EC)) hEC))
        clear hEC
        obtain ⟨wE, hE, hxE⟩ := name_world (P := fun W => Bx w (w.heap.size + 1) #[.string ⟨#[]⟩, .int .i64 0, .slice none 0 0, .string ⟨#[]⟩] 33 W) (H5.out.1.zero4 (by omega))
        have HXE := Lib.hid hxE
        clear hxE
        go_wp2_with fail
        obtain ⟨e0, e1, e2, e3⟩ := HXE.out.four
        exact bodyPost_ret (v := .tuple #[t_tv ⟨#[]⟩ 0 (.slice none 0 0) ⟨#[]⟩, .int .i64 EC]) (by simp [results, Tryz.results7, go_sem, e0, e1, e2, e3]) rfl (tenRes_no HE.out HXE.out.all)
      · obtain rfl : EC = 0 := by omega
        have HTC := Lib.hid (tcheck_any ⟨nme, k, dims, ED⟩ da dc w5 ⟨by have := HMO.out.name; dsimp only at this ⊢; omega, by have := HES.out; dsimp only at this ⊢; omega, WalkArith.wf_i64 (by have h1 := HMO.out.kind0; have h2 := HMO.out.kind1; dsimp only at h1 h2 ⊢; omega), SR.of_own H5.out.2.2, by have := HMO.out.dl; unfold maxLen; dsimp only at this ⊢; omega, HMO.out.di⟩)
        try dsimp only at HTC
        have HFC := Lib.hid (fun h => HR.out.trans (fin_ck (t := ⟨nme, k, dims, ⟨#[]⟩⟩) (r := (ED, 0)) rfl h))
        have HFO := Lib.hid (fun h => HR.out.trans (fin_ok (t := ⟨nme, k, dims, ⟨#[]⟩⟩) (r := (ED, 0)) rfl h))
        try dsimp only at HFC HFO
        generalize ck ⟨nme, k, dims, ED⟩ = CK at *
        clear hEC
        go_wp2_with fail
        refine HTC.out.mono ?_
        rintro e w6 ⟨rfl, hb6⟩
        have hx46 := H5.out.1.below hb6
        have hx86 := H5.out.2.1.below hb6
        have ho6 := own_keep H5.out.2.2 hb6
        have H6 := Lib.hid (And.intro hx46 (And.intro hx86 ho6))
        clear hb6 HTC c0 c1 c2 c3 f4 a0 a1 a2 a3 hx46 hx86 ho6
        have c0 := H6.out.1.cell 0
        have c1 := H6.out.1.cell 1
        have c2 := H6.out.1.cell 2
        have c3 := H6.out.1.cell 3
        change _ = some _ at c0 c1 c2 c3
        have f4 := fun i => H6.out.1.free i
        by_cases hck : CK ≠ 0
        · have hcb2 : (CK != 0) = true := by simpa using hck
          have HE := Lib.hid (HFC.out hck)
          clear hck
          obtain ⟨wE, hE, hxE⟩ := name_world (P := fun W => Bx w (w.heap.size + 1) #[.string ⟨#[]⟩, .int .i64 0, .slice none 0 0, .string ⟨#[]⟩] 33 W) (H6.out.1.zero4 (by omega))
          have HXE := Lib.hid hxE
          clear hxE
          go_wp2_with fail
          obtain ⟨e0, e1, e2, e3⟩ := HXE.out.four
          exact bodyPost_ret (v := .tuple #[t_tv ⟨#[]⟩ 0 (.slice none 0 0) ⟨#[]⟩, .int .i64 CK]) (by simp [results, Tryz.results7, go_sem, e0, e1, e2, e3]) rfl (tenRes_no HE.out HXE.out.all)
        · obtain rfl : CK = 0 := by omega
          have HE := Lib.hid (HFO.out rfl)
          obtain ⟨a0, a1, a2, a3⟩ := H6.out.2.1.four
          obtain ⟨wE, hE, hxE⟩ := name_world (P := fun W => Bx w (w.heap.size + 1) #[.string nme, .int .i64 k, .slice da dims.length dc, .string ED] 33 W ∧ W.ownsRow w.heap.size 2 1 (.slice da dims.length dc) dims.length (iv dims))
            ⟨H6.out.1.four_put (by omega) (.string nme) (.int .i64 k) (.slice da dims.length dc) (.string ED), own_set (own_set (own_set (own_set H6.out.2.2 (own_far H6.out.2.2 H6.out.1.1 (by decide)) 0 (.string nme)) (own_far H6.out.2.2 H6.out.1.1 (by decide)) 1 (.int .i64 k)) (own_far H6.out.2.2 H6.out.1.1 (by decide)) 2 (.slice da dims.length dc)) (own_far H6.out.2.2 H6.out.1.1 (by decide)) 3 (.string ED)⟩
          have HXE := Lib.hid hxE
          clear hck hxE
          go_wp2_with fail
          obtain ⟨e0, e1, e2, e3⟩ := HXE.out.1.four
          exact bodyPost_ret (v := .tuple #[t_tv nme k (.slice da dims.length dc) ED, .int .i64 0]) (by simp [results, Tryz.results7, go_sem, e0, e1, e2, e3]) rfl (tenRes_yes (t := ⟨nme, k, dims, ED⟩) HE.out HXE.out.2 HXE.out.1.all)
    · have HEL := Lib.hid (HEH.out hw1)
      clear HEF HEH hw1
      obtain ⟨v0, v1, v2, v3, v4, v5, v6, v7, v8, v9, v10⟩ := H3.out.1.2.2.1.cells
      have s0 := H3.out.1.1.cell 0
      change _ = some _ at s0
      go_wp2_with fail
      refine (HHe.out _ (Below.refl _ _)).mono ?_
      rintro e w4 ⟨rfl, hb4⟩
      rw [← HEL.out]
      have hra4 := H3.out.1.below hb4
      have hx84 := H3.out.2.below hb4
      have hdr := (own_keep H3.out.1.2.2.1.2.1 hb4)
      obtain ⟨ED, EC⟩ := EL
      have z3 := hx84.cell 3
      change _ = some _ at z3
      have g8f := fun i => hx84.free i
      obtain ⟨w5, hw5, hp5⟩ := name_world (P := fun W => Bx w (w.heap.size + 1) #[.string ⟨#[]⟩, .int .i64 0, .slice none 0 0, .string ⟨#[]⟩] 33 W ∧ Bx w w2.heap.size #[.string nme, .int .i64 k, .slice da dims.length dc, .string ED] 33 W ∧ W.ownsRow w.heap.size 2 1 (.slice da dims.length dc) dims.length (iv dims))
        ⟨hra4.2.1.far_set (b := w2.heap.size) (i := 3) (.string ED) (by have := hra4.2.2.2; have := HG.out; omega) (by have := hra4.2.2.2; have := HG.out; omega), hx84.set (by have := hra4.2.2.2; have := HG.out; omega) 3 (.string ED), own_set hdr (own_far hdr hx84.1 (by decide)) 3 (.string ED)⟩
      have H5 := Lib.hid hp5
      clear hra4 hx84 hdr hp5 hb4 H3 HFi HHe y0 y1 y2 y3 y4 y5 y6 y7 y8 y9 y10 v0 v1 v2 v3 v4 v5 v6 v7 v8 v9 v10 s0 hw2
      try dsimp only at HES
      have c0 := H5.out.1.cell 0
      have c1 := H5.out.1.cell 1
      have c2 := H5.out.1.cell 2
      have c3 := H5.out.1.cell 3
      change _ = some _ at c0 c1 c2 c3
      have f4 := fun i => H5.out.1.free i
      obtain ⟨a0, a1, a2, a3⟩ := H5.out.2.1.four
      by_cases hEC : EC ≠ 0
      · have hcb : (EC == 0) = false := by simpa using hEC
        have hcb2 : (EC != 0) = true := by simpa using hEC
        have HE := Lib.hid (HR.out.trans (fin_err (t := ⟨nme, k, dims, ⟨#[]⟩⟩) (r := (ED, EC)) hEC))
        clear hEC
        obtain ⟨wE, hE, hxE⟩ := name_world (P := fun W => Bx w (w.heap.size + 1) #[.string ⟨#[]⟩, .int .i64 0, .slice none 0 0, .string ⟨#[]⟩] 33 W) (H5.out.1.zero4 (by omega))
        have HXE := Lib.hid hxE
        clear hxE
        go_wp2_with fail
        obtain ⟨e0, e1, e2, e3⟩ := HXE.out.four
        exact bodyPost_ret (v := .tuple #[t_tv ⟨#[]⟩ 0 (.slice none 0 0) ⟨#[]⟩, .int .i64 EC]) (by simp [results, Tryz.results7, go_sem, e0, e1, e2, e3]) rfl (tenRes_no HE.out HXE.out.all)
      · obtain rfl : EC = 0 := by omega
        have HTC := Lib.hid (tcheck_any ⟨nme, k, dims, ED⟩ da dc w5 ⟨by have := HMO.out.name; dsimp only at this ⊢; omega, by have := HES.out; dsimp only at this ⊢; omega, WalkArith.wf_i64 (by have h1 := HMO.out.kind0; have h2 := HMO.out.kind1; dsimp only at h1 h2 ⊢; omega), SR.of_own H5.out.2.2, by have := HMO.out.dl; unfold maxLen; dsimp only at this ⊢; omega, HMO.out.di⟩)
        try dsimp only at HTC
        have HFC := Lib.hid (fun h => HR.out.trans (fin_ck (t := ⟨nme, k, dims, ⟨#[]⟩⟩) (r := (ED, 0)) rfl h))
        have HFO := Lib.hid (fun h => HR.out.trans (fin_ok (t := ⟨nme, k, dims, ⟨#[]⟩⟩) (r := (ED, 0)) rfl h))
        try dsimp only at HFC HFO
        generalize ck ⟨nme, k, dims, ED⟩ = CK at *
        clear hEC
        go_wp2_with fail
        refine HTC.out.mono ?_
        rintro e w6 ⟨rfl, hb6⟩
        have hx46 := H5.out.1.below hb6
        have hx86 := H5.out.2.1.below hb6
        have ho6 := own_keep H5.out.2.2 hb6
        have H6 := Lib.hid (And.intro hx46 (And.intro hx86 ho6))
        clear hb6 HTC c0 c1 c2 c3 f4 a0 a1 a2 a3 hx46 hx86 ho6
        have c0 := H6.out.1.cell 0
        have c1 := H6.out.1.cell 1
        have c2 := H6.out.1.cell 2
        have c3 := H6.out.1.cell 3
        change _ = some _ at c0 c1 c2 c3
        have f4 := fun i => H6.out.1.free i
        by_cases hck : CK ≠ 0
        · have hcb2 : (CK != 0) = true := by simpa using hck
          have HE := Lib.hid (HFC.out hck)
          clear hck
          obtain ⟨wE, hE, hxE⟩ := name_world (P := fun W => Bx w (w.heap.size + 1) #[.string ⟨#[]⟩, .int .i64 0, .slice none 0 0, .string ⟨#[]⟩] 33 W) (H6.out.1.zero4 (by omega))
          have HXE := Lib.hid hxE
          clear hxE
          go_wp2_with fail
          obtain ⟨e0, e1, e2, e3⟩ := HXE.out.four
          exact bodyPost_ret (v := .tuple #[t_tv ⟨#[]⟩ 0 (.slice none 0 0) ⟨#[]⟩, .int .i64 CK]) (by simp [results, Tryz.results7, go_sem, e0, e1, e2, e3]) rfl (tenRes_no HE.out HXE.out.all)
        · obtain rfl : CK = 0 := by omega
          have HE := Lib.hid (HFO.out rfl)
          obtain ⟨a0, a1, a2, a3⟩ := H6.out.2.1.four
          obtain ⟨wE, hE, hxE⟩ := name_world (P := fun W => Bx w (w.heap.size + 1) #[.string nme, .int .i64 k, .slice da dims.length dc, .string ED] 33 W ∧ W.ownsRow w.heap.size 2 1 (.slice da dims.length dc) dims.length (iv dims))
            ⟨H6.out.1.four_put (by omega) (.string nme) (.int .i64 k) (.slice da dims.length dc) (.string ED), own_set (own_set (own_set (own_set H6.out.2.2 (own_far H6.out.2.2 H6.out.1.1 (by decide)) 0 (.string nme)) (own_far H6.out.2.2 H6.out.1.1 (by decide)) 1 (.int .i64 k)) (own_far H6.out.2.2 H6.out.1.1 (by decide)) 2 (.slice da dims.length dc)) (own_far H6.out.2.2 H6.out.1.1 (by decide)) 3 (.string ED)⟩
          have HXE := Lib.hid hxE
          clear hck hxE
          go_wp2_with fail
          obtain ⟨e0, e1, e2, e3⟩ := HXE.out.1.four
          exact bodyPost_ret (v := .tuple #[t_tv nme k (.slice da dims.length dc) ED, .int .i64 0]) (by simp [results, Tryz.results7, go_sem, e0, e1, e2, e3]) rfl (tenRes_yes (t := ⟨nme, k, dims, ED⟩) HE.out HXE.out.2 HXE.out.1.all)
end Go.Proofs.YtmmcfhgbjmfbaaaGreat
