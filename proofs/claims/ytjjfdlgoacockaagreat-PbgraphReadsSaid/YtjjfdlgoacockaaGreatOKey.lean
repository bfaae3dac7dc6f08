import Derived.Test.YtjjfdlgoacockaaGreatOParts
import Derived.Test.YtjjfdlgoacockaaGreatOPart
import Derived.Test.YtjjfdlgoacockaaGreatMath
import Derived.Test.YtjjfdlgoacockaaGreatTMade
import Derived.Maps.OwnOps
namespace Go.Proofs.YtjjfdlgoacockaaGreat
open Go.RowKit M8 Go.Shelf
attribute [local go_sem] Oper.semAt_some

theorem box_new (W : World) (v : Value) (t : TypeId) : (W.alloc (.cells #[v] t)).cell? ⟨W.heap.size,0,none⟩ = some v∧(W.alloc (.cells #[v] t)).frozen? ⟨W.heap.size,0,none⟩ = false :=
  ⟨cell_of_row _ _ 0 _ t _ (heap_alloc_new W _),frozen_of_row _ _ 0 _ t (heap_alloc_new W _)⟩
theorem box_more {W : World} {a : Addr} {v : Value} (o : Obj) (h : W.cell? a = some v) : (W.alloc o).cell? a = some v := cell_kept h (World.grownBy_alloc W o none) (fun r e => by cases e)
theorem box_more' {W : World} {a : Addr} {v : Value} (o : Obj) (h : W.cell? a = some v) (hf : W.frozen? a = false) : (W.alloc o).frozen? a = false := (frozen_kept h (World.grownBy_alloc W o none) (fun r e => by cases e)).trans hf
def AllOk (pre : List Pt) : Prop := (ptl pre).all okp = true
def SomeBad (pre : List Pt) : Prop := (ptl pre).all okp = false
theorem AllOk.nil : AllOk [] := rfl
theorem AllOk.snoc {pre : List Pt} {x : Pt} (h : AllOk pre) (hx : okp x.1.data.toList = true) : AllOk (pre ++ [x]) := by
  unfold AllOk at *; rw [ptl_snoc,List.all_append,h]; simp [hx]
theorem SomeBad.snoc {pre : List Pt} {x : Pt} (hx : okp x.1.data.toList = false) : SomeBad (pre ++ [x]) := by
  unfold SomeBad; rw [ptl_snoc,List.all_append]; simp [hx]
theorem SomeBad.whole {pre : List Pt} {l : List (List UInt8)} (h : SomeBad pre) (hp : ptl pre <+: l) : l.all okp = false := by
  obtain ⟨t,rfl⟩ := hp
  rw [List.all_append,h]; rfl

set_option maxRecDepth 100000 in
set_option maxHeartbeats 2000000 in
theorem key_short (s : ByteArray) (w : World) (hs : s.size≤255) :
    Calls Tryz.prog 56 #[.string s] w fun e W' => e = .returned (.bool (keyB s))∧Below w.heap.size w W' := by
  rw [keyB_pts,decide_eq_true hs,Bool.true_and]
  have hsi : ¬ (255 : Int) < (s.size : Int) := by omega
  refine (callsIn_wide (n := 6)).1 ?_
  have hf : Fence.wide.fn 96 := trivial
  have hf2 : Fence.wide.fn 97 := trivial
  refine callsIn_of_wp_marks Tryz.func56 rfl trivial ?_ rfl
  simp only [Tryz.ntmps56,List.size_toArray,List.length_cons,List.length_nil,Nat.reduceAdd,Nat.reduceSub,Array.replicate_succ,Array.replicate_zero,List.push_toArray,List.append_toArray,List.nil_append,List.cons_append]
  gi_wp2_with (gi_at_call 96; refine (parts_in _ _ _).mono ?_; rintro e w' ⟨rfl,rfl⟩)
  have c1 := box_new w (.bool false) 4
  have c2 := box_new (w.alloc (.cells #[.bool false] 4)) (.string s) 9
  simp only [World.size_alloc] at c2
  have hB0 : Below w.heap.size w ((w.alloc (.cells #[.bool false] 4)).alloc (.cells #[.string s] 9)) := ((Below.refl _ w).alloc (Nat.le_refl _) _).alloc (by simp) _
  refine wpIn_rangeFunc_ownF rfl (by omega) (gf := 140) (lb := #[.pointer (some ⟨w.heap.size + 1,0,none⟩)]) rfl trivial (enters_of Tryz.func140 (by kernel_rfl) rfl)
    (parts_stops (6 - 1) (by omega) (w.heap.size + 1) w.heap.size s hs _ (by simp) c2.1) belowK_t (belowK_b (by simp; omega)) (Below.refl _ _) (fun _ => rfl)
    (fun pre W => (AllOk pre∧W.cell? ⟨w.heap.size,0,none⟩ = some (.bool false)∧W.frozen? ⟨w.heap.size,0,none⟩ = false)∧Below w.heap.size w W)
    (fun c pre W => (c = .ret∧SomeBad pre∧W.cell? ⟨w.heap.size,0,none⟩ = some (.bool false))∧Below w.heap.size w W)
    (OwnFrom.and (Own.from (fun s A B row hs hg hr => ⟨hs.1,cell_kept hs.2.1 hg hr,(frozen_kept hs.2.1 hg hr).trans hs.2.2⟩) _) (ownFrom_below (Nat.le_refl _) (by simp; omega)))
    (fun c => OwnFrom.and (Own.from (fun s A B row hs hg hr => ⟨hs.1,hs.2.1,cell_kept hs.2.2 hg hr⟩) _) (ownFrom_below (Nat.le_refl _) (by simp; omega)))
    ⟨⟨AllOk.nil,box_more _ c1.1,box_more' _ c1.1 c1.2⟩,hB0⟩
    (fun x => { tmps := #[.string s,undef,.pointer (some ⟨w.heap.size,0,none⟩),.string x.1,.string s,.int .i64 s.size,.bool false,.string s,.func (.func 140) #[] #[.pointer (some ⟨w.heap.size + 1,0,none⟩)],.string x.1,undef,undef,undef],defers := [] }) ?assign ?body ?done ?stop
  case assign =>
    intro l x W K hK
    gi_wp2
    exact hK
  case body =>
    rintro l pre x W ⟨⟨hp,hcr,hfr⟩,hB⟩ _
    have hm : x.1.size≤maxLen := by have := x.2; unfold maxLen; omega
    have h0 := mayBe_any x.1 W hm
    cases hx : okp x.1.data.toList
    · rw [hx] at h0
      have HM := Lib.hid h0
      have HX := Lib.hid hx
      clear h0 hx
      gi_wp2_with (gi_at_call 97; refine (CallsIn.inRound l (callsIn_wide.2 HM.out)).mono ?_; rintro e w' ⟨rfl,rfl⟩)
      exact ⟨KeepsOthers.setCell _ _ _,⟨rfl,SomeBad.snoc HX.out,World.cell?_setCell_same' _ _ _ (by rw [hcr]; rfl)⟩,hB.setCell (p := ⟨w.heap.size,0,none⟩) (Nat.le_refl _) _⟩
    · rw [hx] at h0
      have HM := Lib.hid h0
      have HX := Lib.hid hx
      clear h0 hx
      gi_wp2_with (gi_at_call 97; refine (CallsIn.inRound l (callsIn_wide.2 HM.out)).mono ?_; rintro e w' ⟨rfl,rfl⟩)
      exact ⟨KeepsOthers.refl _,Below.refl _ _,⟨AllOk.snoc hp HX.out,hcr,hfr⟩,hB⟩
  case done =>
    rintro D ys W hD hys ⟨⟨hne,hcr,hfr⟩,hB⟩ hK
    gi_wp2
    have hK' := (KeepsOthers.setCell W ⟨w.heap.size,0,none⟩ (.bool true)).same D _ hK rfl
    refine ⟨by simp,.inl ⟨_,_,rfl,run_takeDeferred hK',?_⟩⟩
    have hc5 := cell_kept (World.cell?_setCell_same' W ⟨w.heap.size,0,none⟩ (.bool true) (by rw [hcr]; rfl)) (grownBy_putObj' _ D (.deferred none)) (fun r e => by cases e; exact ⟨_,hK',rfl⟩)
    refine ⟨.bool true,?_,by unfold AllOk at hne; rw [← hys,hne],(hB.setCell (p := ⟨w.heap.size,0,none⟩) (Nat.le_refl _) _).trans (belowK_b (w := w) (Nat.le_refl _) _ D _ _ (by simp at hD; omega) hK' rfl rfl)⟩
    simp [results,Tryz.results56,go_sem,hc5]
  case stop =>
    rintro D c pre W hD hpre ⟨⟨rfl,hin,hcr⟩,hB⟩ hK
    gi_wp2
    refine ⟨by simp,.inl ⟨_,_,rfl,run_takeDeferred hK,?_⟩⟩
    have hc5 := cell_kept hcr (grownBy_putObj' _ D (.deferred none)) (fun r e => by cases e; exact ⟨_,hK,rfl⟩)
    refine ⟨.bool false,?_,by rw [SomeBad.whole hin hpre],hB.trans (belowK_b (w := w) (Nat.le_refl _) W D _ _ (by simp at hD; omega) hK rfl rfl)⟩
    simp [results,Tryz.results56,go_sem,hc5]

set_option maxRecDepth 100000 in
theorem key_any (s : ByteArray) (w : World) :
    Calls Tryz.prog 56 #[.string s] w fun e W' => e = .returned (.bool (keyB s))∧Below w.heap.size w W' := by
  by_cases h : s.size≤255
  · exact key_short s w h
  · have hi : (255 : Int) < (s.size : Int) := by omega
    have hk : keyB s = false := by unfold keyB; rw [decide_eq_false h]; rfl
    rw [hk]
    clear hk h
    go_enter Tryz.func56,Tryz.ntmps56
    go_wp2
    exact bodyPost_ret (v := .bool false) (by simp [results,Tryz.results56,go_sem]) rfl ⟨rfl,(Below.refl _ w).alloc (Nat.le_refl _) _⟩
end Go.Proofs.YtjjfdlgoacockaaGreat
namespace Go.Proofs.YtjjfdlgoacockaaGreat
open Go.RowKit M8
theorem key_is (s : ByteArray) (b : Bool) (h : keyB s = b) (w : World) : Calls Tryz.prog 56 #[.string s] w fun e W' => e = .returned (.bool b)∧Below w.heap.size w W' := by rw [← h]; exact key_any s w
set_option maxRecDepth 100000 in
theorem oawake_any (w : World) : Calls Tryz.prog 61 #[] w fun e w' => e = .returned (.bool true)∧Below w.heap.size w w' := by
  have H1 := Lib.hid (key_is ⟨#[119,47,97,46,98,105,110]⟩ true (by decide +kernel))
  have H2 := Lib.hid (key_is ⟨#[46,46,47,97]⟩ false (by decide +kernel))
  have H3 := Lib.hid (key_is ⟨#[47,97]⟩ false (by decide +kernel))
  have H4 := Lib.hid (key_is ⟨#[97,47,47,98]⟩ false (by decide +kernel))
  go_enter Tryz.func61,Tryz.ntmps61
  go_wp2_with fail
  refine (H1.out _).mono ?_
  rintro e w1 ⟨rfl,hb1⟩
  have B1 := Lib.hid hb1
  clear hb1
  go_wp2_with fail
  refine (H2.out _).mono ?_
  rintro e w2 ⟨rfl,hb2⟩
  have B2 := Lib.hid (step_below B1.out hb2)
  clear hb2 B1
  go_wp2_with fail
  refine (H3.out _).mono ?_
  rintro e w3 ⟨rfl,hb3⟩
  have B3 := Lib.hid (step_below B2.out hb3)
  clear hb3 B2
  go_wp2_with fail
  refine (H4.out _).mono ?_
  rintro e w4 ⟨rfl,hb4⟩
  have B4 := Lib.hid (step_below B3.out hb4)
  clear hb4 B3
  go_wp2_with fail
  go_ret
  exact ⟨rfl,B4.out⟩
end Go.Proofs.YtjjfdlgoacockaaGreat
namespace Go.Proofs.YtjjfdlgoacockaaGreat
open Go.RowKit M8 Go.Maps Go.ChangeMaps

theorem strLaw : Keyed Tryz.prog 9 := string_keyed Tryz.underlying9
set_option maxRecDepth 100000 in
theorem strZero (w : World) : (zeroValue 9).run Tryz.prog w = .ok (.string ⟨#[]⟩) w := by kernel_rfl
def FM (b : Nat) (l : List Fl) (w : World) : Prop := w.ownsMap Tryz.prog 9 (plainElem Tryz.prog 9) b l.length (fdat l)
theorem keyOf_fk {s : ByteArray} (h : s.size≤maxLen) : keyOf Tryz.prog 9 (.string s) = some (fk s) := by
  unfold keyOf
  simp [Tryz.underlying9,mapKey,h,fk]
theorem FM.start (w : World) : FM w.heap.size [] (w.alloc (.map #[] 0)) := World.ownsMap_made _ _ _ _
theorem FM.look {b : Nat} {l : List Fl} {w : World} (h : FM b l w) {s : ByteArray} (hs : s.size≤maxLen) :
    (s ∉ keys l∧(Instr.lookup 23 (.map (some b)) (.string s) true).run Tryz.prog w = .ok (.tuple #[.string ⟨#[]⟩,.bool false]) w) ∨
    (s ∈ keys l∧∃ d,(Instr.lookup 23 (.map (some b)) (.string s) true).run Tryz.prog w = .ok (.tuple #[.string d,.bool true]) w∧((keys l).Nodup→∀ f ∈ l,f.key = s→f.data = d)) := by
  rcases own_look_ok h strLaw Tryz.underlying23 (strZero w) (keyOf_fk hs) with ⟨h0,hrun⟩ | ⟨v,y,h1,hrun,hv,hat⟩
  · rw [fdat_has,decide_eq_false_iff_not] at h0
    exact .inl ⟨h0,hrun⟩
  · rw [fdat_has,decide_eq_true_eq] at h1
    obtain ⟨d,rfl,rfl,_⟩ := plainElem_string_inv Tryz.underlying9 hv
    refine .inr ⟨h1,d,hrun,fun hn f hf e => ?_⟩
    have h2 := hat .nil
    rw [← e,fdat_at hn hf] at h2
    exact fk_inj (by unfold fv at h2; unfold fk; simpa using h2)
theorem FM.store {b : Nat} {l : List Fl} {w : World} {k : Nat} (h : FM b (l.take k) w) (hk : k < l.length) (hl : l.length≤100) (hs : l[k].key.size≤maxLen) (hd : l[k].data.size≤maxLen) :
    ∃ w',(Instr.mapUpdate 23 (.map (some b)) (.string l[k].key) (.string l[k].data)).run Tryz.prog w = .ok () w'∧FM b (l.take (k + 1)) w'∧w.grownBy w' (some b) := by
  obtain ⟨w',r,h1,h2⟩ := h.update (val := .string l[k].data) strLaw Tryz.underlying23 (by simp; unfold maxLen; omega) (keyOf_fk hs) (plainElem_string Tryz.underlying9 hd)
  refine ⟨w',r,?_,h2⟩
  unfold FM
  rw [List.take_succ_eq_append_getElem hk,fdat_snoc]
  have e : (List.take k l ++ [l[k]]).length = (List.take k l).length + 1 := by rw [List.length_append]; rfl
  rw [e]
  exact h1
def o_St (B : Nat) (l : List Fl) (mb : Option Nat) (w : World) : Prop := (l = []∧mb = none)∨∃ b,mb = some b∧B≤b∧FM b l w∧(keys l).Nodup
def NewRes (l : List Fl) (w : World) (e : Ending) (w' : World) : Prop :=
  ∃ mb,e = .returned (.tuple #[.agg #[.map mb],.int .i64 (newC l)])∧o_St w.heap.size (kept l) mb w'∧Below w.heap.size w w'
theorem newRes_no {l : List Fl} {w w' : World} {c : Int} (h : newC l = c) (hc : c≠0) (hb : Below w.heap.size w w') : NewRes l w (.returned (.tuple #[.agg #[.map none],.int .i64 c])) w' :=
  ⟨none,by rw [h],.inl ⟨kept_no h hc,rfl⟩,hb⟩
def NRel (l : List Fl) (k : Nat) (w wr : World) : Prop :=
  wr.heap[w.heap.size]? = some (.cells #[.map none] 25 (0,0))∧FM (w.heap.size + 1) (l.take k) wr∧Gone l k∧Below w.heap.size w wr∧w.heap.size + 1 < wr.heap.size

theorem res_cell {w W : World} {T : TypeId} {a : Value} (h : W.heap[w.heap.size]? = some (.cells #[a] T (0,0))) (hb : Below w.heap.size w W) (v : Value) :
    (W.setCell ⟨w.heap.size,0,none⟩ v).cell? ⟨w.heap.size,0,none⟩ = some v∧Below w.heap.size w (W.setCell ⟨w.heap.size,0,none⟩ v) :=
  ⟨cell_of_row _ _ 0 _ T _ (heap_setCell_same _ _ 0 _ T v h),hb.setCell (p := ⟨w.heap.size,0,none⟩) (Nat.le_refl _) v⟩
theorem makeMap_hint (n : Int) (w : World) : (Instr.makeMap 23 (some (.int .i64 n))).run Tryz.prog w = .ok (.map (some w.heap.size)) (w.alloc (.map #[] 0)) := by kernel_rfl
set_option maxRecDepth 100000 in
theorem new_any (l : List Fl) (A : Option Addr) (c : Nat) (w : World) (hl : l.length ≤ 4398046510976) (hs : ∀ f ∈ l, f.key.size ≤ maxLen ∧ f.data.size ≤ maxLen) (hA : SR w w.heap.size 2 A l.length (fcl l)) :
    Calls Tryz.prog 15 #[.slice A l.length c] w (NewRes l w) := by
  by_cases h64 : 64 < l.length
  · have hi : (64 : Int) < (l.length : Int) := by omega
    have HC := Lib.hid (fun w' => newRes_no (w := w) (w' := w') (newC_size h64) (by decide))
    clear h64
    go_enter Tryz.func15,Tryz.ntmps15
    go_wp2_with fail
    exact bodyPost_ret (v := .tuple #[.agg #[.map none],.int .i64 7]) (by simp [results,Tryz.results15,go_sem]) rfl (HC.out _ ((Below.refl _ w).alloc (Nat.le_refl _) _))
  · have hi : ¬ (64 : Int) < (l.length : Int) := by omega
    replace hl : l.length≤100 := by omega
    have HG := Lib.hid (Gone.start (l := l) (by omega))
    have hmm := makeMap_hint (l.length : Int)
    have hr0 : NRel l 0 w ((w.alloc (.cells #[.map none] 25)).alloc (.map #[] 0)) := by
      have h0 := FM.start (w.alloc (.cells #[.map none] 25))
      rw [World.size_alloc] at h0
      refine ⟨blk_alloc (heap_alloc_new w _) _,h0,HG.out,((Below.refl _ w).alloc (Nat.le_refl _) _).alloc (by simp) _,by simp⟩
    have HR0 := Lib.hid hr0
    clear h64 hr0
    go_enter Tryz.func15,Tryz.ntmps15
    go_wp2_with fail
    clear hmm
    go_loopw [6,7,8,18] (fun _ _ _ i wr => ∃ (k : Nat) (K : Int),i = .int .i64 K∧K = (k : Nat)∧k≤l.length∧NRel l k w wr) (fun _ _ _ i _ => l.length - (intOf i).toNat)
    case atStart => exact ⟨0,_,rfl,rfl,by omega,HR0.out⟩
    case round =>
      obtain ⟨k,K,rfl,rfl,hk,hres,hmap,hg,hb,hz⟩ := hrel
      have HRES := Lib.hid hres
      have HM := Lib.hid hmap
      have HG2 := Lib.hid hg
      have HB := Lib.hid hb
      clear hres hmap hg HG HR0
      by_cases hlt : k < l.length
      · obtain ⟨b,o,rfl,hbb,x0,x1⟩ := file_at (hA.below hb) hlt
        have hsz := hs l[k] (List.getElem_mem hlt)
        clear hb
        have HK := Lib.hid (fun W => key_any l[k].key W)
        cases hkb : keyB l[k].key
        · rw [hkb] at HK
          have HC := Lib.hid (fun w' => newRes_no (w := w) (w' := w') (HG2.out.path hlt hkb) (by decide))
          clear hkb
          go_wp2_with fail
          refine (HK.out _).mono ?_
          rintro e w1 ⟨rfl,hb1⟩
          have hblk := (hb1.block w.heap.size (by simp; omega)).trans (blk_alloc HRES.out _)
          obtain ⟨hc0,hB2⟩ := res_cell hblk (step_below (HB.out.alloc HB.out.size _) hb1) (.map none)
          have HC2 := Lib.hid hc0
          have HB2 := Lib.hid hB2
          have c0 := cell_of_row _ _ 0 _ _ _ hblk
          have f0 := frozen_of_row _ _ 0 _ _ hblk
          clear hb1 hblk hB2 hc0
          go_wp2_with fail
          have hc0 := HC2.out
          exact bodyPost_ret (v := .tuple #[.agg #[.map none],.int .i64 9]) (by simp [results,Tryz.results15,go_sem,hc0]) rfl (HC.out _ HB2.out)
        · rw [hkb] at HK
          have HKB := Lib.hid hkb
          clear hkb
          go_wp2_with fail
          refine (HK.out _).mono ?_
          rintro e w1 ⟨rfl,hb1⟩
          have hblk := (hb1.block w.heap.size (by simp; omega)).trans (blk_alloc HRES.out _)
          have hfb := (hb1.block wr.heap.size (by simp)).trans (heap_alloc_new wr _)
          have hB1 := step_below (HB.out.alloc HB.out.size _) hb1
          have hm1 : FM (w.heap.size + 1) (l.take k) w1 := own_map_below (HM.out.alloc _) hb1 (by simp; omega)
          have p0 := cell_of_row _ _ 0 _ _ _ hfb
          have p1 := cell_of_row _ _ 1 _ _ _ hfb
          have hz1 := hb1.size
          have HZ1 := Lib.hid (show w.heap.size + 1 < w1.heap.size by simp at hz1; omega)
          have HFB := Lib.hid hfb
          rcases hm1.look hsz.1 with ⟨hni,hrun⟩ | ⟨hin,d,hrun,-⟩
          · obtain ⟨w2,hst,hm2,hg2⟩ := hm1.store hlt hl hsz.1 hsz.2
            have HX : Hid (NRel l (k + 1) w w2) := Lib.hid ⟨blk_grown hblk hg2 (by simp),hm2,HG2.out.next hlt HKB.out hni,hB1.grown hg2 hB1.size (fun q hq => by cases hq; omega),by have := hg2.size; have := HZ1.out; omega⟩
            clear hb1 hblk hfb hB1 hm1 hz1 hni hm2 hg2
            go_wp2_with fail
            go_roundw
            case rel => exact ⟨k + 1,_,rfl,by omega,by omega,HX.out⟩
            case measure => simp [intOf]; omega
          · have HC := Lib.hid (fun w' => newRes_no (w := w) (w' := w') (HG2.out.twice hlt HKB.out hin) (by decide))
            obtain ⟨hc0,hB2⟩ := res_cell hblk hB1 (.map none)
            have HC2 := Lib.hid hc0
            have HB2 := Lib.hid hB2
            have c0 := cell_of_row _ _ 0 _ _ _ hblk
            have f0 := frozen_of_row _ _ 0 _ _ hblk
            clear hb1 hblk hfb hB1 hm1 hz1 hin hB2 hc0
            go_wp2_with fail
            have hc0 := HC2.out
            exact bodyPost_ret (v := .tuple #[.agg #[.map none],.int .i64 14]) (by simp [results,Tryz.results15,go_sem,hc0]) rfl (HC.out _ HB2.out)
      · obtain rfl : k = l.length := by omega
        obtain ⟨he,hn⟩ := HG2.out.end_
        have hm := HM.out
        rw [List.take_length] at hm
        have c0 := cell_of_row _ _ 0 _ _ _ HRES.out
        have f0 := frozen_of_row _ _ 0 _ _ HRES.out
        obtain ⟨hc0,hB2⟩ := res_cell HRES.out HB.out (.map (some (w.heap.size + 1)))
        have hR : NewRes l w (.returned (.tuple #[.agg #[.map (some (w.heap.size + 1))],.int .i64 0])) (wr.setCell ⟨w.heap.size,0,none⟩ (.map (some (w.heap.size + 1)))) :=
          ⟨_,by rw [he],.inr ⟨_,rfl,by omega,by rw [kept_yes he]; exact hm.setCell (by simp) _,by rw [kept_yes he]; exact hn⟩,hB2⟩
        have HR := Lib.hid hR
        have HC2 := Lib.hid hc0
        clear hb he hn hm hc0 hB2 hR
        go_wp2_with fail
        have hc0 := HC2.out
        exact bodyPost_ret (v := .tuple #[.agg #[.map (some (w.heap.size + 1))],.int .i64 0]) (by simp [results,Tryz.results15,go_sem,hc0]) rfl HR.out
end Go.Proofs.YtjjfdlgoacockaaGreat
