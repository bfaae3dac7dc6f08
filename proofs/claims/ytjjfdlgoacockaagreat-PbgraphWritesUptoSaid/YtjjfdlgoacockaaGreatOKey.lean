import Derived.Test.YtjjfdlgoacockaaGreatOParts
import Derived.Test.YtjjfdlgoacockaaGreatOPart
import Derived.Test.YtjjfdlgoacockaaGreatMath
namespace Go.Proofs.YtjjfdlgoacockaaGreat
open Go.RowKit M8 Go.Shelf
attribute [local go_sem] Oper.semAt_some

theorem box_new (W : World) (v : Value) (t : TypeId) : (W.alloc (.cells #[v] t)).cell? ⟨W.heap.size, 0, none⟩ = some v ∧ (W.alloc (.cells #[v] t)).frozen? ⟨W.heap.size, 0, none⟩ = false :=
  ⟨cell_of_row _ _ 0 _ t _ (heap_alloc_new W _), frozen_of_row _ _ 0 _ t (heap_alloc_new W _)⟩
theorem box_more {W : World} {a : Addr} {v : Value} (o : Obj) (h : W.cell? a = some v) : (W.alloc o).cell? a = some v := cell_kept h (World.grownBy_alloc W o none) (fun r e => by cases e)
theorem box_more' {W : World} {a : Addr} {v : Value} (o : Obj) (h : W.cell? a = some v) (hf : W.frozen? a = false) : (W.alloc o).frozen? a = false := (frozen_kept h (World.grownBy_alloc W o none) (fun r e => by cases e)).trans hf
def AllOk (pre : List Pt) : Prop := (ptl pre).all okp = true
def SomeBad (pre : List Pt) : Prop := (ptl pre).all okp = false
theorem AllOk.nil : AllOk [] := rfl
theorem AllOk.snoc {pre : List Pt} {x : Pt} (h : AllOk pre) (hx : okp x.1.data.toList = true) : AllOk (pre ++ [x]) := by
  unfold AllOk at *; rw [ptl_snoc, List.all_append, h]; simp [hx]
theorem SomeBad.snoc {pre : List Pt} {x : Pt} (hx : okp x.1.data.toList = false) : SomeBad (pre ++ [x]) := by
  unfold SomeBad; rw [ptl_snoc, List.all_append]; simp [hx]
theorem SomeBad.whole {pre : List Pt} {l : List (List UInt8)} (h : SomeBad pre) (hp : ptl pre <+: l) : l.all okp = false := by
  obtain ⟨t, rfl⟩ := hp
  rw [List.all_append, h]; rfl

set_option maxRecDepth 100000 in
set_option maxHeartbeats 2000000 in
theorem key_short (s : ByteArray) (w : World) (hs : s.size ≤ 255) :
    Calls Tryz.prog 56 #[.string s] w fun e W' => e = .returned (.bool (keyB s)) ∧ Below w.heap.size w W' := by
  rw [keyB_pts, decide_eq_true hs, Bool.true_and]
  have hsi : ¬ (255 : Int) < (s.size : Int) := by omega
  refine (callsIn_wide (n := 6)).1 ?_
  have hf : Fence.wide.fn 96 := trivial
  have hf2 : Fence.wide.fn 97 := trivial
  refine callsIn_of_wp_marks Tryz.func56 rfl trivial ?_ rfl
  simp only [Tryz.ntmps56, List.size_toArray, List.length_cons, List.length_nil, Nat.reduceAdd, Nat.reduceSub, Array.replicate_succ, Array.replicate_zero, List.push_toArray, List.append_toArray, List.nil_append, List.cons_append]
  gi_wp2_with (gi_at_call 96; refine (parts_in _ _ _).mono ?_; rintro e w' ⟨rfl, rfl⟩)
  have c1 := box_new w (.bool false) 4
  have c2 := box_new (w.alloc (.cells #[.bool false] 4)) (.string s) 9
  simp only [World.size_alloc] at c2
  have hB0 : Below w.heap.size w ((w.alloc (.cells #[.bool false] 4)).alloc (.cells #[.string s] 9)) := ((Below.refl _ w).alloc (Nat.le_refl _) _).alloc (by simp) _
  refine wpIn_rangeFunc_ownF rfl (by omega) (gf := 140) (lb := #[.pointer (some ⟨w.heap.size + 1, 0, none⟩)]) rfl trivial (enters_of Tryz.func140 (by kernel_rfl) rfl)
    (parts_stops (6 - 1) (by omega) (w.heap.size + 1) w.heap.size s hs _ (by simp) c2.1) belowK_t (belowK_b (by simp; omega)) (Below.refl _ _) (fun _ => rfl)
    (fun pre W => (AllOk pre ∧ W.cell? ⟨w.heap.size, 0, none⟩ = some (.bool false) ∧ W.frozen? ⟨w.heap.size, 0, none⟩ = false) ∧ Below w.heap.size w W)
    (fun c pre W => (c = .ret ∧ SomeBad pre ∧ W.cell? ⟨w.heap.size, 0, none⟩ = some (.bool false)) ∧ Below w.heap.size w W)
    (OwnFrom.and (Own.from (fun s A B row hs hg hr => ⟨hs.1, cell_kept hs.2.1 hg hr, (frozen_kept hs.2.1 hg hr).trans hs.2.2⟩) _) (ownFrom_below (Nat.le_refl _) (by simp; omega)))
    (fun c => OwnFrom.and (Own.from (fun s A B row hs hg hr => ⟨hs.1, hs.2.1, cell_kept hs.2.2 hg hr⟩) _) (ownFrom_below (Nat.le_refl _) (by simp; omega)))
    ⟨⟨AllOk.nil, box_more _ c1.1, box_more' _ c1.1 c1.2⟩, hB0⟩
    (fun x => { tmps := #[.string s, undef, .pointer (some ⟨w.heap.size, 0, none⟩), .string x.1, .string s, .int .i64 s.size, .bool false, .string s, .func (.func 140) #[] #[.pointer (some ⟨w.heap.size + 1, 0, none⟩)], .string x.1, undef, undef, undef], defers := [] }) ?assign ?body ?done ?stop
  case assign =>
    intro l x W K hK
    gi_wp2
    exact hK
  case body =>
    rintro l pre x W ⟨⟨hp, hcr, hfr⟩, hB⟩ _
    have hm : x.1.size ≤ maxLen := by have := x.2; unfold maxLen; omega
    have h0 := mayBe_any x.1 W hm
    cases hx : okp x.1.data.toList
    · rw [hx] at h0
      have HM := Lib.hid h0
      have HX := Lib.hid hx
      clear h0 hx
      gi_wp2_with (gi_at_call 97; refine (CallsIn.inRound l (callsIn_wide.2 HM.out)).mono ?_; rintro e w' ⟨rfl, rfl⟩)
      exact ⟨KeepsOthers.setCell _ _ _, ⟨rfl, SomeBad.snoc HX.out, World.cell?_setCell_same' _ _ _ (by rw [hcr]; rfl)⟩, hB.setCell (p := ⟨w.heap.size, 0, none⟩) (Nat.le_refl _) _⟩
    · rw [hx] at h0
      have HM := Lib.hid h0
      have HX := Lib.hid hx
      clear h0 hx
      gi_wp2_with (gi_at_call 97; refine (CallsIn.inRound l (callsIn_wide.2 HM.out)).mono ?_; rintro e w' ⟨rfl, rfl⟩)
      exact ⟨KeepsOthers.refl _, Below.refl _ _, ⟨AllOk.snoc hp HX.out, hcr, hfr⟩, hB⟩
  case done =>
    rintro D ys W hD hys ⟨⟨hne, hcr, hfr⟩, hB⟩ hK
    gi_wp2
    have hK' := (KeepsOthers.setCell W ⟨w.heap.size, 0, none⟩ (.bool true)).same D _ hK rfl
    refine ⟨by simp, .inl ⟨_, _, rfl, run_takeDeferred hK', ?_⟩⟩
    have hc5 := cell_kept (World.cell?_setCell_same' W ⟨w.heap.size, 0, none⟩ (.bool true) (by rw [hcr]; rfl)) (grownBy_putObj' _ D (.deferred none)) (fun r e => by cases e; exact ⟨_, hK', rfl⟩)
    refine ⟨.bool true, ?_, by unfold AllOk at hne; rw [← hys, hne], (hB.setCell (p := ⟨w.heap.size, 0, none⟩) (Nat.le_refl _) _).trans (belowK_b (w := w) (Nat.le_refl _) _ D _ _ (by simp at hD; omega) hK' rfl rfl)⟩
    simp [results, Tryz.results56, go_sem, hc5]
  case stop =>
    rintro D c pre W hD hpre ⟨⟨rfl, hin, hcr⟩, hB⟩ hK
    gi_wp2
    refine ⟨by simp, .inl ⟨_, _, rfl, run_takeDeferred hK, ?_⟩⟩
    have hc5 := cell_kept hcr (grownBy_putObj' _ D (.deferred none)) (fun r e => by cases e; exact ⟨_, hK, rfl⟩)
    refine ⟨.bool false, ?_, by rw [SomeBad.whole hin hpre], hB.trans (belowK_b (w := w) (Nat.le_refl _) W D _ _ (by simp at hD; omega) hK rfl rfl)⟩
    simp [results, Tryz.results56, go_sem, hc5]

set_option maxRecDepth 100000 in
theorem key_any (s : ByteArray) (w : World) :
    Calls Tryz.prog 56 #[.string s] w fun e W' => e = .returned (.bool (keyB s)) ∧ Below w.heap.size w W' := by
  by_cases h : s.size ≤ 255
  · exact key_short s w h
  · have hi : (255 : Int) < (s.size : Int) := by omega
    have hk : keyB s = false := by unfold keyB; rw [decide_eq_false h]; rfl
    rw [hk]
    clear hk h
    go_enter Tryz.func56, Tryz.ntmps56
    go_wp2
    exact bodyPost_ret (v := .bool false) (by simp [results, Tryz.results56, go_sem]) rfl ⟨rfl, (Below.refl _ w).alloc (Nat.le_refl _) _⟩
end Go.Proofs.YtjjfdlgoacockaaGreat
namespace Go.Proofs.YtjjfdlgoacockaaGreat
open Go.RowKit M8
theorem key_is (s : ByteArray) (b : Bool) (h : keyB s = b) (w : World) : Calls Tryz.prog 56 #[.string s] w fun e W' => e = .returned (.bool b) ∧ Below w.heap.size w W' := by rw [← h]; exact key_any s w
set_option maxRecDepth 100000 in
theorem oawake_any (w : World) : Calls Tryz.prog 61 #[] w fun e w' => e = .returned (.bool true) ∧ Below w.heap.size w w' := by
  have H1 := Lib.hid (key_is ⟨#[119, 47, 97, 46, 98, 105, 110]⟩ true (by decide +kernel))
  have H2 := Lib.hid (key_is ⟨#[46, 46, 47, 97]⟩ false (by decide +kernel))
  have H3 := Lib.hid (key_is ⟨#[47, 97]⟩ false (by decide +kernel))
  have H4 := Lib.hid (key_is ⟨#[97, 47, 47, 98]⟩ false (by decide +kernel))
  go_enter Tryz.func61, Tryz.ntmps61
  go_wp2_with fail
  refine (H1.out _).mono ?_
  rintro e w1 ⟨rfl, hb1⟩
  have B1 := Lib.hid hb1
  clear hb1
  go_wp2_with fail
  refine (H2.out _).mono ?_
  rintro e w2 ⟨rfl, hb2⟩
  have B2 := Lib.hid (step_below B1.out hb2)
  clear hb2 B1
  go_wp2_with fail
  refine (H3.out _).mono ?_
  rintro e w3 ⟨rfl, hb3⟩
  have B3 := Lib.hid (step_below B2.out hb3)
  clear hb3 B2
  go_wp2_with fail
  refine (H4.out _).mono ?_
  rintro e w4 ⟨rfl, hb4⟩
  have B4 := Lib.hid (step_below B3.out hb4)
  clear hb4 B3
  go_wp2_with fail
  go_ret
  exact ⟨rfl, B4.out⟩
end Go.Proofs.YtjjfdlgoacockaaGreat
