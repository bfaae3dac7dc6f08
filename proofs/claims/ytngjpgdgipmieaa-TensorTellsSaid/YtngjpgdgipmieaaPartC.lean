/- Own texts, put together: KMap, Lift, KSize, TMade, TOf, TName, SSize, TCheck, KAwake, SDim, SBroad, SMathTwo, SBack, SSame, SAwake. -/
import Derived.Test.YtngjpgdgipmieaaRows
import Derived.Test.YtngjpgdgipmieaaPartA
import Derived.Test.YtngjpgdgipmieaaPartB
import Derived.Outline
import Derived.WalkSpells
import Derived.WalkMore
import Derived.WalkKit
import Derived.ProofKit
import Derived.OpenShut
import Derived.ShutString
import Derived.ChangeOld
import Derived.Below
import Derived.BigQuiet
import Derived.Lib.QuietBelow
import Derived.OwnWalk
/- The walk of kind.kinds: a map of the call's own that reads as what kinds are; what is looked up in it. -/
namespace Go.Proofs.Ytngjpgdgipmieaa
open Go.RowKit Go.Maps Go.ChangeMaps

theorem kindLaw : Keyed Try.prog 22 := int_keyed Try.underlying22
set_option maxRecDepth 100000 in
theorem kindZero (w : World) : (zeroValue 99).run Try.prog w = .ok (.agg #[.string ⟨#[]⟩, .int .i64 0]) w := by kernel_rfl
/-- block b is the map of all kinds -/
def KM (b : Nat) (w : World) : Prop := w.ownsMap Try.prog 22 abR b 5 kMap
def KindsRes (B : Nat) (w : World) (e : Ending) (w' : World) : Prop := ∃ b, e = .returned (.map (some b)) ∧ KM b w' ∧ B ≤ b ∧ Below B w w'

set_option maxRecDepth 100000 in
theorem km_look {b : Nat} {w : World} (h : KM b w) (k : Int) (hw : (Lit.int .i64 k).wf = true) :
    (Instr.lookup 100 (.map (some b)) (.int .i64 k) false).run Try.prog w = .ok (.agg #[.string (mWord k), .int .i64 (kSize k)]) w := by
  obtain ⟨v, ps, hrun, hv⟩ := h.lookup kindLaw Try.underlying100 (kindZero w) (abR_mk _ _) (keyOf_int_mk Try.underlying22 hw)
  rw [hrun]
  congr 1
  cases hk : isKind k
  · have e : kMap.atKey (.int .i64 k) _ = _ := kMap_at_not hk (DataW.agg [.lit (.string (⟨#[]⟩ : ByteArray).data.toList), .lit (.int .i64 0)])
    rw [e] at hv
    refine abR_of hv ?_
    unfold abOf
    rw [mWord_none hk, kSize_none hk]
  · exact abR_of hv (kMap_at hk _)
set_option maxRecDepth 100000 in
theorem km_look_ok {b : Nat} {w : World} (h : KM b w) (k : Int) (hw : (Lit.int .i64 k).wf = true) :
    (Instr.lookup 100 (.map (some b)) (.int .i64 k) true).run Try.prog w = .ok (.tuple #[.agg #[.string (mWord k), .int .i64 (kSize k)], .bool (isKind k)]) w := by
  rcases own_look_ok h kindLaw Try.underlying100 (kindZero w) (keyOf_int_mk Try.underlying22 hw) with ⟨h0, hrun⟩ | ⟨v, y, h1, hrun, hv, hat⟩
  · have hk : isKind k = false := by
      cases hk : isKind k
      · rfl
      · have h1 := (kMap_has _).2 ⟨k, hk, rfl⟩
        rw [show kKey k = .int .i64 k from rfl, h0] at h1; cases h1
    rw [hrun, hk, mWord_none hk, kSize_none hk]
  · obtain ⟨k', hk, e⟩ := (kMap_has _).1 h1
    have hkk : k = k' := by unfold kKey at e; injection e
    subst hkk
    rw [hrun, hk, abR_of hv (by rw [← hat .nil]; exact kMap_at hk _)]

set_option maxRecDepth 100000 in
theorem kinds_any (w : World) : Calls Try.prog 58 #[] w (KindsRes w.heap.size w) := by
  have hmm := @run_makeMap Try.prog
  have h0 : (w.alloc (.map #[] 0)).ownsMap Try.prog 22 abR w.heap.size 0 (.map []) := World.ownsMap_made _ _ _ _
  obtain ⟨w1, r1, h1, g1⟩ := h0.update (val := .agg #[.string (mWord 1), .int .i64 (kSize 1)]) kindLaw Try.underlying100 (by decide) (keyOf_int_mk Try.underlying22 (a := 1) (by decide)) (abR_mk _ _)
  obtain ⟨w2, r2, h2, g2⟩ := h1.update (val := .agg #[.string (mWord 2), .int .i64 (kSize 2)]) kindLaw Try.underlying100 (by decide) (keyOf_int_mk Try.underlying22 (a := 2) (by decide)) (abR_mk _ _)
  obtain ⟨w3, r3, h3, g3⟩ := h2.update (val := .agg #[.string (mWord 7), .int .i64 (kSize 7)]) kindLaw Try.underlying100 (by decide) (keyOf_int_mk Try.underlying22 (a := 7) (by decide)) (abR_mk _ _)
  obtain ⟨w4, r4, h4, g4⟩ := h3.update (val := .agg #[.string (mWord 9), .int .i64 (kSize 9)]) kindLaw Try.underlying100 (by decide) (keyOf_int_mk Try.underlying22 (a := 9) (by decide)) (abR_mk _ _)
  obtain ⟨w5, r5, h5, g5⟩ := h4.update (val := .agg #[.string (mWord 14), .int .i64 (kSize 14)]) kindLaw Try.underlying100 (by decide) (keyOf_int_mk Try.underlying22 (a := 14) (by decide)) (abR_mk _ _)
  have hb : Below w.heap.size w w5 := by
    have b0 : Below w.heap.size w (w.alloc (.map #[] 0)) := (Below.refl _ _).alloc (Nat.le_refl _) _
    have s0 : w.heap.size ≤ (w.alloc (.map #[] 0)).heap.size := by simp
    have b1 := b0.grown g1 s0 (fun k hk => by cases hk; exact Nat.le_refl _)
    have s1 := Nat.le_trans s0 g1.size
    have b2 := b1.grown g2 s1 (fun k hk => by cases hk; exact Nat.le_refl _)
    have s2 := Nat.le_trans s1 g2.size
    have b3 := b2.grown g3 s2 (fun k hk => by cases hk; exact Nat.le_refl _)
    have s3 := Nat.le_trans s2 g3.size
    have b4 := b3.grown g4 s3 (fun k hk => by cases hk; exact Nat.le_refl _)
    exact b4.grown g5 (Nat.le_trans s3 g4.size) (fun k hk => by cases hk; exact Nat.le_refl _)
  have HB := Lib.hid hb
  have H5 : Hid (KM w.heap.size w5) := Lib.hid h5
  clear hb h0 h1 h2 h3 h4 h5 g1 g2 g3 g4 g5
  simp only [mWord, kSize, Int.reduceEq, reduceIte] at r1 r2 r3 r4 r5
  go_enter Try.func58, Try.ntmps58
  go_wp2_with fail
  go_ret
  exact ⟨_, rfl, H5.out, Nat.le_refl _, HB.out⟩
end Go.Proofs.Ytngjpgdgipmieaa
/- A law whose walk writes nothing that was there: its arguments read behind the call as before. No program is imported. -/
namespace Go.Proofs.Ytngjpgdgipmieaa
open Go.ChangeShapes Go.WideShapes Go.ChangeAt Go.RowKit
theorem trodAll_lt {H : Type} {enc : TypeId × Value → H} {P : Program} {W : World} : ∀ {ts : List TypeId} {vs : List Value} {ds : List (DataW H)} {p : List MemPlace},
    DataW.TrodAll enc P W 0 (fun _ => true) true ts vs ds p → ∀ x ∈ p, x.block < W.heap.size
  | [], vs, ds, p, h, x, hx => by
    obtain ⟨_, _, rfl⟩ := trodAll_nil h
    cases hx
  | t :: ts, vs, ds, p, h, x, hx => by
    obtain ⟨v, vs', d, ds', p0, q0, rfl, rfl, rfl, h0, r0⟩ := trodAll_cons h
    rcases List.mem_append.1 hx with hx | hx
    · obtain ⟨m, hm⟩ := h0
      exact DataW.trod_lt m _ _ _ hm x hx
    · exact trodAll_lt r0 x hx
theorem trodAll_length {H : Type} {enc : TypeId × Value → H} {P : Program} {W : World} {base : Nat} {spare : Nat → Bool} {held : Bool} : ∀ {ts : List TypeId} {vs : List Value} {ds : List (DataW H)} {p : List MemPlace},
    DataW.TrodAll enc P W base spare held ts vs ds p → ds.length = ts.length
  | [], vs, ds, p, h => by
    obtain ⟨_, rfl, _⟩ := trodAll_nil h
    rfl
  | t :: ts, vs, ds, p, h => by
    obtain ⟨v, vs', d, ds', p0, q0, _, rfl, _, _, r0⟩ := trodAll_cons h
    simp [trodAll_length r0]
theorem below_trodAll {H : Type} {enc : TypeId × Value → H} {P : Program} (hl : laidOutB P = true) {W W' : World} (hb : Below W.heap.size W W') : ∀ {ts : List TypeId} {vs : List Value} {ds : List (DataW H)} {p : List MemPlace},
    (ts.all fun t => P.readableRec t && decide (t < P.types.size)) = true →
    DataW.TrodAll enc P W 0 (fun _ => true) true ts vs ds p → DataW.TrodAll enc P W' 0 (fun b => decide (b < W.heap.size)) true ts vs ds p
  | [], vs, ds, p, _, h => by
    obtain ⟨rfl, rfl, rfl⟩ := trodAll_nil h
    exact trodAll_mk0
  | t :: ts, vs, ds, p, hr, h => by
    have hlt := trodAll_lt h
    obtain ⟨v, vs', d, ds', p0, q0, rfl, rfl, rfl, h0, r0⟩ := trodAll_cons h
    simp only [List.all_cons, Bool.and_eq_true, decide_eq_true_eq] at hr
    exact trodAll_cons_mk (Below.trod hl hr.1.1 hr.1.2 h0 hb (fun x hx => hlt x (List.mem_append_left _ hx))) (below_trodAll hl hb (by simp only [List.all_eq_true, Bool.and_eq_true, decide_eq_true_eq]; simpa [List.all_eq_true] using hr.2) r0)
end Go.Proofs.Ytngjpgdgipmieaa
/- The walks of Size and String of a kind, and of the document's own answers, Size and Word. -/
namespace Go.Proofs.Ytngjpgdgipmieaa
open Go.RowKit Go.Maps

theorem kindField1 (s : ByteArray) (n : Int) (w : World) : (Instr.field 99 (.agg #[.string s, .int .i64 n]) 1).run Try.prog w = .ok (.int .i64 n) w := by kernel_rfl

set_option maxRecDepth 100000 in
theorem size_any (k : Int) (w : World) (hw : (Lit.int .i64 k).wf = true) :
    Calls Try.prog 32 #[.int .i64 k] w fun e w' => e = .returned (.int .i64 (kSize k)) ∧ Below w.heap.size w w' := by
  have HW := Lib.hid hw
  clear hw
  go_enter Try.func32, Try.ntmps32
  go_wp2_with fail
  refine (kinds_any _).mono ?_
  rintro e w1 ⟨b, rfl, hm, hbb, hb1⟩
  have hl := km_look hm k HW.out
  have HB := Lib.hid hb1
  clear hm hbb hb1
  have hf := kindField1
  go_wp2_with fail
  go_ret
  exact ⟨rfl, HB.out⟩

set_option maxRecDepth 100000 in
theorem string_any (k : Int) (w : World) (hw : (Lit.int .i64 k).wf = true) :
    Calls Try.prog 54 #[.int .i64 k] w fun e w' => e = .returned (.string (kWord k)) ∧ Below w.heap.size w w' := by
  have HW := Lib.hid hw
  clear hw
  cases hk : isKind k
  · have HK := Lib.hid (kWord_no hk)
    have HI := Lib.hid hk
    clear hk
    go_enter Try.func54, Try.ntmps54
    go_wp2_with fail
    refine (kinds_any _).mono ?_
    rintro e w1 ⟨b, rfl, hm, hbb, hb1⟩
    have hl := km_look_ok hm k HW.out
    rw [HI.out] at hl
    have HB := Lib.hid hb1
    have hz := hb1.size
    clear hm hbb hb1
    go_wp2_with fail
    go_ret
    refine ⟨?_, HB.out.alloc hz _⟩
    show Ending.returned (.string _) = _
    rw [HK.out]
  · have HK := Lib.hid (kWord_yes hk)
    have HI := Lib.hid hk
    clear hk
    go_enter Try.func54, Try.ntmps54
    go_wp2_with fail
    refine (kinds_any _).mono ?_
    rintro e w1 ⟨b, rfl, hm, hbb, hb1⟩
    have hl := km_look_ok hm k HW.out
    rw [HI.out] at hl
    have HB := Lib.hid hb1
    have hz := hb1.size
    clear hm hbb hb1
    go_wp2_with fail
    go_ret
    refine ⟨?_, HB.out.alloc hz _⟩
    show Ending.returned (.string _) = _
    rw [HK.out]

set_option maxRecDepth 100000 in
theorem refSize_any (k : Int) (w : World) : Calls Try.prog 13 #[.int .i64 k] w fun e w' => e = .returned (.int .i64 (kSize k)) ∧ w = w' := by
  go_enter Try.func13, Try.ntmps13
  go_wp2_with fail
  all_goals
    go_ret
    refine ⟨?_, rfl⟩
    congr 2
    simp only [beq_iff_eq, beq_eq_false_iff_ne, ne_eq] at *
    first | (subst_vars; decide) | simp_all [kSize]
end Go.Proofs.Ytngjpgdgipmieaa
/- The walks of made at whole numbers, flags and complex numbers, each out of one text (wip/tools/gen7b.py). -/
namespace Go.Proofs.Ytngjpgdgipmieaa
open Go.RowKit M6 M7

/-- the bytes of elements, one behind the other -/
def flat {α : Type} (f : α → List UInt8) (s : Nat) (xs : List α) : List UInt8 := xs.flatMap fun x => (f x).take s
theorem flat_snoc {α : Type} (f : α → List UInt8) (s : Nat) {xs : List α} {k : Nat} (h : k < xs.length) : flat f s (xs.take (k + 1)) = flat f s (xs.take k) ++ (f xs[k]).take s := by
  unfold flat
  rw [List.take_succ_eq_append_getElem h, List.flatMap_append]
  simp
theorem flat_len {α : Type} (f : α → List UInt8) (s : Nat) : ∀ {xs : List α}, (∀ x ∈ xs, (f x).length = 8) → s ≤ 8 → (flat f s xs).length = xs.length * s
  | [], _, _ => by simp [flat]
  | x :: l, h, hs => by
    have ih := flat_len f s (xs := l) (fun y hy => h y (List.mem_cons_of_mem _ hy)) hs
    have hx := h x (List.mem_cons_self)
    unfold flat at *
    rw [List.flatMap_cons, List.length_append, ih, List.length_take, hx, List.length_cons, Nat.min_eq_left hs, Nat.succ_mul]
    omega
/-- a row of the call's own stays where four cells of another block are written -/
theorem own_far_set {w : World} {B size n b : Nat} {e : TypeId} {v : Value} {xs : List Value} (h : w.ownsRow B e size v n xs) (hb : v.ownBlock ≠ some b) (v0 v1 v2 v3 : Value) :
    ((((w.setCell ⟨b, 0, none⟩ v0).setCell ⟨b, 1, none⟩ v1).setCell ⟨b, 2, none⟩ v2).setCell ⟨b, 3, none⟩ v3).ownsRow B e size v n xs := by
  have key : ∀ {W : World}, W.ownsRow B e size v n xs → ∀ i u, (W.setCell ⟨b, i, none⟩ u).ownsRow B e size v n xs := fun h i u =>
    h.kept (row := some b) ⟨rfl, rfl, rfl, by simp [World.setCell], fun k _ hk => Below.heap_setCell _ _ _ _ (fun e => hk (by simp [e]))⟩ (Or.inr hb)
  exact key (key (key (key h 0 v0) 1 v1) 2 v2) 3 v3
/-- the zero tensor -/
abbrev zt : Array Value := #[.string ⟨#[]⟩, .int .i64 0, .slice none 0 0, .string ⟨#[]⟩]
theorem take_cells {W : World} {g : Nat} {T : TypeId} {l : List UInt8} {s : Nat} (h : W.heap[g]? = some (.cells (bv l).toArray T (0, 0))) : ∀ j u, (bv (l.take s))[j]? = some u → W.cell? ((⟨g, 0, none⟩ : Addr).add j) = some u := by
  intro j u hj
  rw [Addr.add_mid, cell_of_row _ _ _ _ _ _ h]
  have e : bv (l.take s) = (bv l).take s := by simp [bv, List.map_take]
  rw [e, List.getElem?_take] at hj
  split at hj
  · simpa using hj
  · cases hj

set_option maxRecDepth 100000 in
set_option maxHeartbeats 2000000 in
theorem madeInt_any (nme : ByteArray) (A : Option Addr) (c : Nat) (dims : List Int) (B : Option Addr) (d : Nat) (xs : List (Int)) (f : Int → List UInt8) (w : World) (hdl : dims.length ≤ 1000000) (hxl : xs.length ≤ 1000000)
    (hd : SR w w.heap.size 1 A dims.length (iv dims)) (hx : SR w w.heap.size 1 B xs.length (xs.map fun p => Value.int .i64 p))
    (hf : ∀ p ∈ xs, (f p).length = 8 ∧ ∀ W : World, Calls Try.prog 47 #[Value.int .i64 p] W fun e w' => e = .returned (av (f p)) ∧ Below W.heap.size W w') :
    Calls Try.prog 46 #[.string nme, .int .i64 7, .slice A dims.length c, .func (.func 47) #[] #[], .slice B xs.length d] w fun e w' =>
      ∃ v, e = .returned (tv nme 7 v ⟨(flat f 8 xs).toArray⟩) ∧ w'.ownsRow w.heap.size 2 1 v dims.length (iv dims) ∧ Below w.heap.size w w' := by
  have HD := Lib.hid hd
  have HX := Lib.hid hx
  have HF := Lib.hid hf
  have HBX := Lib.hid (Bx.start w zt 25)
  clear hd hx hf
  go_enter Try.func46, Try.ntmps46
  go_wp2_with fail
  refine (size_any 7 _ (by decide)).mono ?_
  rintro e w1 ⟨rfl, hb1⟩
  rw [show kSize 7 = 8 by decide]
  have H1 := Lib.hid (HBX.out.below hb1)
  clear hb1 HBX
  go_wp2_with fail
  have hbk0 := heap_alloc_new w1 (.cells #[.pointer none, .slice none 0 0] 105)
  have hz1 : (w1.alloc (.cells #[.pointer none, .slice none 0 0] 105)).heap.size = w1.heap.size + 1 := by simp
  have hG : Calls Try.prog 61 #[.pointer (some ⟨w1.heap.size, 0, none⟩), .int .i64 ((xs.length : Int) * 8)] (w1.alloc (.cells #[.pointer none, .slice none 0 0] 105)) fun e w' => e = .returned (.tuple #[]) ∧ BuildG w1.heap.size w1.heap.size [] w' ∧ Below w1.heap.size (w1.alloc (.cells #[.pointer none, .slice none 0 0] 105)) w' := by
    rw [show ((xs.length : Int) * 8 : Int) = ((xs.length * 8 : Nat) : Int) by omega]
    exact buildGrow_any _ _ _ _ (Nat.le_refl _) hbk0 (by omega) (by omega)
  have HG := Lib.hid hG
  have HB0 : Hid (Below w1.heap.size w1 (w1.alloc (.cells #[.pointer none, .slice none 0 0] 105))) := Lib.hid ((Below.refl _ _).alloc (Nat.le_refl _) _)
  clear hG hbk0 hz1
  go_wp2_with fail
  refine HG.out.mono ?_
  rintro e w2 ⟨rfl, hbg, hb2⟩
  have H2 := Lib.hid (H1.out.below (HB0.out.trans hb2))
  have HBG := Lib.hid hbg
  have HW := Lib.hid H1.out.2.1
  have HWW := Lib.hid H1.out.2.2.size
  have HS2 := Lib.hid (HB0.out.trans hb2).size
  clear hbg hb2 HB0 HG
  generalize hgg : w1.heap.size = g at *
  have HGG := Lib.hid hgg
  clear hgg
  go_wp2_with fail
  go_loopw [13, 24] (fun _ i wr => ∃ (k : Nat) (K : Int), i = .int .i64 K ∧ K = (k : Nat) ∧ k ≤ xs.length ∧ BuildG g g (flat f 8 (xs.take k)) wr ∧ Bx w w.heap.size zt 25 wr ∧ g ≤ wr.heap.size) (fun _ i _ => xs.length - (intOf i).toNat)
  case atStart => exact ⟨0, _, rfl, rfl, by omega, HBG.out, H2.out, HS2.out⟩
  case round =>
    obtain ⟨k, K, rfl, rfl, hk, hbg, hbx, hgw⟩ := hrel
    have HB := Lib.hid hbx
    have HK := Lib.hid hbg
    by_cases hlt : k < xs.length
    · obtain ⟨b1, o1, rfl, hb1, x0⟩ := cell_at (HX.out.below hbx.all) hlt (u := (fun p => Value.int .i64 p) xs[k]) (by rw [List.getElem?_map, List.getElem?_eq_getElem hlt]; rfl)
      obtain ⟨hfl, hfc⟩ := HF.out xs[k] (List.getElem_mem hlt)
      have HFC := Lib.hid hfc
      have hlen : (flat f 8 (xs.take k)).length ≤ 8000000 := by
        rw [flat_len f 8 (fun x hx => (HF.out x (List.mem_of_mem_take hx)).1) (by omega), List.length_take]
        omega
      have hsn := flat_snoc f 8 hlt
      have hcut : ((f xs[k]).take 8).length = 8 := by rw [List.length_take, hfl]; rfl
      have HSN := Lib.hid hsn
      clear hfc hbx hbg hsn
      generalize xs[k] = x at *
      dsimp only at x0
      generalize hF : f x = F at *
      obtain ⟨y0, y1, y2, y3, y4, y5, y6, y7, rfl⟩ := eight_of hfl
      have HFF := Lib.hid hF
      clear hF hfl
      go_wp2_with fail
      refine (HFC.out _).mono ?_
      rintro e w4 ⟨rfl, hb4⟩
      have HB4 := Lib.hid (HB.out.below hb4)
      have HK4 := Lib.hid (HK.out.keep hb4)
      have hz4 := hb4.size
      unfold av
      clear hb4 x0 HB HK HFC
      have hblk := heap_alloc_new w4 (.cells (bv [y0, y1, y2, y3, y4, y5, y6, y7]).toArray 107)
      have HWR := Lib.hid (buildWrite_any g g _ ([y0, y1, y2, y3, y4, y5, y6, y7].take 8) ⟨w4.heap.size, 0, none⟩ 8 _ (HK4.out.keep ((Below.refl w4.heap.size w4).alloc (Nat.le_refl _) (.cells (bv [y0, y1, y2, y3, y4, y5, y6, y7]).toArray 107))) (take_cells hblk) (by omega) (by simp; omega))
      rw [hcut] at HWR
      have HBA := Lib.hid (HB4.out.more (.cells (bv [y0, y1, y2, y3, y4, y5, y6, y7]).toArray 107))
      have HZA : Hid ((w4.alloc (.cells (bv [y0, y1, y2, y3, y4, y5, y6, y7]).toArray 107)).heap.size = w4.heap.size + 1) := Lib.hid (by simp)
      simp only [bv, List.map_cons, List.map_nil] at *
      clear hblk hlen hcut HK4 HB4
      go_wp2_with fail
      refine HWR.out.mono ?_
      rintro e w5 ⟨rfl, hg5, hb5⟩
      have HB5 := Lib.hid (HBA.out.low hb5 HW.out HWW.out)
      rw [← HSN.out] at hg5
      have HG5 := Lib.hid hg5
      have hz5 := hb5.size
      rw [HZA.out] at hz5
      clear hg5 hb5 HBA HSN HFF HWR HZA
      go_wp2_with fail
      go_roundw
      case rel => exact ⟨k + 1, _, rfl, by omega, by omega, HG5.out, HB5.out, by omega⟩
      case measure => simp [intOf]; omega
    · obtain rfl : k = xs.length := by omega
      rw [List.take_length] at HK
      have HDR := Lib.hid ((HD.out.below hbx.all).more hbx.all.size)
      clear hbx hbg
      go_wp2_with fail
      refine (clone_any A c dims _ hdl HDR.out).mono ?_
      rintro e w6 ⟨v, rfl, hown, hb6⟩
      obtain ⟨va, vc, rfl, -, -⟩ := own_form hown
      have HB6 := Lib.hid (HB.out.below hb6)
      have HK6 := Lib.hid (HK.out.keep hb6)
      have HO6 := Lib.hid (own_base hown HB.out.all.size)
      have hg6 := hb6.size
      clear hown hb6 HB HK
      go_wp2_with fail
      refine (stringRead_any g g _ _ HK6.out).mono ?_
      rintro e w7 ⟨rfl, hrd⟩
      have HB7 := Lib.hid (HB6.out.low (hrd.below (by omega)) HW.out HWW.out)
      have HO7 := Lib.hid (hrd.own HO6.out (by decide))
      clear hrd HB6 HO6 HK6
      have hblk' := set4 HB7.out.1 (.string nme) (.int .i64 7) (.slice va dims.length vc) (.string ⟨(flat f 8 xs).toArray⟩)
      have hk4 := cells_of4 hblk'
      have hbb := (((HB7.out.all.setCell (p := ⟨w.heap.size, 0, none⟩) (Nat.le_refl _) (.string nme)).setCell (p := ⟨w.heap.size, 1, none⟩) (Nat.le_refl _) (.int .i64 7)).setCell (p := ⟨w.heap.size, 2, none⟩) (Nat.le_refl _) (.slice va dims.length vc)).setCell (p := ⟨w.heap.size, 3, none⟩) (Nat.le_refl _) (.string ⟨(flat f 8 xs).toArray⟩)
      have hbo : (Value.slice va dims.length vc).ownBlock ≠ some w.heap.size := own_far HO7.out HB7.out.1 (by decide)
      have hko := own_far_set HO7.out hbo (.string nme) (.int .i64 7) (.slice va dims.length vc) (.string ⟨(flat f 8 xs).toArray⟩)
      have HKK := Lib.hid (And.intro hk4 (And.intro hbb hko))
      obtain ⟨c0, c1, c2, c3⟩ := HB7.out.four
      have f0 := fun i => frozen_of_row w7 w.heap.size i _ _ HB7.out.1
      clear hblk' hk4 hbb hbo hko
      go_wp2_with fail
      clear c0 c1 c2 c3 f0
      obtain ⟨⟨c0, c1, c2, c3⟩, hbb, hko⟩ := HKK.out
      clear HKK
      generalize (((w7.setCell ⟨w.heap.size, 0, none⟩ (.string nme)).setCell ⟨w.heap.size, 1, none⟩ (.int .i64 7)).setCell ⟨w.heap.size, 2, none⟩ (.slice va dims.length vc)).setCell ⟨w.heap.size, 3, none⟩ (.string ⟨(flat f 8 xs).toArray⟩) = w8 at *
      exact bodyPost_ret (v := tv nme 7 (.slice va dims.length vc) ⟨(flat f 8 xs).toArray⟩) (by simp [results, Try.results46, go_sem, c0, c1, c2, c3]) rfl ⟨_, rfl, hko, hbb⟩

set_option maxRecDepth 100000 in
set_option maxHeartbeats 2000000 in
theorem madeFlag_any (nme : ByteArray) (A : Option Addr) (c : Nat) (dims : List Int) (B : Option Addr) (d : Nat) (xs : List (Bool)) (f : Bool → List UInt8) (w : World) (hdl : dims.length ≤ 1000000) (hxl : xs.length ≤ 1000000)
    (hd : SR w w.heap.size 1 A dims.length (iv dims)) (hx : SR w w.heap.size 1 B xs.length (xs.map fun p => Value.bool p))
    (hf : ∀ p ∈ xs, (f p).length = 8 ∧ ∀ W : World, Calls Try.prog 49 #[Value.bool p] W fun e w' => e = .returned (av (f p)) ∧ Below W.heap.size W w') :
    Calls Try.prog 48 #[.string nme, .int .i64 9, .slice A dims.length c, .func (.func 49) #[] #[], .slice B xs.length d] w fun e w' =>
      ∃ v, e = .returned (tv nme 9 v ⟨(flat f 1 xs).toArray⟩) ∧ w'.ownsRow w.heap.size 2 1 v dims.length (iv dims) ∧ Below w.heap.size w w' := by
  have HD := Lib.hid hd
  have HX := Lib.hid hx
  have HF := Lib.hid hf
  have HBX := Lib.hid (Bx.start w zt 25)
  clear hd hx hf
  go_enter Try.func48, Try.ntmps48
  go_wp2_with fail
  refine (size_any 9 _ (by decide)).mono ?_
  rintro e w1 ⟨rfl, hb1⟩
  rw [show kSize 9 = 1 by decide]
  have H1 := Lib.hid (HBX.out.below hb1)
  clear hb1 HBX
  go_wp2_with fail
  have hbk0 := heap_alloc_new w1 (.cells #[.pointer none, .slice none 0 0] 105)
  have hz1 : (w1.alloc (.cells #[.pointer none, .slice none 0 0] 105)).heap.size = w1.heap.size + 1 := by simp
  have hG : Calls Try.prog 61 #[.pointer (some ⟨w1.heap.size, 0, none⟩), .int .i64 ((xs.length : Int))] (w1.alloc (.cells #[.pointer none, .slice none 0 0] 105)) fun e w' => e = .returned (.tuple #[]) ∧ BuildG w1.heap.size w1.heap.size [] w' ∧ Below w1.heap.size (w1.alloc (.cells #[.pointer none, .slice none 0 0] 105)) w' := by
    rw [show ((xs.length : Int) : Int) = ((xs.length * 1 : Nat) : Int) by omega]
    exact buildGrow_any _ _ _ _ (Nat.le_refl _) hbk0 (by omega) (by omega)
  have HG := Lib.hid hG
  have HB0 : Hid (Below w1.heap.size w1 (w1.alloc (.cells #[.pointer none, .slice none 0 0] 105))) := Lib.hid ((Below.refl _ _).alloc (Nat.le_refl _) _)
  clear hG hbk0 hz1
  go_wp2_with fail
  refine HG.out.mono ?_
  rintro e w2 ⟨rfl, hbg, hb2⟩
  have H2 := Lib.hid (H1.out.below (HB0.out.trans hb2))
  have HBG := Lib.hid hbg
  have HW := Lib.hid H1.out.2.1
  have HWW := Lib.hid H1.out.2.2.size
  have HS2 := Lib.hid (HB0.out.trans hb2).size
  clear hbg hb2 HB0 HG
  generalize hgg : w1.heap.size = g at *
  have HGG := Lib.hid hgg
  clear hgg
  go_wp2_with fail
  go_loopw [13, 24] (fun _ i wr => ∃ (k : Nat) (K : Int), i = .int .i64 K ∧ K = (k : Nat) ∧ k ≤ xs.length ∧ BuildG g g (flat f 1 (xs.take k)) wr ∧ Bx w w.heap.size zt 25 wr ∧ g ≤ wr.heap.size) (fun _ i _ => xs.length - (intOf i).toNat)
  case atStart => exact ⟨0, _, rfl, rfl, by omega, HBG.out, H2.out, HS2.out⟩
  case round =>
    obtain ⟨k, K, rfl, rfl, hk, hbg, hbx, hgw⟩ := hrel
    have HB := Lib.hid hbx
    have HK := Lib.hid hbg
    by_cases hlt : k < xs.length
    · obtain ⟨b1, o1, rfl, hb1, x0⟩ := cell_at (HX.out.below hbx.all) hlt (u := (fun p => Value.bool p) xs[k]) (by rw [List.getElem?_map, List.getElem?_eq_getElem hlt]; rfl)
      obtain ⟨hfl, hfc⟩ := HF.out xs[k] (List.getElem_mem hlt)
      have HFC := Lib.hid hfc
      have hlen : (flat f 1 (xs.take k)).length ≤ 8000000 := by
        rw [flat_len f 1 (fun x hx => (HF.out x (List.mem_of_mem_take hx)).1) (by omega), List.length_take]
        omega
      have hsn := flat_snoc f 1 hlt
      have hcut : ((f xs[k]).take 1).length = 1 := by rw [List.length_take, hfl]; rfl
      have HSN := Lib.hid hsn
      clear hfc hbx hbg hsn
      generalize xs[k] = x at *
      dsimp only at x0
      generalize hF : f x = F at *
      obtain ⟨y0, y1, y2, y3, y4, y5, y6, y7, rfl⟩ := eight_of hfl
      have HFF := Lib.hid hF
      clear hF hfl
      go_wp2_with fail
      refine (HFC.out _).mono ?_
      rintro e w4 ⟨rfl, hb4⟩
      have HB4 := Lib.hid (HB.out.below hb4)
      have HK4 := Lib.hid (HK.out.keep hb4)
      have hz4 := hb4.size
      unfold av
      clear hb4 x0 HB HK HFC
      have hblk := heap_alloc_new w4 (.cells (bv [y0, y1, y2, y3, y4, y5, y6, y7]).toArray 107)
      have HWR := Lib.hid (buildWrite_any g g _ ([y0, y1, y2, y3, y4, y5, y6, y7].take 1) ⟨w4.heap.size, 0, none⟩ 8 _ (HK4.out.keep ((Below.refl w4.heap.size w4).alloc (Nat.le_refl _) (.cells (bv [y0, y1, y2, y3, y4, y5, y6, y7]).toArray 107))) (take_cells hblk) (by omega) (by simp; omega))
      rw [hcut] at HWR
      have HBA := Lib.hid (HB4.out.more (.cells (bv [y0, y1, y2, y3, y4, y5, y6, y7]).toArray 107))
      have HZA : Hid ((w4.alloc (.cells (bv [y0, y1, y2, y3, y4, y5, y6, y7]).toArray 107)).heap.size = w4.heap.size + 1) := Lib.hid (by simp)
      simp only [bv, List.map_cons, List.map_nil] at *
      clear hblk hlen hcut HK4 HB4
      go_wp2_with fail
      refine HWR.out.mono ?_
      rintro e w5 ⟨rfl, hg5, hb5⟩
      have HB5 := Lib.hid (HBA.out.low hb5 HW.out HWW.out)
      rw [← HSN.out] at hg5
      have HG5 := Lib.hid hg5
      have hz5 := hb5.size
      rw [HZA.out] at hz5
      clear hg5 hb5 HBA HSN HFF HWR HZA
      go_wp2_with fail
      go_roundw
      case rel => exact ⟨k + 1, _, rfl, by omega, by omega, HG5.out, HB5.out, by omega⟩
      case measure => simp [intOf]; omega
    · obtain rfl : k = xs.length := by omega
      rw [List.take_length] at HK
      have HDR := Lib.hid ((HD.out.below hbx.all).more hbx.all.size)
      clear hbx hbg
      go_wp2_with fail
      refine (clone_any A c dims _ hdl HDR.out).mono ?_
      rintro e w6 ⟨v, rfl, hown, hb6⟩
      obtain ⟨va, vc, rfl, -, -⟩ := own_form hown
      have HB6 := Lib.hid (HB.out.below hb6)
      have HK6 := Lib.hid (HK.out.keep hb6)
      have HO6 := Lib.hid (own_base hown HB.out.all.size)
      have hg6 := hb6.size
      clear hown hb6 HB HK
      go_wp2_with fail
      refine (stringRead_any g g _ _ HK6.out).mono ?_
      rintro e w7 ⟨rfl, hrd⟩
      have HB7 := Lib.hid (HB6.out.low (hrd.below (by omega)) HW.out HWW.out)
      have HO7 := Lib.hid (hrd.own HO6.out (by decide))
      clear hrd HB6 HO6 HK6
      have hblk' := set4 HB7.out.1 (.string nme) (.int .i64 9) (.slice va dims.length vc) (.string ⟨(flat f 1 xs).toArray⟩)
      have hk4 := cells_of4 hblk'
      have hbb := (((HB7.out.all.setCell (p := ⟨w.heap.size, 0, none⟩) (Nat.le_refl _) (.string nme)).setCell (p := ⟨w.heap.size, 1, none⟩) (Nat.le_refl _) (.int .i64 9)).setCell (p := ⟨w.heap.size, 2, none⟩) (Nat.le_refl _) (.slice va dims.length vc)).setCell (p := ⟨w.heap.size, 3, none⟩) (Nat.le_refl _) (.string ⟨(flat f 1 xs).toArray⟩)
      have hbo : (Value.slice va dims.length vc).ownBlock ≠ some w.heap.size := own_far HO7.out HB7.out.1 (by decide)
      have hko := own_far_set HO7.out hbo (.string nme) (.int .i64 9) (.slice va dims.length vc) (.string ⟨(flat f 1 xs).toArray⟩)
      have HKK := Lib.hid (And.intro hk4 (And.intro hbb hko))
      obtain ⟨c0, c1, c2, c3⟩ := HB7.out.four
      have f0 := fun i => frozen_of_row w7 w.heap.size i _ _ HB7.out.1
      clear hblk' hk4 hbb hbo hko
      go_wp2_with fail
      clear c0 c1 c2 c3 f0
      obtain ⟨⟨c0, c1, c2, c3⟩, hbb, hko⟩ := HKK.out
      clear HKK
      generalize (((w7.setCell ⟨w.heap.size, 0, none⟩ (.string nme)).setCell ⟨w.heap.size, 1, none⟩ (.int .i64 9)).setCell ⟨w.heap.size, 2, none⟩ (.slice va dims.length vc)).setCell ⟨w.heap.size, 3, none⟩ (.string ⟨(flat f 1 xs).toArray⟩) = w8 at *
      exact bodyPost_ret (v := tv nme 9 (.slice va dims.length vc) ⟨(flat f 1 xs).toArray⟩) (by simp [results, Try.results48, go_sem, c0, c1, c2, c3]) rfl ⟨_, rfl, hko, hbb⟩

set_option maxRecDepth 100000 in
set_option maxHeartbeats 2000000 in
theorem madeNum_any (nme : ByteArray) (A : Option Addr) (c : Nat) (dims : List Int) (B : Option Addr) (d : Nat) (xs : List (Nat × Nat)) (f : Nat × Nat → List UInt8) (w : World) (hdl : dims.length ≤ 1000000) (hxl : xs.length ≤ 1000000)
    (hd : SR w w.heap.size 1 A dims.length (iv dims)) (hx : SR w w.heap.size 1 B xs.length (xs.map fun p => Value.complex .f64 p.1 p.2))
    (hf : ∀ p ∈ xs, (f p).length = 8 ∧ ∀ W : World, Calls Try.prog 53 #[Value.complex .f64 p.1 p.2] W fun e w' => e = .returned (av (f p)) ∧ Below W.heap.size W w') :
    Calls Try.prog 52 #[.string nme, .int .i64 14, .slice A dims.length c, .func (.func 53) #[] #[], .slice B xs.length d] w fun e w' =>
      ∃ v, e = .returned (tv nme 14 v ⟨(flat f 8 xs).toArray⟩) ∧ w'.ownsRow w.heap.size 2 1 v dims.length (iv dims) ∧ Below w.heap.size w w' := by
  have HD := Lib.hid hd
  have HX := Lib.hid hx
  have HF := Lib.hid hf
  have HBX := Lib.hid (Bx.start w zt 25)
  clear hd hx hf
  go_enter Try.func52, Try.ntmps52
  go_wp2_with fail
  refine (size_any 14 _ (by decide)).mono ?_
  rintro e w1 ⟨rfl, hb1⟩
  rw [show kSize 14 = 8 by decide]
  have H1 := Lib.hid (HBX.out.below hb1)
  clear hb1 HBX
  go_wp2_with fail
  have hbk0 := heap_alloc_new w1 (.cells #[.pointer none, .slice none 0 0] 105)
  have hz1 : (w1.alloc (.cells #[.pointer none, .slice none 0 0] 105)).heap.size = w1.heap.size + 1 := by simp
  have hG : Calls Try.prog 61 #[.pointer (some ⟨w1.heap.size, 0, none⟩), .int .i64 ((xs.length : Int) * 8)] (w1.alloc (.cells #[.pointer none, .slice none 0 0] 105)) fun e w' => e = .returned (.tuple #[]) ∧ BuildG w1.heap.size w1.heap.size [] w' ∧ Below w1.heap.size (w1.alloc (.cells #[.pointer none, .slice none 0 0] 105)) w' := by
    rw [show ((xs.length : Int) * 8 : Int) = ((xs.length * 8 : Nat) : Int) by omega]
    exact buildGrow_any _ _ _ _ (Nat.le_refl _) hbk0 (by omega) (by omega)
  have HG := Lib.hid hG
  have HB0 : Hid (Below w1.heap.size w1 (w1.alloc (.cells #[.pointer none, .slice none 0 0] 105))) := Lib.hid ((Below.refl _ _).alloc (Nat.le_refl _) _)
  clear hG hbk0 hz1
  go_wp2_with fail
  refine HG.out.mono ?_
  rintro e w2 ⟨rfl, hbg, hb2⟩
  have H2 := Lib.hid (H1.out.below (HB0.out.trans hb2))
  have HBG := Lib.hid hbg
  have HW := Lib.hid H1.out.2.1
  have HWW := Lib.hid H1.out.2.2.size
  have HS2 := Lib.hid (HB0.out.trans hb2).size
  clear hbg hb2 HB0 HG
  generalize hgg : w1.heap.size = g at *
  have HGG := Lib.hid hgg
  clear hgg
  go_wp2_with fail
  go_loopw [13, 24] (fun _ i wr => ∃ (k : Nat) (K : Int), i = .int .i64 K ∧ K = (k : Nat) ∧ k ≤ xs.length ∧ BuildG g g (flat f 8 (xs.take k)) wr ∧ Bx w w.heap.size zt 25 wr ∧ g ≤ wr.heap.size) (fun _ i _ => xs.length - (intOf i).toNat)
  case atStart => exact ⟨0, _, rfl, rfl, by omega, HBG.out, H2.out, HS2.out⟩
  case round =>
    obtain ⟨k, K, rfl, rfl, hk, hbg, hbx, hgw⟩ := hrel
    have HB := Lib.hid hbx
    have HK := Lib.hid hbg
    by_cases hlt : k < xs.length
    · obtain ⟨b1, o1, rfl, hb1, x0⟩ := cell_at (HX.out.below hbx.all) hlt (u := (fun p => Value.complex .f64 p.1 p.2) xs[k]) (by rw [List.getElem?_map, List.getElem?_eq_getElem hlt]; rfl)
      obtain ⟨hfl, hfc⟩ := HF.out xs[k] (List.getElem_mem hlt)
      have HFC := Lib.hid hfc
      have hlen : (flat f 8 (xs.take k)).length ≤ 8000000 := by
        rw [flat_len f 8 (fun x hx => (HF.out x (List.mem_of_mem_take hx)).1) (by omega), List.length_take]
        omega
      have hsn := flat_snoc f 8 hlt
      have hcut : ((f xs[k]).take 8).length = 8 := by rw [List.length_take, hfl]; rfl
      have HSN := Lib.hid hsn
      clear hfc hbx hbg hsn
      generalize xs[k] = x at *
      dsimp only at x0
      generalize hF : f x = F at *
      obtain ⟨y0, y1, y2, y3, y4, y5, y6, y7, rfl⟩ := eight_of hfl
      have HFF := Lib.hid hF
      clear hF hfl
      go_wp2_with fail
      refine (HFC.out _).mono ?_
      rintro e w4 ⟨rfl, hb4⟩
      have HB4 := Lib.hid (HB.out.below hb4)
      have HK4 := Lib.hid (HK.out.keep hb4)
      have hz4 := hb4.size
      unfold av
      clear hb4 x0 HB HK HFC
      have hblk := heap_alloc_new w4 (.cells (bv [y0, y1, y2, y3, y4, y5, y6, y7]).toArray 107)
      have HWR := Lib.hid (buildWrite_any g g _ ([y0, y1, y2, y3, y4, y5, y6, y7].take 8) ⟨w4.heap.size, 0, none⟩ 8 _ (HK4.out.keep ((Below.refl w4.heap.size w4).alloc (Nat.le_refl _) (.cells (bv [y0, y1, y2, y3, y4, y5, y6, y7]).toArray 107))) (take_cells hblk) (by omega) (by simp; omega))
      rw [hcut] at HWR
      have HBA := Lib.hid (HB4.out.more (.cells (bv [y0, y1, y2, y3, y4, y5, y6, y7]).toArray 107))
      have HZA : Hid ((w4.alloc (.cells (bv [y0, y1, y2, y3, y4, y5, y6, y7]).toArray 107)).heap.size = w4.heap.size + 1) := Lib.hid (by simp)
      simp only [bv, List.map_cons, List.map_nil] at *
      clear hblk hlen hcut HK4 HB4
      go_wp2_with fail
      refine HWR.out.mono ?_
      rintro e w5 ⟨rfl, hg5, hb5⟩
      have HB5 := Lib.hid (HBA.out.low hb5 HW.out HWW.out)
      rw [← HSN.out] at hg5
      have HG5 := Lib.hid hg5
      have hz5 := hb5.size
      rw [HZA.out] at hz5
      clear hg5 hb5 HBA HSN HFF HWR HZA
      go_wp2_with fail
      go_roundw
      case rel => exact ⟨k + 1, _, rfl, by omega, by omega, HG5.out, HB5.out, by omega⟩
      case measure => simp [intOf]; omega
    · obtain rfl : k = xs.length := by omega
      rw [List.take_length] at HK
      have HDR := Lib.hid ((HD.out.below hbx.all).more hbx.all.size)
      clear hbx hbg
      go_wp2_with fail
      refine (clone_any A c dims _ hdl HDR.out).mono ?_
      rintro e w6 ⟨v, rfl, hown, hb6⟩
      obtain ⟨va, vc, rfl, -, -⟩ := own_form hown
      have HB6 := Lib.hid (HB.out.below hb6)
      have HK6 := Lib.hid (HK.out.keep hb6)
      have HO6 := Lib.hid (own_base hown HB.out.all.size)
      have hg6 := hb6.size
      clear hown hb6 HB HK
      go_wp2_with fail
      refine (stringRead_any g g _ _ HK6.out).mono ?_
      rintro e w7 ⟨rfl, hrd⟩
      have HB7 := Lib.hid (HB6.out.low (hrd.below (by omega)) HW.out HWW.out)
      have HO7 := Lib.hid (hrd.own HO6.out (by decide))
      clear hrd HB6 HO6 HK6
      have hblk' := set4 HB7.out.1 (.string nme) (.int .i64 14) (.slice va dims.length vc) (.string ⟨(flat f 8 xs).toArray⟩)
      have hk4 := cells_of4 hblk'
      have hbb := (((HB7.out.all.setCell (p := ⟨w.heap.size, 0, none⟩) (Nat.le_refl _) (.string nme)).setCell (p := ⟨w.heap.size, 1, none⟩) (Nat.le_refl _) (.int .i64 14)).setCell (p := ⟨w.heap.size, 2, none⟩) (Nat.le_refl _) (.slice va dims.length vc)).setCell (p := ⟨w.heap.size, 3, none⟩) (Nat.le_refl _) (.string ⟨(flat f 8 xs).toArray⟩)
      have hbo : (Value.slice va dims.length vc).ownBlock ≠ some w.heap.size := own_far HO7.out HB7.out.1 (by decide)
      have hko := own_far_set HO7.out hbo (.string nme) (.int .i64 14) (.slice va dims.length vc) (.string ⟨(flat f 8 xs).toArray⟩)
      have HKK := Lib.hid (And.intro hk4 (And.intro hbb hko))
      obtain ⟨c0, c1, c2, c3⟩ := HB7.out.four
      have f0 := fun i => frozen_of_row w7 w.heap.size i _ _ HB7.out.1
      clear hblk' hk4 hbb hbo hko
      go_wp2_with fail
      clear c0 c1 c2 c3 f0
      obtain ⟨⟨c0, c1, c2, c3⟩, hbb, hko⟩ := HKK.out
      clear HKK
      generalize (((w7.setCell ⟨w.heap.size, 0, none⟩ (.string nme)).setCell ⟨w.heap.size, 1, none⟩ (.int .i64 14)).setCell ⟨w.heap.size, 2, none⟩ (.slice va dims.length vc)).setCell ⟨w.heap.size, 3, none⟩ (.string ⟨(flat f 8 xs).toArray⟩) = w8 at *
      exact bodyPost_ret (v := tv nme 14 (.slice va dims.length vc) ⟨(flat f 8 xs).toArray⟩) (by simp [results, Try.results52, go_sem, c0, c1, c2, c3]) rfl ⟨_, rfl, hko, hbb⟩
end Go.Proofs.Ytngjpgdgipmieaa
/- The walks of OfInts, OfFlags, OfNums, each out of one text (wip/tools/gen7c.py). -/
namespace Go.Proofs.Ytngjpgdgipmieaa
open Go.RowKit M6 M7


set_option maxRecDepth 100000 in
set_option maxHeartbeats 1000000 in
theorem ofInt_any (nme : ByteArray) (A : Option Addr) (c : Nat) (dims : List Int) (B : Option Addr) (d : Nat) (xs : List (Int)) (f : Int → List UInt8) (w : World) (hdl : dims.length ≤ 1000000) (hxl : xs.length ≤ 1000000)
    (hd : SR w w.heap.size 1 A dims.length (iv dims)) (hx : SR w w.heap.size 1 B xs.length (xs.map fun p => Value.int .i64 p))
    (hf : ∀ p ∈ xs, (f p).length = 8 ∧ ∀ W : World, Calls Try.prog 47 #[Value.int .i64 p] W fun e w' => e = .returned (av (f p)) ∧ Below W.heap.size W w') :
    Calls Try.prog 23 #[.string nme, .slice A dims.length c, .slice B xs.length d] w fun e w' =>
      ∃ v, e = .returned (tv nme 7 v ⟨(flat f 8 xs).toArray⟩) ∧ w'.ownsRow w.heap.size 2 1 v dims.length (iv dims) ∧ Below w.heap.size w w' := by
  have HBX := Lib.hid (Bx.start w zt 25)
  have HM := Lib.hid (madeInt_any nme A c dims B d xs f _ hdl hxl ((hd.below HBX.out.all).more HBX.out.all.size) ((hx.below HBX.out.all).more HBX.out.all.size) hf)
  clear hd hx hf hdl hxl
  go_enter Try.func23, Try.ntmps23
  go_wp2_with fail
  refine HM.out.mono ?_
  rintro e w7 ⟨v, rfl, hown, hb⟩
  obtain ⟨va, vc, rfl, -, -⟩ := own_form hown
  have HB7 := Lib.hid (HBX.out.below hb)
  have HO7 := Lib.hid (own_base hown HBX.out.all.size)
  clear hown hb HBX HM
  have hblk' := set4 HB7.out.1 (.string nme) (.int .i64 7) (.slice va dims.length vc) (.string ⟨(flat f 8 xs).toArray⟩)
  have hk4 := cells_of4 hblk'
  have hbb := (((HB7.out.all.setCell (p := ⟨w.heap.size, 0, none⟩) (Nat.le_refl _) (.string nme)).setCell (p := ⟨w.heap.size, 1, none⟩) (Nat.le_refl _) (.int .i64 7)).setCell (p := ⟨w.heap.size, 2, none⟩) (Nat.le_refl _) (.slice va dims.length vc)).setCell (p := ⟨w.heap.size, 3, none⟩) (Nat.le_refl _) (.string ⟨(flat f 8 xs).toArray⟩)
  have hbo : (Value.slice va dims.length vc).ownBlock ≠ some w.heap.size := own_far HO7.out HB7.out.1 (by decide)
  have hko := own_far_set HO7.out hbo (.string nme) (.int .i64 7) (.slice va dims.length vc) (.string ⟨(flat f 8 xs).toArray⟩)
  have HKK := Lib.hid (And.intro hk4 (And.intro hbb hko))
  obtain ⟨c0, c1, c2, c3⟩ := HB7.out.four
  have f0 := fun i => frozen_of_row w7 w.heap.size i _ _ HB7.out.1
  clear hblk' hk4 hbb hbo hko
  go_wp2_with fail
  clear c0 c1 c2 c3 f0
  obtain ⟨⟨c0, c1, c2, c3⟩, hbb, hko⟩ := HKK.out
  clear HKK
  generalize (((w7.setCell ⟨w.heap.size, 0, none⟩ (.string nme)).setCell ⟨w.heap.size, 1, none⟩ (.int .i64 7)).setCell ⟨w.heap.size, 2, none⟩ (.slice va dims.length vc)).setCell ⟨w.heap.size, 3, none⟩ (.string ⟨(flat f 8 xs).toArray⟩) = w8 at *
  exact bodyPost_ret (v := tv nme 7 (.slice va dims.length vc) ⟨(flat f 8 xs).toArray⟩) (by simp [results, Try.results23, go_sem, c0, c1, c2, c3]) rfl ⟨_, rfl, hko, hbb⟩

set_option maxRecDepth 100000 in
set_option maxHeartbeats 1000000 in
theorem ofFlag_any (nme : ByteArray) (A : Option Addr) (c : Nat) (dims : List Int) (B : Option Addr) (d : Nat) (xs : List (Bool)) (f : Bool → List UInt8) (w : World) (hdl : dims.length ≤ 1000000) (hxl : xs.length ≤ 1000000)
    (hd : SR w w.heap.size 1 A dims.length (iv dims)) (hx : SR w w.heap.size 1 B xs.length (xs.map fun p => Value.bool p))
    (hf : ∀ p ∈ xs, (f p).length = 8 ∧ ∀ W : World, Calls Try.prog 49 #[Value.bool p] W fun e w' => e = .returned (av (f p)) ∧ Below W.heap.size W w') :
    Calls Try.prog 24 #[.string nme, .slice A dims.length c, .slice B xs.length d] w fun e w' =>
      ∃ v, e = .returned (tv nme 9 v ⟨(flat f 1 xs).toArray⟩) ∧ w'.ownsRow w.heap.size 2 1 v dims.length (iv dims) ∧ Below w.heap.size w w' := by
  have HBX := Lib.hid (Bx.start w zt 25)
  have HM := Lib.hid (madeFlag_any nme A c dims B d xs f _ hdl hxl ((hd.below HBX.out.all).more HBX.out.all.size) ((hx.below HBX.out.all).more HBX.out.all.size) hf)
  clear hd hx hf hdl hxl
  go_enter Try.func24, Try.ntmps24
  go_wp2_with fail
  refine HM.out.mono ?_
  rintro e w7 ⟨v, rfl, hown, hb⟩
  obtain ⟨va, vc, rfl, -, -⟩ := own_form hown
  have HB7 := Lib.hid (HBX.out.below hb)
  have HO7 := Lib.hid (own_base hown HBX.out.all.size)
  clear hown hb HBX HM
  have hblk' := set4 HB7.out.1 (.string nme) (.int .i64 9) (.slice va dims.length vc) (.string ⟨(flat f 1 xs).toArray⟩)
  have hk4 := cells_of4 hblk'
  have hbb := (((HB7.out.all.setCell (p := ⟨w.heap.size, 0, none⟩) (Nat.le_refl _) (.string nme)).setCell (p := ⟨w.heap.size, 1, none⟩) (Nat.le_refl _) (.int .i64 9)).setCell (p := ⟨w.heap.size, 2, none⟩) (Nat.le_refl _) (.slice va dims.length vc)).setCell (p := ⟨w.heap.size, 3, none⟩) (Nat.le_refl _) (.string ⟨(flat f 1 xs).toArray⟩)
  have hbo : (Value.slice va dims.length vc).ownBlock ≠ some w.heap.size := own_far HO7.out HB7.out.1 (by decide)
  have hko := own_far_set HO7.out hbo (.string nme) (.int .i64 9) (.slice va dims.length vc) (.string ⟨(flat f 1 xs).toArray⟩)
  have HKK := Lib.hid (And.intro hk4 (And.intro hbb hko))
  obtain ⟨c0, c1, c2, c3⟩ := HB7.out.four
  have f0 := fun i => frozen_of_row w7 w.heap.size i _ _ HB7.out.1
  clear hblk' hk4 hbb hbo hko
  go_wp2_with fail
  clear c0 c1 c2 c3 f0
  obtain ⟨⟨c0, c1, c2, c3⟩, hbb, hko⟩ := HKK.out
  clear HKK
  generalize (((w7.setCell ⟨w.heap.size, 0, none⟩ (.string nme)).setCell ⟨w.heap.size, 1, none⟩ (.int .i64 9)).setCell ⟨w.heap.size, 2, none⟩ (.slice va dims.length vc)).setCell ⟨w.heap.size, 3, none⟩ (.string ⟨(flat f 1 xs).toArray⟩) = w8 at *
  exact bodyPost_ret (v := tv nme 9 (.slice va dims.length vc) ⟨(flat f 1 xs).toArray⟩) (by simp [results, Try.results24, go_sem, c0, c1, c2, c3]) rfl ⟨_, rfl, hko, hbb⟩

set_option maxRecDepth 100000 in
set_option maxHeartbeats 1000000 in
theorem ofNum_any (nme : ByteArray) (A : Option Addr) (c : Nat) (dims : List Int) (B : Option Addr) (d : Nat) (xs : List (Nat × Nat)) (f : Nat × Nat → List UInt8) (w : World) (hdl : dims.length ≤ 1000000) (hxl : xs.length ≤ 1000000)
    (hd : SR w w.heap.size 1 A dims.length (iv dims)) (hx : SR w w.heap.size 1 B xs.length (xs.map fun p => Value.complex .f64 p.1 p.2))
    (hf : ∀ p ∈ xs, (f p).length = 8 ∧ ∀ W : World, Calls Try.prog 53 #[Value.complex .f64 p.1 p.2] W fun e w' => e = .returned (av (f p)) ∧ Below W.heap.size W w') :
    Calls Try.prog 27 #[.string nme, .slice A dims.length c, .slice B xs.length d] w fun e w' =>
      ∃ v, e = .returned (tv nme 14 v ⟨(flat f 8 xs).toArray⟩) ∧ w'.ownsRow w.heap.size 2 1 v dims.length (iv dims) ∧ Below w.heap.size w w' := by
  have HBX := Lib.hid (Bx.start w zt 25)
  have HM := Lib.hid (madeNum_any nme A c dims B d xs f _ hdl hxl ((hd.below HBX.out.all).more HBX.out.all.size) ((hx.below HBX.out.all).more HBX.out.all.size) hf)
  clear hd hx hf hdl hxl
  go_enter Try.func27, Try.ntmps27
  go_wp2_with fail
  refine HM.out.mono ?_
  rintro e w7 ⟨v, rfl, hown, hb⟩
  obtain ⟨va, vc, rfl, -, -⟩ := own_form hown
  have HB7 := Lib.hid (HBX.out.below hb)
  have HO7 := Lib.hid (own_base hown HBX.out.all.size)
  clear hown hb HBX HM
  have hblk' := set4 HB7.out.1 (.string nme) (.int .i64 14) (.slice va dims.length vc) (.string ⟨(flat f 8 xs).toArray⟩)
  have hk4 := cells_of4 hblk'
  have hbb := (((HB7.out.all.setCell (p := ⟨w.heap.size, 0, none⟩) (Nat.le_refl _) (.string nme)).setCell (p := ⟨w.heap.size, 1, none⟩) (Nat.le_refl _) (.int .i64 14)).setCell (p := ⟨w.heap.size, 2, none⟩) (Nat.le_refl _) (.slice va dims.length vc)).setCell (p := ⟨w.heap.size, 3, none⟩) (Nat.le_refl _) (.string ⟨(flat f 8 xs).toArray⟩)
  have hbo : (Value.slice va dims.length vc).ownBlock ≠ some w.heap.size := own_far HO7.out HB7.out.1 (by decide)
  have hko := own_far_set HO7.out hbo (.string nme) (.int .i64 14) (.slice va dims.length vc) (.string ⟨(flat f 8 xs).toArray⟩)
  have HKK := Lib.hid (And.intro hk4 (And.intro hbb hko))
  obtain ⟨c0, c1, c2, c3⟩ := HB7.out.four
  have f0 := fun i => frozen_of_row w7 w.heap.size i _ _ HB7.out.1
  clear hblk' hk4 hbb hbo hko
  go_wp2_with fail
  clear c0 c1 c2 c3 f0
  obtain ⟨⟨c0, c1, c2, c3⟩, hbb, hko⟩ := HKK.out
  clear HKK
  generalize (((w7.setCell ⟨w.heap.size, 0, none⟩ (.string nme)).setCell ⟨w.heap.size, 1, none⟩ (.int .i64 14)).setCell ⟨w.heap.size, 2, none⟩ (.slice va dims.length vc)).setCell ⟨w.heap.size, 3, none⟩ (.string ⟨(flat f 8 xs).toArray⟩) = w8 at *
  exact bodyPost_ret (v := tv nme 14 (.slice va dims.length vc) ⟨(flat f 8 xs).toArray⟩) (by simp [results, Try.results27, go_sem, c0, c1, c2, c3]) rfl ⟨_, rfl, hko, hbb⟩
end Go.Proofs.Ytngjpgdgipmieaa
/- The walks of Name, the program's and the document's own, by contract. -/
namespace Go.Proofs.Ytngjpgdgipmieaa
open Go.RowKit M7

theorem nmc_yes {s : ByteArray} {k : Nat} (h : k < s.size) (h1 : ¬ (s[k].toNat : Int) < 33) (h2 : ¬ 126 < (s[k].toNat : Int)) : nmc s k = true := by
  rw [nmc_at h, decide_eq_true (by omega), decide_eq_true (by omega)]; rfl
theorem nmc_low {s : ByteArray} {k : Nat} (h : k < s.size) (h1 : (s[k].toNat : Int) < 33) : nmc s k = false := by
  rw [nmc_at h, decide_eq_false (by omega)]; rfl
theorem nmc_high {s : ByteArray} {k : Nat} (h : k < s.size) (h2 : 126 < (s[k].toNat : Int)) : nmc s k = false := by
  rw [nmc_at h, decide_eq_false (p := s[k].toNat ≤ 126) (by omega), Bool.and_false]
theorem succ_all {Q : Nat → Prop} {k : Nat} (h : ∀ i, i < k → Q i) (hk : Q k) : ∀ i, i < k + 1 → Q i := by
  intro i hi
  by_cases he : i = k
  · rw [he]; exact hk
  · exact h i (by omega)

set_option maxRecDepth 100000 in
theorem name_any (s : ByteArray) (w : World) (hs : s.size ≤ maxLen) :
    Calls Try.prog 11 #[.string s] w fun e w' => e = .returned (.bool (nm s)) ∧ w = w' := by
  unfold maxLen at hs
  by_cases h1 : s.size < 1
  · have HE := Lib.hid (nm_short h1)
    have h1' : (s.size : Int) < 1 := by omega
    clear h1
    go_enter Try.func11, Try.ntmps11
    go_wp2_with fail
    go_ret
    rw [HE.out]
    exact ⟨rfl, rfl⟩
  · have h1' : ¬ (s.size : Int) < 1 := by omega
    by_cases h2 : 64 < s.size
    · have HE := Lib.hid (nm_long h2)
      have h2' : 64 < (s.size : Int) := by omega
      clear h1 h2
      go_enter Try.func11, Try.ntmps11
      go_wp2_with fail
      go_ret
      rw [HE.out]
      exact ⟨rfl, rfl⟩
    · have h2' : ¬ 64 < (s.size : Int) := by omega
      go_enter Try.func11, Try.ntmps11
      go_wp2_with fail
      go_loop [3, 14] (fun _ i => ∃ (k : Nat) (K : Int), i = .int .i64 K ∧ K = (k : Nat) ∧ k ≤ s.size ∧ ∀ i, i < k → nmc s i = true) (fun _ i => s.size - (intOf i).toNat)
      case atStart => exact ⟨0, _, rfl, rfl, by omega, by intro i hi; omega⟩
      case round =>
        obtain ⟨k, K, rfl, rfl, hk, hall⟩ := hrel
        by_cases hlt : k < s.size
        · have HY := Lib.hid (fun h1 h2 => succ_all hall (nmc_yes hlt h1 h2))
          have HL := Lib.hid (fun h => nm_bad hlt (nmc_low hlt h))
          have HH := Lib.hid (fun h => nm_bad hlt (nmc_high hlt h))
          clear hall
          by_cases ha : (s[k].toNat : Int) < 33
          · have HE := Lib.hid (HL.out ha)
            clear HL HY HH
            go_wp2_with fail
            go_ret
            rw [HE.out]
            exact ⟨rfl, rfl⟩
          · by_cases hb : 126 < (s[k].toNat : Int)
            · have HE := Lib.hid (HH.out hb)
              clear HL HY HH
              go_wp2_with fail
              go_ret
              rw [HE.out]
              exact ⟨rfl, rfl⟩
            · have HE := Lib.hid (HY.out ha hb)
              clear HL HY HH
              go_wp2_with fail
              go_round
              case rel => exact ⟨k + 1, _, rfl, by omega, by omega, HE.out⟩
              case measure => simp [intOf]; omega
        · obtain rfl : k = s.size := by omega
          have HE := Lib.hid (nm_ok (by omega) (by omega) hall)
          clear hall
          go_wp2_with fail
          go_ret
          rw [HE.out]
          exact ⟨rfl, rfl⟩

set_option maxRecDepth 100000 in
theorem rname_any (s : ByteArray) (w : World) (hs : s.size ≤ maxLen) :
    Calls Try.prog 12 #[.string s] w fun e w' => e = .returned (.bool (nm s)) ∧ w = w' := by
  unfold maxLen at hs
  go_enter Try.func12, Try.ntmps12
  go_wp2_with fail
  go_loop [3] (fun i => ∃ (k : Nat) (K : Int), i = .int .i64 K ∧ K = (k : Nat) ∧ k ≤ s.size ∧ ∀ i, i < k → nmc s i = true) (fun i => s.size - (intOf i).toNat)
  case atStart => exact ⟨0, _, rfl, rfl, by omega, by intro i hi; omega⟩
  case round =>
    obtain ⟨k, K, rfl, rfl, hk, hall⟩ := hrel
    by_cases hlt : k < s.size
    · have HY := Lib.hid (fun h1 h2 => succ_all hall (nmc_yes hlt h1 h2))
      have HL := Lib.hid (fun h => nm_bad hlt (nmc_low hlt h))
      have HH := Lib.hid (fun h => nm_bad hlt (nmc_high hlt h))
      clear hall
      by_cases ha : (s[k].toNat : Int) < 33
      · have HE := Lib.hid (HL.out ha)
        clear HL HY HH
        go_wp2_with fail
        go_ret
        rw [HE.out]
        exact ⟨rfl, rfl⟩
      · by_cases hb : 126 < (s[k].toNat : Int)
        · have HE := Lib.hid (HH.out hb)
          clear HL HY HH
          go_wp2_with fail
          go_ret
          rw [HE.out]
          exact ⟨rfl, rfl⟩
        · have HE := Lib.hid (HY.out ha hb)
          clear HL HY HH
          go_wp2_with fail
          go_round
          case rel => exact ⟨k + 1, _, rfl, by omega, by omega, HE.out⟩
          case measure => simp [intOf]; omega
    · obtain rfl : k = s.size := by omega
      have HE := Lib.hid (nm_of hall)
      clear hall
      by_cases h1 : 1 ≤ s.size
      · have h1' : (1 : Int) ≤ (s.size : Int) := by omega
        by_cases h2 : s.size ≤ 64
        · have h2' : (s.size : Int) ≤ 64 := by omega
          have HF : Hid (nm s = true) := Lib.hid (by rw [HE.out, decide_eq_true h1, decide_eq_true h2]; rfl)
          go_wp2_with fail
          go_ret
          rw [HF.out]
          exact ⟨rfl, rfl⟩
        · have h2' : ¬ (s.size : Int) ≤ 64 := by omega
          have HF : Hid (nm s = false) := Lib.hid (by rw [HE.out, decide_eq_true h1, decide_eq_false h2]; rfl)
          go_wp2_with fail
          go_ret
          rw [HF.out]
          exact ⟨rfl, rfl⟩
      · have h1' : ¬ (1 : Int) ≤ (s.size : Int) := by omega
        have HF : Hid (nm s = false) := Lib.hid (by rw [HE.out, decide_eq_false h1]; rfl)
        go_wp2_with fail
        go_ret
        rw [HF.out]
        exact ⟨rfl, rfl⟩
end Go.Proofs.Ytngjpgdgipmieaa
/- The walks of layer 5: a shape's size, and the document's own, by contract. -/
namespace Go.Proofs.Ytngjpgdgipmieaa
open Go.RowKit M5

theorem take_succ_nn {l : List Int} {k : Nat} {Q : Int → Prop} (h : ∀ x ∈ l.take k, Q x) (hlt : k < l.length) (hq : Q l[k]) : ∀ x ∈ l.take (k + 1), Q x := by
  intro x hx
  rw [List.take_succ_eq_append_getElem hlt] at hx
  rcases List.mem_append.1 hx with hx | hx
  · exact h x hx
  · simp at hx; rw [hx]; exact hq
theorem one_le_of {u : Int} (h0 : ¬ u < 0) (h : (u == 0) = false) : 1 ≤ u := by
  have : ¬ u = 0 := by simpa using h
  omega

set_option maxRecDepth 100000 in
theorem shSize_any (A : Option Addr) (c : Nat) (l : List Int) (w : World) (hl : l.length ≤ maxLen) (ha : SR w w.heap.size 1 A l.length (iv l)) (hin : ∀ n ∈ l, I64 n) :
    Calls Try.prog 33 #[.slice A l.length c] w fun e w' => e = .returned (.tuple #[.int .i64 (sz l).1, .int .i64 ((sz l).2 : Int)]) ∧ w = w' := by
  unfold maxLen at hl
  have HI := Lib.hid hin
  clear hin
  by_cases h8 : 8 < l.length
  · have h8' : (8 : Int) < (l.length : Int) := by omega
    have HE := Lib.hid (sz_long h8)
    clear h8 ha
    go_enter Try.func33, Try.ntmps33
    go_wp2_with fail
    go_ret2
    rw [HE.out]
    exact ⟨rfl, rfl⟩
  · have h8' : (l.length : Int) ≤ 8 := by omega
    go_enter Try.func33, Try.ntmps33
    go_wp2_with fail
    go_loop [4, 12] (fun _ i => ∃ (k : Nat) (K : Int), i = .int .i64 K ∧ K = (k : Nat) ∧ k ≤ l.length ∧ ∀ x ∈ l.take k, 0 ≤ x) (fun _ i => l.length - (intOf i).toNat)
    case atStart => exact ⟨0, _, rfl, rfl, by omega, by simp⟩
    case round =>
      obtain ⟨k, K, rfl, rfl, hk, hnn⟩ := hrel
      by_cases hlt : k < l.length
      · obtain ⟨b1, o1, rfl, hb1, x0⟩ := int_at ha hlt
        have HN := Lib.hid (take_succ_nn hnn hlt)
        have HM := Lib.hid (List.getElem_mem hlt)
        have HG := Lib.hid (fun h => sz_neg (List.getElem_mem hlt) h)
        generalize l[k] = u at *
        by_cases hu : u < 0
        · have HE := Lib.hid (HG.out hu)
          clear ha hnn
          go_wp2_with fail
          go_ret2
          rw [HE.out]
          exact ⟨rfl, rfl⟩
        · have HE := Lib.hid (HN.out (by omega))
          clear hnn
          go_wp2_with fail
          go_round
          case rel => exact ⟨k + 1, _, rfl, by omega, by omega, HE.out⟩
          case measure => simp [intOf]; omega
      · obtain rfl : k = l.length := by omega
        rw [List.take_length] at hnn
        have HN := Lib.hid hnn
        clear hnn
        go_wp2_with fail
        go_loop [5, 6, 23] (fun s _ i => ∃ (k : Nat) (K S : Int), i = .int .i64 K ∧ K = (k : Nat) ∧ k ≤ l.length ∧ s = .int .i64 S ∧ S = cap (l.take k) ∧ 0 ≤ S ∧ S ≤ 65537 ∧ ∀ x ∈ l.take k, x ≤ 65536) (fun _ _ i => l.length - (intOf i).toNat)
        case atStart => exact ⟨0, _, _, rfl, rfl, by omega, rfl, (by rw [List.take_zero]; decide), by omega, by omega, by simp⟩
        case round =>
          obtain ⟨k, K, S, rfl, rfl, hk, rfl, hS, hS0, hS1, hgr⟩ := hrel
          have HS := Lib.hid hS
          clear hS
          by_cases hlt : k < l.length
          · obtain ⟨b1, o1, rfl, hb1, x0⟩ := int_at ha hlt
            have hu0 := HN.out l[k] (List.getElem_mem hlt)
            have HG := Lib.hid (take_succ_nn hgr hlt)
            have HT := Lib.hid (fun h => sz_great (by omega) HN.out (List.getElem_mem hlt) h)
            have hcs := cap_snoc (l := l.take k) (fun x hx => HN.out x (List.mem_of_mem_take hx)) hu0
            rw [← List.take_succ_eq_append_getElem hlt, ← HS.out] at hcs
            have HC := Lib.hid hcs
            clear hcs hgr
            generalize l[k] = u at *
            by_cases hu : 65536 < u
            · have HE := Lib.hid (HT.out hu)
              clear ha
              go_wp2_with fail
              go_ret2
              rw [HE.out]
              exact ⟨rfl, rfl⟩
            · have HE := Lib.hid (HG.out (by omega))
              have hm0 : 0 ≤ S * u := Int.mul_nonneg hS0 hu0
              have hm1 : S * u ≤ 65537 * 65536 := Int.mul_le_mul hS1 (by omega) hu0 (by omega)
              go_wp2_with fail
              go_round
              case rel => exact ⟨k + 1, _, _, rfl, by omega, by omega, rfl, (by rw [HC.out]; split <;> omega), by split <;> omega, by split <;> omega, HE.out⟩
              case measure => simp [intOf]; omega
          · obtain rfl : k = l.length := by omega
            rw [List.take_length] at hgr HS
            have hp := prd_nonneg HN.out
            have hcp : cap l = min (prd l) 65537 := rfl
            have hS := HS.out
            by_cases hm : 65536 < prd l
            · obtain rfl : S = 65537 := by omega
              have HE := Lib.hid (sz_much (by omega) HN.out hm)
              clear hgr ha hcp hS
              go_wp2_with fail
              go_ret2
              rw [HE.out]
              exact ⟨rfl, rfl⟩
            · obtain rfl : S = prd l := by omega
              have HE := Lib.hid (sz_ok ⟨by omega, HN.out, hgr, by omega⟩)
              clear hgr ha hcp hS
              generalize prd l = S at *
              go_wp2_with fail
              go_ret2
              rw [HE.out]
              exact ⟨rfl, rfl⟩

set_option maxRecDepth 100000 in
theorem shRefSize_any (A : Option Addr) (c : Nat) (l : List Int) (w : World) (hl : l.length ≤ maxLen) (ha : SR w w.heap.size 1 A l.length (iv l)) (hin : ∀ n ∈ l, I64 n) :
    Calls Try.prog 31 #[.slice A l.length c] w fun e w' => e = .returned (.tuple #[.int .i64 (sz l).1, .int .i64 ((sz l).2 : Int)]) ∧ w = w' := by
  unfold maxLen at hl
  have HI := Lib.hid hin
  clear hin
  by_cases h8 : 8 < l.length
  · have h8' : (8 : Int) < (l.length : Int) := by omega
    have HE := Lib.hid (sz_long h8)
    clear h8 ha
    go_enter Try.func31, Try.ntmps31
    go_wp2_with fail
    go_ret2
    rw [HE.out]
    exact ⟨rfl, rfl⟩
  · have h8' : (l.length : Int) ≤ 8 := by omega
    go_enter Try.func31, Try.ntmps31
    go_wp2_with fail
    go_loop [4, 5, 6] (fun g z i => ∃ (k : Nat) (K : Int) (G Z : Bool), i = .int .i64 K ∧ K = (k : Nat) ∧ k ≤ l.length ∧ g = .bool G ∧ z = .bool Z ∧ (∀ x ∈ l.take k, 0 ≤ x) ∧ (G = true → ∃ x ∈ l, 65536 < x) ∧ (G = false → ∀ x ∈ l.take k, x ≤ 65536) ∧ (Z = true → (0 : Int) ∈ l) ∧ (Z = false → ∀ x ∈ l.take k, 1 ≤ x)) (fun _ _ i => l.length - (intOf i).toNat)
    case atStart => exact ⟨0, _, _, _, rfl, rfl, by omega, rfl, rfl, by simp, by simp, by simp, by simp, by simp⟩
    case round =>
      obtain ⟨k, K, G, Z, rfl, rfl, hk, rfl, rfl, hnn, hG1, hG0, hZ1, hZ0⟩ := hrel
      by_cases hlt : k < l.length
      · obtain ⟨b1, o1, rfl, hb1, x0⟩ := int_at ha hlt
        have HN := Lib.hid (take_succ_nn hnn hlt)
        have HM := Lib.hid (List.getElem_mem hlt)
        have HG := Lib.hid (fun h => sz_neg (List.getElem_mem hlt) h)
        have HG1 := Lib.hid hG1
        have HG0 := Lib.hid (fun h => take_succ_nn (hG0 h) hlt)
        have HZ1 := Lib.hid hZ1
        have HZ0 := Lib.hid (fun h => take_succ_nn (hZ0 h) hlt)
        generalize l[k] = u at *
        clear hnn hG1 hG0 hZ1 hZ0
        by_cases hu : u < 0
        · have HE := Lib.hid (HG.out hu)
          clear ha
          go_wp2_with fail
          go_ret2
          rw [HE.out]
          exact ⟨rfl, rfl⟩
        · have HE := Lib.hid (HN.out (by omega))
          cases G <;> cases Z
          · go_wp2_with fail
            go_round
            case rel => exact ⟨k + 1, _, _, _, rfl, by omega, by omega, rfl, rfl, HE.out, fun h => ⟨_, HM.out, by simpa using h⟩, fun h => HG0.out rfl (by simpa using h), fun h => (by simpa using h : u = 0) ▸ HM.out, fun h => HZ0.out rfl (one_le_of hu h)⟩
            case measure => simp [intOf]; omega
          · go_wp2_with fail
            go_round
            case rel => exact ⟨k + 1, _, _, _, rfl, by omega, by omega, rfl, rfl, HE.out, fun h => ⟨_, HM.out, by simpa using h⟩, fun h => HG0.out rfl (by simpa using h), fun _ => HZ1.out rfl, fun h => by cases h⟩
            case measure => simp [intOf]; omega
          · go_wp2_with fail
            go_round
            case rel => exact ⟨k + 1, _, _, _, rfl, by omega, by omega, rfl, rfl, HE.out, fun _ => HG1.out rfl, (fun h => by cases h), fun h => (by simpa using h : u = 0) ▸ HM.out, fun h => HZ0.out rfl (one_le_of hu h)⟩
            case measure => simp [intOf]; omega
          · go_wp2_with fail
            go_round
            case rel => exact ⟨k + 1, _, _, _, rfl, by omega, by omega, rfl, rfl, HE.out, fun _ => HG1.out rfl, (fun h => by cases h), fun _ => HZ1.out rfl, fun h => by cases h⟩
            case measure => simp [intOf]; omega
      · obtain rfl : k = l.length := by omega
        rw [List.take_length] at hnn hG0 hZ0
        cases G
        · have HP := Lib.hid (hG0 rfl)
          have HN := Lib.hid hnn
          cases Z
          · have HO := Lib.hid (hZ0 rfl)
            clear hnn hG1 hG0 hZ1 hZ0
            go_wp2_with fail
            go_loop [7, 8] (fun s i => ∃ (k : Nat) (K S : Int), i = .int .i64 K ∧ K = (k : Nat) ∧ k ≤ l.length ∧ s = .int .i64 S ∧ S = prd (l.take k) ∧ 0 ≤ S ∧ S ≤ 65536) (fun _ i => l.length - (intOf i).toNat)
            case atStart => exact ⟨0, _, _, rfl, rfl, by omega, rfl, (by rw [List.take_zero]; rfl), by omega, by omega⟩
            case round =>
              obtain ⟨k, K, S, rfl, rfl, hk, rfl, hS, hS0, hS1⟩ := hrel
              by_cases hlt : k < l.length
              · obtain ⟨b1, o1, rfl, hb1, x0⟩ := int_at ha hlt
                have hu0 := HO.out l[k] (List.getElem_mem hlt)
                have hu1 := HP.out l[k] (List.getElem_mem hlt)
                have hpk := prd_snoc (l.take k) l[k]
                rw [← List.take_succ_eq_append_getElem hlt, ← hS] at hpk
                have hmore : prd (l.take (k + 1)) ≤ prd l := by
                  have := prd_le_mul (a := l.take (k + 1)) (b := l.drop (k + 1)) (fun x hx => HO.out x (List.mem_of_mem_take hx)) (fun x hx => HO.out x (List.mem_of_mem_drop hx))
                  rwa [List.take_append_drop] at this
                rw [hpk] at hmore
                have HK := Lib.hid hpk
                clear hpk hS
                generalize l[k] = u at *
                have hm0 : 0 ≤ S * u := Int.mul_nonneg hS0 (by omega)
                have hm1 : S * u ≤ 65536 * 65536 := Int.mul_le_mul hS1 (by omega) (by omega) (by omega)
                by_cases hm : 65536 < S * u
                · have HE := Lib.hid (sz_much (by omega) HN.out (show 65536 < prd l by omega))
                  clear ha hmore
                  go_wp2_with fail
                  go_ret2
                  rw [HE.out]
                  exact ⟨rfl, rfl⟩
                · clear hmore
                  go_wp2_with fail
                  go_round
                  case rel => exact ⟨k + 1, _, _, rfl, by omega, by omega, rfl, HK.out.symm, by omega, by omega⟩
                  case measure => simp [intOf]; omega
              · obtain rfl : k = l.length := by omega
                rw [List.take_length] at hS
                have HE := Lib.hid (sz_ok ⟨by omega, HN.out, HP.out, by omega⟩)
                rw [← hS] at HE
                clear ha hS
                go_wp2_with fail
                go_ret2
                rw [HE.out]
                exact ⟨rfl, rfl⟩
          · have hz := prd_zero (hZ1 rfl)
            have HE := Lib.hid (sz_ok ⟨by omega, HN.out, HP.out, by omega⟩)
            rw [hz] at HE
            have hpos := List.length_pos_of_mem (hZ1 rfl)
            clear hnn hG1 hG0 hZ1 hZ0 ha hz
            go_wp2_with fail
            go_loop [7, 8] (fun s i => s = .int .i64 1 ∧ i = .int .i64 0) (fun _ _ => 0)
            case atStart => exact ⟨rfl, rfl⟩
            case round =>
              obtain ⟨rfl, rfl⟩ := hrel
              have hpos' : (0 : Int) < (l.length : Int) := by omega
              go_wp2_with fail
              go_ret2
              rw [HE.out]
              exact ⟨rfl, rfl⟩
        · obtain ⟨x, hx, hx2⟩ := hG1 rfl
          have HE := Lib.hid (sz_great (by omega) hnn hx hx2)
          clear hnn hG1 hG0 hZ1 hZ0 ha hx
          go_wp2_with fail
          go_ret2
          rw [HE.out]
          exact ⟨rfl, rfl⟩
end Go.Proofs.Ytngjpgdgipmieaa
/- The walks of Check, the program's and the document's own, by contract. -/
namespace Go.Proofs.Ytngjpgdgipmieaa
open Go.RowKit M6 M7 Go.Sort

/-- a tensor that lies in the world -/
structure Tok (w : World) (t : Ten) (A : Option Addr) : Prop where
  name : t.name.size ≤ 140737488351232
  data : t.data.size ≤ 140737488351232
  kind : (Lit.int .i64 t.kind).wf = true
  dims : SR w w.heap.size 1 A t.dims.length (iv t.dims)
  len : t.dims.length ≤ maxLen
  ints : ∀ n ∈ t.dims, I64 n
theorem Tok.below {w w' : World} {t : Ten} {A : Option Addr} (h : Tok w t A) (hb : Below w.heap.size w w') : Tok w' t A := ⟨h.name, h.data, h.kind, (h.dims.below hb).more hb.size, h.len, h.ints⟩
theorem size_nat (k : Int) : ∃ s : Nat, kSize k = (s : Int) ∧ s ≤ 8 := by
  rcases kSize_is k with h | h | h | h
  · exact ⟨0, h, by omega⟩
  · exact ⟨1, h, by omega⟩
  · exact ⟨4, h, by omega⟩
  · exact ⟨8, h, by omega⟩
theorem count_nat (l : List Int) : ∃ n : Nat, (M5.sz l).1 = (n : Int) ∧ n ≤ 65536 := by
  rcases M5.sz_cases l with ⟨c, h, _⟩ | ⟨h, hs⟩
  · exact ⟨0, by rw [h]; rfl, by omega⟩
  · have h0 := M5.prd_nonneg hs.2
    rw [h]
    exact ⟨(M5.prd l).toNat, by simp; omega, by have := hs.4; simp; omega⟩
theorem small_prod {n s : Nat} (hn : n ≤ 65536) (hs : s ≤ 8) : 0 ≤ (n : Int) * (s : Int) ∧ (n : Int) * (s : Int) ≤ 524288 := by
  have := Nat.mul_le_mul hn hs
  rw [← Int.natCast_mul]
  omega

set_option maxRecDepth 100000 in
theorem tcheck_any (t : Ten) (A : Option Addr) (c : Nat) (w : World) (ht : Tok w t A) :
    Calls Try.prog 8 #[tv t.name t.kind (.slice A t.dims.length c) t.data] w fun e w' => e = .returned (.int .i64 (ck t)) ∧ Below w.heap.size w w' := by
  have hd := ht.data
  obtain ⟨s, hs, hs8⟩ := size_nat t.kind
  obtain ⟨n, hn, hn6⟩ := count_nat t.dims
  have HT := Lib.hid ht
  clear ht
  have HNM := Lib.hid (fun W => name_any t.name W (by have := HT.out.name; unfold maxLen; omega))
  have HBX := Lib.hid (Bx.start w #[.string t.name, .int .i64 t.kind, .slice A t.dims.length c, .string t.data] 25)
  cases hnm : nm t.name
  · have HE := Lib.hid (ck_name hnm)
    have HN := Lib.hid hnm
    clear hnm hs hn
    go_enter Try.func8, Try.ntmps8
    go_wp2_with fail
    refine (HNM.out _).mono ?_
    rintro e w1 ⟨rfl, rfl⟩
    rw [HN.out]
    go_wp2_with fail
    go_ret
    rw [HE.out]
    exact ⟨rfl, HBX.out.all⟩
  · have HN := Lib.hid hnm
    clear hnm
    go_enter Try.func8, Try.ntmps8
    go_wp2_with fail
    refine (HNM.out _).mono ?_
    rintro e w1 ⟨rfl, rfl⟩
    rw [HN.out]
    clear HNM
    go_wp2_with fail
    refine (size_any t.kind _ HT.out.kind).mono ?_
    rintro e w1 ⟨rfl, hb1⟩
    have H1 := Lib.hid (HBX.out.below hb1)
    clear hb1 HBX
    rw [hs]
    by_cases hs0 : s = 0
    · subst hs0
      have HE := Lib.hid (ck_kind HN.out hs)
      clear hs hn
      go_wp2_with fail
      go_ret
      rw [HE.out]
      exact ⟨rfl, H1.out.all⟩
    · have hs0' : ¬ (s : Int) = 0 := by omega
      obtain ⟨c0, c1, c2, c3⟩ := H1.out.four
      have HSZ := Lib.hid (shSize_any A c t.dims w1 HT.out.len (HT.out.below H1.out.all).dims HT.out.ints)
      have hk0 : kSize t.kind ≠ 0 := by rw [hs]; exact hs0'
      have HK0 := Lib.hid hk0
      have HSE := Lib.hid hs
      have HNE := Lib.hid hn
      clear hk0 hs hn
      go_wp2_with fail
      refine HSZ.out.mono ?_
      rintro e w2 ⟨rfl, rfl⟩
      rw [HNE.out]
      clear HSZ
      by_cases he : (M5.sz t.dims).2 = 0
      · have HE0 := Lib.hid he
        rw [he]
        clear he
        obtain ⟨p0, p1⟩ := small_prod hn6 hs8
        by_cases hf : (t.data.size : Int) = (n : Int) * (s : Int)
        · have hf' : ((t.data.size : Int) != (n : Int) * (s : Int)) = false := by simpa using hf
          have hfn : t.data.size = n * s := by rw [← Int.natCast_mul] at hf; omega
          have HF := Lib.hid hfn
          have HBAD := Lib.hid (fun (j : Nat) (hj : (j : Int) < (M5.sz t.dims).1) (h : elk t.kind t.data j = false) => ck_bad HN.out HK0.out HE0.out (by rw [HNE.out, HSE.out]; exact hf) hj h)
          have HOK := Lib.hid (fun (h : ∀ j : Nat, (j : Int) < (M5.sz t.dims).1 → elk t.kind t.data j = true) => ck_ok HN.out HK0.out HE0.out (by rw [HNE.out, HSE.out]; exact hf) h)
          clear hf hfn hs0
          go_wp2_with fail
          go_loopw [6, 33] (fun _ i wr => ∃ (k : Nat) (K : Int), i = .int .i64 K ∧ K = (k : Nat) ∧ k ≤ n ∧ (∀ j, j < k → elk t.kind t.data j = true) ∧ Bx w w.heap.size #[.string t.name, .int .i64 t.kind, .slice A t.dims.length c, .string t.data] 25 wr) (fun _ i _ => n - (intOf i).toNat)
          case atStart => exact ⟨0, _, rfl, rfl, by omega, by intro j hj; omega, H1.out⟩
          case round =>
            obtain ⟨k, K, rfl, rfl, hk, hall, hbx⟩ := hrel
            have HB := Lib.hid hbx
            have HA := Lib.hid hall
            clear hbx hall
            by_cases hlt : k < n
            · have hkn : (k + 1) * s ≤ t.data.size := by rw [HF.out]; exact Nat.mul_le_mul_right _ (by omega)
              have hst : (kSize t.kind).toNat = s := by rw [HSE.out]; omega
              have hme := may_elk (k := t.kind) (d := t.data) (j := k) (by rw [hst]; exact hkn)
              rw [hst] at hme
              have hsz8 : t.kind = 14 → (t.data.extract (k * s) ((k + 1) * s)).size = 8 := by
                intro h14
                have : s = 8 := by have := kSize_gauss h14; rw [this] at hst; omega
                subst this
                rw [ByteArray.size_extract]
                omega
              have HC := Lib.hid (fun W => cut_any t.name t.kind A t.dims.length c t.data k s W (by unfold maxLen; omega) hkn (by omega))
              have HM := Lib.hid (fun W => may_any t.kind (t.data.extract (k * s) ((k + 1) * s)) W hsz8)
              rw [hme] at HM
              obtain ⟨x0, x1, x2, x3⟩ := HB.out.four
              have q0 := fun d os => cell_regrown x0 d os
              have q1 := fun d os => cell_regrown x1 d os
              have q2 := fun d os => cell_regrown x2 d os
              have q3 := fun d os => cell_regrown x3 d os
              have hbs := HB.out.2.1
              generalize t.data.extract (k * s) ((k + 1) * s) = E at *
              clear x0 x1 x2 x3 hkn hst hme hsz8 c0 c1 c2 c3
              cases hel : elk t.kind t.data k
              · rw [hel] at HM
                have HE := Lib.hid (HBAD.out k (by rw [HNE.out]; omega) hel)
                clear hel
                go_wp2_with fail
                refine wp_region_quiet_below (by kernel_rfl) (by kernel_rfl) ?_
                repeat (go_big_quiet_step ((first
                  | (go_at_call 35; exact Calls.regrown_of (HC.out _))
                  | (go_at_call 34; exact Calls.regrown_of (HM.out _)))))
                refine wpQuiet_nil ?_
                rintro w2 ⟨p, rfl⟩
                have H2 := Lib.hid (HB.out.below (below_regrown wr p.d p.os))
                clear q0 q1 q2 q3
                generalize grow (redrawn wr p.d) p.os = w2 at H2 ⊢
                go_wp2_with fail
                go_ret
                rw [HE.out]
                exact ⟨rfl, H2.out.all⟩
              · rw [hel] at HM
                have HE := Lib.hid (succ_all (Q := fun j => elk t.kind t.data j = true) HA.out hel)
                clear hel
                go_wp2_with fail
                refine wp_region_quiet_below (by kernel_rfl) (by kernel_rfl) ?_
                repeat (go_big_quiet_step ((first
                  | (go_at_call 35; exact Calls.regrown_of (HC.out _))
                  | (go_at_call 34; exact Calls.regrown_of (HM.out _)))))
                refine wpQuiet_nil ?_
                rintro w2 ⟨p, rfl⟩
                have H2 := Lib.hid (HB.out.below (below_regrown wr p.d p.os))
                clear q0 q1 q2 q3
                generalize grow (redrawn wr p.d) p.os = w2 at H2 ⊢
                go_wp2_with fail
                go_roundw
                case rel => exact ⟨k + 1, _, rfl, by omega, by omega, HE.out, H2.out⟩
                case measure => simp [intOf]; omega
            · obtain rfl : k = n := by omega
              have HE := Lib.hid (HOK.out (by intro j hj; rw [HNE.out] at hj; exact HA.out j (by omega)))
              go_wp2_with fail
              go_ret
              rw [HE.out]
              exact ⟨rfl, HB.out.all⟩
        · have hf' : ((t.data.size : Int) != (n : Int) * (s : Int)) = true := by simpa using hf
          have HE := Lib.hid (ck_form HN.out HK0.out HE0.out (by rw [HNE.out, HSE.out]; exact hf))
          clear hf
          go_wp2_with fail
          go_ret
          rw [HE.out]
          exact ⟨rfl, H1.out.all⟩
      · have HE := Lib.hid (ck_shape HN.out HK0.out he)
        have he' : ¬ ((M5.sz t.dims).2 : Int) = 0 := by omega
        generalize hz : (M5.sz t.dims).2 = z at *
        clear he
        go_wp2_with fail
        go_ret
        rw [HE.out]
        exact ⟨rfl, H1.out.all⟩

theorem ext8 {d : ByteArray} {k n : Nat} (h : d.size = n * 8) (hk : k < n) : (d.extract (k * 8) ((k + 1) * 8)).size = 8 := by
  rw [ByteArray.size_extract]; omega

set_option maxRecDepth 100000 in
set_option maxHeartbeats 1000000 in
theorem rcheck_any (t : Ten) (A : Option Addr) (c : Nat) (w : World) (ht : Tok w t A) :
    Calls Try.prog 7 #[tv t.name t.kind (.slice A t.dims.length c) t.data] w fun e w' => e = .returned (.int .i64 (ck t)) ∧ Below w.heap.size w w' := by
  have hd := ht.data
  obtain ⟨s, hs, hs8⟩ := size_nat t.kind
  obtain ⟨n, hn, hn6⟩ := count_nat t.dims
  have HT := Lib.hid ht
  clear ht
  have HNM := Lib.hid (fun W => rname_any t.name W (by have := HT.out.name; unfold maxLen; omega))
  have HBX := Lib.hid (Bx.start w #[.string t.name, .int .i64 t.kind, .slice A t.dims.length c, .string t.data] 28)
  cases hnm : nm t.name
  · have HE := Lib.hid (ck_name hnm)
    have HN := Lib.hid hnm
    clear hnm hs hn
    go_enter Try.func7, Try.ntmps7
    go_wp2_with fail
    refine (HNM.out _).mono ?_
    rintro e w1 ⟨rfl, rfl⟩
    rw [HN.out]
    go_wp2_with fail
    go_ret
    rw [HE.out]
    exact ⟨rfl, HBX.out.all⟩
  · have HN := Lib.hid hnm
    clear hnm
    go_enter Try.func7, Try.ntmps7
    go_wp2_with fail
    refine (HNM.out _).mono ?_
    rintro e w1 ⟨rfl, rfl⟩
    rw [HN.out]
    clear HNM
    go_wp2_with fail
    refine (refSize_any t.kind _).mono ?_
    rintro e w1 ⟨rfl, rfl⟩
    rw [hs]
    by_cases hs0 : s = 0
    · subst hs0
      have HE := Lib.hid (ck_kind HN.out hs)
      clear hs hn
      go_wp2_with fail
      go_ret
      rw [HE.out]
      exact ⟨rfl, HBX.out.all⟩
    · have hs0' : ¬ (s : Int) = 0 := by omega
      have HSZ := Lib.hid (shRefSize_any A c t.dims (w.alloc (.cells #[.string t.name, .int .i64 t.kind, .slice A t.dims.length c, .string t.data] 28)) HT.out.len (HT.out.below HBX.out.all).dims HT.out.ints)
      have hk0 : kSize t.kind ≠ 0 := by rw [hs]; exact hs0'
      have HK0 := Lib.hid hk0
      have HSE := Lib.hid hs
      have HNE := Lib.hid hn
      clear hk0 hs hn
      go_wp2_with fail
      refine HSZ.out.mono ?_
      rintro e w2 ⟨rfl, rfl⟩
      rw [HNE.out]
      clear HSZ
      by_cases he : (M5.sz t.dims).2 = 0
      · have HE0 := Lib.hid he
        rw [he]
        clear he
        obtain ⟨p0, p1⟩ := small_prod hn6 hs8
        by_cases hf : (t.data.size : Int) = (n : Int) * (s : Int)
        · have hf' : ((t.data.size : Int) != (n : Int) * (s : Int)) = false := by simpa using hf
          have hfn : t.data.size = n * s := by rw [← Int.natCast_mul] at hf; omega
          have HF := Lib.hid hfn
          have HBAD := Lib.hid (fun (j : Nat) (hj : (j : Int) < (M5.sz t.dims).1) (h : elk t.kind t.data j = false) => ck_bad HN.out HK0.out HE0.out (by rw [HNE.out, HSE.out]; exact hf) hj h)
          have HOK := Lib.hid (fun (h : ∀ j : Nat, (j : Int) < (M5.sz t.dims).1 → elk t.kind t.data j = true) => ck_ok HN.out HK0.out HE0.out (by rw [HNE.out, HSE.out]; exact hf) h)
          clear hf hfn hs0
          go_wp2_with fail
          go_loopw [6] (fun i wr => ∃ (k : Nat) (K : Int), i = .int .i64 K ∧ K = (k : Nat) ∧ k ≤ n ∧ (∀ j, j < k → elk t.kind t.data j = true) ∧ Bx w w.heap.size #[.string t.name, .int .i64 t.kind, .slice A t.dims.length c, .string t.data] 28 wr) (fun i _ => n - (intOf i).toNat)
          case atStart => exact ⟨0, _, rfl, rfl, by omega, by intro j hj; omega, HBX.out⟩
          case round =>
            obtain ⟨k, K, rfl, rfl, hk, hall, hbx⟩ := hrel
            have HB := Lib.hid hbx
            have HA := Lib.hid hall
            clear hbx hall
            obtain ⟨x0, x1, x2, x3⟩ := HB.out.four
            by_cases hlt : k < n
            · have HY := Lib.hid (fun h => succ_all (Q := fun j => elk t.kind t.data j = true) HA.out (k := k) h)
              have HZ := Lib.hid (fun h => HBAD.out k (by rw [HNE.out]; omega) h)
              by_cases h9 : t.kind = 9
              · have hs1 : s = 1 := by have := kSize_flag h9; rw [HSE.out] at this; omega
                subst hs1
                have hkd : k < t.data.size := by rw [HF.out]; omega
                have hel : elk t.kind t.data k = decide (t.data[k].toNat ≤ 1) := by rw [h9]; exact elk_flag hkd
                rw [hel] at HY HZ
                rw [h9] at x1
                clear hel
                by_cases hv : t.data[k].toNat ≤ 1
                · have HV := Lib.hid (HY.out (decide_eq_true hv))
                  have hv' : ¬ 1 < (t.data[k].toNat : Int) := by omega
                  clear hv HY HZ
                  go_wp2_with fail
                  go_roundw
                  case rel => exact ⟨k + 1, _, rfl, by omega, by omega, HV.out, HB.out⟩
                  case measure => simp [intOf]; omega
                · have HV := Lib.hid (HZ.out (decide_eq_false hv))
                  have hv' : 1 < (t.data[k].toNat : Int) := by omega
                  clear hv HY HZ
                  go_wp2_with fail
                  go_ret
                  rw [HV.out]
                  exact ⟨rfl, HB.out.all⟩
              · have h9' : (t.kind == 9) = false := by simpa using h9
                by_cases h14 : t.kind = 14
                · have hs1 : s = 8 := by have := kSize_gauss h14; rw [HSE.out] at this; omega
                  have hF8 : t.data.size = n * 8 := by rw [HF.out, hs1]
                  have hk8 : ((k : Int) + 1) * 8 ≤ (t.data.size : Int) := by rw [hF8]; omega
                  have hE8 := ext8 hF8 hlt
                  clear hs1 hF8
                  have HR := Lib.hid (fun W => rread_any (t.data.extract (k * 8) ((k + 1) * 8)) W (by unfold maxLen; omega))
                  have hel : elk t.kind t.data k = gok (t.data.extract (k * 8) ((k + 1) * 8)) := by rw [h14]; exact elk_gauss _ _
                  rw [hel] at HY HZ
                  rw [h14] at x1
                  clear hel h9 h9' h14
                  rw [show (k + 1) * 8 = 8 * k + 8 by omega, Nat.mul_comm k 8] at HR HY HZ hE8
                  go_wp2_with fail
                  refine (HR.out _).mono ?_
                  rintro e w3 ⟨m0, m1, cc, rfl, hrd, hb3⟩
                  have H3 := Lib.hid (HB.out.below hb3)
                  have hcc := rd8 hrd hE8
                  have hz3 := hb3.size
                  clear hrd hE8 HR hb3 x0 x1 x2 x3
                  generalize t.data.extract (8 * k) (8 * k + 8) = E at *
                  rcases hcc with ⟨rfl, hg⟩ | ⟨rfl, hg⟩
                  · have HV := Lib.hid (HY.out hg)
                    have H4 := Lib.hid (H3.out.more (.cells #[.int .i64 m0, .int .i64 m1] 52))
                    clear hg HY HZ
                    go_wp2_with fail
                    go_roundw
                    case rel => exact ⟨k + 1, _, rfl, by omega, by omega, HV.out, H4.out⟩
                    case measure => simp [intOf]; omega
                  · have HV := Lib.hid (HZ.out hg)
                    have H4 := Lib.hid (H3.out.more (.cells #[.int .i64 m0, .int .i64 m1] 52))
                    clear hg HY HZ
                    go_wp2_with fail
                    go_ret
                    rw [HV.out]
                    exact ⟨rfl, H4.out.all⟩
                · have h14' : (t.kind == 14) = false := by simpa using h14
                  have HV := Lib.hid (HY.out (elk_other h9 h14 _ _))
                  clear h9 h14 HY HZ
                  go_wp2_with fail
                  go_roundw
                  case rel => exact ⟨k + 1, _, rfl, by omega, by omega, HV.out, HB.out⟩
                  case measure => simp [intOf]; omega
            · obtain rfl : k = n := by omega
              have HE := Lib.hid (HOK.out (by intro j hj; rw [HNE.out] at hj; exact HA.out j (by omega)))
              go_wp2_with fail
              go_ret
              rw [HE.out]
              exact ⟨rfl, HB.out.all⟩
        · have hf' : ((t.data.size : Int) != (n : Int) * (s : Int)) = true := by simpa using hf
          have HE := Lib.hid (ck_form HN.out HK0.out HE0.out (by rw [HNE.out, HSE.out]; exact hf))
          clear hf
          go_wp2_with fail
          go_ret
          rw [HE.out]
          exact ⟨rfl, HBX.out.all⟩
      · have HE := Lib.hid (ck_shape HN.out HK0.out he)
        have he' : ¬ ((M5.sz t.dims).2 : Int) = 0 := by omega
        generalize hz : (M5.sz t.dims).2 = z at *
        clear he
        go_wp2_with fail
        go_ret
        rw [HE.out]
        exact ⟨rfl, HBX.out.all⟩
end Go.Proofs.Ytngjpgdgipmieaa
/- The walk of the example of layer 4. -/
namespace Go.Proofs.Ytngjpgdgipmieaa
open Go.RowKit Go.Maps
set_option maxRecDepth 100000 in
theorem kawake_any (w : World) : Calls Try.prog 28 #[] w fun e w' => e = .returned (.bool true) ∧ Below w.heap.size w w' := by
  have h8 : Hid (kSize 14 = 8) := Lib.hid (by decide)
  have hw7 : Hid (kWord 7 = ⟨#[105, 110, 116]⟩) := Lib.hid (by decide +kernel)
  go_enter Try.func28, Try.ntmps28
  go_wp2_with fail
  refine (size_any 14 _ (by decide)).mono ?_
  rintro e w1 ⟨rfl, hb1⟩
  rw [h8.out]
  have HB1 := Lib.hid hb1
  clear hb1
  go_wp2_with fail
  refine (string_any 7 _ (by decide)).mono ?_
  rintro e w2 ⟨rfl, hb2⟩
  rw [hw7.out]
  have HB2 := Lib.hid (HB1.out.trans (hb2.mono HB1.out.size))
  clear hb2
  go_wp2_with fail
  go_ret
  exact ⟨rfl, HB2.out⟩
end Go.Proofs.Ytngjpgdgipmieaa
/- The walks of layer 5: one dimension, of a shape, and of two that broadcast; the program's and the document's own, by contract. -/
namespace Go.Proofs.Ytngjpgdgipmieaa
open Go.RowKit M5

def boV (x y : Int) : Int := if okd x y then bo x y else 0
def boB (x y : Int) : Bool := decide (okd x y)

theorem both_any (x y : Int) (w : World) :
    Calls Try.prog 66 #[.int .i64 x, .int .i64 y] w fun e w' => e = .returned (.tuple #[.int .i64 (boV x y), .bool (boB x y)]) ∧ w = w' := by
  by_cases h1 : x = y
  · subst h1
    have HE : Hid (boV x x = x ∧ boB x x = true) := Lib.hid ⟨by unfold boV; rw [if_pos (.inl rfl)]; unfold bo; split <;> rfl, decide_eq_true (.inl rfl)⟩
    go_enter Try.func66, Try.ntmps66
    go_wp2_with fail
    go_ret2
    rw [HE.out.1, HE.out.2]
    exact ⟨rfl, rfl⟩
  · have h1' : (x == y) = false := by simpa using h1
    by_cases h2 : y = 1
    · subst h2
      have HE : Hid (boV x 1 = x ∧ boB x 1 = true) := Lib.hid ⟨by unfold boV; rw [if_pos (.inr (.inr rfl))]; unfold bo; split <;> omega, decide_eq_true (.inr (.inr rfl))⟩
      clear h1
      go_enter Try.func66, Try.ntmps66
      go_wp2_with fail
      go_ret2
      rw [HE.out.1, HE.out.2]
      exact ⟨rfl, rfl⟩
    · have h2' : (y == 1) = false := by simpa using h2
      by_cases h3 : x = 1
      · subst h3
        have HE : Hid (boV 1 y = y ∧ boB 1 y = true) := Lib.hid ⟨by unfold boV; rw [if_pos (.inr (.inl rfl))]; rfl, decide_eq_true (.inr (.inl rfl))⟩
        clear h1 h2
        go_enter Try.func66, Try.ntmps66
        go_wp2_with fail
        go_ret2
        rw [HE.out.1, HE.out.2]
        exact ⟨rfl, rfl⟩
      · have h3' : (x == 1) = false := by simpa using h3
        have hno : ¬ okd x y := by unfold okd; omega
        have HE : Hid (boV x y = 0 ∧ boB x y = false) := Lib.hid ⟨by unfold boV; exact if_neg hno, decide_eq_false hno⟩
        clear h1 h2 h3 hno
        go_enter Try.func66, Try.ntmps66
        go_wp2_with fail
        go_ret2
        rw [HE.out.1, HE.out.2]
        exact ⟨rfl, rfl⟩

set_option maxRecDepth 100000 in
theorem dim_any (A : Option Addr) (c : Nat) (l : List Int) (i r : Nat) (w : World) {B : Nat} (hl : l.length ≤ r) (hr : r ≤ 8) (hi : i < r) (ha : SR w B 1 A l.length (iv l)) :
    Calls Try.prog 67 #[.slice A l.length c, .int .i64 (i : Int), .int .i64 (r : Int)] w fun en w' => en = .returned (.int .i64 (e l (r - 1 - i))) ∧ w = w' := by
  by_cases h : i < r - l.length
  · have HE := Lib.hid (e_ge (l := l) (i := r - 1 - i) (by omega))
    have h' : (i : Int) < (r : Int) - (l.length : Int) := by omega
    clear ha h
    go_enter Try.func67, Try.ntmps67
    go_wp2_with fail
    go_ret
    rw [HE.out]
    exact ⟨rfl, rfl⟩
  · have h' : ¬ (i : Int) < (r : Int) - (l.length : Int) := by omega
    have he := e_lt (l := l) (i := r - 1 - i) (by omega)
    have hj : l.length - 1 - (r - 1 - i) < l.length := by omega
    obtain ⟨b1, o1, rfl, hb1, x0⟩ := int_at ha hj
    rw [← he] at x0
    have hji : l.length - 1 - (r - 1 - i) = i - (r - l.length) := by omega
    rw [hji] at x0
    generalize e l (r - 1 - i) = u at *
    clear he ha h hj hji
    have hlen : (l.length : Int) ≤ (r : Int) := by omega
    go_enter Try.func67, Try.ntmps67
    go_wp2_with fail
    go_ret
    exact ⟨rfl, rfl⟩

end Go.Proofs.Ytngjpgdgipmieaa
/- The walk of layer 5: to what two shapes broadcast, by contract. -/
namespace Go.Proofs.Ytngjpgdgipmieaa
open Go.RowKit M5

theorem made_ints (n : Nat) : (madeCells #[Value.int .i64 0] n).toList = iv (List.replicate n 0) := by
  have h : madeCells #[Value.int .i64 0] n = (Array.range n).map (fun _ => Value.int .i64 0) := by
    unfold madeCells
    congr 1
    funext i
    show (#[Value.int .i64 0] : Array Value)[i % 1]! = _
    rw [Nat.mod_one]; rfl
  rw [h]
  apply List.ext_getElem
  · simp [iv]
  · intro i h1 h2; simp [iv]
theorem iv_set (l : List Int) (k : Nat) (x : Int) : (iv l).set k (.int .i64 x) = iv (l.set k x) := by simp [iv, List.map_set]
theorem iv_at {l : List Int} {k : Nat} (h : k < l.length) : (iv l)[k]? = some (.int .i64 l[k]) := by simp [iv, h]
/-- a row filled from the front -/
theorem fill_front {t : List Int} {k : Nat} (hk : k < t.length) : (t.take k ++ List.replicate (t.length - k) 0).set k t[k] = t.take (k + 1) ++ List.replicate (t.length - (k + 1)) 0 := by
  have h1 : t.length - k = (t.length - (k + 1)) + 1 := by omega
  rw [h1, List.replicate_succ, List.set_append_right _ _ (by simp; omega), List.take_succ_eq_append_getElem hk]
  have h2 : k - (t.take k).length = 0 := by simp; omega
  rw [h2, List.set_cons_zero]
  rw [List.append_assoc, List.singleton_append]
theorem th_in {a b : List Int} (ha : Shp a) (hb : Shp b) : ∀ n ∈ th a b, I64 n := by
  intro n hn
  have h1 : ∀ {l : List Int}, Shp l → ∀ i, 0 ≤ e l i ∧ e l i ≤ 65536 := fun {l} h i => by
    by_cases hi : i < l.length
    · rw [e_lt hi]; exact ⟨h.lo _ (List.getElem_mem _), h.hi _ (List.getElem_mem _)⟩
    · rw [e_ge (by omega)]; omega
  simp only [th, List.mem_reverse, List.mem_map] at hn
  obtain ⟨i, _, rfl⟩ := hn
  have ha1 := h1 ha i
  have hb1 := h1 hb i
  unfold bo I64
  split <;> omega
theorem fit_of {a b : List Int} (h : ∀ i, i < max a.length b.length → okd (e a (max a.length b.length - 1 - i)) (e b (max a.length b.length - 1 - i))) : fit a b := by
  intro i hi
  have := h (max a.length b.length - 1 - i) (by omega)
  rwa [show max a.length b.length - 1 - (max a.length b.length - 1 - i) = i by omega] at this
theorem th_at {a b : List Int} {k : Nat} (hk : k < (th a b).length) : (th a b)[k] = bo (e a (max a.length b.length - 1 - k)) (e b (max a.length b.length - 1 - k)) := by
  have hl := th_len a b
  rw [← th_e, e_lt (by omega)]
  congr 1
  omega

set_option maxRecDepth 100000 in
theorem shBroad_any (A : Option Addr) (c : Nat) (a : List Int) (B : Option Addr) (d : Nat) (b : List Int) (w : World) (hla : a.length ≤ maxLen) (hlb : b.length ≤ maxLen)
    (ha : SR w w.heap.size 1 A a.length (iv a)) (hb : SR w w.heap.size 1 B b.length (iv b)) (hia : ∀ n ∈ a, I64 n) (hib : ∀ n ∈ b, I64 n) :
    Calls Try.prog 55 #[.slice A a.length c, .slice B b.length d] w (RowRes w.heap.size (bc a b) w) := by
  have HSA := Lib.hid (shSize_any A c a w hla ha hia)
  have HSB := Lib.hid (shSize_any B d b w hlb hb hib)
  clear hia hib
  rcases sz_cases a with ⟨ca, hsa, hca, -⟩ | ⟨hsa, hA⟩
  · rw [hsa] at HSA
    have HE := Lib.hid (bc_a (b := b) hsa (by omega))
    have hca' : ((ca : Int) != 0) = true := by simp; omega
    clear ha hb hsa hca HSB
    go_enter Try.func55, Try.ntmps55
    go_wp2_with fail
    refine HSA.out.mono ?_
    rintro e w1 ⟨rfl, rfl⟩
    go_wp2_with fail
    go_ret2
    rw [HE.out]
    exact ⟨_, rfl, World.ownsRow_nil _ _ _ _, Below.refl _ _⟩
  rcases sz_cases b with ⟨cb, hsb, hcb, -⟩ | ⟨hsb, hB⟩
  · rw [hsa] at HSA
    rw [hsb] at HSB
    have HE := Lib.hid (bc_b hsa hsb (by omega))
    have hcb' : ((cb : Int) != 0) = true := by simp; omega
    clear ha hb hsa hsb hcb hA
    go_enter Try.func55, Try.ntmps55
    go_wp2_with fail
    refine HSA.out.mono ?_
    rintro e w1 ⟨rfl, rfl⟩
    go_wp2_with fail
    refine HSB.out.mono ?_
    rintro e w1 ⟨rfl, rfl⟩
    go_wp2_with fail
    go_ret2
    rw [HE.out]
    exact ⟨_, rfl, World.ownsRow_nil _ _ _ _, Below.refl _ _⟩
  · rw [hsa] at HSA
    rw [hsb] at HSB
    have hT := bc_t hsa hsb
    have hN := bc_no hsa hsb
    have HT := Lib.hid hT
    have HN := Lib.hid hN
    have hAl := hA.len
    have hBl := hB.len
    have htl := th_len a b
    have htd := fun k h => th_at (a := a) (b := b) (k := k) h
    have HTD := Lib.hid htd
    clear hT hN hsa hsb hla hlb htd
    generalize hR : max a.length b.length = R at *
    obtain ⟨i0, hi0, hz0, hz1, hz2⟩ := info_parts infoInt64
    have hRa : (a.length : Int) ≤ (R : Int) := by omega
    have hRb : (b.length : Int) ≤ (R : Int) := by omega
    have hR8 : (R : Int) ≤ 8 := by omega
    go_enter Try.func55, Try.ntmps55
    go_wp2_with fail
    refine HSA.out.mono ?_
    rintro e w1 ⟨rfl, rfl⟩
    go_wp2_with fail
    refine HSB.out.mono ?_
    rintro e w1 ⟨rfl, rfl⟩
    go_wp2_with (at_make; refine wpList_make_full _ rfl _ _ 23 rfl w.heap.size 2 i0 _ 1 Try.underlying23 hi0 hz0 hz1 .i64 .i64 _ _ R rfl rfl (by omega) (by omega) (by rw [hz2]; omega) (by unfold maxLen; omega) (Nat.le_refl _) ?_)
    all_goals
      intro w1 hown hg
      rw [made_ints] at hown
      have hb1 := (Below.refl w.heap.size w).grown hg (Nat.le_refl _) (fun q hq => by cases hq)
      have HO := Lib.hid hown
      have HB := Lib.hid hb1
      clear hown hg hb1 hi0 hz0 hz1 hz2
      go_wp2_with fail
      go_loopw [11, 12, 13, 40] (fun _ _ _ kk wr => ∃ (k : Nat) (K : Int), kk = .int .i64 K ∧ K = (k : Nat) ∧ k ≤ R ∧ wr.ownsRow w.heap.size 2 1 (.slice (some ⟨w.heap.size, 0, none⟩) R R) R (iv ((th a b).take k ++ List.replicate (R - k) 0)) ∧ Below w.heap.size w wr ∧ ∀ i, i < k → okd (e a (R - 1 - i)) (e b (R - 1 - i))) (fun _ _ _ kk _ => R - (intOf kk).toNat)
      case atStart => exact ⟨0, _, rfl, rfl, by omega, by simpa using HO.out, HB.out, fun i hi => absurd hi (by omega)⟩
      case round =>
        obtain ⟨k, K, rfl, rfl, hk, hown, hbl, hok⟩ := hrel
        by_cases hlt : k < R
        · have HDA := Lib.hid (dim_any A c a k R wr (by omega) (by omega) hlt (ha.below hbl))
          have HDB := Lib.hid (dim_any B d b k R wr (by omega) (by omega) hlt (hb.below hbl))
          have HBO := Lib.hid (both_any (e a (R - 1 - k)) (e b (R - 1 - k)) wr)
          have htk := HTD.out k (by omega)
          have hff := fill_front (t := th a b) (k := k) (by omega)
          rw [htk, htl] at hff
          have HNF := Lib.hid (fun (h : ¬ okd (e a (R - 1 - k)) (e b (R - 1 - k))) => HN.out fun hf => h (fit_all hf _))
          have HOK := Lib.hid (fun (h : okd (e a (R - 1 - k)) (e b (R - 1 - k))) => (fun i hi => by
            by_cases he : i = k
            · subst he; exact h
            · exact hok i (by omega) : ∀ i, i < k + 1 → okd (e a (R - 1 - i)) (e b (R - 1 - i))))
          have hcell := hown.cellAt k (by omega)
          rw [iv_at (show k < ((th a b).take k ++ List.replicate (R - k) 0).length by simp; omega)] at hcell
          have hfz := hown.frozenAt k
          have HST := Lib.hid (fun u => hown.stored k u)
          have HFF := Lib.hid hff
          have HBL := Lib.hid hbl
          generalize ((th a b).take k ++ List.replicate (R - k) 0)[k]'(by simp; omega) = old at *
          generalize e a (R - 1 - k) = x at *
          generalize e b (R - 1 - k) = y at *
          clear htk hff hok hown hbl ha hb HO HB
          by_cases hxy : okd x y
          · have HV : Hid (boV x y = bo x y ∧ boB x y = true) := Lib.hid ⟨if_pos hxy, decide_eq_true hxy⟩
            have HK := Lib.hid (HOK.out hxy)
            clear hxy
            go_wp2_with fail
            refine HDA.out.mono ?_
            rintro en w2 ⟨rfl, rfl⟩
            go_wp2_with fail
            refine HDB.out.mono ?_
            rintro en w2 ⟨rfl, rfl⟩
            go_wp2_with fail
            refine HBO.out.mono ?_
            rintro en w2 ⟨rfl, rfl⟩
            rw [HV.out.1, HV.out.2]
            go_wp2_with fail
            go_roundw
            case rel =>
              refine ⟨k + 1, _, rfl, by omega, by omega, ?_, HBL.out.setCell (Nat.le_refl _) _, HK.out⟩
              have h1 := (HST.out (.int .i64 (bo x y))).1
              rw [iv_set, HFF.out] at h1
              exact h1
            case measure => simp [intOf]; omega
          · have HV : Hid (boB x y = false) := Lib.hid (decide_eq_false hxy)
            have HE := Lib.hid (HNF.out hxy)
            clear hxy
            go_wp2_with fail
            refine HDA.out.mono ?_
            rintro en w2 ⟨rfl, rfl⟩
            go_wp2_with fail
            refine HDB.out.mono ?_
            rintro en w2 ⟨rfl, rfl⟩
            go_wp2_with fail
            refine HBO.out.mono ?_
            rintro en w2 ⟨rfl, rfl⟩
            rw [HV.out]
            go_wp2_with fail
            go_ret2
            rw [HE.out]
            exact ⟨_, rfl, World.ownsRow_nil _ _ _ _, HBL.out⟩
        · obtain rfl : k = R := by omega
          rw [Nat.sub_self, List.replicate_zero, List.append_nil, List.take_of_length_le (by omega)] at hown
          have hf : fit a b := fit_of (by rw [hR]; exact hok)
          have hT := HT.out hf
          have hS := shSize_any (some ⟨w.heap.size, 0, none⟩) k (th a b) wr (by unfold maxLen; omega) (by rw [htl]; exact SR.of_own hown) (th_in hA hB)
          rw [htl] at hS
          have HS := Lib.hid hS
          have HBL := Lib.hid hbl
          have HOW := Lib.hid hown
          clear hS hbl hown ha hb HO HB hok hf
          rcases sz_cases (th a b) with ⟨ct, hst, hct, -⟩ | ⟨hst, hsh⟩
          · rw [hst] at HS hT
            have HE := Lib.hid hT
            rw [if_pos (by omega)] at HE
            have hct' : ((ct : Int) != 0) = true := by simp; omega
            clear hst hct hT
            go_wp2_with fail
            refine HS.out.mono ?_
            rintro en w2 ⟨rfl, rfl⟩
            go_wp2_with fail
            go_ret2
            rw [HE.out]
            exact ⟨_, rfl, World.ownsRow_nil _ _ _ _, HBL.out⟩
          · rw [hst] at HS hT
            rw [if_neg (by simp)] at hT
            have HE := Lib.hid hT
            clear hst hT
            go_wp2_with fail
            refine HS.out.mono ?_
            rintro en w2 ⟨rfl, rfl⟩
            go_wp2_with fail
            go_ret2
            rw [HE.out]
            exact ⟨_, rfl, by rw [htl]; exact HOW.out, HBL.out⟩
end Go.Proofs.Ytngjpgdgipmieaa
/- Plain numbers of layer 5: places of a shape, their numbers, and what they are taken back to. No program is imported. -/
namespace Go.Proofs.Ytngjpgdgipmieaa.M5

/-- P5.2: all places of a shape, in order -/
def plc : List Int → List (List Int)
  | [] => [[]]
  | d :: l => (List.range d.toNat).flatMap fun (i : Nat) => (plc l).map fun p => (i : Int) :: p
/-- those of the first so many of the first numbers -/
def plu (l : List Int) (a : Nat) : List (List Int) := (List.range a).flatMap fun (i : Nat) => (plc l).map fun p => (i : Int) :: p
theorem plu_succ (l : List Int) (a : Nat) : plu l (a + 1) = plu l a ++ (plc l).map fun p => (a : Int) :: p := by simp [plu, List.range_succ]
theorem plu_len (l : List Int) (a : Nat) : (plu l a).length = a * (plc l).length := by
  induction a with
  | zero => simp [plu]
  | succ a ih => rw [plu_succ, List.length_append, ih, List.length_map, Nat.add_mul]; omega
theorem plc_cons (d : Int) (l : List Int) : plc (d :: l) = plu l d.toNat := rfl
theorem plc_len {l : List Int} (h : ∀ x ∈ l, 0 ≤ x) : ((plc l).length : Int) = prd l := by
  induction l with
  | nil => rfl
  | cons d l ih =>
    have h0 := h d (by simp)
    rw [plc_cons, plu_len, prd, Int.natCast_mul, ih fun x hx => h x (by simp [hx]), Int.toNat_of_nonneg h0]
theorem plc_zero {l : List Int} (h : (0 : Int) ∈ l) : plc l = [] := by
  induction l with
  | nil => cases h
  | cons d l ih =>
    rw [plc_cons]
    rcases List.mem_cons.1 h with h | h
    · rw [← h]; rfl
    · unfold plu; rw [ih h]; simp
theorem plu_at (l : List Int) : ∀ (a n : Nat) (p : List Int), (plu l a)[n]? = some p → ∃ q r p', q < a ∧ n = q * (plc l).length + r ∧ (plc l)[r]? = some p' ∧ p = (q : Int) :: p'
  | 0, n, p, h => by simp [plu] at h
  | a + 1, n, p, h => by
    rw [plu_succ] at h
    by_cases hn : n < (plu l a).length
    · rw [List.getElem?_append_left hn] at h
      obtain ⟨q, r, p', h1, h2⟩ := plu_at l a n p h
      exact ⟨q, r, p', by omega, h2⟩
    · rw [List.getElem?_append_right (by omega), List.getElem?_map] at h
      cases hp : (plc l)[n - (plu l a).length]? with
      | none => rw [hp] at h; simp at h
      | some p' =>
        rw [hp] at h
        refine ⟨a, n - (plu l a).length, p', by omega, ?_, hp, by simpa using h.symm⟩
        rw [plu_len] at hn ⊢; omega

/-- numbers that are a place -/
def Win : List Int → List Int → Prop
  | [], [] => True
  | d :: l, x :: p => (0 ≤ x ∧ x < d) ∧ Win l p
  | _, _ => False
theorem win_len : ∀ {l p : List Int}, Win l p → p.length = l.length
  | [], [], _ => rfl
  | d :: l, x :: p, h => by simp [win_len h.2]
  | [], _ :: _, h => h.elim
  | _ :: _, [], h => h.elim
theorem win_at : ∀ {l p : List Int}, Win l p → ∀ (k : Nat) (h1 : k < l.length) (h2 : k < p.length), 0 ≤ p[k] ∧ p[k] < l[k]
  | [], _, _, k, h1, _ => absurd h1 (by simp)
  | d :: l, x :: p, h, 0, _, _ => h.1
  | d :: l, x :: p, h, k + 1, h1, h2 => win_at h.2 k (by simpa using h1) (by simpa using h2)
  | _ :: _, [], h, _, _, _ => h.elim
/-- a place's number -/
def cn : Int → List Int → List Int → Int
  | n, d :: l, x :: p => cn (n * d + x) l p
  | n, _, _ => n
theorem cn_ge : ∀ {l p : List Int} {n : Int}, Win l p → 0 ≤ n → n ≤ cn n l p
  | [], [], n, _, _ => Int.le_refl _
  | d :: l, x :: p, n, h, h0 => by
    have h1 := Int.mul_le_mul_of_nonneg_left (by have := h.1; omega : 1 ≤ d) h0
    have := cn_ge (n := n * d + x) h.2 (by have := h.1; omega)
    rw [cn]; have := h.1; omega
  | [], _ :: _, _, h, _ => h.elim
  | _ :: _, [], _, h, _ => h.elim
theorem cn_add : ∀ {l p : List Int} (n : Int), Win l p → cn n l p = n * prd l + cn 0 l p
  | [], [], n, _ => by simp [cn, prd]
  | d :: l, x :: p, n, h => by
    rw [cn, cn, cn_add _ h.2, cn_add (0 * d + x) h.2, prd, Int.add_mul, Int.mul_assoc]; simp; omega
  | [], _ :: _, _, h => h.elim
  | _ :: _, [], _, h => h.elim
theorem plc_win : ∀ {l : List Int}, (∀ x ∈ l, 0 ≤ x) → ∀ (n : Nat) (p : List Int), (plc l)[n]? = some p → Win l p ∧ cn 0 l p = (n : Int)
  | [], _, n, p, h => by
    cases n with
    | zero => simp [plc] at h; subst h; exact ⟨trivial, rfl⟩
    | succ n => simp [plc] at h
  | d :: l, h0, n, p, h => by
    rw [plc_cons] at h
    obtain ⟨q, r, p', hq, hn, hp, rfl⟩ := plu_at _ _ _ _ h
    have hl : ∀ x ∈ l, 0 ≤ x := fun x hx => h0 x (by simp [hx])
    obtain ⟨hw, hc⟩ := plc_win hl r p' hp
    refine ⟨⟨⟨by omega, by omega⟩, hw⟩, ?_⟩
    rw [cn, cn_add _ hw, hc, ← plc_len hl, hn]
    simp
/-- the digits of a number, last one first -/
def dgr : List Int → Int → List Int
  | [], _ => []
  | d :: l, n => n % d :: dgr l (n / d)
theorem dgr_len : ∀ (l : List Int) (n : Int), (dgr l n).length = l.length
  | [], _ => rfl
  | d :: l, n => by simp [dgr, dgr_len l]
theorem cn_snoc : ∀ {l p : List Int} (n d x : Int), p.length = l.length → cn n (l ++ [d]) (p ++ [x]) = cn n l p * d + x
  | [], [], n, d, x, _ => rfl
  | e :: l, y :: p, n, d, x, h => by rw [List.cons_append, List.cons_append, cn, cn, cn_snoc _ _ _ (by simpa using h)]
  | [], _ :: _, _, _, _, h => by simp at h
  | _ :: _, [], _, _, _, h => by simp at h
theorem win_snoc : ∀ {l p : List Int} {d x : Int}, p.length = l.length → Win (l ++ [d]) (p ++ [x]) → Win l p ∧ 0 ≤ x ∧ x < d
  | [], [], d, x, _, h => ⟨trivial, h.1⟩
  | e :: l, y :: p, d, x, hl, h => by
    obtain ⟨h1, h2⟩ := win_snoc (l := l) (p := p) (by simpa using hl) h.2
    exact ⟨⟨h.1, h1⟩, h2⟩
  | [], _ :: _, _, _, h, _ => by simp at h
  | _ :: _, [], _, _, h, _ => by simp at h
theorem dgr_back : ∀ (R S : List Int), Win R.reverse S.reverse → dgr R (cn 0 R.reverse S.reverse) = S
  | [], [], _ => rfl
  | [], s :: S, h => by have := win_len h; simp at this
  | r :: R, [], h => by have := win_len h; simp at this
  | d :: R, x :: S, h => by
    rw [List.reverse_cons, List.reverse_cons] at h ⊢
    have hl : S.reverse.length = R.reverse.length := by have := win_len h; simp at this ⊢; omega
    obtain ⟨hw, h0, h1⟩ := win_snoc hl h
    rw [cn_snoc _ _ _ hl, dgr]
    have e1 : (cn 0 R.reverse S.reverse * d + x) % d = x := by
      rw [Int.add_comm, Int.add_mul_emod_self_right]; exact Int.emod_eq_of_lt h0 h1
    have e2 : (cn 0 R.reverse S.reverse * d + x) / d = cn 0 R.reverse S.reverse := by
      rw [Int.add_comm, Int.add_mul_ediv_right _ _ (by omega), Int.ediv_eq_zero_of_lt h0 h1]; simp
    rw [e1, e2, dgr_back R S hw]
/-- P5.2: the place of a number -/
def plN (l : List Int) (n : Int) : List Int := (dgr l.reverse n).reverse
theorem plN_len (l : List Int) (n : Int) : (plN l n).length = l.length := by simp [plN, dgr_len]
theorem plN_plc {l : List Int} (h0 : ∀ x ∈ l, 0 ≤ x) {n : Nat} {p : List Int} (h : (plc l)[n]? = some p) : plN l (n : Int) = p := by
  obtain ⟨hw, hc⟩ := plc_win h0 n p h
  have := dgr_back l.reverse p.reverse (by simpa using hw)
  rw [List.reverse_reverse, List.reverse_reverse, hc] at this
  rw [plN, this, List.reverse_reverse]
/-- a place taken back -/
def bk (l p : List Int) : List Int := List.zipWith (fun d x => if d = 1 then 0 else x) l (p.drop (p.length - l.length))
theorem bk_len {l p : List Int} (h : l.length ≤ p.length) : (bk l p).length = l.length := by simp [bk]; omega
theorem bk_at {l p : List Int} (h : l.length ≤ p.length) {k : Nat} (hk : k < l.length) : (bk l p)[k]? = some (if l[k] = 1 then 0 else p[p.length - l.length + k]) := by
  unfold bk
  rw [List.getElem?_zipWith, List.getElem?_eq_getElem hk, List.getElem?_drop, List.getElem?_eq_getElem (by omega)]
end Go.Proofs.Ytngjpgdgipmieaa.M5
/- The walks of layer 5: a place taken back, the program's and the document's own, by contract. -/
namespace Go.Proofs.Ytngjpgdgipmieaa
open Go.RowKit M5

/-- a row that is turned from the front -/
theorem patch_set {t s : List Int} {k : Nat} (hs : s.length = t.length) (hk : k < t.length) : (t.take k ++ s.drop k).set k t[k] = t.take (k + 1) ++ s.drop (k + 1) := by
  rw [List.set_append_right _ _ (by simp; omega), List.take_succ_eq_append_getElem hk, List.drop_eq_getElem_cons (by omega : k < s.length)]
  have h2 : k - (t.take k).length = 0 := by simp; omega
  rw [h2, List.set_cons_zero, List.append_assoc, List.singleton_append]
theorem patch_same {t s : List Int} {k : Nat} (hs : s.length = t.length) (hk : k < t.length) (he : t[k] = s[k]) : t.take k ++ s.drop k = t.take (k + 1) ++ s.drop (k + 1) := by
  rw [List.take_succ_eq_append_getElem hk, List.drop_eq_getElem_cons (by omega : k < s.length), he, List.append_assoc, List.singleton_append]
theorem patch_len {t s : List Int} {k : Nat} (hs : s.length = t.length) (hk : k ≤ t.length) : (t.take k ++ s.drop k).length = t.length := by simp; omega
theorem bk_get {l p : List Int} (h : l.length ≤ p.length) {k : Nat} (hk : k < l.length) (hk2 : k < (bk l p).length) : (bk l p)[k] = if l[k] = 1 then 0 else p[p.length - l.length + k] := by
  have := bk_at h hk
  rw [List.getElem?_eq_getElem hk2] at this
  injection this

set_option maxRecDepth 100000 in
theorem shBack_any (A : Option Addr) (c : Nat) (a : List Int) (B : Option Addr) (d : Nat) (p : List Int) (w : World) (hap : a.length ≤ p.length) (hp8 : p.length ≤ 20)
    (ha : SR w w.heap.size 1 A a.length (iv a)) (hp : SR w w.heap.size 1 B p.length (iv p)) :
    Calls Try.prog 56 #[.slice A a.length c, .slice B p.length d] w (IntsRes w.heap.size (bk a p) w) := by
  have hbl := bk_len hap
  have HBG := Lib.hid (fun k hk hk2 => bk_get (k := k) hap hk hk2)
  obtain ⟨i0, hi0, hz0, hz1, hz2⟩ := info_parts infoInt64
  have hap' : (a.length : Int) ≤ (p.length : Int) := by omega
  have hp8' : (p.length : Int) ≤ 20 := by omega
  go_enter Try.func56, Try.ntmps56
  go_wp2_with (at_make; refine wpList_make_full _ rfl _ _ 23 rfl w.heap.size 2 i0 _ 1 Try.underlying23 hi0 hz0 hz1 .i64 .i64 _ _ a.length rfl rfl rfl rfl (by rw [hz2]; omega) (by unfold maxLen; omega) (Nat.le_refl _) ?_)
  intro w1 hown hg
  rw [made_ints] at hown
  have hb1 := (Below.refl w.heap.size w).grown hg (Nat.le_refl _) (fun q hq => by cases hq)
  have HO := Lib.hid hown
  have HB := Lib.hid hb1
  clear hown hg hb1 hi0 hz0 hz1 hz2
  go_wp2_with fail
  go_loopw [7, 20] (fun _ kk wr => ∃ (k : Nat) (K : Int), kk = .int .i64 K ∧ K = (k : Nat) ∧ k ≤ a.length ∧ wr.ownsRow w.heap.size 2 1 (.slice (some ⟨w.heap.size, 0, none⟩) a.length a.length) a.length (iv ((bk a p).take k ++ (List.replicate a.length 0).drop k)) ∧ Below w.heap.size w wr) (fun _ kk _ => a.length - (intOf kk).toNat)
  case atStart => exact ⟨0, _, rfl, rfl, by omega, by simpa using HO.out, HB.out⟩
  case round =>
    obtain ⟨k, K, rfl, rfl, hk, hown, hbl2⟩ := hrel
    by_cases hlt : k < a.length
    · obtain ⟨b1, o1, rfl, hb1, x0⟩ := int_at (ha.below hbl2) hlt
      have hq : p.length - a.length + k < p.length := by omega
      obtain ⟨b2, o2, rfl, hb2, y0⟩ := int_at (hp.below hbl2) hq
      have hg := HBG.out k hlt (by omega)
      have hps := patch_set (t := bk a p) (s := List.replicate a.length 0) (k := k) (by simp; omega) (by omega)
      have HPM := Lib.hid (patch_same (t := bk a p) (s := List.replicate a.length 0) (k := k) (by simp; omega) (by omega))
      have hpl := patch_len (t := bk a p) (s := List.replicate a.length 0) (k := k) (by simp; omega) (by omega)
      have hcell := hown.cellAt k (by omega)
      rw [iv_at (show k < ((bk a p).take k ++ (List.replicate a.length 0).drop k).length by rw [hpl]; omega)] at hcell
      have hfz := hown.frozenAt k
      have HST := Lib.hid (fun u => hown.stored k u)
      have HOW := Lib.hid hown
      have HPS := Lib.hid hps
      have HBL := Lib.hid hbl2
      have HG := Lib.hid hg
      generalize ((bk a p).take k ++ (List.replicate a.length 0).drop k)[k]'(by rw [hpl]; omega) = old at *
      generalize a[k] = u at *
      generalize p[p.length - a.length + k] = v at *
      clear hps hown hbl2 ha hp HO HB hg hpl hq
      by_cases hu : u = 1
      · subst hu
        have HS := Lib.hid (HPM.out (by rw [HG.out, if_pos rfl]; simp))
        clear HG
        go_wp2_with fail
        go_roundw
        case rel => exact ⟨k + 1, _, rfl, by omega, by omega, by rw [← HS.out]; exact HOW.out, HBL.out⟩
        case measure => simp [intOf]; omega
      · have hu' : (u != 1) = true := by simpa using hu
        have HV : Hid ((bk a p)[k]'(by omega) = v) := Lib.hid (by rw [HG.out, if_neg hu])
        clear hu
        go_wp2_with fail
        go_roundw
        case rel =>
          refine ⟨k + 1, _, rfl, by omega, by omega, ?_, HBL.out.setCell (Nat.le_refl _) _⟩
          have h1 := (HST.out (.int .i64 v)).1
          rw [iv_set, ← HV.out, HPS.out] at h1
          rw [← HV.out]
          exact h1
        case measure => simp [intOf]; omega
    · obtain rfl : k = a.length := by omega
      rw [List.drop_of_length_le (by simp), List.append_nil, List.take_of_length_le (by omega)] at hown
      go_wp2_with fail
      go_ret
      exact ⟨_, rfl, by rw [hbl]; exact hown, hbl2⟩

end Go.Proofs.Ytngjpgdgipmieaa
/- The walks of layer 5: are two rows of numbers the same? By contract, whether they are. -/
namespace Go.Proofs.Ytngjpgdgipmieaa
open Go.RowKit
theorem take_same_yes {l m : List Int} {k : Nat} (h : l.take k = m.take k) (h1 : k < l.length) (h2 : k < m.length) (he : l[k] = m[k]) : l.take (k + 1) = m.take (k + 1) := by
  rw [List.take_succ_eq_append_getElem h1, List.take_succ_eq_append_getElem h2, h, he]
theorem take_same_no {l m : List Int} {k : Nat} (h1 : k < l.length) (h2 : k < m.length) (he : l[k] ≠ m[k]) : l ≠ m := by
  rintro rfl; exact he rfl
theorem take_same_all {l m : List Int} (hl : l.length = m.length) (h : l.take m.length = m.take m.length) : l = m := by
  rw [List.take_length, ← hl, List.take_length] at h; exact h

set_option maxRecDepth 100000 in
theorem isInts_any (A B : Option Addr) (c d : Nat) (l m : List Int) (w : World) (hm : m.length ≤ maxLen) (ha : SR w w.heap.size 1 A l.length (iv l)) (hb : SR w w.heap.size 1 B m.length (iv m)) :
    Calls Try.prog 18 #[.slice A l.length c, .slice B m.length d] w fun e w' => e = .returned (.bool (decide (l = m))) ∧ Below w.heap.size w w' := by
  unfold maxLen at hm
  by_cases hlm : l.length = m.length
  · have hlm' : ((l.length : Int) != (m.length : Int)) = false := by simp; omega
    rw [hlm] at ha hlm' ⊢
    have HLM := Lib.hid hlm
    clear hlm
    go_enter Try.func18, Try.ntmps18
    go_wp2
    go_loopw [5, 13] (fun _ i wr => ∃ (k : Nat) (K : Int), i = .int .i64 K ∧ K = (k : Nat) ∧ k ≤ m.length ∧ Below w.heap.size w wr ∧ l.take k = m.take k) (fun _ i _ => m.length - (intOf i).toNat)
    case atStart => exact ⟨0, _, rfl, rfl, by omega, Below.refl _ _, rfl⟩
    case round =>
      obtain ⟨k, K, rfl, rfl, hk, hbw, htk⟩ := hrel
      have HT := Lib.hid htk
      clear htk
      by_cases hlt : k < m.length
      · have hlt' : k < l.length := by rw [HLM.out]; exact hlt
        have ha' : SR w w.heap.size 1 A l.length (iv l) := by rw [HLM.out]; exact ha
        obtain ⟨b1, o1, rfl, hb1, x0⟩ := int_at (ha'.below hbw) hlt'
        obtain ⟨b2, o2, rfl, hb2, y0⟩ := int_at (hb.below hbw) hlt
        have HB := Lib.hid hbw
        have HY := Lib.hid (take_same_yes HT.out hlt' hlt)
        have HN := Lib.hid (take_same_no (l := l) (m := m) hlt' hlt)
        clear ha hb hbw ha'
        generalize l[k] = u at *
        generalize m[k] = v at *
        clear hlt'
        by_cases huv : u = v
        · subst huv
          have HE := Lib.hid (HY.out rfl)
          go_wp2_with fail
          go_quiet (fail)
          go_wp2_with fail
          go_roundw
          case rel => exact ⟨k + 1, _, rfl, by omega, by omega, below_drewN HB.out _, HE.out⟩
          case measure => simp [intOf]; omega
        · have HE := Lib.hid (HN.out huv)
          have huv' : (u != v) = true := by simpa using huv
          clear huv
          go_wp2_with fail
          go_quiet (fail)
          go_wp2_with fail
          go_ret
          rw [decide_eq_false HE.out]
          exact ⟨rfl, below_drewN HB.out _⟩
      · obtain rfl : k = m.length := by omega
        go_wp2
        go_ret
        rw [decide_eq_true (take_same_all HLM.out HT.out)]
        exact ⟨rfl, hbw⟩
  · have hlm' : ((l.length : Int) != (m.length : Int)) = true := by simp; omega
    have HE : Hid (decide (l = m) = false) := Lib.hid (decide_eq_false fun h => hlm (by rw [h]))
    clear hlm ha hb
    go_enter Try.func18, Try.ntmps18
    go_wp2_with fail
    go_ret
    rw [HE.out]
    exact ⟨rfl, Below.refl _ _⟩
set_option maxRecDepth 100000 in
theorem slEqual_any (A B : Option Addr) (c d : Nat) (l m : List Int) (w : World) (hm : m.length ≤ maxLen) (ha : SR w w.heap.size 1 A l.length (iv l)) (hb : SR w w.heap.size 1 B m.length (iv m)) :
    Calls Try.prog 60 #[.slice A l.length c, .slice B m.length d] w fun e w' => e = .returned (.bool (decide (l = m))) ∧ Below w.heap.size w w' := by
  unfold maxLen at hm
  by_cases hlm : l.length = m.length
  · have hlm' : ((l.length : Int) != (m.length : Int)) = false := by simp; omega
    rw [hlm] at ha hlm' ⊢
    have HLM := Lib.hid hlm
    clear hlm
    go_enter Try.func60, Try.ntmps60
    go_wp2
    go_loopw [5, 13] (fun _ i wr => ∃ (k : Nat) (K : Int), i = .int .i64 K ∧ K = (k : Nat) ∧ k ≤ m.length ∧ Below w.heap.size w wr ∧ l.take k = m.take k) (fun _ i _ => m.length - (intOf i).toNat)
    case atStart => exact ⟨0, _, rfl, rfl, by omega, Below.refl _ _, rfl⟩
    case round =>
      obtain ⟨k, K, rfl, rfl, hk, hbw, htk⟩ := hrel
      have HT := Lib.hid htk
      clear htk
      by_cases hlt : k < m.length
      · have hlt' : k < l.length := by rw [HLM.out]; exact hlt
        have ha' : SR w w.heap.size 1 A l.length (iv l) := by rw [HLM.out]; exact ha
        obtain ⟨b1, o1, rfl, hb1, x0⟩ := int_at (ha'.below hbw) hlt'
        obtain ⟨b2, o2, rfl, hb2, y0⟩ := int_at (hb.below hbw) hlt
        have HB := Lib.hid hbw
        have HY := Lib.hid (take_same_yes HT.out hlt' hlt)
        have HN := Lib.hid (take_same_no (l := l) (m := m) hlt' hlt)
        clear ha hb hbw ha'
        generalize l[k] = u at *
        generalize m[k] = v at *
        clear hlt'
        by_cases huv : u = v
        · subst huv
          have HE := Lib.hid (HY.out rfl)
          go_wp2_with fail
          go_quiet (fail)
          go_wp2_with fail
          go_roundw
          case rel => exact ⟨k + 1, _, rfl, by omega, by omega, below_drewN HB.out _, HE.out⟩
          case measure => simp [intOf]; omega
        · have HE := Lib.hid (HN.out huv)
          have huv' : (u != v) = true := by simpa using huv
          clear huv
          go_wp2_with fail
          go_quiet (fail)
          go_wp2_with fail
          go_ret
          rw [decide_eq_false HE.out]
          exact ⟨rfl, below_drewN HB.out _⟩
      · obtain rfl : k = m.length := by omega
        go_wp2
        go_ret
        rw [decide_eq_true (take_same_all HLM.out HT.out)]
        exact ⟨rfl, hbw⟩
  · have hlm' : ((l.length : Int) != (m.length : Int)) = true := by simp; omega
    have HE : Hid (decide (l = m) = false) := Lib.hid (decide_eq_false fun h => hlm (by rw [h]))
    clear hlm ha hb
    go_enter Try.func60, Try.ntmps60
    go_wp2_with fail
    go_ret
    rw [HE.out]
    exact ⟨rfl, Below.refl _ _⟩
end Go.Proofs.Ytngjpgdgipmieaa
/- The walk of the example of layer 5. -/
namespace Go.Proofs.Ytngjpgdgipmieaa
open Go.RowKit M5

theorem ex_bc : bc [3, 1] [4] = ([3, 4], 0) := by decide +kernel
theorem ex_bk : bk [3, 1] [2, 3] = [2, 0] := by decide +kernel
theorem litA (w : World) (l : List Int) : SR (w.alloc (.cells (iv l).toArray 2)) (w.alloc (.cells (iv l).toArray 2)).heap.size 1 (some ⟨w.heap.size, 0, none⟩) l.length (iv l) :=
  (SR.lit w (iv l) 2 (size := 1) (n := l.length) (by simp [iv_len])).more (by simp)
theorem SR.alloc {w : World} {size n : Nat} {A : Option Addr} {xs : List Value} (h : SR w w.heap.size size A n xs) (o : Obj) : SR (w.alloc o) (w.alloc o).heap.size size A n xs :=
  (h.below ((Below.refl _ _).alloc (Nat.le_refl _) o)).more (by simp)
theorem small_in {l : List Int} (h : l.all (fun n => decide (-9223372036854775808 ≤ n) && decide (n ≤ 9223372036854775807)) = true) : ∀ n ∈ l, I64 n := by
  intro n hn
  have := List.all_eq_true.1 h n hn
  simp only [Bool.and_eq_true, decide_eq_true_eq] at this
  exact this

set_option maxRecDepth 100000 in
theorem shAwake_any (w : World) : Calls Try.prog 29 #[] w fun e w' => e = .returned (.bool true) ∧ Below w.heap.size w w' := by
  have hc := shBroad_any (some ⟨w.heap.size, 0, none⟩) 2 [3, 1] (some ⟨w.heap.size + 1, 0, none⟩) 1 [4] ((w.alloc (.cells (iv [3, 1]).toArray 2)).alloc (.cells (iv [4]).toArray 2)) (by unfold maxLen; simp) (by unfold maxLen; simp)
    ((litA w [3, 1]).alloc _) (by have := litA (w.alloc (.cells (iv [3, 1]).toArray 2)) [4]; simpa using this) (small_in (by decide)) (small_in (by decide))
  rw [ex_bc] at hc
  have HC := Lib.hid hc
  clear hc
  go_enter Try.func29, Try.ntmps29
  go_wp2_with fail
  refine HC.out.mono ?_
  rintro e w1 ⟨v1, rfl, hown1, hb1⟩
  obtain ⟨A1, c1, rfl, -, -⟩ := own_form hown1
  have hs1 := SR.of_own hown1
  have HB1 := Lib.hid (below_two hb1)
  clear hown1 hb1 HC
  have HS := Lib.hid (isInts_any A1 (some ⟨w1.heap.size, 0, none⟩) c1 2 [3, 4] [3, 4] (w1.alloc (.cells (iv [3, 4]).toArray 2)) (by unfold maxLen; simp) (hs1.alloc _) (litA w1 [3, 4]))
  clear hs1
  go_wp2_with fail
  refine HS.out.mono ?_
  rintro e w2 ⟨rfl, hb2⟩
  have HB2 := Lib.hid (step_below HB1.out (below_one hb2))
  clear hb2 HS
  have hc := shBack_any (some ⟨w2.heap.size, 0, none⟩) 2 [3, 1] (some ⟨w2.heap.size + 1, 0, none⟩) 2 [2, 3] ((w2.alloc (.cells (iv [3, 1]).toArray 2)).alloc (.cells (iv [2, 3]).toArray 2)) (by simp) (by simp)
    ((litA w2 [3, 1]).alloc _) (by have := litA (w2.alloc (.cells (iv [3, 1]).toArray 2)) [2, 3]; simpa using this)
  rw [ex_bk] at hc
  have HC := Lib.hid hc
  clear hc
  go_wp2_with fail
  refine HC.out.mono ?_
  rintro e w3 ⟨v3, rfl, hown3, hb3⟩
  obtain ⟨A3, c3, rfl, -, -⟩ := own_form hown3
  have hs3 := SR.of_own hown3
  have HB3 := Lib.hid (step_below HB2.out (below_two hb3))
  clear hown3 hb3 HC
  have HS := Lib.hid (isInts_any A3 (some ⟨w3.heap.size, 0, none⟩) c3 2 [2, 0] [2, 0] (w3.alloc (.cells (iv [2, 0]).toArray 2)) (by unfold maxLen; simp) (hs3.alloc _) (litA w3 [2, 0]))
  clear hs3
  go_wp2_with fail
  refine HS.out.mono ?_
  rintro e w4 ⟨rfl, hb4⟩
  have HB4 := Lib.hid (step_below HB3.out (below_one hb4))
  clear hb4 HS
  go_wp2_with fail
  go_ret
  exact ⟨rfl, HB4.out⟩
end Go.Proofs.Ytngjpgdgipmieaa
