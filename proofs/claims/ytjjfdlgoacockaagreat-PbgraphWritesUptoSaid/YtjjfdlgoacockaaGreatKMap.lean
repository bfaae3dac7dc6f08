import Derived.Test.YtjjfdlgoacockaaGreatRows
import Derived.Test.YtjjfdlgoacockaaGreatWOpen
import Derived.Test.YtjjfdlgoacockaaGreatBuild
import Derived.Test.YtjjfdlgoacockaaGreatMath
import Derived.Outline
import Derived.WalkSpells
import Derived.WalkMore
namespace Go.Proofs.YtjjfdlgoacockaaGreat
open Go.RowKit Go.Maps Go.ChangeMaps

theorem kindLaw : Keyed Tryz.prog 96 := int_keyed Tryz.underlying96
set_option maxRecDepth 100000 in
theorem kindZero (w : World) : (zeroValue 281).run Tryz.prog w = .ok (.agg #[.string ⟨#[]⟩, .int .i64 0]) w := by kernel_rfl
def KM (b : Nat) (w : World) : Prop := w.ownsMap Tryz.prog 96 abR b 5 kMap
def KindsRes (B : Nat) (w : World) (e : Ending) (w' : World) : Prop := ∃ b, e = .returned (.map (some b)) ∧ KM b w' ∧ B ≤ b ∧ Below B w w'

set_option maxRecDepth 100000 in
theorem km_look {b : Nat} {w : World} (h : KM b w) (k : Int) (hw : (Lit.int .i64 k).wf = true) :
    (Instr.lookup 282 (.map (some b)) (.int .i64 k) false).run Tryz.prog w = .ok (.agg #[.string (mWord k), .int .i64 (kSize k)]) w := by
  obtain ⟨v, ps, hrun, hv⟩ := h.lookup kindLaw Tryz.underlying282 (kindZero w) (abR_mk _ _) (keyOf_int_mk Tryz.underlying96 hw)
  rw [hrun]
  congr 1
  cases hk : isKind k
  · have e : kMap.atKey (.int .i64 k) _ = _ := kMap_at_not hk (DataW.agg [.lit (.string (⟨#[]⟩ : ByteArray).data.toList), .lit (.int .i64 0)])
    rw [e] at hv
    refine abR_of hv ?_
    unfold abOf
    rw [mWord_none hk, kSize_none hk]
  · exact abR_of hv (kMap_at hk _)
set_option maxRecDepth 100000 in
theorem km_look_ok {b : Nat} {w : World} (h : KM b w) (k : Int) (hw : (Lit.int .i64 k).wf = true) :
    (Instr.lookup 282 (.map (some b)) (.int .i64 k) true).run Tryz.prog w = .ok (.tuple #[.agg #[.string (mWord k), .int .i64 (kSize k)], .bool (isKind k)]) w := by
  rcases own_look_ok h kindLaw Tryz.underlying282 (kindZero w) (keyOf_int_mk Tryz.underlying96 hw) with ⟨h0, hrun⟩ | ⟨v, y, h1, hrun, hv, hat⟩
  · have hk : isKind k = false := by
      cases hk : isKind k
      · rfl
      · have h1 := (kMap_has _).2 ⟨k, hk, rfl⟩
        rw [show kKey k = .int .i64 k from rfl, h0] at h1; cases h1
    rw [hrun, hk, mWord_none hk, kSize_none hk]
  · obtain ⟨k', hk, e⟩ := (kMap_has _).1 h1
    have hkk : k = k' := by unfold kKey at e; injection e
    subst hkk
    rw [hrun, hk, abR_of hv (by rw [← hat .nil]; exact kMap_at hk _)]

set_option maxRecDepth 100000 in
theorem kinds_any (w : World) : Calls Tryz.prog 171 #[] w (KindsRes w.heap.size w) := by
  have hmm := @run_makeMap Tryz.prog
  have h0 : (w.alloc (.map #[] 0)).ownsMap Tryz.prog 96 abR w.heap.size 0 (.map []) := World.ownsMap_made _ _ _ _
  obtain ⟨w1, r1, h1, g1⟩ := h0.update (val := .agg #[.string (mWord 1), .int .i64 (kSize 1)]) kindLaw Tryz.underlying282 (by decide) (keyOf_int_mk Tryz.underlying96 (a := 1) (by decide)) (abR_mk _ _)
  obtain ⟨w2, r2, h2, g2⟩ := h1.update (val := .agg #[.string (mWord 2), .int .i64 (kSize 2)]) kindLaw Tryz.underlying282 (by decide) (keyOf_int_mk Tryz.underlying96 (a := 2) (by decide)) (abR_mk _ _)
  obtain ⟨w3, r3, h3, g3⟩ := h2.update (val := .agg #[.string (mWord 7), .int .i64 (kSize 7)]) kindLaw Tryz.underlying282 (by decide) (keyOf_int_mk Tryz.underlying96 (a := 7) (by decide)) (abR_mk _ _)
  obtain ⟨w4, r4, h4, g4⟩ := h3.update (val := .agg #[.string (mWord 9), .int .i64 (kSize 9)]) kindLaw Tryz.underlying282 (by decide) (keyOf_int_mk Tryz.underlying96 (a := 9) (by decide)) (abR_mk _ _)
  obtain ⟨w5, r5, h5, g5⟩ := h4.update (val := .agg #[.string (mWord 14), .int .i64 (kSize 14)]) kindLaw Tryz.underlying282 (by decide) (keyOf_int_mk Tryz.underlying96 (a := 14) (by decide)) (abR_mk _ _)
  have hb : Below w.heap.size w w5 := by
    have b0 : Below w.heap.size w (w.alloc (.map #[] 0)) := (Below.refl _ _).alloc (Nat.le_refl _) _
    have s0 : w.heap.size ≤ (w.alloc (.map #[] 0)).heap.size := by simp
    have b1 := b0.grown g1 s0 (fun k hk => by cases hk; exact Nat.le_refl _)
    have s1 := Nat.le_trans s0 g1.size
    have b2 := b1.grown g2 s1 (fun k hk => by cases hk; exact Nat.le_refl _)
    have s2 := Nat.le_trans s1 g2.size
    have b3 := b2.grown g3 s2 (fun k hk => by cases hk; exact Nat.le_refl _)
    have s3 := Nat.le_trans s2 g3.size
    have b4 := b3.grown g4 s3 (fun k hk => by cases hk; exact Nat.le_refl _)
    exact b4.grown g5 (Nat.le_trans s3 g4.size) (fun k hk => by cases hk; exact Nat.le_refl _)
  have HB := Lib.hid hb
  have H5 : Hid (KM w.heap.size w5) := Lib.hid h5
  clear hb h0 h1 h2 h3 h4 h5 g1 g2 g3 g4 g5
  simp only [mWord, kSize, Int.reduceEq, reduceIte] at r1 r2 r3 r4 r5
  go_enter Tryz.func171, Tryz.ntmps171
  go_wp2_with fail
  go_ret
  exact ⟨_, rfl, H5.out, Nat.le_refl _, HB.out⟩
end Go.Proofs.YtjjfdlgoacockaaGreat
