/- Own texts, put together: TAwake, SShape, TSame, TElem, TElems, TRead, TInts, TFx, TTells, TOpen. -/
import Derived.Test.YtngjpgdgipmieaaPartC
import Derived.Test.YtngjpgdgipmieaaPartB
import Derived.Laws.BitsAllLaws
import Derived.Deep.Slices
import Derived.Deep.RegionHeld
import Derived.Deep.RegionWith
import Derived.Deep.CutRange
import Derived.ChangeSame
import Derived.SizedLaws
import Derived.OpenShut
/- The walk of the example of layer 7. -/
namespace Go.Proofs.Ytngjpgdgipmieaa
open Go.RowKit M6 M7

theorem put_int (n : Int) : (l8 (us n)).length = 8 ∧ ∀ W : World, Calls Try.prog 47 #[.int .i64 n] W fun e w' => e = .returned (av (l8 (us n))) ∧ Below W.heap.size W w' := ⟨rfl, fun W => putInt_av n W⟩
theorem put_flag (b : Bool) : ([if b then 1 else 0, 0, 0, 0, 0, 0, 0, 0] : List UInt8).length = 8 ∧ ∀ W : World, Calls Try.prog 49 #[.bool b] W fun e w' => e = .returned (av [if b then 1 else 0, 0, 0, 0, 0, 0, 0, 0]) ∧ Below W.heap.size W w' := ⟨rfl, fun W => putFlag_any b W⟩
/-- the tensor of the example -/
def exT : Ten := ⟨⟨#[97]⟩, 7, [2], ⟨(flat (fun n => l8 (us n)) 8 [1, -1]).toArray⟩⟩
theorem exT_size : exT.data.size = 16 := by decide +kernel
theorem exT_ck : ck exT = 0 := by
  refine ck_ok (by decide +kernel) (by decide +kernel) (by decide +kernel) ?_ ?_
  · rw [exT_size]; decide +kernel
  · intro j hj
    exact elk_other (by decide) (by decide) _ _

set_option maxRecDepth 100000 in
theorem tawake_any (w : World) : Calls Try.prog 5 #[] w fun e w' => e = .returned (.bool true) ∧ Below w.heap.size w w' := by
  have h1 := litA w [2]
  have h2 := litA (w.alloc (.cells (iv [2]).toArray 2)) [1, -1]
  rw [show (w.alloc (.cells (iv [2]).toArray 2)).heap.size = w.heap.size + 1 by simp] at h2
  have HO := Lib.hid (ofInt_any ⟨#[97]⟩ (some ⟨w.heap.size, 0, none⟩) 1 [2] (some ⟨w.heap.size + 1, 0, none⟩) 2 [1, -1] (fun n => l8 (us n)) ((w.alloc (.cells (iv [2]).toArray 2)).alloc (.cells (iv [1, -1]).toArray 2)) (by simp) (by simp) (SR.alloc h1 _) h2 (fun p _ => put_int p))
  clear h1 h2
  go_enter Try.func5, Try.ntmps5
  go_wp2_with fail
  refine HO.out.mono ?_
  rintro e w1 ⟨v, rfl, hown, hb⟩
  obtain ⟨va, vc, rfl, -, -⟩ := own_form hown
  have HB1 := Lib.hid (below_two hb)
  have hs1 := SR.of_own hown
  have HT : Hid (Tok w1 exT va) := Lib.hid ⟨by decide, by rw [exT_size]; omega, by decide, hs1, by unfold maxLen; decide, small_in (by decide)⟩
  have HE := Lib.hid exT_ck
  have HZ := Lib.hid exT_size
  clear hown hb hs1 HO
  generalize hdd : (⟨(flat (fun n => l8 (us n)) 8 [1, -1]).toArray⟩ : ByteArray) = D at *
  have hD : D.size = 16 := by rw [← hdd]; exact HZ.out
  have HDD := Lib.hid hdd
  clear hdd
  have HBX := Lib.hid (Bx.start w1 #[.string ⟨#[97]⟩, .int .i64 7, .slice va 1 vc, .string D] 25)
  go_wp2_with fail
  refine (kawake_any _).mono ?_
  rintro e w2 ⟨rfl, hb2⟩
  have H2 := Lib.hid (HBX.out.below hb2)
  clear hb2 HBX
  go_wp2_with fail
  refine (shAwake_any _).mono ?_
  rintro e w3 ⟨rfl, hb3⟩
  have H3 := Lib.hid (H2.out.below hb3)
  clear hb3 H2
  go_wp2_with fail
  refine (gawake_any _).mono ?_
  rintro e w4 ⟨rfl, hb4⟩
  have H4 := Lib.hid (H3.out.below hb4)
  clear hb4 H3
  obtain ⟨x0, x1, x2, x3⟩ := H4.out.four
  have HC := Lib.hid (tcheck_any exT va vc w4 (HT.out.below H4.out.all))
  rw [HE.out] at HC
  unfold exT at HC
  rw [HDD.out] at HC
  go_wp2_with fail
  refine HC.out.mono ?_
  rintro e w5 ⟨rfl, hb5⟩
  have H5 := Lib.hid (H4.out.below hb5)
  clear hb5 H4 HC
  go_wp2_with fail
  go_ret
  exact ⟨rfl, HB1.out.trans (H5.out.all.mono HB1.out.size)⟩
end Go.Proofs.Ytngjpgdgipmieaa
/- The walk of shape.Same. -/
namespace Go.Proofs.Ytngjpgdgipmieaa
open Go.RowKit
set_option maxRecDepth 100000 in
theorem shSame_any (A B : Option Addr) (c d : Nat) (l m : List Int) (w : World) (hm : m.length ≤ maxLen) (ha : SR w w.heap.size 1 A l.length (iv l)) (hb : SR w w.heap.size 1 B m.length (iv m)) :
    Calls Try.prog 36 #[.slice A l.length c, .slice B m.length d] w fun e w' => e = .returned (.bool (decide (l = m))) ∧ Below w.heap.size w w' := by
  have HC := Lib.hid (slEqual_any A B c d l m w hm ha hb)
  clear hm ha hb
  go_enter Try.func36, Try.ntmps36
  go_wp2_with fail
  refine HC.out.mono ?_
  rintro e w1 ⟨rfl, hb1⟩
  have HB := Lib.hid hb1
  clear hb1
  go_wp2_with fail
  go_ret
  exact ⟨rfl, HB.out⟩
end Go.Proofs.Ytngjpgdgipmieaa
/- The walks of Same, the program's and the document's own, of Elem and Of. -/
namespace Go.Proofs.Ytngjpgdgipmieaa
open Go.RowKit M7

/-- are two tensors alike -/
def sameT (t u : Ten) : Bool := decide (t.name = u.name) && decide (t.kind = u.kind) && decide (t.dims = u.dims) && decide (t.data = u.data)
theorem sameT_name {t u : Ten} (h : t.name ≠ u.name) : sameT t u = false := by unfold sameT; rw [decide_eq_false h]; rfl
theorem sameT_kind {t u : Ten} (h : t.kind ≠ u.kind) : sameT t u = false := by unfold sameT; rw [decide_eq_false h]; simp
theorem sameT_dims {t u : Ten} (h : t.dims ≠ u.dims) : sameT t u = false := by unfold sameT; rw [decide_eq_false h]; simp
theorem sameT_data {t u : Ten} (h : t.data ≠ u.data) : sameT t u = false := by unfold sameT; rw [decide_eq_false h]; simp
theorem sameT_yes {t u : Ten} (h1 : t.name = u.name) (h2 : t.kind = u.kind) (h3 : t.dims = u.dims) (h4 : t.data = u.data) : sameT t u = true := by
  unfold sameT; rw [decide_eq_true h1, decide_eq_true h2, decide_eq_true h3, decide_eq_true h4]; rfl

set_option maxRecDepth 100000 in
theorem same_any (t u : Ten) (A B : Option Addr) (c d : Nat) (w : World) (ht : Tok w t A) (hu : Tok w u B) :
    Calls Try.prog 9 #[tv t.name t.kind (.slice A t.dims.length c) t.data, tv u.name u.kind (.slice B u.dims.length d) u.data] w fun e w' => e = .returned (.bool (sameT t u)) ∧ Below w.heap.size w w' := by
  have hbx := Bx.start w #[.string t.name, .int .i64 t.kind, .slice A t.dims.length c, .string t.data] 25
  have HBY := Lib.hid (Bx.two w (.cells #[.string t.name, .int .i64 t.kind, .slice A t.dims.length c, .string t.data] 25) #[.string u.name, .int .i64 u.kind, .slice B u.dims.length d, .string u.data] 25)
  have HBX := Lib.hid (hbx.more (.cells #[.string u.name, .int .i64 u.kind, .slice B u.dims.length d, .string u.data] 25))
  have HS := Lib.hid (shSame_any A B c d t.dims u.dims _ hu.len (ht.below HBX.out.all).dims (hu.below HBX.out.all).dims)
  clear hbx ht hu
  obtain ⟨tn, tk, tl, tdat⟩ := t
  obtain ⟨un, uk, ul, udat⟩ := u
  dsimp only at *
  by_cases h1 : tn = un
  · have e1 := teq_yes h1
    by_cases h2 : tk = uk
    · have e2 : (tk == uk) = true := by simpa using h2
      by_cases h3 : tl = ul
      · rw [decide_eq_true h3] at HS
        by_cases h4 : tdat = udat
        · have e4 := teq_yes h4
          have HE := Lib.hid (sameT_yes (t := ⟨tn, tk, tl, tdat⟩) (u := ⟨un, uk, ul, udat⟩) h1 h2 h3 h4)
          clear h1 h2 h3 h4
          go_enter Try.func9, Try.ntmps9
          go_wp2_with fail
          refine HS.out.mono ?_
          rintro e w1 ⟨rfl, hb1⟩
          have H1 := Lib.hid (HBX.out.below hb1)
          have H2 := Lib.hid (HBY.out.below hb1)
          clear hb1
          obtain ⟨x0, x1, x2, x3⟩ := H1.out.four
          obtain ⟨y0, y1, y2, y3⟩ := H2.out.four
          go_wp2_with fail
          go_ret
          rw [HE.out]
          exact ⟨rfl, H1.out.all⟩
        · have e4 := teq_no h4
          have HE := Lib.hid (sameT_data (t := ⟨tn, tk, tl, tdat⟩) (u := ⟨un, uk, ul, udat⟩) h4)
          clear h1 h2 h3 h4
          go_enter Try.func9, Try.ntmps9
          go_wp2_with fail
          refine HS.out.mono ?_
          rintro e w1 ⟨rfl, hb1⟩
          have H1 := Lib.hid (HBX.out.below hb1)
          have H2 := Lib.hid (HBY.out.below hb1)
          clear hb1
          obtain ⟨x0, x1, x2, x3⟩ := H1.out.four
          obtain ⟨y0, y1, y2, y3⟩ := H2.out.four
          go_wp2_with fail
          go_ret
          rw [HE.out]
          exact ⟨rfl, H1.out.all⟩
      · rw [decide_eq_false h3] at HS
        have HE := Lib.hid (sameT_dims (t := ⟨tn, tk, tl, tdat⟩) (u := ⟨un, uk, ul, udat⟩) h3)
        clear h1 h2 h3
        go_enter Try.func9, Try.ntmps9
        go_wp2_with fail
        refine HS.out.mono ?_
        rintro e w1 ⟨rfl, hb1⟩
        have H1 := Lib.hid (HBX.out.below hb1)
        clear hb1
        go_wp2_with fail
        go_ret
        rw [HE.out]
        exact ⟨rfl, H1.out.all⟩
    · have e2 : (tk == uk) = false := by simpa using h2
      have HE := Lib.hid (sameT_kind (t := ⟨tn, tk, tl, tdat⟩) (u := ⟨un, uk, ul, udat⟩) h2)
      clear h1 h2 HS
      go_enter Try.func9, Try.ntmps9
      go_wp2_with fail
      go_ret
      rw [HE.out]
      exact ⟨rfl, HBX.out.all⟩
  · have e1 := teq_no h1
    have HE := Lib.hid (sameT_name (t := ⟨tn, tk, tl, tdat⟩) (u := ⟨un, uk, ul, udat⟩) h1)
    clear h1 HS
    go_enter Try.func9, Try.ntmps9
    go_wp2_with fail
    go_ret
    rw [HE.out]
    exact ⟨rfl, HBX.out.all⟩

set_option maxRecDepth 100000 in
set_option maxHeartbeats 1000000 in
theorem rsame_any (t u : Ten) (A B : Option Addr) (c d : Nat) (w : World) (ht : Tok w t A) (hu : Tok w u B) (hl : t.dims.length ≤ 20) :
    Calls Try.prog 10 #[tv t.name t.kind (.slice A t.dims.length c) t.data, tv u.name u.kind (.slice B u.dims.length d) u.data] w fun e w' => e = .returned (.bool (sameT t u)) ∧ Below w.heap.size w w' := by
  have hbx := Bx.start w #[.string t.name, .int .i64 t.kind, .slice A t.dims.length c, .string t.data] 28
  have HBY := Lib.hid (Bx.two w (.cells #[.string t.name, .int .i64 t.kind, .slice A t.dims.length c, .string t.data] 28) #[.string u.name, .int .i64 u.kind, .slice B u.dims.length d, .string u.data] 28)
  have HBX := Lib.hid (hbx.more (.cells #[.string u.name, .int .i64 u.kind, .slice B u.dims.length d, .string u.data] 28))
  have ha := (ht.below HBX.out.all).dims
  have hb := (hu.below HBX.out.all).dims
  clear hbx ht hu
  obtain ⟨tn, tk, tl, tdat⟩ := t
  obtain ⟨un, uk, ul, udat⟩ := u
  dsimp only at *
  by_cases h1 : tn = un
  · have e1 := teq_yes h1
    by_cases h2 : tk = uk
    · have e2 : (tk != uk) = false := by simpa using h2
      by_cases h4 : tdat = udat
      · have e4 := teq_yes h4
        by_cases h3 : tl.length = ul.length
        · have e3 : ((tl.length : Int) != (ul.length : Int)) = false := by simp; omega
          have HY := Lib.hid (fun h => sameT_yes (t := ⟨tn, tk, tl, tdat⟩) (u := ⟨un, uk, ul, udat⟩) h1 h2 h h4)
          have HL := Lib.hid h3
          clear h1 h2 h3 h4
          go_enter Try.func10, Try.ntmps10
          go_wp2_with fail
          go_loopw [5] (fun i wr => ∃ (k : Nat) (K : Int), i = .int .i64 K ∧ K = (k : Nat) ∧ k ≤ tl.length ∧ tl.take k = ul.take k ∧ Below ((w.alloc (.cells #[.string tn, .int .i64 tk, .slice A tl.length c, .string tdat] 28)).alloc (.cells #[.string un, .int .i64 uk, .slice B ul.length d, .string udat] 28)).heap.size ((w.alloc (.cells #[.string tn, .int .i64 tk, .slice A tl.length c, .string tdat] 28)).alloc (.cells #[.string un, .int .i64 uk, .slice B ul.length d, .string udat] 28)) wr) (fun i _ => tl.length - (intOf i).toNat)
          case atStart => exact ⟨0, _, rfl, rfl, by omega, rfl, Below.refl _ _⟩
          case round =>
            obtain ⟨k, K, rfl, rfl, hk, htk, hbw⟩ := hrel
            obtain ⟨x0, x1, x2, x3⟩ := (HBX.out.below hbw).four
            obtain ⟨y0, y1, y2, y3⟩ := (HBY.out.below hbw).four
            have HT := Lib.hid htk
            have HB := Lib.hid hbw
            have hbz := hbw.size
            clear htk
            by_cases hlt : k < tl.length
            · have hlt' : k < ul.length := by rw [← HL.out]; exact hlt
              obtain ⟨b1, o1, rfl, hb1, z0⟩ := int_at (ha.below hbw) hlt
              obtain ⟨b2, o2, rfl, hb2, z1⟩ := int_at (hb.below hbw) hlt'
              have HY2 := Lib.hid (take_same_yes HT.out hlt hlt')
              have HN := Lib.hid (take_same_no (l := tl) (m := ul) hlt hlt')
              clear ha hb hbw
              generalize tl[k] = u at *
              generalize ul[k] = v at *
              by_cases huv : u = v
              · subst huv
                have HE := Lib.hid (HY2.out rfl)
                go_wp2_with fail
                go_quiet (fail)
                go_wp2_with fail
                go_roundw
                case rel => exact ⟨k + 1, _, rfl, by omega, by omega, HE.out, below_drewN HB.out _⟩
                case measure => simp [intOf]; omega
              · have HE := Lib.hid (sameT_dims (t := ⟨tn, tk, tl, tdat⟩) (u := ⟨un, uk, ul, udat⟩) (HN.out huv))
                have huv' : (u != v) = true := by simpa using huv
                clear huv
                go_wp2_with fail
                go_quiet (fail)
                go_wp2_with fail
                go_ret
                rw [HE.out]
                exact ⟨rfl, HBX.out.all.trans ((below_drewN HB.out _).mono HBX.out.all.size)⟩
            · obtain rfl : k = tl.length := by omega
              have HE := Lib.hid (HY.out (take_same_all HL.out (by rw [← HL.out]; exact HT.out)))
              clear ha hb hbw
              go_wp2_with fail
              go_ret
              rw [HE.out]
              exact ⟨rfl, HBX.out.all.trans (HB.out.mono HBX.out.all.size)⟩
        · have e3 : ((tl.length : Int) != (ul.length : Int)) = true := by simp; omega
          have HE := Lib.hid (sameT_dims (t := ⟨tn, tk, tl, tdat⟩) (u := ⟨un, uk, ul, udat⟩) (fun h => h3 (congrArg List.length h)))
          clear h1 h2 h3 h4 ha hb
          go_enter Try.func10, Try.ntmps10
          go_wp2_with fail
          go_ret
          rw [HE.out]
          exact ⟨rfl, HBX.out.all⟩
      · have e4 := teq_no h4
        have HE := Lib.hid (sameT_data (t := ⟨tn, tk, tl, tdat⟩) (u := ⟨un, uk, ul, udat⟩) h4)
        clear h1 h2 h4 ha hb
        go_enter Try.func10, Try.ntmps10
        go_wp2_with fail
        go_ret
        rw [HE.out]
        exact ⟨rfl, HBX.out.all⟩
    · have e2 : (tk != uk) = true := by simpa using h2
      have HE := Lib.hid (sameT_kind (t := ⟨tn, tk, tl, tdat⟩) (u := ⟨un, uk, ul, udat⟩) h2)
      clear h1 h2 ha hb
      go_enter Try.func10, Try.ntmps10
      go_wp2_with fail
      go_ret
      rw [HE.out]
      exact ⟨rfl, HBX.out.all⟩
  · have e1 := teq_no h1
    have HE := Lib.hid (sameT_name (t := ⟨tn, tk, tl, tdat⟩) (u := ⟨un, uk, ul, udat⟩) h1)
    clear h1 ha hb
    go_enter Try.func10, Try.ntmps10
    go_wp2_with fail
    go_ret
    rw [HE.out]
    exact ⟨rfl, HBX.out.all⟩
end Go.Proofs.Ytngjpgdgipmieaa
/- The walks of Elem and of the law's Of. -/
namespace Go.Proofs.Ytngjpgdgipmieaa
open Go.RowKit M7

/-- the i-th element's bytes -/
def el (k : Int) (d : ByteArray) (i : Int) : ByteArray := if kSize k = 0 ∨ i < 0 ∨ (d.size : Int) / kSize k ≤ i then ⟨#[]⟩ else d.extract (i.toNat * (kSize k).toNat) ((i.toNat + 1) * (kSize k).toNat)
theorem el_none {k : Int} {d : ByteArray} {i : Int} (h : kSize k = 0 ∨ i < 0 ∨ (d.size : Int) / kSize k ≤ i) : el k d i = ⟨#[]⟩ := if_pos h
theorem el_some {k : Int} {d : ByteArray} {i : Int} (h : ¬ (kSize k = 0 ∨ i < 0 ∨ (d.size : Int) / kSize k ≤ i)) : el k d i = d.extract (i.toNat * (kSize k).toNat) ((i.toNat + 1) * (kSize k).toNat) := if_neg h
theorem el_fits {n s i : Nat} (hs : s ≠ 0) (h : (i : Int) < (n : Int) / (s : Int)) : (i + 1) * s ≤ n := by
  have h1 : i < n / s := by rw [← Int.natCast_ediv] at h; omega
  have := (Nat.le_div_iff_mul_le (by omega)).1 (show i + 1 ≤ n / s by omega)
  exact this
theorem div_small {n s : Nat} : (0 : Int) ≤ (n : Int) / (s : Int) ∧ (n : Int) / (s : Int) ≤ (n : Int) := by
  rw [← Int.natCast_ediv]
  have := Nat.div_le_self n s
  generalize n / s = q at *
  omega

set_option maxRecDepth 100000 in
theorem elem_any (t : Ten) (A : Option Addr) (c : Nat) (i : Int) (w : World) (ht : Tok w t A) (hi : I64 i) :
    Calls Try.prog 14 #[tv t.name t.kind (.slice A t.dims.length c) t.data, .int .i64 i] w fun e w' => e = .returned (.string (el t.kind t.data i)) ∧ Below w.heap.size w w' := by
  have hd := ht.data
  obtain ⟨s, hs, hs8⟩ := size_nat t.kind
  have HBX := Lib.hid (Bx.start w #[.string t.name, .int .i64 t.kind, .slice A t.dims.length c, .string t.data] 25)
  have HT := Lib.hid ht
  have HS := Lib.hid hs
  unfold I64 at hi
  clear ht hs
  go_enter Try.func14, Try.ntmps14
  go_wp2_with fail
  refine (size_any t.kind _ HT.out.kind).mono ?_
  rintro e w1 ⟨rfl, hb1⟩
  have H1 := Lib.hid (HBX.out.below hb1)
  clear hb1 HBX
  rw [HS.out]
  obtain ⟨x0, x1, x2, x3⟩ := H1.out.four
  by_cases hs0 : s = 0
  · subst hs0
    have HE := Lib.hid (el_none (d := t.data) (i := i) (.inl HS.out))
    go_wp2_with fail
    go_ret
    rw [HE.out]
    exact ⟨rfl, H1.out.all⟩
  · have hs0' : ((s : Int) == 0) = false := by rw [beq_eq_false_iff_ne]; omega
    have hs1 : ¬ (s : Int) = 0 := by omega
    by_cases h0 : i < 0
    · have HE := Lib.hid (el_none (k := t.kind) (d := t.data) (i := i) (.inr (.inl h0)))
      have h0' := decide_eq_true h0
      clear hs0
      go_wp2_with fail
      go_ret
      rw [HE.out]
      exact ⟨rfl, H1.out.all⟩
    · obtain ⟨j, rfl⟩ := Int.eq_ofNat_of_zero_le (show 0 ≤ i by omega)
      have h0' : decide ((j : Int) < 0) = false := decide_eq_false (by omega)
      obtain ⟨d0, d1⟩ := div_small (n := t.data.size) (s := s)
      by_cases h1 : (t.data.size : Int) / (s : Int) ≤ (j : Int)
      · have HE := Lib.hid (el_none (k := t.kind) (d := t.data) (i := (j : Int)) (.inr (.inr (by rw [HS.out]; exact h1))))
        have h1' := decide_eq_true h1
        clear hs0
        go_wp2_with fail
        go_ret
        rw [HE.out]
        exact ⟨rfl, H1.out.all⟩
      · have hf := el_fits hs0 (by omega : (j : Int) < (t.data.size : Int) / (s : Int))
        have HE := Lib.hid (el_some (k := t.kind) (d := t.data) (i := (j : Int)) (by rw [HS.out]; omega))
        have HC := Lib.hid (fun W => cut_any t.name t.kind A t.dims.length c t.data j s W (by unfold maxLen; omega) hf (by have := Nat.le_mul_of_pos_right (j + 1) (show 0 < s by omega); omega))
        have h1' := decide_eq_false h1
        have hst : (kSize t.kind).toNat = s := by rw [HS.out]; omega
        rw [hst, show ((j : Int)).toNat = j by omega] at HE
        clear hs0 hf hst
        go_wp2_with fail
        refine (HC.out _).mono ?_
        rintro e w2 ⟨rfl, hb2⟩
        have H2 := Lib.hid (H1.out.below hb2)
        clear hb2
        rw [← HE.out]
        go_wp2_with fail
        go_ret
        exact ⟨rfl, H2.out.all⟩

set_option maxRecDepth 100000 in
theorem law7of_any (nme : ByteArray) (k : Int) (A : Option Addr) (l c : Nat) (d : ByteArray) (w : World) :
    Calls Try.prog 6 #[tv nme k (.slice A l c) d] w fun e w' => e = .returned (tv nme k (.slice A l c) d) ∧ Below w.heap.size w w' := by
  have hb := Bx.two w (.cells #[.string nme, .int .i64 k, .slice A l c, .string d] 25) #[.string nme, .int .i64 k, .slice A l c, .string d] 28
  have HK := Lib.hid hb
  clear hb
  go_enter Try.func6, Try.ntmps6
  go_wp2_with fail
  obtain ⟨c0, c1, c2, c3⟩ := HK.out.four
  have hbb := HK.out.all
  clear HK
  generalize (w.alloc (.cells #[.string nme, .int .i64 k, .slice A l c, .string d] 25)).alloc (.cells #[.string nme, .int .i64 k, .slice A l c, .string d] 28) = w2 at *
  exact bodyPost_ret (v := .agg #[.string nme, .int .i64 k, .slice A l c, .string d]) (by simp [results, Try.results6, go_sem, c0, c1, c2, c3]) rfl ⟨rfl, hbb⟩
end Go.Proofs.Ytngjpgdgipmieaa
/- The walks of elements at whole numbers, flags and complex numbers, each out of one text (wip/tools/gen7.py). -/
namespace Go.Proofs.Ytngjpgdgipmieaa
open Go.RowKit M6 M7

/-- what is wrong, asked for elements of a kind -/
def ec (k : Int) (t : Ten) : Int := if ck t ≠ 0 then ck t else if t.kind = k then 0 else 13
theorem ec_bad {k : Int} {t : Ten} (h : ck t ≠ 0) : ec k t = ck t := if_pos h
theorem ec_type {k : Int} {t : Ten} (h : ck t = 0) (hk : t.kind ≠ k) : ec k t = 13 := by unfold ec; rw [if_neg (by omega), if_neg hk]
theorem ec_ok {k : Int} {t : Ten} (h : ck t = 0) (hk : t.kind = k) : ec k t = 0 := by unfold ec; rw [if_neg (by omega), if_pos hk]
theorem ec_zero {k : Int} {t : Ten} (h : ec k t = 0) : ck t = 0 ∧ t.kind = k := by
  unfold ec at h
  split at h
  · omega
  · split at h
    · exact ⟨by omega, by assumption⟩
    · omega
/-- how many elements a right tensor of a kind has -/
theorem count_of {t : Ten} {k : Int} {s : Nat} (h : ck t = 0) (hk : t.kind = k) (hs : kSize k = (s : Int)) (hs0 : s ≠ 0) : ∃ n, t.data.size = n * s ∧ t.data.size / s = n ∧ n ≤ 65536 := by
  obtain ⟨-, -, -, h4, -⟩ := ck_zero h
  obtain ⟨n, hn, hn6⟩ := count_nat t.dims
  rw [hn, hk, hs, ← Int.natCast_mul] at h4
  have h5 : t.data.size = n * s := by omega
  exact ⟨n, h5, by rw [h5, Nat.mul_div_cancel _ (by omega)], hn6⟩

theorem infoInt : (Try.prog.info? 2).map (fun i => (i.zero, i.size, i.bytes)) = some (some (Value.int .i64 0), 1, 8) := by kernel_rfl
set_option maxRecDepth 100000 in
set_option maxHeartbeats 1000000 in
theorem elemsInt_any (t : Ten) (A : Option Addr) (c : Nat) (w : World) (ht : Tok w t A) (xs : List (Int)) (hx : ck t = 0 → t.kind = 7 → xs.length = t.data.size / 8)
    (hr : ck t = 0 → t.kind = 7 → ∀ k (h : k < xs.length) (W : World), Calls Try.prog 38 #[.string (t.data.extract (k * 8) ((k + 1) * 8))] W fun e w' => e = .returned (Value.int .i64 xs[k]) ∧ Below W.heap.size W w') :
    Calls Try.prog 37 #[tv t.name t.kind (.slice A t.dims.length c) t.data, .int .i64 7, .func (.func 38) #[] #[]] w fun e w' =>
      ∃ v ys, e = .returned (.tuple #[v, .int .i64 (ec 7 t)]) ∧ w'.ownsRow w.heap.size 2 1 v ys.length (ys.map fun p => Value.int .i64 p) ∧ Below w.heap.size w w' ∧ (ec 7 t = 0 → ys = xs) ∧ (ec 7 t ≠ 0 → ys = []) := by
  have hd := ht.data
  have HT := Lib.hid ht
  have HBX := Lib.hid (Bx.start w #[.string t.name, .int .i64 t.kind, .slice A t.dims.length c, .string t.data] 25)
  clear ht
  have HCK := Lib.hid (tcheck_any t A c _ (HT.out.below HBX.out.all))
  go_enter Try.func37, Try.ntmps37
  go_wp2_with fail
  refine HCK.out.mono ?_
  rintro e w1 ⟨rfl, hb1⟩
  have H1 := Lib.hid (HBX.out.below hb1)
  clear hb1 HBX HCK
  obtain ⟨x0, x1, x2, x3⟩ := H1.out.four
  by_cases hck : ck t = 0
  · have HCK := Lib.hid hck
    rw [hck]
    clear hck
    by_cases hk : t.kind = 7
    · have HE := Lib.hid (ec_ok HCK.out hk)
      obtain ⟨n, hn, hdiv, hn6⟩ := count_of HCK.out hk (s := 8) (by decide) (by decide)
      have hxl := hx HCK.out hk
      have HR := Lib.hid (hr HCK.out hk)
      rw [hdiv] at hxl
      have HX := Lib.hid hxl
      have HN := Lib.hid hn
      have hdiv' : (t.data.size : Int) / 8 = (n : Int) := by omega
      have hk' : (t.kind != 7) = false := by simpa using hk
      clear hx hr hdiv hk hxl
      obtain ⟨i0, hi0, hz0, hz1, hz2⟩ := info_parts infoInt
      go_wp2_with fail
      refine (size_any 7 _ (by decide)).mono ?_
      rintro e w2 ⟨rfl, hb2⟩
      rw [show kSize 7 = 8 by decide]
      have H2 := Lib.hid (H1.out.below hb2)
      clear hb2 H1
      obtain ⟨x0, x1, x2, x3⟩ := H2.out.four
      go_wp2_with (at_make; refine wpList_make_full _ rfl _ _ 23 rfl w2.heap.size 2 i0 _ 1 Try.underlying23 hi0 hz0 hz1 .i64 .i64 _ _ n rfl rfl rfl rfl (by rw [hz2]; omega) (by unfold maxLen; omega) (Nat.le_refl _) ?_)
      intro w3 hown hg
      rw [made_cells] at hown
      have hb3 := (Below.refl w2.heap.size w2).grown hg (Nat.le_refl _) (fun q hq => by cases hq)
      have hf0 : Fill w3 w2.heap.size w2.heap.size 2 (xs.map fun p => Value.int .i64 p) (List.replicate n (Value.int .i64 0)) 0 := Fill.start (by rw [List.length_map, HX.out]; exact hown)
      have hz3 := hb3.size
      have HF0 := Lib.hid hf0
      have HBX3 := Lib.hid (H2.out.below hb3)
      have HL : Hid ((List.replicate n (Value.int .i64 0)).length = (xs.map fun p => Value.int .i64 p).length) := Lib.hid (by rw [List.length_replicate, List.length_map, HX.out])
      have HWZ := Lib.hid H2.out.2.1
      have HWW := Lib.hid H2.out.all.size
      clear hown hg hb3 hf0 hi0 hz0 hz1 hz2 x0 x1 x2 x3 H2
      generalize hgg : w2.heap.size = g at *
      have HGG := Lib.hid hgg
      clear hgg
      go_wp2_with fail
      go_loopw [11, 31] (fun _ i wr => ∃ (k : Nat) (K : Int), i = .int .i64 K ∧ K = (k : Nat) ∧ k ≤ n ∧ Fill wr g g 2 (xs.map fun p => Value.int .i64 p) (List.replicate n (Value.int .i64 0)) k ∧ Bx w w.heap.size #[.string t.name, .int .i64 t.kind, .slice A t.dims.length c, .string t.data] 25 wr) (fun _ i _ => n - (intOf i).toNat)
      case atStart => exact ⟨0, _, rfl, rfl, by omega, HF0.out, HBX3.out⟩
      case round =>
        obtain ⟨k, K, rfl, rfl, hk, hfill, hbx⟩ := hrel
        by_cases hlt : k < n
        · have hkn : (k + 1) * 8 ≤ t.data.size := by rw [HN.out]; exact Nat.mul_le_mul_right _ (by omega)
          have HC := Lib.hid (fun W => cut_any t.name t.kind A t.dims.length c t.data k 8 W (by unfold maxLen; omega) hkn (by omega))
          have hkx : k < xs.length := by rw [HX.out]; exact hlt
          have HRK := Lib.hid (HR.out k hkx)
          have HB := Lib.hid hbx
          have HF := Lib.hid hfill
          obtain ⟨x0, x1, x2, x3⟩ := HB.out.four
          generalize t.data.extract (k * 8) ((k + 1) * 8) = E at *
          clear hkn hbx hfill
          go_wp2_with fail
          refine (HC.out _).mono ?_
          rintro e w4 ⟨rfl, hb4⟩
          have HB4 := Lib.hid (HB.out.below hb4)
          have HF4 := Lib.hid (HF.out.keep hb4)
          clear hb4 HB HF x0 x1 x2 x3
          go_wp2_with fail
          refine (HRK.out _).mono ?_
          rintro e w5 ⟨rfl, hb5⟩
          have HB5 := Lib.hid (HB4.out.below hb5)
          have hf5 := HF4.out.keep hb5
          have hvl : k < (xs.map fun p => Value.int .i64 p).length := by rw [List.length_map]; exact hkx
          obtain ⟨u, hu⟩ := hf5.cell HL.out hvl
          have hfz := hf5.frozenAt k
          have hput := hf5.put HL.out hvl
          rw [List.getElem_map] at hput
          have hbs := HB5.out.far (b := g) (i := k) (Value.int .i64 xs[k]) (by have := HWZ.out; omega) (by have := HWW.out; omega)
          have HP := Lib.hid (And.intro hput hbs)
          clear hput hbs hf5 hb5 HB4 HF4 HB5
          generalize xs[k] = x at *
          go_wp2_with fail
          go_roundw
          case rel => exact ⟨k + 1, _, rfl, by omega, by omega, HP.out.1, HP.out.2⟩
          case measure => simp [intOf]; omega
        · obtain rfl : k = n := by omega
          have hk2 : k = (xs.map fun p => Value.int .i64 p).length := by rw [List.length_map, HX.out]
          rw [hk2] at hfill
          have hdone := hfill.done (by rw [← hk2, List.length_replicate])
          rw [← hk2] at hdone
          have HD := Lib.hid (And.intro hdone hbx.all)
          have HK2 := Lib.hid (show k = xs.length by rw [HX.out])
          clear hfill hdone hbx hk2
          go_wp2_with fail
          go_ret2
          refine ⟨_, xs, by rw [HE.out]; rfl, ?_, HD.out.2, fun _ => rfl, fun h => absurd HE.out h⟩
          rw [← HK2.out]
          exact own_base HD.out.1 (by have := HWW.out; omega)
    · have HE := Lib.hid (ec_type HCK.out hk)
      have hk' : (t.kind != 7) = true := by simpa using hk
      clear hk hx hr
      go_wp2_with fail
      go_ret2
      exact ⟨_, [], by rw [HE.out]; rfl, World.ownsRow_nil _ _ _ _, H1.out.all, (fun h => by rw [HE.out] at h; cases h), fun _ => rfl⟩
  · have HE := Lib.hid (ec_bad (k := 7) hck)
    have HCK := Lib.hid hck
    have hck' : (ck t != 0) = true := by simpa using hck
    generalize ck t = q at *
    clear hck hx hr
    go_wp2_with fail
    go_ret2
    exact ⟨_, [], by rw [HE.out]; rfl, World.ownsRow_nil _ _ _ _, H1.out.all, fun h => absurd (HE.out.symm.trans h) HCK.out, fun _ => rfl⟩

theorem infoFlag : (Try.prog.info? 4).map (fun i => (i.zero, i.size, i.bytes)) = some (some (Value.bool false), 1, 1) := by kernel_rfl
set_option maxRecDepth 100000 in
set_option maxHeartbeats 1000000 in
theorem elemsFlag_any (t : Ten) (A : Option Addr) (c : Nat) (w : World) (ht : Tok w t A) (xs : List (Bool)) (hx : ck t = 0 → t.kind = 9 → xs.length = t.data.size / 1)
    (hr : ck t = 0 → t.kind = 9 → ∀ k (h : k < xs.length) (W : World), Calls Try.prog 40 #[.string (t.data.extract (k * 1) ((k + 1) * 1))] W fun e w' => e = .returned (Value.bool xs[k]) ∧ Below W.heap.size W w') :
    Calls Try.prog 39 #[tv t.name t.kind (.slice A t.dims.length c) t.data, .int .i64 9, .func (.func 40) #[] #[]] w fun e w' =>
      ∃ v ys, e = .returned (.tuple #[v, .int .i64 (ec 9 t)]) ∧ w'.ownsRow w.heap.size 4 1 v ys.length (ys.map fun p => Value.bool p) ∧ Below w.heap.size w w' ∧ (ec 9 t = 0 → ys = xs) ∧ (ec 9 t ≠ 0 → ys = []) := by
  have hd := ht.data
  have HT := Lib.hid ht
  have HBX := Lib.hid (Bx.start w #[.string t.name, .int .i64 t.kind, .slice A t.dims.length c, .string t.data] 25)
  clear ht
  have HCK := Lib.hid (tcheck_any t A c _ (HT.out.below HBX.out.all))
  go_enter Try.func39, Try.ntmps39
  go_wp2_with fail
  refine HCK.out.mono ?_
  rintro e w1 ⟨rfl, hb1⟩
  have H1 := Lib.hid (HBX.out.below hb1)
  clear hb1 HBX HCK
  obtain ⟨x0, x1, x2, x3⟩ := H1.out.four
  by_cases hck : ck t = 0
  · have HCK := Lib.hid hck
    rw [hck]
    clear hck
    by_cases hk : t.kind = 9
    · have HE := Lib.hid (ec_ok HCK.out hk)
      obtain ⟨n, hn, hdiv, hn6⟩ := count_of HCK.out hk (s := 1) (by decide) (by decide)
      have hxl := hx HCK.out hk
      have HR := Lib.hid (hr HCK.out hk)
      rw [hdiv] at hxl
      have HX := Lib.hid hxl
      have HN := Lib.hid hn
      have hdiv' : (t.data.size : Int) / 1 = (n : Int) := by omega
      have hk' : (t.kind != 9) = false := by simpa using hk
      clear hx hr hdiv hk hxl
      obtain ⟨i0, hi0, hz0, hz1, hz2⟩ := info_parts infoFlag
      go_wp2_with fail
      refine (size_any 9 _ (by decide)).mono ?_
      rintro e w2 ⟨rfl, hb2⟩
      rw [show kSize 9 = 1 by decide]
      have H2 := Lib.hid (H1.out.below hb2)
      clear hb2 H1
      obtain ⟨x0, x1, x2, x3⟩ := H2.out.four
      go_wp2_with (at_make; refine wpList_make_full _ rfl _ _ 40 rfl w2.heap.size 4 i0 _ 1 Try.underlying40 hi0 hz0 hz1 .i64 .i64 _ _ n rfl rfl rfl rfl (by rw [hz2]; omega) (by unfold maxLen; omega) (Nat.le_refl _) ?_)
      intro w3 hown hg
      rw [made_cells] at hown
      have hb3 := (Below.refl w2.heap.size w2).grown hg (Nat.le_refl _) (fun q hq => by cases hq)
      have hf0 : Fill w3 w2.heap.size w2.heap.size 4 (xs.map fun p => Value.bool p) (List.replicate n (Value.bool false)) 0 := Fill.start (by rw [List.length_map, HX.out]; exact hown)
      have hz3 := hb3.size
      have HF0 := Lib.hid hf0
      have HBX3 := Lib.hid (H2.out.below hb3)
      have HL : Hid ((List.replicate n (Value.bool false)).length = (xs.map fun p => Value.bool p).length) := Lib.hid (by rw [List.length_replicate, List.length_map, HX.out])
      have HWZ := Lib.hid H2.out.2.1
      have HWW := Lib.hid H2.out.all.size
      clear hown hg hb3 hf0 hi0 hz0 hz1 hz2 x0 x1 x2 x3 H2
      generalize hgg : w2.heap.size = g at *
      have HGG := Lib.hid hgg
      clear hgg
      go_wp2_with fail
      go_loopw [11, 31] (fun _ i wr => ∃ (k : Nat) (K : Int), i = .int .i64 K ∧ K = (k : Nat) ∧ k ≤ n ∧ Fill wr g g 4 (xs.map fun p => Value.bool p) (List.replicate n (Value.bool false)) k ∧ Bx w w.heap.size #[.string t.name, .int .i64 t.kind, .slice A t.dims.length c, .string t.data] 25 wr) (fun _ i _ => n - (intOf i).toNat)
      case atStart => exact ⟨0, _, rfl, rfl, by omega, HF0.out, HBX3.out⟩
      case round =>
        obtain ⟨k, K, rfl, rfl, hk, hfill, hbx⟩ := hrel
        by_cases hlt : k < n
        · have hkn : (k + 1) * 1 ≤ t.data.size := by rw [HN.out]; exact Nat.mul_le_mul_right _ (by omega)
          have HC := Lib.hid (fun W => cut_any t.name t.kind A t.dims.length c t.data k 1 W (by unfold maxLen; omega) hkn (by omega))
          have hkx : k < xs.length := by rw [HX.out]; exact hlt
          have HRK := Lib.hid (HR.out k hkx)
          have HB := Lib.hid hbx
          have HF := Lib.hid hfill
          obtain ⟨x0, x1, x2, x3⟩ := HB.out.four
          generalize t.data.extract (k * 1) ((k + 1) * 1) = E at *
          clear hkn hbx hfill
          go_wp2_with fail
          refine (HC.out _).mono ?_
          rintro e w4 ⟨rfl, hb4⟩
          have HB4 := Lib.hid (HB.out.below hb4)
          have HF4 := Lib.hid (HF.out.keep hb4)
          clear hb4 HB HF x0 x1 x2 x3
          go_wp2_with fail
          refine (HRK.out _).mono ?_
          rintro e w5 ⟨rfl, hb5⟩
          have HB5 := Lib.hid (HB4.out.below hb5)
          have hf5 := HF4.out.keep hb5
          have hvl : k < (xs.map fun p => Value.bool p).length := by rw [List.length_map]; exact hkx
          obtain ⟨u, hu⟩ := hf5.cell HL.out hvl
          have hfz := hf5.frozenAt k
          have hput := hf5.put HL.out hvl
          rw [List.getElem_map] at hput
          have hbs := HB5.out.far (b := g) (i := k) (Value.bool xs[k]) (by have := HWZ.out; omega) (by have := HWW.out; omega)
          have HP := Lib.hid (And.intro hput hbs)
          clear hput hbs hf5 hb5 HB4 HF4 HB5
          generalize xs[k] = x at *
          go_wp2_with fail
          go_roundw
          case rel => exact ⟨k + 1, _, rfl, by omega, by omega, HP.out.1, HP.out.2⟩
          case measure => simp [intOf]; omega
        · obtain rfl : k = n := by omega
          have hk2 : k = (xs.map fun p => Value.bool p).length := by rw [List.length_map, HX.out]
          rw [hk2] at hfill
          have hdone := hfill.done (by rw [← hk2, List.length_replicate])
          rw [← hk2] at hdone
          have HD := Lib.hid (And.intro hdone hbx.all)
          have HK2 := Lib.hid (show k = xs.length by rw [HX.out])
          clear hfill hdone hbx hk2
          go_wp2_with fail
          go_ret2
          refine ⟨_, xs, by rw [HE.out]; rfl, ?_, HD.out.2, fun _ => rfl, fun h => absurd HE.out h⟩
          rw [← HK2.out]
          exact own_base HD.out.1 (by have := HWW.out; omega)
    · have HE := Lib.hid (ec_type HCK.out hk)
      have hk' : (t.kind != 9) = true := by simpa using hk
      clear hk hx hr
      go_wp2_with fail
      go_ret2
      exact ⟨_, [], by rw [HE.out]; rfl, World.ownsRow_nil _ _ _ _, H1.out.all, (fun h => by rw [HE.out] at h; cases h), fun _ => rfl⟩
  · have HE := Lib.hid (ec_bad (k := 9) hck)
    have HCK := Lib.hid hck
    have hck' : (ck t != 0) = true := by simpa using hck
    generalize ck t = q at *
    clear hck hx hr
    go_wp2_with fail
    go_ret2
    exact ⟨_, [], by rw [HE.out]; rfl, World.ownsRow_nil _ _ _ _, H1.out.all, fun h => absurd (HE.out.symm.trans h) HCK.out, fun _ => rfl⟩

theorem infoNum : (Try.prog.info? 50).map (fun i => (i.zero, i.size, i.bytes)) = some (some (Value.complex .f64 0 0), 1, 16) := by kernel_rfl
set_option maxRecDepth 100000 in
set_option maxHeartbeats 1000000 in
theorem elemsNum_any (t : Ten) (A : Option Addr) (c : Nat) (w : World) (ht : Tok w t A) (xs : List (Nat × Nat)) (hx : ck t = 0 → t.kind = 14 → xs.length = t.data.size / 8)
    (hr : ck t = 0 → t.kind = 14 → ∀ k (h : k < xs.length) (W : World), Calls Try.prog 42 #[.string (t.data.extract (k * 8) ((k + 1) * 8))] W fun e w' => e = .returned (Value.complex .f64 xs[k].1 xs[k].2) ∧ Below W.heap.size W w') :
    Calls Try.prog 41 #[tv t.name t.kind (.slice A t.dims.length c) t.data, .int .i64 14, .func (.func 42) #[] #[]] w fun e w' =>
      ∃ v ys, e = .returned (.tuple #[v, .int .i64 (ec 14 t)]) ∧ w'.ownsRow w.heap.size 50 1 v ys.length (ys.map fun p => Value.complex .f64 p.1 p.2) ∧ Below w.heap.size w w' ∧ (ec 14 t = 0 → ys = xs) ∧ (ec 14 t ≠ 0 → ys = []) := by
  have hd := ht.data
  have HT := Lib.hid ht
  have HBX := Lib.hid (Bx.start w #[.string t.name, .int .i64 t.kind, .slice A t.dims.length c, .string t.data] 25)
  clear ht
  have HCK := Lib.hid (tcheck_any t A c _ (HT.out.below HBX.out.all))
  go_enter Try.func41, Try.ntmps41
  go_wp2_with fail
  refine HCK.out.mono ?_
  rintro e w1 ⟨rfl, hb1⟩
  have H1 := Lib.hid (HBX.out.below hb1)
  clear hb1 HBX HCK
  obtain ⟨x0, x1, x2, x3⟩ := H1.out.four
  by_cases hck : ck t = 0
  · have HCK := Lib.hid hck
    rw [hck]
    clear hck
    by_cases hk : t.kind = 14
    · have HE := Lib.hid (ec_ok HCK.out hk)
      obtain ⟨n, hn, hdiv, hn6⟩ := count_of HCK.out hk (s := 8) (by decide) (by decide)
      have hxl := hx HCK.out hk
      have HR := Lib.hid (hr HCK.out hk)
      rw [hdiv] at hxl
      have HX := Lib.hid hxl
      have HN := Lib.hid hn
      have hdiv' : (t.data.size : Int) / 8 = (n : Int) := by omega
      have hk' : (t.kind != 14) = false := by simpa using hk
      clear hx hr hdiv hk hxl
      obtain ⟨i0, hi0, hz0, hz1, hz2⟩ := info_parts infoNum
      go_wp2_with fail
      refine (size_any 14 _ (by decide)).mono ?_
      rintro e w2 ⟨rfl, hb2⟩
      rw [show kSize 14 = 8 by decide]
      have H2 := Lib.hid (H1.out.below hb2)
      clear hb2 H1
      obtain ⟨x0, x1, x2, x3⟩ := H2.out.four
      go_wp2_with (at_make; refine wpList_make_full _ rfl _ _ 43 rfl w2.heap.size 50 i0 _ 1 Try.underlying43 hi0 hz0 hz1 .i64 .i64 _ _ n rfl rfl rfl rfl (by rw [hz2]; omega) (by unfold maxLen; omega) (Nat.le_refl _) ?_)
      intro w3 hown hg
      rw [made_cells] at hown
      have hb3 := (Below.refl w2.heap.size w2).grown hg (Nat.le_refl _) (fun q hq => by cases hq)
      have hf0 : Fill w3 w2.heap.size w2.heap.size 50 (xs.map fun p => Value.complex .f64 p.1 p.2) (List.replicate n (Value.complex .f64 0 0)) 0 := Fill.start (by rw [List.length_map, HX.out]; exact hown)
      have hz3 := hb3.size
      have HF0 := Lib.hid hf0
      have HBX3 := Lib.hid (H2.out.below hb3)
      have HL : Hid ((List.replicate n (Value.complex .f64 0 0)).length = (xs.map fun p => Value.complex .f64 p.1 p.2).length) := Lib.hid (by rw [List.length_replicate, List.length_map, HX.out])
      have HWZ := Lib.hid H2.out.2.1
      have HWW := Lib.hid H2.out.all.size
      clear hown hg hb3 hf0 hi0 hz0 hz1 hz2 x0 x1 x2 x3 H2
      generalize hgg : w2.heap.size = g at *
      have HGG := Lib.hid hgg
      clear hgg
      go_wp2_with fail
      go_loopw [11, 31] (fun _ i wr => ∃ (k : Nat) (K : Int), i = .int .i64 K ∧ K = (k : Nat) ∧ k ≤ n ∧ Fill wr g g 50 (xs.map fun p => Value.complex .f64 p.1 p.2) (List.replicate n (Value.complex .f64 0 0)) k ∧ Bx w w.heap.size #[.string t.name, .int .i64 t.kind, .slice A t.dims.length c, .string t.data] 25 wr) (fun _ i _ => n - (intOf i).toNat)
      case atStart => exact ⟨0, _, rfl, rfl, by omega, HF0.out, HBX3.out⟩
      case round =>
        obtain ⟨k, K, rfl, rfl, hk, hfill, hbx⟩ := hrel
        by_cases hlt : k < n
        · have hkn : (k + 1) * 8 ≤ t.data.size := by rw [HN.out]; exact Nat.mul_le_mul_right _ (by omega)
          have HC := Lib.hid (fun W => cut_any t.name t.kind A t.dims.length c t.data k 8 W (by unfold maxLen; omega) hkn (by omega))
          have hkx : k < xs.length := by rw [HX.out]; exact hlt
          have HRK := Lib.hid (HR.out k hkx)
          have HB := Lib.hid hbx
          have HF := Lib.hid hfill
          obtain ⟨x0, x1, x2, x3⟩ := HB.out.four
          generalize t.data.extract (k * 8) ((k + 1) * 8) = E at *
          clear hkn hbx hfill
          go_wp2_with fail
          refine (HC.out _).mono ?_
          rintro e w4 ⟨rfl, hb4⟩
          have HB4 := Lib.hid (HB.out.below hb4)
          have HF4 := Lib.hid (HF.out.keep hb4)
          clear hb4 HB HF x0 x1 x2 x3
          go_wp2_with fail
          refine (HRK.out _).mono ?_
          rintro e w5 ⟨rfl, hb5⟩
          have HB5 := Lib.hid (HB4.out.below hb5)
          have hf5 := HF4.out.keep hb5
          have hvl : k < (xs.map fun p => Value.complex .f64 p.1 p.2).length := by rw [List.length_map]; exact hkx
          obtain ⟨u, hu⟩ := hf5.cell HL.out hvl
          have hfz := hf5.frozenAt k
          have hput := hf5.put HL.out hvl
          rw [List.getElem_map] at hput
          have hbs := HB5.out.far (b := g) (i := k) (Value.complex .f64 xs[k].1 xs[k].2) (by have := HWZ.out; omega) (by have := HWW.out; omega)
          have HP := Lib.hid (And.intro hput hbs)
          clear hput hbs hf5 hb5 HB4 HF4 HB5
          generalize xs[k] = x at *
          have hst : (store (⟨g, k, none⟩ : Addr) (Value.complex .f64 x.1 x.2)).run Try.prog w5 = .ok () (w5.setCell ⟨g, k, none⟩ (Value.complex .f64 x.1 x.2)) := by rw [run_store _ _ _ _ _ rfl, hu]; simp [hfz]
          go_wp2_with fail
          go_roundw
          case rel => exact ⟨k + 1, _, rfl, by omega, by omega, HP.out.1, HP.out.2⟩
          case measure => simp [intOf]; omega
        · obtain rfl : k = n := by omega
          have hk2 : k = (xs.map fun p => Value.complex .f64 p.1 p.2).length := by rw [List.length_map, HX.out]
          rw [hk2] at hfill
          have hdone := hfill.done (by rw [← hk2, List.length_replicate])
          rw [← hk2] at hdone
          have HD := Lib.hid (And.intro hdone hbx.all)
          have HK2 := Lib.hid (show k = xs.length by rw [HX.out])
          clear hfill hdone hbx hk2
          go_wp2_with fail
          go_ret2
          refine ⟨_, xs, by rw [HE.out]; rfl, ?_, HD.out.2, fun _ => rfl, fun h => absurd HE.out h⟩
          rw [← HK2.out]
          exact own_base HD.out.1 (by have := HWW.out; omega)
    · have HE := Lib.hid (ec_type HCK.out hk)
      have hk' : (t.kind != 14) = true := by simpa using hk
      clear hk hx hr
      go_wp2_with fail
      go_ret2
      exact ⟨_, [], by rw [HE.out]; rfl, World.ownsRow_nil _ _ _ _, H1.out.all, (fun h => by rw [HE.out] at h; cases h), fun _ => rfl⟩
  · have HE := Lib.hid (ec_bad (k := 14) hck)
    have HCK := Lib.hid hck
    have hck' : (ck t != 0) = true := by simpa using hck
    generalize ck t = q at *
    clear hck hx hr
    go_wp2_with fail
    go_ret2
    exact ⟨_, [], by rw [HE.out]; rfl, World.ownsRow_nil _ _ _ _, H1.out.all, fun h => absurd (HE.out.symm.trans h) HCK.out, fun _ => rfl⟩
end Go.Proofs.Ytngjpgdgipmieaa
/- The walks that read an element's bytes: whole numbers, flags, complex numbers; the document's Int. -/
namespace Go.Proofs.Ytngjpgdgipmieaa
open Go.RowKit M6 M7

theorem sg_wrap (v : Nat) : wrap64 (v : Int) = sg v := rfl

set_option maxRecDepth 100000 in
theorem readInt_any (s : ByteArray) (w : World) (hs : s.size = 8) :
    Calls Try.prog 38 #[.string s] w fun e w' => e = .returned (.int .i64 (in8 s)) ∧ w = w' := by
  have hlt8 := pr8_lt s
  go_enter Try.func38, Try.ntmps38
  go_wp2_with fail
  go_loop [3, 4, 7] (fun v _ i => ∃ (k : Nat) (X K : Int), v = .int .u64 X ∧ i = .int .i64 K ∧ X = pr s k ∧ K = k ∧ k ≤ 8) (fun _ _ i => 8 - (intOf i).toNat)
  case atStart => exact ⟨0, _, _, rfl, rfl, rfl, rfl, by omega⟩
  case round =>
    obtain ⟨k, X, K, rfl, rfl, rfl, rfl, hk⟩ := hrel
    by_cases hlt : k < 8
    · have hks : k < s.size := by omega
      go_wp2_with fail
      go_round
      case rel => exact ⟨k + 1, _, _, rfl, rfl, pr_or8 hlt hks, by omega, by omega⟩
      case measure => simp [intOf]; omega
    · obtain rfl : k = 8 := by omega
      go_wp2_with fail
      go_ret
      exact ⟨rfl, rfl⟩

set_option maxRecDepth 100000 in
theorem rint_any (s : ByteArray) (w : World) (hs : s.size = 8) :
    Calls Try.prog 43 #[.string s] w fun e w' => e = .returned (.int .i64 (in8 s)) ∧ w = w' := by
  have HZ : Hid (hp s 0 = pr s 8) := Lib.hid (hp_zero s)
  have H8 := Lib.hid (hp_eight s)
  go_enter Try.func43, Try.ntmps43
  go_wp2_with fail
  go_loop [3, 4] (fun v i => ∃ (k : Nat) (X K : Int), v = .int .u64 X ∧ i = .int .i64 K ∧ X = hp s k ∧ K = (k : Int) - 1 ∧ k ≤ 8) (fun _ i => (intOf i + 1).toNat)
  case atStart => exact ⟨8, _, _, rfl, rfl, by rw [H8.out]; rfl, rfl, by omega⟩
  case round =>
    obtain ⟨k, X, K, rfl, rfl, rfl, rfl, hk⟩ := hrel
    by_cases hlt : 0 < k
    · obtain ⟨j, rfl⟩ : ∃ j, k = j + 1 := ⟨k - 1, by omega⟩
      have hks : j < s.size := by omega
      have hst := hp_step (s := s) (k := j) (by omega) hks
      have hl := hp_lt s j
      have hl2 := hp_lt s (j + 1)
      have e1 : ((j + 1 : Nat) : Int) - 1 = (j : Int) := by omega
      rw [e1]
      have HS := Lib.hid hst
      generalize hp s (j + 1) = u at *
      generalize hv : hp s j = v at *
      have HV := Lib.hid hv
      clear hv
      have hb := UInt8.toNat_lt s[j]
      go_wp2_with fail
      go_round
      case rel => exact ⟨j, _, _, rfl, rfl, by rw [HV.out]; have := HS.out; omega, by omega, by omega⟩
      case measure => simp [intOf]
    · obtain rfl : k = 0 := by omega
      rw [HZ.out]
      have hlt8 := pr8_lt s
      go_wp2_with fail
      go_ret
      exact ⟨rfl, rfl⟩

set_option maxRecDepth 100000 in
theorem readFlag_any (s : ByteArray) (w : World) :
    Calls Try.prog 40 #[.string s] w fun e w' => e = .returned (.bool (s.toList == [1])) ∧ w = w' := by
  go_enter Try.func40, Try.ntmps40
  go_wp2_with fail
  go_ret
  exact ⟨rfl, rfl⟩

set_option maxRecDepth 100000 in
theorem readNum_any (s : ByteArray) (w : World) (hs : s.size = 8) :
    Calls Try.prog 42 #[.string s] w fun e w' => ∃ n m c : Int, e = .returned (.complex .f64 (fz n) (fz m)) ∧ RdSpec s n m c ∧ Below w.heap.size w w' := by
  go_enter Try.func42, Try.ntmps42
  go_wp2_with fail
  refine (gread_any s _ (by unfold maxLen; omega)).mono ?_
  rintro e w1 ⟨n, m, c, rfl, hrd, hb1⟩
  have HR := Lib.hid hrd
  have HB := Lib.hid hb1
  clear hrd hb1
  generalize hx : fz n = x at *
  generalize hy : fz m = y at *
  have HX := Lib.hid (And.intro hx hy)
  clear hx hy
  go_wp2_with fail
  go_ret
  exact ⟨n, m, c, by rw [HX.out.1, HX.out.2]; rfl, HR.out, HB.out⟩
end Go.Proofs.Ytngjpgdgipmieaa
/- The walks of Ints, Flags, Nums, and of the document's Ints. -/
namespace Go.Proofs.Ytngjpgdgipmieaa
open Go.RowKit M6 M7

/-- a flag's list -/
def fls (d : ByteArray) : List Bool := (List.range d.size).map fun j => (d.extract (j * 1) ((j + 1) * 1)).toList == [1]
theorem fls_len (d : ByteArray) : (fls d).length = d.size := by simp [fls]
theorem fls_at {d : ByteArray} {j : Nat} (h : j < d.size) : (fls d)[j]'(by rw [fls_len]; exact h) = decide (d[j].toNat = 1) := by
  have e : (fls d)[j]'(by rw [fls_len]; exact h) = ((d.extract (j * 1) ((j + 1) * 1)).toList == [1]) := by simp [fls]
  rw [e, Nat.mul_one, Nat.mul_one, one_byte h]
  have hx := UInt8.toNat_lt d[j]
  generalize d[j] = x at *
  by_cases hx1 : x = 1
  · subst hx1; decide +kernel
  · have h1 : x.toNat ≠ 1 := fun h => hx1 (UInt8.toNat_inj.1 h)
    rw [decide_eq_false h1]
    exact l1 ▸ teq_no (fun h => hx1 (byte_is.1 h))
theorem ext_size {d : ByteArray} {n s k : Nat} (h : d.size = n * s) (hk : k < n) : (d.extract (k * s) ((k + 1) * s)).size = s := by
  rw [ByteArray.size_extract]
  have h2 : (k + 1) * s ≤ n * s := Nat.mul_le_mul_right _ (by omega)
  have h3 : (k + 1) * s = k * s + s := Nat.succ_mul k s
  omega
/-- the numbers of a right tensor -/
theorem nums_of (t : Ten) : ∃ ps : List (Int × Int), ck t = 0 → t.kind = 14 → ps.length = t.data.size / 8 ∧ ∀ k (h : k < ps.length), RdSpec (t.data.extract (k * 8) ((k + 1) * 8)) ps[k].1 ps[k].2 0 := by
  by_cases h : ck t = 0 ∧ t.kind = 14
  · obtain ⟨h1, h2⟩ := h
    obtain ⟨n, hn, hdiv, hn6⟩ := count_of h1 h2 (s := 8) (by decide) (by decide)
    obtain ⟨-, -, -, h4, h5⟩ := ck_zero h1
    rw [h2] at h4 h5
    have hk : ∀ i, i < n → ∃ p : Int × Int, RdSpec (t.data.extract (i * 8) ((i + 1) * 8)) p.1 p.2 0 := by
      intro i hi
      have hg := h5 i (by rw [show kSize 14 = 8 by decide] at h4; omega)
      rw [elk_gauss] at hg
      unfold gok at hg
      rw [Bool.and_eq_true, part_iff, part_iff] at hg
      obtain ⟨⟨a, ha, e1⟩, b, hb, e2⟩ := hg
      exact ⟨(a, b), .inr (.inr (.inl ⟨ext_size hn hi, rfl, ha, hb, e1, e2⟩))⟩
    obtain ⟨F, hF⟩ := Go.Deep.choose_lt hk
    refine ⟨(List.range n).map F, fun _ _ => ⟨by simp; omega, fun k hk => ?_⟩⟩
    have hkn : k < n := by simpa using hk
    simpa using hF k hkn
  · exact ⟨[], fun h1 h2 => absurd ⟨h1, h2⟩ h⟩

set_option maxRecDepth 100000 in
theorem tints_any (t : Ten) (A : Option Addr) (c : Nat) (w : World) (ht : Tok w t A) :
    Calls Try.prog 15 #[tv t.name t.kind (.slice A t.dims.length c) t.data] w fun e w' =>
      ∃ v ys, e = .returned (.tuple #[v, .int .i64 (ec 7 t)]) ∧ w'.ownsRow w.heap.size 2 1 v ys.length (iv ys) ∧ Below w.heap.size w w' ∧ (ec 7 t = 0 → ys = i8s t.data) ∧ (ec 7 t ≠ 0 → ys = []) := by
  have HBX := Lib.hid (Bx.start w #[.string t.name, .int .i64 t.kind, .slice A t.dims.length c, .string t.data] 25)
  have HC := Lib.hid (elemsInt_any t A c _ (ht.below HBX.out.all) (i8s t.data) (fun _ _ => i8s_len _) (fun h1 h2 k hk W => by
    obtain ⟨n, hn, hdiv, hn6⟩ := count_of h1 h2 (s := 8) (by decide) (by decide)
    rw [i8s_at]
    refine (readInt_any _ W (ext_size hn (by rw [i8s_len] at hk; omega))).mono ?_
    rintro e w1 ⟨rfl, rfl⟩
    exact ⟨rfl, Below.refl _ _⟩))
  clear ht
  go_enter Try.func15, Try.ntmps15
  go_wp2_with fail
  refine HC.out.mono ?_
  rintro e w1 ⟨v, ys, rfl, hown, hb1, h1, h2⟩
  have HR := Lib.hid (And.intro hown (And.intro h1 h2))
  have H1 := Lib.hid (HBX.out.below hb1)
  clear hown h1 h2 hb1 HC
  go_wp2_with fail
  go_ret2
  exact ⟨v, ys, rfl, own_base HR.out.1 (by simp), H1.out.all, HR.out.2.1, HR.out.2.2⟩

set_option maxRecDepth 100000 in
theorem tflags_any (t : Ten) (A : Option Addr) (c : Nat) (w : World) (ht : Tok w t A) :
    Calls Try.prog 16 #[tv t.name t.kind (.slice A t.dims.length c) t.data] w fun e w' =>
      ∃ v ys, e = .returned (.tuple #[v, .int .i64 (ec 9 t)]) ∧ w'.ownsRow w.heap.size 4 1 v ys.length (ys.map fun p => Value.bool p) ∧ Below w.heap.size w w' ∧ (ec 9 t = 0 → ys = fls t.data) ∧ (ec 9 t ≠ 0 → ys = []) := by
  have HBX := Lib.hid (Bx.start w #[.string t.name, .int .i64 t.kind, .slice A t.dims.length c, .string t.data] 25)
  have HC := Lib.hid (elemsFlag_any t A c _ (ht.below HBX.out.all) (fls t.data) (fun _ _ => by rw [fls_len, Nat.div_one]) (fun h1 h2 k hk W => by
    refine (readFlag_any _ W).mono ?_
    rintro e w1 ⟨rfl, rfl⟩
    exact ⟨by simp [fls], Below.refl _ _⟩))
  clear ht
  go_enter Try.func16, Try.ntmps16
  go_wp2_with fail
  refine HC.out.mono ?_
  rintro e w1 ⟨v, ys, rfl, hown, hb1, h1, h2⟩
  have HR := Lib.hid (And.intro hown (And.intro h1 h2))
  have H1 := Lib.hid (HBX.out.below hb1)
  clear hown h1 h2 hb1 HC
  go_wp2_with fail
  go_ret2
  exact ⟨v, ys, rfl, own_base HR.out.1 (by simp), H1.out.all, HR.out.2.1, HR.out.2.2⟩

set_option maxRecDepth 100000 in
theorem tnums_any (t : Ten) (A : Option Addr) (c : Nat) (w : World) (ht : Tok w t A) :
    Calls Try.prog 17 #[tv t.name t.kind (.slice A t.dims.length c) t.data] w fun e w' =>
      ∃ v, ∃ ps : List (Int × Int), e = .returned (.tuple #[v, .int .i64 (ec 14 t)]) ∧ w'.ownsRow w.heap.size 50 1 v ps.length (ps.map fun p => Value.complex .f64 (fz p.1) (fz p.2)) ∧ Below w.heap.size w w' ∧
        (ec 14 t = 0 → ps.length = t.data.size / 8 ∧ ∀ k (h : k < ps.length), RdSpec (t.data.extract (k * 8) ((k + 1) * 8)) ps[k].1 ps[k].2 0) ∧ (ec 14 t ≠ 0 → ps = []) := by
  have HBX := Lib.hid (Bx.start w #[.string t.name, .int .i64 t.kind, .slice A t.dims.length c, .string t.data] 25)
  obtain ⟨ps, hps⟩ := nums_of t
  have HC := Lib.hid (elemsNum_any t A c _ (ht.below HBX.out.all) (ps.map fun p => (fz p.1, fz p.2)) (fun h1 h2 => by rw [List.length_map]; exact (hps h1 h2).1) (fun h1 h2 k hk W => by
    obtain ⟨n, hn, hdiv, hn6⟩ := count_of h1 h2 (s := 8) (by decide) (by decide)
    obtain ⟨hl, hrd⟩ := hps h1 h2
    have hk' : k < ps.length := by simpa using hk
    refine (readNum_any _ W (ext_size hn (by omega))).mono ?_
    rintro e w1 ⟨a, b, cc, rfl, hsp, hb⟩
    obtain ⟨rfl, rfl, -, -, -⟩ := rdSpec_one hsp (hrd k hk')
    refine ⟨?_, hb⟩
    simp))
  have HP := Lib.hid hps
  clear ht hps
  go_enter Try.func17, Try.ntmps17
  go_wp2_with fail
  refine HC.out.mono ?_
  rintro e w1 ⟨v, ys, rfl, hown, hb1, h1, h2⟩
  have HR := Lib.hid (And.intro hown (And.intro h1 h2))
  have H1 := Lib.hid (HBX.out.below hb1)
  clear hown h1 h2 hb1 HC
  go_wp2_with fail
  go_ret2
  by_cases h0 : ec 14 t = 0
  · have hy := HR.out.2.1 h0
    have ho := HR.out.1
    rw [hy, List.length_map, List.map_map] at ho
    obtain ⟨z1, z2⟩ := ec_zero h0
    exact ⟨v, ps, rfl, own_base ho (by simp), H1.out.all, fun _ => HP.out z1 z2, fun h => absurd h0 h⟩
  · have hy := HR.out.2.2 h0
    have ho := HR.out.1
    rw [hy] at ho
    exact ⟨v, [], rfl, own_base ho (by simp), H1.out.all, fun h => absurd h h0, fun _ => rfl⟩

theorem i8s_take {d : ByteArray} {k : Nat} (h : k < d.size / 8) : (i8s d).take (k + 1) = (i8s d).take k ++ [in8 (d.extract (k * 8) ((k + 1) * 8))] := by
  rw [List.take_succ_eq_append_getElem (by rw [i8s_len]; exact h), i8s_at]

set_option maxRecDepth 100000 in
theorem rints_any (nme : ByteArray) (kd : Int) (A : Option Addr) (l c : Nat) (d : ByteArray) (w : World) (hd : d.size ≤ 140737488351232) :
    Calls Try.prog 19 #[tv nme kd (.slice A l c) d] w (IntsRes w.heap.size (i8s d) w) := by
  obtain ⟨i0, hi0, hz0, hz1, hz2⟩ := info_parts infoInt64
  have HBX := Lib.hid (Bx.start w #[.string nme, .int .i64 kd, .slice A l c, .string d] 28)
  go_enter Try.func19, Try.ntmps19
  go_wp2_with fail
  go_loopw [3, 4] (fun v i wr => ∃ (k : Nat) (K : Int), i = .int .i64 K ∧ K = ((8 * k : Nat) : Int) ∧ k ≤ d.size / 8 ∧ wr.ownsRow w.heap.size 2 1 v k (iv ((i8s d).take k)) ∧ Bx w w.heap.size #[.string nme, .int .i64 kd, .slice A l c, .string d] 28 wr) (fun _ i _ => (d.size : Nat) + 8 - (intOf i).toNat)
  case atStart => exact ⟨0, _, rfl, rfl, by omega, World.ownsRow_nil _ _ _ _, HBX.out⟩
  case round =>
    obtain ⟨k, K, rfl, rfl, hk, hown, hbx⟩ := hrel
    obtain ⟨V, vc, rfl, -, -⟩ := own_form hown
    obtain ⟨x0, x1, x2, x3⟩ := hbx.four
    have HB := Lib.hid hbx
    have HO := Lib.hid hown
    by_cases hlt : k < d.size / 8
    · have hle : 8 * k + 8 ≤ d.size := by omega
      have hle' : ((8 * k : Nat) : Int) + 8 ≤ (d.size : Int) := by omega
      have hsz : (d.extract (8 * k) (8 * k + 8)).size = 8 := by rw [ByteArray.size_extract]; omega
      have HR := Lib.hid (fun W => rint_any (d.extract (8 * k) (8 * k + 8)) W hsz)
      have hts := i8s_take hlt
      rw [show (k + 1) * 8 = 8 * k + 8 by omega, Nat.mul_comm k 8] at hts
      have HTS := Lib.hid hts
      have hkm : k ≤ 140737488351232 := by omega
      clear hts hsz hbx hown
      go_wp2_with fail
      refine (HR.out _).mono ?_
      rintro e w1 ⟨rfl, rfl⟩
      clear HR
      generalize d.extract (8 * k) (8 * k + 8) = E at *
      have hgz := HB.out.2.2.size
      go_wp2_with (at_builtin; refine wpList_append_own _ rfl _ _ 23 rfl w.heap.size 2 i0 _ 1 8 Try.underlying23 hi0 hz0 hz1 hz2 rfl (by decide) _ _ _ rfl (HO.out.alloc _) ⟨wr.heap.size, 0, none⟩ 1 1 [.int .i64 (in8 E)] rfl rfl (cells_new _ _ _) ?c2 ?c3 ?c4 ?c5 ?_)
      case c2 => intro u hu; simp at hu; subst hu; rfl
      case c3 => unfold maxLen; omega
      case c4 => omega
      case c5 => simp; omega
      intro v' w2 hown' hgrow _
      have hne : (Value.slice V k vc).ownBlock ≠ some w.heap.size := own_far HO.out HB.out.1 (by decide)
      have hbx := (HB.out.more (.cells #[.int .i64 (in8 E)] 2)).grown hgrow hne (fun q hq => (HO.out.lt q hq).1)
      have e1 : iv ((i8s d).take k) ++ [.int .i64 (in8 E)] = iv ((i8s d).take (k + 1)) := by rw [HTS.out, iv_append]; rfl
      rw [e1] at hown'
      have HX := Lib.hid (And.intro hown' hbx)
      clear hown' hbx hgrow hne e1 hi0 hz0 hz1 hz2
      go_wp2_with fail
      go_roundw
      case rel => exact ⟨k + 1, _, rfl, by omega, by omega, HX.out.1, HX.out.2⟩
      case measure => simp [intOf]; omega
    · obtain rfl : k = d.size / 8 := by omega
      have hle' : ¬ ((8 * (d.size / 8) : Nat) : Int) + 8 ≤ (d.size : Int) := by omega
      clear hbx hown
      go_wp2_with fail
      go_ret
      have ho := HO.out
      rw [List.take_of_length_le (by rw [i8s_len]; exact Nat.le_refl _)] at ho
      exact ⟨_, rfl, by rw [i8s_len]; exact ho, HB.out.all⟩
end Go.Proofs.Ytngjpgdgipmieaa
/- Four cells of a block, through whatever comes. No walk. -/
namespace Go.Proofs.Ytngjpgdgipmieaa
open Go.RowKit M6 M7

/-- what is older than a call is older than what comes behind it -/
theorem kept_lt {W w1 : World} (hb : Below W.heap.size W w1) : (∀ b, b < W.heap.size → b < w1.heap.size) ∧ (∀ b, b < W.heap.size → b < w1.heap.size + 1) ∧ (∀ b, b < W.heap.size → b < w1.heap.size + 1 + 1) ∧ (∀ b, b < W.heap.size → ¬ b = w1.heap.size) ∧ (∀ b, b < W.heap.size → ¬ w1.heap.size = b) ∧ (∀ b, b < W.heap.size → ¬ w1.heap.size + 1 = b) :=
  ⟨fun b h => Nat.lt_of_lt_of_le h hb.size, fun b h => Nat.lt_succ_of_lt (Nat.lt_of_lt_of_le h hb.size), fun b h => Nat.lt_succ_of_lt (Nat.lt_succ_of_lt (Nat.lt_of_lt_of_le h hb.size)), fun b h e => by have := hb.size; omega, fun b h e => by have := hb.size; omega, fun b h e => by have := hb.size; omega⟩
/-- four cells of a block that the call has made -/
def Fx (g : Nat) (a0 a1 a2 a3 : Value) (W : World) : Prop := (W.cell? ⟨g, 0, none⟩ = some a0 ∧ W.cell? ⟨g, 1, none⟩ = some a1 ∧ W.cell? ⟨g, 2, none⟩ = some a2 ∧ W.cell? ⟨g, 3, none⟩ = some a3) ∧ g < W.heap.size
theorem Fx.below {g : Nat} {a0 a1 a2 a3 : Value} {W W' : World} (h : Fx g a0 a1 a2 a3 W) (hb : Below W.heap.size W W') : Fx g a0 a1 a2 a3 W' := by
  obtain ⟨⟨h0, h1, h2, h3⟩, hg⟩ := h
  exact ⟨⟨(hb.cell (p := ⟨g, 0, none⟩) hg).trans h0, (hb.cell (p := ⟨g, 1, none⟩) hg).trans h1, (hb.cell (p := ⟨g, 2, none⟩) hg).trans h2, (hb.cell (p := ⟨g, 3, none⟩) hg).trans h3⟩, Nat.lt_of_lt_of_le hg hb.size⟩
theorem Fx.cells {g : Nat} {a0 a1 a2 a3 : Value} {W : World} (h : Fx g a0 a1 a2 a3 W) : W.cell? ⟨g, 0, none⟩ = some a0 ∧ W.cell? ⟨g, 1, none⟩ = some a1 ∧ W.cell? ⟨g, 2, none⟩ = some a2 ∧ W.cell? ⟨g, 3, none⟩ = some a3 := h.1
theorem Fx.more {g : Nat} {a0 a1 a2 a3 : Value} {W : World} (h : Fx g a0 a1 a2 a3 W) (o : Obj) : Fx g a0 a1 a2 a3 (W.alloc o) := h.below ((Below.refl _ _).alloc (Nat.le_refl _) _)
theorem Fx.drew {g : Nat} {a0 a1 a2 a3 : Value} {W : World} (h : Fx g a0 a1 a2 a3 W) : Fx g a0 a1 a2 a3 W.drew := h
theorem Fx.new {W : World} {g : Nat} {a0 a1 a2 a3 : Value} {T : TypeId} (hg : g = W.heap.size) : Fx g a0 a1 a2 a3 (W.alloc (.cells #[a0, a1, a2, a3] T)) := by
  subst hg
  exact ⟨cells_of4 (heap_alloc_new W _), by simp⟩
theorem Fx.far1 {g b i : Nat} {a0 a1 a2 a3 v : Value} {W : World} (h : Fx g a0 a1 a2 a3 W) (hne : ¬ b = g) : Fx g a0 a1 a2 a3 (W.setCell ⟨b, i, none⟩ v) := by
  obtain ⟨⟨h0, h1, h2, h3⟩, hg⟩ := h
  exact ⟨⟨(World.cell?_setCell_far _ _ _ _ hne).trans h0, (World.cell?_setCell_far _ _ _ _ hne).trans h1, (World.cell?_setCell_far _ _ _ _ hne).trans h2, (World.cell?_setCell_far _ _ _ _ hne).trans h3⟩, by simpa using hg⟩
theorem Fx.put {g : Nat} {v0 v1 v2 v3 : Value} {W : World} (h : Fx g (.string ⟨#[]⟩) (.int .i64 0) (.slice none 0 0) (.string ⟨#[]⟩) W) : Fx g v0 v1 v2 v3 ((((W.setCell ⟨g, 0, none⟩ v0).setCell ⟨g, 1, none⟩ v1).setCell ⟨g, 2, none⟩ v2).setCell ⟨g, 3, none⟩ v3) := by
  obtain ⟨⟨h0, h1, h2, h3⟩, hg⟩ := h
  refine ⟨⟨?_, ?_, ?_, ?_⟩, by simpa using hg⟩
  · rw [World.cell?_setCell_other _ _ _ _ (by simp), World.cell?_setCell_other _ _ _ _ (by simp), World.cell?_setCell_other _ _ _ _ (by simp)]
    exact World.cell?_setCell_same _ _ _ h0
  · rw [World.cell?_setCell_other _ _ _ _ (by simp), World.cell?_setCell_other _ _ _ _ (by simp)]
    exact World.cell?_setCell_same _ _ _ ((World.cell?_setCell_other _ _ _ _ (by simp)).trans h1)
  · rw [World.cell?_setCell_other _ _ _ _ (by simp)]
    exact World.cell?_setCell_same _ _ _ ((World.cell?_setCell_other _ _ _ _ (by simp)).trans ((World.cell?_setCell_other _ _ _ _ (by simp)).trans h2))
  · exact World.cell?_setCell_same _ _ _ ((World.cell?_setCell_other _ _ _ _ (by simp)).trans ((World.cell?_setCell_other _ _ _ _ (by simp)).trans ((World.cell?_setCell_other _ _ _ _ (by simp)).trans h3)))
/-- the cells of a tensor -/
abbrev Tx (g : Nat) (t : Ten) (A : Option Addr) (c : Nat) (W : World) : Prop := Fx g (.string t.name) (.int .i64 t.kind) (.slice A t.dims.length c) (.string t.data) W
/-- the four blocks of the law TensorTells, and what has come since -/
def AllT (w : World) (g7 g8 : Nat) (t u : Ten) (A B : Option Addr) (c d : Nat) (W : World) : Prop := Tx g7 t A c W ∧ Tx g8 u B d W ∧ Tx w.heap.size t A c W ∧ Tx (w.heap.size + 1) u B d W ∧ Below w.heap.size w W
theorem AllT.below {w W W' : World} {g7 g8 : Nat} {t u : Ten} {A B : Option Addr} {c d : Nat} (h : AllT w g7 g8 t u A B c d W) (hb : Below W.heap.size W W') : AllT w g7 g8 t u A B c d W' :=
  ⟨h.1.below hb, h.2.1.below hb, h.2.2.1.below hb, h.2.2.2.1.below hb, step_below h.2.2.2.2 hb⟩
theorem AllT.all {w W : World} {g7 g8 : Nat} {t u : Ten} {A B : Option Addr} {c d : Nat} (h : AllT w g7 g8 t u A B c d W) : Below w.heap.size w W := h.2.2.2.2
/-- .. and the three rows of elements -/
def AllS (w : World) (g7 g8 : Nat) (t u : Ten) (A B : Option Addr) (c d : Nat) (v1 v2 v3 : Value) (ys1 : List Int) (ys2 : List Bool) (ps : List (Int × Int)) (W : World) : Prop :=
  AllT w g7 g8 t u A B c d W ∧ W.ownsRow w.heap.size 2 1 v1 ys1.length (iv ys1) ∧ W.ownsRow w.heap.size 4 1 v2 ys2.length (ys2.map fun p => Value.bool p) ∧ W.ownsRow w.heap.size 50 1 v3 ps.length (ps.map fun p => Value.complex .f64 (fz p.1) (fz p.2))
theorem AllS.below {w W W' : World} {g7 g8 : Nat} {t u : Ten} {A B : Option Addr} {c d : Nat} {v1 v2 v3 : Value} {ys1 : List Int} {ys2 : List Bool} {ps : List (Int × Int)} (h : AllS w g7 g8 t u A B c d v1 v2 v3 ys1 ys2 ps W) (hb : Below W.heap.size W W') : AllS w g7 g8 t u A B c d v1 v2 v3 ys1 ys2 ps W' :=
  ⟨h.1.below hb, own_keep h.2.1 hb, own_keep h.2.2.1 hb, own_keep h.2.2.2 hb⟩
theorem AllS.all {w W : World} {g7 g8 : Nat} {t u : Ten} {A B : Option Addr} {c d : Nat} {v1 v2 v3 : Value} {ys1 : List Int} {ys2 : List Bool} {ps : List (Int × Int)} (h : AllS w g7 g8 t u A B c d v1 v2 v3 ys1 ys2 ps W) : Below w.heap.size w W := h.1.all
theorem AllS.more {w W : World} {g7 g8 : Nat} {t u : Ten} {A B : Option Addr} {c d : Nat} {v1 v2 v3 : Value} {ys1 : List Int} {ys2 : List Bool} {ps : List (Int × Int)} (h : AllS w g7 g8 t u A B c d v1 v2 v3 ys1 ys2 ps W) (o : Obj) : AllS w g7 g8 t u A B c d v1 v2 v3 ys1 ys2 ps (W.alloc o) := h.below ((Below.refl _ _).alloc (Nat.le_refl _) _)
end Go.Proofs.Ytngjpgdgipmieaa
/- The walk of the law TensorTells. -/
namespace Go.Proofs.Ytngjpgdgipmieaa
open Go.RowKit M6 M7 Go.Sort

abbrev tcs (t : Ten) (A : Option Addr) (c : Nat) : Array Value := #[.string t.name, .int .i64 t.kind, .slice A t.dims.length c, .string t.data]

set_option maxRecDepth 100000 in
set_option maxHeartbeats 40000000 in
theorem tells_walk (t u : Ten) (A B : Option Addr) (c d : Nat) (i : Int) (w : World) (ht : Tok w t A) (hu : Tok w u B) (hi : I64 i) :
    Calls Try.prog 3 #[tv t.name t.kind (.slice A t.dims.length c) t.data, tv u.name u.kind (.slice B u.dims.length d) u.data, .int .i64 i] w fun e w' => e = .returned (.bool true) ∧ Below w.heap.size w w' := by
  have HBT := Lib.hid ((Bx.start w (tcs t A c) 25).more (.cells (tcs u B d) 25))
  have HBU := Lib.hid (Bx.two w (.cells (tcs t A c) 25) (tcs u B d) 25)
  have HT := Lib.hid ht
  have HU := Lib.hid hu
  have hz1 := ht.data
  have hz2 := hu.data
  have hz3 := ht.name
  have hz4 := ht.len
  have hz5 := hu.len
  unfold maxLen at hz4 hz5
  clear ht hu
  have hcs : (4000 < (t.data.size : Int)) ∨ (¬ 4000 < (t.data.size : Int) ∧ 4000 < (u.data.size : Int)) ∨ (¬ 4000 < (t.data.size : Int) ∧ ¬ 4000 < (u.data.size : Int) ∧ 20 < (t.dims.length : Int)) ∨
      (¬ 4000 < (t.data.size : Int) ∧ ¬ 4000 < (u.data.size : Int) ∧ ¬ 20 < (t.dims.length : Int) ∧ 20 < (u.dims.length : Int)) ∨ (¬ 4000 < (t.data.size : Int) ∧ ¬ 4000 < (u.data.size : Int) ∧ ¬ 20 < (t.dims.length : Int) ∧ ¬ 20 < (u.dims.length : Int) ∧ 200 < (t.name.size : Int)) ∨
      (¬ 4000 < (t.data.size : Int) ∧ ¬ 4000 < (u.data.size : Int) ∧ ¬ 20 < (t.dims.length : Int) ∧ ¬ 20 < (u.dims.length : Int) ∧ ¬ 200 < (t.name.size : Int)) := by omega
  rcases hcs with g1 | ⟨g1, g2⟩ | ⟨g1, g2, g3⟩ | ⟨g1, g2, g3, g4⟩ | ⟨g1, g2, g3, g4, g5⟩ | ⟨g1, g2, g3, g4, g5⟩
  rotate_left 5
  · go_enter Try.func3, Try.ntmps3
    go_upto_region 3 with fail
    go_cut [7, 8] from 56 to 60 (fun s7 s8 wx => ∃ g7 g8, s7 = .pointer (some ⟨g7, 0, none⟩) ∧ s8 = .pointer (some ⟨g8, 0, none⟩) ∧ Tx g7 t A c wx ∧ Tx g8 u B d wx ∧ Tx w.heap.size t A c wx ∧ Tx (w.heap.size + 1) u B d wx ∧ Below w.heap.size w wx)
    case first =>
      rename_i Q0 Kr haK J Kp hJ hM
      clear haK
      have HO1 := Lib.hid (fun W => law7of_any t.name t.kind A t.dims.length c t.data W)
      have HO2 := Lib.hid (fun W => law7of_any u.name u.kind B u.dims.length d u.data W)
      obtain ⟨x0, x1, x2, x3⟩ := HBT.out.four
      obtain ⟨y0, y1, y2, y3⟩ := HBU.out.four
      have HX0 := Lib.hid (show Tx w.heap.size t A c _ from ⟨HBT.out.four, HBT.out.2.1⟩)
      have HY0 := Lib.hid (show Tx (w.heap.size + 1) u B d _ from ⟨HBU.out.four, HBU.out.2.1⟩)
      have hdz : ∀ W : World, W.drew.heap.size = W.heap.size := fun _ => rfl
      have hdc : ∀ (W : World) (a : Addr), W.drew.cell? a = W.cell? a := fun _ _ => rfl
      have hdf : ∀ (W : World) (a : Addr), W.drew.frozen? a = W.frozen? a := fun _ _ => rfl
      have HZ2 := HBU.out.2.1
      have HZ1 := HBT.out.2.1
      have HB2 := Lib.hid HBU.out.all
      clear HT HU hi hz1 hz2 hz3 hz4 hz5 g1 g2 g3 g4 g5 HBT HBU
      generalize hw2 : (w.alloc (Obj.cells (tcs t A c) 25)).alloc (Obj.cells (tcs u B d) 25) = w2 at *
      clear hw2
      go_region_held (fun W => (W.cell? ⟨w.heap.size, 0, none⟩ = some (.string t.name) ∧ W.cell? ⟨w.heap.size, 1, none⟩ = some (.int .i64 t.kind) ∧ W.cell? ⟨w.heap.size, 2, none⟩ = some (.slice A t.dims.length c) ∧ W.cell? ⟨w.heap.size, 3, none⟩ = some (.string t.data)) ∧ (W.cell? ⟨w.heap.size + 1, 0, none⟩ = some (.string u.name) ∧ W.cell? ⟨w.heap.size + 1, 1, none⟩ = some (.int .i64 u.kind) ∧ W.cell? ⟨w.heap.size + 1, 2, none⟩ = some (.slice B u.dims.length d) ∧ W.cell? ⟨w.heap.size + 1, 3, none⟩ = some (.string u.data)))
        ((refine ⟨Fx.cells (?_ : Tx w.heap.size t A c _), Fx.cells (?_ : Tx (w.heap.size + 1) u B d _)⟩ <;> (repeat first | with_reducible exact HX0.out | with_reducible exact HY0.out | ((with_reducible refine Fx.new ?hng); case hng => first | rfl | (simp; done)) | with_reducible refine Fx.put ?_ | ((with_reducible refine Fx.far1 ?_ ?hne); case hne => first | omega | (simp; omega)) | with_reducible refine Fx.more ?_ _ | with_reducible refine Fx.drew ?_ | with_reducible refine Fx.below ?_ hb4 | with_reducible refine Fx.below ?_ hb3)))
        (first
          | (go_at_call 6; (with_reducible refine (HO1.out _).mono ?_); rintro e w3 ⟨rfl, hb3⟩; obtain ⟨hkc3, hkf3⟩ := kept_cells hb3; obtain ⟨hl3a, hl3b, hl3c, hl3d, hl3e, hl3f⟩ := kept_lt hb3; have s3 := hb3.size; (try simp [hdz] at s3))
          | (go_at_call 6; (with_reducible refine (HO2.out _).mono ?_); rintro e w4 ⟨rfl, hb4⟩; obtain ⟨hkc4, hkf4⟩ := kept_cells hb4; obtain ⟨hl4a, hl4b, hl4c, hl4d, hl4e, hl4f⟩ := kept_lt hb4; have s4 := hb4.size; (try simp [hdz] at s4); have hb34 : Below _ _ w4 := (by first | exact hb3.trans (hb4.mono hb3.size) | exact (hb3.alloc hb3.size _).trans (hb4.mono (by simp; omega)) | exact ((hb3.alloc hb3.size _).alloc (by simp; omega) _).trans (hb4.mono (by simp; omega))); obtain ⟨hkc34, hkf34⟩ := kept_cells hb34; obtain ⟨hl34a, hl34b, hl34c, hl34d, hl34e, hl34f⟩ := kept_lt hb34))
      all_goals
        clear hkc3 hkf3 hkc4 hkf4 hkc34 hkf34 hl3a hl3b hl3c hl3d hl3e hl3f hl4a hl4b hl4c hl4d hl4e hl4f hl34a hl34b hl34c hl34d hl34e hl34f hdc hdf x0 x1 x2 x3 y0 y1 y2 y3
        go_wp2_with fail
        go_meet
        refine ⟨_, _, rfl, rfl, ?_, ?_, ?_, ?_, ?_⟩
        · (repeat first | with_reducible exact HX0.out | with_reducible exact HY0.out | ((with_reducible refine Fx.new ?hng); case hng => first | rfl | (simp; done)) | with_reducible refine Fx.put ?_ | ((with_reducible refine Fx.far1 ?_ ?hne); case hne => first | omega | (simp; omega)) | with_reducible refine Fx.more ?_ _ | with_reducible refine Fx.drew ?_ | with_reducible refine Fx.below ?_ hb4 | with_reducible refine Fx.below ?_ hb3)
        · (repeat first | with_reducible exact HX0.out | with_reducible exact HY0.out | ((with_reducible refine Fx.new ?hng); case hng => first | rfl | (simp; done)) | with_reducible refine Fx.put ?_ | ((with_reducible refine Fx.far1 ?_ ?hne); case hne => first | omega | (simp; omega)) | with_reducible refine Fx.more ?_ _ | with_reducible refine Fx.drew ?_ | with_reducible refine Fx.below ?_ hb4 | with_reducible refine Fx.below ?_ hb3)
        · (repeat first | with_reducible exact HX0.out | with_reducible exact HY0.out | ((with_reducible refine Fx.new ?hng); case hng => first | rfl | (simp; done)) | with_reducible refine Fx.put ?_ | ((with_reducible refine Fx.far1 ?_ ?hne); case hne => first | omega | (simp; omega)) | with_reducible refine Fx.more ?_ _ | with_reducible refine Fx.drew ?_ | with_reducible refine Fx.below ?_ hb4 | with_reducible refine Fx.below ?_ hb3)
        · (repeat first | with_reducible exact HX0.out | with_reducible exact HY0.out | ((with_reducible refine Fx.new ?hng); case hng => first | rfl | (simp; done)) | with_reducible refine Fx.put ?_ | ((with_reducible refine Fx.far1 ?_ ?hne); case hne => first | omega | (simp; omega)) | with_reducible refine Fx.more ?_ _ | with_reducible refine Fx.drew ?_ | with_reducible refine Fx.below ?_ hb4 | with_reducible refine Fx.below ?_ hb3)
        · repeat first
            | with_reducible exact HB2.out
            | (with_reducible refine Below.setCell (p := ⟨_, _, none⟩) ?_ ?_ _)
            | (with_reducible refine Below.alloc ?_ ?_ _)
            | (with_reducible refine Below.drew ?_)
            | (with_reducible refine Below.trans ?_ (hb4.mono ?_))
            | (with_reducible refine Below.trans ?_ (hb3.mono ?_))
          all_goals (first | omega | (simp [hdz]; omega))
    case rest =>
      obtain ⟨g7, g8, rfl, rfl, hx7, hx8, hxt, hxu, hbw⟩ := hcut
      have HA0 : Hid (AllT w g7 g8 t u A B c d wc) := Lib.hid ⟨hx7, hx8, hxt, hxu, hbw⟩
      clear hx7 hx8 hxt hxu hbw HBT HBU
      obtain ⟨⟨⟨a0, a1, a2, a3⟩, hg7⟩, ⟨⟨b0, b1, b2, b3⟩, hg8⟩, ⟨⟨p0, p1, p2, p3⟩, hg3⟩, ⟨⟨q0, q1, q2, q3⟩, hg4⟩, -⟩ := HA0.out
      go_wp2_with fail
      refine (rcheck_any t A c _ (HT.out.below HA0.out.all)).mono ?_
      rintro e w1 ⟨rfl, hb1⟩
      have HA1 := Lib.hid (HA0.out.below hb1)
      clear hb1 HA0 a0 a1 a2 a3 hg7 b0 b1 b2 b3 hg8 p0 p1 p2 p3 hg3 q0 q1 q2 q3 hg4
      obtain ⟨⟨⟨a0, a1, a2, a3⟩, hg7⟩, ⟨⟨b0, b1, b2, b3⟩, hg8⟩, ⟨⟨p0, p1, p2, p3⟩, hg3⟩, ⟨⟨q0, q1, q2, q3⟩, hg4⟩, -⟩ := HA1.out
      have HC1 := Lib.hid (fun (W : World) (h : Below w1.heap.size w1 W) => tcheck_any t A c W (HT.out.below (step_below HA1.out.all h)))
      have HC2 := Lib.hid (fun (W : World) (h : Below w1.heap.size w1 W) => same_any t u A B c d W (HT.out.below (step_below HA1.out.all h)) (HU.out.below (step_below HA1.out.all h)))
      have HC3 := Lib.hid (fun (W : World) (h : Below w1.heap.size w1 W) => rsame_any t u A B c d W (HT.out.below (step_below HA1.out.all h)) (HU.out.below (step_below HA1.out.all h)) (by omega))
      have HC4 := Lib.hid (fun (W : World) => (name_any t.name W (by unfold maxLen; omega)).mono (R' := fun e w' => e = .returned (.bool (nm t.name)) ∧ Below W.heap.size W w') (by rintro e w2 ⟨rfl, rfl⟩; exact ⟨rfl, Below.refl _ _⟩))
      have HC5 := Lib.hid (fun (W : World) => (rname_any t.name W (by unfold maxLen; omega)).mono (R' := fun e w' => e = .returned (.bool (nm t.name)) ∧ Below W.heap.size W w') (by rintro e w2 ⟨rfl, rfl⟩; exact ⟨rfl, Below.refl _ _⟩))
      have k0 := fun d os => cell_regrown a0 d os
      have k1 := fun d os => cell_regrown a1 d os
      have k2 := fun d os => cell_regrown a2 d os
      have k3 := fun d os => cell_regrown a3 d os
      have l0 := fun d os => cell_regrown b0 d os
      have l1 := fun d os => cell_regrown b1 d os
      have l2 := fun d os => cell_regrown b2 d os
      have l3 := fun d os => cell_regrown b3 d os
      have m0 := fun d os => cell_regrown p0 d os
      have m1 := fun d os => cell_regrown p1 d os
      have m2 := fun d os => cell_regrown p2 d os
      have m3 := fun d os => cell_regrown p3 d os
      have n0 := fun d os => cell_regrown q0 d os
      have n1 := fun d os => cell_regrown q1 d os
      have n2 := fun d os => cell_regrown q2 d os
      have n3 := fun d os => cell_regrown q3 d os
      clear a0 a1 a2 a3 hg7 b0 b1 b2 b3 hg8 p0 p1 p2 p3 hg3 q0 q1 q2 q3 hg4
      generalize hck : ck t = K at *
      generalize hss : sameT t u = S at *
      generalize hnm : nm t.name = N at *
      have HCK := Lib.hid hck
      clear hck hss hnm
      go_upto_region 5 with fail
      refine wp_region_quiet_below (by kernel_rfl) (by kernel_rfl) ?_
      repeat (go_big_quiet_step ((first
        | (go_at_call 8; exact Calls.regrown_of (HC1.out _ (below_regrown _ _ _)))
        | (go_at_call 9; exact Calls.regrown_of (HC2.out _ (below_regrown _ _ _)))
        | (go_at_call 10; exact Calls.regrown_of (HC3.out _ (below_regrown _ _ _)))
        | (go_at_call 11; exact Calls.regrown_of (HC4.out _))
        | (go_at_call 12; exact Calls.regrown_of (HC5.out _)))))
      refine wpQuiet_nil ?_
      rintro w2 ⟨p, rfl⟩
      have HA2 := Lib.hid (HA1.out.below (below_regrown w1 p.d p.os))
      clear k0 k1 k2 k3 l0 l1 l2 l3 m0 m1 m2 m3 n0 n1 n2 n3 HC1 HC2 HC3 HC4 HC5 HA1
      generalize grow (redrawn w1 p.d) p.os = w2 at HA2 ⊢
      obtain ⟨⟨⟨a0, a1, a2, a3⟩, hg7⟩, ⟨⟨b0, b1, b2, b3⟩, hg8⟩, ⟨⟨p0, p1, p2, p3⟩, hg3⟩, ⟨⟨q0, q1, q2, q3⟩, hg4⟩, -⟩ := HA2.out
      obtain ⟨s, hs, hs8⟩ := size_nat t.kind
      have HS := Lib.hid hs
      unfold I64 at hi
      clear hs
      go_wp2_with fail
      refine (refSize_any t.kind _).mono ?_
      rintro e w3 ⟨rfl, rfl⟩
      rw [HS.out]
      go_upto_region 9 with fail
      have hb4 : (∃ b : Bool, b = false ∧ el t.kind t.data i = ⟨#[]⟩ ∧ (decide ((0 : Int) < (s : Int)) = false ∨ (decide ((0 : Int) < (s : Int)) = true ∧ decide (0 ≤ i) = false) ∨ (decide ((0 : Int) < (s : Int)) = true ∧ decide (0 ≤ i) = true ∧ decide (i < (t.data.size : Int) / (s : Int)) = false))) ∨
          (∃ b : Bool, b = true ∧ decide ((0 : Int) < (s : Int)) = true ∧ decide (0 ≤ i) = true ∧ decide (i < (t.data.size : Int) / (s : Int)) = true) := by
        simp only [decide_eq_true_eq, decide_eq_false_iff_not]
        by_cases h0 : s = 0
        · exact .inl ⟨false, rfl, el_none (.inl (by rw [HS.out, h0]; rfl)), .inl (by omega)⟩
        · by_cases h1 : i < 0
          · exact .inl ⟨false, rfl, el_none (.inr (.inl h1)), .inr (.inl ⟨by omega, by omega⟩)⟩
          · by_cases h2 : (t.data.size : Int) / (s : Int) ≤ i
            · exact .inl ⟨false, rfl, el_none (.inr (.inr (by rw [HS.out]; exact h2))), .inr (.inr ⟨by omega, by omega, by omega⟩)⟩
            · exact .inr ⟨true, rfl, by omega, by omega, by omega⟩
      have HB4 := Lib.hid hb4
      clear hb4
      go_cut [101] from 87 to 102 (fun s101 wx => ∃ b : Bool, s101 = .bool b ∧ AllT w g7 g8 t u A B c d wx ∧ ((b = false ∧ el t.kind t.data i = ⟨#[]⟩) ∨ (b = true ∧ decide ((0 : Int) < (s : Int)) = true ∧ decide (0 ≤ i) = true ∧ decide (i < (t.data.size : Int) / (s : Int)) = true)))
      case first =>
        have hdv := div_small (n := t.data.size) (s := s)
        rcases HB4.out with ⟨b, rfl, he, h | ⟨h1, h2⟩ | ⟨h1, h2, h3⟩⟩ | ⟨b, rfl, h1, h2, h3⟩
        · have HE := Lib.hid he
          have hn : decide (0 < s) = false := by simp only [decide_eq_false_iff_not] at h ⊢; omega
          clear he
          go_wp2_with fail
          go_meet
          exact ⟨false, rfl, HA2.out, .inl ⟨rfl, HE.out⟩⟩
        · have HE := Lib.hid he
          have hn : decide (0 < s) = true := by simp only [decide_eq_true_eq] at h1 ⊢; omega
          clear he
          go_wp2_with fail
          go_meet
          exact ⟨false, rfl, HA2.out, .inl ⟨rfl, HE.out⟩⟩
        · have HE := Lib.hid he
          have hs1 : ¬ (s : Int) = 0 := by simp only [decide_eq_true_eq] at h1; omega
          have hn : decide (0 < s) = true := by simp only [decide_eq_true_eq] at h1 ⊢; omega
          have H3 := Lib.hid h3
          clear he h3
          go_wp2_with fail
          go_meet
          exact ⟨_, rfl, HA2.out, .inl ⟨H3.out, HE.out⟩⟩
        · have hs1 : ¬ (s : Int) = 0 := by simp only [decide_eq_true_eq] at h1; omega
          have hn : decide (0 < s) = true := by simp only [decide_eq_true_eq] at h1 ⊢; omega
          have H3 := Lib.hid h3
          have H12 := Lib.hid (And.intro h1 h2)
          clear h3
          go_wp2_with fail
          go_meet
          exact ⟨_, rfl, HA2.out, .inr ⟨H3.out, H12.out.1, H12.out.2, H3.out⟩⟩
      case rest =>
        obtain ⟨b, rfl, hal, hbb⟩ := hcut
        have HBB := Lib.hid hbb
        have HA3 := Lib.hid hal
        clear hbb hal HB4 a0 a1 a2 a3 hg7 b0 b1 b2 b3 hg8 p0 p1 p2 p3 hg3 q0 q1 q2 q3 hg4 HA2
        obtain ⟨⟨⟨a0, a1, a2, a3⟩, hg7⟩, ⟨⟨b0, b1, b2, b3⟩, hg8⟩, ⟨⟨p0, p1, p2, p3⟩, hg3⟩, ⟨⟨q0, q1, q2, q3⟩, hg4⟩, -⟩ := HA3.out
        go_upto_if 101 with fail
        go_cut [11] from 102 to 113 (fun s11 wx => s11 = .string (el t.kind t.data i) ∧ AllT w g7 g8 t u A B c d wx)
        case first =>
          rcases HBB.out with ⟨rfl, he⟩ | ⟨rfl, h1, h2, h3⟩
          · have HE := Lib.hid he
            clear he
            go_wp2_with fail
            go_meet
            exact ⟨by rw [HE.out], HA3.out⟩
          · simp only [decide_eq_true_eq] at h1 h2 h3
            obtain ⟨j, rfl⟩ := Int.eq_ofNat_of_zero_le h2
            obtain ⟨k0, k1, k2, k3, k4⟩ := cut_prod (el_fits (by omega) h3)
            have hst : (kSize t.kind).toNat = s := by rw [HS.out]; omega
            have he := el_some (k := t.kind) (d := t.data) (i := (j : Int)) (by rw [HS.out]; omega)
            rw [hst, show ((j : Int)).toNat = j by omega] at he
            have hjk : (j : Int) * (s : Int) + (s : Int) = ((j : Int) + 1) * (s : Int) := by rw [Int.add_mul, Int.one_mul]
            have HE := Lib.hid he
            clear he hst
            go_wp2_with fail
            go_meet
            refine ⟨?_, HA3.out⟩
            rw [HE.out]
        case rest =>
          obtain ⟨rfl, hal⟩ := hcut
          have HA4 := Lib.hid hal
          clear hal HA3 HBB a0 a1 a2 a3 hg7 b0 b1 b2 b3 hg8 p0 p1 p2 p3 hg3 q0 q1 q2 q3 hg4
          obtain ⟨⟨⟨a0, a1, a2, a3⟩, hg7⟩, ⟨⟨b0, b1, b2, b3⟩, hg8⟩, ⟨⟨p0, p1, p2, p3⟩, hg3⟩, ⟨⟨q0, q1, q2, q3⟩, hg4⟩, -⟩ := HA4.out
          go_wp2_with fail
          refine (elem_any t A c i _ (HT.out.below HA4.out.all) hi).mono ?_
          rintro e w5 ⟨rfl, hb5⟩
          have HA5 := Lib.hid (HA4.out.below hb5)
          clear hb5 HA4 a0 a1 a2 a3 hg7 b0 b1 b2 b3 hg8 p0 p1 p2 p3 hg3 q0 q1 q2 q3 hg4
          obtain ⟨⟨⟨a0, a1, a2, a3⟩, hg7⟩, ⟨⟨b0, b1, b2, b3⟩, hg8⟩, ⟨⟨p0, p1, p2, p3⟩, hg3⟩, ⟨⟨q0, q1, q2, q3⟩, hg4⟩, -⟩ := HA5.out
          generalize el t.kind t.data i = E at *
          go_wp2_with fail
          refine (tints_any t A c _ (HT.out.below HA5.out.all)).mono ?_
          rintro e w6 ⟨v1, ys1, rfl, hown1, hb6, hi1, hi2⟩
          have HA6 := Lib.hid (HA5.out.below hb6)
          have HO1 := Lib.hid (And.intro (own_base hown1 HA5.out.all.size) (And.intro hi1 hi2))
          obtain ⟨A1, c1, rfl, -, -⟩ := own_form hown1
          clear hown1 hi1 hi2 hb6 HA5 a0 a1 a2 a3 hg7 b0 b1 b2 b3 hg8 p0 p1 p2 p3 hg3 q0 q1 q2 q3 hg4
          obtain ⟨⟨⟨a0, a1, a2, a3⟩, hg7⟩, ⟨⟨b0, b1, b2, b3⟩, hg8⟩, ⟨⟨p0, p1, p2, p3⟩, hg3⟩, ⟨⟨q0, q1, q2, q3⟩, hg4⟩, -⟩ := HA6.out
          go_wp2_with fail
          refine (tflags_any t A c _ (HT.out.below HA6.out.all)).mono ?_
          rintro e w7 ⟨v2, ys2, rfl, hown2, hb7, hi1, hi2⟩
          have HA7 := Lib.hid (HA6.out.below hb7)
          have HO2 := Lib.hid (And.intro (own_base hown2 HA6.out.all.size) (And.intro hi1 hi2))
          have HO1b := Lib.hid (own_keep HO1.out.1 hb7)
          obtain ⟨A2, c2, rfl, -, -⟩ := own_form hown2
          clear hown2 hi1 hi2 hb7 HA6 a0 a1 a2 a3 hg7 b0 b1 b2 b3 hg8 p0 p1 p2 p3 hg3 q0 q1 q2 q3 hg4
          obtain ⟨⟨⟨a0, a1, a2, a3⟩, hg7⟩, ⟨⟨b0, b1, b2, b3⟩, hg8⟩, ⟨⟨p0, p1, p2, p3⟩, hg3⟩, ⟨⟨q0, q1, q2, q3⟩, hg4⟩, -⟩ := HA7.out
          go_wp2_with fail
          refine (tnums_any t A c _ (HT.out.below HA7.out.all)).mono ?_
          rintro e w8 ⟨v3, ps, rfl, hown3, hb8, hi1, hi2⟩
          obtain ⟨A3, c3, rfl, -, -⟩ := own_form hown3
          have HS8 : Hid (AllS w g7 g8 t u A B c d (.slice A1 ys1.length c1) (.slice A2 ys2.length c2) (.slice A3 ps.length c3) ys1 ys2 ps w8) := Lib.hid ⟨HA7.out.below hb8, own_keep HO1b.out hb8, own_keep HO2.out.1 hb8, own_base hown3 HA7.out.all.size⟩
          have HF1 := Lib.hid HO1.out.2
          have HF2 := Lib.hid HO2.out.2
          have HF3 := Lib.hid (And.intro hi1 hi2)
          clear hown3 hi1 hi2 hb8 HA7 HO1 HO1b HO2 a0 a1 a2 a3 hg7 b0 b1 b2 b3 hg8 p0 p1 p2 p3 hg3 q0 q1 q2 q3 hg4
          go_wp2_with fail
          have HEC : Hid ((K ≠ 0 ∧ ec 7 t = K ∧ ec 9 t = K ∧ ec 14 t = K) ∨ (K = 0 ∧ ec 7 t = (if t.kind = 7 then 0 else 13) ∧ ec 9 t = (if t.kind = 9 then 0 else 13) ∧ ec 14 t = (if t.kind = 14 then 0 else 13))) := Lib.hid (by
            have h := HCK.out
            unfold ec
            by_cases h0 : K = 0
            · refine .inr ⟨h0, ?_, ?_, ?_⟩ <;> rw [h, if_neg (by omega)]
            · refine .inl ⟨h0, ?_, ?_, ?_⟩ <;> rw [h, if_pos (by omega)])
          generalize ec 7 t = e1 at *
          generalize ec 9 t = e2 at *
          generalize ec 14 t = e3 at *
          have HBC : Hid (Bx w w8.heap.size #[.int .i64 e1, .int .i64 e2, .int .i64 e3] 31 (w8.alloc (.cells #[.int .i64 e1, .int .i64 e2, .int .i64 e3] 31))) := Lib.hid ⟨heap_alloc_new w8 _, by simp, HS8.out.all.alloc HS8.out.all.size _⟩
          have HS9 := Lib.hid (HS8.out.more (.cells #[.int .i64 e1, .int .i64 e2, .int .i64 e3] 31))
          clear HS8
          generalize hgc : w8.heap.size = gc at *
          go_loopw [18, 19, 20, 138] (fun _ _ _ i wr => ∃ (j : Nat) (J : Int), i = .int .i64 J ∧ J = (j : Nat) ∧ j ≤ 3 ∧ AllS w g7 g8 t u A B c d (.slice A1 ys1.length c1) (.slice A2 ys2.length c2) (.slice A3 ps.length c3) ys1 ys2 ps wr ∧ Bx w gc #[.int .i64 e1, .int .i64 e2, .int .i64 e3] 31 wr) (fun _ _ _ i _ => 3 - (intOf i).toNat)
          case atStart => exact ⟨0, _, rfl, rfl, by omega, HS9.out, HBC.out⟩
          case round =>
            obtain ⟨j, J, rfl, rfl, hj, has, hbc⟩ := hrel
            have HSR := Lib.hid has
            have HBR := Lib.hid hbc
            clear has hbc
            obtain ⟨⟨⟨a0, a1, a2, a3⟩, hg7⟩, ⟨⟨b0, b1, b2, b3⟩, hg8⟩, ⟨⟨p0, p1, p2, p3⟩, hg3⟩, ⟨⟨q0, q1, q2, q3⟩, hg4⟩, -⟩ := HSR.out.1
            have z0 : wr.cell? ⟨gc, 0, none⟩ = some (.int .i64 e1) := cell_of_row _ _ _ _ _ _ HBR.out.1
            have z1 : wr.cell? ⟨gc, 1, none⟩ = some (.int .i64 e2) := cell_of_row _ _ _ _ _ _ HBR.out.1
            have z2 : wr.cell? ⟨gc, 2, none⟩ = some (.int .i64 e3) := cell_of_row _ _ _ _ _ _ HBR.out.1
            by_cases hlt : j < 3
            · rcases (by omega : j = 0 ∨ j = 1 ∨ j = 2) with rfl | rfl | rfl
              · go_upto_region 19 with fail
                go_cut [20] from 143 to 150 (fun s20 wx => s20 = .bool (t.kind == 7) ∧ AllS w g7 g8 t u A B c d (.slice A1 ys1.length c1) (.slice A2 ys2.length c2) (.slice A3 ps.length c3) ys1 ys2 ps wx ∧ Bx w gc #[.int .i64 e1, .int .i64 e2, .int .i64 e3] 31 wx)
                case first =>
                  go_region
                  all_goals
                    go_wp2_with fail
                    go_meet
                    exact ⟨rfl, HSR.out.below (((Below.refl _ _).alloc (Nat.le_refl _) _).drew), HBR.out.below (((Below.refl _ _).alloc (Nat.le_refl _) _).drew)⟩
                case rest =>
                  obtain ⟨rfl, has, hbc⟩ := hcut
                  have HSQ := Lib.hid has
                  have HBQ := Lib.hid hbc
                  clear has hbc z0 z1 z2 HSR HBR a0 a1 a2 a3 hg7 b0 b1 b2 b3 hg8 p0 p1 p2 p3 hg3 q0 q1 q2 q3 hg4
                  have hec : (K = 0 ∧ t.kind = 7 ∧ e1 = 0) ∨ (K = 0 ∧ t.kind ≠ 7 ∧ e1 = 13) ∨ (K ≠ 0 ∧ e1 = K) := by
                    rcases HEC.out with ⟨h0, h1, h2, h3⟩ | ⟨h0, h1, h2, h3⟩
                    · exact .inr (.inr ⟨h0, by assumption⟩)
                    · by_cases hk : t.kind = 7
                      · exact .inl ⟨h0, hk, by first | (rw [if_pos hk] at h1; exact h1) | (rw [if_pos hk] at h2; exact h2) | (rw [if_pos hk] at h3; exact h3)⟩
                      · exact .inr (.inl ⟨h0, hk, by first | (rw [if_neg hk] at h1; exact h1) | (rw [if_neg hk] at h2; exact h2) | (rw [if_neg hk] at h3; exact h3)⟩)
                  rcases hec with ⟨h1, h2, h3⟩ | ⟨h1, h2, h3⟩ | ⟨h1, h2⟩
                  · have t1 : (K != 0) = false := by simpa using h1
                    have t2 : (K == 0) = true := by simpa using h1
                    have t3 : (t.kind == 7) = true := by simpa using h2
                    have t4 : (e1 != 0) = false := by simpa using h3
                    clear h1 h2 h3
                    go_wp2_with fail
                    go_roundw
                    case rel => exact ⟨1, _, rfl, by omega, by omega, HSQ.out, HBQ.out⟩
                    case measure => simp [intOf]
                  · have t1 : (K != 0) = false := by simpa using h1
                    have t2 : (K == 0) = true := by simpa using h1
                    have t3 : (t.kind == 7) = false := by simpa using h2
                    have t4 : (e1 != 13) = false := by simpa using h3
                    clear h1 h2 h3
                    go_wp2_with fail
                    go_roundw
                    case rel => exact ⟨1, _, rfl, by omega, by omega, HSQ.out, HBQ.out⟩
                    case measure => simp [intOf]
                  · have t1 : (K != 0) = true := by simpa using h1
                    have t2 : (K == 0) = false := by simpa using h1
                    have t4 : (e1 != K) = false := by simpa using h2
                    clear h1 h2
                    go_wp2_with fail
                    go_roundw
                    case rel => exact ⟨1, _, rfl, by omega, by omega, HSQ.out, HBQ.out⟩
                    case measure => simp [intOf]
              · go_upto_region 19 with fail
                go_cut [20] from 143 to 150 (fun s20 wx => s20 = .bool (t.kind == 9) ∧ AllS w g7 g8 t u A B c d (.slice A1 ys1.length c1) (.slice A2 ys2.length c2) (.slice A3 ps.length c3) ys1 ys2 ps wx ∧ Bx w gc #[.int .i64 e1, .int .i64 e2, .int .i64 e3] 31 wx)
                case first =>
                  go_region
                  all_goals
                    go_wp2_with fail
                    go_meet
                    exact ⟨rfl, HSR.out.below (((Below.refl _ _).alloc (Nat.le_refl _) _).drew), HBR.out.below (((Below.refl _ _).alloc (Nat.le_refl _) _).drew)⟩
                case rest =>
                  obtain ⟨rfl, has, hbc⟩ := hcut
                  have HSQ := Lib.hid has
                  have HBQ := Lib.hid hbc
                  clear has hbc z0 z1 z2 HSR HBR a0 a1 a2 a3 hg7 b0 b1 b2 b3 hg8 p0 p1 p2 p3 hg3 q0 q1 q2 q3 hg4
                  have hec : (K = 0 ∧ t.kind = 9 ∧ e2 = 0) ∨ (K = 0 ∧ t.kind ≠ 9 ∧ e2 = 13) ∨ (K ≠ 0 ∧ e2 = K) := by
                    rcases HEC.out with ⟨h0, h1, h2, h3⟩ | ⟨h0, h1, h2, h3⟩
                    · exact .inr (.inr ⟨h0, by assumption⟩)
                    · by_cases hk : t.kind = 9
                      · exact .inl ⟨h0, hk, by first | (rw [if_pos hk] at h1; exact h1) | (rw [if_pos hk] at h2; exact h2) | (rw [if_pos hk] at h3; exact h3)⟩
                      · exact .inr (.inl ⟨h0, hk, by first | (rw [if_neg hk] at h1; exact h1) | (rw [if_neg hk] at h2; exact h2) | (rw [if_neg hk] at h3; exact h3)⟩)
                  rcases hec with ⟨h1, h2, h3⟩ | ⟨h1, h2, h3⟩ | ⟨h1, h2⟩
                  · have t1 : (K != 0) = false := by simpa using h1
                    have t2 : (K == 0) = true := by simpa using h1
                    have t3 : (t.kind == 9) = true := by simpa using h2
                    have t4 : (e2 != 0) = false := by simpa using h3
                    clear h1 h2 h3
                    go_wp2_with fail
                    go_roundw
                    case rel => exact ⟨2, _, rfl, by omega, by omega, HSQ.out, HBQ.out⟩
                    case measure => simp [intOf]
                  · have t1 : (K != 0) = false := by simpa using h1
                    have t2 : (K == 0) = true := by simpa using h1
                    have t3 : (t.kind == 9) = false := by simpa using h2
                    have t4 : (e2 != 13) = false := by simpa using h3
                    clear h1 h2 h3
                    go_wp2_with fail
                    go_roundw
                    case rel => exact ⟨2, _, rfl, by omega, by omega, HSQ.out, HBQ.out⟩
                    case measure => simp [intOf]
                  · have t1 : (K != 0) = true := by simpa using h1
                    have t2 : (K == 0) = false := by simpa using h1
                    have t4 : (e2 != K) = false := by simpa using h2
                    clear h1 h2
                    go_wp2_with fail
                    go_roundw
                    case rel => exact ⟨2, _, rfl, by omega, by omega, HSQ.out, HBQ.out⟩
                    case measure => simp [intOf]
              · go_upto_region 19 with fail
                go_cut [20] from 143 to 150 (fun s20 wx => s20 = .bool (t.kind == 14) ∧ AllS w g7 g8 t u A B c d (.slice A1 ys1.length c1) (.slice A2 ys2.length c2) (.slice A3 ps.length c3) ys1 ys2 ps wx ∧ Bx w gc #[.int .i64 e1, .int .i64 e2, .int .i64 e3] 31 wx)
                case first =>
                  go_region
                  all_goals
                    go_wp2_with fail
                    go_meet
                    exact ⟨rfl, HSR.out.below (((Below.refl _ _).alloc (Nat.le_refl _) _).drew), HBR.out.below (((Below.refl _ _).alloc (Nat.le_refl _) _).drew)⟩
                case rest =>
                  obtain ⟨rfl, has, hbc⟩ := hcut
                  have HSQ := Lib.hid has
                  have HBQ := Lib.hid hbc
                  clear has hbc z0 z1 z2 HSR HBR a0 a1 a2 a3 hg7 b0 b1 b2 b3 hg8 p0 p1 p2 p3 hg3 q0 q1 q2 q3 hg4
                  have hec : (K = 0 ∧ t.kind = 14 ∧ e3 = 0) ∨ (K = 0 ∧ t.kind ≠ 14 ∧ e3 = 13) ∨ (K ≠ 0 ∧ e3 = K) := by
                    rcases HEC.out with ⟨h0, h1, h2, h3⟩ | ⟨h0, h1, h2, h3⟩
                    · exact .inr (.inr ⟨h0, by assumption⟩)
                    · by_cases hk : t.kind = 14
                      · exact .inl ⟨h0, hk, by first | (rw [if_pos hk] at h1; exact h1) | (rw [if_pos hk] at h2; exact h2) | (rw [if_pos hk] at h3; exact h3)⟩
                      · exact .inr (.inl ⟨h0, hk, by first | (rw [if_neg hk] at h1; exact h1) | (rw [if_neg hk] at h2; exact h2) | (rw [if_neg hk] at h3; exact h3)⟩)
                  rcases hec with ⟨h1, h2, h3⟩ | ⟨h1, h2, h3⟩ | ⟨h1, h2⟩
                  · have t1 : (K != 0) = false := by simpa using h1
                    have t2 : (K == 0) = true := by simpa using h1
                    have t3 : (t.kind == 14) = true := by simpa using h2
                    have t4 : (e3 != 0) = false := by simpa using h3
                    clear h1 h2 h3
                    go_wp2_with fail
                    go_roundw
                    case rel => exact ⟨3, _, rfl, by omega, by omega, HSQ.out, HBQ.out⟩
                    case measure => simp [intOf]
                  · have t1 : (K != 0) = false := by simpa using h1
                    have t2 : (K == 0) = true := by simpa using h1
                    have t3 : (t.kind == 14) = false := by simpa using h2
                    have t4 : (e3 != 13) = false := by simpa using h3
                    clear h1 h2 h3
                    go_wp2_with fail
                    go_roundw
                    case rel => exact ⟨3, _, rfl, by omega, by omega, HSQ.out, HBQ.out⟩
                    case measure => simp [intOf]
                  · have t1 : (K != 0) = true := by simpa using h1
                    have t2 : (K == 0) = false := by simpa using h1
                    have t4 : (e3 != K) = false := by simpa using h2
                    clear h1 h2
                    go_wp2_with fail
                    go_roundw
                    case rel => exact ⟨3, _, rfl, by omega, by omega, HSQ.out, HBQ.out⟩
                    case measure => simp [intOf]
            · obtain rfl : j = 3 := by omega
              rw [show ((3 : Nat) : Int) = 3 from rfl]
              have HE3 : Hid ((e1 = 0 ∧ e2 ≠ 0 ∧ e3 ≠ 0 ∧ ys1 = i8s t.data ∧ ys2.length = 0 ∧ ps.length = 0) ∨ (e1 ≠ 0 ∧ e2 = 0 ∧ e3 ≠ 0 ∧ ys1.length = 0 ∧ ys2.length = t.data.size ∧ ps.length = 0) ∨ (e1 ≠ 0 ∧ e2 ≠ 0 ∧ e3 = 0 ∧ ys1.length = 0 ∧ ys2.length = 0 ∧ 8 * ps.length = t.data.size) ∨ (e1 ≠ 0 ∧ e2 ≠ 0 ∧ e3 ≠ 0 ∧ ys1.length = 0 ∧ ys2.length = 0 ∧ ps.length = 0)) := Lib.hid (by
                have l1 : e1 ≠ 0 → ys1.length = 0 := fun h => by rw [HF1.out.2 h]; rfl
                have l2 : e2 ≠ 0 → ys2.length = 0 := fun h => by rw [HF2.out.2 h]; rfl
                have l3 : e3 ≠ 0 → ps.length = 0 := fun h => by rw [HF3.out.2 h]; rfl
                rcases HEC.out with ⟨h0, h1, h2, h3⟩ | ⟨h0, h1, h2, h3⟩
                · exact .inr (.inr (.inr ⟨by omega, by omega, by omega, l1 (by omega), l2 (by omega), l3 (by omega)⟩))
                · by_cases k7 : t.kind = 7
                  · rw [if_pos k7] at h1; rw [if_neg (by omega)] at h2 h3
                    exact .inl ⟨h1, by omega, by omega, HF1.out.1 h1, l2 (by omega), l3 (by omega)⟩
                  · rw [if_neg k7] at h1
                    by_cases k9 : t.kind = 9
                    · rw [if_pos k9] at h2; rw [if_neg (by omega)] at h3
                      exact .inr (.inl ⟨by omega, h2, by omega, l1 (by omega), by rw [HF2.out.1 h2, fls_len], l3 (by omega)⟩)
                    · rw [if_neg k9] at h2
                      by_cases k14 : t.kind = 14
                      · rw [if_pos k14] at h3
                        obtain ⟨n, hn, hdv, -⟩ := count_of (t := t) (HCK.out.trans h0) k14 (s := 8) (by decide) (by decide)
                        exact .inr (.inr (.inl ⟨by omega, by omega, h3, l1 (by omega), l2 (by omega), by rw [(HF3.out.1 h3).1, hdv, hn]; omega⟩))
                      · rw [if_neg k14] at h3
                        exact .inr (.inr (.inr ⟨by omega, by omega, by omega, l1 (by omega), l2 (by omega), l3 (by omega)⟩)))
              clear z0 z1 z2
              go_upto_region 23 with fail
              go_cut [214] from 181 to 214 (fun s214 wx => s214 = .bool false ∧ AllS w g7 g8 t u A B c d (.slice A1 ys1.length c1) (.slice A2 ys2.length c2) (.slice A3 ps.length c3) ys1 ys2 ps wx)
              case first =>
                rcases HE3.out with ⟨h1, h2, h3, h4, h5, h6⟩ | ⟨h1, h2, h3, h4, h5, h6⟩ | ⟨h1, h2, h3, h4, h5, h6⟩ | ⟨h1, h2, h3, h4, h5, h6⟩
                · have t1 : (e1 == 0) = true := by simpa using h1
                  have t2 : (e2 == 0) = false := by simpa using h2
                  have t3 : (e3 == 0) = false := by simpa using h3
                  have H4 := Lib.hid h4
                  clear h1 h2 h3 h4 h5 h6
                  go_wp2_with fail
                  refine (rints_any t.name t.kind A t.dims.length c t.data _ (by omega)).mono ?_
                  rintro e w10 ⟨vr, rfl, hownr, hbr⟩
                  obtain ⟨Ar, cr, rfl, -, -⟩ := own_form hownr
                  have HSX := Lib.hid (HSR.out.below hbr)
                  have HI := Lib.hid (isInts_any A1 Ar c1 cr ys1 (i8s t.data) w10 (by rw [i8s_len]; unfold maxLen; omega) (SR.of_own HSX.out.2.1) (SR.of_own hownr))
                  rw [decide_eq_true H4.out] at HI
                  clear hownr hbr
                  go_wp2_with fail
                  refine HI.out.mono ?_
                  rintro e w11 ⟨rfl, hb11⟩
                  have HSY := Lib.hid (HSX.out.below hb11)
                  clear hb11 HI HSX
                  go_wp2_with fail
                  go_meet
                  exact ⟨rfl, HSY.out⟩
                · have t1 : (e1 == 0) = false := by simpa using h1
                  have t2 : (e2 == 0) = true := by simpa using h2
                  have t3 : (e3 == 0) = false := by simpa using h3
                  have t4 : ((ys2.length : Int) != (t.data.size : Int)) = false := by rw [h5]; simp
                  clear h1 h2 h3 h4 h5 h6
                  go_wp2_with fail
                  go_meet
                  exact ⟨rfl, HSR.out⟩
                · have t1 : (e1 == 0) = false := by simpa using h1
                  have t2 : (e2 == 0) = false := by simpa using h2
                  have t3 : (e3 == 0) = true := by simpa using h3
                  have t4 : (8 * (ps.length : Int) != (t.data.size : Int)) = false := by rw [← h6]; simp
                  have t5 : 8 * (ps.length : Int) ≤ 140737488351232 := by omega
                  clear h1 h2 h3 h4 h5 h6
                  go_wp2_with fail
                  go_meet
                  exact ⟨rfl, HSR.out⟩
                · have t1 : (e1 == 0) = false := by simpa using h1
                  have t2 : (e2 == 0) = false := by simpa using h2
                  have t3 : (e3 == 0) = false := by simpa using h3
                  clear h1 h2 h3 h4 h5 h6
                  go_wp2_with fail
                  go_meet
                  exact ⟨rfl, HSR.out⟩
              case rest =>
                obtain ⟨rfl, has⟩ := hcut
                have HSA := Lib.hid has
                clear has HSR HBR a0 a1 a2 a3 hg7 b0 b1 b2 b3 hg8 p0 p1 p2 p3 hg3 q0 q1 q2 q3 hg4
                have HB2 : Hid (∀ j (h : j < ys2.length), ∃ h2 : j < t.data.size, ys2[j] = decide (t.data[j].toNat = 1)) := Lib.hid (by
                  intro j h
                  by_cases h0 : e2 = 0
                  · have hy := HF2.out.1 h0
                    subst hy
                    have hj : j < t.data.size := by rw [fls_len] at h; exact h
                    exact ⟨hj, fls_at hj⟩
                  · have hy := HF2.out.2 h0
                    subst hy
                    cases h)
                have HB3 : Hid (∀ j (h : j < ps.length), 8 * j + 8 ≤ t.data.size ∧ RdSpec (t.data.extract (8 * j) (8 * j + 8)) ps[j].1 ps[j].2 0) := Lib.hid (by
                  intro j h
                  by_cases h0 : e3 = 0
                  · obtain ⟨hl, hr⟩ := HF3.out.1 h0
                    have h1 := hr j h
                    rw [show (j + 1) * 8 = 8 * j + 8 by omega, Nat.mul_comm j 8] at h1
                    exact ⟨by omega, h1⟩
                  · have hy := HF3.out.2 h0
                    subst hy
                    cases h)
                clear HEC HF1 HF2 HF3
                go_wp2_with fail
                go_loopw [21, 22, 217] (fun _ _ i wr => ∃ (j : Nat) (J : Int), i = .int .i64 J ∧ J = (j : Nat) ∧ j ≤ ys2.length ∧ AllS w g7 g8 t u A B c d (.slice A1 ys1.length c1) (.slice A2 ys2.length c2) (.slice A3 ps.length c3) ys1 ys2 ps wr) (fun _ _ i _ => ys2.length - (intOf i).toNat)
                case atStart => exact ⟨0, _, rfl, rfl, by omega, HSA.out⟩
                case round =>
                  obtain ⟨j, J, rfl, rfl, hj, has⟩ := hrel
                  have HSR := Lib.hid has
                  clear has HSA
                  obtain ⟨⟨⟨a0, a1, a2, a3⟩, hg7⟩, ⟨⟨b0, b1, b2, b3⟩, hg8⟩, ⟨⟨p0, p1, p2, p3⟩, hg3⟩, ⟨⟨q0, q1, q2, q3⟩, hg4⟩, -⟩ := HSR.out.1
                  by_cases hlt : j < ys2.length
                  · obtain ⟨bb, oo, rfl, hbb, y0⟩ := cell_at (SR.of_own HSR.out.2.2.1) hlt (u := .bool ys2[j]) (by simp)
                    obtain ⟨hjd, hv⟩ := HB2.out j hlt
                    rw [hv] at y0
                    by_cases h1 : t.data[j].toNat = 1
                    · rw [decide_eq_true h1] at y0
                      have h1' : ((t.data[j].toNat : Int) == 1) = true := by rw [beq_iff_eq]; omega
                      have h1n : (t.data[j].toNat == 1) = true := by simpa using h1
                      clear h1 hv
                      go_wp2_with fail
                      go_roundw
                      case rel => exact ⟨j + 1, _, rfl, by omega, by omega, HSR.out⟩
                      case measure => simp [intOf]; omega
                    · rw [decide_eq_false h1] at y0
                      have h1' : ((t.data[j].toNat : Int) == 1) = false := by rw [beq_eq_false_iff_ne]; omega
                      have h1n : (t.data[j].toNat == 1) = false := by simpa using h1
                      clear h1 hv
                      go_wp2_with fail
                      go_roundw
                      case rel => exact ⟨j + 1, _, rfl, by omega, by omega, HSR.out⟩
                      case measure => simp [intOf]; omega
                  · obtain rfl : j = ys2.length := by omega
                    go_wp2_with fail
                    clear a0 a1 a2 a3 hg7 b0 b1 b2 b3 hg8 p0 p1 p2 p3 hg3 q0 q1 q2 q3 hg4
                    go_loopw [23, 24, 25, 26, 232] (fun _ _ _ _ i wr => ∃ (j : Nat) (J : Int), i = .int .i64 J ∧ J = (j : Nat) ∧ j ≤ ps.length ∧ AllS w g7 g8 t u A B c d (.slice A1 ys1.length c1) (.slice A2 ys2.length c2) (.slice A3 ps.length c3) ys1 ys2 ps wr) (fun _ _ _ _ i _ => ps.length - (intOf i).toNat)
                    case atStart => exact ⟨0, _, rfl, rfl, by omega, HSR.out⟩
                    case round =>
                      obtain ⟨j, J, rfl, rfl, hj, has⟩ := hrel
                      have HSQ := Lib.hid has
                      clear has HSR
                      obtain ⟨⟨⟨a0, a1, a2, a3⟩, hg7⟩, ⟨⟨b0, b1, b2, b3⟩, hg8⟩, ⟨⟨p0, p1, p2, p3⟩, hg3⟩, ⟨⟨q0, q1, q2, q3⟩, hg4⟩, -⟩ := HSQ.out.1
                      by_cases hlt : j < ps.length
                      · obtain ⟨bb, oo, rfl, hbb, y0⟩ := cell_at (SR.of_own HSQ.out.2.2.2) hlt (u := .complex .f64 (fz ps[j].1) (fz ps[j].2)) (by rw [List.getElem?_map, List.getElem?_eq_getElem hlt]; rfl)
                        obtain ⟨h8, hrd⟩ := HB3.out j hlt
                        have h8' : 8 * (j : Int) + 8 ≤ (t.data.size : Int) := by omega
                        have HRD := Lib.hid hrd
                        have HR := Lib.hid (fun W => rread_any (t.data.extract (8 * j) (8 * j + 8)) W (by rw [ByteArray.size_extract]; unfold maxLen; omega))
                        have hgz := HSQ.out.1.2.2.2.2.size
                        clear hrd h8
                        generalize ps[j] = pp at *
                        obtain ⟨n, m⟩ := pp
                        dsimp only at y0
                        go_wp2_with fail
                        refine (HR.out _).mono ?_
                        rintro e w12 ⟨n', m', cc, rfl, hrd', hb12⟩
                        obtain ⟨rfl, rfl, rfl, hn1, hm1⟩ := rdSpec_one HRD.out hrd'
                        have HSX := Lib.hid (HSQ.out.below hb12)
                        have HZB := Lib.hid (Bx.start w12 #[.int .i64 n, .int .i64 m] 52)
                        have HSZ := Lib.hid (HSX.out.more (.cells #[.int .i64 n, .int .i64 m] 52))
                        clear hb12 hrd' HR HRD HSX HSQ a0 a1 a2 a3 hg7 b0 b1 b2 b3 hg8 p0 p1 p2 p3 hg3 q0 q1 q2 q3 hg4 y0
                        obtain ⟨z0, z1⟩ := cells_of2 HZB.out.1
                        go_wp2_with fail
                        refine (of_any n m _).mono ?_
                        rintro e w13 ⟨rfl, hb13⟩
                        have HSW := Lib.hid (HSZ.out.below hb13)
                        have o1 := fz_self (n := n) (by omega)
                        have o2 := fz_self (n := m) (by omega)
                        generalize fz n = xn at *
                        generalize fz m = xm at *
                        clear hb13 HSZ HZB z0 z1 hn1 hm1
                        go_wp2_with fail
                        go_roundw
                        case rel => exact ⟨j + 1, _, rfl, by omega, by omega, HSW.out⟩
                        case measure => simp [intOf]; omega
                      · obtain rfl : j = ps.length := by omega
                        go_wp2_with fail
                        refine (tawake_any _).mono ?_
                        rintro e w14 ⟨rfl, hb14⟩
                        have HEND := Lib.hid (HSQ.out.below hb14).all
                        clear hb14 HSQ
                        rcases HE3.out with ⟨h1, h2, h3, h4, h5, h6⟩ | ⟨h1, h2, h3, h4, h5, h6⟩ | ⟨h1, h2, h3, h4, h5, h6⟩ | ⟨h1, h2, h3, h4, h5, h6⟩
                        · have t1 : (e1 == 0) = true := by simpa using h1
                          have t2 : (e2 == 0) = false := by simpa using h2
                          have t3 : (e3 == 0) = false := by simpa using h3
                          have t5 : ((ys2.length : Int) == 0) = true := by rw [beq_iff_eq]; omega
                          have t6 : ((ps.length : Int) == 0) = true := by rw [beq_iff_eq]; omega
                          clear h1 h2 h3 h4 h5 h6
                          go_wp2_with fail
                          go_ret
                          exact ⟨rfl, HEND.out⟩
                        · have t1 : (e1 == 0) = false := by simpa using h1
                          have t2 : (e2 == 0) = true := by simpa using h2
                          have t3 : (e3 == 0) = false := by simpa using h3
                          have t4 : ((ys1.length : Int) == 0) = true := by rw [beq_iff_eq]; omega
                          have t6 : ((ps.length : Int) == 0) = true := by rw [beq_iff_eq]; omega
                          clear h1 h2 h3 h4 h5 h6
                          go_wp2_with fail
                          go_ret
                          exact ⟨rfl, HEND.out⟩
                        · have t1 : (e1 == 0) = false := by simpa using h1
                          have t2 : (e2 == 0) = false := by simpa using h2
                          have t3 : (e3 == 0) = true := by simpa using h3
                          have t4 : ((ys1.length : Int) == 0) = true := by rw [beq_iff_eq]; omega
                          have t5 : ((ys2.length : Int) == 0) = true := by rw [beq_iff_eq]; omega
                          clear h1 h2 h3 h4 h5 h6
                          go_wp2_with fail
                          go_ret
                          exact ⟨rfl, HEND.out⟩
                        · have t1 : (e1 == 0) = false := by simpa using h1
                          have t2 : (e2 == 0) = false := by simpa using h2
                          have t3 : (e3 == 0) = false := by simpa using h3
                          have t4 : ((ys1.length : Int) == 0) = true := by rw [beq_iff_eq]; omega
                          have t5 : ((ys2.length : Int) == 0) = true := by rw [beq_iff_eq]; omega
                          have t6 : ((ps.length : Int) == 0) = true := by rw [beq_iff_eq]; omega
                          clear h1 h2 h3 h4 h5 h6
                          go_wp2_with fail
                          go_ret
                          exact ⟨rfl, HEND.out⟩
  all_goals
    go_enter Try.func3, Try.ntmps3
    go_wp2_with fail
    refine (tawake_any _).mono ?_
    rintro e w1 ⟨rfl, hb1⟩
    have HB := Lib.hid (HBT.out.below hb1)
    clear hb1
    go_wp2_with fail
    go_ret
    exact ⟨rfl, HB.out.all⟩
end Go.Proofs.Ytngjpgdgipmieaa
/- Arguments opened: a tensor; a slice of pairs of whole numbers; a slice of flags. -/
namespace Go.Proofs.Ytngjpgdgipmieaa
open Go.RowKit M6 M7 Go.ChangeShapes Go.WideShapes Go.Deep

theorem tensorCells : Try.prog.cellsOf 25 = 4 := by kernel_rfl
theorem tensorOff : (match Try.prog.underlying 25 with | some (.struct fs) => fs.toList.map (fun f => (f.offset, f.type)) | _ => []) = [(0, 9), (1, 22), (2, 23), (3, 9)] := by kernel_rfl
theorem cellsStr7 : Try.prog.cellsOf 9 = 1 := by kernel_rfl
theorem cellsKind7 : Try.prog.cellsOf 22 = 1 := by kernel_rfl
theorem cellsInts7 : Try.prog.cellsOf 23 = 1 := by kernel_rfl
theorem tensorStruct : ∃ fs, Try.prog.underlying 25 = some (.struct fs) := ⟨_, Try.underlying25⟩
theorem reach7 : reachBytes = 140737488351232 := by decide
section
variable {H : Type} {enc : TypeId × Value → H} {w : World} {base : Nat} {spare : Nat → Bool} {held : Bool}
set_option maxRecDepth 100000 in
theorem weights_tensor (s r : List UInt8) (k : Int) (d : DataW H) : s.length ∈ (DataW.agg [.lit (.string s), .lit (.int .i64 k), d, .lit (.string r)] : DataW H).weights Try.prog 25 ∧ r.length ∈ (DataW.agg [.lit (.string s), .lit (.int .i64 k), d, .lit (.string r)] : DataW H).weights Try.prog 25 := by
  have ho := tensorOff
  cases hu : Try.prog.underlying 25 with
  | none => rw [hu] at ho; simp at ho
  | some ds =>
    rw [hu] at ho
    cases ds with
    | struct fs =>
      simp only at ho
      obtain ⟨fl⟩ := fs
      match fl, ho with
      | [f0, f1, f2, f3], ho => simp [DataW.weights, hu, DataW.weightsEach]
    | _ => simp at ho
set_option maxRecDepth 100000 in
/-- a tensor -/
theorem open_tensor {v : Value} {d : DataW H} {p : List MemPlace} (h : DataW.Trod enc Try.prog w base spare held 25 v d p) (hv : ∃ cs, v = .agg cs ∧ cs.size = Try.prog.cellsOf 25)
    (hz : ∀ n ∈ d.weights Try.prog 25, n ≤ reachBytes) : ∃ (t : Ten) (A : Option Addr) (c : Nat), v = tv t.name t.kind (.slice A t.dims.length c) t.data ∧ Tok w t A := by
  obtain ⟨cs, rfl, hcs⟩ := hv
  obtain ⟨fuel, h⟩ := h
  have ho := tensorOff
  rw [tensorCells] at hcs
  cases hu : Try.prog.underlying 25 with
  | none => rw [hu] at ho; simp at ho
  | some ds =>
    rw [hu] at ho
    cases ds with
    | struct fs =>
      simp only at ho
      obtain ⟨xs, m, rfl, hx, hlen, hxl, hf⟩ := DataW.trod_struct hu h
      obtain ⟨fl⟩ := fs
      match fl, ho with
      | [f0, f1, f2, f3], ho =>
        simp only [List.map_cons, List.map_nil, List.cons.injEq, Prod.mk.injEq, and_true] at ho
        obtain ⟨⟨o0, t0⟩, ⟨o1, t1⟩, ⟨o2, t2⟩, ⟨o3, t3⟩⟩ := ho
        obtain ⟨cl⟩ := cs
        have hcl : cl.length = 4 := hcs
        match cl, hcl, xs, hxl with
        | [c0, c1, c2, c3], _, [x0, x1, x2, x3], _ =>
          have h0 := hf 0 f0 rfl
          have h1 := hf 1 f1 rfl
          have h2 := hf 2 f2 rfl
          have h3 := hf 3 f3 rfl
          rw [o0, t0, cellsStr7] at h0
          rw [o1, t1, cellsKind7] at h1
          rw [o2, t2, cellsInts7] at h2
          rw [o3, t3, cellsStr7] at h3
          simp only [Value.cells, List.drop_zero, List.drop_succ_cons, List.take_succ_cons, List.take_zero, List.getElem?_cons_zero, List.getElem?_cons_succ] at h0 h1 h2 h3
          obtain ⟨a0, e0, r0, w0⟩ := DataW.trod_string Try.underlying9 h0
          obtain ⟨a1, e1, r1, w1⟩ := DataW.trod_int Try.underlying22 h1
          obtain ⟨a3, e3, r3, w3⟩ := DataW.trod_string Try.underlying9 h3
          simp only [List.cons.injEq, and_true] at e0 e1 e3
          have hs : ∃ a l c, c2 = .slice a l c := by
            rcases open_slice Try.underlying23 h2 with ⟨hc, _⟩ | ⟨a, len, cap, m, n, D, Pl, hc, _⟩
            · simp only [List.cons.injEq, and_true] at hc; exact ⟨_, _, _, hc⟩
            · simp only [List.cons.injEq, and_true] at hc; exact ⟨_, _, _, hc⟩
          obtain ⟨sa, sl, sc, rfl⟩ := hs
          obtain ⟨x2d, x2p⟩ := x2
          obtain ⟨A, c, l, e2, hsr, hll, hin⟩ := open_ints64 Try.underlying23 ⟨m, h2⟩ ⟨sa, sl, sc, rfl⟩
          rw [e2]
          subst e0 e1 e3
          have hd : d = .agg [.lit (.string a0.data.toList), .lit (.int .i64 a1), x2d, .lit (.string a3.data.toList)] := by
            have := congrArg Prod.fst hx
            rw [r0, r1, r3] at this
            simpa using this
          subst hd
          have hw := weights_tensor (H := H) a0.data.toList a3.data.toList a1 x2d
          have z0 := hz _ hw.1
          have z3 := hz _ hw.2
          rw [reach7] at z0 z3
          exact ⟨⟨a0, a1, l, a3⟩, A, c, rfl, ⟨by simpa using z0, by simpa using z3, w1, hsr, hll, hin⟩⟩
    | _ => simp at ho
end
end Go.Proofs.Ytngjpgdgipmieaa
