/- The walks of Same, the program's and the document's own, of Elem and Of. -/
import Derived.Test.YtngjpgdgipmieaaTCheck
import Derived.Test.YtngjpgdgipmieaaSShape
namespace Go.Proofs.Ytngjpgdgipmieaa
open Go.RowKit M7

/-- are two tensors alike -/
def sameT (t u : Ten) : Bool := decide (t.name = u.name) && decide (t.kind = u.kind) && decide (t.dims = u.dims) && decide (t.data = u.data)
theorem sameT_name {t u : Ten} (h : t.name ≠ u.name) : sameT t u = false := by unfold sameT; rw [decide_eq_false h]; rfl
theorem sameT_kind {t u : Ten} (h : t.kind ≠ u.kind) : sameT t u = false := by unfold sameT; rw [decide_eq_false h]; simp
theorem sameT_dims {t u : Ten} (h : t.dims ≠ u.dims) : sameT t u = false := by unfold sameT; rw [decide_eq_false h]; simp
theorem sameT_data {t u : Ten} (h : t.data ≠ u.data) : sameT t u = false := by unfold sameT; rw [decide_eq_false h]; simp
theorem sameT_yes {t u : Ten} (h1 : t.name = u.name) (h2 : t.kind = u.kind) (h3 : t.dims = u.dims) (h4 : t.data = u.data) : sameT t u = true := by
  unfold sameT; rw [decide_eq_true h1, decide_eq_true h2, decide_eq_true h3, decide_eq_true h4]; rfl

set_option maxRecDepth 100000 in
theorem same_any (t u : Ten) (A B : Option Addr) (c d : Nat) (w : World) (ht : Tok w t A) (hu : Tok w u B) :
    Calls Try.prog 9 #[tv t.name t.kind (.slice A t.dims.length c) t.data, tv u.name u.kind (.slice B u.dims.length d) u.data] w fun e w' => e = .returned (.bool (sameT t u)) ∧ Below w.heap.size w w' := by
  have hbx := Bx.start w #[.string t.name, .int .i64 t.kind, .slice A t.dims.length c, .string t.data] 25
  have HBY := Lib.hid (Bx.two w (.cells #[.string t.name, .int .i64 t.kind, .slice A t.dims.length c, .string t.data] 25) #[.string u.name, .int .i64 u.kind, .slice B u.dims.length d, .string u.data] 25)
  have HBX := Lib.hid (hbx.more (.cells #[.string u.name, .int .i64 u.kind, .slice B u.dims.length d, .string u.data] 25))
  have HS := Lib.hid (shSame_any A B c d t.dims u.dims _ hu.len (ht.below HBX.out.all).dims (hu.below HBX.out.all).dims)
  clear hbx ht hu
  obtain ⟨tn, tk, tl, tdat⟩ := t
  obtain ⟨un, uk, ul, udat⟩ := u
  dsimp only at *
  by_cases h1 : tn = un
  · have e1 := teq_yes h1
    by_cases h2 : tk = uk
    · have e2 : (tk == uk) = true := by simpa using h2
      by_cases h3 : tl = ul
      · rw [decide_eq_true h3] at HS
        by_cases h4 : tdat = udat
        · have e4 := teq_yes h4
          have HE := Lib.hid (sameT_yes (t := ⟨tn, tk, tl, tdat⟩) (u := ⟨un, uk, ul, udat⟩) h1 h2 h3 h4)
          clear h1 h2 h3 h4
          go_enter Try.func9, Try.ntmps9
          go_wp2_with fail
          refine HS.out.mono ?_
          rintro e w1 ⟨rfl, hb1⟩
          have H1 := Lib.hid (HBX.out.below hb1)
          have H2 := Lib.hid (HBY.out.below hb1)
          clear hb1
          obtain ⟨x0, x1, x2, x3⟩ := H1.out.four
          obtain ⟨y0, y1, y2, y3⟩ := H2.out.four
          go_wp2_with fail
          go_ret
          rw [HE.out]
          exact ⟨rfl, H1.out.all⟩
        · have e4 := teq_no h4
          have HE := Lib.hid (sameT_data (t := ⟨tn, tk, tl, tdat⟩) (u := ⟨un, uk, ul, udat⟩) h4)
          clear h1 h2 h3 h4
          go_enter Try.func9, Try.ntmps9
          go_wp2_with fail
          refine HS.out.mono ?_
          rintro e w1 ⟨rfl, hb1⟩
          have H1 := Lib.hid (HBX.out.below hb1)
          have H2 := Lib.hid (HBY.out.below hb1)
          clear hb1
          obtain ⟨x0, x1, x2, x3⟩ := H1.out.four
          obtain ⟨y0, y1, y2, y3⟩ := H2.out.four
          go_wp2_with fail
          go_ret
          rw [HE.out]
          exact ⟨rfl, H1.out.all⟩
      · rw [decide_eq_false h3] at HS
        have HE := Lib.hid (sameT_dims (t := ⟨tn, tk, tl, tdat⟩) (u := ⟨un, uk, ul, udat⟩) h3)
        clear h1 h2 h3
        go_enter Try.func9, Try.ntmps9
        go_wp2_with fail
        refine HS.out.mono ?_
        rintro e w1 ⟨rfl, hb1⟩
        have H1 := Lib.hid (HBX.out.below hb1)
        clear hb1
        go_wp2_with fail
        go_ret
        rw [HE.out]
        exact ⟨rfl, H1.out.all⟩
    · have e2 : (tk == uk) = false := by simpa using h2
      have HE := Lib.hid (sameT_kind (t := ⟨tn, tk, tl, tdat⟩) (u := ⟨un, uk, ul, udat⟩) h2)
      clear h1 h2 HS
      go_enter Try.func9, Try.ntmps9
      go_wp2_with fail
      go_ret
      rw [HE.out]
      exact ⟨rfl, HBX.out.all⟩
  · have e1 := teq_no h1
    have HE := Lib.hid (sameT_name (t := ⟨tn, tk, tl, tdat⟩) (u := ⟨un, uk, ul, udat⟩) h1)
    clear h1 HS
    go_enter Try.func9, Try.ntmps9
    go_wp2_with fail
    go_ret
    rw [HE.out]
    exact ⟨rfl, HBX.out.all⟩

set_option maxRecDepth 100000 in
set_option maxHeartbeats 1000000 in
theorem rsame_any (t u : Ten) (A B : Option Addr) (c d : Nat) (w : World) (ht : Tok w t A) (hu : Tok w u B) (hl : t.dims.length ≤ 20) :
    Calls Try.prog 10 #[tv t.name t.kind (.slice A t.dims.length c) t.data, tv u.name u.kind (.slice B u.dims.length d) u.data] w fun e w' => e = .returned (.bool (sameT t u)) ∧ Below w.heap.size w w' := by
  have hbx := Bx.start w #[.string t.name, .int .i64 t.kind, .slice A t.dims.length c, .string t.data] 28
  have HBY := Lib.hid (Bx.two w (.cells #[.string t.name, .int .i64 t.kind, .slice A t.dims.length c, .string t.data] 28) #[.string u.name, .int .i64 u.kind, .slice B u.dims.length d, .string u.data] 28)
  have HBX := Lib.hid (hbx.more (.cells #[.string u.name, .int .i64 u.kind, .slice B u.dims.length d, .string u.data] 28))
  have ha := (ht.below HBX.out.all).dims
  have hb := (hu.below HBX.out.all).dims
  clear hbx ht hu
  obtain ⟨tn, tk, tl, tdat⟩ := t
  obtain ⟨un, uk, ul, udat⟩ := u
  dsimp only at *
  by_cases h1 : tn = un
  · have e1 := teq_yes h1
    by_cases h2 : tk = uk
    · have e2 : (tk != uk) = false := by simpa using h2
      by_cases h4 : tdat = udat
      · have e4 := teq_yes h4
        by_cases h3 : tl.length = ul.length
        · have e3 : ((tl.length : Int) != (ul.length : Int)) = false := by simp; omega
          have HY := Lib.hid (fun h => sameT_yes (t := ⟨tn, tk, tl, tdat⟩) (u := ⟨un, uk, ul, udat⟩) h1 h2 h h4)
          have HL := Lib.hid h3
          clear h1 h2 h3 h4
          go_enter Try.func10, Try.ntmps10
          go_wp2_with fail
          go_loopw [5] (fun i wr => ∃ (k : Nat) (K : Int), i = .int .i64 K ∧ K = (k : Nat) ∧ k ≤ tl.length ∧ tl.take k = ul.take k ∧ Below ((w.alloc (.cells #[.string tn, .int .i64 tk, .slice A tl.length c, .string tdat] 28)).alloc (.cells #[.string un, .int .i64 uk, .slice B ul.length d, .string udat] 28)).heap.size ((w.alloc (.cells #[.string tn, .int .i64 tk, .slice A tl.length c, .string tdat] 28)).alloc (.cells #[.string un, .int .i64 uk, .slice B ul.length d, .string udat] 28)) wr) (fun i _ => tl.length - (intOf i).toNat)
          case atStart => exact ⟨0, _, rfl, rfl, by omega, rfl, Below.refl _ _⟩
          case round =>
            obtain ⟨k, K, rfl, rfl, hk, htk, hbw⟩ := hrel
            obtain ⟨x0, x1, x2, x3⟩ := (HBX.out.below hbw).four
            obtain ⟨y0, y1, y2, y3⟩ := (HBY.out.below hbw).four
            have HT := Lib.hid htk
            have HB := Lib.hid hbw
            have hbz := hbw.size
            clear htk
            by_cases hlt : k < tl.length
            · have hlt' : k < ul.length := by rw [← HL.out]; exact hlt
              obtain ⟨b1, o1, rfl, hb1, z0⟩ := int_at (ha.below hbw) hlt
              obtain ⟨b2, o2, rfl, hb2, z1⟩ := int_at (hb.below hbw) hlt'
              have HY2 := Lib.hid (take_same_yes HT.out hlt hlt')
              have HN := Lib.hid (take_same_no (l := tl) (m := ul) hlt hlt')
              clear ha hb hbw
              generalize tl[k] = u at *
              generalize ul[k] = v at *
              by_cases huv : u = v
              · subst huv
                have HE := Lib.hid (HY2.out rfl)
                go_wp2_with fail
                go_quiet (fail)
                go_wp2_with fail
                go_roundw
                case rel => exact ⟨k + 1, _, rfl, by omega, by omega, HE.out, below_drewN HB.out _⟩
                case measure => simp [intOf]; omega
              · have HE := Lib.hid (sameT_dims (t := ⟨tn, tk, tl, tdat⟩) (u := ⟨un, uk, ul, udat⟩) (HN.out huv))
                have huv' : (u != v) = true := by simpa using huv
                clear huv
                go_wp2_with fail
                go_quiet (fail)
                go_wp2_with fail
                go_ret
                rw [HE.out]
                exact ⟨rfl, HBX.out.all.trans ((below_drewN HB.out _).mono HBX.out.all.size)⟩
            · obtain rfl : k = tl.length := by omega
              have HE := Lib.hid (HY.out (take_same_all HL.out (by rw [← HL.out]; exact HT.out)))
              clear ha hb hbw
              go_wp2_with fail
              go_ret
              rw [HE.out]
              exact ⟨rfl, HBX.out.all.trans (HB.out.mono HBX.out.all.size)⟩
        · have e3 : ((tl.length : Int) != (ul.length : Int)) = true := by simp; omega
          have HE := Lib.hid (sameT_dims (t := ⟨tn, tk, tl, tdat⟩) (u := ⟨un, uk, ul, udat⟩) (fun h => h3 (congrArg List.length h)))
          clear h1 h2 h3 h4 ha hb
          go_enter Try.func10, Try.ntmps10
          go_wp2_with fail
          go_ret
          rw [HE.out]
          exact ⟨rfl, HBX.out.all⟩
      · have e4 := teq_no h4
        have HE := Lib.hid (sameT_data (t := ⟨tn, tk, tl, tdat⟩) (u := ⟨un, uk, ul, udat⟩) h4)
        clear h1 h2 h4 ha hb
        go_enter Try.func10, Try.ntmps10
        go_wp2_with fail
        go_ret
        rw [HE.out]
        exact ⟨rfl, HBX.out.all⟩
    · have e2 : (tk != uk) = true := by simpa using h2
      have HE := Lib.hid (sameT_kind (t := ⟨tn, tk, tl, tdat⟩) (u := ⟨un, uk, ul, udat⟩) h2)
      clear h1 h2 ha hb
      go_enter Try.func10, Try.ntmps10
      go_wp2_with fail
      go_ret
      rw [HE.out]
      exact ⟨rfl, HBX.out.all⟩
  · have e1 := teq_no h1
    have HE := Lib.hid (sameT_name (t := ⟨tn, tk, tl, tdat⟩) (u := ⟨un, uk, ul, udat⟩) h1)
    clear h1 ha hb
    go_enter Try.func10, Try.ntmps10
    go_wp2_with fail
    go_ret
    rw [HE.out]
    exact ⟨rfl, HBX.out.all⟩
end Go.Proofs.Ytngjpgdgipmieaa
