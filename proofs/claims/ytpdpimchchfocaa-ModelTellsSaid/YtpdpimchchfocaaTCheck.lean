/- The walks of Check, the program's and the document's own, by contract. -/
import Derived.Test.YtpdpimchchfocaaGSame
import Derived.Test.YtpdpimchchfocaaTCut
import Derived.Test.YtpdpimchchfocaaKSize
import Derived.Test.YtpdpimchchfocaaSSize
import Derived.Lib.QuietBelow
import Derived.BigQuiet
import Derived.Test.YtpdpimchchfocaaText
import Derived.Test.YtpdpimchchfocaaRow
import Derived.Test.YtpdpimchchfocaaOpenRow
namespace Go.Proofs.Ytpdpimchchfocaa
open Go.RowKit M6 M7 Go.Sort

/-- a tensor that lies in the world -/
structure Tok (w : World) (t : Ten) (A : Option Addr) : Prop where
  name : t.name.size ≤ 140737488351232
  data : t.data.size ≤ 140737488351232
  kind : (Lit.int .i64 t.kind).wf = true
  dims : SR w w.heap.size 1 A t.dims.length (iv t.dims)
  len : t.dims.length ≤ maxLen
  ints : ∀ n ∈ t.dims, I64 n
theorem Tok.below {w w' : World} {t : Ten} {A : Option Addr} (h : Tok w t A) (hb : Below w.heap.size w w') : Tok w' t A := ⟨h.name, h.data, h.kind, (h.dims.below hb).more hb.size, h.len, h.ints⟩
theorem size_nat (k : Int) : ∃ s : Nat, kSize k = (s : Int) ∧ s ≤ 8 := by
  rcases kSize_is k with h | h | h | h
  · exact ⟨0, h, by omega⟩
  · exact ⟨1, h, by omega⟩
  · exact ⟨4, h, by omega⟩
  · exact ⟨8, h, by omega⟩
theorem count_nat (l : List Int) : ∃ n : Nat, (M5.sz l).1 = (n : Int) ∧ n ≤ 65536 := by
  rcases M5.sz_cases l with ⟨c, h, _⟩ | ⟨h, hs⟩
  · exact ⟨0, by rw [h]; rfl, by omega⟩
  · have h0 := M5.prd_nonneg hs.2
    rw [h]
    exact ⟨(M5.prd l).toNat, by simp; omega, by have := hs.4; simp; omega⟩
theorem small_prod {n s : Nat} (hn : n ≤ 65536) (hs : s ≤ 8) : 0 ≤ (n : Int) * (s : Int) ∧ (n : Int) * (s : Int) ≤ 524288 := by
  have := Nat.mul_le_mul hn hs
  rw [← Int.natCast_mul]
  omega

set_option maxRecDepth 100000 in
theorem tcheck_any (t : Ten) (A : Option Addr) (c : Nat) (w : World) (ht : Tok w t A) :
    Calls Try.prog 50 #[t_tv t.name t.kind (.slice A t.dims.length c) t.data] w fun e w' => e = .returned (.int .i64 (ck t)) ∧ Below w.heap.size w w' := by
  have hd := ht.data
  obtain ⟨s, hs, hs8⟩ := size_nat t.kind
  obtain ⟨n, hn, hn6⟩ := count_nat t.dims
  have HT := Lib.hid ht
  clear ht
  have HNM := Lib.hid (fun W => name_any t.name W (by have := HT.out.name; unfold maxLen; omega))
  have HBX := Lib.hid (Bx.start w #[.string t.name, .int .i64 t.kind, .slice A t.dims.length c, .string t.data] 42)
  cases hnm : nm t.name
  · have HE := Lib.hid (ck_name hnm)
    have HN := Lib.hid hnm
    clear hnm hs hn
    go_enter Try.func50, Try.ntmps50
    go_wp2_with fail
    refine (HNM.out _).mono ?_
    rintro e w1 ⟨rfl, rfl⟩
    rw [HN.out]
    go_wp2_with fail
    go_ret
    rw [HE.out]
    exact ⟨rfl, HBX.out.all⟩
  · have HN := Lib.hid hnm
    clear hnm
    go_enter Try.func50, Try.ntmps50
    go_wp2_with fail
    refine (HNM.out _).mono ?_
    rintro e w1 ⟨rfl, rfl⟩
    rw [HN.out]
    clear HNM
    go_wp2_with fail
    refine (k_size_any t.kind _ HT.out.kind).mono ?_
    rintro e w1 ⟨rfl, hb1⟩
    have H1 := Lib.hid (HBX.out.below hb1)
    clear hb1 HBX
    rw [hs]
    by_cases hs0 : s = 0
    · subst hs0
      have HE := Lib.hid (ck_kind HN.out hs)
      clear hs hn
      go_wp2_with fail
      go_ret
      rw [HE.out]
      exact ⟨rfl, H1.out.all⟩
    · have hs0' : ¬ (s : Int) = 0 := by omega
      obtain ⟨c0, c1, c2, c3⟩ := H1.out.four
      have HSZ := Lib.hid (shSize_any A c t.dims w1 HT.out.len (HT.out.below H1.out.all).dims HT.out.ints)
      have hk0 : kSize t.kind ≠ 0 := by rw [hs]; exact hs0'
      have HK0 := Lib.hid hk0
      have HSE := Lib.hid hs
      have HNE := Lib.hid hn
      clear hk0 hs hn
      go_wp2_with fail
      refine HSZ.out.mono ?_
      rintro e w2 ⟨rfl, rfl⟩
      rw [HNE.out]
      clear HSZ
      by_cases he : (M5.sz t.dims).2 = 0
      · have HE0 := Lib.hid he
        rw [he]
        clear he
        obtain ⟨p0, p1⟩ := small_prod hn6 hs8
        by_cases hf : (t.data.size : Int) = (n : Int) * (s : Int)
        · have hf' : ((t.data.size : Int) != (n : Int) * (s : Int)) = false := by simpa using hf
          have hfn : t.data.size = n * s := by rw [← Int.natCast_mul] at hf; omega
          have HF := Lib.hid hfn
          have HBAD := Lib.hid (fun (j : Nat) (hj : (j : Int) < (M5.sz t.dims).1) (h : elk t.kind t.data j = false) => ck_bad HN.out HK0.out HE0.out (by rw [HNE.out, HSE.out]; exact hf) hj h)
          have HOK := Lib.hid (fun (h : ∀ j : Nat, (j : Int) < (M5.sz t.dims).1 → elk t.kind t.data j = true) => ck_ok HN.out HK0.out HE0.out (by rw [HNE.out, HSE.out]; exact hf) h)
          clear hf hfn hs0
          go_wp2_with fail
          go_loopw [6, 33] (fun _ i wr => ∃ (k : Nat) (K : Int), i = .int .i64 K ∧ K = (k : Nat) ∧ k ≤ n ∧ (∀ j, j < k → elk t.kind t.data j = true) ∧ Bx w w.heap.size #[.string t.name, .int .i64 t.kind, .slice A t.dims.length c, .string t.data] 42 wr) (fun _ i _ => n - (intOf i).toNat)
          case atStart => exact ⟨0, _, rfl, rfl, by omega, by intro j hj; omega, H1.out⟩
          case round =>
            obtain ⟨k, K, rfl, rfl, hk, hall, hbx⟩ := hrel
            have HB := Lib.hid hbx
            have HA := Lib.hid hall
            clear hbx hall
            by_cases hlt : k < n
            · have hkn : (k + 1) * s ≤ t.data.size := by rw [HF.out]; exact Nat.mul_le_mul_right _ (by omega)
              have hst : (kSize t.kind).toNat = s := by rw [HSE.out]; omega
              have hme := may_elk (k := t.kind) (d := t.data) (j := k) (by rw [hst]; exact hkn)
              rw [hst] at hme
              have hsz8 : t.kind = 14 → (t.data.extract (k * s) ((k + 1) * s)).size = 8 := by
                intro h14
                have : s = 8 := by have := kSize_gauss h14; rw [this] at hst; omega
                subst this
                rw [ByteArray.size_extract]
                omega
              have HC := Lib.hid (fun W => t_cut_any t.name t.kind A t.dims.length c t.data k s W (by unfold maxLen; omega) hkn (by omega))
              have HM := Lib.hid (fun W => t_may_any t.kind (t.data.extract (k * s) ((k + 1) * s)) W hsz8)
              rw [hme] at HM
              obtain ⟨x0, x1, x2, x3⟩ := HB.out.four
              have q0 := fun d os => cell_regrown x0 d os
              have q1 := fun d os => cell_regrown x1 d os
              have q2 := fun d os => cell_regrown x2 d os
              have q3 := fun d os => cell_regrown x3 d os
              have hbs := HB.out.2.1
              generalize t.data.extract (k * s) ((k + 1) * s) = E at *
              clear x0 x1 x2 x3 hkn hst hme hsz8 c0 c1 c2 c3
              cases hel : elk t.kind t.data k
              · rw [hel] at HM
                have HE := Lib.hid (HBAD.out k (by rw [HNE.out]; omega) hel)
                clear hel
                go_wp2_with fail
                refine wp_region_quiet_below (by kernel_rfl) (by kernel_rfl) ?_
                repeat (go_big_quiet_step ((first
                  | (go_at_call 69; exact Calls.regrown_of (HC.out _))
                  | (go_at_call 68; exact Calls.regrown_of (HM.out _)))))
                refine wpQuiet_nil ?_
                rintro w2 ⟨p, rfl⟩
                have H2 := Lib.hid (HB.out.below (below_regrown wr p.d p.os))
                clear q0 q1 q2 q3
                generalize grow (redrawn wr p.d) p.os = w2 at H2 ⊢
                go_wp2_with fail
                go_ret
                rw [HE.out]
                exact ⟨rfl, H2.out.all⟩
              · rw [hel] at HM
                have HE := Lib.hid (succ_all (Q := fun j => elk t.kind t.data j = true) HA.out hel)
                clear hel
                go_wp2_with fail
                refine wp_region_quiet_below (by kernel_rfl) (by kernel_rfl) ?_
                repeat (go_big_quiet_step ((first
                  | (go_at_call 69; exact Calls.regrown_of (HC.out _))
                  | (go_at_call 68; exact Calls.regrown_of (HM.out _)))))
                refine wpQuiet_nil ?_
                rintro w2 ⟨p, rfl⟩
                have H2 := Lib.hid (HB.out.below (below_regrown wr p.d p.os))
                clear q0 q1 q2 q3
                generalize grow (redrawn wr p.d) p.os = w2 at H2 ⊢
                go_wp2_with fail
                go_roundw
                case rel => exact ⟨k + 1, _, rfl, by omega, by omega, HE.out, H2.out⟩
                case measure => simp [intOf]; omega
            · obtain rfl : k = n := by omega
              have HE := Lib.hid (HOK.out (by intro j hj; rw [HNE.out] at hj; exact HA.out j (by omega)))
              go_wp2_with fail
              go_ret
              rw [HE.out]
              exact ⟨rfl, HB.out.all⟩
        · have hf' : ((t.data.size : Int) != (n : Int) * (s : Int)) = true := by simpa using hf
          have HE := Lib.hid (ck_form HN.out HK0.out HE0.out (by rw [HNE.out, HSE.out]; exact hf))
          clear hf
          go_wp2_with fail
          go_ret
          rw [HE.out]
          exact ⟨rfl, H1.out.all⟩
      · have HE := Lib.hid (ck_shape HN.out HK0.out he)
        have he' : ¬ ((M5.sz t.dims).2 : Int) = 0 := by omega
        generalize hz : (M5.sz t.dims).2 = z at *
        clear he
        go_wp2_with fail
        go_ret
        rw [HE.out]
        exact ⟨rfl, H1.out.all⟩

theorem ext8 {d : ByteArray} {k n : Nat} (h : d.size = n * 8) (hk : k < n) : (d.extract (k * 8) ((k + 1) * 8)).size = 8 := by
  rw [ByteArray.size_extract]; omega

end Go.Proofs.Ytpdpimchchfocaa
/- The walks of Same, the program's and the document's own, of Elem and Of. -/
namespace Go.Proofs.Ytpdpimchchfocaa
open Go.RowKit M7

/-- are two tensors alike -/
def sameT (t u : Ten) : Bool := decide (t.name = u.name) && decide (t.kind = u.kind) && decide (t.dims = u.dims) && decide (t.data = u.data)
theorem sameT_name {t u : Ten} (h : t.name ≠ u.name) : sameT t u = false := by unfold sameT; rw [decide_eq_false h]; rfl
theorem sameT_kind {t u : Ten} (h : t.kind ≠ u.kind) : sameT t u = false := by unfold sameT; rw [decide_eq_false h]; simp
theorem sameT_dims {t u : Ten} (h : t.dims ≠ u.dims) : sameT t u = false := by unfold sameT; rw [decide_eq_false h]; simp
theorem sameT_data {t u : Ten} (h : t.data ≠ u.data) : sameT t u = false := by unfold sameT; rw [decide_eq_false h]; simp
theorem sameT_yes {t u : Ten} (h1 : t.name = u.name) (h2 : t.kind = u.kind) (h3 : t.dims = u.dims) (h4 : t.data = u.data) : sameT t u = true := by
  unfold sameT; rw [decide_eq_true h1, decide_eq_true h2, decide_eq_true h3, decide_eq_true h4]; rfl

set_option maxRecDepth 100000 in
theorem t_same_any (t u : Ten) (A B : Option Addr) (c d : Nat) (w : World) (ht : Tok w t A) (hu : Tok w u B) :
    Calls Try.prog 30 #[t_tv t.name t.kind (.slice A t.dims.length c) t.data, t_tv u.name u.kind (.slice B u.dims.length d) u.data] w fun e w' => e = .returned (.bool (sameT t u)) ∧ Below w.heap.size w w' := by
  have hbx := Bx.start w #[.string t.name, .int .i64 t.kind, .slice A t.dims.length c, .string t.data] 42
  have HBY := Lib.hid (Bx.two w (.cells #[.string t.name, .int .i64 t.kind, .slice A t.dims.length c, .string t.data] 42) #[.string u.name, .int .i64 u.kind, .slice B u.dims.length d, .string u.data] 42)
  have HBX := Lib.hid (hbx.more (.cells #[.string u.name, .int .i64 u.kind, .slice B u.dims.length d, .string u.data] 42))
  have HS := Lib.hid (shSame_any A B c d t.dims u.dims _ hu.len (ht.below HBX.out.all).dims (hu.below HBX.out.all).dims)
  clear hbx ht hu
  obtain ⟨tn, tk, tl, tdat⟩ := t
  obtain ⟨un, uk, ul, udat⟩ := u
  dsimp only at *
  by_cases h1 : tn = un
  · have e1 := teq_yes h1
    by_cases h2 : tk = uk
    · have e2 : (tk == uk) = true := by simpa using h2
      by_cases h3 : tl = ul
      · rw [decide_eq_true h3] at HS
        by_cases h4 : tdat = udat
        · have e4 := teq_yes h4
          have HE := Lib.hid (sameT_yes (t := ⟨tn, tk, tl, tdat⟩) (u := ⟨un, uk, ul, udat⟩) h1 h2 h3 h4)
          clear h1 h2 h3 h4
          go_enter Try.func30, Try.ntmps30
          go_wp2_with fail
          refine HS.out.mono ?_
          rintro e w1 ⟨rfl, hb1⟩
          have H1 := Lib.hid (HBX.out.below hb1)
          have H2 := Lib.hid (HBY.out.below hb1)
          clear hb1
          obtain ⟨x0, x1, x2, x3⟩ := H1.out.four
          obtain ⟨y0, y1, y2, y3⟩ := H2.out.four
          go_wp2_with fail
          go_ret
          rw [HE.out]
          exact ⟨rfl, H1.out.all⟩
        · have e4 := teq_no h4
          have HE := Lib.hid (sameT_data (t := ⟨tn, tk, tl, tdat⟩) (u := ⟨un, uk, ul, udat⟩) h4)
          clear h1 h2 h3 h4
          go_enter Try.func30, Try.ntmps30
          go_wp2_with fail
          refine HS.out.mono ?_
          rintro e w1 ⟨rfl, hb1⟩
          have H1 := Lib.hid (HBX.out.below hb1)
          have H2 := Lib.hid (HBY.out.below hb1)
          clear hb1
          obtain ⟨x0, x1, x2, x3⟩ := H1.out.four
          obtain ⟨y0, y1, y2, y3⟩ := H2.out.four
          go_wp2_with fail
          go_ret
          rw [HE.out]
          exact ⟨rfl, H1.out.all⟩
      · rw [decide_eq_false h3] at HS
        have HE := Lib.hid (sameT_dims (t := ⟨tn, tk, tl, tdat⟩) (u := ⟨un, uk, ul, udat⟩) h3)
        clear h1 h2 h3
        go_enter Try.func30, Try.ntmps30
        go_wp2_with fail
        refine HS.out.mono ?_
        rintro e w1 ⟨rfl, hb1⟩
        have H1 := Lib.hid (HBX.out.below hb1)
        clear hb1
        go_wp2_with fail
        go_ret
        rw [HE.out]
        exact ⟨rfl, H1.out.all⟩
    · have e2 : (tk == uk) = false := by simpa using h2
      have HE := Lib.hid (sameT_kind (t := ⟨tn, tk, tl, tdat⟩) (u := ⟨un, uk, ul, udat⟩) h2)
      clear h1 h2 HS
      go_enter Try.func30, Try.ntmps30
      go_wp2_with fail
      go_ret
      rw [HE.out]
      exact ⟨rfl, HBX.out.all⟩
  · have e1 := teq_no h1
    have HE := Lib.hid (sameT_name (t := ⟨tn, tk, tl, tdat⟩) (u := ⟨un, uk, ul, udat⟩) h1)
    clear h1 HS
    go_enter Try.func30, Try.ntmps30
    go_wp2_with fail
    go_ret
    rw [HE.out]
    exact ⟨rfl, HBX.out.all⟩

set_option maxRecDepth 100000 in
set_option maxHeartbeats 1000000 in
theorem rsame_wide (t u : Ten) (A B : Option Addr) (c d : Nat) (w : World) (ht : Tok w t A) (hu : Tok w u B) (hl : t.dims.length ≤ 9223372036854775807) :
    Calls Try.prog 20 #[t_tv t.name t.kind (.slice A t.dims.length c) t.data, t_tv u.name u.kind (.slice B u.dims.length d) u.data] w fun e w' => e = .returned (.bool (sameT t u)) ∧ Below w.heap.size w w' := by
  have hbx := Bx.start w #[.string t.name, .int .i64 t.kind, .slice A t.dims.length c, .string t.data] 68
  have HBY := Lib.hid (Bx.two w (.cells #[.string t.name, .int .i64 t.kind, .slice A t.dims.length c, .string t.data] 68) #[.string u.name, .int .i64 u.kind, .slice B u.dims.length d, .string u.data] 68)
  have HBX := Lib.hid (hbx.more (.cells #[.string u.name, .int .i64 u.kind, .slice B u.dims.length d, .string u.data] 68))
  have ha := (ht.below HBX.out.all).dims
  have hb := (hu.below HBX.out.all).dims
  clear hbx ht hu
  obtain ⟨tn, tk, tl, tdat⟩ := t
  obtain ⟨un, uk, ul, udat⟩ := u
  dsimp only at *
  by_cases h1 : tn = un
  · have e1 := teq_yes h1
    by_cases h2 : tk = uk
    · have e2 : (tk != uk) = false := by simpa using h2
      by_cases h4 : tdat = udat
      · have e4 := teq_yes h4
        by_cases h3 : tl.length = ul.length
        · have e3 : ((tl.length : Int) != (ul.length : Int)) = false := by simp; omega
          have HY := Lib.hid (fun h => sameT_yes (t := ⟨tn, tk, tl, tdat⟩) (u := ⟨un, uk, ul, udat⟩) h1 h2 h h4)
          have HL := Lib.hid h3
          clear h1 h2 h3 h4
          go_enter Try.func20, Try.ntmps20
          go_wp2_with fail
          go_loopw [5] (fun i wr => ∃ (k : Nat) (K : Int), i = .int .i64 K ∧ K = (k : Nat) ∧ k ≤ tl.length ∧ tl.take k = ul.take k ∧ Below ((w.alloc (.cells #[.string tn, .int .i64 tk, .slice A tl.length c, .string tdat] 68)).alloc (.cells #[.string un, .int .i64 uk, .slice B ul.length d, .string udat] 68)).heap.size ((w.alloc (.cells #[.string tn, .int .i64 tk, .slice A tl.length c, .string tdat] 68)).alloc (.cells #[.string un, .int .i64 uk, .slice B ul.length d, .string udat] 68)) wr) (fun i _ => tl.length - (intOf i).toNat)
          case atStart => exact ⟨0, _, rfl, rfl, by omega, rfl, Below.refl _ _⟩
          case round =>
            obtain ⟨k, K, rfl, rfl, hk, htk, hbw⟩ := hrel
            obtain ⟨x0, x1, x2, x3⟩ := (HBX.out.below hbw).four
            obtain ⟨y0, y1, y2, y3⟩ := (HBY.out.below hbw).four
            have HT := Lib.hid htk
            have HB := Lib.hid hbw
            have hbz := hbw.size
            clear htk
            by_cases hlt : k < tl.length
            · have hlt' : k < ul.length := by rw [← HL.out]; exact hlt
              obtain ⟨b1, o1, rfl, hb1, z0⟩ := int_at (ha.below hbw) hlt
              obtain ⟨b2, o2, rfl, hb2, z1⟩ := int_at (hb.below hbw) hlt'
              have HY2 := Lib.hid (take_same_yes HT.out hlt hlt')
              have HN := Lib.hid (take_same_no (l := tl) (m := ul) hlt hlt')
              clear ha hb hbw
              generalize tl[k] = u at *
              generalize ul[k] = v at *
              by_cases huv : u = v
              · subst huv
                have HE := Lib.hid (HY2.out rfl)
                go_wp2_with fail
                go_quiet (fail)
                go_wp2_with fail
                go_roundw
                case rel => exact ⟨k + 1, _, rfl, by omega, by omega, HE.out, below_drewN HB.out _⟩
                case measure => simp [intOf]; omega
              · have HE := Lib.hid (sameT_dims (t := ⟨tn, tk, tl, tdat⟩) (u := ⟨un, uk, ul, udat⟩) (HN.out huv))
                have huv' : (u != v) = true := by simpa using huv
                clear huv
                go_wp2_with fail
                go_quiet (fail)
                go_wp2_with fail
                go_ret
                rw [HE.out]
                exact ⟨rfl, HBX.out.all.trans ((below_drewN HB.out _).mono HBX.out.all.size)⟩
            · obtain rfl : k = tl.length := by omega
              have HE := Lib.hid (HY.out (take_same_all HL.out (by rw [← HL.out]; exact HT.out)))
              clear ha hb hbw
              go_wp2_with fail
              go_ret
              rw [HE.out]
              exact ⟨rfl, HBX.out.all.trans (HB.out.mono HBX.out.all.size)⟩
        · have e3 : ((tl.length : Int) != (ul.length : Int)) = true := by simp; omega
          have HE := Lib.hid (sameT_dims (t := ⟨tn, tk, tl, tdat⟩) (u := ⟨un, uk, ul, udat⟩) (fun h => h3 (congrArg List.length h)))
          clear h1 h2 h3 h4 ha hb
          go_enter Try.func20, Try.ntmps20
          go_wp2_with fail
          go_ret
          rw [HE.out]
          exact ⟨rfl, HBX.out.all⟩
      · have e4 := teq_no h4
        have HE := Lib.hid (sameT_data (t := ⟨tn, tk, tl, tdat⟩) (u := ⟨un, uk, ul, udat⟩) h4)
        clear h1 h2 h4 ha hb
        go_enter Try.func20, Try.ntmps20
        go_wp2_with fail
        go_ret
        rw [HE.out]
        exact ⟨rfl, HBX.out.all⟩
    · have e2 : (tk != uk) = true := by simpa using h2
      have HE := Lib.hid (sameT_kind (t := ⟨tn, tk, tl, tdat⟩) (u := ⟨un, uk, ul, udat⟩) h2)
      clear h1 h2 ha hb
      go_enter Try.func20, Try.ntmps20
      go_wp2_with fail
      go_ret
      rw [HE.out]
      exact ⟨rfl, HBX.out.all⟩
  · have e1 := teq_no h1
    have HE := Lib.hid (sameT_name (t := ⟨tn, tk, tl, tdat⟩) (u := ⟨un, uk, ul, udat⟩) h1)
    clear h1 ha hb
    go_enter Try.func20, Try.ntmps20
    go_wp2_with fail
    go_ret
    rw [HE.out]
    exact ⟨rfl, HBX.out.all⟩
theorem rsame_any (t u : Ten) (A B : Option Addr) (c d : Nat) (w : World) (ht : Tok w t A) (hu : Tok w u B) (hl : t.dims.length ≤ 20) :
    Calls Try.prog 20 #[t_tv t.name t.kind (.slice A t.dims.length c) t.data, t_tv u.name u.kind (.slice B u.dims.length d) u.data] w fun e w' => e = .returned (.bool (sameT t u)) ∧ Below w.heap.size w w' :=
  rsame_wide t u A B c d w ht hu (by omega)
end Go.Proofs.Ytpdpimchchfocaa
/- Models: what they are, when two are alike, what a clone holds; elements in a row of cells. No walk. -/
namespace Go.Proofs.Ytpdpimchchfocaa
open Go.RowKit M7

namespace M10
structure Inf where
  name : ByteArray
  kind : Int
  dims : List Int
deriving Inhabited
structure Att where
  name : ByteArray
  one : Bool
  int : Int
  ints : List Int
deriving Inhabited
structure Nod where
  op : ByteArray
  ins : List ByteArray
  out : ByteArray
  attrs : List Att
deriving Inhabited
structure Mod where
  opset : Int
  inputs : List Inf
  outputs : List Inf
  inits : List Ten
  nodes : List Nod
end M10
open M10
deriving instance Inhabited for Ten

/-- two lists, element by element -/
def eqAll {α : Type} (f : α → α → Bool) : List α → List α → Bool
  | [], [] => true
  | a :: l, b :: m => f a b && eqAll f l m
  | _, _ => false
/-- .. so far -/
def eqTo {α : Type} (f : α → α → Bool) (l m : List α) (k : Nat) : Prop := ∀ j, j < k → ∀ (h1 : j < l.length) (h2 : j < m.length), f l[j] m[j] = true
section
variable {α : Type} {f : α → α → Bool}
theorem eqAll_len : ∀ {l m : List α}, l.length ≠ m.length → eqAll f l m = false
  | [], [], h => absurd rfl h
  | [], _ :: _, _ => rfl
  | _ :: _, [], _ => rfl
  | a :: l, b :: m, h => by
    have := eqAll_len (l := l) (m := m) (by simpa using h)
    simp [eqAll, this]
theorem eqAll_no : ∀ {l m : List α} {k : Nat} (h1 : k < l.length) (h2 : k < m.length), f l[k] m[k] = false → eqAll f l m = false
  | [], _, _, h1, _, _ => absurd h1 (by simp)
  | _ :: _, [], _, _, h2, _ => absurd h2 (by simp)
  | a :: l, b :: m, 0, _, _, h => by
    have h' : f a b = false := by simpa using h
    simp [eqAll, h']
  | a :: l, b :: m, k + 1, h1, h2, h => by
    have := eqAll_no (l := l) (m := m) (k := k) (by simpa using h1) (by simpa using h2) (by simpa using h)
    simp [eqAll, this]
theorem eqAll_yes : ∀ {l m : List α}, l.length = m.length → eqTo f l m l.length → eqAll f l m = true
  | [], [], _, _ => rfl
  | [], _ :: _, h, _ => by simp at h
  | _ :: _, [], h, _ => by simp at h
  | a :: l, b :: m, h, ht => by
    have h0 : f a b = true := ht 0 (by simp) (by simp) (by simp)
    have := eqAll_yes (l := l) (m := m) (by simpa using h) (fun j hj h1 h2 => ht (j + 1) (Nat.succ_lt_succ hj) (Nat.succ_lt_succ h1) (Nat.succ_lt_succ h2))
    simp [eqAll, h0, this]
theorem eqTo_zero (l m : List α) : eqTo f l m 0 := fun j h => absurd h (by omega)
theorem eqTo_succ {l m : List α} {k : Nat} (h : eqTo f l m k) (h1 : k < l.length) (h2 : k < m.length) (hf : f l[k] m[k] = true) : eqTo f l m (k + 1) := by
  intro j hj a b
  by_cases hjk : j = k
  · subst hjk; exact hf
  · exact h j (by omega) a b
theorem eqAll_refl (hr : ∀ a, f a a = true) : ∀ l : List α, eqAll f l l = true
  | [] => rfl
  | a :: l => by simp [eqAll, hr a, eqAll_refl hr l]
theorem eqAll_map {g : α → α} (hr : ∀ a, f (g a) a = true) : ∀ l : List α, eqAll f (l.map g) l = true
  | [] => rfl
  | a :: l => by simp [eqAll, hr a, eqAll_map hr l]
theorem eqAll_map2 {g : α → α} (hr : ∀ a, f a (g a) = true) : ∀ l : List α, eqAll f l (l.map g) = true
  | [] => rfl
  | a :: l => by simp [eqAll, hr a, eqAll_map2 hr l]
end
theorem eqAll_eq {α : Type} [DecidableEq α] : ∀ (l m : List α), eqAll (fun a b => decide (a = b)) l m = decide (l = m)
  | [], [] => by simp [eqAll]
  | [], _ :: _ => by simp [eqAll]
  | _ :: _, [] => by simp [eqAll]
  | a :: l, b :: m => by rw [eqAll, eqAll_eq l m]; simp

/-- are two infos alike -/
def sameI (i j : Inf) : Bool := decide (i.name = j.name) && decide (i.kind = j.kind) && decide (i.dims = j.dims)
/-- are two attributes alike -/
def sameA (a b : Att) : Bool := decide (a.name = b.name) && (a.one == b.one) && (if a.one then decide (a.int = b.int) else decide (a.ints = b.ints))
/-- are two nodes alike -/
def sameN (n o : Nod) : Bool := decide (n.op = o.op) && decide (n.ins = o.ins) && decide (n.out = o.out) && eqAll sameA n.attrs o.attrs
/-- are two models alike -/
def sameM (m n : Mod) : Bool := decide (m.opset = n.opset) && eqAll sameI m.inputs n.inputs && eqAll sameI m.outputs n.outputs && eqAll sameT m.inits n.inits && eqAll sameN m.nodes n.nodes
/-- what a clone holds of an attribute -/
def nA (a : Att) : Att := if a.one then ⟨a.name, true, a.int, []⟩ else ⟨a.name, false, 0, a.ints⟩
def nN (n : Nod) : Nod := ⟨n.op, n.ins, n.out, n.attrs.map nA⟩
def nM (m : Mod) : Mod := ⟨m.opset, m.inputs, m.outputs, m.inits, m.nodes.map nN⟩
theorem sameT_refl (t : Ten) : sameT t t = true := sameT_yes rfl rfl rfl rfl
theorem sameI_refl (i : Inf) : sameI i i = true := by simp [sameI]
theorem sameA_refl (a : Att) : sameA a a = true := by unfold sameA; cases a.one <;> simp
theorem sameA_nA (a : Att) : sameA (nA a) a = true := by unfold sameA nA; cases h : a.one <;> simp
theorem sameA_nA2 (a : Att) : sameA a (nA a) = true := by unfold sameA nA; cases h : a.one <;> simp
theorem sameN_refl (n : Nod) : sameN n n = true := by simp [sameN, eqAll_refl sameA_refl]
theorem sameN_nN (n : Nod) : sameN (nN n) n = true := by simp [sameN, nN, eqAll_map sameA_nA]
theorem sameN_nN2 (n : Nod) : sameN n (nN n) = true := by simp [sameN, nN, eqAll_map2 sameA_nA2]
theorem sameM_refl (m : Mod) : sameM m m = true := by simp [sameM, eqAll_refl sameI_refl, eqAll_refl sameT_refl, eqAll_refl sameN_refl]
theorem sameM_nM (m : Mod) : sameM (nM m) m = true := by simp [sameM, nM, eqAll_refl sameI_refl, eqAll_refl sameT_refl, eqAll_map sameN_nN]
theorem sameM_nM2 (m : Mod) : sameM m (nM m) = true := by simp [sameM, nM, eqAll_refl sameI_refl, eqAll_refl sameT_refl, eqAll_map2 sameN_nN2]

/-- elements and their cells -/
def Al {α : Type} (P : α → List Value → Prop) : List α → List (List Value) → Prop
  | [], [] => True
  | a :: l, c :: cs => P a c ∧ Al P l cs
  | _, _ => False
section
variable {α : Type} {P Q : α → List Value → Prop}
theorem Al.len : ∀ {l : List α} {css : List (List Value)}, Al P l css → l.length = css.length
  | [], [], _ => rfl
  | _ :: _, [], h => h.elim
  | [], _ :: _, h => h.elim
  | _ :: l, _ :: css, h => by simp [Al.len h.2]
theorem Al.mono (hm : ∀ a c, P a c → Q a c) : ∀ {l : List α} {css : List (List Value)}, Al P l css → Al Q l css
  | [], [], _ => trivial
  | _ :: _, [], h => h.elim
  | [], _ :: _, h => h.elim
  | _ :: _, _ :: _, h => ⟨hm _ _ h.1, Al.mono hm h.2⟩
theorem Al.get : ∀ {l : List α} {css : List (List Value)} {k : Nat} (_ : Al P l css) (h1 : k < l.length) (h2 : k < css.length), P l[k] css[k]
  | [], _, _, _, h1, _ => absurd h1 (by simp)
  | _ :: _, [], _, h, _, _ => h.elim
  | a :: l, c :: css, 0, h, _, _ => h.1
  | a :: l, c :: css, k + 1, h, h1, h2 => by simpa using Al.get h.2 (by simpa using h1) (by simpa using h2)
theorem Al.mem {l : List α} {css : List (List Value)} (h : Al P l css) : ∀ c ∈ css, ∃ a ∈ l, P a c := by
  intro c hc
  obtain ⟨k, hk, rfl⟩ := List.mem_iff_getElem.1 hc
  have h1 : k < l.length := by rw [h.len]; exact hk
  exact ⟨l[k], List.getElem_mem h1, h.get h1 hk⟩
theorem Al.snoc : ∀ {l : List α} {css : List (List Value)} {a : α} {c : List Value}, Al P l css → P a c → Al P (l ++ [a]) (css ++ [c])
  | [], [], _, _, _, hp => ⟨hp, trivial⟩
  | _ :: _, [], _, _, h, _ => h.elim
  | [], _ :: _, _, _, h, _ => h.elim
  | _ :: _, _ :: _, _, _, h, hp => ⟨h.1, Al.snoc h.2 hp⟩
theorem Al.of_get : ∀ {l : List α} {css : List (List Value)}, l.length = css.length → (∀ k (h1 : k < l.length) (h2 : k < css.length), P l[k] css[k]) → Al P l css
  | [], [], _, _ => trivial
  | _ :: _, [], h, _ => by simp at h
  | [], _ :: _, h, _ => by simp at h
  | a :: l, c :: css, h, hg => ⟨hg 0 (by simp) (by simp), Al.of_get (by simpa using h) fun k h1 h2 => hg (k + 1) (Nat.succ_lt_succ h1) (Nat.succ_lt_succ h2)⟩
theorem Al.nil_inv {css : List (List Value)} (h : Al P [] css) : css = [] := by cases css with | nil => rfl | cons _ _ => exact h.elim
end
theorem m_flat_len {size : Nat} : ∀ {css : List (List Value)}, (∀ c ∈ css, c.length = size) → css.flatten.length = css.length * size
  | [], _ => by simp
  | c :: css, h => by
    rw [List.flatten_cons, List.length_append, m_flat_len (fun x hx => h x (List.mem_cons_of_mem _ hx)), h c List.mem_cons_self, List.length_cons, Nat.succ_mul]
    omega
theorem flat_at {size : Nat} : ∀ {css : List (List Value)} {k : Nat}, (∀ c ∈ css, c.length = size) → ∀ (hk : k < css.length) (j : Nat), j < size → css.flatten[k * size + j]? = css[k][j]?
  | [], _, _, hk, _, _ => absurd hk (by simp)
  | c :: css, 0, h, _, j, hj => by
    have hc := h c List.mem_cons_self
    rw [List.flatten_cons, Nat.zero_mul, Nat.zero_add, List.getElem?_append_left (by omega)]
    rfl
  | c :: css, k + 1, h, hk, j, hj => by
    have hc := h c List.mem_cons_self
    rw [List.flatten_cons, List.getElem?_append_right (by rw [Nat.succ_mul]; omega), hc, show (k + 1) * size + j - size = k * size + j by rw [Nat.succ_mul]; omega]
    simpa using flat_at (css := css) (k := k) (fun x hx => h x (List.mem_cons_of_mem _ hx)) (by simpa using hk) j hj

/-- what stays of a kind of element: its cells' number; through new blocks; in a wider world -/
structure Ek {α : Type} (P : Nat → World → α → List Value → Prop) (size : Nat) : Prop where
  len : ∀ {B w a cs}, P B w a cs → cs.length = size
  below : ∀ {B w w' a cs}, P B w a cs → Below B w w' → P B w' a cs
  more : ∀ {B B' w a cs}, P B w a cs → B ≤ B' → P B' w a cs
/-- a slice of elements of several cells -/
def DR {α : Type} (P : Nat → World → α → List Value → Prop) (w : World) (B size : Nat) (A : Option Addr) (l : List α) : Prop :=
  ∃ css, Al (P B w) l css ∧ SR w B size A l.length css.flatten
section
variable {α : Type} {P : Nat → World → α → List Value → Prop} {w w' : World} {B B' size : Nat} {A : Option Addr} {l : List α}
theorem Ek.all (hk : Ek P size) {css : List (List Value)} (h : Al (P B w) l css) : ∀ c ∈ css, c.length = size := fun c hc => by
  obtain ⟨a, _, hp⟩ := h.mem c hc
  exact hk.len hp
theorem DR.below (h : DR P w B size A l) (hk : Ek P size) (hb : Below B w w') : DR P w' B size A l := by
  obtain ⟨css, ha, hs⟩ := h
  exact ⟨css, ha.mono fun _ _ hp => hk.below hp hb, hs.below hb⟩
theorem DR.more (h : DR P w B size A l) (hk : Ek P size) (hB : B ≤ B') : DR P w B' size A l := by
  obtain ⟨css, ha, hs⟩ := h
  exact ⟨css, ha.mono fun _ _ hp => hk.more hp hB, hs.more hB⟩
theorem DR.at_ (h : DR P w B size A l) (hk : Ek P size) {k : Nat} (hlt : k < l.length) :
    ∃ b o cs, A = some ⟨b, o, none⟩ ∧ b < B ∧ P B w l[k] cs ∧ ∀ j u, cs[j]? = some u → w.cell? ⟨b, o + k * size + j, none⟩ = some u := by
  obtain ⟨css, ha, hs⟩ := h
  have hkc : k < css.length := by rw [← ha.len]; exact hlt
  obtain ⟨b, o, hA, hb, hc⟩ := hs.at_ hlt
  refine ⟨b, o, css[k], hA, hb, ha.get hlt hkc, fun j u hj => ?_⟩
  have hcl := hk.len (ha.get hlt hkc)
  have hjs : j < size := by have := (List.getElem?_eq_some_iff.1 hj).1; omega
  exact hc j hjs u (by rw [flat_at (hk.all ha) hkc j hjs]; exact hj)
theorem DR.empty (w : World) (B : Nat) (A : Option Addr) : DR P w B size A [] := ⟨[], trivial, SR.empty _ _ _ _⟩
theorem DR.all (h : DR P w B size A l) : ∀ a ∈ l, ∃ cs, P B w a cs := by
  intro a ha
  obtain ⟨css, hal, _⟩ := h
  obtain ⟨k, hk, rfl⟩ := List.mem_iff_getElem.1 ha
  exact ⟨_, hal.get hk (by rw [← hal.len]; exact hk)⟩
end

/-- the widest that an argument's text or list can be -/
def RB : Nat := 140737488351232
structure IOk (i : Inf) : Prop where
  name : i.name.size ≤ 140737488351232
  kind : (Lit.int .i64 i.kind).wf = true
  len : i.dims.length * 8 ≤ 140737488351232
  ints : ∀ n ∈ i.dims, I64 n
structure TOk (t : Ten) : Prop where
  name : t.name.size ≤ 140737488351232
  data : t.data.size ≤ 140737488351232
  kind : (Lit.int .i64 t.kind).wf = true
  len : t.dims.length * 8 ≤ 140737488351232
  ints : ∀ n ∈ t.dims, I64 n
structure AOk (a : Att) : Prop where
  name : a.name.size ≤ 140737488351232
  len : a.ints.length * 8 ≤ 140737488351232
  int : I64 a.int
  ints : ∀ n ∈ a.ints, I64 n
structure NOk (n : Nod) : Prop where
  op : n.op.size ≤ 140737488351232
  out : n.out.size ≤ 140737488351232
  ins : ∀ s ∈ n.ins, s.size ≤ 140737488351232
  len : n.ins.length * 16 ≤ 140737488351232
  alen : n.attrs.length * 56 ≤ 140737488351232
def InfAt (B : Nat) (w : World) (i : Inf) (cs : List Value) : Prop :=
  ∃ A c, cs = [.string i.name, .int .i64 i.kind, .slice A i.dims.length c] ∧ SR w B 1 A i.dims.length (iv i.dims) ∧ IOk i
def TenAt (B : Nat) (w : World) (t : Ten) (cs : List Value) : Prop :=
  ∃ A c, cs = [.string t.name, .int .i64 t.kind, .slice A t.dims.length c, .string t.data] ∧ SR w B 1 A t.dims.length (iv t.dims) ∧ TOk t
def AttAt (B : Nat) (w : World) (a : Att) (cs : List Value) : Prop :=
  ∃ A c, cs = [.string a.name, .bool a.one, .int .i64 a.int, .slice A a.ints.length c] ∧ SR w B 1 A a.ints.length (iv a.ints) ∧ AOk a
def NodAt (B : Nat) (w : World) (n : Nod) (cs : List Value) : Prop :=
  ∃ A c A' c', cs = [.string n.op, .slice A n.ins.length c, .string n.out, .slice A' n.attrs.length c'] ∧ SR w B 1 A n.ins.length (n.ins.map Value.string) ∧ DR AttAt w B 4 A' n.attrs ∧ NOk n
theorem ek_inf : Ek InfAt 3 := ⟨fun ⟨_, _, h, _⟩ => by rw [h]; rfl, fun ⟨A, c, h, hs, ho⟩ hb => ⟨A, c, h, hs.below hb, ho⟩, fun ⟨A, c, h, hs, ho⟩ hb => ⟨A, c, h, hs.more hb, ho⟩⟩
theorem ek_ten : Ek TenAt 4 := ⟨fun ⟨_, _, h, _⟩ => by rw [h]; rfl, fun ⟨A, c, h, hs, ho⟩ hb => ⟨A, c, h, hs.below hb, ho⟩, fun ⟨A, c, h, hs, ho⟩ hb => ⟨A, c, h, hs.more hb, ho⟩⟩
theorem ek_att : Ek AttAt 4 := ⟨fun ⟨_, _, h, _⟩ => by rw [h]; rfl, fun ⟨A, c, h, hs, ho⟩ hb => ⟨A, c, h, hs.below hb, ho⟩, fun ⟨A, c, h, hs, ho⟩ hb => ⟨A, c, h, hs.more hb, ho⟩⟩
theorem ek_nod : Ek NodAt 4 := ⟨fun ⟨_, _, _, _, h, _⟩ => by rw [h]; rfl, fun ⟨A, c, A', c', h, hs, hd, ho⟩ hb => ⟨A, c, A', c', h, hs.below hb, hd.below ek_att hb, ho⟩, fun ⟨A, c, A', c', h, hs, hd, ho⟩ hb => ⟨A, c, A', c', h, hs.more hb, hd.more ek_att hb, ho⟩⟩
theorem TOk.tok {t : Ten} (h : TOk t) {w : World} {A : Option Addr} (hs : SR w w.heap.size 1 A t.dims.length (iv t.dims)) : Tok w t A := ⟨h.name, h.data, h.kind, hs, by have := h.len; unfold maxLen; omega, h.ints⟩
/-- a model that lies in the world -/
structure ModAt (B : Nat) (w : World) (m : Mod) (A1 A2 A3 A4 : Option Addr) : Prop where
  inputs : DR InfAt w B 3 A1 m.inputs
  outputs : DR InfAt w B 3 A2 m.outputs
  inits : DR TenAt w B 4 A3 m.inits
  nodes : DR NodAt w B 4 A4 m.nodes
  opset : I64 m.opset
  len1 : m.inputs.length * 48 ≤ 140737488351232
  len2 : m.outputs.length * 48 ≤ 140737488351232
  len3 : m.inits.length * 64 ≤ 140737488351232
  len4 : m.nodes.length * 80 ≤ 140737488351232
theorem ModAt.below {B : Nat} {w w' : World} {m : Mod} {A1 A2 A3 A4 : Option Addr} (h : ModAt B w m A1 A2 A3 A4) (hb : Below B w w') : ModAt B w' m A1 A2 A3 A4 :=
  ⟨h.inputs.below ek_inf hb, h.outputs.below ek_inf hb, h.inits.below ek_ten hb, h.nodes.below ek_nod hb, h.opset, h.len1, h.len2, h.len3, h.len4⟩
theorem ModAt.more {B B' : Nat} {w : World} {m : Mod} {A1 A2 A3 A4 : Option Addr} (h : ModAt B w m A1 A2 A3 A4) (hb : B ≤ B') : ModAt B' w m A1 A2 A3 A4 :=
  ⟨h.inputs.more ek_inf hb, h.outputs.more ek_inf hb, h.inits.more ek_ten hb, h.nodes.more ek_nod hb, h.opset, h.len1, h.len2, h.len3, h.len4⟩
/-- its five cells -/
def mv (o : Int) (A1 : Option Addr) (n1 c1 : Nat) (A2 : Option Addr) (n2 c2 : Nat) (A3 : Option Addr) (n3 c3 : Nat) (A4 : Option Addr) (n4 c4 : Nat) : Array Value :=
  #[.int .i64 o, .slice A1 n1 c1, .slice A2 n2 c2, .slice A3 n3 c3, .slice A4 n4 c4]
end Go.Proofs.Ytpdpimchchfocaa
/- The walks of the program's Same: of texts, infos, attributes, nodes, models; lists by a function, element by element. -/
namespace Go.Proofs.Ytpdpimchchfocaa
open Go.RowKit M7 M10

/-- texts as cells -/
def m_tx (l : List ByteArray) : List Value := l.map Value.string
theorem tx_len (l : List ByteArray) : (m_tx l).length = l.length := by simp [m_tx]
theorem m_txt_at {w : World} {B : Nat} {A : Option Addr} {l : List ByteArray} (h : SR w B 1 A l.length (m_tx l)) {k : Nat} (hk : k < l.length) :
    ∃ b o, A = some ⟨b, o, none⟩ ∧ b < B ∧ w.cell? ⟨b, o + k, none⟩ = some (.string l[k]) := cell_at h hk (by simp [m_tx, hk])
theorem eqTo_no {α : Type} [DecidableEq α] {l m : List α} {k : Nat} (h1 : k < l.length) (h2 : k < m.length) (he : l[k] ≠ m[k]) : decide (l = m) = false := decide_eq_false (by rintro rfl; exact he rfl)
theorem eqTo_yes {α : Type} [DecidableEq α] {l m : List α} (hl : l.length = m.length) (h : eqTo (fun a b => decide (a = b)) l m l.length) : decide (l = m) = true := by
  rw [← eqAll_eq]; exact eqAll_yes hl h
theorem teq_ne_yes {a b : ByteArray} (h : a = b) : (a.toList != b.toList) = false := by rw [bne, teq_yes h]; rfl
theorem teq_ne_no {a b : ByteArray} (h : a ≠ b) : (a.toList != b.toList) = true := by rw [bne, teq_no h]; rfl

set_option maxRecDepth 100000 in
theorem m_texts_any (A B : Option Addr) (c d : Nat) (l m : List ByteArray) (w : World) (hm : m.length ≤ maxLen) (ha : SR w w.heap.size 1 A l.length (m_tx l)) (hb : SR w w.heap.size 1 B m.length (m_tx m)) :
    Calls Try.prog 52 #[.slice A l.length c, .slice B m.length d] w fun e w' => e = .returned (.bool (decide (l = m))) ∧ Below w.heap.size w w' := by
  unfold maxLen at hm
  by_cases hlm : l.length = m.length
  · have hlm' : ((l.length : Int) != (m.length : Int)) = false := by simp; omega
    rw [hlm] at ha hlm' ⊢
    have HLM := Lib.hid hlm
    clear hlm
    go_enter Try.func52, Try.ntmps52
    go_wp2
    go_loopw [5, 13] (fun _ i wr => ∃ (k : Nat) (K : Int), i = .int .i64 K ∧ K = (k : Nat) ∧ k ≤ m.length ∧ Below w.heap.size w wr ∧ eqTo (fun a b => decide (a = b)) l m k) (fun _ i _ => m.length - (intOf i).toNat)
    case atStart => exact ⟨0, _, rfl, rfl, by omega, Below.refl _ _, eqTo_zero _ _⟩
    case round =>
      obtain ⟨k, K, rfl, rfl, hk, hbw, htk⟩ := hrel
      have HT := Lib.hid htk
      clear htk
      by_cases hlt : k < m.length
      · have hlt' : k < l.length := by rw [HLM.out]; exact hlt
        have ha' : SR w w.heap.size 1 A l.length (m_tx l) := by rw [HLM.out]; exact ha
        obtain ⟨b1, o1, rfl, hb1, x0⟩ := m_txt_at (ha'.below hbw) hlt'
        obtain ⟨b2, o2, rfl, hb2, y0⟩ := m_txt_at (hb.below hbw) hlt
        have HB := Lib.hid hbw
        have HY := Lib.hid (fun h => eqTo_succ HT.out hlt' hlt h)
        have HN := Lib.hid (eqTo_no (l := l) (m := m) hlt' hlt)
        clear ha hb hbw ha'
        generalize l[k] = u at *
        generalize m[k] = v at *
        clear hlt'
        by_cases huv : u = v
        · have HE := Lib.hid (HY.out (decide_eq_true huv))
          have hn := teq_yes huv
          clear huv
          go_wp2_with fail
          go_quiet (fail)
          go_wp2_with fail
          go_roundw
          case rel => exact ⟨k + 1, _, rfl, by omega, by omega, below_drewN HB.out _, HE.out⟩
          case measure => simp [intOf]; omega
        · have HE := Lib.hid (HN.out huv)
          have hn := teq_no huv
          clear huv
          go_wp2_with fail
          go_quiet (fail)
          go_wp2_with fail
          go_ret
          rw [HE.out]
          exact ⟨rfl, below_drewN HB.out _⟩
      · obtain rfl : k = m.length := by omega
        go_wp2
        go_ret
        rw [eqTo_yes HLM.out (by rw [HLM.out]; exact HT.out)]
        exact ⟨rfl, hbw⟩
  · have hlm' : ((l.length : Int) != (m.length : Int)) = true := by simp; omega
    have HE : Hid (decide (l = m) = false) := Lib.hid (decide_eq_false fun h => hlm (by rw [h]))
    clear hlm ha hb
    go_enter Try.func52, Try.ntmps52
    go_wp2_with fail
    go_ret
    rw [HE.out]
    exact ⟨rfl, Below.refl _ _⟩

theorem InfAt.shape {B : Nat} {w : World} {i : Inf} {cs : List Value} (h : InfAt B w i cs) : ∃ A c, cs = [.string i.name, .int .i64 i.kind, .slice A i.dims.length c] := by
  obtain ⟨A, c, h, _⟩ := h; exact ⟨A, c, h⟩
theorem TenAt.shape {B : Nat} {w : World} {t : Ten} {cs : List Value} (h : TenAt B w t cs) : ∃ A c, cs = [.string t.name, .int .i64 t.kind, .slice A t.dims.length c, .string t.data] := by
  obtain ⟨A, c, h, _⟩ := h; exact ⟨A, c, h⟩
theorem AttAt.shape {B : Nat} {w : World} {a : Att} {cs : List Value} (h : AttAt B w a cs) : ∃ A c, cs = [.string a.name, .bool a.one, .int .i64 a.int, .slice A a.ints.length c] := by
  obtain ⟨A, c, h, _⟩ := h; exact ⟨A, c, h⟩
theorem NodAt.shape {B : Nat} {w : World} {n : Nod} {cs : List Value} (h : NodAt B w n cs) : ∃ A c A' c', cs = [.string n.op, .slice A n.ins.length c, .string n.out, .slice A' n.attrs.length c'] := by
  obtain ⟨A, c, A', c', h, _⟩ := h; exact ⟨A, c, A', c', h⟩
theorem alloc_cell {w : World} {a : Addr} {v : Value} (h : w.cell? a = some v) (o : Obj) : (w.alloc o).cell? a = some v := (((Below.refl w.heap.size w).alloc (Nat.le_refl _) o).cell (p := a) (block_lt_of_cell h)).trans h
theorem int_beq (a b : Int) : (a == b) = decide (a = b) := by rw [Bool.eq_iff_iff]; simp
theorem two_new {B : Nat} (w : World) (o o2 : Obj) (h : B ≤ w.heap.size) : Below B w ((w.alloc o).alloc o2) := ((Below.refl _ _).alloc h _).alloc (by simp; omega) _

set_option maxRecDepth 100000 in
theorem m_info_any (i j : Inf) (ci cj : List Value) (w : World) (hi : InfAt w.heap.size w i ci) (hj : InfAt w.heap.size w j cj) :
    Calls Try.prog 28 #[.agg ci.toArray, .agg cj.toArray] w fun e w' => e = .returned (.bool (sameI i j)) ∧ Below w.heap.size w w' := by
  obtain ⟨A, c, rfl, ha, oi⟩ := hi
  obtain ⟨B, d, rfl, hb, oj⟩ := hj
  have hlen := oj.len
  have hbx := Bx.start w #[.string i.name, .int .i64 i.kind, .slice A i.dims.length c] 40
  have HBX := Lib.hid (hbx.more (.cells #[.string j.name, .int .i64 j.kind, .slice B j.dims.length d] 40))
  have HS := Lib.hid (slEqual_any A B c d i.dims j.dims _ (by unfold maxLen; omega) ((ha.below HBX.out.all).more HBX.out.all.size) ((hb.below HBX.out.all).more HBX.out.all.size))
  clear hbx ha hb oi oj hlen
  obtain ⟨tn, tk, tl⟩ := i
  obtain ⟨un, uk, ul⟩ := j
  dsimp only at *
  unfold sameI
  dsimp only
  by_cases h1 : tn = un
  · have e1 := teq_yes h1
    rw [decide_eq_true h1]
    clear h1
    by_cases h2 : tk = uk
    · have e2 : (tk == uk) = true := by simpa using h2
      rw [decide_eq_true h2]
      clear h2
      go_enter Try.func28, Try.ntmps28
      go_wp2_with fail
      refine HS.out.mono ?_
      rintro e w1 ⟨rfl, hb1⟩
      have H1 := Lib.hid (HBX.out.below hb1)
      clear hb1
      go_wp2_with fail
      go_ret
      exact ⟨by simp, H1.out.all⟩
    · have e2 : (tk == uk) = false := by simpa using h2
      rw [decide_eq_false h2]
      clear h2 HS
      go_enter Try.func28, Try.ntmps28
      go_wp2_with fail
      go_ret
      exact ⟨by simp, HBX.out.all⟩
  · have e1 := teq_no h1
    rw [decide_eq_false h1]
    clear h1 HS
    go_enter Try.func28, Try.ntmps28
    go_wp2_with fail
    go_ret
    exact ⟨by simp, HBX.out.all⟩


set_option maxRecDepth 100000 in
/-- lists of infos -/
theorem m_infos_any (A B : Option Addr) (c d : Nat) (l m : List Inf) (w : World) (hm : m.length ≤ maxLen) (ha : DR InfAt w w.heap.size 3 A l) (hb : DR InfAt w w.heap.size 3 B m) :
    Calls Try.prog 27 #[.slice A l.length c, .slice B m.length d, .func (.func 28) #[] #[]] w fun e w' => e = .returned (.bool (eqAll sameI l m)) ∧ Below w.heap.size w w' := by
  unfold maxLen at hm
  by_cases hlm : l.length = m.length
  · have hlm' : ((l.length : Int) != (m.length : Int)) = false := by simp; omega
    have HC := Lib.hid (fun W i j ci cj => m_info_any i j ci cj W)
    have HL := Lib.hid hlm
    have hlm2 : (l.length : Int) = (m.length : Int) := by omega
    rw [hlm] at hlm' ⊢
    clear hlm hlm2
    go_enter Try.func27, Try.ntmps27
    go_wp2_with fail
    go_loopw [7, 8, 9, 17] (fun _ _ _ i wr => ∃ (k : Nat) (K : Int), i = .int .i64 K ∧ K = (k : Nat) ∧ k ≤ m.length ∧ Below w.heap.size w wr ∧ eqTo sameI l m k) (fun _ _ _ i _ => m.length - (intOf i).toNat)
    case atStart => exact ⟨0, _, rfl, rfl, by omega, Below.refl _ _, eqTo_zero _ _⟩
    case round =>
      obtain ⟨k, K, rfl, rfl, hk, hbw, htk⟩ := hrel
      have HT := Lib.hid htk
      clear htk
      have hbz := hbw.size
      by_cases hlt : k < m.length
      · have hlt' : k < l.length := by rw [HL.out]; exact hlt
        obtain ⟨b1, o1, cx, rfl, hb1, hpx, hcx⟩ := (ha.below ek_inf hbw).at_ ek_inf hlt'
        obtain ⟨b2, o2, cy, rfl, hb2, hpy, hcy⟩ := (hb.below ek_inf hbw).at_ ek_inf hlt
        have HB := Lib.hid hbw
        have HY := Lib.hid (fun h => eqTo_succ HT.out hlt' hlt h)
        have HN := Lib.hid (eqAll_no (f := sameI) hlt' hlt)
        have HPX := Lib.hid hpx
        have HPY := Lib.hid hpy
        clear ha hb hbw hpx hpy
        generalize l[k] = u at *
        generalize m[k] = v at *
        clear hlt'
        obtain ⟨A1, c1, rfl⟩ := InfAt.shape HPX.out
        obtain ⟨A2, c2, rfl⟩ := InfAt.shape HPY.out
        have p0 := hcx 0 _ rfl
        have p1 := hcx 1 _ rfl
        have p2 := hcx 2 _ rfl
        have q0 := hcy 0 _ rfl
        have q1 := hcy 1 _ rfl
        have q2 := hcy 2 _ rfl
        simp only [Nat.add_zero] at p0 q0
        have r0 := alloc_cell q0 (.cells #[.string u.name, .int .i64 u.kind, .slice A1 u.dims.length c1] 40)
        have r1 := alloc_cell q1 (.cells #[.string u.name, .int .i64 u.kind, .slice A1 u.dims.length c1] 40)
        have r2 := alloc_cell q2 (.cells #[.string u.name, .int .i64 u.kind, .slice A1 u.dims.length c1] 40)
        clear hcx hcy
        have H1 := Lib.hid (HB.out.trans (two_new wr (.cells #[.string u.name, .int .i64 u.kind, .slice A1 u.dims.length c1] 40) (.cells #[.string v.name, .int .i64 v.kind, .slice A2 v.dims.length c2] 40) hbz))
        have HCC := Lib.hid (HC.out ((wr.alloc (.cells #[.string u.name, .int .i64 u.kind, .slice A1 u.dims.length c1] 40)).alloc (.cells #[.string v.name, .int .i64 v.kind, .slice A2 v.dims.length c2] 40)) u v [.string u.name, .int .i64 u.kind, .slice A1 u.dims.length c1] [.string v.name, .int .i64 v.kind, .slice A2 v.dims.length c2] (ek_inf.more (ek_inf.below HPX.out (two_new _ _ _ hbz)) H1.out.size) (ek_inf.more (ek_inf.below HPY.out (two_new _ _ _ hbz)) H1.out.size))
        clear HC HPX HPY
        cases huv : sameI u v
        · have HE := Lib.hid (HN.out huv)
          rw [huv] at HCC
          clear huv HN HY
          go_wp2_with fail
          refine HCC.out.mono ?_
          rintro e w2 ⟨rfl, hb2⟩
          have H2 := Lib.hid (H1.out.trans (hb2.mono H1.out.size))
          clear hb2
          go_wp2_with fail
          go_ret
          rw [HE.out]
          exact ⟨rfl, H2.out⟩
        · have HE := Lib.hid (HY.out huv)
          rw [huv] at HCC
          clear huv HN HY
          go_wp2_with fail
          refine HCC.out.mono ?_
          rintro e w2 ⟨rfl, hb2⟩
          have H2 := Lib.hid (H1.out.trans (hb2.mono H1.out.size))
          clear hb2
          go_wp2_with fail
          go_roundw
          case rel => exact ⟨k + 1, _, rfl, by omega, by omega, H2.out, HE.out⟩
          case measure => simp [intOf]; omega
      · obtain rfl : k = m.length := by omega
        clear ha hb
        go_wp2_with fail
        go_ret
        rw [eqAll_yes HL.out (by rw [HL.out]; exact HT.out)]
        exact ⟨rfl, hbw⟩
  · have hlm' : ((l.length : Int) != (m.length : Int)) = true := by simp; omega
    have HE := Lib.hid (eqAll_len (f := sameI) hlm)
    clear hlm ha hb
    go_enter Try.func27, Try.ntmps27
    go_wp2_with fail
    go_ret
    rw [HE.out]
    exact ⟨rfl, Below.refl _ _⟩

theorem Bx.three {w W : World} {g : Nat} {a0 a1 a2 : Value} {T : TypeId} (h : Bx w g #[a0, a1, a2] T W) : W.cell? ⟨g, 0, none⟩ = some a0 ∧ W.cell? ⟨g, 1, none⟩ = some a1 ∧ W.cell? ⟨g, 2, none⟩ = some a2 :=
  ⟨h.cell 0, h.cell 1, h.cell 2⟩
theorem Bx.five {w W : World} {g : Nat} {a0 a1 a2 a3 a4 : Value} {T : TypeId} (h : Bx w g #[a0, a1, a2, a3, a4] T W) : W.cell? ⟨g, 0, none⟩ = some a0 ∧ W.cell? ⟨g, 1, none⟩ = some a1 ∧ W.cell? ⟨g, 2, none⟩ = some a2 ∧ W.cell? ⟨g, 3, none⟩ = some a3 ∧ W.cell? ⟨g, 4, none⟩ = some a4 :=
  ⟨h.cell 0, h.cell 1, h.cell 2, h.cell 3, h.cell 4⟩
theorem m_ten_any (t u : Ten) (ct cu : List Value) (w : World) (ht : TenAt w.heap.size w t ct) (hu : TenAt w.heap.size w u cu) :
    Calls Try.prog 30 #[.agg ct.toArray, .agg cu.toArray] w fun e w' => e = .returned (.bool (sameT t u)) ∧ Below w.heap.size w w' := by
  obtain ⟨A, c, rfl, ha, ot⟩ := ht
  obtain ⟨B, d, rfl, hb, ou⟩ := hu
  exact t_same_any t u A B c d w (ot.tok ha) (ou.tok hb)

set_option maxRecDepth 100000 in
theorem m_attr_any (a b : Att) (ca cb : List Value) (w : World) (hi : AttAt w.heap.size w a ca) (hj : AttAt w.heap.size w b cb) :
    Calls Try.prog 24 #[.agg ca.toArray, .agg cb.toArray] w fun e w' => e = .returned (.bool (sameA a b)) ∧ Below w.heap.size w w' := by
  obtain ⟨A, c, rfl, ha, oi⟩ := hi
  obtain ⟨B, d, rfl, hb, oj⟩ := hj
  have hlen := oj.len
  have hby := Bx.two w (.cells #[.string a.name, .bool a.one, .int .i64 a.int, .slice A a.ints.length c] 48) #[.string b.name, .bool b.one, .int .i64 b.int, .slice B b.ints.length d] 48
  have hbx := Bx.start w #[.string a.name, .bool a.one, .int .i64 a.int, .slice A a.ints.length c] 48
  have HBX := Lib.hid (hbx.more (.cells #[.string b.name, .bool b.one, .int .i64 b.int, .slice B b.ints.length d] 48))
  have HS := Lib.hid (slEqual_any A B c d a.ints b.ints _ (by unfold maxLen; omega) ((ha.below HBX.out.all).more HBX.out.all.size) ((hb.below HBX.out.all).more HBX.out.all.size))
  clear hbx ha hb oi oj hlen hby
  obtain ⟨tn, tb, tk, tl⟩ := a
  obtain ⟨un, ub, uk, ul⟩ := b
  dsimp only at *
  unfold sameA
  dsimp only
  by_cases h1 : tn = un
  · have e1 := teq_yes h1
    rw [decide_eq_true h1]
    clear h1
    by_cases h2 : tb = ub
    · subst h2
      have e2 : (tb != tb) = false := by simp
      cases tb with
      | true =>
        clear HS
        go_enter Try.func24, Try.ntmps24
        go_wp2_with fail
        go_ret
        exact ⟨by simp [int_beq], HBX.out.all⟩
      | false =>
        go_enter Try.func24, Try.ntmps24
        go_wp2_with fail
        refine HS.out.mono ?_
        rintro e w1 ⟨rfl, hb1⟩
        have H1 := Lib.hid (HBX.out.below hb1)
        clear hb1
        go_wp2_with fail
        go_ret
        exact ⟨by simp, H1.out.all⟩
    · have e3 : (tb == ub) = false := by simpa using h2
      rw [e3]
      clear HS e3
      cases tb <;> cases ub <;> first | exact absurd rfl h2 | skip
      all_goals
        clear h2
        go_enter Try.func24, Try.ntmps24
        go_wp2_with fail
        go_ret
        exact ⟨by simp, HBX.out.all⟩
  · have e1 := teq_no h1
    rw [decide_eq_false h1]
    clear h1 HS
    cases tb <;> cases ub
    all_goals
      go_enter Try.func24, Try.ntmps24
      go_wp2_with fail
      go_ret
      exact ⟨by simp, HBX.out.all⟩


set_option maxRecDepth 100000 in
/-- lists of attributes -/
theorem m_attrs_any (A B : Option Addr) (c d : Nat) (l m : List Att) (w : World) (hm : m.length ≤ maxLen) (ha : DR AttAt w w.heap.size 4 A l) (hb : DR AttAt w w.heap.size 4 B m) :
    Calls Try.prog 53 #[.slice A l.length c, .slice B m.length d, .func (.func 24) #[] #[]] w fun e w' => e = .returned (.bool (eqAll sameA l m)) ∧ Below w.heap.size w w' := by
  unfold maxLen at hm
  by_cases hlm : l.length = m.length
  · have hlm' : ((l.length : Int) != (m.length : Int)) = false := by simp; omega
    have HC := Lib.hid (fun W i j ci cj => m_attr_any i j ci cj W)
    have HL := Lib.hid hlm
    have hlm2 : (l.length : Int) = (m.length : Int) := by omega
    rw [hlm] at hlm' ⊢
    clear hlm hlm2
    go_enter Try.func53, Try.ntmps53
    go_wp2_with fail
    go_loopw [7, 8, 9, 17] (fun _ _ _ i wr => ∃ (k : Nat) (K : Int), i = .int .i64 K ∧ K = (k : Nat) ∧ k ≤ m.length ∧ Below w.heap.size w wr ∧ eqTo sameA l m k) (fun _ _ _ i _ => m.length - (intOf i).toNat)
    case atStart => exact ⟨0, _, rfl, rfl, by omega, Below.refl _ _, eqTo_zero _ _⟩
    case round =>
      obtain ⟨k, K, rfl, rfl, hk, hbw, htk⟩ := hrel
      have HT := Lib.hid htk
      clear htk
      have hbz := hbw.size
      by_cases hlt : k < m.length
      · have hlt' : k < l.length := by rw [HL.out]; exact hlt
        obtain ⟨b1, o1, cx, rfl, hb1, hpx, hcx⟩ := (ha.below ek_att hbw).at_ ek_att hlt'
        obtain ⟨b2, o2, cy, rfl, hb2, hpy, hcy⟩ := (hb.below ek_att hbw).at_ ek_att hlt
        have HB := Lib.hid hbw
        have HY := Lib.hid (fun h => eqTo_succ HT.out hlt' hlt h)
        have HN := Lib.hid (eqAll_no (f := sameA) hlt' hlt)
        have HPX := Lib.hid hpx
        have HPY := Lib.hid hpy
        clear ha hb hbw hpx hpy
        generalize l[k] = u at *
        generalize m[k] = v at *
        clear hlt'
        obtain ⟨A1, c1, rfl⟩ := AttAt.shape HPX.out
        obtain ⟨A2, c2, rfl⟩ := AttAt.shape HPY.out
        have p0 := hcx 0 _ rfl
        have p1 := hcx 1 _ rfl
        have p2 := hcx 2 _ rfl
        have p3 := hcx 3 _ rfl
        have q0 := hcy 0 _ rfl
        have q1 := hcy 1 _ rfl
        have q2 := hcy 2 _ rfl
        have q3 := hcy 3 _ rfl
        simp only [Nat.add_zero] at p0 q0
        have r0 := alloc_cell q0 (.cells #[.string u.name, .bool u.one, .int .i64 u.int, .slice A1 u.ints.length c1] 48)
        have r1 := alloc_cell q1 (.cells #[.string u.name, .bool u.one, .int .i64 u.int, .slice A1 u.ints.length c1] 48)
        have r2 := alloc_cell q2 (.cells #[.string u.name, .bool u.one, .int .i64 u.int, .slice A1 u.ints.length c1] 48)
        have r3 := alloc_cell q3 (.cells #[.string u.name, .bool u.one, .int .i64 u.int, .slice A1 u.ints.length c1] 48)
        clear hcx hcy
        have H1 := Lib.hid (HB.out.trans (two_new wr (.cells #[.string u.name, .bool u.one, .int .i64 u.int, .slice A1 u.ints.length c1] 48) (.cells #[.string v.name, .bool v.one, .int .i64 v.int, .slice A2 v.ints.length c2] 48) hbz))
        have HCC := Lib.hid (HC.out ((wr.alloc (.cells #[.string u.name, .bool u.one, .int .i64 u.int, .slice A1 u.ints.length c1] 48)).alloc (.cells #[.string v.name, .bool v.one, .int .i64 v.int, .slice A2 v.ints.length c2] 48)) u v [.string u.name, .bool u.one, .int .i64 u.int, .slice A1 u.ints.length c1] [.string v.name, .bool v.one, .int .i64 v.int, .slice A2 v.ints.length c2] (ek_att.more (ek_att.below HPX.out (two_new _ _ _ hbz)) H1.out.size) (ek_att.more (ek_att.below HPY.out (two_new _ _ _ hbz)) H1.out.size))
        clear HC HPX HPY
        cases huv : sameA u v
        · have HE := Lib.hid (HN.out huv)
          rw [huv] at HCC
          clear huv HN HY
          go_wp2_with fail
          refine HCC.out.mono ?_
          rintro e w2 ⟨rfl, hb2⟩
          have H2 := Lib.hid (H1.out.trans (hb2.mono H1.out.size))
          clear hb2
          go_wp2_with fail
          go_ret
          rw [HE.out]
          exact ⟨rfl, H2.out⟩
        · have HE := Lib.hid (HY.out huv)
          rw [huv] at HCC
          clear huv HN HY
          go_wp2_with fail
          refine HCC.out.mono ?_
          rintro e w2 ⟨rfl, hb2⟩
          have H2 := Lib.hid (H1.out.trans (hb2.mono H1.out.size))
          clear hb2
          go_wp2_with fail
          go_roundw
          case rel => exact ⟨k + 1, _, rfl, by omega, by omega, H2.out, HE.out⟩
          case measure => simp [intOf]; omega
      · obtain rfl : k = m.length := by omega
        clear ha hb
        go_wp2_with fail
        go_ret
        rw [eqAll_yes HL.out (by rw [HL.out]; exact HT.out)]
        exact ⟨rfl, hbw⟩
  · have hlm' : ((l.length : Int) != (m.length : Int)) = true := by simp; omega
    have HE := Lib.hid (eqAll_len (f := sameA) hlm)
    clear hlm ha hb
    go_enter Try.func53, Try.ntmps53
    go_wp2_with fail
    go_ret
    rw [HE.out]
    exact ⟨rfl, Below.refl _ _⟩


set_option maxRecDepth 100000 in
/-- lists of tensors -/
theorem m_tens_any (A B : Option Addr) (c d : Nat) (l m : List Ten) (w : World) (hm : m.length ≤ maxLen) (ha : DR TenAt w w.heap.size 4 A l) (hb : DR TenAt w w.heap.size 4 B m) :
    Calls Try.prog 29 #[.slice A l.length c, .slice B m.length d, .func (.func 30) #[] #[]] w fun e w' => e = .returned (.bool (eqAll sameT l m)) ∧ Below w.heap.size w w' := by
  unfold maxLen at hm
  by_cases hlm : l.length = m.length
  · have hlm' : ((l.length : Int) != (m.length : Int)) = false := by simp; omega
    have HC := Lib.hid (fun W i j ci cj => m_ten_any i j ci cj W)
    have HL := Lib.hid hlm
    have hlm2 : (l.length : Int) = (m.length : Int) := by omega
    rw [hlm] at hlm' ⊢
    clear hlm hlm2
    go_enter Try.func29, Try.ntmps29
    go_wp2_with fail
    go_loopw [7, 8, 9, 17] (fun _ _ _ i wr => ∃ (k : Nat) (K : Int), i = .int .i64 K ∧ K = (k : Nat) ∧ k ≤ m.length ∧ Below w.heap.size w wr ∧ eqTo sameT l m k) (fun _ _ _ i _ => m.length - (intOf i).toNat)
    case atStart => exact ⟨0, _, rfl, rfl, by omega, Below.refl _ _, eqTo_zero _ _⟩
    case round =>
      obtain ⟨k, K, rfl, rfl, hk, hbw, htk⟩ := hrel
      have HT := Lib.hid htk
      clear htk
      have hbz := hbw.size
      by_cases hlt : k < m.length
      · have hlt' : k < l.length := by rw [HL.out]; exact hlt
        obtain ⟨b1, o1, cx, rfl, hb1, hpx, hcx⟩ := (ha.below ek_ten hbw).at_ ek_ten hlt'
        obtain ⟨b2, o2, cy, rfl, hb2, hpy, hcy⟩ := (hb.below ek_ten hbw).at_ ek_ten hlt
        have HB := Lib.hid hbw
        have HY := Lib.hid (fun h => eqTo_succ HT.out hlt' hlt h)
        have HN := Lib.hid (eqAll_no (f := sameT) hlt' hlt)
        have HPX := Lib.hid hpx
        have HPY := Lib.hid hpy
        clear ha hb hbw hpx hpy
        generalize l[k] = u at *
        generalize m[k] = v at *
        clear hlt'
        obtain ⟨A1, c1, rfl⟩ := TenAt.shape HPX.out
        obtain ⟨A2, c2, rfl⟩ := TenAt.shape HPY.out
        have p0 := hcx 0 _ rfl
        have p1 := hcx 1 _ rfl
        have p2 := hcx 2 _ rfl
        have p3 := hcx 3 _ rfl
        have q0 := hcy 0 _ rfl
        have q1 := hcy 1 _ rfl
        have q2 := hcy 2 _ rfl
        have q3 := hcy 3 _ rfl
        simp only [Nat.add_zero] at p0 q0
        have r0 := alloc_cell q0 (.cells #[.string u.name, .int .i64 u.kind, .slice A1 u.dims.length c1, .string u.data] 42)
        have r1 := alloc_cell q1 (.cells #[.string u.name, .int .i64 u.kind, .slice A1 u.dims.length c1, .string u.data] 42)
        have r2 := alloc_cell q2 (.cells #[.string u.name, .int .i64 u.kind, .slice A1 u.dims.length c1, .string u.data] 42)
        have r3 := alloc_cell q3 (.cells #[.string u.name, .int .i64 u.kind, .slice A1 u.dims.length c1, .string u.data] 42)
        clear hcx hcy
        have H1 := Lib.hid (HB.out.trans (two_new wr (.cells #[.string u.name, .int .i64 u.kind, .slice A1 u.dims.length c1, .string u.data] 42) (.cells #[.string v.name, .int .i64 v.kind, .slice A2 v.dims.length c2, .string v.data] 42) hbz))
        have HCC := Lib.hid (HC.out ((wr.alloc (.cells #[.string u.name, .int .i64 u.kind, .slice A1 u.dims.length c1, .string u.data] 42)).alloc (.cells #[.string v.name, .int .i64 v.kind, .slice A2 v.dims.length c2, .string v.data] 42)) u v [.string u.name, .int .i64 u.kind, .slice A1 u.dims.length c1, .string u.data] [.string v.name, .int .i64 v.kind, .slice A2 v.dims.length c2, .string v.data] (ek_ten.more (ek_ten.below HPX.out (two_new _ _ _ hbz)) H1.out.size) (ek_ten.more (ek_ten.below HPY.out (two_new _ _ _ hbz)) H1.out.size))
        clear HC HPX HPY
        cases huv : sameT u v
        · have HE := Lib.hid (HN.out huv)
          rw [huv] at HCC
          clear huv HN HY
          go_wp2_with fail
          refine HCC.out.mono ?_
          rintro e w2 ⟨rfl, hb2⟩
          have H2 := Lib.hid (H1.out.trans (hb2.mono H1.out.size))
          clear hb2
          go_wp2_with fail
          go_ret
          rw [HE.out]
          exact ⟨rfl, H2.out⟩
        · have HE := Lib.hid (HY.out huv)
          rw [huv] at HCC
          clear huv HN HY
          go_wp2_with fail
          refine HCC.out.mono ?_
          rintro e w2 ⟨rfl, hb2⟩
          have H2 := Lib.hid (H1.out.trans (hb2.mono H1.out.size))
          clear hb2
          go_wp2_with fail
          go_roundw
          case rel => exact ⟨k + 1, _, rfl, by omega, by omega, H2.out, HE.out⟩
          case measure => simp [intOf]; omega
      · obtain rfl : k = m.length := by omega
        clear ha hb
        go_wp2_with fail
        go_ret
        rw [eqAll_yes HL.out (by rw [HL.out]; exact HT.out)]
        exact ⟨rfl, hbw⟩
  · have hlm' : ((l.length : Int) != (m.length : Int)) = true := by simp; omega
    have HE := Lib.hid (eqAll_len (f := sameT) hlm)
    clear hlm ha hb
    go_enter Try.func29, Try.ntmps29
    go_wp2_with fail
    go_ret
    rw [HE.out]
    exact ⟨rfl, Below.refl _ _⟩


set_option maxRecDepth 100000 in
theorem m_node_any (n o : Nod) (cn co : List Value) (w : World) (hi : NodAt w.heap.size w n cn) (hj : NodAt w.heap.size w o co) :
    Calls Try.prog 32 #[.agg cn.toArray, .agg co.toArray] w fun e w' => e = .returned (.bool (sameN n o)) ∧ Below w.heap.size w w' := by
  obtain ⟨A, c, D, e, rfl, ha, hd, oi⟩ := hi
  obtain ⟨A', c', D', e', rfl, ha', hd', oj⟩ := hj
  have hl1 := oj.len
  have hl2 := oj.alen
  have HBY := Lib.hid (Bx.two w (.cells #[.string n.op, .slice A n.ins.length c, .string n.out, .slice D n.attrs.length e] 46) #[.string o.op, .slice A' o.ins.length c', .string o.out, .slice D' o.attrs.length e'] 46)
  have hbx := Bx.start w #[.string n.op, .slice A n.ins.length c, .string n.out, .slice D n.attrs.length e] 46
  have HBX := Lib.hid (hbx.more (.cells #[.string o.op, .slice A' o.ins.length c', .string o.out, .slice D' o.attrs.length e'] 46))
  have HS := Lib.hid (m_texts_any A A' c c' n.ins o.ins _ (by unfold maxLen; omega) ((ha.below HBX.out.all).more HBX.out.all.size) ((ha'.below HBX.out.all).more HBX.out.all.size))
  have HA := Lib.hid (fun W (h : Below w.heap.size w W) => m_attrs_any D D' e e' n.attrs o.attrs W (by unfold maxLen; omega) ((hd.below ek_att h).more ek_att h.size) ((hd'.below ek_att h).more ek_att h.size))
  clear hbx ha ha' hd hd' oi oj hl1 hl2
  obtain ⟨n1, n2, n3, n4⟩ := n
  obtain ⟨o1, o2, o3, o4⟩ := o
  dsimp only at *
  unfold sameN
  dsimp only
  by_cases h1 : n1 = o1
  · have e1 := teq_yes h1
    rw [decide_eq_true h1]
    clear h1
    cases h2 : decide (n2 = o2)
    · rw [h2] at HS
      clear h2 HA HBY
      go_enter Try.func32, Try.ntmps32
      go_wp2_with fail
      refine HS.out.mono ?_
      rintro e w1 ⟨rfl, hb1⟩
      have H1 := Lib.hid (HBX.out.below hb1)
      clear hb1
      go_wp2_with fail
      go_ret
      exact ⟨by simp, H1.out.all⟩
    · rw [h2] at HS
      clear h2
      by_cases h3 : n3 = o3
      · have e3 := teq_yes h3
        rw [decide_eq_true h3]
        clear h3
        go_enter Try.func32, Try.ntmps32
        go_wp2_with fail
        refine HS.out.mono ?_
        rintro e w1 ⟨rfl, hb1⟩
        have H1 := Lib.hid (HBX.out.below hb1)
        have H2 := Lib.hid (HBY.out.below hb1)
        clear hb1
        obtain ⟨x0, x1, x2, x3⟩ := H1.out.four
        obtain ⟨y0, y1, y2, y3⟩ := H2.out.four
        go_wp2_with fail
        refine (HA.out _ H1.out.all).mono ?_
        rintro e w2 ⟨rfl, hb2⟩
        have H3 := Lib.hid (H1.out.below hb2)
        clear hb2 x0 x1 x2 x3 y0 y1 y2 y3
        go_wp2_with fail
        go_ret
        exact ⟨by simp, H3.out.all⟩
      · have e3 := teq_no h3
        rw [decide_eq_false h3]
        clear h3 HA
        go_enter Try.func32, Try.ntmps32
        go_wp2_with fail
        refine HS.out.mono ?_
        rintro e w1 ⟨rfl, hb1⟩
        have H1 := Lib.hid (HBX.out.below hb1)
        have H2 := Lib.hid (HBY.out.below hb1)
        clear hb1
        obtain ⟨x0, x1, x2, x3⟩ := H1.out.four
        obtain ⟨y0, y1, y2, y3⟩ := H2.out.four
        go_wp2_with fail
        go_ret
        exact ⟨by simp, H1.out.all⟩
  · have e1 := teq_no h1
    rw [decide_eq_false h1]
    clear h1 HS HA HBY
    go_enter Try.func32, Try.ntmps32
    go_wp2_with fail
    go_ret
    exact ⟨by simp, HBX.out.all⟩


set_option maxRecDepth 100000 in
/-- lists of nodes -/
theorem m_nodes_any (A B : Option Addr) (c d : Nat) (l m : List Nod) (w : World) (hm : m.length ≤ maxLen) (ha : DR NodAt w w.heap.size 4 A l) (hb : DR NodAt w w.heap.size 4 B m) :
    Calls Try.prog 31 #[.slice A l.length c, .slice B m.length d, .func (.func 32) #[] #[]] w fun e w' => e = .returned (.bool (eqAll sameN l m)) ∧ Below w.heap.size w w' := by
  unfold maxLen at hm
  by_cases hlm : l.length = m.length
  · have hlm' : ((l.length : Int) != (m.length : Int)) = false := by simp; omega
    have HC := Lib.hid (fun W i j ci cj => m_node_any i j ci cj W)
    have HL := Lib.hid hlm
    have hlm2 : (l.length : Int) = (m.length : Int) := by omega
    rw [hlm] at hlm' ⊢
    clear hlm hlm2
    go_enter Try.func31, Try.ntmps31
    go_wp2_with fail
    go_loopw [7, 8, 9, 17] (fun _ _ _ i wr => ∃ (k : Nat) (K : Int), i = .int .i64 K ∧ K = (k : Nat) ∧ k ≤ m.length ∧ Below w.heap.size w wr ∧ eqTo sameN l m k) (fun _ _ _ i _ => m.length - (intOf i).toNat)
    case atStart => exact ⟨0, _, rfl, rfl, by omega, Below.refl _ _, eqTo_zero _ _⟩
    case round =>
      obtain ⟨k, K, rfl, rfl, hk, hbw, htk⟩ := hrel
      have HT := Lib.hid htk
      clear htk
      have hbz := hbw.size
      by_cases hlt : k < m.length
      · have hlt' : k < l.length := by rw [HL.out]; exact hlt
        obtain ⟨b1, o1, cx, rfl, hb1, hpx, hcx⟩ := (ha.below ek_nod hbw).at_ ek_nod hlt'
        obtain ⟨b2, o2, cy, rfl, hb2, hpy, hcy⟩ := (hb.below ek_nod hbw).at_ ek_nod hlt
        have HB := Lib.hid hbw
        have HY := Lib.hid (fun h => eqTo_succ HT.out hlt' hlt h)
        have HN := Lib.hid (eqAll_no (f := sameN) hlt' hlt)
        have HPX := Lib.hid hpx
        have HPY := Lib.hid hpy
        clear ha hb hbw hpx hpy
        generalize l[k] = u at *
        generalize m[k] = v at *
        clear hlt'
        obtain ⟨A1, c1, D1, e1, rfl⟩ := NodAt.shape HPX.out
        obtain ⟨A2, c2, D2, e2, rfl⟩ := NodAt.shape HPY.out
        have p0 := hcx 0 _ rfl
        have p1 := hcx 1 _ rfl
        have p2 := hcx 2 _ rfl
        have p3 := hcx 3 _ rfl
        have q0 := hcy 0 _ rfl
        have q1 := hcy 1 _ rfl
        have q2 := hcy 2 _ rfl
        have q3 := hcy 3 _ rfl
        simp only [Nat.add_zero] at p0 q0
        have r0 := alloc_cell q0 (.cells #[.string u.op, .slice A1 u.ins.length c1, .string u.out, .slice D1 u.attrs.length e1] 46)
        have r1 := alloc_cell q1 (.cells #[.string u.op, .slice A1 u.ins.length c1, .string u.out, .slice D1 u.attrs.length e1] 46)
        have r2 := alloc_cell q2 (.cells #[.string u.op, .slice A1 u.ins.length c1, .string u.out, .slice D1 u.attrs.length e1] 46)
        have r3 := alloc_cell q3 (.cells #[.string u.op, .slice A1 u.ins.length c1, .string u.out, .slice D1 u.attrs.length e1] 46)
        clear hcx hcy
        have H1 := Lib.hid (HB.out.trans (two_new wr (.cells #[.string u.op, .slice A1 u.ins.length c1, .string u.out, .slice D1 u.attrs.length e1] 46) (.cells #[.string v.op, .slice A2 v.ins.length c2, .string v.out, .slice D2 v.attrs.length e2] 46) hbz))
        have HCC := Lib.hid (HC.out ((wr.alloc (.cells #[.string u.op, .slice A1 u.ins.length c1, .string u.out, .slice D1 u.attrs.length e1] 46)).alloc (.cells #[.string v.op, .slice A2 v.ins.length c2, .string v.out, .slice D2 v.attrs.length e2] 46)) u v [.string u.op, .slice A1 u.ins.length c1, .string u.out, .slice D1 u.attrs.length e1] [.string v.op, .slice A2 v.ins.length c2, .string v.out, .slice D2 v.attrs.length e2] (ek_nod.more (ek_nod.below HPX.out (two_new _ _ _ hbz)) H1.out.size) (ek_nod.more (ek_nod.below HPY.out (two_new _ _ _ hbz)) H1.out.size))
        clear HC HPX HPY
        cases huv : sameN u v
        · have HE := Lib.hid (HN.out huv)
          rw [huv] at HCC
          clear huv HN HY
          go_wp2_with fail
          refine HCC.out.mono ?_
          rintro e w2 ⟨rfl, hb2⟩
          have H2 := Lib.hid (H1.out.trans (hb2.mono H1.out.size))
          clear hb2
          go_wp2_with fail
          go_ret
          rw [HE.out]
          exact ⟨rfl, H2.out⟩
        · have HE := Lib.hid (HY.out huv)
          rw [huv] at HCC
          clear huv HN HY
          go_wp2_with fail
          refine HCC.out.mono ?_
          rintro e w2 ⟨rfl, hb2⟩
          have H2 := Lib.hid (H1.out.trans (hb2.mono H1.out.size))
          clear hb2
          go_wp2_with fail
          go_roundw
          case rel => exact ⟨k + 1, _, rfl, by omega, by omega, H2.out, HE.out⟩
          case measure => simp [intOf]; omega
      · obtain rfl : k = m.length := by omega
        clear ha hb
        go_wp2_with fail
        go_ret
        rw [eqAll_yes HL.out (by rw [HL.out]; exact HT.out)]
        exact ⟨rfl, hbw⟩
  · have hlm' : ((l.length : Int) != (m.length : Int)) = true := by simp; omega
    have HE := Lib.hid (eqAll_len (f := sameN) hlm)
    clear hlm ha hb
    go_enter Try.func31, Try.ntmps31
    go_wp2_with fail
    go_ret
    rw [HE.out]
    exact ⟨rfl, Below.refl _ _⟩


set_option maxRecDepth 100000 in
set_option maxHeartbeats 1000000 in
theorem m_same_any (m n : Mod) (A1 A2 A3 A4 B1 B2 B3 B4 : Option Addr) (c1 c2 c3 c4 d1 d2 d3 d4 : Nat) (w : World) (hm : ModAt w.heap.size w m A1 A2 A3 A4) (hn : ModAt w.heap.size w n B1 B2 B3 B4) :
    Calls Try.prog 8 #[.agg (mv m.opset A1 m.inputs.length c1 A2 m.outputs.length c2 A3 m.inits.length c3 A4 m.nodes.length c4), .agg (mv n.opset B1 n.inputs.length d1 B2 n.outputs.length d2 B3 n.inits.length d3 B4 n.nodes.length d4)] w fun e w' => e = .returned (.bool (sameM m n)) ∧ Below w.heap.size w w' := by
  have HBY := Lib.hid (Bx.two w (.cells (mv m.opset A1 m.inputs.length c1 A2 m.outputs.length c2 A3 m.inits.length c3 A4 m.nodes.length c4) 26) (mv n.opset B1 n.inputs.length d1 B2 n.outputs.length d2 B3 n.inits.length d3 B4 n.nodes.length d4) 26)
  have hbx := Bx.start w (mv m.opset A1 m.inputs.length c1 A2 m.outputs.length c2 A3 m.inits.length c3 A4 m.nodes.length c4) 26
  have HBX := Lib.hid (hbx.more (.cells (mv n.opset B1 n.inputs.length d1 B2 n.outputs.length d2 B3 n.inits.length d3 B4 n.nodes.length d4) 26))
  have H1 := Lib.hid (fun W (h : Below w.heap.size w W) => m_infos_any A1 B1 c1 d1 m.inputs n.inputs W (by have := hn.len1; unfold maxLen; omega) ((hm.inputs.below ek_inf h).more ek_inf h.size) ((hn.inputs.below ek_inf h).more ek_inf h.size))
  have H2 := Lib.hid (fun W (h : Below w.heap.size w W) => m_infos_any A2 B2 c2 d2 m.outputs n.outputs W (by have := hn.len2; unfold maxLen; omega) ((hm.outputs.below ek_inf h).more ek_inf h.size) ((hn.outputs.below ek_inf h).more ek_inf h.size))
  have H3 := Lib.hid (fun W (h : Below w.heap.size w W) => m_tens_any A3 B3 c3 d3 m.inits n.inits W (by have := hn.len3; unfold maxLen; omega) ((hm.inits.below ek_ten h).more ek_ten h.size) ((hn.inits.below ek_ten h).more ek_ten h.size))
  have H4 := Lib.hid (fun W (h : Below w.heap.size w W) => m_nodes_any A4 B4 c4 d4 m.nodes n.nodes W (by have := hn.len4; unfold maxLen; omega) ((hm.nodes.below ek_nod h).more ek_nod h.size) ((hn.nodes.below ek_nod h).more ek_nod h.size))
  clear hbx hm hn
  obtain ⟨m0, m1, m2, m3, m4⟩ := m
  obtain ⟨n0, n1, n2, n3, n4⟩ := n
  unfold sameM
  unfold mv at *
  dsimp only at *
  by_cases h0 : m0 = n0
  case neg =>
    have e1 : (m0 == n0) = false := by simpa using h0
    rw [decide_eq_false h0]
    clear h0 H1 H2 H3 H4 HBY
    go_enter Try.func8, Try.ntmps8
    go_wp2_with fail
    go_ret
    exact ⟨by simp, HBX.out.all⟩
  have e1 : (m0 == n0) = true := by simpa using h0
  rw [decide_eq_true h0]
  clear h0
  cases r1 : eqAll sameI m1 n1
  case false =>
    go_enter Try.func8, Try.ntmps8
    go_wp2_with fail
    refine (H1.out _ HBX.out.all).mono ?_
    rintro e w1 ⟨rfl, hb1⟩
    have K1 := Lib.hid (HBX.out.below hb1)
    have Y1 := Lib.hid (HBY.out.below hb1)
    rw [r1]
    clear hb1
    obtain ⟨x0, x1, x2, x3, x4⟩ := K1.out.five
    obtain ⟨y0, y1, y2, y3, y4⟩ := Y1.out.five
    go_wp2_with fail
    clear x0 x1 x2 x3 x4 y0 y1 y2 y3 y4
    go_ret
    exact ⟨by simp, K1.out.all⟩
  cases r2 : eqAll sameI m2 n2
  case false =>
    go_enter Try.func8, Try.ntmps8
    go_wp2_with fail
    refine (H1.out _ HBX.out.all).mono ?_
    rintro e w1 ⟨rfl, hb1⟩
    have K1 := Lib.hid (HBX.out.below hb1)
    have Y1 := Lib.hid (HBY.out.below hb1)
    rw [r1]
    clear hb1
    obtain ⟨x0, x1, x2, x3, x4⟩ := K1.out.five
    obtain ⟨y0, y1, y2, y3, y4⟩ := Y1.out.five
    go_wp2_with fail
    clear x0 x1 x2 x3 x4 y0 y1 y2 y3 y4
    refine (H2.out _ K1.out.all).mono ?_
    rintro e w2 ⟨rfl, hb1⟩
    have K2 := Lib.hid (K1.out.below hb1)
    have Y2 := Lib.hid (Y1.out.below hb1)
    rw [r2]
    clear hb1
    obtain ⟨x0, x1, x2, x3, x4⟩ := K2.out.five
    obtain ⟨y0, y1, y2, y3, y4⟩ := Y2.out.five
    go_wp2_with fail
    clear x0 x1 x2 x3 x4 y0 y1 y2 y3 y4
    go_ret
    exact ⟨by simp, K2.out.all⟩
  cases r3 : eqAll sameT m3 n3
  case false =>
    go_enter Try.func8, Try.ntmps8
    go_wp2_with fail
    refine (H1.out _ HBX.out.all).mono ?_
    rintro e w1 ⟨rfl, hb1⟩
    have K1 := Lib.hid (HBX.out.below hb1)
    have Y1 := Lib.hid (HBY.out.below hb1)
    rw [r1]
    clear hb1
    obtain ⟨x0, x1, x2, x3, x4⟩ := K1.out.five
    obtain ⟨y0, y1, y2, y3, y4⟩ := Y1.out.five
    go_wp2_with fail
    clear x0 x1 x2 x3 x4 y0 y1 y2 y3 y4
    refine (H2.out _ K1.out.all).mono ?_
    rintro e w2 ⟨rfl, hb1⟩
    have K2 := Lib.hid (K1.out.below hb1)
    have Y2 := Lib.hid (Y1.out.below hb1)
    rw [r2]
    clear hb1
    obtain ⟨x0, x1, x2, x3, x4⟩ := K2.out.five
    obtain ⟨y0, y1, y2, y3, y4⟩ := Y2.out.five
    go_wp2_with fail
    clear x0 x1 x2 x3 x4 y0 y1 y2 y3 y4
    refine (H3.out _ K2.out.all).mono ?_
    rintro e w3 ⟨rfl, hb1⟩
    have K3 := Lib.hid (K2.out.below hb1)
    have Y3 := Lib.hid (Y2.out.below hb1)
    rw [r3]
    clear hb1
    obtain ⟨x0, x1, x2, x3, x4⟩ := K3.out.five
    obtain ⟨y0, y1, y2, y3, y4⟩ := Y3.out.five
    go_wp2_with fail
    clear x0 x1 x2 x3 x4 y0 y1 y2 y3 y4
    go_ret
    exact ⟨by simp, K3.out.all⟩
  cases r4 : eqAll sameN m4 n4
  all_goals
    go_enter Try.func8, Try.ntmps8
    go_wp2_with fail
    refine (H1.out _ HBX.out.all).mono ?_
    rintro e w1 ⟨rfl, hb1⟩
    have K1 := Lib.hid (HBX.out.below hb1)
    have Y1 := Lib.hid (HBY.out.below hb1)
    rw [r1]
    clear hb1
    obtain ⟨x0, x1, x2, x3, x4⟩ := K1.out.five
    obtain ⟨y0, y1, y2, y3, y4⟩ := Y1.out.five
    go_wp2_with fail
    clear x0 x1 x2 x3 x4 y0 y1 y2 y3 y4
    refine (H2.out _ K1.out.all).mono ?_
    rintro e w2 ⟨rfl, hb1⟩
    have K2 := Lib.hid (K1.out.below hb1)
    have Y2 := Lib.hid (Y1.out.below hb1)
    rw [r2]
    clear hb1
    obtain ⟨x0, x1, x2, x3, x4⟩ := K2.out.five
    obtain ⟨y0, y1, y2, y3, y4⟩ := Y2.out.five
    go_wp2_with fail
    clear x0 x1 x2 x3 x4 y0 y1 y2 y3 y4
    refine (H3.out _ K2.out.all).mono ?_
    rintro e w3 ⟨rfl, hb1⟩
    have K3 := Lib.hid (K2.out.below hb1)
    have Y3 := Lib.hid (Y2.out.below hb1)
    rw [r3]
    clear hb1
    obtain ⟨x0, x1, x2, x3, x4⟩ := K3.out.five
    obtain ⟨y0, y1, y2, y3, y4⟩ := Y3.out.five
    go_wp2_with fail
    clear x0 x1 x2 x3 x4 y0 y1 y2 y3 y4
    refine (H4.out _ K3.out.all).mono ?_
    rintro e w4 ⟨rfl, hb1⟩
    have K4 := Lib.hid (K3.out.below hb1)
    have Y4 := Lib.hid (Y3.out.below hb1)
    rw [r4]
    clear hb1
    obtain ⟨x0, x1, x2, x3, x4⟩ := K4.out.five
    obtain ⟨y0, y1, y2, y3, y4⟩ := Y4.out.five
    go_wp2_with fail
    clear x0 x1 x2 x3 x4 y0 y1 y2 y3 y4
    go_ret
    exact ⟨by simp, K4.out.all⟩
end Go.Proofs.Ytpdpimchchfocaa
/- The walks of Elem and of the law's Of. -/
namespace Go.Proofs.Ytpdpimchchfocaa
open Go.RowKit M7

/-- the i-th element's bytes -/
def el (k : Int) (d : ByteArray) (i : Int) : ByteArray := if kSize k = 0 ∨ i < 0 ∨ (d.size : Int) / kSize k ≤ i then ⟨#[]⟩ else d.extract (i.toNat * (kSize k).toNat) ((i.toNat + 1) * (kSize k).toNat)
theorem el_none {k : Int} {d : ByteArray} {i : Int} (h : kSize k = 0 ∨ i < 0 ∨ (d.size : Int) / kSize k ≤ i) : el k d i = ⟨#[]⟩ := if_pos h
theorem el_some {k : Int} {d : ByteArray} {i : Int} (h : ¬ (kSize k = 0 ∨ i < 0 ∨ (d.size : Int) / kSize k ≤ i)) : el k d i = d.extract (i.toNat * (kSize k).toNat) ((i.toNat + 1) * (kSize k).toNat) := if_neg h
theorem el_fits {n s i : Nat} (hs : s ≠ 0) (h : (i : Int) < (n : Int) / (s : Int)) : (i + 1) * s ≤ n := by
  have h1 : i < n / s := by rw [← Int.natCast_ediv] at h; omega
  have := (Nat.le_div_iff_mul_le (by omega)).1 (show i + 1 ≤ n / s by omega)
  exact this
theorem div_small {n s : Nat} : (0 : Int) ≤ (n : Int) / (s : Int) ∧ (n : Int) / (s : Int) ≤ (n : Int) := by
  rw [← Int.natCast_ediv]
  have := Nat.div_le_self n s
  generalize n / s = q at *
  omega

set_option maxRecDepth 100000 in
theorem law7of_any (nme : ByteArray) (k : Int) (A : Option Addr) (l c : Nat) (d : ByteArray) (w : World) :
    Calls Try.prog 21 #[t_tv nme k (.slice A l c) d] w fun e w' => e = .returned (t_tv nme k (.slice A l c) d) ∧ Below w.heap.size w w' := by
  have hb := Bx.two w (.cells #[.string nme, .int .i64 k, .slice A l c, .string d] 42) #[.string nme, .int .i64 k, .slice A l c, .string d] 68
  have HK := Lib.hid hb
  clear hb
  go_enter Try.func21, Try.ntmps21
  go_wp2_with fail
  obtain ⟨c0, c1, c2, c3⟩ := HK.out.four
  have hbb := HK.out.all
  clear HK
  generalize (w.alloc (.cells #[.string nme, .int .i64 k, .slice A l c, .string d] 42)).alloc (.cells #[.string nme, .int .i64 k, .slice A l c, .string d] 68) = w2 at *
  exact bodyPost_ret (v := .agg #[.string nme, .int .i64 k, .slice A l c, .string d]) (by simp [results, Try.results21, go_sem, c0, c1, c2, c3]) rfl ⟨rfl, hbb⟩
end Go.Proofs.Ytpdpimchchfocaa
/- An argument that is a model, opened: what it holds, part by part. -/
namespace Go.Proofs.Ytpdpimchchfocaa
open Go.RowKit M7 M10 Go.ChangeShapes Go.WideShapes Go.Deep

theorem flat_single {α : Type} (mk : α → Value) : ∀ l : List α, (l.map fun a => [mk a]).flatten = l.map mk
  | [] => rfl
  | a :: l => by rw [List.map_cons, List.flatten_cons, flat_single mk l]; rfl
theorem one_flat {α : Type} {mk : α → Value} {l : List α} {css : List (List Value)} (hl : l.length = css.length) (h : ∀ k (h1 : k < l.length) (h2 : k < css.length), css[k] = [mk l[k]]) : css.flatten = l.map mk := by
  have e : css = l.map fun a => [mk a] := List.ext_getElem (by simp [hl]) fun k h1 h2 => by
    rw [h k (by simpa using h2) h1]; simp
  rw [e, flat_single]
theorem reach10 : reachBytes = 140737488351232 := by decide
theorem bytesInt10 : Try.prog.bytesOf 2 = 8 := by kernel_rfl
theorem bytesStr10 : Try.prog.bytesOf 9 = 16 := by kernel_rfl
section
variable {H : Type} {enc : TypeId × Value → H} {w : World} {base : Nat} {spare : Nat → Bool} {held : Bool}
theorem deep_ints {fuel : Nat} {c : Value} {y : DataW H × List MemPlace} (h : DataW.trod enc Try.prog w base spare held fuel 38 [c] = some y) (hz : ∀ n ∈ y.1.weights Try.prog 38, n ≤ reachBytes) :
    ∃ (A : Option Addr) (cc : Nat) (l : List Int), c = .slice A l.length cc ∧ SR w w.heap.size 1 A l.length (iv l) ∧ l.length * 8 ≤ 140737488351232 ∧ ∀ n ∈ l, I64 n := by
  obtain ⟨A, cc, l, css, e, hl, hq, _, hs, hb⟩ := open_deep 1 (by omega) (fun (a : Int) cs => cs = [.int .i64 a] ∧ I64 a) Try.underlying38 (by kernel_rfl) (fun n cs x hx _ _ => by
    obtain ⟨a, e, -, hw⟩ := DataW.trod_int Try.underlying2 hx
    exact ⟨a, e, bounds_i64 hw⟩) h hz
  simp only [List.cons.injEq, and_true] at e
  rw [bytesInt10, reach10] at hb
  rw [one_flat (mk := Value.int .i64) hl (fun k h1 h2 => (hq k h1 h2).1)] at hs
  refine ⟨A, cc, l, e, hs, hb, fun n hn => ?_⟩
  obtain ⟨k, hk, rfl⟩ := List.mem_iff_getElem.1 hn
  exact (hq k hk (by omega)).2
theorem deep_text {fuel : Nat} {c : Value} {y : DataW H × List MemPlace} (h : DataW.trod enc Try.prog w base spare held fuel 9 [c] = some y) (hz : ∀ n ∈ y.1.weights Try.prog 9, n ≤ reachBytes) :
    ∃ s : ByteArray, c = .string s ∧ s.size ≤ 140737488351232 := by
  obtain ⟨a, e, r, _⟩ := DataW.trod_string Try.underlying9 h
  simp only [List.cons.injEq, and_true] at e
  refine ⟨a, e, ?_⟩
  have := hz a.data.toList.length (by rw [r]; simp [DataW.weights])
  rw [reach10] at this
  simpa using this
theorem deep_texts {fuel : Nat} {c : Value} {y : DataW H × List MemPlace} (h : DataW.trod enc Try.prog w base spare held fuel 43 [c] = some y) (hz : ∀ n ∈ y.1.weights Try.prog 43, n ≤ reachBytes) :
    ∃ (A : Option Addr) (cc : Nat) (l : List ByteArray), c = .slice A l.length cc ∧ SR w w.heap.size 1 A l.length (m_tx l) ∧ l.length * 16 ≤ 140737488351232 ∧ ∀ n ∈ l, n.size ≤ 140737488351232 := by
  obtain ⟨A, cc, l, css, e, hl, hq, _, hs, hb⟩ := open_deep 1 (by omega) (fun (a : ByteArray) cs => cs = [.string a] ∧ a.size ≤ 140737488351232) Try.underlying43 (by kernel_rfl) (fun n cs x hx hcl hw => by
    match cs, hcl with
    | [c], _ =>
      obtain ⟨a, e, hs⟩ := deep_text hx hw
      exact ⟨a, by rw [e], hs⟩) h hz
  simp only [List.cons.injEq, and_true] at e
  rw [bytesStr10, reach10] at hb
  rw [one_flat (mk := Value.string) hl (fun k h1 h2 => (hq k h1 h2).1)] at hs
  refine ⟨A, cc, l, e, hs, hb, fun n hn => ?_⟩
  obtain ⟨k, hk, rfl⟩ := List.mem_iff_getElem.1 hn
  exact (hq k hk (by omega)).2

theorem off_inf : (match Try.prog.underlying 40 with | some (.struct fs) => fs.toList.map (fun f => (f.offset, f.type)) | _ => []) = [(0, 9), (1, 37), (2, 38)] := by kernel_rfl
theorem one_inf : ∀ t ∈ [9, 37, 38], Try.prog.cellsOf t = 1 := by
  have h : ([9, 37, 38].all fun t => decide (Try.prog.cellsOf t = 1)) = true := by kernel_rfl
  simpa using h
set_option maxRecDepth 100000 in
theorem deep_inf {fuel : Nat} {cs : List Value} {x : DataW H × List MemPlace} (h : DataW.trod enc Try.prog w base spare held fuel 40 cs = some x) (hcs : cs.length = 3) (hz : ∀ n ∈ x.1.weights Try.prog 40, n ≤ reachBytes) :
    ∃ i, InfAt w.heap.size w i cs := by
  have ho := off_inf
  cases hu : Try.prog.underlying 40 with
  | none => rw [hu] at ho; simp at ho
  | some ds =>
    rw [hu] at ho
    cases ds with
    | struct fs =>
      simp only at ho
      obtain ⟨n, hf⟩ := open_fields (ts := [9, 37, 38]) hu (by rw [ho]; rfl) one_inf h (by simpa using hcs) hz
      match cs, hcs with
      | [v0, v1, v2], _ =>
        obtain ⟨y0, h0, z0⟩ := hf 0 (by simp) (by simp)
        obtain ⟨y1, h1, z1⟩ := hf 1 (by simp) (by simp)
        obtain ⟨y2, h2, z2⟩ := hf 2 (by simp) (by simp)
        simp only [List.getElem_cons_zero, List.getElem_cons_succ] at h0 z0 h1 z1 h2 z2
        obtain ⟨s0, rfl, b0⟩ := deep_text h0 z0
        obtain ⟨n1, e1, -, b1⟩ := DataW.trod_int Try.underlying37 h1
        simp only [List.cons.injEq, and_true] at e1
        subst e1
        obtain ⟨A2, c2, l2, rfl, r2, b2, i2⟩ := deep_ints h2 z2
        exact ⟨⟨s0, n1, l2⟩, A2, c2, rfl, r2, ⟨b0, b1, b2, i2⟩⟩
    | _ => simp at ho
theorem off_ten : (match Try.prog.underlying 42 with | some (.struct fs) => fs.toList.map (fun f => (f.offset, f.type)) | _ => []) = [(0, 9), (1, 37), (2, 38), (3, 9)] := by kernel_rfl
theorem one_ten : ∀ t ∈ [9, 37, 38, 9], Try.prog.cellsOf t = 1 := by
  have h : ([9, 37, 38, 9].all fun t => decide (Try.prog.cellsOf t = 1)) = true := by kernel_rfl
  simpa using h
set_option maxRecDepth 100000 in
theorem deep_ten {fuel : Nat} {cs : List Value} {x : DataW H × List MemPlace} (h : DataW.trod enc Try.prog w base spare held fuel 42 cs = some x) (hcs : cs.length = 4) (hz : ∀ n ∈ x.1.weights Try.prog 42, n ≤ reachBytes) :
    ∃ i, TenAt w.heap.size w i cs := by
  have ho := off_ten
  cases hu : Try.prog.underlying 42 with
  | none => rw [hu] at ho; simp at ho
  | some ds =>
    rw [hu] at ho
    cases ds with
    | struct fs =>
      simp only at ho
      obtain ⟨n, hf⟩ := open_fields (ts := [9, 37, 38, 9]) hu (by rw [ho]; rfl) one_ten h (by simpa using hcs) hz
      match cs, hcs with
      | [v0, v1, v2, v3], _ =>
        obtain ⟨y0, h0, z0⟩ := hf 0 (by simp) (by simp)
        obtain ⟨y1, h1, z1⟩ := hf 1 (by simp) (by simp)
        obtain ⟨y2, h2, z2⟩ := hf 2 (by simp) (by simp)
        obtain ⟨y3, h3, z3⟩ := hf 3 (by simp) (by simp)
        simp only [List.getElem_cons_zero, List.getElem_cons_succ] at h0 z0 h1 z1 h2 z2 h3 z3
        obtain ⟨s0, rfl, b0⟩ := deep_text h0 z0
        obtain ⟨n1, e1, -, b1⟩ := DataW.trod_int Try.underlying37 h1
        simp only [List.cons.injEq, and_true] at e1
        subst e1
        obtain ⟨A2, c2, l2, rfl, r2, b2, i2⟩ := deep_ints h2 z2
        obtain ⟨s3, rfl, b3⟩ := deep_text h3 z3
        exact ⟨⟨s0, n1, l2, s3⟩, A2, c2, rfl, r2, ⟨b0, b3, b1, b2, i2⟩⟩
    | _ => simp at ho
theorem off_att : (match Try.prog.underlying 48 with | some (.struct fs) => fs.toList.map (fun f => (f.offset, f.type)) | _ => []) = [(0, 9), (1, 4), (2, 2), (3, 38)] := by kernel_rfl
theorem one_att : ∀ t ∈ [9, 4, 2, 38], Try.prog.cellsOf t = 1 := by
  have h : ([9, 4, 2, 38].all fun t => decide (Try.prog.cellsOf t = 1)) = true := by kernel_rfl
  simpa using h
set_option maxRecDepth 100000 in
theorem deep_att {fuel : Nat} {cs : List Value} {x : DataW H × List MemPlace} (h : DataW.trod enc Try.prog w base spare held fuel 48 cs = some x) (hcs : cs.length = 4) (hz : ∀ n ∈ x.1.weights Try.prog 48, n ≤ reachBytes) :
    ∃ i, AttAt w.heap.size w i cs := by
  have ho := off_att
  cases hu : Try.prog.underlying 48 with
  | none => rw [hu] at ho; simp at ho
  | some ds =>
    rw [hu] at ho
    cases ds with
    | struct fs =>
      simp only at ho
      obtain ⟨n, hf⟩ := open_fields (ts := [9, 4, 2, 38]) hu (by rw [ho]; rfl) one_att h (by simpa using hcs) hz
      match cs, hcs with
      | [v0, v1, v2, v3], _ =>
        obtain ⟨y0, h0, z0⟩ := hf 0 (by simp) (by simp)
        obtain ⟨y1, h1, z1⟩ := hf 1 (by simp) (by simp)
        obtain ⟨y2, h2, z2⟩ := hf 2 (by simp) (by simp)
        obtain ⟨y3, h3, z3⟩ := hf 3 (by simp) (by simp)
        simp only [List.getElem_cons_zero, List.getElem_cons_succ] at h0 z0 h1 z1 h2 z2 h3 z3
        obtain ⟨s0, rfl, b0⟩ := deep_text h0 z0
        obtain ⟨n1, e1, -⟩ := DataW.trod_bool Try.underlying4 h1
        simp only [List.cons.injEq, and_true] at e1
        subst e1
        obtain ⟨n2, e2, -, b2⟩ := DataW.trod_int Try.underlying2 h2
        simp only [List.cons.injEq, and_true] at e2
        subst e2
        obtain ⟨A3, c3, l3, rfl, r3, b3, i3⟩ := deep_ints h3 z3
        exact ⟨⟨s0, n1, n2, l3⟩, A3, c3, rfl, r3, ⟨b0, b3, bounds_i64 b2, i3⟩⟩
    | _ => simp at ho
theorem off_nod : (match Try.prog.underlying 46 with | some (.struct fs) => fs.toList.map (fun f => (f.offset, f.type)) | _ => []) = [(0, 9), (1, 43), (2, 9), (3, 44)] := by kernel_rfl
theorem one_nod : ∀ t ∈ [9, 43, 9, 44], Try.prog.cellsOf t = 1 := by
  have h : ([9, 43, 9, 44].all fun t => decide (Try.prog.cellsOf t = 1)) = true := by kernel_rfl
  simpa using h
set_option maxRecDepth 100000 in
theorem deep_nod {fuel : Nat} {cs : List Value} {x : DataW H × List MemPlace} (h : DataW.trod enc Try.prog w base spare held fuel 46 cs = some x) (hcs : cs.length = 4) (hz : ∀ n ∈ x.1.weights Try.prog 46, n ≤ reachBytes) :
    ∃ i, NodAt w.heap.size w i cs := by
  have ho := off_nod
  cases hu : Try.prog.underlying 46 with
  | none => rw [hu] at ho; simp at ho
  | some ds =>
    rw [hu] at ho
    cases ds with
    | struct fs =>
      simp only at ho
      obtain ⟨n, hf⟩ := open_fields (ts := [9, 43, 9, 44]) hu (by rw [ho]; rfl) one_nod h (by simpa using hcs) hz
      match cs, hcs with
      | [v0, v1, v2, v3], _ =>
        obtain ⟨y0, h0, z0⟩ := hf 0 (by simp) (by simp)
        obtain ⟨y1, h1, z1⟩ := hf 1 (by simp) (by simp)
        obtain ⟨y2, h2, z2⟩ := hf 2 (by simp) (by simp)
        obtain ⟨y3, h3, z3⟩ := hf 3 (by simp) (by simp)
        simp only [List.getElem_cons_zero, List.getElem_cons_succ] at h0 z0 h1 z1 h2 z2 h3 z3
        obtain ⟨s0, rfl, b0⟩ := deep_text h0 z0
        obtain ⟨A1, c1, l1, rfl, r1, b1, i1⟩ := deep_texts h1 z1
        obtain ⟨s2, rfl, b2⟩ := deep_text h2 z2
        obtain ⟨A3, c3, l3, css3, e3, hl3, hq3, hs3, r3, b3⟩ := open_deep 4 (by omega) (fun a cs => AttAt w.heap.size w a cs) Try.underlying44 (by kernel_rfl) (fun n cs x hx hcl hw => deep_att hx hcl hw) h3 z3
        simp only [List.cons.injEq, and_true] at e3
        subst e3
        rw [show Try.prog.bytesOf 48 = 56 by kernel_rfl, reach10] at b3
        have d3 : DR AttAt w w.heap.size 4 A3 l3 := ⟨css3, Al.of_get hl3 hq3, r3⟩
        exact ⟨⟨s0, l1, s2, l3⟩, A1, c1, A3, c3, rfl, r1, d3, ⟨b0, b2, i1, b1, b3⟩⟩
    | _ => simp at ho
theorem off_mod : (match Try.prog.underlying 26 with | some (.struct fs) => fs.toList.map (fun f => (f.offset, f.type)) | _ => []) = [(0, 2), (1, 22), (2, 22), (3, 23), (4, 24)] := by kernel_rfl
theorem one_mod : ∀ t ∈ [2, 22, 22, 23, 24], Try.prog.cellsOf t = 1 := by
  have h : ([2, 22, 22, 23, 24].all fun t => decide (Try.prog.cellsOf t = 1)) = true := by kernel_rfl
  simpa using h
set_option maxRecDepth 100000 in
theorem deep_mod {fuel : Nat} {cs : List Value} {x : DataW H × List MemPlace} (h : DataW.trod enc Try.prog w base spare held fuel 26 cs = some x) (hcs : cs.length = 5) (hz : ∀ n ∈ x.1.weights Try.prog 26, n ≤ reachBytes) :
    ∃ (m : Mod) (A1 A2 A3 A4 : Option Addr) (c1 c2 c3 c4 : Nat), cs.toArray = mv m.opset A1 m.inputs.length c1 A2 m.outputs.length c2 A3 m.inits.length c3 A4 m.nodes.length c4 ∧ ModAt w.heap.size w m A1 A2 A3 A4 := by
  have ho := off_mod
  cases hu : Try.prog.underlying 26 with
  | none => rw [hu] at ho; simp at ho
  | some ds =>
    rw [hu] at ho
    cases ds with
    | struct fs =>
      simp only at ho
      obtain ⟨n, hf⟩ := open_fields (ts := [2, 22, 22, 23, 24]) hu (by rw [ho]; rfl) one_mod h (by simpa using hcs) hz
      match cs, hcs with
      | [v0, v1, v2, v3, v4], _ =>
        obtain ⟨y0, h0, z0⟩ := hf 0 (by simp) (by simp)
        obtain ⟨y1, h1, z1⟩ := hf 1 (by simp) (by simp)
        obtain ⟨y2, h2, z2⟩ := hf 2 (by simp) (by simp)
        obtain ⟨y3, h3, z3⟩ := hf 3 (by simp) (by simp)
        obtain ⟨y4, h4, z4⟩ := hf 4 (by simp) (by simp)
        simp only [List.getElem_cons_zero, List.getElem_cons_succ] at h0 z0 h1 z1 h2 z2 h3 z3 h4 z4
        obtain ⟨n0, e0, -, b0⟩ := DataW.trod_int Try.underlying2 h0
        simp only [List.cons.injEq, and_true] at e0
        subst e0
        obtain ⟨A1, c1, l1, css1, e1, hl1, hq1, hs1, r1, b1⟩ := open_deep 3 (by omega) (fun a cs => InfAt w.heap.size w a cs) Try.underlying22 (by kernel_rfl) (fun n cs x hx hcl hw => deep_inf hx hcl hw) h1 z1
        simp only [List.cons.injEq, and_true] at e1
        subst e1
        rw [show Try.prog.bytesOf 40 = 48 by kernel_rfl, reach10] at b1
        have d1 : DR InfAt w w.heap.size 3 A1 l1 := ⟨css1, Al.of_get hl1 hq1, r1⟩
        obtain ⟨A2, c2, l2, css2, e2, hl2, hq2, hs2, r2, b2⟩ := open_deep 3 (by omega) (fun a cs => InfAt w.heap.size w a cs) Try.underlying22 (by kernel_rfl) (fun n cs x hx hcl hw => deep_inf hx hcl hw) h2 z2
        simp only [List.cons.injEq, and_true] at e2
        subst e2
        rw [show Try.prog.bytesOf 40 = 48 by kernel_rfl, reach10] at b2
        have d2 : DR InfAt w w.heap.size 3 A2 l2 := ⟨css2, Al.of_get hl2 hq2, r2⟩
        obtain ⟨A3, c3, l3, css3, e3, hl3, hq3, hs3, r3, b3⟩ := open_deep 4 (by omega) (fun a cs => TenAt w.heap.size w a cs) Try.underlying23 (by kernel_rfl) (fun n cs x hx hcl hw => deep_ten hx hcl hw) h3 z3
        simp only [List.cons.injEq, and_true] at e3
        subst e3
        rw [show Try.prog.bytesOf 42 = 64 by kernel_rfl, reach10] at b3
        have d3 : DR TenAt w w.heap.size 4 A3 l3 := ⟨css3, Al.of_get hl3 hq3, r3⟩
        obtain ⟨A4, c4, l4, css4, e4, hl4, hq4, hs4, r4, b4⟩ := open_deep 4 (by omega) (fun a cs => NodAt w.heap.size w a cs) Try.underlying24 (by kernel_rfl) (fun n cs x hx hcl hw => deep_nod hx hcl hw) h4 z4
        simp only [List.cons.injEq, and_true] at e4
        subst e4
        rw [show Try.prog.bytesOf 46 = 80 by kernel_rfl, reach10] at b4
        have d4 : DR NodAt w w.heap.size 4 A4 l4 := ⟨css4, Al.of_get hl4 hq4, r4⟩
        exact ⟨⟨n0, l1, l2, l3, l4⟩, A1, A2, A3, A4, c1, c2, c3, c4, rfl, ⟨d1, d2, d3, d4, bounds_i64 b0, b1, b2, b3, b4⟩⟩
    | _ => simp at ho
theorem cells_mod : Try.prog.cellsOf 26 = 5 := by kernel_rfl
theorem modelStruct : ∃ fs, Try.prog.underlying 26 = some (.struct fs) := ⟨_, Try.underlying26⟩
/-- a model -/
theorem open_model {v : Value} {d : DataW H} {p : List MemPlace} (h : DataW.Trod enc Try.prog w base spare held 26 v d p) (hv : ∃ cs, v = .agg cs ∧ cs.size = Try.prog.cellsOf 26)
    (hz : ∀ n ∈ d.weights Try.prog 26, n ≤ reachBytes) : ∃ (m : Mod) (A1 A2 A3 A4 : Option Addr) (c1 c2 c3 c4 : Nat), v = .agg (mv m.opset A1 m.inputs.length c1 A2 m.outputs.length c2 A3 m.inits.length c3 A4 m.nodes.length c4) ∧ ModAt w.heap.size w m A1 A2 A3 A4 := by
  obtain ⟨cs, rfl, hcs⟩ := hv
  obtain ⟨fuel, h⟩ := h
  rw [cells_mod] at hcs
  obtain ⟨m, A1, A2, A3, A4, c1, c2, c3, c4, e, hm⟩ := deep_mod h (by simpa [Value.cells] using hcs) hz
  refine ⟨m, A1, A2, A3, A4, c1, c2, c3, c4, ?_, hm⟩
  rw [← e]
  simp [Value.cells]
/-- a row of numbers -/
theorem open_ints10 {v : Value} {d : DataW H} {p : List MemPlace} (h : DataW.Trod enc Try.prog w base spare held 38 v d p) (hv : ∃ a l c, v = .slice a l c) (hz : ∀ n ∈ d.weights Try.prog 38, n ≤ reachBytes) :
    ∃ (A : Option Addr) (cc : Nat) (l : List Int), v = .slice A l.length cc ∧ SR w w.heap.size 1 A l.length (iv l) ∧ l.length * 8 ≤ 140737488351232 ∧ ∀ n ∈ l, I64 n := by
  obtain ⟨a, n, c, rfl⟩ := hv
  obtain ⟨fuel, h⟩ := h
  exact deep_ints h hz
end
end Go.Proofs.Ytpdpimchchfocaa
