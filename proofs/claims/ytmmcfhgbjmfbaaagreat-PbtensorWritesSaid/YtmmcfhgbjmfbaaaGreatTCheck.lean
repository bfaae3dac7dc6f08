/- The walks of Check, the program's and the document's own, by contract. -/
import Derived.Test.YtmmcfhgbjmfbaaaGreatGSame
import Derived.Test.YtmmcfhgbjmfbaaaGreatLift
import Derived.Test.YtmmcfhgbjmfbaaaGreatSSize
import Derived.Lib.QuietBelow
import Derived.BigQuiet
import Derived.Test.YtmmcfhgbjmfbaaaGreatMath
namespace Go.Proofs.YtmmcfhgbjmfbaaaGreat
open Go.RowKit M6 M7 Go.Sort

/-- a tensor that lies in the world -/
structure Tok (w : World) (t : Ten) (A : Option Addr) : Prop where
  name : t.name.size ≤ 140737488351232
  data : t.data.size ≤ 140737488351232
  kind : (Lit.int .i64 t.kind).wf = true
  dims : SR w w.heap.size 1 A t.dims.length (iv t.dims)
  len : t.dims.length ≤ maxLen
  ints : ∀ n ∈ t.dims, I64 n
theorem Tok.below {w w' : World} {t : Ten} {A : Option Addr} (h : Tok w t A) (hb : Below w.heap.size w w') : Tok w' t A := ⟨h.name, h.data, h.kind, (h.dims.below hb).more hb.size, h.len, h.ints⟩
theorem size_nat (k : Int) : ∃ s : Nat, kSize k = (s : Int) ∧ s ≤ 8 := by
  rcases kSize_is k with h | h | h | h
  · exact ⟨0, h, by omega⟩
  · exact ⟨1, h, by omega⟩
  · exact ⟨4, h, by omega⟩
  · exact ⟨8, h, by omega⟩
theorem count_nat (l : List Int) : ∃ n : Nat, (M5.sz l).1 = (n : Int) ∧ n ≤ 65536 := by
  rcases M5.sz_cases l with ⟨c, h, _⟩ | ⟨h, hs⟩
  · exact ⟨0, by rw [h]; rfl, by omega⟩
  · have h0 := M5.prd_nonneg hs.2
    rw [h]
    exact ⟨(M5.prd l).toNat, by simp; omega, by have := hs.4; simp; omega⟩
theorem small_prod {n s : Nat} (hn : n ≤ 65536) (hs : s ≤ 8) : 0 ≤ (n : Int) * (s : Int) ∧ (n : Int) * (s : Int) ≤ 524288 := by
  have := Nat.mul_le_mul hn hs
  rw [← Int.natCast_mul]
  omega

set_option maxRecDepth 100000 in
theorem tcheck_any (t : Ten) (A : Option Addr) (c : Nat) (w : World) (ht : Tok w t A) :
    Calls Tryz.prog 24 #[t_tv t.name t.kind (.slice A t.dims.length c) t.data] w fun e w' => e = .returned (.int .i64 (ck t)) ∧ Below w.heap.size w w' := by
  have hd := ht.data
  obtain ⟨s, hs, hs8⟩ := size_nat t.kind
  obtain ⟨n, hn, hn6⟩ := count_nat t.dims
  have HT := Lib.hid ht
  clear ht
  have HNM := Lib.hid (fun W => name_any t.name W (by have := HT.out.name; unfold maxLen; omega))
  have HBX := Lib.hid (Bx.start w #[.string t.name, .int .i64 t.kind, .slice A t.dims.length c, .string t.data] 33)
  cases hnm : nm t.name
  · have HE := Lib.hid (ck_name hnm)
    have HN := Lib.hid hnm
    clear hnm hs hn
    go_enter Tryz.func24, Tryz.ntmps24
    go_wp2_with fail
    refine (HNM.out _).mono ?_
    rintro e w1 ⟨rfl, rfl⟩
    rw [HN.out]
    go_wp2_with fail
    go_ret
    rw [HE.out]
    exact ⟨rfl, HBX.out.all⟩
  · have HN := Lib.hid hnm
    clear hnm
    go_enter Tryz.func24, Tryz.ntmps24
    go_wp2_with fail
    refine (HNM.out _).mono ?_
    rintro e w1 ⟨rfl, rfl⟩
    rw [HN.out]
    clear HNM
    go_wp2_with fail
    refine (k_size_any t.kind _ HT.out.kind).mono ?_
    rintro e w1 ⟨rfl, hb1⟩
    have H1 := Lib.hid (HBX.out.below hb1)
    clear hb1 HBX
    rw [hs]
    by_cases hs0 : s = 0
    · subst hs0
      have HE := Lib.hid (ck_kind HN.out hs)
      clear hs hn
      go_wp2_with fail
      go_ret
      rw [HE.out]
      exact ⟨rfl, H1.out.all⟩
    · have hs0' : ¬ (s : Int) = 0 := by omega
      obtain ⟨c0, c1, c2, c3⟩ := H1.out.four
      have HSZ := Lib.hid (shSize_any A c t.dims w1 HT.out.len (HT.out.below H1.out.all).dims HT.out.ints)
      have hk0 : kSize t.kind ≠ 0 := by rw [hs]; exact hs0'
      have HK0 := Lib.hid hk0
      have HSE := Lib.hid hs
      have HNE := Lib.hid hn
      clear hk0 hs hn
      go_wp2_with fail
      refine HSZ.out.mono ?_
      rintro e w2 ⟨rfl, rfl⟩
      rw [HNE.out]
      clear HSZ
      by_cases he : (M5.sz t.dims).2 = 0
      · have HE0 := Lib.hid he
        rw [he]
        clear he
        obtain ⟨p0, p1⟩ := small_prod hn6 hs8
        by_cases hf : (t.data.size : Int) = (n : Int) * (s : Int)
        · have hf' : ((t.data.size : Int) != (n : Int) * (s : Int)) = false := by simpa using hf
          have hfn : t.data.size = n * s := by rw [← Int.natCast_mul] at hf; omega
          have HF := Lib.hid hfn
          have HBAD := Lib.hid (fun (j : Nat) (hj : (j : Int) < (M5.sz t.dims).1) (h : elk t.kind t.data j = false) => ck_bad HN.out HK0.out HE0.out (by rw [HNE.out, HSE.out]; exact hf) hj h)
          have HOK := Lib.hid (fun (h : ∀ j : Nat, (j : Int) < (M5.sz t.dims).1 → elk t.kind t.data j = true) => ck_ok HN.out HK0.out HE0.out (by rw [HNE.out, HSE.out]; exact hf) h)
          clear hf hfn hs0
          go_wp2_with fail
          go_loopw [6, 33] (fun _ i wr => ∃ (k : Nat) (K : Int), i = .int .i64 K ∧ K = (k : Nat) ∧ k ≤ n ∧ (∀ j, j < k → elk t.kind t.data j = true) ∧ Bx w w.heap.size #[.string t.name, .int .i64 t.kind, .slice A t.dims.length c, .string t.data] 33 wr) (fun _ i _ => n - (intOf i).toNat)
          case atStart => exact ⟨0, _, rfl, rfl, by omega, by intro j hj; omega, H1.out⟩
          case round =>
            obtain ⟨k, K, rfl, rfl, hk, hall, hbx⟩ := hrel
            have HB := Lib.hid hbx
            have HA := Lib.hid hall
            clear hbx hall
            by_cases hlt : k < n
            · have hkn : (k + 1) * s ≤ t.data.size := by rw [HF.out]; exact Nat.mul_le_mul_right _ (by omega)
              have hst : (kSize t.kind).toNat = s := by rw [HSE.out]; omega
              have hme := may_elk (k := t.kind) (d := t.data) (j := k) (by rw [hst]; exact hkn)
              rw [hst] at hme
              have hsz8 : t.kind = 14 → (t.data.extract (k * s) ((k + 1) * s)).size = 8 := by
                intro h14
                have : s = 8 := by have := kSize_gauss h14; rw [this] at hst; omega
                subst this
                rw [ByteArray.size_extract]
                omega
              have HC := Lib.hid (fun W => t_cut_any t.name t.kind A t.dims.length c t.data k s W (by unfold maxLen; omega) hkn (by omega))
              have HM := Lib.hid (fun W => t_may_any t.kind (t.data.extract (k * s) ((k + 1) * s)) W hsz8)
              rw [hme] at HM
              obtain ⟨x0, x1, x2, x3⟩ := HB.out.four
              have q0 := fun d os => cell_regrown x0 d os
              have q1 := fun d os => cell_regrown x1 d os
              have q2 := fun d os => cell_regrown x2 d os
              have q3 := fun d os => cell_regrown x3 d os
              have hbs := HB.out.2.1
              generalize t.data.extract (k * s) ((k + 1) * s) = E at *
              clear x0 x1 x2 x3 hkn hst hme hsz8 c0 c1 c2 c3
              cases hel : elk t.kind t.data k
              · rw [hel] at HM
                have HE := Lib.hid (HBAD.out k (by rw [HNE.out]; omega) hel)
                clear hel
                go_wp2_with fail
                refine wp_region_quiet_below (by kernel_rfl) (by kernel_rfl) ?_
                repeat (go_big_quiet_step ((first
                  | (go_at_call 69; exact Calls.regrown_of (HC.out _))
                  | (go_at_call 68; exact Calls.regrown_of (HM.out _)))))
                refine wpQuiet_nil ?_
                rintro w2 ⟨p, rfl⟩
                have H2 := Lib.hid (HB.out.below (below_regrown wr p.d p.os))
                clear q0 q1 q2 q3
                generalize grow (redrawn wr p.d) p.os = w2 at H2 ⊢
                go_wp2_with fail
                go_ret
                rw [HE.out]
                exact ⟨rfl, H2.out.all⟩
              · rw [hel] at HM
                have HE := Lib.hid (succ_all (Q := fun j => elk t.kind t.data j = true) HA.out hel)
                clear hel
                go_wp2_with fail
                refine wp_region_quiet_below (by kernel_rfl) (by kernel_rfl) ?_
                repeat (go_big_quiet_step ((first
                  | (go_at_call 69; exact Calls.regrown_of (HC.out _))
                  | (go_at_call 68; exact Calls.regrown_of (HM.out _)))))
                refine wpQuiet_nil ?_
                rintro w2 ⟨p, rfl⟩
                have H2 := Lib.hid (HB.out.below (below_regrown wr p.d p.os))
                clear q0 q1 q2 q3
                generalize grow (redrawn wr p.d) p.os = w2 at H2 ⊢
                go_wp2_with fail
                go_roundw
                case rel => exact ⟨k + 1, _, rfl, by omega, by omega, HE.out, H2.out⟩
                case measure => simp [intOf]; omega
            · obtain rfl : k = n := by omega
              have HE := Lib.hid (HOK.out (by intro j hj; rw [HNE.out] at hj; exact HA.out j (by omega)))
              go_wp2_with fail
              go_ret
              rw [HE.out]
              exact ⟨rfl, HB.out.all⟩
        · have hf' : ((t.data.size : Int) != (n : Int) * (s : Int)) = true := by simpa using hf
          have HE := Lib.hid (ck_form HN.out HK0.out HE0.out (by rw [HNE.out, HSE.out]; exact hf))
          clear hf
          go_wp2_with fail
          go_ret
          rw [HE.out]
          exact ⟨rfl, H1.out.all⟩
      · have HE := Lib.hid (ck_shape HN.out HK0.out he)
        have he' : ¬ ((M5.sz t.dims).2 : Int) = 0 := by omega
        generalize hz : (M5.sz t.dims).2 = z at *
        clear he
        go_wp2_with fail
        go_ret
        rw [HE.out]
        exact ⟨rfl, H1.out.all⟩

theorem ext8 {d : ByteArray} {k n : Nat} (h : d.size = n * 8) (hk : k < n) : (d.extract (k * 8) ((k + 1) * 8)).size = 8 := by
  rw [ByteArray.size_extract]; omega

set_option maxRecDepth 100000 in
set_option maxHeartbeats 1000000 in
theorem rcheck_any (t : Ten) (A : Option Addr) (c : Nat) (w : World) (ht : Tok w t A) :
    Calls Tryz.prog 11 #[t_tv t.name t.kind (.slice A t.dims.length c) t.data] w fun e w' => e = .returned (.int .i64 (ck t)) ∧ Below w.heap.size w w' := by
  have hd := ht.data
  obtain ⟨s, hs, hs8⟩ := size_nat t.kind
  obtain ⟨n, hn, hn6⟩ := count_nat t.dims
  have HT := Lib.hid ht
  clear ht
  have HNM := Lib.hid (fun W => rname_any t.name W (by have := HT.out.name; unfold maxLen; omega))
  have HBX := Lib.hid (Bx.start w #[.string t.name, .int .i64 t.kind, .slice A t.dims.length c, .string t.data] 38)
  cases hnm : nm t.name
  · have HE := Lib.hid (ck_name hnm)
    have HN := Lib.hid hnm
    clear hnm hs hn
    go_enter Tryz.func11, Tryz.ntmps11
    go_wp2_with fail
    refine (HNM.out _).mono ?_
    rintro e w1 ⟨rfl, rfl⟩
    rw [HN.out]
    go_wp2_with fail
    go_ret
    rw [HE.out]
    exact ⟨rfl, HBX.out.all⟩
  · have HN := Lib.hid hnm
    clear hnm
    go_enter Tryz.func11, Tryz.ntmps11
    go_wp2_with fail
    refine (HNM.out _).mono ?_
    rintro e w1 ⟨rfl, rfl⟩
    rw [HN.out]
    clear HNM
    go_wp2_with fail
    refine (refSize_any t.kind _).mono ?_
    rintro e w1 ⟨rfl, rfl⟩
    rw [hs]
    by_cases hs0 : s = 0
    · subst hs0
      have HE := Lib.hid (ck_kind HN.out hs)
      clear hs hn
      go_wp2_with fail
      go_ret
      rw [HE.out]
      exact ⟨rfl, HBX.out.all⟩
    · have hs0' : ¬ (s : Int) = 0 := by omega
      have HSZ := Lib.hid (shRefSize_any A c t.dims (w.alloc (.cells #[.string t.name, .int .i64 t.kind, .slice A t.dims.length c, .string t.data] 38)) HT.out.len (HT.out.below HBX.out.all).dims HT.out.ints)
      have hk0 : kSize t.kind ≠ 0 := by rw [hs]; exact hs0'
      have HK0 := Lib.hid hk0
      have HSE := Lib.hid hs
      have HNE := Lib.hid hn
      clear hk0 hs hn
      go_wp2_with fail
      refine HSZ.out.mono ?_
      rintro e w2 ⟨rfl, rfl⟩
      rw [HNE.out]
      clear HSZ
      by_cases he : (M5.sz t.dims).2 = 0
      · have HE0 := Lib.hid he
        rw [he]
        clear he
        obtain ⟨p0, p1⟩ := small_prod hn6 hs8
        by_cases hf : (t.data.size : Int) = (n : Int) * (s : Int)
        · have hf' : ((t.data.size : Int) != (n : Int) * (s : Int)) = false := by simpa using hf
          have hfn : t.data.size = n * s := by rw [← Int.natCast_mul] at hf; omega
          have HF := Lib.hid hfn
          have HBAD := Lib.hid (fun (j : Nat) (hj : (j : Int) < (M5.sz t.dims).1) (h : elk t.kind t.data j = false) => ck_bad HN.out HK0.out HE0.out (by rw [HNE.out, HSE.out]; exact hf) hj h)
          have HOK := Lib.hid (fun (h : ∀ j : Nat, (j : Int) < (M5.sz t.dims).1 → elk t.kind t.data j = true) => ck_ok HN.out HK0.out HE0.out (by rw [HNE.out, HSE.out]; exact hf) h)
          clear hf hfn hs0
          go_wp2_with fail
          go_loopw [6] (fun i wr => ∃ (k : Nat) (K : Int), i = .int .i64 K ∧ K = (k : Nat) ∧ k ≤ n ∧ (∀ j, j < k → elk t.kind t.data j = true) ∧ Bx w w.heap.size #[.string t.name, .int .i64 t.kind, .slice A t.dims.length c, .string t.data] 38 wr) (fun i _ => n - (intOf i).toNat)
          case atStart => exact ⟨0, _, rfl, rfl, by omega, by intro j hj; omega, HBX.out⟩
          case round =>
            obtain ⟨k, K, rfl, rfl, hk, hall, hbx⟩ := hrel
            have HB := Lib.hid hbx
            have HA := Lib.hid hall
            clear hbx hall
            obtain ⟨x0, x1, x2, x3⟩ := HB.out.four
            by_cases hlt : k < n
            · have HY := Lib.hid (fun h => succ_all (Q := fun j => elk t.kind t.data j = true) HA.out (k := k) h)
              have HZ := Lib.hid (fun h => HBAD.out k (by rw [HNE.out]; omega) h)
              by_cases h9 : t.kind = 9
              · have hs1 : s = 1 := by have := kSize_flag h9; rw [HSE.out] at this; omega
                subst hs1
                have hkd : k < t.data.size := by rw [HF.out]; omega
                have hel : elk t.kind t.data k = decide (t.data[k].toNat ≤ 1) := by rw [h9]; exact elk_flag hkd
                rw [hel] at HY HZ
                rw [h9] at x1
                clear hel
                by_cases hv : t.data[k].toNat ≤ 1
                · have HV := Lib.hid (HY.out (decide_eq_true hv))
                  have hv' : ¬ 1 < (t.data[k].toNat : Int) := by omega
                  clear hv HY HZ
                  go_wp2_with fail
                  go_roundw
                  case rel => exact ⟨k + 1, _, rfl, by omega, by omega, HV.out, HB.out⟩
                  case measure => simp [intOf]; omega
                · have HV := Lib.hid (HZ.out (decide_eq_false hv))
                  have hv' : 1 < (t.data[k].toNat : Int) := by omega
                  clear hv HY HZ
                  go_wp2_with fail
                  go_ret
                  rw [HV.out]
                  exact ⟨rfl, HB.out.all⟩
              · have h9' : (t.kind == 9) = false := by simpa using h9
                by_cases h14 : t.kind = 14
                · have hs1 : s = 8 := by have := kSize_gauss h14; rw [HSE.out] at this; omega
                  have hF8 : t.data.size = n * 8 := by rw [HF.out, hs1]
                  have hk8 : ((k : Int) + 1) * 8 ≤ (t.data.size : Int) := by rw [hF8]; omega
                  have hE8 := ext8 hF8 hlt
                  clear hs1 hF8
                  have HR := Lib.hid (fun W => g_rread_any (t.data.extract (k * 8) ((k + 1) * 8)) W (by unfold maxLen; omega))
                  have hel : elk t.kind t.data k = gok (t.data.extract (k * 8) ((k + 1) * 8)) := by rw [h14]; exact elk_gauss _ _
                  rw [hel] at HY HZ
                  rw [h14] at x1
                  clear hel h9 h9' h14
                  rw [show (k + 1) * 8 = 8 * k + 8 by omega, Nat.mul_comm k 8] at HR HY HZ hE8
                  go_wp2_with fail
                  refine (HR.out _).mono ?_
                  rintro e w3 ⟨m0, m1, cc, rfl, hrd, hb3⟩
                  have H3 := Lib.hid (HB.out.below hb3)
                  have hcc := rd8 hrd hE8
                  have hz3 := hb3.size
                  clear hrd hE8 HR hb3 x0 x1 x2 x3
                  generalize t.data.extract (8 * k) (8 * k + 8) = E at *
                  rcases hcc with ⟨rfl, hg⟩ | ⟨rfl, hg⟩
                  · have HV := Lib.hid (HY.out hg)
                    have H4 := Lib.hid (H3.out.more (.cells #[.int .i64 m0, .int .i64 m1] 84))
                    clear hg HY HZ
                    go_wp2_with fail
                    go_roundw
                    case rel => exact ⟨k + 1, _, rfl, by omega, by omega, HV.out, H4.out⟩
                    case measure => simp [intOf]; omega
                  · have HV := Lib.hid (HZ.out hg)
                    have H4 := Lib.hid (H3.out.more (.cells #[.int .i64 m0, .int .i64 m1] 84))
                    clear hg HY HZ
                    go_wp2_with fail
                    go_ret
                    rw [HV.out]
                    exact ⟨rfl, H4.out.all⟩
                · have h14' : (t.kind == 14) = false := by simpa using h14
                  have HV := Lib.hid (HY.out (elk_other h9 h14 _ _))
                  clear h9 h14 HY HZ
                  go_wp2_with fail
                  go_roundw
                  case rel => exact ⟨k + 1, _, rfl, by omega, by omega, HV.out, HB.out⟩
                  case measure => simp [intOf]; omega
            · obtain rfl : k = n := by omega
              have HE := Lib.hid (HOK.out (by intro j hj; rw [HNE.out] at hj; exact HA.out j (by omega)))
              go_wp2_with fail
              go_ret
              rw [HE.out]
              exact ⟨rfl, HB.out.all⟩
        · have hf' : ((t.data.size : Int) != (n : Int) * (s : Int)) = true := by simpa using hf
          have HE := Lib.hid (ck_form HN.out HK0.out HE0.out (by rw [HNE.out, HSE.out]; exact hf))
          clear hf
          go_wp2_with fail
          go_ret
          rw [HE.out]
          exact ⟨rfl, HBX.out.all⟩
      · have HE := Lib.hid (ck_shape HN.out HK0.out he)
        have he' : ¬ ((M5.sz t.dims).2 : Int) = 0 := by omega
        generalize hz : (M5.sz t.dims).2 = z at *
        clear he
        go_wp2_with fail
        go_ret
        rw [HE.out]
        exact ⟨rfl, HBX.out.all⟩
end Go.Proofs.YtmmcfhgbjmfbaaaGreat
/- The walks of elements at whole numbers, flags and complex numbers, each out of one text (wip/tools/gen7.py). -/
namespace Go.Proofs.YtmmcfhgbjmfbaaaGreat
open Go.RowKit M6 M7

/-- what is wrong, asked for elements of a kind -/
def ec (k : Int) (t : Ten) : Int := if ck t ≠ 0 then ck t else if t.kind = k then 0 else 13
theorem ec_bad {k : Int} {t : Ten} (h : ck t ≠ 0) : ec k t = ck t := if_pos h
theorem ec_type {k : Int} {t : Ten} (h : ck t = 0) (hk : t.kind ≠ k) : ec k t = 13 := by unfold ec; rw [if_neg (by omega), if_neg hk]
theorem ec_ok {k : Int} {t : Ten} (h : ck t = 0) (hk : t.kind = k) : ec k t = 0 := by unfold ec; rw [if_neg (by omega), if_pos hk]
theorem ec_zero {k : Int} {t : Ten} (h : ec k t = 0) : ck t = 0 ∧ t.kind = k := by
  unfold ec at h
  split at h
  · omega
  · split at h
    · exact ⟨by omega, by assumption⟩
    · omega
/-- how many elements a right tensor of a kind has -/
theorem count_of {t : Ten} {k : Int} {s : Nat} (h : ck t = 0) (hk : t.kind = k) (hs : kSize k = (s : Int)) (hs0 : s ≠ 0) : ∃ n, t.data.size = n * s ∧ t.data.size / s = n ∧ n ≤ 65536 := by
  obtain ⟨-, -, -, h4, -⟩ := ck_zero h
  obtain ⟨n, hn, hn6⟩ := count_nat t.dims
  rw [hn, hk, hs, ← Int.natCast_mul] at h4
  have h5 : t.data.size = n * s := by omega
  exact ⟨n, h5, by rw [h5, Nat.mul_div_cancel _ (by omega)], hn6⟩

theorem infoInt : (Tryz.prog.info? 2).map (fun i => (i.zero, i.size, i.bytes)) = some (some (Value.int .i64 0), 1, 8) := by kernel_rfl
theorem infoFlag : (Tryz.prog.info? 4).map (fun i => (i.zero, i.size, i.bytes)) = some (some (Value.bool false), 1, 1) := by kernel_rfl
theorem infoNum : (Tryz.prog.info? 155).map (fun i => (i.zero, i.size, i.bytes)) = some (some (Value.complex .f64 0 0), 1, 16) := by kernel_rfl
end Go.Proofs.YtmmcfhgbjmfbaaaGreat
/- The walks of Same, the program's and the document's own, of Elem and Of. -/
namespace Go.Proofs.YtmmcfhgbjmfbaaaGreat
open Go.RowKit M7

/-- are two tensors alike -/
def sameT (t u : Ten) : Bool := decide (t.name = u.name) && decide (t.kind = u.kind) && decide (t.dims = u.dims) && decide (t.data = u.data)
theorem sameT_name {t u : Ten} (h : t.name ≠ u.name) : sameT t u = false := by unfold sameT; rw [decide_eq_false h]; rfl
theorem sameT_kind {t u : Ten} (h : t.kind ≠ u.kind) : sameT t u = false := by unfold sameT; rw [decide_eq_false h]; simp
theorem sameT_dims {t u : Ten} (h : t.dims ≠ u.dims) : sameT t u = false := by unfold sameT; rw [decide_eq_false h]; simp
theorem sameT_data {t u : Ten} (h : t.data ≠ u.data) : sameT t u = false := by unfold sameT; rw [decide_eq_false h]; simp
theorem sameT_yes {t u : Ten} (h1 : t.name = u.name) (h2 : t.kind = u.kind) (h3 : t.dims = u.dims) (h4 : t.data = u.data) : sameT t u = true := by
  unfold sameT; rw [decide_eq_true h1, decide_eq_true h2, decide_eq_true h3, decide_eq_true h4]; rfl

set_option maxRecDepth 100000 in
set_option maxHeartbeats 1000000 in
theorem rsame_any (t u : Ten) (A B : Option Addr) (c d : Nat) (w : World) (ht : Tok w t A) (hu : Tok w u B) (hl : t.dims.length ≤ 20) :
    Calls Tryz.prog 9 #[t_tv t.name t.kind (.slice A t.dims.length c) t.data, t_tv u.name u.kind (.slice B u.dims.length d) u.data] w fun e w' => e = .returned (.bool (sameT t u)) ∧ Below w.heap.size w w' := by
  have hbx := Bx.start w #[.string t.name, .int .i64 t.kind, .slice A t.dims.length c, .string t.data] 38
  have HBY := Lib.hid (Bx.two w (.cells #[.string t.name, .int .i64 t.kind, .slice A t.dims.length c, .string t.data] 38) #[.string u.name, .int .i64 u.kind, .slice B u.dims.length d, .string u.data] 38)
  have HBX := Lib.hid (hbx.more (.cells #[.string u.name, .int .i64 u.kind, .slice B u.dims.length d, .string u.data] 38))
  have ha := (ht.below HBX.out.all).dims
  have hb := (hu.below HBX.out.all).dims
  clear hbx ht hu
  obtain ⟨tn, tk, tl, tdat⟩ := t
  obtain ⟨un, uk, ul, udat⟩ := u
  dsimp only at *
  by_cases h1 : tn = un
  · have e1 := teq_yes h1
    by_cases h2 : tk = uk
    · have e2 : (tk != uk) = false := by simpa using h2
      by_cases h4 : tdat = udat
      · have e4 := teq_yes h4
        by_cases h3 : tl.length = ul.length
        · have e3 : ((tl.length : Int) != (ul.length : Int)) = false := by simp; omega
          have HY := Lib.hid (fun h => sameT_yes (t := ⟨tn, tk, tl, tdat⟩) (u := ⟨un, uk, ul, udat⟩) h1 h2 h h4)
          have HL := Lib.hid h3
          clear h1 h2 h3 h4
          go_enter Tryz.func9, Tryz.ntmps9
          go_wp2_with fail
          go_loopw [5] (fun i wr => ∃ (k : Nat) (K : Int), i = .int .i64 K ∧ K = (k : Nat) ∧ k ≤ tl.length ∧ tl.take k = ul.take k ∧ Below ((w.alloc (.cells #[.string tn, .int .i64 tk, .slice A tl.length c, .string tdat] 38)).alloc (.cells #[.string un, .int .i64 uk, .slice B ul.length d, .string udat] 38)).heap.size ((w.alloc (.cells #[.string tn, .int .i64 tk, .slice A tl.length c, .string tdat] 38)).alloc (.cells #[.string un, .int .i64 uk, .slice B ul.length d, .string udat] 38)) wr) (fun i _ => tl.length - (intOf i).toNat)
          case atStart => exact ⟨0, _, rfl, rfl, by omega, rfl, Below.refl _ _⟩
          case round =>
            obtain ⟨k, K, rfl, rfl, hk, htk, hbw⟩ := hrel
            obtain ⟨x0, x1, x2, x3⟩ := (HBX.out.below hbw).four
            obtain ⟨y0, y1, y2, y3⟩ := (HBY.out.below hbw).four
            have HT := Lib.hid htk
            have HB := Lib.hid hbw
            have hbz := hbw.size
            clear htk
            by_cases hlt : k < tl.length
            · have hlt' : k < ul.length := by rw [← HL.out]; exact hlt
              obtain ⟨b1, o1, rfl, hb1, z0⟩ := int_at (ha.below hbw) hlt
              obtain ⟨b2, o2, rfl, hb2, z1⟩ := int_at (hb.below hbw) hlt'
              have HY2 := Lib.hid (take_same_yes HT.out hlt hlt')
              have HN := Lib.hid (take_same_no (l := tl) (m := ul) hlt hlt')
              clear ha hb hbw
              generalize tl[k] = u at *
              generalize ul[k] = v at *
              by_cases huv : u = v
              · subst huv
                have HE := Lib.hid (HY2.out rfl)
                go_wp2_with fail
                go_quiet (fail)
                go_wp2_with fail
                go_roundw
                case rel => exact ⟨k + 1, _, rfl, by omega, by omega, HE.out, below_drewN HB.out _⟩
                case measure => simp [intOf]; omega
              · have HE := Lib.hid (sameT_dims (t := ⟨tn, tk, tl, tdat⟩) (u := ⟨un, uk, ul, udat⟩) (HN.out huv))
                have huv' : (u != v) = true := by simpa using huv
                clear huv
                go_wp2_with fail
                go_quiet (fail)
                go_wp2_with fail
                go_ret
                rw [HE.out]
                exact ⟨rfl, HBX.out.all.trans ((below_drewN HB.out _).mono HBX.out.all.size)⟩
            · obtain rfl : k = tl.length := by omega
              have HE := Lib.hid (HY.out (take_same_all HL.out (by rw [← HL.out]; exact HT.out)))
              clear ha hb hbw
              go_wp2_with fail
              go_ret
              rw [HE.out]
              exact ⟨rfl, HBX.out.all.trans (HB.out.mono HBX.out.all.size)⟩
        · have e3 : ((tl.length : Int) != (ul.length : Int)) = true := by simp; omega
          have HE := Lib.hid (sameT_dims (t := ⟨tn, tk, tl, tdat⟩) (u := ⟨un, uk, ul, udat⟩) (fun h => h3 (congrArg List.length h)))
          clear h1 h2 h3 h4 ha hb
          go_enter Tryz.func9, Tryz.ntmps9
          go_wp2_with fail
          go_ret
          rw [HE.out]
          exact ⟨rfl, HBX.out.all⟩
      · have e4 := teq_no h4
        have HE := Lib.hid (sameT_data (t := ⟨tn, tk, tl, tdat⟩) (u := ⟨un, uk, ul, udat⟩) h4)
        clear h1 h2 h4 ha hb
        go_enter Tryz.func9, Tryz.ntmps9
        go_wp2_with fail
        go_ret
        rw [HE.out]
        exact ⟨rfl, HBX.out.all⟩
    · have e2 : (tk != uk) = true := by simpa using h2
      have HE := Lib.hid (sameT_kind (t := ⟨tn, tk, tl, tdat⟩) (u := ⟨un, uk, ul, udat⟩) h2)
      clear h1 h2 ha hb
      go_enter Tryz.func9, Tryz.ntmps9
      go_wp2_with fail
      go_ret
      rw [HE.out]
      exact ⟨rfl, HBX.out.all⟩
  · have e1 := teq_no h1
    have HE := Lib.hid (sameT_name (t := ⟨tn, tk, tl, tdat⟩) (u := ⟨un, uk, ul, udat⟩) h1)
    clear h1 ha hb
    go_enter Tryz.func9, Tryz.ntmps9
    go_wp2_with fail
    go_ret
    rw [HE.out]
    exact ⟨rfl, HBX.out.all⟩
end Go.Proofs.YtmmcfhgbjmfbaaaGreat
/- The walks of Elem and of the law's Of. -/
namespace Go.Proofs.YtmmcfhgbjmfbaaaGreat
open Go.RowKit M7

/-- the i-th element's bytes -/
def el (k : Int) (d : ByteArray) (i : Int) : ByteArray := if kSize k = 0 ∨ i < 0 ∨ (d.size : Int) / kSize k ≤ i then ⟨#[]⟩ else d.extract (i.toNat * (kSize k).toNat) ((i.toNat + 1) * (kSize k).toNat)
theorem el_none {k : Int} {d : ByteArray} {i : Int} (h : kSize k = 0 ∨ i < 0 ∨ (d.size : Int) / kSize k ≤ i) : el k d i = ⟨#[]⟩ := if_pos h
theorem el_some {k : Int} {d : ByteArray} {i : Int} (h : ¬ (kSize k = 0 ∨ i < 0 ∨ (d.size : Int) / kSize k ≤ i)) : el k d i = d.extract (i.toNat * (kSize k).toNat) ((i.toNat + 1) * (kSize k).toNat) := if_neg h
theorem el_fits {n s i : Nat} (hs : s ≠ 0) (h : (i : Int) < (n : Int) / (s : Int)) : (i + 1) * s ≤ n := by
  have h1 : i < n / s := by rw [← Int.natCast_ediv] at h; omega
  have := (Nat.le_div_iff_mul_le (by omega)).1 (show i + 1 ≤ n / s by omega)
  exact this
theorem div_small {n s : Nat} : (0 : Int) ≤ (n : Int) / (s : Int) ∧ (n : Int) / (s : Int) ≤ (n : Int) := by
  rw [← Int.natCast_ediv]
  have := Nat.div_le_self n s
  generalize n / s = q at *
  omega

set_option maxRecDepth 100000 in
theorem law7of_any (nme : ByteArray) (k : Int) (A : Option Addr) (l c : Nat) (d : ByteArray) (w : World) :
    Calls Tryz.prog 10 #[t_tv nme k (.slice A l c) d] w fun e w' => e = .returned (t_tv nme k (.slice A l c) d) ∧ Below w.heap.size w w' := by
  have hb := Bx.two w (.cells #[.string nme, .int .i64 k, .slice A l c, .string d] 33) #[.string nme, .int .i64 k, .slice A l c, .string d] 38
  have HK := Lib.hid hb
  clear hb
  go_enter Tryz.func10, Tryz.ntmps10
  go_wp2_with fail
  obtain ⟨c0, c1, c2, c3⟩ := HK.out.four
  have hbb := HK.out.all
  clear HK
  generalize (w.alloc (.cells #[.string nme, .int .i64 k, .slice A l c, .string d] 33)).alloc (.cells #[.string nme, .int .i64 k, .slice A l c, .string d] 38) = w2 at *
  exact bodyPost_ret (v := .agg #[.string nme, .int .i64 k, .slice A l c, .string d]) (by simp [results, Tryz.results10, go_sem, c0, c1, c2, c3]) rfl ⟨rfl, hbb⟩
end Go.Proofs.YtmmcfhgbjmfbaaaGreat
