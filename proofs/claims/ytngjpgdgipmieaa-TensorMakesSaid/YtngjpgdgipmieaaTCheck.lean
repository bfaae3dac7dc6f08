/- The walks of Check, the program's and the document's own, by contract. -/
import Derived.Test.YtngjpgdgipmieaaTName
import Derived.Test.YtngjpgdgipmieaaTCut
import Derived.Test.YtngjpgdgipmieaaKSize
import Derived.Test.YtngjpgdgipmieaaSSize
import Derived.Lib.QuietBelow
import Derived.BigQuiet
namespace Go.Proofs.Ytngjpgdgipmieaa
open Go.RowKit M6 M7 Go.Sort

/-- a tensor that lies in the world -/
structure Tok (w : World) (t : Ten) (A : Option Addr) : Prop where
  name : t.name.size ≤ 140737488351232
  data : t.data.size ≤ 140737488351232
  kind : (Lit.int .i64 t.kind).wf = true
  dims : SR w w.heap.size 1 A t.dims.length (iv t.dims)
  len : t.dims.length ≤ maxLen
  ints : ∀ n ∈ t.dims, I64 n
theorem Tok.below {w w' : World} {t : Ten} {A : Option Addr} (h : Tok w t A) (hb : Below w.heap.size w w') : Tok w' t A := ⟨h.name, h.data, h.kind, (h.dims.below hb).more hb.size, h.len, h.ints⟩
theorem size_nat (k : Int) : ∃ s : Nat, kSize k = (s : Int) ∧ s ≤ 8 := by
  rcases kSize_is k with h | h | h | h
  · exact ⟨0, h, by omega⟩
  · exact ⟨1, h, by omega⟩
  · exact ⟨4, h, by omega⟩
  · exact ⟨8, h, by omega⟩
theorem count_nat (l : List Int) : ∃ n : Nat, (M5.sz l).1 = (n : Int) ∧ n ≤ 65536 := by
  rcases M5.sz_cases l with ⟨c, h, _⟩ | ⟨h, hs⟩
  · exact ⟨0, by rw [h]; rfl, by omega⟩
  · have h0 := M5.prd_nonneg hs.2
    rw [h]
    exact ⟨(M5.prd l).toNat, by simp; omega, by have := hs.4; simp; omega⟩
theorem small_prod {n s : Nat} (hn : n ≤ 65536) (hs : s ≤ 8) : 0 ≤ (n : Int) * (s : Int) ∧ (n : Int) * (s : Int) ≤ 524288 := by
  have := Nat.mul_le_mul hn hs
  rw [← Int.natCast_mul]
  omega

set_option maxRecDepth 100000 in
theorem tcheck_any (t : Ten) (A : Option Addr) (c : Nat) (w : World) (ht : Tok w t A) :
    Calls Try.prog 8 #[tv t.name t.kind (.slice A t.dims.length c) t.data] w fun e w' => e = .returned (.int .i64 (ck t)) ∧ Below w.heap.size w w' := by
  have hd := ht.data
  obtain ⟨s, hs, hs8⟩ := size_nat t.kind
  obtain ⟨n, hn, hn6⟩ := count_nat t.dims
  have HT := Lib.hid ht
  clear ht
  have HNM := Lib.hid (fun W => name_any t.name W (by have := HT.out.name; unfold maxLen; omega))
  have HBX := Lib.hid (Bx.start w #[.string t.name, .int .i64 t.kind, .slice A t.dims.length c, .string t.data] 25)
  cases hnm : nm t.name
  · have HE := Lib.hid (ck_name hnm)
    have HN := Lib.hid hnm
    clear hnm hs hn
    go_enter Try.func8, Try.ntmps8
    go_wp2_with fail
    refine (HNM.out _).mono ?_
    rintro e w1 ⟨rfl, rfl⟩
    rw [HN.out]
    go_wp2_with fail
    go_ret
    rw [HE.out]
    exact ⟨rfl, HBX.out.all⟩
  · have HN := Lib.hid hnm
    clear hnm
    go_enter Try.func8, Try.ntmps8
    go_wp2_with fail
    refine (HNM.out _).mono ?_
    rintro e w1 ⟨rfl, rfl⟩
    rw [HN.out]
    clear HNM
    go_wp2_with fail
    refine (size_any t.kind _ HT.out.kind).mono ?_
    rintro e w1 ⟨rfl, hb1⟩
    have H1 := Lib.hid (HBX.out.below hb1)
    clear hb1 HBX
    rw [hs]
    by_cases hs0 : s = 0
    · subst hs0
      have HE := Lib.hid (ck_kind HN.out hs)
      clear hs hn
      go_wp2_with fail
      go_ret
      rw [HE.out]
      exact ⟨rfl, H1.out.all⟩
    · have hs0' : ¬ (s : Int) = 0 := by omega
      obtain ⟨c0, c1, c2, c3⟩ := H1.out.four
      have HSZ := Lib.hid (shSize_any A c t.dims w1 HT.out.len (HT.out.below H1.out.all).dims HT.out.ints)
      have hk0 : kSize t.kind ≠ 0 := by rw [hs]; exact hs0'
      have HK0 := Lib.hid hk0
      have HSE := Lib.hid hs
      have HNE := Lib.hid hn
      clear hk0 hs hn
      go_wp2_with fail
      refine HSZ.out.mono ?_
      rintro e w2 ⟨rfl, rfl⟩
      rw [HNE.out]
      clear HSZ
      by_cases he : (M5.sz t.dims).2 = 0
      · have HE0 := Lib.hid he
        rw [he]
        clear he
        obtain ⟨p0, p1⟩ := small_prod hn6 hs8
        by_cases hf : (t.data.size : Int) = (n : Int) * (s : Int)
        · have hf' : ((t.data.size : Int) != (n : Int) * (s : Int)) = false := by simpa using hf
          have hfn : t.data.size = n * s := by rw [← Int.natCast_mul] at hf; omega
          have HF := Lib.hid hfn
          have HBAD := Lib.hid (fun (j : Nat) (hj : (j : Int) < (M5.sz t.dims).1) (h : elk t.kind t.data j = false) => ck_bad HN.out HK0.out HE0.out (by rw [HNE.out, HSE.out]; exact hf) hj h)
          have HOK := Lib.hid (fun (h : ∀ j : Nat, (j : Int) < (M5.sz t.dims).1 → elk t.kind t.data j = true) => ck_ok HN.out HK0.out HE0.out (by rw [HNE.out, HSE.out]; exact hf) h)
          clear hf hfn hs0
          go_wp2_with fail
          go_loopw [6, 33] (fun _ i wr => ∃ (k : Nat) (K : Int), i = .int .i64 K ∧ K = (k : Nat) ∧ k ≤ n ∧ (∀ j, j < k → elk t.kind t.data j = true) ∧ Bx w w.heap.size #[.string t.name, .int .i64 t.kind, .slice A t.dims.length c, .string t.data] 25 wr) (fun _ i _ => n - (intOf i).toNat)
          case atStart => exact ⟨0, _, rfl, rfl, by omega, by intro j hj; omega, H1.out⟩
          case round =>
            obtain ⟨k, K, rfl, rfl, hk, hall, hbx⟩ := hrel
            have HB := Lib.hid hbx
            have HA := Lib.hid hall
            clear hbx hall
            by_cases hlt : k < n
            · have hkn : (k + 1) * s ≤ t.data.size := by rw [HF.out]; exact Nat.mul_le_mul_right _ (by omega)
              have hst : (kSize t.kind).toNat = s := by rw [HSE.out]; omega
              have hme := may_elk (k := t.kind) (d := t.data) (j := k) (by rw [hst]; exact hkn)
              rw [hst] at hme
              have hsz8 : t.kind = 14 → (t.data.extract (k * s) ((k + 1) * s)).size = 8 := by
                intro h14
                have : s = 8 := by have := kSize_gauss h14; rw [this] at hst; omega
                subst this
                rw [ByteArray.size_extract]
                omega
              have HC := Lib.hid (fun W => cut_any t.name t.kind A t.dims.length c t.data k s W (by unfold maxLen; omega) hkn (by omega))
              have HM := Lib.hid (fun W => may_any t.kind (t.data.extract (k * s) ((k + 1) * s)) W hsz8)
              rw [hme] at HM
              obtain ⟨x0, x1, x2, x3⟩ := HB.out.four
              have q0 := fun d os => cell_regrown x0 d os
              have q1 := fun d os => cell_regrown x1 d os
              have q2 := fun d os => cell_regrown x2 d os
              have q3 := fun d os => cell_regrown x3 d os
              have hbs := HB.out.2.1
              generalize t.data.extract (k * s) ((k + 1) * s) = E at *
              clear x0 x1 x2 x3 hkn hst hme hsz8 c0 c1 c2 c3
              cases hel : elk t.kind t.data k
              · rw [hel] at HM
                have HE := Lib.hid (HBAD.out k (by rw [HNE.out]; omega) hel)
                clear hel
                go_wp2_with fail
                refine wp_region_quiet_below (by kernel_rfl) (by kernel_rfl) ?_
                repeat (go_big_quiet_step ((first
                  | (go_at_call 35; exact Calls.regrown_of (HC.out _))
                  | (go_at_call 34; exact Calls.regrown_of (HM.out _)))))
                refine wpQuiet_nil ?_
                rintro w2 ⟨p, rfl⟩
                have H2 := Lib.hid (HB.out.below (below_regrown wr p.d p.os))
                clear q0 q1 q2 q3
                generalize grow (redrawn wr p.d) p.os = w2 at H2 ⊢
                go_wp2_with fail
                go_ret
                rw [HE.out]
                exact ⟨rfl, H2.out.all⟩
              · rw [hel] at HM
                have HE := Lib.hid (succ_all (Q := fun j => elk t.kind t.data j = true) HA.out hel)
                clear hel
                go_wp2_with fail
                refine wp_region_quiet_below (by kernel_rfl) (by kernel_rfl) ?_
                repeat (go_big_quiet_step ((first
                  | (go_at_call 35; exact Calls.regrown_of (HC.out _))
                  | (go_at_call 34; exact Calls.regrown_of (HM.out _)))))
                refine wpQuiet_nil ?_
                rintro w2 ⟨p, rfl⟩
                have H2 := Lib.hid (HB.out.below (below_regrown wr p.d p.os))
                clear q0 q1 q2 q3
                generalize grow (redrawn wr p.d) p.os = w2 at H2 ⊢
                go_wp2_with fail
                go_roundw
                case rel => exact ⟨k + 1, _, rfl, by omega, by omega, HE.out, H2.out⟩
                case measure => simp [intOf]; omega
            · obtain rfl : k = n := by omega
              have HE := Lib.hid (HOK.out (by intro j hj; rw [HNE.out] at hj; exact HA.out j (by omega)))
              go_wp2_with fail
              go_ret
              rw [HE.out]
              exact ⟨rfl, HB.out.all⟩
        · have hf' : ((t.data.size : Int) != (n : Int) * (s : Int)) = true := by simpa using hf
          have HE := Lib.hid (ck_form HN.out HK0.out HE0.out (by rw [HNE.out, HSE.out]; exact hf))
          clear hf
          go_wp2_with fail
          go_ret
          rw [HE.out]
          exact ⟨rfl, H1.out.all⟩
      · have HE := Lib.hid (ck_shape HN.out HK0.out he)
        have he' : ¬ ((M5.sz t.dims).2 : Int) = 0 := by omega
        generalize hz : (M5.sz t.dims).2 = z at *
        clear he
        go_wp2_with fail
        go_ret
        rw [HE.out]
        exact ⟨rfl, H1.out.all⟩

theorem ext8 {d : ByteArray} {k n : Nat} (h : d.size = n * 8) (hk : k < n) : (d.extract (k * 8) ((k + 1) * 8)).size = 8 := by
  rw [ByteArray.size_extract]; omega

set_option maxRecDepth 100000 in
set_option maxHeartbeats 1000000 in
theorem rcheck_any (t : Ten) (A : Option Addr) (c : Nat) (w : World) (ht : Tok w t A) :
    Calls Try.prog 7 #[tv t.name t.kind (.slice A t.dims.length c) t.data] w fun e w' => e = .returned (.int .i64 (ck t)) ∧ Below w.heap.size w w' := by
  have hd := ht.data
  obtain ⟨s, hs, hs8⟩ := size_nat t.kind
  obtain ⟨n, hn, hn6⟩ := count_nat t.dims
  have HT := Lib.hid ht
  clear ht
  have HNM := Lib.hid (fun W => rname_any t.name W (by have := HT.out.name; unfold maxLen; omega))
  have HBX := Lib.hid (Bx.start w #[.string t.name, .int .i64 t.kind, .slice A t.dims.length c, .string t.data] 28)
  cases hnm : nm t.name
  · have HE := Lib.hid (ck_name hnm)
    have HN := Lib.hid hnm
    clear hnm hs hn
    go_enter Try.func7, Try.ntmps7
    go_wp2_with fail
    refine (HNM.out _).mono ?_
    rintro e w1 ⟨rfl, rfl⟩
    rw [HN.out]
    go_wp2_with fail
    go_ret
    rw [HE.out]
    exact ⟨rfl, HBX.out.all⟩
  · have HN := Lib.hid hnm
    clear hnm
    go_enter Try.func7, Try.ntmps7
    go_wp2_with fail
    refine (HNM.out _).mono ?_
    rintro e w1 ⟨rfl, rfl⟩
    rw [HN.out]
    clear HNM
    go_wp2_with fail
    refine (refSize_any t.kind _).mono ?_
    rintro e w1 ⟨rfl, rfl⟩
    rw [hs]
    by_cases hs0 : s = 0
    · subst hs0
      have HE := Lib.hid (ck_kind HN.out hs)
      clear hs hn
      go_wp2_with fail
      go_ret
      rw [HE.out]
      exact ⟨rfl, HBX.out.all⟩
    · have hs0' : ¬ (s : Int) = 0 := by omega
      have HSZ := Lib.hid (shRefSize_any A c t.dims (w.alloc (.cells #[.string t.name, .int .i64 t.kind, .slice A t.dims.length c, .string t.data] 28)) HT.out.len (HT.out.below HBX.out.all).dims HT.out.ints)
      have hk0 : kSize t.kind ≠ 0 := by rw [hs]; exact hs0'
      have HK0 := Lib.hid hk0
      have HSE := Lib.hid hs
      have HNE := Lib.hid hn
      clear hk0 hs hn
      go_wp2_with fail
      refine HSZ.out.mono ?_
      rintro e w2 ⟨rfl, rfl⟩
      rw [HNE.out]
      clear HSZ
      by_cases he : (M5.sz t.dims).2 = 0
      · have HE0 := Lib.hid he
        rw [he]
        clear he
        obtain ⟨p0, p1⟩ := small_prod hn6 hs8
        by_cases hf : (t.data.size : Int) = (n : Int) * (s : Int)
        · have hf' : ((t.data.size : Int) != (n : Int) * (s : Int)) = false := by simpa using hf
          have hfn : t.data.size = n * s := by rw [← Int.natCast_mul] at hf; omega
          have HF := Lib.hid hfn
          have HBAD := Lib.hid (fun (j : Nat) (hj : (j : Int) < (M5.sz t.dims).1) (h : elk t.kind t.data j = false) => ck_bad HN.out HK0.out HE0.out (by rw [HNE.out, HSE.out]; exact hf) hj h)
          have HOK := Lib.hid (fun (h : ∀ j : Nat, (j : Int) < (M5.sz t.dims).1 → elk t.kind t.data j = true) => ck_ok HN.out HK0.out HE0.out (by rw [HNE.out, HSE.out]; exact hf) h)
          clear hf hfn hs0
          go_wp2_with fail
          go_loopw [6] (fun i wr => ∃ (k : Nat) (K : Int), i = .int .i64 K ∧ K = (k : Nat) ∧ k ≤ n ∧ (∀ j, j < k → elk t.kind t.data j = true) ∧ Bx w w.heap.size #[.string t.name, .int .i64 t.kind, .slice A t.dims.length c, .string t.data] 28 wr) (fun i _ => n - (intOf i).toNat)
          case atStart => exact ⟨0, _, rfl, rfl, by omega, by intro j hj; omega, HBX.out⟩
          case round =>
            obtain ⟨k, K, rfl, rfl, hk, hall, hbx⟩ := hrel
            have HB := Lib.hid hbx
            have HA := Lib.hid hall
            clear hbx hall
            obtain ⟨x0, x1, x2, x3⟩ := HB.out.four
            by_cases hlt : k < n
            · have HY := Lib.hid (fun h => succ_all (Q := fun j => elk t.kind t.data j = true) HA.out (k := k) h)
              have HZ := Lib.hid (fun h => HBAD.out k (by rw [HNE.out]; omega) h)
              by_cases h9 : t.kind = 9
              · have hs1 : s = 1 := by have := kSize_flag h9; rw [HSE.out] at this; omega
                subst hs1
                have hkd : k < t.data.size := by rw [HF.out]; omega
                have hel : elk t.kind t.data k = decide (t.data[k].toNat ≤ 1) := by rw [h9]; exact elk_flag hkd
                rw [hel] at HY HZ
                rw [h9] at x1
                clear hel
                by_cases hv : t.data[k].toNat ≤ 1
                · have HV := Lib.hid (HY.out (decide_eq_true hv))
                  have hv' : ¬ 1 < (t.data[k].toNat : Int) := by omega
                  clear hv HY HZ
                  go_wp2_with fail
                  go_roundw
                  case rel => exact ⟨k + 1, _, rfl, by omega, by omega, HV.out, HB.out⟩
                  case measure => simp [intOf]; omega
                · have HV := Lib.hid (HZ.out (decide_eq_false hv))
                  have hv' : 1 < (t.data[k].toNat : Int) := by omega
                  clear hv HY HZ
                  go_wp2_with fail
                  go_ret
                  rw [HV.out]
                  exact ⟨rfl, HB.out.all⟩
              · have h9' : (t.kind == 9) = false := by simpa using h9
                by_cases h14 : t.kind = 14
                · have hs1 : s = 8 := by have := kSize_gauss h14; rw [HSE.out] at this; omega
                  have hF8 : t.data.size = n * 8 := by rw [HF.out, hs1]
                  have hk8 : ((k : Int) + 1) * 8 ≤ (t.data.size : Int) := by rw [hF8]; omega
                  have hE8 := ext8 hF8 hlt
                  clear hs1 hF8
                  have HR := Lib.hid (fun W => rread_any (t.data.extract (k * 8) ((k + 1) * 8)) W (by unfold maxLen; omega))
                  have hel : elk t.kind t.data k = gok (t.data.extract (k * 8) ((k + 1) * 8)) := by rw [h14]; exact elk_gauss _ _
                  rw [hel] at HY HZ
                  rw [h14] at x1
                  clear hel h9 h9' h14
                  rw [show (k + 1) * 8 = 8 * k + 8 by omega, Nat.mul_comm k 8] at HR HY HZ hE8
                  go_wp2_with fail
                  refine (HR.out _).mono ?_
                  rintro e w3 ⟨m0, m1, cc, rfl, hrd, hb3⟩
                  have H3 := Lib.hid (HB.out.below hb3)
                  have hcc := rd8 hrd hE8
                  have hz3 := hb3.size
                  clear hrd hE8 HR hb3 x0 x1 x2 x3
                  generalize t.data.extract (8 * k) (8 * k + 8) = E at *
                  rcases hcc with ⟨rfl, hg⟩ | ⟨rfl, hg⟩
                  · have HV := Lib.hid (HY.out hg)
                    have H4 := Lib.hid (H3.out.more (.cells #[.int .i64 m0, .int .i64 m1] 52))
                    clear hg HY HZ
                    go_wp2_with fail
                    go_roundw
                    case rel => exact ⟨k + 1, _, rfl, by omega, by omega, HV.out, H4.out⟩
                    case measure => simp [intOf]; omega
                  · have HV := Lib.hid (HZ.out hg)
                    have H4 := Lib.hid (H3.out.more (.cells #[.int .i64 m0, .int .i64 m1] 52))
                    clear hg HY HZ
                    go_wp2_with fail
                    go_ret
                    rw [HV.out]
                    exact ⟨rfl, H4.out.all⟩
                · have h14' : (t.kind == 14) = false := by simpa using h14
                  have HV := Lib.hid (HY.out (elk_other h9 h14 _ _))
                  clear h9 h14 HY HZ
                  go_wp2_with fail
                  go_roundw
                  case rel => exact ⟨k + 1, _, rfl, by omega, by omega, HV.out, HB.out⟩
                  case measure => simp [intOf]; omega
            · obtain rfl : k = n := by omega
              have HE := Lib.hid (HOK.out (by intro j hj; rw [HNE.out] at hj; exact HA.out j (by omega)))
              go_wp2_with fail
              go_ret
              rw [HE.out]
              exact ⟨rfl, HB.out.all⟩
        · have hf' : ((t.data.size : Int) != (n : Int) * (s : Int)) = true := by simpa using hf
          have HE := Lib.hid (ck_form HN.out HK0.out HE0.out (by rw [HNE.out, HSE.out]; exact hf))
          clear hf
          go_wp2_with fail
          go_ret
          rw [HE.out]
          exact ⟨rfl, HBX.out.all⟩
      · have HE := Lib.hid (ck_shape HN.out HK0.out he)
        have he' : ¬ ((M5.sz t.dims).2 : Int) = 0 := by omega
        generalize hz : (M5.sz t.dims).2 = z at *
        clear he
        go_wp2_with fail
        go_ret
        rw [HE.out]
        exact ⟨rfl, HBX.out.all⟩
end Go.Proofs.Ytngjpgdgipmieaa
