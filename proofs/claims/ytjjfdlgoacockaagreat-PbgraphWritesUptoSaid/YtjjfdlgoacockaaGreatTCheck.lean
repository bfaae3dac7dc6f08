import Derived.Test.YtjjfdlgoacockaaGreatGRefTwo
import Derived.Test.YtjjfdlgoacockaaGreatLift
import Derived.Test.YtjjfdlgoacockaaGreatSSize
import Derived.Lib.QuietBelow
import Derived.BigQuiet
import Derived.Test.YtjjfdlgoacockaaGreatMath
import Derived.Test.YtjjfdlgoacockaaGreatOpenRow
namespace Go.Proofs.YtjjfdlgoacockaaGreat
open Go.RowKit M6 M7 Go.Sort

structure Tok (w : World) (t : Ten) (A : Option Addr) : Prop where
  name : t.name.size ≤ 140737488351232
  data : t.data.size ≤ 140737488351232
  kind : (Lit.int .i64 t.kind).wf = true
  dims : SR w w.heap.size 1 A t.dims.length (iv t.dims)
  len : t.dims.length ≤ maxLen
  ints : ∀ n ∈ t.dims, I64 n
theorem Tok.below {w w' : World} {t : Ten} {A : Option Addr} (h : Tok w t A) (hb : Below w.heap.size w w') : Tok w' t A := ⟨h.name, h.data, h.kind, (h.dims.below hb).more hb.size, h.len, h.ints⟩
theorem size_nat (k : Int) : ∃ s : Nat, kSize k = (s : Int) ∧ s ≤ 8 := by
  rcases kSize_is k with h | h | h | h
  · exact ⟨0, h, by omega⟩
  · exact ⟨1, h, by omega⟩
  · exact ⟨4, h, by omega⟩
  · exact ⟨8, h, by omega⟩
theorem count_nat (l : List Int) : ∃ n : Nat, (M5.sz l).1 = (n : Int) ∧ n ≤ 65536 := by
  rcases M5.sz_cases l with ⟨c, h, _⟩ | ⟨h, hs⟩
  · exact ⟨0, by rw [h]; rfl, by omega⟩
  · have h0 := M5.prd_nonneg hs.2
    rw [h]
    exact ⟨(M5.prd l).toNat, by simp; omega, by have := hs.4; simp; omega⟩
theorem small_prod {n s : Nat} (hn : n ≤ 65536) (hs : s ≤ 8) : 0 ≤ (n : Int) * (s : Int) ∧ (n : Int) * (s : Int) ≤ 524288 := by
  have := Nat.mul_le_mul hn hs
  rw [← Int.natCast_mul]
  omega

set_option maxRecDepth 100000 in
theorem tcheck_any (t : Ten) (A : Option Addr) (c : Nat) (w : World) (ht : Tok w t A) :
    Calls Tryz.prog 89 #[t_tv t.name t.kind (.slice A t.dims.length c) t.data] w fun e w' => e = .returned (.int .i64 (ck t)) ∧ Below w.heap.size w w' := by
  have hd := ht.data
  obtain ⟨s, hs, hs8⟩ := size_nat t.kind
  obtain ⟨n, hn, hn6⟩ := count_nat t.dims
  have HT := Lib.hid ht
  clear ht
  have HNM := Lib.hid (fun W => name_any t.name W (by have := HT.out.name; unfold maxLen; omega))
  have HBX := Lib.hid (Bx.start w #[.string t.name, .int .i64 t.kind, .slice A t.dims.length c, .string t.data] 98)
  cases hnm : nm t.name
  · have HE := Lib.hid (ck_name hnm)
    have HN := Lib.hid hnm
    clear hnm hs hn
    go_enter Tryz.func89, Tryz.ntmps89
    go_wp2_with fail
    refine (HNM.out _).mono ?_
    rintro e w1 ⟨rfl, rfl⟩
    rw [HN.out]
    go_wp2_with fail
    go_ret
    rw [HE.out]
    exact ⟨rfl, HBX.out.all⟩
  · have HN := Lib.hid hnm
    clear hnm
    go_enter Tryz.func89, Tryz.ntmps89
    go_wp2_with fail
    refine (HNM.out _).mono ?_
    rintro e w1 ⟨rfl, rfl⟩
    rw [HN.out]
    clear HNM
    go_wp2_with fail
    refine (k_size_any t.kind _ HT.out.kind).mono ?_
    rintro e w1 ⟨rfl, hb1⟩
    have H1 := Lib.hid (HBX.out.below hb1)
    clear hb1 HBX
    rw [hs]
    by_cases hs0 : s = 0
    · subst hs0
      have HE := Lib.hid (ck_kind HN.out hs)
      clear hs hn
      go_wp2_with fail
      go_ret
      rw [HE.out]
      exact ⟨rfl, H1.out.all⟩
    · have hs0' : ¬ (s : Int) = 0 := by omega
      obtain ⟨c0, c1, c2, c3⟩ := H1.out.four
      have HSZ := Lib.hid (shSize_any A c t.dims w1 HT.out.len (HT.out.below H1.out.all).dims HT.out.ints)
      have hk0 : kSize t.kind ≠ 0 := by rw [hs]; exact hs0'
      have HK0 := Lib.hid hk0
      have HSE := Lib.hid hs
      have HNE := Lib.hid hn
      clear hk0 hs hn
      go_wp2_with fail
      refine HSZ.out.mono ?_
      rintro e w2 ⟨rfl, rfl⟩
      rw [HNE.out]
      clear HSZ
      by_cases he : (M5.sz t.dims).2 = 0
      · have HE0 := Lib.hid he
        rw [he]
        clear he
        obtain ⟨p0, p1⟩ := small_prod hn6 hs8
        by_cases hf : (t.data.size : Int) = (n : Int) * (s : Int)
        · have hf' : ((t.data.size : Int) != (n : Int) * (s : Int)) = false := by simpa using hf
          have hfn : t.data.size = n * s := by rw [← Int.natCast_mul] at hf; omega
          have HF := Lib.hid hfn
          have HBAD := Lib.hid (fun (j : Nat) (hj : (j : Int) < (M5.sz t.dims).1) (h : elk t.kind t.data j = false) => ck_bad HN.out HK0.out HE0.out (by rw [HNE.out, HSE.out]; exact hf) hj h)
          have HOK := Lib.hid (fun (h : ∀ j : Nat, (j : Int) < (M5.sz t.dims).1 → elk t.kind t.data j = true) => ck_ok HN.out HK0.out HE0.out (by rw [HNE.out, HSE.out]; exact hf) h)
          clear hf hfn hs0
          go_wp2_with fail
          go_loopw [6, 33] (fun _ i wr => ∃ (k : Nat) (K : Int), i = .int .i64 K ∧ K = (k : Nat) ∧ k ≤ n ∧ (∀ j, j < k → elk t.kind t.data j = true) ∧ Bx w w.heap.size #[.string t.name, .int .i64 t.kind, .slice A t.dims.length c, .string t.data] 98 wr) (fun _ i _ => n - (intOf i).toNat)
          case atStart => exact ⟨0, _, rfl, rfl, by omega, by intro j hj; omega, H1.out⟩
          case round =>
            obtain ⟨k, K, rfl, rfl, hk, hall, hbx⟩ := hrel
            have HB := Lib.hid hbx
            have HA := Lib.hid hall
            clear hbx hall
            by_cases hlt : k < n
            · have hkn : (k + 1) * s ≤ t.data.size := by rw [HF.out]; exact Nat.mul_le_mul_right _ (by omega)
              have hst : (kSize t.kind).toNat = s := by rw [HSE.out]; omega
              have hme := may_elk (k := t.kind) (d := t.data) (j := k) (by rw [hst]; exact hkn)
              rw [hst] at hme
              have hsz8 : t.kind = 14 → (t.data.extract (k * s) ((k + 1) * s)).size = 8 := by
                intro h14
                have : s = 8 := by have := kSize_gauss h14; rw [this] at hst; omega
                subst this
                rw [ByteArray.size_extract]
                omega
              have HC := Lib.hid (fun W => t_cut_any t.name t.kind A t.dims.length c t.data k s W (by unfold maxLen; omega) hkn (by omega))
              have HM := Lib.hid (fun W => t_may_any t.kind (t.data.extract (k * s) ((k + 1) * s)) W hsz8)
              rw [hme] at HM
              obtain ⟨x0, x1, x2, x3⟩ := HB.out.four
              have q0 := fun d os => cell_regrown x0 d os
              have q1 := fun d os => cell_regrown x1 d os
              have q2 := fun d os => cell_regrown x2 d os
              have q3 := fun d os => cell_regrown x3 d os
              have hbs := HB.out.2.1
              generalize t.data.extract (k * s) ((k + 1) * s) = E at *
              clear x0 x1 x2 x3 hkn hst hme hsz8 c0 c1 c2 c3
              cases hel : elk t.kind t.data k
              · rw [hel] at HM
                have HE := Lib.hid (HBAD.out k (by rw [HNE.out]; omega) hel)
                clear hel
                go_wp2_with fail
                refine wp_region_quiet_below (by kernel_rfl) (by kernel_rfl) ?_
                repeat (go_big_quiet_step ((first
                  | (go_at_call 132; exact Calls.regrown_of (HC.out _))
                  | (go_at_call 131; exact Calls.regrown_of (HM.out _)))))
                refine wpQuiet_nil ?_
                rintro w2 ⟨p, rfl⟩
                have H2 := Lib.hid (HB.out.below (below_regrown wr p.d p.os))
                clear q0 q1 q2 q3
                generalize grow (redrawn wr p.d) p.os = w2 at H2 ⊢
                go_wp2_with fail
                go_ret
                rw [HE.out]
                exact ⟨rfl, H2.out.all⟩
              · rw [hel] at HM
                have HE := Lib.hid (succ_all (Q := fun j => elk t.kind t.data j = true) HA.out hel)
                clear hel
                go_wp2_with fail
                refine wp_region_quiet_below (by kernel_rfl) (by kernel_rfl) ?_
                repeat (go_big_quiet_step ((first
                  | (go_at_call 132; exact Calls.regrown_of (HC.out _))
                  | (go_at_call 131; exact Calls.regrown_of (HM.out _)))))
                refine wpQuiet_nil ?_
                rintro w2 ⟨p, rfl⟩
                have H2 := Lib.hid (HB.out.below (below_regrown wr p.d p.os))
                clear q0 q1 q2 q3
                generalize grow (redrawn wr p.d) p.os = w2 at H2 ⊢
                go_wp2_with fail
                go_roundw
                case rel => exact ⟨k + 1, _, rfl, by omega, by omega, HE.out, H2.out⟩
                case measure => simp [intOf]; omega
            · obtain rfl : k = n := by omega
              have HE := Lib.hid (HOK.out (by intro j hj; rw [HNE.out] at hj; exact HA.out j (by omega)))
              go_wp2_with fail
              go_ret
              rw [HE.out]
              exact ⟨rfl, HB.out.all⟩
        · have hf' : ((t.data.size : Int) != (n : Int) * (s : Int)) = true := by simpa using hf
          have HE := Lib.hid (ck_form HN.out HK0.out HE0.out (by rw [HNE.out, HSE.out]; exact hf))
          clear hf
          go_wp2_with fail
          go_ret
          rw [HE.out]
          exact ⟨rfl, H1.out.all⟩
      · have HE := Lib.hid (ck_shape HN.out HK0.out he)
        have he' : ¬ ((M5.sz t.dims).2 : Int) = 0 := by omega
        generalize hz : (M5.sz t.dims).2 = z at *
        clear he
        go_wp2_with fail
        go_ret
        rw [HE.out]
        exact ⟨rfl, H1.out.all⟩

theorem ext8 {d : ByteArray} {k n : Nat} (h : d.size = n * 8) (hk : k < n) : (d.extract (k * 8) ((k + 1) * 8)).size = 8 := by
  rw [ByteArray.size_extract]; omega

set_option maxRecDepth 100000 in
set_option maxHeartbeats 1000000 in
theorem rcheck_any (t : Ten) (A : Option Addr) (c : Nat) (w : World) (ht : Tok w t A) :
    Calls Tryz.prog 49 #[t_tv t.name t.kind (.slice A t.dims.length c) t.data] w fun e w' => e = .returned (.int .i64 (ck t)) ∧ Below w.heap.size w w' := by
  have hd := ht.data
  obtain ⟨s, hs, hs8⟩ := size_nat t.kind
  obtain ⟨n, hn, hn6⟩ := count_nat t.dims
  have HT := Lib.hid ht
  clear ht
  have HNM := Lib.hid (fun W => rname_any t.name W (by have := HT.out.name; unfold maxLen; omega))
  have HBX := Lib.hid (Bx.start w #[.string t.name, .int .i64 t.kind, .slice A t.dims.length c, .string t.data] 85)
  cases hnm : nm t.name
  · have HE := Lib.hid (ck_name hnm)
    have HN := Lib.hid hnm
    clear hnm hs hn
    go_enter Tryz.func49, Tryz.ntmps49
    go_wp2_with fail
    refine (HNM.out _).mono ?_
    rintro e w1 ⟨rfl, rfl⟩
    rw [HN.out]
    go_wp2_with fail
    go_ret
    rw [HE.out]
    exact ⟨rfl, HBX.out.all⟩
  · have HN := Lib.hid hnm
    clear hnm
    go_enter Tryz.func49, Tryz.ntmps49
    go_wp2_with fail
    refine (HNM.out _).mono ?_
    rintro e w1 ⟨rfl, rfl⟩
    rw [HN.out]
    clear HNM
    go_wp2_with fail
    refine (refSize_any t.kind _).mono ?_
    rintro e w1 ⟨rfl, rfl⟩
    rw [hs]
    by_cases hs0 : s = 0
    · subst hs0
      have HE := Lib.hid (ck_kind HN.out hs)
      clear hs hn
      go_wp2_with fail
      go_ret
      rw [HE.out]
      exact ⟨rfl, HBX.out.all⟩
    · have hs0' : ¬ (s : Int) = 0 := by omega
      have HSZ := Lib.hid (shRefSize_any A c t.dims (w.alloc (.cells #[.string t.name, .int .i64 t.kind, .slice A t.dims.length c, .string t.data] 85)) HT.out.len (HT.out.below HBX.out.all).dims HT.out.ints)
      have hk0 : kSize t.kind ≠ 0 := by rw [hs]; exact hs0'
      have HK0 := Lib.hid hk0
      have HSE := Lib.hid hs
      have HNE := Lib.hid hn
      clear hk0 hs hn
      go_wp2_with fail
      refine HSZ.out.mono ?_
      rintro e w2 ⟨rfl, rfl⟩
      rw [HNE.out]
      clear HSZ
      by_cases he : (M5.sz t.dims).2 = 0
      · have HE0 := Lib.hid he
        rw [he]
        clear he
        obtain ⟨p0, p1⟩ := small_prod hn6 hs8
        by_cases hf : (t.data.size : Int) = (n : Int) * (s : Int)
        · have hf' : ((t.data.size : Int) != (n : Int) * (s : Int)) = false := by simpa using hf
          have hfn : t.data.size = n * s := by rw [← Int.natCast_mul] at hf; omega
          have HF := Lib.hid hfn
          have HBAD := Lib.hid (fun (j : Nat) (hj : (j : Int) < (M5.sz t.dims).1) (h : elk t.kind t.data j = false) => ck_bad HN.out HK0.out HE0.out (by rw [HNE.out, HSE.out]; exact hf) hj h)
          have HOK := Lib.hid (fun (h : ∀ j : Nat, (j : Int) < (M5.sz t.dims).1 → elk t.kind t.data j = true) => ck_ok HN.out HK0.out HE0.out (by rw [HNE.out, HSE.out]; exact hf) h)
          clear hf hfn hs0
          go_wp2_with fail
          go_loopw [6] (fun i wr => ∃ (k : Nat) (K : Int), i = .int .i64 K ∧ K = (k : Nat) ∧ k ≤ n ∧ (∀ j, j < k → elk t.kind t.data j = true) ∧ Bx w w.heap.size #[.string t.name, .int .i64 t.kind, .slice A t.dims.length c, .string t.data] 85 wr) (fun i _ => n - (intOf i).toNat)
          case atStart => exact ⟨0, _, rfl, rfl, by omega, by intro j hj; omega, HBX.out⟩
          case round =>
            obtain ⟨k, K, rfl, rfl, hk, hall, hbx⟩ := hrel
            have HB := Lib.hid hbx
            have HA := Lib.hid hall
            clear hbx hall
            obtain ⟨x0, x1, x2, x3⟩ := HB.out.four
            by_cases hlt : k < n
            · have HY := Lib.hid (fun h => succ_all (Q := fun j => elk t.kind t.data j = true) HA.out (k := k) h)
              have HZ := Lib.hid (fun h => HBAD.out k (by rw [HNE.out]; omega) h)
              by_cases h9 : t.kind = 9
              · have hs1 : s = 1 := by have := kSize_flag h9; rw [HSE.out] at this; omega
                subst hs1
                have hkd : k < t.data.size := by rw [HF.out]; omega
                have hel : elk t.kind t.data k = decide (t.data[k].toNat ≤ 1) := by rw [h9]; exact elk_flag hkd
                rw [hel] at HY HZ
                rw [h9] at x1
                clear hel
                by_cases hv : t.data[k].toNat ≤ 1
                · have HV := Lib.hid (HY.out (decide_eq_true hv))
                  have hv' : ¬ 1 < (t.data[k].toNat : Int) := by omega
                  clear hv HY HZ
                  go_wp2_with fail
                  go_roundw
                  case rel => exact ⟨k + 1, _, rfl, by omega, by omega, HV.out, HB.out⟩
                  case measure => simp [intOf]; omega
                · have HV := Lib.hid (HZ.out (decide_eq_false hv))
                  have hv' : 1 < (t.data[k].toNat : Int) := by omega
                  clear hv HY HZ
                  go_wp2_with fail
                  go_ret
                  rw [HV.out]
                  exact ⟨rfl, HB.out.all⟩
              · have h9' : (t.kind == 9) = false := by simpa using h9
                by_cases h14 : t.kind = 14
                · have hs1 : s = 8 := by have := kSize_gauss h14; rw [HSE.out] at this; omega
                  have hF8 : t.data.size = n * 8 := by rw [HF.out, hs1]
                  have hk8 : ((k : Int) + 1) * 8 ≤ (t.data.size : Int) := by rw [hF8]; omega
                  have hE8 := ext8 hF8 hlt
                  clear hs1 hF8
                  have HR := Lib.hid (fun W => g_rread_any (t.data.extract (k * 8) ((k + 1) * 8)) W (by unfold maxLen; omega))
                  have hel : elk t.kind t.data k = gok (t.data.extract (k * 8) ((k + 1) * 8)) := by rw [h14]; exact elk_gauss _ _
                  rw [hel] at HY HZ
                  rw [h14] at x1
                  clear hel h9 h9' h14
                  rw [show (k + 1) * 8 = 8 * k + 8 by omega, Nat.mul_comm k 8] at HR HY HZ hE8
                  go_wp2_with fail
                  refine (HR.out _).mono ?_
                  rintro e w3 ⟨m0, m1, cc, rfl, hrd, hb3⟩
                  have H3 := Lib.hid (HB.out.below hb3)
                  have hcc := rd8 hrd hE8
                  have hz3 := hb3.size
                  clear hrd hE8 HR hb3 x0 x1 x2 x3
                  generalize t.data.extract (8 * k) (8 * k + 8) = E at *
                  rcases hcc with ⟨rfl, hg⟩ | ⟨rfl, hg⟩
                  · have HV := Lib.hid (HY.out hg)
                    have H4 := Lib.hid (H3.out.more (.cells #[.int .i64 m0, .int .i64 m1] 188))
                    clear hg HY HZ
                    go_wp2_with fail
                    go_roundw
                    case rel => exact ⟨k + 1, _, rfl, by omega, by omega, HV.out, H4.out⟩
                    case measure => simp [intOf]; omega
                  · have HV := Lib.hid (HZ.out hg)
                    have H4 := Lib.hid (H3.out.more (.cells #[.int .i64 m0, .int .i64 m1] 188))
                    clear hg HY HZ
                    go_wp2_with fail
                    go_ret
                    rw [HV.out]
                    exact ⟨rfl, H4.out.all⟩
                · have h14' : (t.kind == 14) = false := by simpa using h14
                  have HV := Lib.hid (HY.out (elk_other h9 h14 _ _))
                  clear h9 h14 HY HZ
                  go_wp2_with fail
                  go_roundw
                  case rel => exact ⟨k + 1, _, rfl, by omega, by omega, HV.out, HB.out⟩
                  case measure => simp [intOf]; omega
            · obtain rfl : k = n := by omega
              have HE := Lib.hid (HOK.out (by intro j hj; rw [HNE.out] at hj; exact HA.out j (by omega)))
              go_wp2_with fail
              go_ret
              rw [HE.out]
              exact ⟨rfl, HB.out.all⟩
        · have hf' : ((t.data.size : Int) != (n : Int) * (s : Int)) = true := by simpa using hf
          have HE := Lib.hid (ck_form HN.out HK0.out HE0.out (by rw [HNE.out, HSE.out]; exact hf))
          clear hf
          go_wp2_with fail
          go_ret
          rw [HE.out]
          exact ⟨rfl, HBX.out.all⟩
      · have HE := Lib.hid (ck_shape HN.out HK0.out he)
        have he' : ¬ ((M5.sz t.dims).2 : Int) = 0 := by omega
        generalize hz : (M5.sz t.dims).2 = z at *
        clear he
        go_wp2_with fail
        go_ret
        rw [HE.out]
        exact ⟨rfl, HBX.out.all⟩
end Go.Proofs.YtjjfdlgoacockaaGreat
namespace Go.Proofs.YtjjfdlgoacockaaGreat
open Go.RowKit M7

def sameT (t u : Ten) : Bool := decide (t.name = u.name) && decide (t.kind = u.kind) && decide (t.dims = u.dims) && decide (t.data = u.data)
theorem sameT_name {t u : Ten} (h : t.name ≠ u.name) : sameT t u = false := by unfold sameT; rw [decide_eq_false h]; rfl
theorem sameT_kind {t u : Ten} (h : t.kind ≠ u.kind) : sameT t u = false := by unfold sameT; rw [decide_eq_false h]; simp
theorem sameT_dims {t u : Ten} (h : t.dims ≠ u.dims) : sameT t u = false := by unfold sameT; rw [decide_eq_false h]; simp
theorem sameT_data {t u : Ten} (h : t.data ≠ u.data) : sameT t u = false := by unfold sameT; rw [decide_eq_false h]; simp
theorem sameT_yes {t u : Ten} (h1 : t.name = u.name) (h2 : t.kind = u.kind) (h3 : t.dims = u.dims) (h4 : t.data = u.data) : sameT t u = true := by
  unfold sameT; rw [decide_eq_true h1, decide_eq_true h2, decide_eq_true h3, decide_eq_true h4]; rfl

set_option maxRecDepth 100000 in
set_option maxHeartbeats 1000000 in
theorem rsame_wide (t u : Ten) (A B : Option Addr) (c d : Nat) (w : World) (ht : Tok w t A) (hu : Tok w u B) (hl : t.dims.length ≤ 9223372036854775807) :
    Calls Tryz.prog 31 #[t_tv t.name t.kind (.slice A t.dims.length c) t.data, t_tv u.name u.kind (.slice B u.dims.length d) u.data] w fun e w' => e = .returned (.bool (sameT t u)) ∧ Below w.heap.size w w' := by
  have hbx := Bx.start w #[.string t.name, .int .i64 t.kind, .slice A t.dims.length c, .string t.data] 85
  have HBY := Lib.hid (Bx.two w (.cells #[.string t.name, .int .i64 t.kind, .slice A t.dims.length c, .string t.data] 85) #[.string u.name, .int .i64 u.kind, .slice B u.dims.length d, .string u.data] 85)
  have HBX := Lib.hid (hbx.more (.cells #[.string u.name, .int .i64 u.kind, .slice B u.dims.length d, .string u.data] 85))
  have ha := (ht.below HBX.out.all).dims
  have hb := (hu.below HBX.out.all).dims
  clear hbx ht hu
  obtain ⟨tn, tk, tl, tdat⟩ := t
  obtain ⟨un, uk, ul, udat⟩ := u
  dsimp only at *
  by_cases h1 : tn = un
  · have e1 := teq_yes h1
    by_cases h2 : tk = uk
    · have e2 : (tk != uk) = false := by simpa using h2
      by_cases h4 : tdat = udat
      · have e4 := teq_yes h4
        by_cases h3 : tl.length = ul.length
        · have e3 : ((tl.length : Int) != (ul.length : Int)) = false := by simp; omega
          have HY := Lib.hid (fun h => sameT_yes (t := ⟨tn, tk, tl, tdat⟩) (u := ⟨un, uk, ul, udat⟩) h1 h2 h h4)
          have HL := Lib.hid h3
          clear h1 h2 h3 h4
          go_enter Tryz.func31, Tryz.ntmps31
          go_wp2_with fail
          go_loopw [5] (fun i wr => ∃ (k : Nat) (K : Int), i = .int .i64 K ∧ K = (k : Nat) ∧ k ≤ tl.length ∧ tl.take k = ul.take k ∧ Below ((w.alloc (.cells #[.string tn, .int .i64 tk, .slice A tl.length c, .string tdat] 85)).alloc (.cells #[.string un, .int .i64 uk, .slice B ul.length d, .string udat] 85)).heap.size ((w.alloc (.cells #[.string tn, .int .i64 tk, .slice A tl.length c, .string tdat] 85)).alloc (.cells #[.string un, .int .i64 uk, .slice B ul.length d, .string udat] 85)) wr) (fun i _ => tl.length - (intOf i).toNat)
          case atStart => exact ⟨0, _, rfl, rfl, by omega, rfl, Below.refl _ _⟩
          case round =>
            obtain ⟨k, K, rfl, rfl, hk, htk, hbw⟩ := hrel
            obtain ⟨x0, x1, x2, x3⟩ := (HBX.out.below hbw).four
            obtain ⟨y0, y1, y2, y3⟩ := (HBY.out.below hbw).four
            have HT := Lib.hid htk
            have HB := Lib.hid hbw
            have hbz := hbw.size
            clear htk
            by_cases hlt : k < tl.length
            · have hlt' : k < ul.length := by rw [← HL.out]; exact hlt
              obtain ⟨b1, o1, rfl, hb1, z0⟩ := int_at (ha.below hbw) hlt
              obtain ⟨b2, o2, rfl, hb2, z1⟩ := int_at (hb.below hbw) hlt'
              have HY2 := Lib.hid (take_same_yes HT.out hlt hlt')
              have HN := Lib.hid (take_same_no (l := tl) (m := ul) hlt hlt')
              clear ha hb hbw
              generalize tl[k] = u at *
              generalize ul[k] = v at *
              by_cases huv : u = v
              · subst huv
                have HE := Lib.hid (HY2.out rfl)
                go_wp2_with fail
                go_quiet (fail)
                go_wp2_with fail
                go_roundw
                case rel => exact ⟨k + 1, _, rfl, by omega, by omega, HE.out, below_drewN HB.out _⟩
                case measure => simp [intOf]; omega
              · have HE := Lib.hid (sameT_dims (t := ⟨tn, tk, tl, tdat⟩) (u := ⟨un, uk, ul, udat⟩) (HN.out huv))
                have huv' : (u != v) = true := by simpa using huv
                clear huv
                go_wp2_with fail
                go_quiet (fail)
                go_wp2_with fail
                go_ret
                rw [HE.out]
                exact ⟨rfl, HBX.out.all.trans ((below_drewN HB.out _).mono HBX.out.all.size)⟩
            · obtain rfl : k = tl.length := by omega
              have HE := Lib.hid (HY.out (take_same_all HL.out (by rw [← HL.out]; exact HT.out)))
              clear ha hb hbw
              go_wp2_with fail
              go_ret
              rw [HE.out]
              exact ⟨rfl, HBX.out.all.trans (HB.out.mono HBX.out.all.size)⟩
        · have e3 : ((tl.length : Int) != (ul.length : Int)) = true := by simp; omega
          have HE := Lib.hid (sameT_dims (t := ⟨tn, tk, tl, tdat⟩) (u := ⟨un, uk, ul, udat⟩) (fun h => h3 (congrArg List.length h)))
          clear h1 h2 h3 h4 ha hb
          go_enter Tryz.func31, Tryz.ntmps31
          go_wp2_with fail
          go_ret
          rw [HE.out]
          exact ⟨rfl, HBX.out.all⟩
      · have e4 := teq_no h4
        have HE := Lib.hid (sameT_data (t := ⟨tn, tk, tl, tdat⟩) (u := ⟨un, uk, ul, udat⟩) h4)
        clear h1 h2 h4 ha hb
        go_enter Tryz.func31, Tryz.ntmps31
        go_wp2_with fail
        go_ret
        rw [HE.out]
        exact ⟨rfl, HBX.out.all⟩
    · have e2 : (tk != uk) = true := by simpa using h2
      have HE := Lib.hid (sameT_kind (t := ⟨tn, tk, tl, tdat⟩) (u := ⟨un, uk, ul, udat⟩) h2)
      clear h1 h2 ha hb
      go_enter Tryz.func31, Tryz.ntmps31
      go_wp2_with fail
      go_ret
      rw [HE.out]
      exact ⟨rfl, HBX.out.all⟩
  · have e1 := teq_no h1
    have HE := Lib.hid (sameT_name (t := ⟨tn, tk, tl, tdat⟩) (u := ⟨un, uk, ul, udat⟩) h1)
    clear h1 ha hb
    go_enter Tryz.func31, Tryz.ntmps31
    go_wp2_with fail
    go_ret
    rw [HE.out]
    exact ⟨rfl, HBX.out.all⟩
end Go.Proofs.YtjjfdlgoacockaaGreat
namespace Go.Proofs.YtjjfdlgoacockaaGreat
open Go.RowKit M7

namespace M10
structure Inf where
  name : ByteArray
  kind : Int
  dims : List Int
deriving Inhabited
structure Att where
  name : ByteArray
  one : Bool
  int : Int
  ints : List Int
deriving Inhabited
structure Nod where
  op : ByteArray
  ins : List ByteArray
  out : ByteArray
  attrs : List Att
deriving Inhabited
structure Mod where
  opset : Int
  inputs : List Inf
  outputs : List Inf
  inits : List Ten
  nodes : List Nod
end M10
open M10
deriving instance Inhabited for Ten

def eqAll {α : Type} (f : α → α → Bool) : List α → List α → Bool
  | [], [] => true
  | a :: l, b :: m => f a b && eqAll f l m
  | _, _ => false
def eqTo {α : Type} (f : α → α → Bool) (l m : List α) (k : Nat) : Prop := ∀ j, j < k → ∀ (h1 : j < l.length) (h2 : j < m.length), f l[j] m[j] = true
section
variable {α : Type} {f : α → α → Bool}
theorem eqAll_len : ∀ {l m : List α}, l.length ≠ m.length → eqAll f l m = false
  | [], [], h => absurd rfl h
  | [], _ :: _, _ => rfl
  | _ :: _, [], _ => rfl
  | a :: l, b :: m, h => by
    have := eqAll_len (l := l) (m := m) (by simpa using h)
    simp [eqAll, this]
theorem eqAll_no : ∀ {l m : List α} {k : Nat} (h1 : k < l.length) (h2 : k < m.length), f l[k] m[k] = false → eqAll f l m = false
  | [], _, _, h1, _, _ => absurd h1 (by simp)
  | _ :: _, [], _, _, h2, _ => absurd h2 (by simp)
  | a :: l, b :: m, 0, _, _, h => by
    have h' : f a b = false := by simpa using h
    simp [eqAll, h']
  | a :: l, b :: m, k + 1, h1, h2, h => by
    have := eqAll_no (l := l) (m := m) (k := k) (by simpa using h1) (by simpa using h2) (by simpa using h)
    simp [eqAll, this]
theorem eqAll_yes : ∀ {l m : List α}, l.length = m.length → eqTo f l m l.length → eqAll f l m = true
  | [], [], _, _ => rfl
  | [], _ :: _, h, _ => by simp at h
  | _ :: _, [], h, _ => by simp at h
  | a :: l, b :: m, h, ht => by
    have h0 : f a b = true := ht 0 (by simp) (by simp) (by simp)
    have := eqAll_yes (l := l) (m := m) (by simpa using h) (fun j hj h1 h2 => ht (j + 1) (Nat.succ_lt_succ hj) (Nat.succ_lt_succ h1) (Nat.succ_lt_succ h2))
    simp [eqAll, h0, this]
theorem eqTo_zero (l m : List α) : eqTo f l m 0 := fun j h => absurd h (by omega)
theorem eqTo_succ {l m : List α} {k : Nat} (h : eqTo f l m k) (h1 : k < l.length) (h2 : k < m.length) (hf : f l[k] m[k] = true) : eqTo f l m (k + 1) := by
  intro j hj a b
  by_cases hjk : j = k
  · subst hjk; exact hf
  · exact h j (by omega) a b
theorem eqAll_refl (hr : ∀ a, f a a = true) : ∀ l : List α, eqAll f l l = true
  | [] => rfl
  | a :: l => by simp [eqAll, hr a, eqAll_refl hr l]
theorem eqAll_map {g : α → α} (hr : ∀ a, f (g a) a = true) : ∀ l : List α, eqAll f (l.map g) l = true
  | [] => rfl
  | a :: l => by simp [eqAll, hr a, eqAll_map hr l]
end
theorem eqAll_eq {α : Type} [DecidableEq α] : ∀ (l m : List α), eqAll (fun a b => decide (a = b)) l m = decide (l = m)
  | [], [] => by simp [eqAll]
  | [], _ :: _ => by simp [eqAll]
  | _ :: _, [] => by simp [eqAll]
  | a :: l, b :: m => by rw [eqAll, eqAll_eq l m]; simp

def sameI (i j : Inf) : Bool := decide (i.name = j.name) && decide (i.kind = j.kind) && decide (i.dims = j.dims)
def sameA (a b : Att) : Bool := decide (a.name = b.name) && (a.one == b.one) && (if a.one then decide (a.int = b.int) else decide (a.ints = b.ints))
def sameN (n o : Nod) : Bool := decide (n.op = o.op) && decide (n.ins = o.ins) && decide (n.out = o.out) && eqAll sameA n.attrs o.attrs
def sameM (m n : Mod) : Bool := decide (m.opset = n.opset) && eqAll sameI m.inputs n.inputs && eqAll sameI m.outputs n.outputs && eqAll sameT m.inits n.inits && eqAll sameN m.nodes n.nodes
def nA (a : Att) : Att := if a.one then ⟨a.name, true, a.int, []⟩ else ⟨a.name, false, 0, a.ints⟩
def nN (n : Nod) : Nod := ⟨n.op, n.ins, n.out, n.attrs.map nA⟩
def nM (m : Mod) : Mod := ⟨m.opset, m.inputs, m.outputs, m.inits, m.nodes.map nN⟩
theorem sameT_refl (t : Ten) : sameT t t = true := sameT_yes rfl rfl rfl rfl
theorem sameI_refl (i : Inf) : sameI i i = true := by simp [sameI]
theorem sameA_nA (a : Att) : sameA (nA a) a = true := by unfold sameA nA; cases h : a.one <;> simp
theorem sameN_nN (n : Nod) : sameN (nN n) n = true := by simp [sameN, nN, eqAll_map sameA_nA]
theorem sameM_nM (m : Mod) : sameM (nM m) m = true := by simp [sameM, nM, eqAll_refl sameI_refl, eqAll_refl sameT_refl, eqAll_map sameN_nN]
def Al {α : Type} (P : α → List Value → Prop) : List α → List (List Value) → Prop
  | [], [] => True
  | a :: l, c :: cs => P a c ∧ Al P l cs
  | _, _ => False
section
variable {α : Type} {P Q : α → List Value → Prop}
theorem Al.len : ∀ {l : List α} {css : List (List Value)}, Al P l css → l.length = css.length
  | [], [], _ => rfl
  | _ :: _, [], h => h.elim
  | [], _ :: _, h => h.elim
  | _ :: l, _ :: css, h => by simp [Al.len h.2]
theorem Al.mono (hm : ∀ a c, P a c → Q a c) : ∀ {l : List α} {css : List (List Value)}, Al P l css → Al Q l css
  | [], [], _ => trivial
  | _ :: _, [], h => h.elim
  | [], _ :: _, h => h.elim
  | _ :: _, _ :: _, h => ⟨hm _ _ h.1, Al.mono hm h.2⟩
theorem Al.get : ∀ {l : List α} {css : List (List Value)} {k : Nat} (_ : Al P l css) (h1 : k < l.length) (h2 : k < css.length), P l[k] css[k]
  | [], _, _, _, h1, _ => absurd h1 (by simp)
  | _ :: _, [], _, h, _, _ => h.elim
  | a :: l, c :: css, 0, h, _, _ => h.1
  | a :: l, c :: css, k + 1, h, h1, h2 => by simpa using Al.get h.2 (by simpa using h1) (by simpa using h2)
theorem Al.mem {l : List α} {css : List (List Value)} (h : Al P l css) : ∀ c ∈ css, ∃ a ∈ l, P a c := by
  intro c hc
  obtain ⟨k, hk, rfl⟩ := List.mem_iff_getElem.1 hc
  have h1 : k < l.length := by rw [h.len]; exact hk
  exact ⟨l[k], List.getElem_mem h1, h.get h1 hk⟩
theorem Al.snoc : ∀ {l : List α} {css : List (List Value)} {a : α} {c : List Value}, Al P l css → P a c → Al P (l ++ [a]) (css ++ [c])
  | [], [], _, _, _, hp => ⟨hp, trivial⟩
  | _ :: _, [], _, _, h, _ => h.elim
  | [], _ :: _, _, _, h, _ => h.elim
  | _ :: _, _ :: _, _, _, h, hp => ⟨h.1, Al.snoc h.2 hp⟩
theorem Al.of_get : ∀ {l : List α} {css : List (List Value)}, l.length = css.length → (∀ k (h1 : k < l.length) (h2 : k < css.length), P l[k] css[k]) → Al P l css
  | [], [], _, _ => trivial
  | _ :: _, [], h, _ => by simp at h
  | [], _ :: _, h, _ => by simp at h
  | a :: l, c :: css, h, hg => ⟨hg 0 (by simp) (by simp), Al.of_get (by simpa using h) fun k h1 h2 => hg (k + 1) (Nat.succ_lt_succ h1) (Nat.succ_lt_succ h2)⟩
theorem Al.nil_inv {css : List (List Value)} (h : Al P [] css) : css = [] := by cases css with | nil => rfl | cons _ _ => exact h.elim
end
theorem flat_at {size : Nat} : ∀ {css : List (List Value)} {k : Nat}, (∀ c ∈ css, c.length = size) → ∀ (hk : k < css.length) (j : Nat), j < size → css.flatten[k * size + j]? = css[k][j]?
  | [], _, _, hk, _, _ => absurd hk (by simp)
  | c :: css, 0, h, _, j, hj => by
    have hc := h c List.mem_cons_self
    rw [List.flatten_cons, Nat.zero_mul, Nat.zero_add, List.getElem?_append_left (by omega)]
    rfl
  | c :: css, k + 1, h, hk, j, hj => by
    have hc := h c List.mem_cons_self
    rw [List.flatten_cons, List.getElem?_append_right (by rw [Nat.succ_mul]; omega), hc, show (k + 1) * size + j - size = k * size + j by rw [Nat.succ_mul]; omega]
    simpa using flat_at (css := css) (k := k) (fun x hx => h x (List.mem_cons_of_mem _ hx)) (by simpa using hk) j hj

structure Ek {α : Type} (P : Nat → World → α → List Value → Prop) (size : Nat) : Prop where
  len : ∀ {B w a cs}, P B w a cs → cs.length = size
  below : ∀ {B w w' a cs}, P B w a cs → Below B w w' → P B w' a cs
  more : ∀ {B B' w a cs}, P B w a cs → B ≤ B' → P B' w a cs
def DR {α : Type} (P : Nat → World → α → List Value → Prop) (w : World) (B size : Nat) (A : Option Addr) (l : List α) : Prop :=
  ∃ css, Al (P B w) l css ∧ SR w B size A l.length css.flatten
section
variable {α : Type} {P : Nat → World → α → List Value → Prop} {w w' : World} {B B' size : Nat} {A : Option Addr} {l : List α}
theorem Ek.all (hk : Ek P size) {css : List (List Value)} (h : Al (P B w) l css) : ∀ c ∈ css, c.length = size := fun c hc => by
  obtain ⟨a, _, hp⟩ := h.mem c hc
  exact hk.len hp
theorem DR.below (h : DR P w B size A l) (hk : Ek P size) (hb : Below B w w') : DR P w' B size A l := by
  obtain ⟨css, ha, hs⟩ := h
  exact ⟨css, ha.mono fun _ _ hp => hk.below hp hb, hs.below hb⟩
theorem DR.more (h : DR P w B size A l) (hk : Ek P size) (hB : B ≤ B') : DR P w B' size A l := by
  obtain ⟨css, ha, hs⟩ := h
  exact ⟨css, ha.mono fun _ _ hp => hk.more hp hB, hs.more hB⟩
theorem DR.at_ (h : DR P w B size A l) (hk : Ek P size) {k : Nat} (hlt : k < l.length) :
    ∃ b o cs, A = some ⟨b, o, none⟩ ∧ b < B ∧ P B w l[k] cs ∧ ∀ j u, cs[j]? = some u → w.cell? ⟨b, o + k * size + j, none⟩ = some u := by
  obtain ⟨css, ha, hs⟩ := h
  have hkc : k < css.length := by rw [← ha.len]; exact hlt
  obtain ⟨b, o, hA, hb, hc⟩ := hs.at_ hlt
  refine ⟨b, o, css[k], hA, hb, ha.get hlt hkc, fun j u hj => ?_⟩
  have hcl := hk.len (ha.get hlt hkc)
  have hjs : j < size := by have := (List.getElem?_eq_some_iff.1 hj).1; omega
  exact hc j hjs u (by rw [flat_at (hk.all ha) hkc j hjs]; exact hj)
theorem DR.empty (w : World) (B : Nat) (A : Option Addr) : DR P w B size A [] := ⟨[], trivial, SR.empty _ _ _ _⟩
theorem DR.all (h : DR P w B size A l) : ∀ a ∈ l, ∃ cs, P B w a cs := by
  intro a ha
  obtain ⟨css, hal, _⟩ := h
  obtain ⟨k, hk, rfl⟩ := List.mem_iff_getElem.1 ha
  exact ⟨_, hal.get hk (by rw [← hal.len]; exact hk)⟩
end

structure IOk (i : Inf) : Prop where
  name : i.name.size ≤ 140737488351232
  kind : (Lit.int .i64 i.kind).wf = true
  len : i.dims.length * 8 ≤ 140737488351232
  ints : ∀ n ∈ i.dims, I64 n
structure TOk (t : Ten) : Prop where
  name : t.name.size ≤ 140737488351232
  data : t.data.size ≤ 140737488351232
  kind : (Lit.int .i64 t.kind).wf = true
  len : t.dims.length * 8 ≤ 140737488351232
  ints : ∀ n ∈ t.dims, I64 n
structure AOk (a : Att) : Prop where
  name : a.name.size ≤ 140737488351232
  len : a.ints.length * 8 ≤ 140737488351232
  int : I64 a.int
  ints : ∀ n ∈ a.ints, I64 n
structure NOk (n : Nod) : Prop where
  op : n.op.size ≤ 140737488351232
  out : n.out.size ≤ 140737488351232
  ins : ∀ s ∈ n.ins, s.size ≤ 140737488351232
  len : n.ins.length * 16 ≤ 140737488351232
  alen : n.attrs.length * 56 ≤ 140737488351232
def InfAt (B : Nat) (w : World) (i : Inf) (cs : List Value) : Prop :=
  ∃ A c, cs = [.string i.name, .int .i64 i.kind, .slice A i.dims.length c] ∧ SR w B 1 A i.dims.length (iv i.dims) ∧ IOk i
def TenAt (B : Nat) (w : World) (t : Ten) (cs : List Value) : Prop :=
  ∃ A c, cs = [.string t.name, .int .i64 t.kind, .slice A t.dims.length c, .string t.data] ∧ SR w B 1 A t.dims.length (iv t.dims) ∧ TOk t
def AttAt (B : Nat) (w : World) (a : Att) (cs : List Value) : Prop :=
  ∃ A c, cs = [.string a.name, .bool a.one, .int .i64 a.int, .slice A a.ints.length c] ∧ SR w B 1 A a.ints.length (iv a.ints) ∧ AOk a
def NodAt (B : Nat) (w : World) (n : Nod) (cs : List Value) : Prop :=
  ∃ A c A' c', cs = [.string n.op, .slice A n.ins.length c, .string n.out, .slice A' n.attrs.length c'] ∧ SR w B 1 A n.ins.length (n.ins.map Value.string) ∧ DR AttAt w B 4 A' n.attrs ∧ NOk n
theorem ek_inf : Ek InfAt 3 := ⟨fun ⟨_, _, h, _⟩ => by rw [h]; rfl, fun ⟨A, c, h, hs, ho⟩ hb => ⟨A, c, h, hs.below hb, ho⟩, fun ⟨A, c, h, hs, ho⟩ hb => ⟨A, c, h, hs.more hb, ho⟩⟩
theorem ek_ten : Ek TenAt 4 := ⟨fun ⟨_, _, h, _⟩ => by rw [h]; rfl, fun ⟨A, c, h, hs, ho⟩ hb => ⟨A, c, h, hs.below hb, ho⟩, fun ⟨A, c, h, hs, ho⟩ hb => ⟨A, c, h, hs.more hb, ho⟩⟩
theorem ek_att : Ek AttAt 4 := ⟨fun ⟨_, _, h, _⟩ => by rw [h]; rfl, fun ⟨A, c, h, hs, ho⟩ hb => ⟨A, c, h, hs.below hb, ho⟩, fun ⟨A, c, h, hs, ho⟩ hb => ⟨A, c, h, hs.more hb, ho⟩⟩
theorem ek_nod : Ek NodAt 4 := ⟨fun ⟨_, _, _, _, h, _⟩ => by rw [h]; rfl, fun ⟨A, c, A', c', h, hs, hd, ho⟩ hb => ⟨A, c, A', c', h, hs.below hb, hd.below ek_att hb, ho⟩, fun ⟨A, c, A', c', h, hs, hd, ho⟩ hb => ⟨A, c, A', c', h, hs.more hb, hd.more ek_att hb, ho⟩⟩
theorem TOk.tok {t : Ten} (h : TOk t) {w : World} {A : Option Addr} (hs : SR w w.heap.size 1 A t.dims.length (iv t.dims)) : Tok w t A := ⟨h.name, h.data, h.kind, hs, by have := h.len; unfold maxLen; omega, h.ints⟩
structure ModAt (B : Nat) (w : World) (m : Mod) (A1 A2 A3 A4 : Option Addr) : Prop where
  inputs : DR InfAt w B 3 A1 m.inputs
  outputs : DR InfAt w B 3 A2 m.outputs
  inits : DR TenAt w B 4 A3 m.inits
  nodes : DR NodAt w B 4 A4 m.nodes
  opset : I64 m.opset
  len1 : m.inputs.length * 48 ≤ 140737488351232
  len2 : m.outputs.length * 48 ≤ 140737488351232
  len3 : m.inits.length * 64 ≤ 140737488351232
  len4 : m.nodes.length * 80 ≤ 140737488351232
theorem ModAt.below {B : Nat} {w w' : World} {m : Mod} {A1 A2 A3 A4 : Option Addr} (h : ModAt B w m A1 A2 A3 A4) (hb : Below B w w') : ModAt B w' m A1 A2 A3 A4 :=
  ⟨h.inputs.below ek_inf hb, h.outputs.below ek_inf hb, h.inits.below ek_ten hb, h.nodes.below ek_nod hb, h.opset, h.len1, h.len2, h.len3, h.len4⟩
theorem ModAt.more {B B' : Nat} {w : World} {m : Mod} {A1 A2 A3 A4 : Option Addr} (h : ModAt B w m A1 A2 A3 A4) (hb : B ≤ B') : ModAt B' w m A1 A2 A3 A4 :=
  ⟨h.inputs.more ek_inf hb, h.outputs.more ek_inf hb, h.inits.more ek_ten hb, h.nodes.more ek_nod hb, h.opset, h.len1, h.len2, h.len3, h.len4⟩
def mv (o : Int) (A1 : Option Addr) (n1 c1 : Nat) (A2 : Option Addr) (n2 c2 : Nat) (A3 : Option Addr) (n3 c3 : Nat) (A4 : Option Addr) (n4 c4 : Nat) : Array Value :=
  #[.int .i64 o, .slice A1 n1 c1, .slice A2 n2 c2, .slice A3 n3 c3, .slice A4 n4 c4]
end Go.Proofs.YtjjfdlgoacockaaGreat
namespace Go.Proofs.YtjjfdlgoacockaaGreat
open Go.RowKit M6 M7

def ec (k : Int) (t : Ten) : Int := if ck t ≠ 0 then ck t else if t.kind = k then 0 else 13
end Go.Proofs.YtjjfdlgoacockaaGreat
namespace Go.Proofs.YtjjfdlgoacockaaGreat
open Go.RowKit M7 M10

def m_tx (l : List ByteArray) : List Value := l.map Value.string
theorem m_txt_at {w : World} {B : Nat} {A : Option Addr} {l : List ByteArray} (h : SR w B 1 A l.length (m_tx l)) {k : Nat} (hk : k < l.length) :
    ∃ b o, A = some ⟨b, o, none⟩ ∧ b < B ∧ w.cell? ⟨b, o + k, none⟩ = some (.string l[k]) := cell_at h hk (by simp [m_tx, hk])
theorem eqTo_no {α : Type} [DecidableEq α] {l m : List α} {k : Nat} (h1 : k < l.length) (h2 : k < m.length) (he : l[k] ≠ m[k]) : decide (l = m) = false := decide_eq_false (by rintro rfl; exact he rfl)
theorem eqTo_yes {α : Type} [DecidableEq α] {l m : List α} (hl : l.length = m.length) (h : eqTo (fun a b => decide (a = b)) l m l.length) : decide (l = m) = true := by
  rw [← eqAll_eq]; exact eqAll_yes hl h
theorem InfAt.shape {B : Nat} {w : World} {i : Inf} {cs : List Value} (h : InfAt B w i cs) : ∃ A c, cs = [.string i.name, .int .i64 i.kind, .slice A i.dims.length c] := by
  obtain ⟨A, c, h, _⟩ := h; exact ⟨A, c, h⟩
theorem TenAt.shape {B : Nat} {w : World} {t : Ten} {cs : List Value} (h : TenAt B w t cs) : ∃ A c, cs = [.string t.name, .int .i64 t.kind, .slice A t.dims.length c, .string t.data] := by
  obtain ⟨A, c, h, _⟩ := h; exact ⟨A, c, h⟩
theorem AttAt.shape {B : Nat} {w : World} {a : Att} {cs : List Value} (h : AttAt B w a cs) : ∃ A c, cs = [.string a.name, .bool a.one, .int .i64 a.int, .slice A a.ints.length c] := by
  obtain ⟨A, c, h, _⟩ := h; exact ⟨A, c, h⟩
theorem NodAt.shape {B : Nat} {w : World} {n : Nod} {cs : List Value} (h : NodAt B w n cs) : ∃ A c A' c', cs = [.string n.op, .slice A n.ins.length c, .string n.out, .slice A' n.attrs.length c'] := by
  obtain ⟨A, c, A', c', h, _⟩ := h; exact ⟨A, c, A', c', h⟩
theorem Bx.three {w W : World} {g : Nat} {a0 a1 a2 : Value} {T : TypeId} (h : Bx w g #[a0, a1, a2] T W) : W.cell? ⟨g, 0, none⟩ = some a0 ∧ W.cell? ⟨g, 1, none⟩ = some a1 ∧ W.cell? ⟨g, 2, none⟩ = some a2 :=
  ⟨h.cell 0, h.cell 1, h.cell 2⟩
theorem Bx.five {w W : World} {g : Nat} {a0 a1 a2 a3 a4 : Value} {T : TypeId} (h : Bx w g #[a0, a1, a2, a3, a4] T W) : W.cell? ⟨g, 0, none⟩ = some a0 ∧ W.cell? ⟨g, 1, none⟩ = some a1 ∧ W.cell? ⟨g, 2, none⟩ = some a2 ∧ W.cell? ⟨g, 3, none⟩ = some a3 ∧ W.cell? ⟨g, 4, none⟩ = some a4 :=
  ⟨h.cell 0, h.cell 1, h.cell 2, h.cell 3, h.cell 4⟩
end Go.Proofs.YtjjfdlgoacockaaGreat
namespace Go.Proofs.YtjjfdlgoacockaaGreat
open Go.RowKit M7

set_option maxRecDepth 100000 in
theorem law7of_any (nme : ByteArray) (k : Int) (A : Option Addr) (l c : Nat) (d : ByteArray) (w : World) :
    Calls Tryz.prog 34 #[t_tv nme k (.slice A l c) d] w fun e w' => e = .returned (t_tv nme k (.slice A l c) d) ∧ Below w.heap.size w w' := by
  have hb := Bx.two w (.cells #[.string nme, .int .i64 k, .slice A l c, .string d] 98) #[.string nme, .int .i64 k, .slice A l c, .string d] 85
  have HK := Lib.hid hb
  clear hb
  go_enter Tryz.func34, Tryz.ntmps34
  go_wp2_with fail
  obtain ⟨c0, c1, c2, c3⟩ := HK.out.four
  have hbb := HK.out.all
  clear HK
  generalize (w.alloc (.cells #[.string nme, .int .i64 k, .slice A l c, .string d] 98)).alloc (.cells #[.string nme, .int .i64 k, .slice A l c, .string d] 85) = w2 at *
  exact bodyPost_ret (v := .agg #[.string nme, .int .i64 k, .slice A l c, .string d]) (by simp [results, Tryz.results34, go_sem, c0, c1, c2, c3]) rfl ⟨rfl, hbb⟩
end Go.Proofs.YtjjfdlgoacockaaGreat
namespace Go.Proofs.YtjjfdlgoacockaaGreat
open Go.RowKit M7 M10 Go.ChangeShapes Go.WideShapes Go.Deep

theorem flat_single {α : Type} (mk : α → Value) : ∀ l : List α, (l.map fun a => [mk a]).flatten = l.map mk
  | [] => rfl
  | a :: l => by rw [List.map_cons, List.flatten_cons, flat_single mk l]; rfl
theorem one_flat {α : Type} {mk : α → Value} {l : List α} {css : List (List Value)} (hl : l.length = css.length) (h : ∀ k (h1 : k < l.length) (h2 : k < css.length), css[k] = [mk l[k]]) : css.flatten = l.map mk := by
  have e : css = l.map fun a => [mk a] := List.ext_getElem (by simp [hl]) fun k h1 h2 => by
    rw [h k (by simpa using h2) h1]; simp
  rw [e, flat_single]
theorem reach10 : reachBytes = 140737488351232 := by decide
theorem bytesInt10 : Tryz.prog.bytesOf 2 = 8 := by kernel_rfl
theorem bytesStr10 : Tryz.prog.bytesOf 9 = 16 := by kernel_rfl
section
variable {H : Type} {enc : TypeId × Value → H} {w : World} {base : Nat} {spare : Nat → Bool} {held : Bool}
theorem off_inf : (match Tryz.prog.underlying 106 with | some (.struct fs) => fs.toList.map (fun f => (f.offset, f.type)) | _ => []) = [(0, 9), (1, 96), (2, 83)] := by kernel_rfl
theorem one_inf : ∀ t ∈ [9, 96, 83], Tryz.prog.cellsOf t = 1 := by
  have h : ([9, 96, 83].all fun t => decide (Tryz.prog.cellsOf t = 1)) = true := by kernel_rfl
  simpa using h
theorem off_ten : (match Tryz.prog.underlying 98 with | some (.struct fs) => fs.toList.map (fun f => (f.offset, f.type)) | _ => []) = [(0, 9), (1, 96), (2, 83), (3, 9)] := by kernel_rfl
theorem one_ten : ∀ t ∈ [9, 96, 83, 9], Tryz.prog.cellsOf t = 1 := by
  have h : ([9, 96, 83, 9].all fun t => decide (Tryz.prog.cellsOf t = 1)) = true := by kernel_rfl
  simpa using h
theorem off_att : (match Tryz.prog.underlying 108 with | some (.struct fs) => fs.toList.map (fun f => (f.offset, f.type)) | _ => []) = [(0, 9), (1, 4), (2, 2), (3, 83)] := by kernel_rfl
theorem one_att : ∀ t ∈ [9, 4, 2, 83], Tryz.prog.cellsOf t = 1 := by
  have h : ([9, 4, 2, 83].all fun t => decide (Tryz.prog.cellsOf t = 1)) = true := by kernel_rfl
  simpa using h
theorem off_nod : (match Tryz.prog.underlying 102 with | some (.struct fs) => fs.toList.map (fun f => (f.offset, f.type)) | _ => []) = [(0, 9), (1, 64), (2, 9), (3, 100)] := by kernel_rfl
theorem one_nod : ∀ t ∈ [9, 64, 9, 100], Tryz.prog.cellsOf t = 1 := by
  have h : ([9, 64, 9, 100].all fun t => decide (Tryz.prog.cellsOf t = 1)) = true := by kernel_rfl
  simpa using h
theorem off_mod : (match Tryz.prog.underlying 34 with | some (.struct fs) => fs.toList.map (fun f => (f.offset, f.type)) | _ => []) = [(0, 2), (1, 30), (2, 30), (3, 31), (4, 32)] := by kernel_rfl
theorem one_mod : ∀ t ∈ [2, 30, 30, 31, 32], Tryz.prog.cellsOf t = 1 := by
  have h : ([2, 30, 30, 31, 32].all fun t => decide (Tryz.prog.cellsOf t = 1)) = true := by kernel_rfl
  simpa using h
theorem cells_mod : Tryz.prog.cellsOf 34 = 5 := by kernel_rfl
theorem modelStruct : ∃ fs, Tryz.prog.underlying 34 = some (.struct fs) := ⟨_, Tryz.underlying34⟩
end
end Go.Proofs.YtjjfdlgoacockaaGreat
