/- The walk of the law ShapePlaces. -/
import Derived.Test.YtiljgokhgihodaaSTurns
import Derived.Test.YtiljgokhgihodaaSCount
import Derived.Test.YtiljgokhgihodaaSPlaces
namespace Go.Proofs.Ytiljgokhgihodaa
open Go.RowKit M5

theorem few_of {l : List Int} (h : Shp l) (h4 : ¬ 400 < prd l) : Few l := ⟨h.len, h.lo, h.hi, by omega⟩
theorem lo_in {l : List Int} (h : Shp l) : ∀ n ∈ l, I64 n := fun x hx => by have := h.lo x hx; have := h.hi x hx; unfold I64; omega
/-- ends with the example -/
theorem nil_size : sz [] = (1, 0) := by decide +kernel

set_option maxRecDepth 100000 in
theorem places_not (A : Option Addr) (c : Nat) (l : List Int) (B : Option Addr) (d : Nat) (t : List Int) (w : World) (hlm : l.length ≤ maxLen) (ha : SR w w.heap.size 1 A l.length (iv l)) (hia : ∀ n ∈ l, I64 n) (hno : (sz l).2 ≠ 0 ∨ 400 < (sz l).1) :
    Calls Try.prog 4 #[.slice A l.length c, .slice B t.length d] w fun e w' => e = .returned (.bool true) ∧ Below w.heap.size w w' := by
  have HS := Lib.hid (shRefSize_any A c l w hlm ha hia)
  have hno' : (((sz l).2 : Int) != 0) = true ∨ ((((sz l).2 : Int) != 0) = false ∧ 400 < (sz l).1) := by
    by_cases h : (sz l).2 = 0
    · exact .inr ⟨by simp [h], by omega⟩
    · exact .inl (by simp; omega)
  clear hlm ha hia hno
  generalize (sz l).2 = k1 at *
  generalize (sz l).1 = n1 at *
  rcases hno' with h | ⟨h, h2⟩
  all_goals
    go_enter Try.func4, Try.ntmps4
    go_wp2_with fail
    refine HS.out.mono ?_
    rintro en w1 ⟨rfl, rfl⟩
    go_wp2_with fail
    refine (shAwake_any _).mono ?_
    rintro en w2 ⟨rfl, hb2⟩
    have HB := Lib.hid hb2
    clear hb2
    go_wp2_with fail
    go_ret
    exact ⟨rfl, HB.out⟩

set_option maxRecDepth 100000 in
theorem places_yes (A : Option Addr) (c : Nat) (l : List Int) (B : Option Addr) (d : Nat) (t : List Int) (w : World) (hlc : l.length ≤ c) (hcm : c ≤ maxLen) (htm : t.length ≤ maxLen) (ha : SR w w.heap.size 1 A l.length (iv l)) (hb : SR w w.heap.size 1 B t.length (iv t)) (hit : ∀ n ∈ t, I64 n)
    (hsh : Shp l) (h400 : ¬ 400 < prd l) :
    Calls Try.prog 4 #[.slice A l.length c, .slice B t.length d] w fun e w' => e = .returned (.bool true) ∧ Below w.heap.size w w' := by
  have hls := hsh.len
  have HSH := Lib.hid hsh
  have hS := shRefSize_any A c l w (by unfold maxLen; omega) ha (lo_in hsh)
  rw [sz_ok hsh] at hS
  have HS := Lib.hid hS
  have HPL := Lib.hid (places_any l A c w (few_of hsh h400) hlc hcm ha)
  have hpl := plc_len hsh.lo
  have HPLN := Lib.hid hpl
  have HA := Lib.hid ha
  have HB := Lib.hid hb
  have HIT := Lib.hid hit
  have HTM := Lib.hid htm
  clear hsh hS ha hb hit htm hlc hcm
  rw [← hpl] at h400 HS
  have hpn : (plc l).length ≤ 400 := by omega
  clear hpl
  go_enter Try.func4, Try.ntmps4
  go_wp2_with fail
  refine HS.out.mono ?_
  rintro en w1 ⟨rfl, rfl⟩
  go_wp2_with fail
  refine HPL.out.mono ?_
  rintro en w1 ⟨v1, vs1, rfl, hown1, hrws1, hb1⟩
  obtain ⟨R, rc, rfl, -, -⟩ := own_form hown1
  have HS1 := Lib.hid (SR.of_own hown1)
  have HRW := Lib.hid hrws1
  have HB1 := Lib.hid hb1
  have HVL := Lib.hid hrws1.1
  have HA1 := Lib.hid (sr_step HA.out hb1)
  have HT1 := Lib.hid (sr_step HB.out hb1)
  clear hown1 hrws1 hb1 HPL HS HA HB
  go_wp2_with fail
  go_loopw [7, 8, 29] (fun _ _ ii wr => ∃ (k : Nat) (K : Int), ii = .int .i64 K ∧ K = (k : Nat) ∧ k ≤ (plc l).length ∧ Below w1.heap.size w1 wr) (fun _ _ ii _ => (plc l).length - (intOf ii).toNat)
  case atStart => exact ⟨0, _, rfl, rfl, by omega, Below.refl _ _⟩
  case round =>
    obtain ⟨k, K, rfl, rfl, hk, hbl⟩ := hrel
    by_cases hlt : k < (plc l).length
    · have hltv : k < vs1.length := by rw [HVL.out]; exact hlt
      have hu := own_keep (HRW.out.2 k hltv hlt) hbl
      obtain ⟨P, pc, hP, -, -⟩ := own_form hu
      obtain ⟨b2, o2, rfl, hb2, y0⟩ := cell_at (HS1.out.below hbl) hlt (u := vs1[k]) (List.getElem?_eq_getElem hltv)
      rw [hP] at y0 hu
      obtain ⟨hwin, hcn⟩ := plc_win HSH.out.lo k _ (List.getElem?_eq_getElem hlt)
      have hplc := plN_plc HSH.out.lo (List.getElem?_eq_getElem hlt)
      generalize (plc l)[k] = p at *
      have hpw := win_len hwin
      have HWIN := Lib.hid hwin
      have HCN := Lib.hid hcn
      have HPLC := Lib.hid hplc
      have HP := Lib.hid (SR.of_own hu)
      have HBL := Lib.hid hbl
      have hp8 : p.length ≤ 8 := by omega
      have HAr := Lib.hid (sr_step HA1.out hbl)
      have HSP := Lib.hid (shPlace_any A c l k wr HSH.out (by omega) (by rw [← HPLN.out]; omega) (sr_step HA1.out hbl))
      clear hwin hcn hplc hu hbl hP hltv hpw
      go_wp2_with fail
      refine HSP.out.mono ?_
      rw [HPLC.out]
      rintro en w2 ⟨v2, rfl, hown2, hb2'⟩
      obtain ⟨A2, c2, rfl, -, -⟩ := own_form hown2
      have HR2 := Lib.hid (SR.of_own hown2)
      have HP2 := Lib.hid (sr_step HP.out hb2')
      have HA2 := Lib.hid (sr_step HAr.out hb2')
      have HBL2 := Lib.hid (step_below HBL.out hb2')
      clear hown2 hb2' HSP HP HAr HBL y0 hb2
      go_wp2_with fail
      refine (isInts_any A2 P c2 pc p p w2 (by unfold maxLen; omega) HR2.out HP2.out).mono ?_
      rintro en w3 ⟨rfl, hb3⟩
      rw [decide_eq_true rfl]
      have HP3 := Lib.hid (sr_step HP2.out hb3)
      have HA3 := Lib.hid (sr_step HA2.out hb3)
      have HBL3 := Lib.hid (step_below HBL2.out hb3)
      clear hb3 HR2 HP2 HA2 HBL2
      go_wp2_with fail
      refine (shCount_any A P c pc l p w3 HSH.out HWIN.out (by rw [HCN.out]; omega) HA3.out HP3.out).mono ?_
      rw [HCN.out]
      rintro en w4 ⟨rfl, hb4⟩
      have HBL4 := Lib.hid (step_below HBL3.out hb4)
      clear hb4 HP3 HA3 HBL3 HWIN HCN HPLC
      go_wp2_with fail
      go_roundw
      case rel => exact ⟨k + 1, _, rfl, by omega, by omega, HBL4.out⟩
      case measure => simp [intOf]; omega
    · obtain rfl : k = (plc l).length := by omega
      have HAr := Lib.hid (sr_step HA1.out hbl)
      have HTr := Lib.hid (sr_step HT1.out hbl)
      have HBL := Lib.hid (step_below HB1.out hbl)
      clear hbl HA1 HT1 HS1 HRW
      have hRB := shRefBroad_any A c l B d t wr (by unfold maxLen; omega) HTM.out HAr.out HTr.out (lo_in HSH.out) HIT.out
      have HRB := Lib.hid hRB
      clear hRB
      go_wp2_with fail
      refine HRB.out.mono ?_
      rintro en w2 ⟨v2, rfl, hown2, hb2⟩
      obtain ⟨O, oc, rfl, hoc, hocm⟩ := own_form hown2
      have HO2 := Lib.hid (SR.of_own hown2)
      have HA2 := Lib.hid (sr_step HAr.out hb2)
      have HBL2 := Lib.hid (step_below HBL.out hb2)
      clear hown2 hb2 HAr HTr HBL HRB
      by_cases hz : (bc l t).2 = 0
      · obtain ⟨-, -, -, hs0, h5⟩ := bc_ok hz
        rw [← h5] at hs0
        have hwl : l.length ≤ (bc l t).1.length := by rw [h5, th_len]; omega
        rw [hz]
        generalize (bc l t).1 = out at *
        clear hz h5
        have ho8 := hs0.len
        have hSO := shRefSize_any O oc out w2 (by unfold maxLen; omega) HO2.out (lo_in hs0)
        rw [sz_ok hs0] at hSO
        have HSO := Lib.hid hSO
        have HOS := Lib.hid hs0
        clear hSO hs0
        by_cases h4 : 400 < prd out
        · clear HA2 HO2 HOS
          generalize prd out = n2 at *
          go_wp2_with fail
          refine HSO.out.mono ?_
          rintro en w3 ⟨rfl, rfl⟩
          go_wp2_with fail
          refine (shAwake_any _).mono ?_
          rintro en w4 ⟨rfl, hb4⟩
          have HBL4 := Lib.hid (step_below HBL2.out hb4)
          clear hb4
          go_wp2_with fail
          go_ret
          exact ⟨rfl, HBL4.out⟩
        · have HPO := Lib.hid (places_any out O oc w2 (few_of HOS.out h4) hoc hocm HO2.out)
          have HWO := Lib.hid (fun j hj => plc_width (k := j) HOS.out.lo hj)
          have hpo := plc_len HOS.out.lo
          rw [← hpo] at h4 HSO
          have hpn2 : (plc out).length ≤ 400 := by omega
          clear hpo
          go_wp2_with fail
          refine HSO.out.mono ?_
          rintro en w3 ⟨rfl, rfl⟩
          go_wp2_with fail
          refine HPO.out.mono ?_
          rintro en w3 ⟨v3, vs3, rfl, hown3, hrws3, hb3⟩
          obtain ⟨R3, rc3, rfl, -, -⟩ := own_form hown3
          have HS3 := Lib.hid (SR.of_own hown3)
          have HRW3 := Lib.hid hrws3
          have HVL3 := Lib.hid hrws3.1
          have HA3 := Lib.hid (sr_step HA2.out hb3)
          have HBL3 := Lib.hid (step_below HBL2.out hb3)
          clear hown3 hrws3 hb3 HPO HSO HA2 HO2 HBL2 hoc hocm
          go_wp2_with fail
          go_loopw [13, 69] (fun _ ii wr => ∃ (j : Nat) (K : Int), ii = .int .i64 K ∧ K = (j : Nat) ∧ j ≤ (plc out).length ∧ Below w3.heap.size w3 wr) (fun _ ii _ => (plc out).length - (intOf ii).toNat)
          case atStart => exact ⟨0, _, rfl, rfl, by omega, Below.refl _ _⟩
          case round =>
            obtain ⟨j, K, rfl, rfl, hj, hbl⟩ := hrel
            by_cases hltj : j < (plc out).length
            · have hltv : j < vs3.length := by rw [HVL3.out]; exact hltj
              have hu := own_keep (HRW3.out.2 j hltv hltj) hbl
              obtain ⟨P, pc, hP, hpc1, hpc2⟩ := own_form hu
              obtain ⟨b2, o2, rfl, hb2, y0⟩ := cell_at (HS3.out.below hbl) hltj (u := vs3[j]) (List.getElem?_eq_getElem hltv)
              rw [hP] at y0 hu
              have hwp := HWO.out j hltj
              generalize (plc out)[j] = p at *
              have HPN := Lib.hid (own_nil hu)
              have HP := Lib.hid (SR.of_own hu)
              have HBL := Lib.hid hbl
              have HAr := Lib.hid (sr_step HA3.out hbl)
              have hlp : l.length ≤ p.length := by omega
              have hp20 : p.length ≤ 20 := by omega
              have HC1 := Lib.hid (shBack_any A c l P pc p wr hlp hp20 HAr.out HP.out)
              have hbk : (bk l p).length ≤ 20 := by rw [bk_len hlp]; omega
              clear hu hbl hP hltv hwp
              go_wp2_with fail
              refine HC1.out.mono ?_
              rintro en w4 ⟨v4, rfl, hown4, hb4⟩
              obtain ⟨A4, c4, rfl, -, -⟩ := own_form hown4
              have HR4 := Lib.hid (SR.of_own hown4)
              have HP4 := Lib.hid (sr_step HP.out hb4)
              have HA4 := Lib.hid (sr_step HAr.out hb4)
              have HBL4 := Lib.hid (step_below HBL.out hb4)
              clear hown4 hb4 HC1 HP HAr HBL y0 hb2
              have HC2 := Lib.hid (shRefBack_any A c l P pc p w4 hlp hp20 hpc1 hpc2 HPN.out HA4.out HP4.out)
              go_wp2_with fail
              refine HC2.out.mono ?_
              rintro en w5 ⟨v5, rfl, hown5, hb5⟩
              obtain ⟨A5, c5, rfl, -, -⟩ := own_form hown5
              have HR5 := Lib.hid (SR.of_own hown5)
              have HR45 := Lib.hid (sr_step HR4.out hb5)
              have HBL5 := Lib.hid (step_below HBL4.out hb5)
              clear hown5 hb5 HC2 HP4 HA4 HBL4 HR4
              go_wp2_with fail
              refine (isInts_any A4 A5 c4 c5 (bk l p) (bk l p) w5 (by unfold maxLen; omega) HR45.out HR5.out).mono ?_
              rintro en w6 ⟨rfl, hb6⟩
              rw [decide_eq_true rfl]
              have HBL6 := Lib.hid (step_below HBL5.out hb6)
              clear hb6 HBL5 HR45 HR5
              go_wp2_with fail
              go_roundw
              case rel => exact ⟨j + 1, _, rfl, by omega, by omega, HBL6.out⟩
              case measure => simp [intOf]; omega
            · obtain rfl : j = (plc out).length := by omega
              have HBL := Lib.hid (step_below HBL3.out hbl)
              clear hbl HA3 HS3 HRW3
              go_wp2_with fail
              refine (shAwake_any _).mono ?_
              rintro en w4 ⟨rfl, hb4⟩
              have HBL4 := Lib.hid (step_below HBL.out hb4)
              clear hb4
              go_wp2_with fail
              go_ret
              exact ⟨rfl, HBL4.out⟩
      · have hn := bc_nil hz
        have hz1 : (((bc l t).2 : Int) != 0) = true := by simp; omega
        rw [hn] at HO2 ⊢
        have hSO := shRefSize_any O oc [] w2 (by simp) HO2.out (by simp)
        rw [nil_size] at hSO
        have HSO := Lib.hid hSO
        generalize (bc l t).2 = k2 at *
        clear hSO hn hz HO2 HA2 hoc hocm
        go_wp2_with fail
        refine HSO.out.mono ?_
        rintro en w3 ⟨rfl, rfl⟩
        go_wp2_with fail
        refine (shAwake_any _).mono ?_
        rintro en w4 ⟨rfl, hb4⟩
        have HBL4 := Lib.hid (step_below HBL2.out hb4)
        clear hb4
        go_wp2_with fail
        go_ret
        exact ⟨rfl, HBL4.out⟩

theorem shPlaces_walk (A : Option Addr) (c : Nat) (l : List Int) (B : Option Addr) (d : Nat) (t : List Int) (w : World) (hlc : l.length ≤ c) (hcm : c ≤ maxLen) (htm : t.length ≤ maxLen) (ha : SR w w.heap.size 1 A l.length (iv l)) (hb : SR w w.heap.size 1 B t.length (iv t)) (hia : ∀ n ∈ l, I64 n) (hit : ∀ n ∈ t, I64 n) :
    Calls Try.prog 4 #[.slice A l.length c, .slice B t.length d] w fun e w' => e = .returned (.bool true) ∧ Below w.heap.size w w' := by
  by_cases h : (sz l).2 ≠ 0 ∨ 400 < (sz l).1
  · exact places_not A c l B d t w (Nat.le_trans hlc hcm) ha hia h
  · have hs : Shp l := sz_shp (by have := fun h1 => h (.inl h1); simpa using this)
    exact places_yes A c l B d t w hlc hcm htm ha hb hit hs (fun h4 => h (.inr (by rw [sz_ok hs]; exact h4)))
end Go.Proofs.Ytiljgokhgihodaa
