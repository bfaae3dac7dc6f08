/- The walk of layer 3: the row of numbers in fields, as the reference reads it, by contract. -/
import Derived.Test.YtmojabdobjfdoaaPAt
import Derived.Test.YtmojabdobjfdoaaRead
import Derived.Test.YtmojabdobjfdoaaWOpen
import Derived.Test.YtmojabdobjfdoaaKeep
namespace Go.Proofs.Ytmojabdobjfdoaa
open Go.RowKit M1 M2 M3

set_option maxRecDepth 100000 in
theorem rints_any (A : Option Addr) (c : Nat) (l : List WFd) (num : Int) (w : World) (hl : l.length ≤ 3000000) (ha : SR w w.heap.size 4 A l.length (fcs l)) (hok : ∀ f ∈ l, FOk f) :
    Calls Try.prog 8 #[.slice A l.length c, .int .i64 num] w (RowRes w.heap.size (ints (ofNum l num) []) w) := by
  obtain ⟨i0, hi0, hz0, hz1, hz2⟩ := info_parts infoInt64
  have HF := Lib.hid hok
  clear hok
  go_enter Try.func8, Try.ntmps8
  go_wp2_with fail
  go_loopw [6, 7] (fun v i wr => ∃ (k : Nat) (K : Int) (r : List Int), i = .int .i64 K ∧ K = (k : Nat) ∧ k ≤ l.length ∧ wr.ownsRow w.heap.size 2 1 v r.length (iv r) ∧ Below w.heap.size w wr ∧ ints (ofNum l num) [] = ints (ofNum (l.drop k) num) r ∧ r.length ≤ 65536) (fun _ i _ => l.length - (intOf i).toNat)
  case atStart => exact ⟨0, _, [], rfl, rfl, by omega, World.ownsRow_nil _ _ _ _, Below.refl _ _, rfl, by simp⟩
  case round =>
    obtain ⟨k, K, r, rfl, rfl, hk, hown, hb, hr, hrl⟩ := hrel
    obtain ⟨wo, rfl⟩ : ∃ wo : World, wo = wr := ⟨_, rfl⟩
    have HR := Lib.hid hr; clear hr
    obtain ⟨V, vc, rfl, -, -⟩ := own_form hown
    by_cases hlt : k < l.length
    · obtain ⟨b1, o1, rfl, hlt1, x0, x1, x2, x3⟩ := field_at (ha.below hb) hlt
      have hz := hb.size
      have hf := HF.out l[k] (List.getElem_mem hlt)
      have hd1 := fun h => drop_yes (num := num) hlt h
      have hd2 := fun h => drop_no (num := num) hlt h
      generalize l[k] = f at *
      obtain ⟨fnum, ftyp, fn, fdata⟩ := f
      obtain ⟨-, -, -, -, hfn, hfd⟩ := hf
      simp only at x0 x1 x2 x3 hfn hfd hd1 hd2
      have HD1 := Lib.hid hd1
      have HD2 := Lib.hid hd2
      have hown' := hown.alloc (.cells #[.int .i64 fnum, .int .i64 ftyp, .int .u64 (fn : Int), .string fdata] 29)
      have HBa := Lib.hid (hb.alloc hz (.cells #[.int .i64 fnum, .int .i64 ftyp, .int .u64 (fn : Int), .string fdata] 29))
      have HO := Lib.hid hown'
      clear hd1 hd2 hown hb ha hown'
      by_cases hnum : fnum = num
      · have hq : (fnum != num) = false := by simpa using hnum
        subst hnum
        have hd := HD1.out rfl
        have HD := Lib.hid hd
        clear hd HD1 HD2
        have hblk := heap_alloc_new wo (.cells #[.int .i64 fnum, .int .i64 ftyp, .int .u64 (fn : Int), .string fdata] 29)
        by_cases h0 : ftyp = 0
        · subst h0
          have ha : addF ⟨fnum, 0, fn, fdata⟩ r = (if r.length = 65536 then ([], 7) else (r ++ [sg fn], 0)) := by unfold addF; simp
          have HAd := Lib.hid ha
          have hfn' : (fn : Int) ≤ 18446744073709551615 := by unfold Fits64 at hfn; omega
          clear ha hfn
          have HK := Lib.hid hblk
          clear hblk
          go_wp2_with fail
          go_loopw [6, 10] (fun v j wi => ∃ (J : Nat) (JJ : Int) (q : List Int), j = .int .i64 JJ ∧ JJ = (J : Nat) ∧ J ≤ 1 ∧ wi.ownsRow w.heap.size 2 1 v q.length (iv q) ∧ Below w.heap.size w wi ∧ wi.heap[wo.heap.size]? = some (.cells #[.int .i64 fnum, .int .i64 0, .int .u64 (fn : Int), .string fdata] 29 (0, 0)) ∧ (J = 0 → q = r) ∧ (J = 1 → r.length ≠ 65536 ∧ q = r ++ [sg fn])) (fun _ j _ => 1 - (intOf j).toNat)
          case atStart => exact ⟨0, _, r, rfl, rfl, by omega, HO.out, HBa.out, HK.out, fun _ => rfl, fun h => by omega⟩
          case round =>
            obtain ⟨J, JJ, q, rfl, rfl, hJ, hown, hb, hblk, hq0, hq1⟩ := hrel
            obtain ⟨V2, vc2, rfl, -, -⟩ := own_form hown
            obtain ⟨c0, c1, c2, c3⟩ := cells_of4 hblk
            have hzb := hb.size
            rcases (show J = 0 ∨ J = 1 by omega) with rfl | rfl
            · obtain rfl := hq0 rfl
              have hown' := hown.alloc (.cells #[.int .i64 (wrap64 (fn : Int))] 2)
              by_cases hf : q.length = 65536
              · have hf' : ((q.length : Int) == 65536) = true := by simp; omega
                have hAd := HAd.out
                rw [if_pos hf] at hAd
                have HE : Hid (ints (ofNum l fnum) [] = ([], 7)) := Lib.hid (by rw [HR.out, HD.out, ints_err hAd (by omega)])
                have HB := Lib.hid hb
                clear hq0 hq1 hown hown' hb hf hAd
                go_wp2_with fail
                go_ret2
                rw [HE.out]
                exact ⟨_, rfl, World.ownsRow_nil _ _ _ _, HB.out⟩
              · have hf' : ((q.length : Int) == 65536) = false := by simp; omega
                have hAd := HAd.out
                rw [if_neg hf] at hAd
                have HE : Hid (ints (ofNum l fnum) [] = ints (ofNum (l.drop (k + 1)) fnum) (q ++ [sg fn])) := Lib.hid (by rw [HR.out, HD.out, ints_ok hAd])
                have HB := Lib.hid hb
                have HN := Lib.hid (And.intro hf (own_far hown hblk (by decide)))
                have HK2 := Lib.hid hblk
                clear hq0 hq1 hb hf hAd hblk
                go_wp2_with (at_builtin; refine wpList_append_own _ rfl _ _ 23 rfl w.heap.size 2 i0 _ 1 8 Try.underlying23 hi0 hz0 hz1 hz2 rfl (by decide) _ _ _ rfl hown' ⟨wr.heap.size, 0, none⟩ 1 1 [.int .i64 (wrap64 (fn : Int))] rfl rfl (cell_one_new _ _ _) ?c2 ?c3 ?c4 ?c5 ?_)
                case c2 => intro u hu; simp at hu; subst hu; rfl
                case c3 => unfold maxLen; omega
                case c4 => omega
                case c5 => simp; omega
                intro v' w2 hown2 hgrow _
                have e1 : iv q ++ [.int .i64 (wrap64 (fn : Int))] = iv (q ++ [sg fn]) := by rw [iv_append]; rfl
                have e2 : q.length + 1 = (q ++ [sg fn]).length := by simp
                rw [e1, e2] at hown2
                have hb2 := (HB.out.alloc hzb _).grown hgrow (by simp; omega) (fun q hq => (hown'.lt q hq).1)
                have hk2 := blk_grown (blk_alloc HK2.out _) hgrow HN.out.2
                have HO2 := Lib.hid (And.intro hown2 (And.intro hb2 hk2))
                clear hown2 hgrow hown' hown e1 e2 hb2 hk2
                go_wp2_with fail
                go_roundw
                case rel => exact ⟨1, _, q ++ [sg fn], rfl, by omega, by omega, HO2.out.1, HO2.out.2.1, HO2.out.2.2, fun h => by omega, fun _ => ⟨HN.out.1, rfl⟩⟩
                case measure => simp [intOf]
            · obtain ⟨hf, rfl⟩ := hq1 rfl
              have hAd := HAd.out
              rw [if_neg hf] at hAd
              have HE : Hid (ints (ofNum l fnum) [] = ints (ofNum (l.drop (k + 1)) fnum) (r ++ [sg fn])) := Lib.hid (by rw [HR.out, HD.out, ints_ok hAd])
              have HO2 := Lib.hid (And.intro hown hb)
              have HL := Lib.hid (show (r ++ [sg fn]).length ≤ 65536 by simp; omega)
              clear hq0 hq1 hown hb hf hAd
              go_wp2_with fail
              go_roundw
              case rel => exact ⟨k + 1, _, r ++ [sg fn], rfl, by omega, by omega, HO2.out.1, HO2.out.2, HE.out, HL.out⟩
              case measure => simp [intOf]; omega
        · have h0' : (ftyp == 0) = false := by simpa using h0
          have h0'' : (ftyp != 0) = true := by simpa using h0
          by_cases h2 : ftyp = 2
          · subst h2
            have ha : addF ⟨fnum, 2, fn, fdata⟩ r = pks fdata r := by unfold addF; simp
            have HAd := Lib.hid ha
            have HK := Lib.hid hblk
            clear ha hblk h0 h0' h0''
            go_wp2_with fail
            go_loopw [6, 9, 10] (fun v b j wi => ∃ (J : Nat) (JJ : Int) (t : ByteArray) (q : List Int), j = .int .i64 JJ ∧ JJ = (J : Nat) ∧ b = .string t ∧ J + t.size ≤ fdata.size ∧ wi.ownsRow w.heap.size 2 1 v q.length (iv q) ∧ Below w.heap.size w wi ∧ wi.heap[wo.heap.size]? = some (.cells #[.int .i64 fnum, .int .i64 2, .int .u64 (fn : Int), .string fdata] 29 (0, 0)) ∧ pks fdata r = pks t q ∧ q.length ≤ 65536) (fun _ b _ _ => match b with | .string t => t.size | _ => 0)
            case atStart => exact ⟨0, _, fdata, r, rfl, rfl, rfl, by omega, HO.out, HBa.out, HK.out, rfl, hrl⟩
            case round =>
              obtain ⟨J, JJ, t, q, rfl, rfl, rfl, hJ, hown, hb, hblk, hpk, hql⟩ := hrel
              obtain ⟨V2, vc2, rfl, -, -⟩ := own_form hown
              obtain ⟨c0, c1, c2, c3⟩ := cells_of4 hblk
              have hzb := hb.size
              have HP := Lib.hid hpk
              clear hpk
              by_cases h0 : t.size = 0
              · have h0' : ¬ (0 : Int) < (t.size : Int) := by omega
                have hAd := HAd.out
                rw [HP.out, pks_end h0] at hAd
                have HE : Hid (ints (ofNum l fnum) [] = ints (ofNum (l.drop (k + 1)) fnum) q) := Lib.hid (by rw [HR.out, HD.out, ints_ok hAd])
                have HO2 := Lib.hid (And.intro hown hb)
                clear hown hb hAd hblk
                go_wp2_with fail
                go_roundw
                case rel => exact ⟨k + 1, _, q, rfl, by omega, by omega, HO2.out.1, HO2.out.2, HE.out, hql⟩
                case measure => simp [intOf]; omega
              · have h0' : (0 : Int) < (t.size : Int) := by omega
                have htm : t.size ≤ maxLen := by unfold maxLen; omega
                obtain ⟨x, n, e, hrd, hrok, -, hcode⟩ := rd_parts t
                have hc1 := fun W => rread_any t W htm
                rw [hrd] at hc1
                have HRd := Lib.hid hrd
                have HC := Lib.hid hc1
                clear hc1 hrd
                go_wp2_with fail
                refine (HC.out _).mono ?_
                rintro e1 w1 ⟨rfl, rfl⟩
                by_cases he : e = 0
                · subst he
                  obtain ⟨hn0, hn, hx⟩ := hrok rfl
                  have hni : (n : Int) ≤ (t.size : Int) := by omega
                  have hx' : (x : Int) ≤ 18446744073709551615 := by unfold Fits64 at hx; omega
                  by_cases hf : q.length = 65536
                  · have hf' : ((q.length : Int) == 65536) = true := by simp; omega
                    have hAd := HAd.out
                    rw [HP.out, pks_full h0 (by rw [HRd.out]) hf] at hAd
                    have HE : Hid (ints (ofNum l fnum) [] = ([], 7)) := Lib.hid (by rw [HR.out, HD.out, ints_err hAd (by omega)])
                    have HB := Lib.hid hb
                    clear hown hb hf hAd hx hrok hblk
                    go_wp2_with fail
                    go_ret2
                    rw [HE.out]
                    exact ⟨_, rfl, World.ownsRow_nil _ _ _ _, HB.out⟩
                  · have hf' : ((q.length : Int) == 65536) = false := by simp; omega
                    have hst := pks_step (s := t) h0 (by rw [HRd.out]) hf
                    rw [HRd.out] at hst
                    have HE : Hid (pks fdata r = pks (rest t n) (q ++ [sg x])) := Lib.hid (by rw [HP.out, hst])
                    have hown' := hown.alloc (.cells #[.int .i64 (wrap64 (x : Int))] 2)
                    have HB := Lib.hid hb
                    have HN := Lib.hid (And.intro hf (own_far hown hblk (by decide)))
                    have HK2 := Lib.hid hblk
                    clear hb hf hblk hst hx hrok
                    go_wp2_with (at_builtin; refine wpList_append_own _ rfl _ _ 23 rfl w.heap.size 2 i0 _ 1 8 Try.underlying23 hi0 hz0 hz1 hz2 rfl (by decide) _ _ _ rfl hown' ⟨wr.heap.size, 0, none⟩ 1 1 [.int .i64 (wrap64 (x : Int))] rfl rfl (cell_one_new _ _ _) ?c2 ?c3 ?c4 ?c5 ?_)
                    case c2 => intro u hu; simp at hu; subst hu; rfl
                    case c3 => unfold maxLen; omega
                    case c4 => omega
                    case c5 => simp; omega
                    intro v' w2 hown2 hgrow _
                    have e1 : iv q ++ [.int .i64 (wrap64 (x : Int))] = iv (q ++ [sg x]) := by rw [iv_append]; rfl
                    have e2 : q.length + 1 = (q ++ [sg x]).length := by simp
                    rw [e1, e2] at hown2
                    have hb2 := (HB.out.alloc hzb _).grown hgrow (by simp; omega) (fun q hq => (hown'.lt q hq).1)
                    have hk2 := blk_grown (blk_alloc HK2.out _) hgrow HN.out.2
                    have HO2 := Lib.hid (And.intro hown2 (And.intro hb2 hk2))
                    have HL := Lib.hid (show (q ++ [sg x]).length ≤ 65536 by have := HN.out.1; simp; omega)
                    clear hown2 hgrow hown' hown e1 e2 hb2 hk2
                    go_wp2_with fail
                    go_roundw
                    case rel => exact ⟨J + 1, _, rest t n, q ++ [sg x], rfl, by omega, rfl, by rw [rest_size]; omega, HO2.out.1, HO2.out.2.1, HO2.out.2.2, HE.out, HL.out⟩
                    case measure => show (rest t n).size < t.size; rw [rest_size]; omega
                · have hc : ((e : Int) != 0) = true := by simp; omega
                  have hAd := HAd.out
                  rw [HP.out, pks_err h0 (by rw [HRd.out]; exact he), HRd.out] at hAd
                  have HE : Hid (ints (ofNum l fnum) [] = ([], e)) := Lib.hid (by rw [HR.out, HD.out, ints_err hAd he])
                  have HB := Lib.hid hb
                  clear hown hb hAd hrok hblk
                  go_wp2_with fail
                  go_ret2
                  rw [HE.out]
                  exact ⟨_, rfl, World.ownsRow_nil _ _ _ _, HB.out⟩
          · have h2' : (ftyp != 2) = true := by simpa using h2
            have ha : addF ⟨fnum, ftyp, fn, fdata⟩ r = ([], 3) := by unfold addF; simp [h0, h2]
            have HE : Hid (ints (ofNum l fnum) [] = ([], 3)) := Lib.hid (by rw [HR.out, HD.out, ints_err ha (by omega)])
            clear ha h0 h2 hblk
            go_wp2_with fail
            go_ret2
            rw [HE.out]
            exact ⟨_, rfl, World.ownsRow_nil _ _ _ _, HBa.out⟩
      · have hq : (fnum != num) = true := by simpa using hnum
        have HE : Hid (ints (ofNum l num) [] = ints (ofNum (l.drop (k + 1)) num) r) := Lib.hid (by rw [HR.out, HD2.out hnum])
        clear hnum
        go_wp2_with fail
        go_roundw
        case rel => exact ⟨k + 1, _, r, rfl, by omega, by omega, HO.out, HBa.out, HE.out, hrl⟩
        case measure => simp [intOf]; omega
    · obtain rfl : k = l.length := by omega
      have HE : Hid (ints (ofNum l num) [] = (r, 0)) := Lib.hid (by rw [HR.out, drop_end]; rfl)
      have HO := Lib.hid (And.intro hown hb)
      clear hown hb
      go_wp2
      go_ret2
      rw [HE.out]
      exact ⟨_, rfl, HO.out.1, HO.out.2⟩
end Go.Proofs.Ytmojabdobjfdoaa
