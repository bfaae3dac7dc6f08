/- The walk of the law PackReads. -/
import Derived.Test.YtmojabdobjfdoaaPAwake
import Derived.Test.YtmojabdobjfdoaaPInts
import Derived.Test.YtmojabdobjfdoaaPRInts
import Derived.Test.YtmojabdobjfdoaaPTexts
import Derived.Test.YtmojabdobjfdoaaPPut
import Derived.Test.YtmojabdobjfdoaaWRInfo
namespace Go.Proofs.Ytmojabdobjfdoaa
open Go.RowKit M1 M2 M3

/-- how many bytes the texts have, and one for each field -/
def wgt : List WFd → Nat
  | [] => 0
  | f :: l => f.data.size + 1 + wgt l
theorem wgt_snoc (l : List WFd) (f : WFd) : wgt (l ++ [f]) = wgt l + (f.data.size + 1) := by
  induction l with
  | nil => simp [wgt]
  | cons g l ih => simp only [List.cons_append, wgt, ih]; omega
theorem wgt_le (l : List WFd) : l.length ≤ wgt l := by
  induction l with
  | nil => exact Nat.zero_le _
  | cons f l ih => rw [List.length_cons, wgt]; omega

set_option maxRecDepth 100000 in
theorem packReads_walk (A : Option Addr) (c : Nat) (l : List WFd) (num : Int) (R : Option Addr) (rc : Nat) (row : List Int) (w : World) (hl : l.length ≤ 3518437208780) (ha : SR w w.heap.size 4 A l.length (fcs l)) (hok : ∀ f ∈ l, FOk f)
    (hrl : row.length ≤ maxLen) (hr : SR w w.heap.size 1 R row.length (iv row)) (a1 : -9223372036854775808 ≤ num) (a2 : num ≤ 9223372036854775807) :
    Calls Try.prog 3 #[.slice A l.length c, .int .i64 num, .slice R row.length rc] w fun e w' => e = .returned (.bool true) ∧ Below w.heap.size w w' := by
  obtain ⟨i0, hi0, hz0, hz1, hz2⟩ := info_parts infoRField
  have HOK := Lib.hid hok
  have HRow := Lib.hid hr
  unfold maxLen at hrl
  clear hok hr
  go_enter Try.func3, Try.ntmps3
  go_wp2_with fail
  go_loopw [7, 8, 21] (fun n v i wr => ∃ (k : Nat) (K N : Int), i = .int .i64 K ∧ K = (k : Nat) ∧ k ≤ l.length ∧ n = .int .i64 N ∧ N = (wgt (l.take k) : Nat) ∧ wgt (l.take k) ≤ 3000 ∧
      wr.ownsRow w.heap.size 29 4 v k (fcs (l.take k)) ∧ Below w.heap.size w wr) (fun _ _ i _ => l.length - (intOf i).toNat)
  case atStart => exact ⟨0, _, _, rfl, rfl, by omega, rfl, rfl, by simp [wgt], World.ownsRow_nil _ _ _ _, Below.refl _ _⟩
  case round =>
    obtain ⟨k, K, N, rfl, rfl, hk, rfl, rfl, hw3, hown, hb⟩ := hrel
    obtain ⟨V, vc, rfl, -, -⟩ := own_form hown
    have hkw := wgt_le (l.take k)
    rw [List.length_take, Nat.min_eq_left hk] at hkw
    by_cases hlt : k < l.length
    · obtain ⟨b1, o1, rfl, hlt1, x0, x1, x2, x3⟩ := field_at (ha.below hb) hlt
      have hz := hb.size
      have hf := HOK.out l[k] (List.getElem_mem hlt)
      have hts := take_succ_at hlt
      have hws := wgt_snoc (l.take k) l[k]
      rw [← hts] at hws
      have hfc : fcs (l.take (k + 1)) = fcs (l.take k) ++ fc l[k] := by rw [hts, fcs_append, fcs_one]
      generalize l[k] = f at *
      obtain ⟨fnum, ftyp, fn, fdata⟩ := f
      obtain ⟨-, -, -, -, hfn, hfd⟩ := hf
      simp only at x0 x1 x2 x3 hfn hfd hws hfc
      have HFC := Lib.hid hfc
      have HB := Lib.hid hb
      have HWS := Lib.hid hws
      clear hts hfc hb ha hws hfn
      by_cases hbig : 3000 < wgt (l.take k) + (fdata.size + 1)
      · have hbig' : (3000 : Int) < (wgt (l.take k) : Int) + ((fdata.size : Int) + 1) := by omega
        clear hown hbig
        go_wp2_with fail
        refine (pawake_any _).mono ?_
        rintro e w1 ⟨rfl, hb1⟩
        have HB1 := Lib.hid (HB.out.trans ((below_one hb1).mono hz))
        clear hb1
        go_wp2_with fail
        go_ret
        exact ⟨rfl, HB1.out⟩
      · have hbig' : (wgt (l.take k) : Int) + ((fdata.size : Int) + 1) ≤ 3000 := by omega
        clear hbig
        go_wp2_with (at_builtin; refine wpList_append_own _ rfl _ _ 24 rfl w.heap.size 29 i0 _ 4 40 Try.underlying24 hi0 hz0 hz1 hz2 rfl (by decide) _ _ _ rfl ((hown.alloc _).alloc _) ⟨wr.heap.size + 1, 0, none⟩ 1 1 (fc ⟨fnum, ftyp, fn, fdata⟩) rfl rfl (cells_new2 _ _ _ _) ?c2 ?c3 ?c4 ?c5 ?_)
        case c2 => intro u hu; exact fcs_one_cell (l := [⟨fnum, ftyp, fn, fdata⟩]) u (by rw [fcs_one]; exact hu)
        case c3 => unfold maxLen; omega
        case c4 => omega
        case c5 => first | omega | (simp; omega)
        intro v' w2 hown' hgrow _
        rw [← HFC.out] at hown'
        have hb3 := ((HB.out.alloc hz _).alloc (by simp; omega) _).grown hgrow (by simp; omega) (fun q hq => (hown.lt q hq).1)
        have HO := Lib.hid (And.intro hown' hb3)
        clear hgrow hown' hown hb3
        go_wp2_with fail
        go_roundw
        case rel => exact ⟨k + 1, _, _, rfl, by omega, by omega, rfl, by rw [HWS.out]; omega, by rw [HWS.out]; omega, HO.out.1, HO.out.2⟩
        case measure => simp [intOf]; omega
    · obtain rfl : k = l.length := by omega
      rw [List.take_length] at hown
      have hz := hb.size
      have hl3 : l.length ≤ 3000000 := by omega
      by_cases h300 : 300 < row.length
      · have h300' : (300 : Int) < (row.length : Int) := by omega
        have HB := Lib.hid hb
        clear hown hb ha h300
        go_wp2_with fail
        refine (pawake_any _).mono ?_
        rintro e w1 ⟨rfl, hb1⟩
        have HB1 := Lib.hid (HB.out.trans (hb1.mono hz))
        clear hb1
        go_wp2_with fail
        go_ret
        exact ⟨rfl, HB1.out⟩
      · have h300' : (row.length : Int) ≤ 300 := by omega
        have hr3 : row.length ≤ 3000000 := by omega
        have hsm := SR.of_own hown
        have hs1 := (ha.below hb).more hz
        have hsr := (HRow.out.below hb).more hz
        have HB := Lib.hid hb
        have HI := Lib.hid (fun W h => ints_any A c l num W hl3 h HOK.out)
        have HRI := Lib.hid (fun W h => rints_any V vc l num W hl3 h HOK.out)
        have HT := Lib.hid (fun W h => texts_any A c l num W hl3 h)
        have HRT := Lib.hid (fun W h => rtexts_any V vc l num W hl3 h)
        have HP := Lib.hid (fun W h => packPut_any R rc row num W hr3 h a1 a2)
        have HRP := Lib.hid (fun W h => packRPut_any R rc row num W hr3 h)
        have hil := ints_le (ofNum l num) [] (by simp)
        have htl := txts_le (ofNum l num) []
        have hol := ofNum_le l num
        obtain ⟨q, z, hq⟩ : ∃ q z, ints (ofNum l num) [] = (q, z) := ⟨_, _, rfl⟩
        obtain ⟨t, y, ht⟩ : ∃ t y, txts (ofNum l num) [] = (t, y) := ⟨_, _, rfl⟩
        rw [hq] at HI HRI hil
        rw [ht] at HT HRT htl
        simp only [List.length_nil] at hil htl
        have HSI := Lib.hid (fun A B c d W ha hb => sameInts_any A B c d q W (by unfold maxLen; omega) ha hb)
        have HST := Lib.hid (fun A B c d W ha hb => sameTexts_any A B c d t W (by unfold maxLen; omega) ha hb)
        clear hown hb ha h300 hil htl hol hq ht
        go_wp2_with fail
        refine (HI.out _ hs1).mono ?_
        rintro e w1 ⟨v1, rfl, hown1, hb1⟩
        obtain ⟨A1, c1, rfl, -, -⟩ := own_form hown1
        have hq1 := SR.of_own hown1
        have hs1 := (hs1.below hb1).more hb1.size
        have hsm := (hsm.below hb1).more hb1.size
        have hsr := (hsr.below hb1).more hb1.size
        have HB1 := Lib.hid (HB.out.trans (hb1.mono HB.out.size))
        clear hb1 hown1 HB HI
        go_wp2_with fail
        refine (HRI.out _ hsm).mono ?_
        rintro e w2 ⟨v2, rfl, hown2, hb2⟩
        obtain ⟨A2, c2, rfl, -, -⟩ := own_form hown2
        have hq2 := SR.of_own hown2
        have hs1 := (hs1.below hb2).more hb2.size
        have hsm := (hsm.below hb2).more hb2.size
        have hsr := (hsr.below hb2).more hb2.size
        have hq1 := (hq1.below hb2).more hb2.size
        have HB2 := Lib.hid (HB1.out.trans (hb2.mono HB1.out.size))
        clear hb2 hown2 HB1 HRI
        go_wp2_with fail
        refine (HT.out _ hs1).mono ?_
        rintro e w3 ⟨v3, rfl, hown3, hb3⟩
        obtain ⟨A3, c3, rfl, -, -⟩ := own_form hown3
        have hq3 := SR.of_own hown3
        have hsm := (hsm.below hb3).more hb3.size
        have hsr := (hsr.below hb3).more hb3.size
        have hq1 := (hq1.below hb3).more hb3.size
        have hq2 := (hq2.below hb3).more hb3.size
        have HB3 := Lib.hid (HB2.out.trans (hb3.mono HB2.out.size))
        clear hb3 hown3 HB2 HT hs1
        go_wp2_with fail
        refine (HRT.out _ hsm).mono ?_
        rintro e w4 ⟨v4, rfl, hown4, hb4⟩
        obtain ⟨A4, c4, rfl, -, -⟩ := own_form hown4
        have hq4 := SR.of_own hown4
        have hsr := (hsr.below hb4).more hb4.size
        have hq1 := (hq1.below hb4).more hb4.size
        have hq2 := (hq2.below hb4).more hb4.size
        have hq3 := (hq3.below hb4).more hb4.size
        have HB4 := Lib.hid (HB3.out.trans (hb4.mono HB3.out.size))
        clear hb4 hown4 HB3 HRT hsm
        go_wp2_with fail
        refine (pawake_any _).mono ?_
        rintro e w5 ⟨rfl, hb5⟩
        have hsr := (hsr.below hb5).more hb5.size
        have hq1 := (hq1.below hb5).more hb5.size
        have hq2 := (hq2.below hb5).more hb5.size
        have hq3 := (hq3.below hb5).more hb5.size
        have hq4 := (hq4.below hb5).more hb5.size
        have HB5 := Lib.hid (HB4.out.trans (hb5.mono HB4.out.size))
        clear hb5 HB4
        go_wp2_with fail
        refine (HSI.out A1 A2 c1 c2 _ hq1 hq2).mono ?_
        rintro e w6 ⟨rfl, hb6⟩
        have hsr := (hsr.below hb6).more hb6.size
        have hq3 := (hq3.below hb6).more hb6.size
        have hq4 := (hq4.below hb6).more hb6.size
        have HB6 := Lib.hid (HB5.out.trans (hb6.mono HB5.out.size))
        clear hb6 HB5 hq1 hq2
        go_wp2_with fail
        refine (HST.out A3 A4 c3 c4 _ hq3 hq4).mono ?_
        rintro e w7 ⟨rfl, hb7⟩
        have hsr := (hsr.below hb7).more hb7.size
        have HB7 := Lib.hid (HB6.out.trans (hb7.mono HB6.out.size))
        clear hb7 HB6 hq3 hq4
        go_wp2_with fail
        refine (HP.out _ hsr).mono ?_
        rintro e w8 ⟨rfl, hb8⟩
        have hsr := (hsr.below hb8).more hb8.size
        have HB8 := Lib.hid (HB7.out.trans (hb8.mono HB7.out.size))
        clear hb8 HB7
        go_wp2_with fail
        refine (HRP.out _ hsr).mono ?_
        rintro e w9 ⟨rfl, hb9⟩
        have HB9 := Lib.hid (HB8.out.trans (hb9.mono HB8.out.size))
        clear hb9 HB8
        go_wp2_with fail
        go_ret
        exact ⟨rfl, HB9.out⟩
end Go.Proofs.Ytmojabdobjfdoaa
