/- The walk of the law PackBack. -/
import Derived.Test.YtmojabdobjfdoaaPAwake
import Derived.Test.YtmojabdobjfdoaaPInts
import Derived.Test.YtmojabdobjfdoaaPPut
namespace Go.Proofs.Ytmojabdobjfdoaa
open Go.RowKit M1 M2 M3

theorem cut_ok {k : Int} (h1 : 1 ≤ k) (h2 : k ≤ 100) {L : List WFd} {r : List Int} (h : Cut k L r) : r.length ≤ 300 → ∀ f ∈ L, FOk f := by
  induction h with
  | nil => intro _ f hf; cases hf
  | num hc hn ih =>
    rename_i L r n
    intro hr f hf
    rw [List.length_append, List.length_singleton] at hr
    rcases List.mem_append.1 hf with hf | hf
    · exact ih (by omega) f hf
    · simp only [List.mem_singleton] at hf; subst hf
      exact ⟨by simp only; omega, by simp only; omega, by simp, by simp, us_fits n, by show (0 : Nat) ≤ _; omega⟩
  | part hc hn hp ih =>
    rename_i L r p
    intro hr f hf
    rw [List.length_append] at hr
    have hz := cps_le p
    rcases List.mem_append.1 hf with hf | hf
    · exact ih (by omega) f hf
    · simp only [List.mem_singleton] at hf; subst hf
      exact ⟨by simp only; omega, by simp only; omega, by simp, by simp, by unfold Fits64; simp, by simp only; omega⟩
/-- what a text that holds a row is read to -/
theorem cut_reads {k : Int} (h1 : 1 ≤ k) (h2 : k ≤ 100) {L : List WFd} {r : List Int} (h : Cut k L r) (hr : r.length ≤ 300) :
    fields (cat L) = (L, 0) ∧ ints (ofNum L k) [] = (r, 0) ∧ (∀ f ∈ L, FOk f) ∧ L.length ≤ 300 ∧ (cat L).size ≤ 9000 := by
  obtain ⟨a, b, c, d, e⟩ := cut_all h1 h2 h (by omega)
  have ho : ofNum L k = L := List.filter_eq_self.2 (fun f hf => by simpa using (a f hf).2)
  exact ⟨fields_cut h1 h2 h hr, by rw [ho]; exact c, cut_ok h1 h2 h hr, by omega, by omega⟩
def Holds (k : Int) (r : List Int) (s : ByteArray) : Prop := ∃ L, Cut k L r ∧ s = cat L
theorem holds_put {k : Int} {r p : List Int} {s : ByteArray} (h : Holds k r s) (hp : ∀ n ∈ p, In64 n) : Holds k (r ++ p) (s ++ pt k p) := by
  obtain ⟨L, hc, rfl⟩ := h
  obtain ⟨L', h1, h2⟩ := cut_pt hc hp
  exact ⟨L', h1, h2.symm⟩
theorem holds_num {k : Int} {r p : List Int} {s : ByteArray} {n : Int} (h : Holds k r s) (hp : ∀ n ∈ p, In64 n) (hn : In64 n) : Holds k (r ++ p ++ [n]) (s ++ (pt k p ++ fb ⟨k, 0, us n, ⟨#[]⟩⟩)) := by
  obtain ⟨L, hc, hs⟩ := holds_put h hp
  refine ⟨_, hc.num hn, ?_⟩
  rw [cat_snoc, ← hs]
  apply ba_eq; simp
theorem holds_nil (k : Int) : Holds k [] ⟨#[]⟩ := ⟨[], .nil, rfl⟩
theorem holds_le {k : Int} (h1 : 1 ≤ k) (h2 : k ≤ 100) {r : List Int} {s : ByteArray} (h : Holds k r s) (hr : r.length ≤ 300) : s.size ≤ 9000 := by
  obtain ⟨L, hc, rfl⟩ := h
  exact (cut_reads h1 h2 hc hr).2.2.2.2

set_option maxRecDepth 100000 in
theorem packBack_walk (num : Int) (R : Option Addr) (rc : Nat) (row : List Int) (C : Option Addr) (cc : Nat) (cuts : List Bool) (w : World) (h0 : 0 ≤ num) (h1 : num ≤ 255)
    (hrl : row.length ≤ maxLen) (hr : SR w w.heap.size 1 R row.length (iv row)) (hin : ∀ n ∈ row, In64 n) (_hcl : cuts.length ≤ maxLen) (hc : SR w w.heap.size 1 C cuts.length (cuts.map Value.bool)) :
    Calls Try.prog 4 #[.int .u8 num, .slice R row.length rc, .slice C cuts.length cc] w fun e w' => e = .returned (.bool true) ∧ Below w.heap.size w w' := by
  unfold maxLen at hrl
  by_cases h300 : 300 < row.length
  · have h300' : (300 : Int) < (row.length : Int) := by omega
    clear h300 hr hc hin
    go_enter Try.func4, Try.ntmps4
    go_wp2_with fail
    refine (pawake_any _).mono ?_
    rintro e w1 ⟨rfl, hb1⟩
    go_wp2_with fail
    go_ret
    exact ⟨rfl, hb1⟩
  · have h300' : (row.length : Int) ≤ 300 := by omega
    obtain ⟨K, hK⟩ : ∃ K : Int, num % 100 = K - 1 := ⟨num % 100 + 1, by omega⟩
    have hK1 : 1 ≤ K := by omega
    have hK2 : K ≤ 100 := by omega
    obtain ⟨i0, hi0, hz0, hz1, hz2⟩ := info_parts infoInt64
    have HIN := Lib.hid hin
    clear h300 hin
    go_enter Try.func4, Try.ntmps4
    go_wp2_with fail
    have HC := Lib.hid hc
    have HRow := Lib.hid hr
    have HKK := Lib.hid hK
    clear hc hr hK
    go_loopw [8, 9, 28] (fun b v i wr => ∃ (k : Nat) (KI : Int) (s : ByteArray) (r p : List Int), i = .int .i64 KI ∧ KI = (k : Nat) ∧ k ≤ row.length ∧ b = .string s ∧ Holds K r s ∧ wr.ownsRow w.heap.size 2 1 v p.length (iv p) ∧ Below w.heap.size w wr ∧ r ++ p = row.take k) (fun _ _ i _ => row.length - (intOf i).toNat)
    case atStart => exact ⟨0, _, ⟨#[]⟩, [], [], rfl, rfl, by omega, rfl, holds_nil K, World.ownsRow_lit (size := 1) w #[] 0 (Nat.le_refl _) (by unfold maxLen; omega) rfl, (Below.refl _ _).alloc (Nat.le_refl _) _, rfl⟩
    case round =>
      obtain ⟨k, KI, s, r, p, rfl, rfl, hk, rfl, hh, hown, hb, hrp⟩ := hrel
      obtain ⟨V, vc, rfl, -, -⟩ := own_form hown
      have hz := hb.size
      have hlen : r.length + p.length = k := by
        have := congrArg List.length hrp
        rw [List.length_append, List.length_take, Nat.min_eq_left hk] at this
        exact this
      have hpin : ∀ n ∈ p, In64 n := fun n hn => HIN.out n (List.mem_of_mem_take (i := k) (hrp ▸ List.mem_append_right _ hn))
      have HPI := Lib.hid hpin
      have HH := Lib.hid hh
      have hs9 := holds_le hK1 hK2 hh (by omega)
      have HRP := Lib.hid hrp
      have HB := Lib.hid hb
      have hp3 : p.length ≤ 3000000 := by omega
      have hps := pt_le K p
      clear hpin hh hrp
      by_cases hlt : k < row.length
      · obtain ⟨b1, o1, rfl, hlt1, x0⟩ := int_at (HRow.out.below hb) hlt
        have hni := HIN.out row[k] (List.getElem_mem hlt)
        have hts := take_one_more hlt
        generalize row[k] = n at *
        have HNI := Lib.hid hni
        have HTS := Lib.hid hts
        clear hts hni
        -- no cut: the part grows
        have hgrow : True := trivial
        by_cases hcut : ∃ h : k < cuts.length, cuts[k] = true
        · obtain ⟨hkc, hcv⟩ := hcut
          obtain ⟨b2, o2, rfl, hlt2, y0⟩ := cell_at (HC.out.below hb) hkc (u := .bool true) (by simp [hkc, hcv])
          have hu := us_eq n
          have HP := Lib.hid (packPut_any V vc p K wr hp3 (SR.of_own hown) (by omega) (by omega))
          have HN := Lib.hid (fun W => number_any K (us n) W (us_fits n) (by omega) (by omega))
          have hfb := fb_le ⟨K, 0, us n, ⟨#[]⟩⟩
          have hfb : (fb ⟨K, 0, us n, ⟨#[]⟩⟩).size ≤ 20 := hfb
          have hkk : (k : Int) < (cuts.length : Int) := by omega
          clear hown hb hcv
          go_wp2_with fail
          refine HP.out.mono ?_
          rintro e w1 ⟨rfl, hb1⟩
          have HB1 := Lib.hid (HB.out.trans (hb1.mono hz))
          clear hb1 HP
          go_wp2_with fail
          refine (HN.out _).mono ?_
          rintro e w2 ⟨rfl, hb2⟩
          have HB2 := Lib.hid (HB1.out.trans (hb2.mono HB1.out.size))
          clear hb2 hu
          go_wp2_with fail
          go_roundw
          case rel => exact ⟨k + 1, _, _, r ++ p ++ [n], [], rfl, by omega, by omega, rfl, holds_num HH.out HPI.out HNI.out, World.ownsRow_nil _ _ _ _, HB2.out, by rw [HTS.out, ← HRP.out]; simp⟩
          case measure => simp [intOf]; omega
        · by_cases hkc : k < cuts.length
          · have hcv : cuts[k] = false := by
              cases h : cuts[k] with
              | false => rfl
              | true => exact absurd ⟨hkc, h⟩ hcut
            obtain ⟨b2, o2, rfl, hlt2, y0⟩ := cell_at (HC.out.below hb) hkc (u := .bool false) (by simp [hkc, hcv])
            have hkk : (k : Int) < (cuts.length : Int) := by omega
            clear hb hcv hcut
            have hown' := hown.alloc (.cells #[.int .i64 n] 2)
            go_wp2_with (at_builtin; refine wpList_append_own _ rfl _ _ 23 rfl w.heap.size 2 i0 _ 1 8 Try.underlying23 hi0 hz0 hz1 hz2 rfl (by decide) _ _ _ rfl hown' ⟨wr.heap.size, 0, none⟩ 1 1 [.int .i64 n] rfl rfl (cell_one_new _ _ _) ?c2 ?c3 ?c4 ?c5 ?_)
            case c2 => first | rfl | (intro u hu; simp at hu; subst hu; rfl)
            case c3 => unfold maxLen; omega
            case c4 => omega
            case c5 => first | omega | (simp; omega)
            intro v' w2 hown2 hgrow _
            have e1 : iv p ++ [.int .i64 n] = iv (p ++ [n]) := by rw [iv_append]; rfl
            have e2 : p.length + 1 = (p ++ [n]).length := by simp
            rw [e1, e2] at hown2
            have hb2 := (HB.out.alloc hz (.cells #[.int .i64 n] 2)).grown hgrow (by simp; omega) (fun q hq => (hown'.lt q hq).1)
            have HO2 := Lib.hid (And.intro hown2 hb2)
            clear hown2 hgrow hown' e1 e2 hb2 hown
            go_wp2_with fail
            go_roundw
            case rel => exact ⟨k + 1, _, s, r, p ++ [n], rfl, by omega, by omega, rfl, HH.out, HO2.out.1, HO2.out.2, by rw [HTS.out, ← HRP.out]; simp⟩
            case measure => simp [intOf]; omega
          · have hkk : (cuts.length : Int) ≤ (k : Int) := by omega
            clear hb hcut hkc
            have hown' := hown.alloc (.cells #[.int .i64 n] 2)
            go_wp2_with (at_builtin; refine wpList_append_own _ rfl _ _ 23 rfl w.heap.size 2 i0 _ 1 8 Try.underlying23 hi0 hz0 hz1 hz2 rfl (by decide) _ _ _ rfl hown' ⟨wr.heap.size, 0, none⟩ 1 1 [.int .i64 n] rfl rfl (cell_one_new _ _ _) ?c2 ?c3 ?c4 ?c5 ?_)
            case c2 => first | rfl | (intro u hu; simp at hu; subst hu; rfl)
            case c3 => unfold maxLen; omega
            case c4 => omega
            case c5 => first | omega | (simp; omega)
            intro v' w2 hown2 hgrow _
            have e1 : iv p ++ [.int .i64 n] = iv (p ++ [n]) := by rw [iv_append]; rfl
            have e2 : p.length + 1 = (p ++ [n]).length := by simp
            rw [e1, e2] at hown2
            have hb2 := (HB.out.alloc hz (.cells #[.int .i64 n] 2)).grown hgrow (by simp; omega) (fun q hq => (hown'.lt q hq).1)
            have HO2 := Lib.hid (And.intro hown2 hb2)
            clear hown2 hgrow hown' e1 e2 hb2 hown
            go_wp2_with fail
            go_roundw
            case rel => exact ⟨k + 1, _, s, r, p ++ [n], rfl, by omega, by omega, rfl, HH.out, HO2.out.1, HO2.out.2, by rw [HTS.out, ← HRP.out]; simp⟩
            case measure => simp [intOf]; omega
      · obtain rfl : k = row.length := by omega
        have HP := Lib.hid (packPut_any V vc p K wr hp3 (SR.of_own hown) (by omega) (by omega))
        have hr3 : row.length ≤ 3000000 := by omega
        have HPR := Lib.hid (fun W h => packPut_any R rc row K W hr3 h (by omega) (by omega))
        have hrow := HRP.out
        rw [List.take_length] at hrow
        have hh1 : Holds K row (s ++ pt K p) := hrow ▸ holds_put HH.out HPI.out
        have hh2 : Holds K row (pt K row) := by
          have := holds_put (holds_nil K) HIN.out
          have e : (⟨#[]⟩ : ByteArray) ++ pt K row = pt K row := ba_eq (by simp)
          rw [e] at this
          simpa using this
        have hT : ∀ u ∈ [s ++ pt K p, pt K row], Holds K row u := by
          intro u hu
          simp only [List.mem_cons, List.not_mem_nil, or_false] at hu
          rcases hu with rfl | rfl
          · exact hh1
          · exact hh2
        have HT := Lib.hid hT
        clear hown hb hrow hh1 hh2 hT
        go_wp2_with fail
        refine HP.out.mono ?_
        rintro e w1 ⟨rfl, hb1⟩
        have HB1 := Lib.hid (HB.out.trans (hb1.mono hz))
        clear hb1 HP
        have hsr := (HRow.out.below HB1.out).more HB1.out.size
        go_wp2_with fail
        refine (HPR.out _ hsr).mono ?_
        rintro e w2 ⟨rfl, hb2⟩
        have HB2 := Lib.hid (HB1.out.trans (hb2.mono HB1.out.size))
        have hz2w := HB2.out.size
        have hsr := (hsr.below hb2).more hb2.size
        have hsr2 : SR (w2.alloc (.cells #[.string (s ++ pt K p), .string (pt K row)] 9)) (w2.heap.size + 1) 1 R row.length (iv row) := (hsr.below ((Below.refl _ _).alloc (Nat.le_refl _) _)).more (by omega)
        have hst : SR (w2.alloc (.cells #[.string (s ++ pt K p), .string (pt K row)] 9)) (w2.heap.size + 1) 1 (some ⟨w2.heap.size, 0, none⟩) 2 (tv [s ++ pt K p, pt K row]) := SR.lit w2 (tv [s ++ pt K p, pt K row]) 9 (size := 1) (n := 2) rfl
        have hb3 : Below w.heap.size w (w2.alloc (.cells #[.string (s ++ pt K p), .string (pt K row)] 9)) := HB2.out.alloc hz2w _
        have hws : (w2.alloc (.cells #[.string (s ++ pt K p), .string (pt K row)] 9)).heap.size = w2.heap.size + 1 := by simp
        have HSR2 := Lib.hid hsr2
        have HST := Lib.hid hst
        have HB3 := Lib.hid hb3
        have HWS := Lib.hid hws
        clear hb2 hsr hsr2 hst hb3 hws HPR hps hs9
        go_wp2_with fail
        go_loopw [69] (fun i wr => ∃ (j : Nat) (J : Int), i = .int .i64 J ∧ J = (j : Nat) ∧ j ≤ 2 ∧ Below (w2.heap.size + 1) (w2.alloc (.cells #[.string (s ++ pt K p), .string (pt K row)] 9)) wr) (fun i _ => 2 - (intOf i).toNat)
        case atStart => exact ⟨0, _, rfl, rfl, by omega, Below.refl _ _⟩
        case round =>
          obtain ⟨j, J, rfl, rfl, hj, hb⟩ := hrel
          have hzq : w2.heap.size + 1 ≤ wr.heap.size := by have := hb.size; have := HWS.out; omega
          have HBq := Lib.hid (HB3.out.trans (hb.mono (by omega)))
          by_cases hj2 : j < 2
          · obtain ⟨b9, o9, he9, hlt9, y0⟩ := txt_at (HST.out.below hb) (k := j) (by simpa using hj2)
            have hsrr := (HSR2.out.below hb).more hzq
            obtain ⟨L, hcut, hcat⟩ := HT.out _ (List.getElem_mem (show j < [s ++ pt K p, pt K row].length by simpa using hj2))
            obtain ⟨hf1, hf2, hf3, hf4, hf5⟩ := cut_reads hK1 hK2 hcut (by omega)
            simp only [Option.some.injEq, Addr.mk.injEq] at he9
            obtain ⟨rfl, rfl, -⟩ := he9
            rw [hcat, Nat.zero_add] at y0
            have hff := fun W => fields_any (cat L) W (by unfold maxLen; omega)
            rw [hf1] at hff
            have hii := fun A c W h => ints_any A c L K W (by omega) h hf3
            rw [hf2] at hii
            have HFF := Lib.hid hff
            have HII := Lib.hid hii
            have HSI := Lib.hid (fun A B c d W ha hb => sameInts_any A B c d row W (by unfold maxLen; omega) ha hb)
            have hjj : (j : Int) < 2 := by omega
            generalize cat L = u at *
            clear hff hii hcat hcut hf1 hf2 hf3
            have HBB := Lib.hid hb
            clear hb
            go_wp2_with fail
            refine (HFF.out _).mono ?_
            rintro e w4 ⟨v4, rfl, hown4, hb4⟩
            obtain ⟨A4, c4, rfl, -, -⟩ := own_form hown4
            have hs4 := SR.of_own hown4
            have hsrr := (hsrr.below hb4).more hb4.size
            have HB4 := Lib.hid (HBB.out.trans (hb4.mono hzq))
            clear hb4 hown4
            go_wp2_with fail
            refine (HII.out _ _ _ hs4).mono ?_
            rintro e w5 ⟨v5, rfl, hown5, hb5⟩
            obtain ⟨A5, c5, rfl, -, -⟩ := own_form hown5
            have hs5 := SR.of_own hown5
            have hsrr := (hsrr.below hb5).more hb5.size
            have hz4 := HB4.out.size
            have HB5 := Lib.hid (HB4.out.trans (hb5.mono (by have := HWS.out; omega)))
            clear hb5 hown5 hs4
            go_wp2_with fail
            refine (HSI.out A5 R c5 rc _ hs5 hsrr).mono ?_
            rintro e w6 ⟨rfl, hb6⟩
            have hz5 := HB5.out.size
            have HB6 := Lib.hid (HB5.out.trans (hb6.mono (by have := HWS.out; omega)))
            clear hb6 hs5 hsrr
            go_wp2_with fail
            go_roundw
            case rel => exact ⟨j + 1, _, rfl, by omega, by omega, HB6.out⟩
            case measure => simp [intOf]; omega
          · obtain rfl : j = 2 := by omega
            clear hb
            go_wp2_with fail
            refine (pawake_any _).mono ?_
            rintro e w4 ⟨rfl, hb4⟩
            have HB4 := Lib.hid (HBq.out.trans (hb4.mono HBq.out.size))
            clear hb4
            go_wp2_with fail
            go_ret
            exact ⟨rfl, HB4.out⟩
end Go.Proofs.Ytmojabdobjfdoaa
