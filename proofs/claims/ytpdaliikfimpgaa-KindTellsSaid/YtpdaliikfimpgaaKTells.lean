/- The walks of the example of layer 4 and of the law KindTells. -/
import Derived.Test.YtpdaliikfimpgaaKSize
import Derived.Test.YtpdaliikfimpgaaKAll
import Derived.Test.YtpdaliikfimpgaaText
import Derived.Test.YtpdaliikfimpgaaKeep
import Derived.BigQuiet
namespace Go.Proofs.Ytpdaliikfimpgaa
open Go.RowKit Go.Maps

theorem row_cell {w : World} {B : Nat} {A : Option Addr} {n : Nat} {xs : List Value} (h : SR w B 1 A n xs) {k : Nat} (hk : k < n) {u : Value} (hu : xs[k]? = some u) :
    ∃ b o, A = some ⟨b, o, none⟩ ∧ b < B ∧ w.cell? ⟨b, o + k, none⟩ = some u := by
  obtain ⟨b, o, hA, hb, hc⟩ := h.at_ hk
  refine ⟨b, o, hA, hb, ?_⟩
  have := hc 0 (by omega) u (by simpa using hu)
  simpa using this
theorem wf_small {k : Int} (h0 : -9223372036854775808 ≤ k) (h1 : k ≤ 9223372036854775807) : (Lit.int .i64 k).wf = true := WalkArith.wf_i64 ⟨h0, h1⟩

set_option maxRecDepth 100000 in
theorem kawake_any (w : World) : Calls Try.prog 10 #[] w fun e w' => e = .returned (.bool true) ∧ Below w.heap.size w w' := by
  have h8 : Hid (kSize 14 = 8) := Lib.hid (by decide)
  have hw7 : Hid (kWord 7 = ⟨#[105, 110, 116]⟩) := Lib.hid (by decide +kernel)
  go_enter Try.func10, Try.ntmps10
  go_wp2_with fail
  refine (size_any 14 _ (by decide)).mono ?_
  rintro e w1 ⟨rfl, hb1⟩
  rw [h8.out]
  have HB1 := Lib.hid hb1
  clear hb1
  go_wp2_with fail
  refine (string_any 7 _ (by decide)).mono ?_
  rintro e w2 ⟨rfl, hb2⟩
  rw [hw7.out]
  have HB2 := Lib.hid (HB1.out.trans (hb2.mono HB1.out.size))
  clear hb2
  go_wp2_with fail
  go_ret
  exact ⟨rfl, HB2.out⟩

def TellRel (s : ByteArray) (v i : Value) : Prop := ∃ (j : Nat) (J : Int), J = (j : Nat) ∧ j ≤ 20 ∧ i = .int .i64 J ∧ v = .int .i64 (wantTo s j)
theorem wantTo_hit {s : ByteArray} {j : Nat} (h1 : isKind (j : Int) = true) (h2 : kWord (j : Int) = s) : wantTo s (j + 1) = j := by rw [wantTo, if_pos ⟨h1, h2⟩]
theorem wantTo_miss {s : ByteArray} {j : Nat} (h : ¬ (isKind (j : Int) = true ∧ kWord (j : Int) = s)) : wantTo s (j + 1) = wantTo s j := by rw [wantTo, if_neg h]

set_option maxRecDepth 100000 in
theorem kindTells_walk (k : Int) (s : ByteArray) (w : World) (hw : (Lit.int .i64 k).wf = true) :
    Calls Try.prog 3 #[.int .i64 k, .string s] w fun e w' => e = .returned (.bool true) ∧ Below w.heap.size w w' := by
  have HW := Lib.hid hw
  clear hw
  go_enter Try.func3, Try.ntmps3
  go_wp2_with fail
  refine (size_any k _ HW.out).mono ?_
  rintro e w1 ⟨rfl, hb1⟩
  have HB1 := Lib.hid hb1
  clear hb1
  go_wp2_with fail
  refine (refSize_any k _).mono ?_
  rintro e w1' ⟨rfl, rfl⟩
  go_wp2_with fail
  refine (string_any k _ HW.out).mono ?_
  rintro e w2 ⟨rfl, hb2⟩
  have HB2 := Lib.hid (HB1.out.trans (hb2.mono HB1.out.size))
  clear hb2
  go_wp2_with fail
  refine (refWord_any k _).mono ?_
  rintro e w2' ⟨rfl, rfl⟩
  go_wp2_with fail
  refine (of_any s _).mono ?_
  rintro e w3 ⟨rfl, hb3⟩
  have HB3 := Lib.hid (HB2.out.trans (hb3.mono HB2.out.size))
  clear hb3 HB1 HB2
  go_wp2_with fail
  go_loop [7, 29] (fun v i => TellRel s v i) (fun _ i => 20 - (intOf i).toNat)
  case atStart => exact ⟨0, 0, rfl, by omega, rfl, rfl⟩
  case round =>
    obtain ⟨j, J, rfl, hj, rfl, rfl⟩ := hrel
    by_cases hlt : j < 20
    · by_cases hk : isKind (j : Int) = true
      · have hp := kSize_pos.2 hk
        have HK := Lib.hid hk
        clear hk
        go_wp2_with fail
        refine (refSize_any _ _).mono ?_
        rintro e w1 ⟨rfl, rfl⟩
        generalize kSize (j : Int) = n at *
        go_wp2_with fail
        refine (refWord_any _ _).mono ?_
        rintro e w1 ⟨rfl, rfl⟩
        by_cases hs : kWord (j : Int) = s
        · have HM := Lib.hid (wantTo_hit HK.out hs)
          have ht := teq_yes hs
          clear hs
          go_wp2_with fail
          go_round
          case rel => exact ⟨j + 1, _, by omega, by omega, rfl, by rw [HM.out]⟩
          case measure => simp [intOf]; omega
        · have HM := Lib.hid (wantTo_miss (s := s) (j := j) fun h => hs h.2)
          have ht := teq_no hs
          clear hs
          go_wp2_with fail
          go_round
          case rel => exact ⟨j + 1, _, by omega, by omega, rfl, by rw [HM.out]⟩
          case measure => simp [intOf]; omega
      · have HM := Lib.hid (wantTo_miss (s := s) (j := j) fun h => hk h.1)
        have h0 := kSize_none (k := (j : Int)) (by simpa using hk)
        have H0 := Lib.hid h0
        clear h0 hk
        go_wp2_with fail
        refine (refSize_any _ _).mono ?_
        rintro e w1 ⟨rfl, rfl⟩
        rw [H0.out]
        go_wp2_with fail
        go_round
        case rel => exact ⟨j + 1, _, by omega, by omega, rfl, by rw [HM.out]⟩
        case measure => simp [intOf]; omega
    · obtain rfl : j = 20 := by omega
      rw [wantTo_all]
      generalize kindOf s = K
      go_wp2_with fail
      refine (all_any _).mono ?_
      rintro e w4 ⟨v, rfl, hown, hb4⟩
      obtain ⟨A, c, rfl, -, -⟩ := own_form hown
      have HB4 := Lib.hid (HB3.out.trans (hb4.mono HB3.out.size))
      have hsz := hb4.size
      have hs4 := SR.of_own hown
      have HS := Lib.hid hs4
      clear hb4 hown hsz HB3 hs4 hj hlt HW
      go_wp2_with fail
      go_loop [49] (fun i => ∃ (j : Nat) (J : Int), J = (j : Nat) ∧ j ≤ 5 ∧ i = .int .i64 J) (fun i => 5 - (intOf i).toNat)
      case atStart => exact ⟨0, 0, rfl, by omega, rfl⟩
      case round =>
        obtain ⟨j, J, rfl, hj, rfl⟩ := hrel
        by_cases hlt : j < 5
        · obtain ⟨b1, o1, rfl, hb1, x0⟩ := row_cell (HS.out.below ((Below.refl _ _).alloc (Nat.le_refl _) (.cells (zv fiveK).toArray 3))) hlt (u := .int .i64 (fiveK.getD j 0)) (by simp [zv, List.getD, show j < fiveK.length from hlt])
          obtain ⟨b2, o2, e2, hb2, y0⟩ := row_cell (SR.lit w4 (zv fiveK) 3 (size := 1) (n := 5) rfl) hlt (u := .int .i64 (fiveK.getD j 0)) (by simp [zv, List.getD, show j < fiveK.length from hlt])
          injection e2 with e2
          injection e2 with e3 e4
          subst e3 e4
          rw [Nat.zero_add] at y0
          generalize fiveK.getD j 0 = x at *
          simp only [zv, fiveK, List.map_cons, List.map_nil] at x0 y0
          clear HS hb2
          go_wp2_with fail
          go_round
          case rel => exact ⟨j + 1, _, by omega, by omega, rfl⟩
          case measure => simp [intOf]; omega
        · obtain rfl : j = 5 := by omega
          clear HS
          go_wp2_with fail
          refine (kawake_any _).mono ?_
          rintro e w5 ⟨rfl, hb5⟩
          have HB5 := Lib.hid (HB4.out.trans ((below_one hb5).mono HB4.out.size))
          clear hb5
          go_wp2_with fail
          go_ret
          exact ⟨rfl, HB5.out⟩
end Go.Proofs.Ytpdaliikfimpgaa
