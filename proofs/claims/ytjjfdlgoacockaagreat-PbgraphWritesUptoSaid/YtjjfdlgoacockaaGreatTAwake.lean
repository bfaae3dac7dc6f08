import Derived.Test.YtjjfdlgoacockaaGreatTMade
import Derived.Test.YtjjfdlgoacockaaGreatTCheck
import Derived.Test.YtjjfdlgoacockaaGreatLift
import Derived.Test.YtjjfdlgoacockaaGreatSBack
import Derived.Test.YtjjfdlgoacockaaGreatGOut
namespace Go.Proofs.YtjjfdlgoacockaaGreat
open Go.RowKit M6 M7

theorem t_put_int (n : Int) : (l8 (us n)).length = 8 ∧ ∀ W : World, Calls Tryz.prog 100 #[.int .i64 n] W fun e w' => e = .returned (av (l8 (us n))) ∧ Below W.heap.size W w' := ⟨rfl, fun W => putInt_av n W⟩
def exT : Ten := ⟨⟨#[97]⟩, 7, [2], ⟨(flat (fun n => l8 (us n)) 8 [1, -1]).toArray⟩⟩
theorem exT_size : exT.data.size = 16 := by decide +kernel
theorem exT_ck : ck exT = 0 := by
  refine ck_ok (by decide +kernel) (by decide +kernel) (by decide +kernel) ?_ ?_
  · rw [exT_size]; decide +kernel
  · intro j hj
    exact elk_other (by decide) (by decide) _ _

set_option maxRecDepth 100000 in
theorem tawake_any (w : World) : Calls Tryz.prog 60 #[] w fun e w' => e = .returned (.bool true) ∧ Below w.heap.size w w' := by
  have h1 := litA w [2]
  have h2 := litA (w.alloc (.cells (iv [2]).toArray 2)) [1, -1]
  rw [show (w.alloc (.cells (iv [2]).toArray 2)).heap.size = w.heap.size + 1 by simp] at h2
  have HO := Lib.hid (ofInt_any ⟨#[97]⟩ (some ⟨w.heap.size, 0, none⟩) 1 [2] (some ⟨w.heap.size + 1, 0, none⟩) 2 [1, -1] (fun n => l8 (us n)) ((w.alloc (.cells (iv [2]).toArray 2)).alloc (.cells (iv [1, -1]).toArray 2)) (by simp) (by simp) (SR.alloc h1 _) h2 (fun p _ => t_put_int p))
  clear h1 h2
  go_enter Tryz.func60, Tryz.ntmps60
  go_wp2_with fail
  refine HO.out.mono ?_
  rintro e w1 ⟨v, rfl, hown, hb⟩
  obtain ⟨va, vc, rfl, -, -⟩ := own_form hown
  have HB1 := Lib.hid (below_two hb)
  have hs1 := SR.of_own hown
  have HT : Hid (Tok w1 exT va) := Lib.hid ⟨by decide, by rw [exT_size]; omega, by decide, hs1, by unfold maxLen; decide, small_in (by decide)⟩
  have HE := Lib.hid exT_ck
  have HZ := Lib.hid exT_size
  clear hown hb hs1 HO
  generalize hdd : (⟨(flat (fun n => l8 (us n)) 8 [1, -1]).toArray⟩ : ByteArray) = D at *
  have hD : D.size = 16 := by rw [← hdd]; exact HZ.out
  have HDD := Lib.hid hdd
  clear hdd
  have HBX := Lib.hid (Bx.start w1 #[.string ⟨#[97]⟩, .int .i64 7, .slice va 1 vc, .string D] 98)
  go_wp2_with fail
  refine (kawake_any _).mono ?_
  rintro e w2 ⟨rfl, hb2⟩
  have H2 := Lib.hid (HBX.out.below hb2)
  clear hb2 HBX
  go_wp2_with fail
  refine (shAwake_any _).mono ?_
  rintro e w3 ⟨rfl, hb3⟩
  have H3 := Lib.hid (H2.out.below hb3)
  clear hb3 H2
  go_wp2_with fail
  refine (gawake_any _).mono ?_
  rintro e w4 ⟨rfl, hb4⟩
  have H4 := Lib.hid (H3.out.below hb4)
  clear hb4 H3
  obtain ⟨x0, x1, x2, x3⟩ := H4.out.four
  have HC := Lib.hid (tcheck_any exT va vc w4 (HT.out.below H4.out.all))
  rw [HE.out] at HC
  unfold exT at HC
  rw [HDD.out] at HC
  go_wp2_with fail
  refine HC.out.mono ?_
  rintro e w5 ⟨rfl, hb5⟩
  have H5 := Lib.hid (H4.out.below hb5)
  clear hb5 H4 HC
  go_wp2_with fail
  go_ret
  exact ⟨rfl, HB1.out.trans (H5.out.all.mono HB1.out.size)⟩
end Go.Proofs.YtjjfdlgoacockaaGreat
