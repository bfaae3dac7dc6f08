import Derived.Test.YtjjfdlgoacockaaGreatBPut
import Derived.Test.YtjjfdlgoacockaaGreatPSame
import Derived.Test.YtjjfdlgoacockaaGreatTAwake
import Derived.Test.YtjjfdlgoacockaaGreatOKey
namespace Go.Proofs.YtjjfdlgoacockaaGreat
open Go.RowKit M1 M2 M3 M9
open M7 (Ten ck)

def exB : Ten := ⟨⟨#[97]⟩, 7, [1], ⟨(flat (fun n => l8 (M7.us n)) 8 [5]).toArray⟩⟩
theorem exB_size : exB.data.size = 8 := by decide +kernel
theorem exB_ck : ck exB = 0 := by
  refine M7.ck_ok (by decide +kernel) (by decide +kernel) (by decide +kernel) ?_ ?_
  · rw [exB_size]; decide +kernel
  · intro j hj
    exact M7.elk_other (by decide) (by decide) _ _
def exW : ByteArray := ⟨#[10, 1, 1, 16, 7, 66, 1, 97, 74, 8, 5, 0, 0, 0, 0, 0, 0, 0]⟩
theorem exB_wr : wr9 exB = exW := by decide +kernel
theorem exW_list : exW.toList = [10, 1, 1, 16, 7, 66, 1, 97, 74, 8, 5, 0, 0, 0, 0, 0, 0, 0] := by decide +kernel

set_option maxRecDepth 100000 in
set_option maxHeartbeats 1000000 in
theorem b_awake_any (w : World) : Calls Tryz.prog 18 #[] w fun e w' => e = .returned (.bool true) ∧ Below w.heap.size w w' := by
  have h1 := litA w [1]
  have h2 := litA (w.alloc (.cells (iv [1]).toArray 2)) [5]
  rw [show (w.alloc (.cells (iv [1]).toArray 2)).heap.size = w.heap.size + 1 by simp] at h2
  have HO := Lib.hid (ofInt_any ⟨#[97]⟩ (some ⟨w.heap.size, 0, none⟩) 1 [1] (some ⟨w.heap.size + 1, 0, none⟩) 1 [5] (fun n => l8 (M7.us n)) ((w.alloc (.cells (iv [1]).toArray 2)).alloc (.cells (iv [5]).toArray 2)) (by simp) (by simp) (SR.alloc h1 _) h2 (fun p _ => t_put_int p))
  clear h1 h2
  go_enter Tryz.func18, Tryz.ntmps18
  go_wp2_with fail
  refine HO.out.mono ?_
  rintro e w1 ⟨v, rfl, hown, hb⟩
  obtain ⟨va, vc, rfl, -, -⟩ := own_form hown
  have HB1 := Lib.hid (below_two hb)
  have hs1 := SR.of_own hown
  have HT : Hid (Tok w1 exB va) := Lib.hid ⟨by decide, by rw [exB_size]; omega, by decide, hs1, by unfold maxLen; decide, small_in (by decide)⟩
  have HP := Lib.hid (b_put_any exB va vc w1 HT.out (by rw [exB_size]; omega) (by decide) (by decide))
  rw [if_pos exB_ck, exB_ck, exB_wr] at HP
  have HL := Lib.hid (show (exW.toList == [10, 1, 1, 16, 7, 66, 1, 97, 74, 8, 5, 0, 0, 0, 0, 0, 0, 0]) = true by rw [exW_list]; exact beq_self_eq_true _)
  unfold exB at HP
  clear hown hb hs1 HO HT
  generalize (⟨(flat (fun n => l8 (M7.us n)) 8 [5]).toArray⟩ : ByteArray) = D at *
  generalize exW = X at *
  go_wp2_with fail
  refine HP.out.mono ?_
  rintro e w2 ⟨rfl, hb2⟩
  have HB2 := Lib.hid (step_below HB1.out hb2)
  clear hb2 HP HB1
  go_wp2_with fail
  refine (pawake_any _).mono ?_
  rintro e w3 ⟨rfl, hb3⟩
  have HB3 := Lib.hid (step_below HB2.out hb3)
  clear hb3 HB2
  go_wp2_with fail
  refine (tawake_any _).mono ?_
  rintro e w4 ⟨rfl, hb4⟩
  have HB4 := Lib.hid (step_below HB3.out hb4)
  clear hb4 HB3
  have ht := HL.out
  go_wp2_with fail
  refine (oawake_any _).mono ?_
  rintro e w5 ⟨rfl, hb5⟩
  have HB5 := Lib.hid (step_below HB4.out hb5)
  clear hb5 HB4
  go_wp2_with fail
  go_ret
  exact ⟨rfl, HB5.out⟩
end Go.Proofs.YtjjfdlgoacockaaGreat
