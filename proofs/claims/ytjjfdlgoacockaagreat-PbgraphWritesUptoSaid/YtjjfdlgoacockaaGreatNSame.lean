import Derived.Test.YtjjfdlgoacockaaGreatNPutP
import Derived.Test.YtjjfdlgoacockaaGreatMNew
import Derived.Test.YtjjfdlgoacockaaGreatMAwake
import Derived.Test.YtjjfdlgoacockaaGreatPSame
namespace Go.Proofs.YtjjfdlgoacockaaGreat
open Go.RowKit M1 M2 M3 M9 M10 M11 Go.Sort
open M7 (nm)

def exN11 : Nod := ⟨⟨#[78, 101, 103]⟩, [⟨#[120]⟩], ⟨#[121]⟩, []⟩
theorem exN11_put : wrN exN11 = ⟨#[10, 1, 120, 18, 1, 121, 34, 3, 78, 101, 103]⟩ := by decide +kernel
theorem exN11_at (w : World) : NodAt (w.heap.size + 1) (w.alloc (.cells #[.string ⟨#[120]⟩] 9)) exN11 [.string ⟨#[78, 101, 103]⟩, .slice (some ⟨w.heap.size, 0, none⟩) 1 1, .string ⟨#[121]⟩, .slice none 0 0] :=
  ⟨some ⟨w.heap.size, 0, none⟩, 1, none, 0, rfl, SR.lit w [.string ⟨#[120]⟩] 9 rfl, DR.empty _ _ _, ⟨by decide, by decide, by simp [exN11]; decide, by simp [exN11], by simp [exN11]⟩⟩
theorem exN11_sm : NSm exN11 := ⟨by decide, by decide, by decide, by decide, by simp [exN11]; decide, by simp [exN11]⟩

set_option maxRecDepth 100000 in
theorem nawake_any (w : World) : Calls Tryz.prog 19 #[] w fun e w' => e = .returned (.bool true) ∧ Below w.heap.size w w' := by
  go_enter Tryz.func19, Tryz.ntmps19
  go_wp2_with fail
  refine (pawake_any _).mono ?_
  rintro e w1 ⟨rfl, hb1⟩
  have HB1 := Lib.hid hb1
  clear hb1
  go_wp2_with fail
  refine (mawake_any _).mono ?_
  rintro e w2 ⟨rfl, hb2⟩
  have HB2 := Lib.hid (HB1.out.trans (hb2.mono HB1.out.size))
  clear hb2 HB1
  have hz : (w2.alloc (.cells #[.string ⟨#[120]⟩] 9)).heap.size = w2.heap.size + 1 := by simp
  have HP := Lib.hid (putNode_any exN11 _ (w2.alloc (.cells #[.string ⟨#[120]⟩] 9)) (by rw [hz]; exact exN11_at w2) exN11_sm)
  rw [exN11_put] at HP
  clear hz
  go_wp2_with fail
  refine HP.out.mono ?_
  rintro e w3 ⟨rfl, hb3⟩
  have HB3 := Lib.hid (HB2.out.trans ((step_below ((Below.refl w2.heap.size w2).alloc (Nat.le_refl _) (.cells #[.string ⟨#[120]⟩] 9)) hb3).mono HB2.out.size))
  clear hb3 HP
  go_wp2_with fail
  go_ret
  exact ⟨rfl, HB3.out⟩

end Go.Proofs.YtjjfdlgoacockaaGreat
