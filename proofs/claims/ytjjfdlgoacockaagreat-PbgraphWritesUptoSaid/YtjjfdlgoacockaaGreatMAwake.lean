import Derived.Test.YtjjfdlgoacockaaGreatMNew
import Derived.Test.YtjjfdlgoacockaaGreatTAwake
namespace Go.Proofs.YtjjfdlgoacockaaGreat
open Go.RowKit M7 M10

def exN : Nod := ⟨⟨#[]⟩, [], ⟨#[]⟩, [⟨⟨#[97, 120, 105, 115]⟩, true, 1, []⟩]⟩
theorem exN_axis : (if (atA exN.attrs ⟨#[97, 120, 105, 115]⟩).one then (atA exN.attrs ⟨#[97, 120, 105, 115]⟩).int else 7) = 1 := by decide +kernel
theorem exN_keep : (if (atA exN.attrs ⟨#[107, 101, 101, 112]⟩).one then (atA exN.attrs ⟨#[107, 101, 101, 112]⟩).int else 7) = 7 := by decide +kernel
theorem exN_at (w : World) : NodAt (w.heap.size + 1) (w.alloc (.cells #[.string ⟨#[97, 120, 105, 115]⟩, .bool true, .int .i64 1, .slice none 0 0] 108)) exN [.string ⟨#[]⟩, .slice none 0 0, .string ⟨#[]⟩, .slice (some ⟨w.heap.size, 0, none⟩) 1 1] :=
  ⟨none, 0, some ⟨w.heap.size, 0, none⟩, 1, rfl, SR.empty _ _ _ _, ⟨[[.string ⟨#[97, 120, 105, 115]⟩, .bool true, .int .i64 1, .slice none 0 0]], ⟨⟨none, 0, rfl, SR.empty _ _ _ _, ⟨by decide, by decide, by unfold I64; decide, by simp⟩⟩, trivial⟩, SR.lit w [.string ⟨#[97, 120, 105, 115]⟩, .bool true, .int .i64 1, .slice none 0 0] 108 rfl⟩,
   ⟨by decide, by decide, by simp [exN], by simp [exN], by simp [exN]⟩⟩

set_option maxRecDepth 100000 in
theorem mawake_any (w : World) : Calls Tryz.prog 62 #[] w fun e w' => e = .returned (.bool true) ∧ Below w.heap.size w w' := by
  go_enter Tryz.func62, Tryz.ntmps62
  go_wp2_with fail
  refine (m_number_any _ _ _).mono ?_
  rintro e w1 ⟨rfl, hb1⟩
  have HN := Lib.hid (exN_at w1)
  have HB0 := Lib.hid (hb1.alloc hb1.size (.cells #[.string ⟨#[97, 120, 105, 115]⟩, .bool true, .int .i64 1, .slice none 0 0] 108))
  clear hb1
  go_wp2_with fail
  generalize hW : w1.alloc (.cells #[.string ⟨#[97, 120, 105, 115]⟩, .bool true, .int .i64 1, .slice none 0 0] 108) = W at *
  have hz : W.heap.size = w1.heap.size + 1 := by rw [← hW]; simp
  have HBX : Hid (Bx W (w1.heap.size + 1) #[.string ⟨#[]⟩, .slice none 0 0, .string ⟨#[]⟩, .slice (some ⟨w1.heap.size, 0, none⟩) 1 1] 102 (W.alloc (.cells #[.string ⟨#[]⟩, .slice none 0 0, .string ⟨#[]⟩, .slice (some ⟨w1.heap.size, 0, none⟩) 1 1] 102))) := Lib.hid (by rw [← hz]; exact Bx.start W _ _)
  have HNN := Lib.hid (show NodAt W.heap.size W exN _ from by rw [hz]; exact HN.out)
  clear HN hW
  refine (tawake_any _).mono ?_
  rintro e w2 ⟨rfl, hb2⟩
  have H2 := Lib.hid (HBX.out.below hb2)
  clear hb2 HBX hz
  obtain ⟨x0, x1, x2, x3⟩ := H2.out.four
  have HC1 := Lib.hid (fun (w2 : World) (h : Below W.heap.size W w2) => One_any exN [.string ⟨#[]⟩, .slice none 0 0, .string ⟨#[]⟩, .slice (some ⟨w1.heap.size, 0, none⟩) 1 1] ⟨#[97, 120, 105, 115]⟩ 7 w2 (ek_nod.more (ek_nod.below HNN.out h) h.size))
  have HC2 := Lib.hid (fun (w2 : World) (h : Below W.heap.size W w2) => One_any exN [.string ⟨#[]⟩, .slice none 0 0, .string ⟨#[]⟩, .slice (some ⟨w1.heap.size, 0, none⟩) 1 1] ⟨#[107, 101, 101, 112]⟩ 7 w2 (ek_nod.more (ek_nod.below HNN.out h) h.size))
  rw [exN_axis] at HC1
  rw [exN_keep] at HC2
  go_wp2_with fail
  refine (HC1.out _ H2.out.all).mono ?_
  rintro e w3 ⟨rfl, hb3⟩
  have H3 := Lib.hid (H2.out.below hb3)
  clear hb3 x0 x1 x2 x3
  obtain ⟨x0, x1, x2, x3⟩ := H3.out.four
  go_wp2_with fail
  refine (HC2.out _ H3.out.all).mono ?_
  rintro e w4 ⟨rfl, hb4⟩
  have H4 := Lib.hid (H3.out.below hb4)
  clear hb4 x0 x1 x2 x3
  go_wp2_with fail
  go_ret
  exact ⟨rfl, HB0.out.trans (H4.out.all.mono HB0.out.size)⟩
end Go.Proofs.YtjjfdlgoacockaaGreat
