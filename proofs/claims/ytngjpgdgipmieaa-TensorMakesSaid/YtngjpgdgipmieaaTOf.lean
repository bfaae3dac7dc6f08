/- The walks of OfInts, OfFlags, OfNums, each out of one text (wip/tools/gen7c.py). -/
import Derived.Test.YtngjpgdgipmieaaTMade
namespace Go.Proofs.Ytngjpgdgipmieaa
open Go.RowKit M6 M7


set_option maxRecDepth 100000 in
set_option maxHeartbeats 1000000 in
theorem ofInt_any (nme : ByteArray) (A : Option Addr) (c : Nat) (dims : List Int) (B : Option Addr) (d : Nat) (xs : List (Int)) (f : Int → List UInt8) (w : World) (hdl : dims.length ≤ 1000000) (hxl : xs.length ≤ 1000000)
    (hd : SR w w.heap.size 1 A dims.length (iv dims)) (hx : SR w w.heap.size 1 B xs.length (xs.map fun p => Value.int .i64 p))
    (hf : ∀ p ∈ xs, (f p).length = 8 ∧ ∀ W : World, Calls Try.prog 47 #[Value.int .i64 p] W fun e w' => e = .returned (av (f p)) ∧ Below W.heap.size W w') :
    Calls Try.prog 23 #[.string nme, .slice A dims.length c, .slice B xs.length d] w fun e w' =>
      ∃ v, e = .returned (tv nme 7 v ⟨(flat f 8 xs).toArray⟩) ∧ w'.ownsRow w.heap.size 2 1 v dims.length (iv dims) ∧ Below w.heap.size w w' := by
  have HBX := Lib.hid (Bx.start w zt 25)
  have HM := Lib.hid (madeInt_any nme A c dims B d xs f _ hdl hxl ((hd.below HBX.out.all).more HBX.out.all.size) ((hx.below HBX.out.all).more HBX.out.all.size) hf)
  clear hd hx hf hdl hxl
  go_enter Try.func23, Try.ntmps23
  go_wp2_with fail
  refine HM.out.mono ?_
  rintro e w7 ⟨v, rfl, hown, hb⟩
  obtain ⟨va, vc, rfl, -, -⟩ := own_form hown
  have HB7 := Lib.hid (HBX.out.below hb)
  have HO7 := Lib.hid (own_base hown HBX.out.all.size)
  clear hown hb HBX HM
  have hblk' := set4 HB7.out.1 (.string nme) (.int .i64 7) (.slice va dims.length vc) (.string ⟨(flat f 8 xs).toArray⟩)
  have hk4 := cells_of4 hblk'
  have hbb := (((HB7.out.all.setCell (p := ⟨w.heap.size, 0, none⟩) (Nat.le_refl _) (.string nme)).setCell (p := ⟨w.heap.size, 1, none⟩) (Nat.le_refl _) (.int .i64 7)).setCell (p := ⟨w.heap.size, 2, none⟩) (Nat.le_refl _) (.slice va dims.length vc)).setCell (p := ⟨w.heap.size, 3, none⟩) (Nat.le_refl _) (.string ⟨(flat f 8 xs).toArray⟩)
  have hbo : (Value.slice va dims.length vc).ownBlock ≠ some w.heap.size := own_far HO7.out HB7.out.1 (by decide)
  have hko := own_far_set HO7.out hbo (.string nme) (.int .i64 7) (.slice va dims.length vc) (.string ⟨(flat f 8 xs).toArray⟩)
  have HKK := Lib.hid (And.intro hk4 (And.intro hbb hko))
  obtain ⟨c0, c1, c2, c3⟩ := HB7.out.four
  have f0 := fun i => frozen_of_row w7 w.heap.size i _ _ HB7.out.1
  clear hblk' hk4 hbb hbo hko
  go_wp2_with fail
  clear c0 c1 c2 c3 f0
  obtain ⟨⟨c0, c1, c2, c3⟩, hbb, hko⟩ := HKK.out
  clear HKK
  generalize (((w7.setCell ⟨w.heap.size, 0, none⟩ (.string nme)).setCell ⟨w.heap.size, 1, none⟩ (.int .i64 7)).setCell ⟨w.heap.size, 2, none⟩ (.slice va dims.length vc)).setCell ⟨w.heap.size, 3, none⟩ (.string ⟨(flat f 8 xs).toArray⟩) = w8 at *
  exact bodyPost_ret (v := tv nme 7 (.slice va dims.length vc) ⟨(flat f 8 xs).toArray⟩) (by simp [results, Try.results23, go_sem, c0, c1, c2, c3]) rfl ⟨_, rfl, hko, hbb⟩

set_option maxRecDepth 100000 in
set_option maxHeartbeats 1000000 in
theorem ofFlag_any (nme : ByteArray) (A : Option Addr) (c : Nat) (dims : List Int) (B : Option Addr) (d : Nat) (xs : List (Bool)) (f : Bool → List UInt8) (w : World) (hdl : dims.length ≤ 1000000) (hxl : xs.length ≤ 1000000)
    (hd : SR w w.heap.size 1 A dims.length (iv dims)) (hx : SR w w.heap.size 1 B xs.length (xs.map fun p => Value.bool p))
    (hf : ∀ p ∈ xs, (f p).length = 8 ∧ ∀ W : World, Calls Try.prog 49 #[Value.bool p] W fun e w' => e = .returned (av (f p)) ∧ Below W.heap.size W w') :
    Calls Try.prog 24 #[.string nme, .slice A dims.length c, .slice B xs.length d] w fun e w' =>
      ∃ v, e = .returned (tv nme 9 v ⟨(flat f 1 xs).toArray⟩) ∧ w'.ownsRow w.heap.size 2 1 v dims.length (iv dims) ∧ Below w.heap.size w w' := by
  have HBX := Lib.hid (Bx.start w zt 25)
  have HM := Lib.hid (madeFlag_any nme A c dims B d xs f _ hdl hxl ((hd.below HBX.out.all).more HBX.out.all.size) ((hx.below HBX.out.all).more HBX.out.all.size) hf)
  clear hd hx hf hdl hxl
  go_enter Try.func24, Try.ntmps24
  go_wp2_with fail
  refine HM.out.mono ?_
  rintro e w7 ⟨v, rfl, hown, hb⟩
  obtain ⟨va, vc, rfl, -, -⟩ := own_form hown
  have HB7 := Lib.hid (HBX.out.below hb)
  have HO7 := Lib.hid (own_base hown HBX.out.all.size)
  clear hown hb HBX HM
  have hblk' := set4 HB7.out.1 (.string nme) (.int .i64 9) (.slice va dims.length vc) (.string ⟨(flat f 1 xs).toArray⟩)
  have hk4 := cells_of4 hblk'
  have hbb := (((HB7.out.all.setCell (p := ⟨w.heap.size, 0, none⟩) (Nat.le_refl _) (.string nme)).setCell (p := ⟨w.heap.size, 1, none⟩) (Nat.le_refl _) (.int .i64 9)).setCell (p := ⟨w.heap.size, 2, none⟩) (Nat.le_refl _) (.slice va dims.length vc)).setCell (p := ⟨w.heap.size, 3, none⟩) (Nat.le_refl _) (.string ⟨(flat f 1 xs).toArray⟩)
  have hbo : (Value.slice va dims.length vc).ownBlock ≠ some w.heap.size := own_far HO7.out HB7.out.1 (by decide)
  have hko := own_far_set HO7.out hbo (.string nme) (.int .i64 9) (.slice va dims.length vc) (.string ⟨(flat f 1 xs).toArray⟩)
  have HKK := Lib.hid (And.intro hk4 (And.intro hbb hko))
  obtain ⟨c0, c1, c2, c3⟩ := HB7.out.four
  have f0 := fun i => frozen_of_row w7 w.heap.size i _ _ HB7.out.1
  clear hblk' hk4 hbb hbo hko
  go_wp2_with fail
  clear c0 c1 c2 c3 f0
  obtain ⟨⟨c0, c1, c2, c3⟩, hbb, hko⟩ := HKK.out
  clear HKK
  generalize (((w7.setCell ⟨w.heap.size, 0, none⟩ (.string nme)).setCell ⟨w.heap.size, 1, none⟩ (.int .i64 9)).setCell ⟨w.heap.size, 2, none⟩ (.slice va dims.length vc)).setCell ⟨w.heap.size, 3, none⟩ (.string ⟨(flat f 1 xs).toArray⟩) = w8 at *
  exact bodyPost_ret (v := tv nme 9 (.slice va dims.length vc) ⟨(flat f 1 xs).toArray⟩) (by simp [results, Try.results24, go_sem, c0, c1, c2, c3]) rfl ⟨_, rfl, hko, hbb⟩

set_option maxRecDepth 100000 in
set_option maxHeartbeats 1000000 in
theorem ofNum_any (nme : ByteArray) (A : Option Addr) (c : Nat) (dims : List Int) (B : Option Addr) (d : Nat) (xs : List (Nat × Nat)) (f : Nat × Nat → List UInt8) (w : World) (hdl : dims.length ≤ 1000000) (hxl : xs.length ≤ 1000000)
    (hd : SR w w.heap.size 1 A dims.length (iv dims)) (hx : SR w w.heap.size 1 B xs.length (xs.map fun p => Value.complex .f64 p.1 p.2))
    (hf : ∀ p ∈ xs, (f p).length = 8 ∧ ∀ W : World, Calls Try.prog 53 #[Value.complex .f64 p.1 p.2] W fun e w' => e = .returned (av (f p)) ∧ Below W.heap.size W w') :
    Calls Try.prog 27 #[.string nme, .slice A dims.length c, .slice B xs.length d] w fun e w' =>
      ∃ v, e = .returned (tv nme 14 v ⟨(flat f 8 xs).toArray⟩) ∧ w'.ownsRow w.heap.size 2 1 v dims.length (iv dims) ∧ Below w.heap.size w w' := by
  have HBX := Lib.hid (Bx.start w zt 25)
  have HM := Lib.hid (madeNum_any nme A c dims B d xs f _ hdl hxl ((hd.below HBX.out.all).more HBX.out.all.size) ((hx.below HBX.out.all).more HBX.out.all.size) hf)
  clear hd hx hf hdl hxl
  go_enter Try.func27, Try.ntmps27
  go_wp2_with fail
  refine HM.out.mono ?_
  rintro e w7 ⟨v, rfl, hown, hb⟩
  obtain ⟨va, vc, rfl, -, -⟩ := own_form hown
  have HB7 := Lib.hid (HBX.out.below hb)
  have HO7 := Lib.hid (own_base hown HBX.out.all.size)
  clear hown hb HBX HM
  have hblk' := set4 HB7.out.1 (.string nme) (.int .i64 14) (.slice va dims.length vc) (.string ⟨(flat f 8 xs).toArray⟩)
  have hk4 := cells_of4 hblk'
  have hbb := (((HB7.out.all.setCell (p := ⟨w.heap.size, 0, none⟩) (Nat.le_refl _) (.string nme)).setCell (p := ⟨w.heap.size, 1, none⟩) (Nat.le_refl _) (.int .i64 14)).setCell (p := ⟨w.heap.size, 2, none⟩) (Nat.le_refl _) (.slice va dims.length vc)).setCell (p := ⟨w.heap.size, 3, none⟩) (Nat.le_refl _) (.string ⟨(flat f 8 xs).toArray⟩)
  have hbo : (Value.slice va dims.length vc).ownBlock ≠ some w.heap.size := own_far HO7.out HB7.out.1 (by decide)
  have hko := own_far_set HO7.out hbo (.string nme) (.int .i64 14) (.slice va dims.length vc) (.string ⟨(flat f 8 xs).toArray⟩)
  have HKK := Lib.hid (And.intro hk4 (And.intro hbb hko))
  obtain ⟨c0, c1, c2, c3⟩ := HB7.out.four
  have f0 := fun i => frozen_of_row w7 w.heap.size i _ _ HB7.out.1
  clear hblk' hk4 hbb hbo hko
  go_wp2_with fail
  clear c0 c1 c2 c3 f0
  obtain ⟨⟨c0, c1, c2, c3⟩, hbb, hko⟩ := HKK.out
  clear HKK
  generalize (((w7.setCell ⟨w.heap.size, 0, none⟩ (.string nme)).setCell ⟨w.heap.size, 1, none⟩ (.int .i64 14)).setCell ⟨w.heap.size, 2, none⟩ (.slice va dims.length vc)).setCell ⟨w.heap.size, 3, none⟩ (.string ⟨(flat f 8 xs).toArray⟩) = w8 at *
  exact bodyPost_ret (v := tv nme 14 (.slice va dims.length vc) ⟨(flat f 8 xs).toArray⟩) (by simp [results, Try.results27, go_sem, c0, c1, c2, c3]) rfl ⟨_, rfl, hko, hbb⟩
end Go.Proofs.Ytngjpgdgipmieaa
