/- The walk of the example of layer 5. -/
import Derived.Test.YtngjpgdgipmieaaSBroad
import Derived.Test.YtngjpgdgipmieaaSBack
import Derived.Test.YtngjpgdgipmieaaSSame
import Derived.Test.YtngjpgdgipmieaaRow
namespace Go.Proofs.Ytngjpgdgipmieaa
open Go.RowKit M5

theorem ex_bc : bc [3, 1] [4] = ([3, 4], 0) := by decide +kernel
theorem ex_bk : bk [3, 1] [2, 3] = [2, 0] := by decide +kernel
theorem litA (w : World) (l : List Int) : SR (w.alloc (.cells (iv l).toArray 2)) (w.alloc (.cells (iv l).toArray 2)).heap.size 1 (some ⟨w.heap.size, 0, none⟩) l.length (iv l) :=
  (SR.lit w (iv l) 2 (size := 1) (n := l.length) (by simp [iv_len])).more (by simp)
theorem SR.alloc {w : World} {size n : Nat} {A : Option Addr} {xs : List Value} (h : SR w w.heap.size size A n xs) (o : Obj) : SR (w.alloc o) (w.alloc o).heap.size size A n xs :=
  (h.below ((Below.refl _ _).alloc (Nat.le_refl _) o)).more (by simp)
theorem small_in {l : List Int} (h : l.all (fun n => decide (-9223372036854775808 ≤ n) && decide (n ≤ 9223372036854775807)) = true) : ∀ n ∈ l, I64 n := by
  intro n hn
  have := List.all_eq_true.1 h n hn
  simp only [Bool.and_eq_true, decide_eq_true_eq] at this
  exact this

set_option maxRecDepth 100000 in
theorem shAwake_any (w : World) : Calls Try.prog 29 #[] w fun e w' => e = .returned (.bool true) ∧ Below w.heap.size w w' := by
  have hc := shBroad_any (some ⟨w.heap.size, 0, none⟩) 2 [3, 1] (some ⟨w.heap.size + 1, 0, none⟩) 1 [4] ((w.alloc (.cells (iv [3, 1]).toArray 2)).alloc (.cells (iv [4]).toArray 2)) (by unfold maxLen; simp) (by unfold maxLen; simp)
    ((litA w [3, 1]).alloc _) (by have := litA (w.alloc (.cells (iv [3, 1]).toArray 2)) [4]; simpa using this) (small_in (by decide)) (small_in (by decide))
  rw [ex_bc] at hc
  have HC := Lib.hid hc
  clear hc
  go_enter Try.func29, Try.ntmps29
  go_wp2_with fail
  refine HC.out.mono ?_
  rintro e w1 ⟨v1, rfl, hown1, hb1⟩
  obtain ⟨A1, c1, rfl, -, -⟩ := own_form hown1
  have hs1 := SR.of_own hown1
  have HB1 := Lib.hid (below_two hb1)
  clear hown1 hb1 HC
  have HS := Lib.hid (isInts_any A1 (some ⟨w1.heap.size, 0, none⟩) c1 2 [3, 4] [3, 4] (w1.alloc (.cells (iv [3, 4]).toArray 2)) (by unfold maxLen; simp) (hs1.alloc _) (litA w1 [3, 4]))
  clear hs1
  go_wp2_with fail
  refine HS.out.mono ?_
  rintro e w2 ⟨rfl, hb2⟩
  have HB2 := Lib.hid (step_below HB1.out (below_one hb2))
  clear hb2 HS
  have hc := shBack_any (some ⟨w2.heap.size, 0, none⟩) 2 [3, 1] (some ⟨w2.heap.size + 1, 0, none⟩) 2 [2, 3] ((w2.alloc (.cells (iv [3, 1]).toArray 2)).alloc (.cells (iv [2, 3]).toArray 2)) (by simp) (by simp)
    ((litA w2 [3, 1]).alloc _) (by have := litA (w2.alloc (.cells (iv [3, 1]).toArray 2)) [2, 3]; simpa using this)
  rw [ex_bk] at hc
  have HC := Lib.hid hc
  clear hc
  go_wp2_with fail
  refine HC.out.mono ?_
  rintro e w3 ⟨v3, rfl, hown3, hb3⟩
  obtain ⟨A3, c3, rfl, -, -⟩ := own_form hown3
  have hs3 := SR.of_own hown3
  have HB3 := Lib.hid (step_below HB2.out (below_two hb3))
  clear hown3 hb3 HC
  have HS := Lib.hid (isInts_any A3 (some ⟨w3.heap.size, 0, none⟩) c3 2 [2, 0] [2, 0] (w3.alloc (.cells (iv [2, 0]).toArray 2)) (by unfold maxLen; simp) (hs3.alloc _) (litA w3 [2, 0]))
  clear hs3
  go_wp2_with fail
  refine HS.out.mono ?_
  rintro e w4 ⟨rfl, hb4⟩
  have HB4 := Lib.hid (step_below HB3.out (below_one hb4))
  clear hb4 HS
  go_wp2_with fail
  go_ret
  exact ⟨rfl, HB4.out⟩
end Go.Proofs.Ytngjpgdgipmieaa
