/- The walks of the document's own answers: May, Read, Put. -/
import Derived.Test.YtmmcfhgbjmfbaaaGreatGPutTwo
import Derived.Lib.QuietBelow
namespace Go.Proofs.YtmmcfhgbjmfbaaaGreat
open Go.RowKit M6 Go.Sort

theorem set2 {w : World} {g : Nat} {t : TypeId} {a0 a1 : Value} (h : w.heap[g]? = some (.cells #[a0, a1] t (0, 0))) (v0 v1 : Value) :
    ((w.setCell ⟨g, 0, none⟩ v0).setCell ⟨g, 1, none⟩ v1).heap[g]? = some (.cells #[v0, v1] t (0, 0)) :=
  heap_setCell_same _ g 1 _ t v1 (heap_setCell_same _ g 0 _ t v0 h)
theorem cells_of2 {w : World} {g : Nat} {t : TypeId} {a0 a1 : Value} (h : w.heap[g]? = some (.cells #[a0, a1] t (0, 0))) :
    w.cell? ⟨g, 0, none⟩ = some a0 ∧ w.cell? ⟨g, 1, none⟩ = some a1 :=
  ⟨cell_of_row w g 0 _ t _ h, cell_of_row w g 1 _ t _ h⟩
/-- two cells of the call's own block, stored -/
theorem put2 {w w3 : World} {t : TypeId} {a0 a1 : Value} (hk : w3.heap[w.heap.size]? = some (.cells #[a0, a1] t (0, 0))) (hb : Below w.heap.size w w3) (v0 v1 : Value) :
    ((w3.setCell ⟨w.heap.size, 0, none⟩ v0).setCell ⟨w.heap.size, 1, none⟩ v1).cell? ⟨w.heap.size, 0, none⟩ = some v0 ∧ ((w3.setCell ⟨w.heap.size, 0, none⟩ v0).setCell ⟨w.heap.size, 1, none⟩ v1).cell? ⟨w.heap.size, 1, none⟩ = some v1 ∧ Below w.heap.size w ((w3.setCell ⟨w.heap.size, 0, none⟩ v0).setCell ⟨w.heap.size, 1, none⟩ v1) := by
  obtain ⟨c0, c1⟩ := cells_of2 (set2 hk v0 v1)
  exact ⟨c0, c1, (hb.setCell (p := ⟨w.heap.size, 0, none⟩) (Nat.le_refl _) v0).setCell (p := ⟨w.heap.size, 1, none⟩) (Nat.le_refl _) v1⟩
/-- both parts may be -/
def mayN (a b : Int) : Bool := decide (a.natAbs ≤ 1048576 ∧ b.natAbs ≤ 1048576)
theorem mayN_yes {a b : Int} (h : a.natAbs ≤ 1048576 ∧ b.natAbs ≤ 1048576) : mayN a b = true := decide_eq_true h
theorem mayN_no {a b : Int} (h : ¬ (a.natAbs ≤ 1048576 ∧ b.natAbs ≤ 1048576)) : mayN a b = false := decide_eq_false h

/-- what the document's Read gives: a struct of two numbers, in memory -/
theorem rdSpec_no {b : ByteArray} (h : b.size = 8) (hno : ∀ i j : Int, i.natAbs ≤ 1048576 → j.natAbs ≤ 1048576 → pr (b.extract 0 4) 4 = sz i → pr (b.extract 4 8) 4 ≠ sz j) : RdSpec b 0 0 17 :=
  .inr (.inr (.inr ⟨h, rfl, rfl, rfl, hno⟩))
def RRes (b : ByteArray) (w : World) (e : Ending) (w' : World) : Prop := ∃ n m c : Int, e = .returned (.tuple #[.agg #[.int .i64 n, .int .i64 m], .int .i64 c]) ∧ RdSpec b n m c ∧ Below w.heap.size w w'
set_option maxRecDepth 100000 in
theorem g_rread_any (b : ByteArray) (w : World) (hb : b.size ≤ maxLen) :
    Calls Tryz.prog 34 #[.string b] w (RRes b w) := by
  unfold maxLen at hb
  have hblk := heap_alloc_new w (.cells #[.int .i64 0, .int .i64 0] 84)
  have hz : (w.alloc (.cells #[.int .i64 0, .int .i64 0] 84)).heap.size = w.heap.size + 1 := by simp
  obtain ⟨c0, c1⟩ := cells_of2 hblk
  have f0 := fun i => frozen_of_row _ w.heap.size i _ _ hblk
  have HB := Lib.hid (((Below.refl w.heap.size w).alloc (Nat.le_refl _) (.cells #[.int .i64 0, .int .i64 0] 84)))
  have HK := Lib.hid hblk
  clear hblk
  generalize hW : w.alloc (.cells #[.int .i64 0, .int .i64 0] 84) = w1 at *
  have HW := Lib.hid hW
  clear hW
  rcases Nat.lt_trichotomy b.size 8 with h | h | h
  · have h' : (b.size : Int) < 8 := by omega
    go_enter Tryz.func34, Tryz.ntmps34
    go_wp2_with fail
    rw [HW.out]
    go_wp2_with fail
    exact bodyPost_ret (v := .tuple #[.agg #[.int .i64 0, .int .i64 0], .int .i64 1]) (by simp [results, Tryz.results34, go_sem, c0, c1]) rfl ⟨0, 0, 1, rfl, .inl ⟨h, rfl, rfl, rfl⟩, HB.out⟩
  · have h1 : ¬ (b.size : Int) < 8 := by omega
    have h2 : ¬ 8 < (b.size : Int) := by omega
    have HP := Lib.hid (fun W => word_any (b.extract 0 4) W (by simp; omega))
    have HQ := Lib.hid (fun W => word_any (b.extract 4 8) W (by simp; omega))
    have HP2 := Lib.hid (fun W => rwhole_any (pr (b.extract 0 4) 4) W (pr_lt _ 4))
    have HQ2 := Lib.hid (fun W => rwhole_any (pr (b.extract 4 8) 4) W (pr_lt _ 4))
    have HS : Hid (∀ (n m : Int), n.natAbs ≤ 1048576 → m.natAbs ≤ 1048576 → pr (b.extract 0 4) 4 = sz n → pr (b.extract 4 8) 4 = sz m → RdSpec b n m 0) := Lib.hid fun n m hn hm e1 e2 => .inr (.inr (.inl ⟨h, rfl, hn, hm, e1, e2⟩))
    have HN := Lib.hid (rdSpec_no h)
    generalize pr (b.extract 0 4) 4 = v1 at *
    generalize pr (b.extract 4 8) 4 = v2 at *
    clear c0 c1 f0
    go_enter Tryz.func34, Tryz.ntmps34
    go_wp2_with fail
    rw [HW.out]
    refine (HP.out _).mono ?_
    rintro e w2 ⟨rfl, hb2⟩
    have hz2 := hb2.size
    have HB2 := Lib.hid (HB.out.trans (hb2.mono HB.out.size))
    have HK2 := Lib.hid ((hb2.block w.heap.size (by omega)).trans HK.out)
    clear hb2
    go_wp2_with fail
    refine (HP2.out _).mono ?_
    rintro e w2' ⟨n, bn, rfl, rfl, hn1, hn2⟩
    have HN1 := Lib.hid hn1
    have HN2 := Lib.hid hn2
    clear hn1 hn2
    go_wp2_with fail
    refine (HQ.out _).mono ?_
    rintro e w3 ⟨rfl, hb3⟩
    have hz3 := hb3.size
    have HB3 := Lib.hid (HB2.out.trans (hb3.mono HB2.out.size))
    have hblk := (hb3.block w.heap.size (by omega)).trans HK2.out
    obtain ⟨c0, c1⟩ := cells_of2 hblk
    have f0 := fun i => frozen_of_row _ w.heap.size i _ _ hblk
    have HK3 := Lib.hid hblk
    clear hb3 hblk
    go_wp2_with fail
    refine (HQ2.out _).mono ?_
    rintro e w3' ⟨m, bm, rfl, rfl, hm1, hm2⟩
    have HM1 := Lib.hid hm1
    have HM2 := Lib.hid hm2
    clear hm1 hm2 HB HB2 HK HK2
    cases hbn : bn
    · subst hbn
      go_wp2_with fail
      obtain ⟨c0, c1, hbb⟩ := put2 HK3.out HB3.out (.int .i64 0) (.int .i64 0)
      exact bodyPost_ret (v := .tuple #[.agg #[.int .i64 0, .int .i64 0], .int .i64 17]) (by simp [results, Tryz.results34, go_sem, c0, c1]) rfl ⟨0, 0, 17, rfl, HN.out (fun i j hi hj e1 e2 => by have := HN2.out i hi e1; simp at this), hbb⟩
    · subst hbn
      cases hbm : bm
      · subst hbm
        go_wp2_with fail
        obtain ⟨c0, c1, hbb⟩ := put2 HK3.out HB3.out (.int .i64 0) (.int .i64 0)
        exact bodyPost_ret (v := .tuple #[.agg #[.int .i64 0, .int .i64 0], .int .i64 17]) (by simp [results, Tryz.results34, go_sem, c0, c1]) rfl ⟨0, 0, 17, rfl, HN.out (fun i j hi hj e1 e2 => by have := HM2.out j hj e2; simp at this), hbb⟩
      · subst hbm
        go_wp2_with fail
        obtain ⟨c0, c1, hbb⟩ := put2 HK3.out HB3.out (.int .i64 n) (.int .i64 m)
        exact bodyPost_ret (v := .tuple #[.agg #[.int .i64 n, .int .i64 m], .int .i64 0]) (by simp [results, Tryz.results34, go_sem, c0, c1]) rfl ⟨n, m, 0, rfl, HS.out n m (HN1.out trivial).1 (HM1.out trivial).1 (HN1.out trivial).2 (HM1.out trivial).2, hbb⟩
  · have h1 : ¬ (b.size : Int) < 8 := by omega
    have h2 : 8 < (b.size : Int) := by omega
    go_enter Tryz.func34, Tryz.ntmps34
    go_wp2_with fail
    rw [HW.out]
    go_wp2_with fail
    exact bodyPost_ret (v := .tuple #[.agg #[.int .i64 0, .int .i64 0], .int .i64 2]) (by simp [results, Tryz.results34, go_sem, c0, c1]) rfl ⟨0, 0, 2, rfl, .inr (.inl ⟨h, rfl, rfl, rfl⟩), HB.out⟩
end Go.Proofs.YtmmcfhgbjmfbaaaGreat
