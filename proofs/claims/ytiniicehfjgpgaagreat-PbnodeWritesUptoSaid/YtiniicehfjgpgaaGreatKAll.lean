/- The walk of kind.All: the keys of the map, gathered in whatever order, sorted by the library. -/
import Derived.Test.YtiniicehfjgpgaaGreatKSize
import Derived.Test.YtiniicehfjgpgaaGreatKMath
import Derived.Test.YtiniicehfjgpgaaGreatKSort
import Derived.Sort.OwnSortedInts
namespace Go.Proofs.YtiniicehfjgpgaaGreat
open Go.RowKit Go.Maps Go.ChangeMaps

theorem kindInfo : (Tryz.prog.info? 35).map (fun i => (i.zero, i.size, i.bytes)) = some (some (.int .i64 0), 1, 8) := by kernel_rfl
def zv (l : List Int) : List Value := l.map (Value.int .i64)
def AllRel (b r B : Nat) (w : World) (v : Value) (wr : World) : Prop :=
  ∃ left cnt ks, KR b r left cnt wr ∧ wr.ownsRow B 35 1 v ks.length (zv ks) ∧ Gathered left ks ∧ Below w.heap.size w wr ∧ w.heap.size ≤ r ∧ b < B ∧ r < B ∧ B ≤ wr.heap.size
def AllRes (w : World) (e : Ending) (w' : World) : Prop :=
  ∃ v, e = .returned v ∧ w'.ownsRow w.heap.size 35 1 v 5 (zv fiveK) ∧ Below w.heap.size w w'

/-- the library's sort, at a row of the call's own -/
theorem sort_own (w : World) (B : Nat) (v : Value) (ks : List Int) (hk : ks.length ≤ 5) (hk0 : ks ≠ []) (h : w.ownsRow B 35 1 v ks.length (zv ks)) :
    Calls Tryz.prog 86 #[v] w fun e w' => e = .returned (.tuple #[]) ∧ w'.ownsRow B 35 1 v ks.length (zv (ks.mergeSort fun x y => decide (x ≤ y))) ∧ w.grownBy w' v.ownBlock := by
  rcases h.2 with ⟨hnil, h0⟩ | ⟨g, cap, cur, rfl, hbase, hb, h1, h2, h3, h4⟩
  · simp at h0
    exact absurd (by simpa using h0) hk0
  · have hH : Sort.Holds (Value.int .i64) w g 0 ks.toArray := holds_of_blockI hb (by simpa [zv] using h4)
    have hc : Calls Tryz.prog 86 _ _ _ := AnyG.slices_Sort_int kindSortLay g 0 cap ks w hH (Array.getElem?_eq_some_iff.1 hb).1 (by omega)
    refine hc.mono ?_
    rintro e w' ⟨rfl, n, os, rfl⟩
    exact ⟨rfl, ownsRow_sortedI (by simp) hbase hb h1 h2 h3, grownBy_sortedI _⟩

set_option maxRecDepth 100000 in
theorem k_all_any (w : World) : Calls Tryz.prog 64 #[] w (AllRes w) := by
  obtain ⟨i0, hi, hz0, hz1, hz2⟩ := info_parts kindInfo
  go_enter Tryz.func64, Tryz.ntmps64
  go_wp2_with fail
  refine (kinds_any _).mono ?_
  rintro e w1 ⟨b, rfl, hm, hbb, hb1⟩
  obtain ⟨w2, hrun, hrg, hg2, hz2'⟩ := hm.range kindLaw Tryz.underlying152
  have hlt := hm.lt
  have H0 : Hid (AllRel b w1.heap.size w2.heap.size w (.slice none 0 0) w2) := Lib.hid ⟨_, _, [], hrg, World.ownsRow_nil _ _ _ _, gathered_start, hb1.grown hg2 hb1.size (fun k hk => by cases hk), hb1.size, by omega, by omega, Nat.le_refl _⟩
  have HB2 := Lib.hid (show w.heap.size ≤ w2.heap.size by have := hb1.size; omega)
  clear hm hbb hb1 hrg hg2 hz2' hlt
  go_wp2_with fail
  go_loopw [1] (fun v wr => AllRel b w1.heap.size w2.heap.size w v wr) (fun _ wr => wr.rangeLeft b w1.heap.size)
  case atStart => exact H0.out
  case round =>
    obtain ⟨left, cnt, ks, hrg, hown, hga, hbl, hr, hbB, hrB, hBs⟩ := hrel
    have HG := Lib.hid hga
    have HL := Lib.hid hbl
    have HR := Lib.hid hr
    have HbB := Lib.hid hbB
    have HrB := Lib.hid hrB
    have hsz0 := hbl.size
    have hkl := gathered_le hga
    obtain ⟨V, vc, rfl, -, -⟩ := own_form hown
    clear hga hbl hr hbB hrB H0
    go_wp2_with (with_reducible refine kind_next rfl _ rfl b w1.heap.size left cnt rfl hrg ?_ ?_)
    · intro hl0
      have hall := gathered_all HG.out hl0
      have hk5 : ks.length = 5 := by
        have e : (ks.mergeSort fun x y => decide (x ≤ y)).length = 5 := by rw [hall]; rfl
        simpa using e
      have HC := Lib.hid (sort_own wr w2.heap.size _ ks (by omega) (by intro e; rw [e] at hk5; cases hk5) hown)
      have HAll := Lib.hid hall
      have HK5 := Lib.hid hk5
      have HO := Lib.hid (fun k hk => (hown.lt k hk).1)
      clear hrg hl0 hall hk5 hown
      go_wp2_with fail
      refine HC.out.mono ?_
      rintro e w3 ⟨rfl, hown3, hg3⟩
      have HB3 : Hid (Below w.heap.size w w3) := Lib.hid (HL.out.grown hg3 hsz0 (fun k hk => Nat.le_trans HB2.out (HO.out k hk)))
      have HW : Hid (w3.ownsRow w.heap.size 35 1 (.slice V ks.length vc) 5 (zv fiveK)) := Lib.hid (by
        have h := own_base hown3 HB2.out
        have e5 := HK5.out
        rw [HAll.out] at h
        generalize ks.length = n at h e5 ⊢
        subst e5
        exact h)
      clear hown3 hg3 HC HO
      go_wp2_with fail
      go_ret
      exact ⟨_, rfl, HW.out, HB3.out⟩
    · intro k w3 cnt3 hk hlk hrg3 hlt hg3 hs3 hen
      have hl3 := HL.out.grown hg3 hsz0 (fun j hj => by cases hj; exact HR.out)
      have hown3 := hown.kept hg3 (.inr (fun e => row_ne_low hown HrB.out e.symm))
      have HM := Lib.hid hlt
      have HE := Lib.hid hrg.left_eq
      have HGm := Lib.hid (gathered_more HG.out hk hlk)
      have HS3 := Lib.hid (show w2.heap.size ≤ w3.heap.size ∧ w.heap.size ≤ w3.heap.size by omega)
      clear hg3 hlt hrg hk hlk hs3 HG hown
      go_wp2_with (at_builtin; refine wpList_append_own _ rfl _ _ 133 rfl w2.heap.size 35 i0 (.int .i64 0) 1 8 Tryz.underlying133 hi hz0 hz1 hz2 rfl (by decide) _ _ _ rfl (hown3.alloc _) ⟨w3.heap.size, 0, none⟩ 1 1 [.int .i64 k] rfl rfl (cell_one_new _ _ _) ?c2 ?c3 ?c4 ?c5 ?_)
      case c2 => intro u hu; simp at hu; subst hu; rfl
      case c3 => unfold maxLen; omega
      case c4 => omega
      case c5 => have := HS3.out.1; simp; omega
      intro v' w4 hown4 hg4 _
      have hra := (hrg3.alloc (.cells #[.int .i64 k] 35)).kept hg4 (row_ne_low hown3 HbB.out) (row_ne_low hown3 HrB.out)
      have hla := (hl3.alloc HS3.out.2 (.cells #[.int .i64 k] 35)).grown hg4 (by have := HS3.out.2; simp; omega) (fun j hj => Nat.le_trans HB2.out (hown3.lt j hj).1)
      have hsz4 := hg4.size
      have hown5 : w4.ownsRow w2.heap.size 35 1 v' (ks ++ [k]).length (zv (ks ++ [k])) := by simpa [zv] using hown4
      obtain ⟨V', vc', rfl, -, -⟩ := own_form hown5
      have hfin : w2.heap.size ≤ w4.heap.size := by have := HS3.out.1; simp at hsz4; omega
      have HX := Lib.hid hra
      have HA := Lib.hid hla
      have HO := Lib.hid hown5
      have HF := Lib.hid hfin
      clear hra hla hown4 hown5 hg4 hsz4 hfin hown3 hl3 hrg3
      go_wp2_with fail
      go_roundw
      case rel => exact ⟨_, _, ks ++ [k], HX.out, HO.out, HGm.out, HA.out, HR.out, HbB.out, HrB.out, HF.out⟩
      case measure => rw [HX.out.left_eq, HE.out]; exact HM.out
end Go.Proofs.YtiniicehfjgpgaaGreat
