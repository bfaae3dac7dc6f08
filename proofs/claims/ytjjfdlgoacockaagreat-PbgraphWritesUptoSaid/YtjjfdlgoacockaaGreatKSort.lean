import Derived.Test.YtjjfdlgoacockaaGreatRows
import Derived.Shelf.SortG.Plain
import Derived.Test.YtjjfdlgoacockaaGreatLift
import Derived.Test.YtjjfdlgoacockaaGreatWOpen
import Derived.Test.YtjjfdlgoacockaaGreatMath
import Derived.Sort.OwnSortedInts
namespace Go.Proofs.YtjjfdlgoacockaaGreat
open Go.Shelf
def kindSortLay_ren : Go.Shelf.Ren := ⟨fun | 53 => 181 | 64 => 188 | 63 => 187 | 78 => 204 | 79 => 205 | 70 => 195 | 71 => 196 | 72 => 197 | 73 => 198 | 74 => 199 | 75 => 200 | 59 => 201 | 76 => 202 | 77 => 203 | 88 => 210 | 89 => 211 | 90 => 212 | 91 => 213 | 92 => 214 | 68 => 215 | 96 => 219 | n => n, fun | 22 => 275 | 23 => 96 | 3 => 3 | 51 => 285 | 0 => 0 | 67 => 239 | 69 => 73 | 4 => 4 | 61 => 308 | 60 => 307 | 44 => 313 | 5 => 5 | 9 => 9 | 75 => 319 | 79 => 323 | 83 => 327 | 84 => 174 | n => n, fun | n => n⟩
theorem kindSortLay : Go.Proofs.SlLaysN.n53 Tryz.prog kindSortLay_ren := {
  mixed := by kernel_rfl
  f53 := ⟨Tryz.f181.name, by decide, Tryz.func181.trans (congrArg some (by kernel_rfl))⟩
  f59 := ⟨Tryz.f201.name, by decide, Tryz.func201.trans (congrArg some (by kernel_rfl))⟩
  f63 := ⟨Tryz.f187.name, by decide, Tryz.func187.trans (congrArg some (by kernel_rfl))⟩
  f64 := Tryz.func188.trans (congrArg some (by kernel_rfl))
  f68 := ⟨Tryz.f215.name, by decide, Tryz.func215.trans (congrArg some (by kernel_rfl))⟩
  f70 := ⟨Tryz.f195.name, by decide, Tryz.func195.trans (congrArg some (by kernel_rfl))⟩
  f71 := ⟨Tryz.f196.name, by decide, Tryz.func196.trans (congrArg some (by kernel_rfl))⟩
  f72 := ⟨Tryz.f197.name, by decide, Tryz.func197.trans (congrArg some (by kernel_rfl))⟩
  f73 := ⟨Tryz.f198.name, by decide, Tryz.func198.trans (congrArg some (by kernel_rfl))⟩
  f74 := ⟨Tryz.f199.name, by decide, Tryz.func199.trans (congrArg some (by kernel_rfl))⟩
  f75 := ⟨Tryz.f200.name, by decide, Tryz.func200.trans (congrArg some (by kernel_rfl))⟩
  f76 := ⟨Tryz.f202.name, by decide, Tryz.func202.trans (congrArg some (by kernel_rfl))⟩
  f77 := ⟨Tryz.f203.name, by decide, Tryz.func203.trans (congrArg some (by kernel_rfl))⟩
  f78 := Tryz.func204.trans (congrArg some (by kernel_rfl))
  f79 := Tryz.func205.trans (congrArg some (by kernel_rfl))
  f88 := ⟨Tryz.f210.name, by decide, Tryz.func210.trans (congrArg some (by kernel_rfl))⟩
  f89 := Tryz.func211.trans (congrArg some (by kernel_rfl))
  f90 := Tryz.func212.trans (congrArg some (by kernel_rfl))
  f91 := ⟨Tryz.f213.name, by decide, Tryz.func213.trans (congrArg some (by kernel_rfl))⟩
  f92 := ⟨Tryz.f214.name, by decide, Tryz.func214.trans (congrArg some (by kernel_rfl))⟩
  f96 := ⟨Tryz.f219.name, by decide, Tryz.func219.trans (congrArg some (by kernel_rfl))⟩
  t0 := Tryz.underlying0
  a0 := Tryz.isAgg0
  z0 := Tryz.sizeOf0
  v0 := Tryz.zeroValue0
  t3 := Tryz.underlying3
  a3 := Tryz.isAgg3
  z3 := Tryz.sizeOf3
  v3 := Tryz.zeroValue3
  t4 := Tryz.underlying4
  a4 := Tryz.isAgg4
  z4 := Tryz.sizeOf4
  v4 := Tryz.zeroValue4
  t5 := Tryz.underlying5
  a5 := Tryz.isAgg5
  z5 := Tryz.sizeOf5
  v5 := Tryz.zeroValue5
  t9 := Tryz.underlying9
  a9 := Tryz.isAgg9
  z9 := Tryz.sizeOf9
  v9 := Tryz.zeroValue9
  t22 := Tryz.underlying275
  a22 := Tryz.isAgg275
  z22 := Tryz.sizeOf275
  v22 := Tryz.zeroValue275
  t23 := Tryz.underlying96
  a23 := Tryz.isAgg96
  z23 := Tryz.sizeOf96
  v23 := Tryz.zeroValue96
  t44 := Tryz.underlying313
  a44 := Tryz.isAgg313
  z44 := Tryz.sizeOf313
  v44 := Tryz.zeroValue313
  t51 := Tryz.underlying285
  a51 := Tryz.isAgg285
  z51 := Tryz.sizeOf285
  v51 := Tryz.zeroValue285
  t60 := Tryz.underlying307
  a60 := Tryz.isAgg307
  z60 := Tryz.sizeOf307
  v60 := Tryz.zeroValue307
  t61 := Tryz.underlying308
  a61 := Tryz.isAgg308
  z61 := Tryz.sizeOf308
  v61 := Tryz.zeroValue308
  t67 := Tryz.underlying239
  a67 := Tryz.isAgg239
  z67 := Tryz.sizeOf239
  v67 := Tryz.zeroValue239
  t69 := Tryz.underlying73
  a69 := Tryz.isAgg73
  z69 := Tryz.sizeOf73
  v69 := Tryz.zeroValue73
  t75 := Tryz.underlying319
  a75 := Tryz.isAgg319
  z75 := Tryz.sizeOf319
  v75 := Tryz.zeroValue319
  t79 := Tryz.underlying323
  a79 := Tryz.isAgg323
  z79 := Tryz.sizeOf323
  v79 := Tryz.zeroValue323
  t83 := Tryz.underlying327
  a83 := Tryz.isAgg327
  z83 := Tryz.sizeOf327
  v83 := Tryz.zeroValue327
  t84 := Tryz.underlying174
  a84 := Tryz.isAgg174
  z84 := Tryz.sizeOf174
  v84 := Tryz.zeroValue174 }
end Go.Proofs.YtjjfdlgoacockaaGreat
namespace Go.Proofs.YtjjfdlgoacockaaGreat
open Go.RowKit Go.Maps Go.ChangeMaps

theorem kindInfo : (Tryz.prog.info? 96).map (fun i => (i.zero, i.size, i.bytes)) = some (some (.int .i64 0), 1, 8) := by kernel_rfl
def zv (l : List Int) : List Value := l.map (Value.int .i64)
def AllRel (b r B : Nat) (w : World) (v : Value) (wr : World) : Prop :=
  ∃ left cnt ks, KR b r left cnt wr ∧ wr.ownsRow B 96 1 v ks.length (zv ks) ∧ Gathered left ks ∧ Below w.heap.size w wr ∧ w.heap.size ≤ r ∧ b < B ∧ r < B ∧ B ≤ wr.heap.size
def AllRes (w : World) (e : Ending) (w' : World) : Prop :=
  ∃ v, e = .returned v ∧ w'.ownsRow w.heap.size 96 1 v 5 (zv fiveK) ∧ Below w.heap.size w w'

theorem sort_own (w : World) (B : Nat) (v : Value) (ks : List Int) (hk : ks.length ≤ 5) (hk0 : ks ≠ []) (h : w.ownsRow B 96 1 v ks.length (zv ks)) :
    Calls Tryz.prog 181 #[v] w fun e w' => e = .returned (.tuple #[]) ∧ w'.ownsRow B 96 1 v ks.length (zv (ks.mergeSort fun x y => decide (x ≤ y))) ∧ w.grownBy w' v.ownBlock := by
  rcases h.2 with ⟨hnil, h0⟩ | ⟨g, cap, cur, rfl, hbase, hb, h1, h2, h3, h4⟩
  · simp at h0
    exact absurd (by simpa using h0) hk0
  · have hH : Sort.Holds (Value.int .i64) w g 0 ks.toArray := holds_of_blockI hb (by simpa [zv] using h4)
    have hc : Calls Tryz.prog 181 _ _ _ := AnyG.slices_Sort_int kindSortLay g 0 cap ks w hH (Array.getElem?_eq_some_iff.1 hb).1 (by omega)
    refine hc.mono ?_
    rintro e w' ⟨rfl, n, os, rfl⟩
    exact ⟨rfl, ownsRow_sortedI (by simp) hbase hb h1 h2 h3, grownBy_sortedI _⟩

set_option maxRecDepth 100000 in
theorem k_all_any (w : World) : Calls Tryz.prog 168 #[] w (AllRes w) := by
  obtain ⟨i0, hi, hz0, hz1, hz2⟩ := info_parts kindInfo
  go_enter Tryz.func168, Tryz.ntmps168
  go_wp2_with fail
  refine (kinds_any _).mono ?_
  rintro e w1 ⟨b, rfl, hm, hbb, hb1⟩
  obtain ⟨w2, hrun, hrg, hg2, hz2'⟩ := hm.range kindLaw Tryz.underlying282
  have hlt := hm.lt
  have H0 : Hid (AllRel b w1.heap.size w2.heap.size w (.slice none 0 0) w2) := Lib.hid ⟨_, _, [], hrg, World.ownsRow_nil _ _ _ _, gathered_start, hb1.grown hg2 hb1.size (fun k hk => by cases hk), hb1.size, by omega, by omega, Nat.le_refl _⟩
  have HB2 := Lib.hid (show w.heap.size ≤ w2.heap.size by have := hb1.size; omega)
  clear hm hbb hb1 hrg hg2 hz2' hlt
  go_wp2_with fail
  go_loopw [1] (fun v wr => AllRel b w1.heap.size w2.heap.size w v wr) (fun _ wr => wr.rangeLeft b w1.heap.size)
  case atStart => exact H0.out
  case round =>
    obtain ⟨left, cnt, ks, hrg, hown, hga, hbl, hr, hbB, hrB, hBs⟩ := hrel
    have HG := Lib.hid hga
    have HL := Lib.hid hbl
    have HR := Lib.hid hr
    have HbB := Lib.hid hbB
    have HrB := Lib.hid hrB
    have hsz0 := hbl.size
    have hkl := gathered_le hga
    obtain ⟨V, vc, rfl, -, -⟩ := own_form hown
    clear hga hbl hr hbB hrB H0
    go_wp2_with (with_reducible refine kind_next rfl _ rfl b w1.heap.size left cnt rfl hrg ?_ ?_)
    · intro hl0
      have hall := gathered_all HG.out hl0
      have hk5 : ks.length = 5 := by
        have e : (ks.mergeSort fun x y => decide (x ≤ y)).length = 5 := by rw [hall]; rfl
        simpa using e
      have HC := Lib.hid (sort_own wr w2.heap.size _ ks (by omega) (by intro e; rw [e] at hk5; cases hk5) hown)
      have HAll := Lib.hid hall
      have HK5 := Lib.hid hk5
      have HO := Lib.hid (fun k hk => (hown.lt k hk).1)
      clear hrg hl0 hall hk5 hown
      go_wp2_with fail
      refine HC.out.mono ?_
      rintro e w3 ⟨rfl, hown3, hg3⟩
      have HB3 : Hid (Below w.heap.size w w3) := Lib.hid (HL.out.grown hg3 hsz0 (fun k hk => Nat.le_trans HB2.out (HO.out k hk)))
      have HW : Hid (w3.ownsRow w.heap.size 96 1 (.slice V ks.length vc) 5 (zv fiveK)) := Lib.hid (by
        have h := own_base hown3 HB2.out
        have e5 := HK5.out
        rw [HAll.out] at h
        generalize ks.length = n at h e5 ⊢
        subst e5
        exact h)
      clear hown3 hg3 HC HO
      go_wp2_with fail
      go_ret
      exact ⟨_, rfl, HW.out, HB3.out⟩
    · intro k w3 cnt3 hk hlk hrg3 hlt hg3 hs3 hen
      have hl3 := HL.out.grown hg3 hsz0 (fun j hj => by cases hj; exact HR.out)
      have hown3 := hown.kept hg3 (.inr (fun e => row_ne_low hown HrB.out e.symm))
      have HM := Lib.hid hlt
      have HE := Lib.hid hrg.left_eq
      have HGm := Lib.hid (gathered_more HG.out hk hlk)
      have HS3 := Lib.hid (show w2.heap.size ≤ w3.heap.size ∧ w.heap.size ≤ w3.heap.size by omega)
      clear hg3 hlt hrg hk hlk hs3 HG hown
      go_wp2_with (at_builtin; refine wpList_append_own _ rfl _ _ 275 rfl w2.heap.size 96 i0 (.int .i64 0) 1 8 Tryz.underlying275 hi hz0 hz1 hz2 rfl (by decide) _ _ _ rfl (hown3.alloc _) ⟨w3.heap.size, 0, none⟩ 1 1 [.int .i64 k] rfl rfl (cell_one_new _ _ _) ?c2 ?c3 ?c4 ?c5 ?_)
      case c2 => intro u hu; simp at hu; subst hu; rfl
      case c3 => unfold maxLen; omega
      case c4 => omega
      case c5 => have := HS3.out.1; simp; omega
      intro v' w4 hown4 hg4 _
      have hra := (hrg3.alloc (.cells #[.int .i64 k] 96)).kept hg4 (row_ne_low hown3 HbB.out) (row_ne_low hown3 HrB.out)
      have hla := (hl3.alloc HS3.out.2 (.cells #[.int .i64 k] 96)).grown hg4 (by have := HS3.out.2; simp; omega) (fun j hj => Nat.le_trans HB2.out (hown3.lt j hj).1)
      have hsz4 := hg4.size
      have hown5 : w4.ownsRow w2.heap.size 96 1 v' (ks ++ [k]).length (zv (ks ++ [k])) := by simpa [zv] using hown4
      obtain ⟨V', vc', rfl, -, -⟩ := own_form hown5
      have hfin : w2.heap.size ≤ w4.heap.size := by have := HS3.out.1; simp at hsz4; omega
      have HX := Lib.hid hra
      have HA := Lib.hid hla
      have HO := Lib.hid hown5
      have HF := Lib.hid hfin
      clear hra hla hown4 hown5 hg4 hsz4 hfin hown3 hl3 hrg3
      go_wp2_with fail
      go_roundw
      case rel => exact ⟨_, _, ks ++ [k], HX.out, HO.out, HGm.out, HA.out, HR.out, HbB.out, HrB.out, HF.out⟩
      case measure => rw [HX.out.left_eq, HE.out]; exact HM.out
end Go.Proofs.YtjjfdlgoacockaaGreat
