/- The walk of the document's Last. -/
import Derived.Test.YtmmcfhgbjmfbaaaGreatOMath
import Derived.Test.YtmmcfhgbjmfbaaaGreatMath
import Derived.Test.YtmmcfhgbjmfbaaaGreatWRAll
import Derived.Test.YtmmcfhgbjmfbaaaGreatBRows
namespace Go.Proofs.YtmmcfhgbjmfbaaaGreat
open Go.RowKit M1 M2 M9

/-- the last field of a number, zero where it is of another Type -/
def lstF (l : List WFd) (num typ : Int) : WFd := if okF l num typ then lastF l num else fd0
def lstC (l : List WFd) (num typ : Int) : Int := if okF l num typ then 0 else 3
theorem lst_none {l : List WFd} {num typ : Int} (h : ofNum l num = []) : lstF l num typ = fd0 ∧ has l num = false ∧ lstC l num typ = 0 := by
  have := okF_no (typ := typ) h
  exact ⟨by unfold lstF; rw [if_pos this]; exact last_none h, by unfold has; simp [h], by unfold lstC; rw [if_pos this]⟩
theorem lst_yes {l : List WFd} {num typ : Int} (h : ofNum l num ≠ []) (ht : (lastF l num).typ = typ) : lstF l num typ = lastF l num ∧ has l num = true ∧ lstC l num typ = 0 := by
  have := okF_yes (typ := typ) h
  rw [decide_eq_true ht] at this
  exact ⟨by unfold lstF; rw [if_pos this], by unfold has; simp [h], by unfold lstC; rw [if_pos this]⟩
theorem lst_no {l : List WFd} {num typ : Int} (h : ofNum l num ≠ []) (ht : (lastF l num).typ ≠ typ) : lstF l num typ = fd0 ∧ has l num = true ∧ lstC l num typ = 3 := by
  have := okF_yes (typ := typ) h
  rw [decide_eq_false ht] at this
  exact ⟨by unfold lstF; rw [if_neg (by simp [this])], by unfold has; simp [h], by unfold lstC; rw [if_neg (by simp [this])]⟩
theorem lastF_at {l : List WFd} {num : Int} (h : 0 < (ofNum l num).length) : (ofNum l num)[(ofNum l num).length - 1]'(by omega) = lastF l num := by
  unfold lastF
  rw [List.getLast?_eq_getElem?, List.getElem?_eq_getElem (by omega)]
  rfl

set_option maxRecDepth 100000 in
set_option maxHeartbeats 1000000 in
theorem rlast_any (A : Option Addr) (c : Nat) (l : List WFd) (num typ : Int) (w : World) (hl : l.length ≤ 3000000) (ha : SR w w.heap.size 4 A l.length (fcs l)) :
    Calls Tryz.prog 26 #[.slice A l.length c, .int .i64 num, .int .i64 typ] w fun e w' => e = .returned (.tuple #[.agg #[.int .i64 (lstF l num typ).num, .int .i64 (lstF l num typ).typ, .int .u64 ((lstF l num typ).n : Int), .string (lstF l num typ).data], .bool (has l num), .int .i64 (lstC l num typ)]) ∧ Below w.heap.size w w' := by
  have HB0 := Lib.hid (Bx.start w #[.int .i64 0, .int .i64 0, .int .u64 0, .string ⟨#[]⟩] 69)
  have HL := Lib.hid (fun W (h : Below w.heap.size w W) => rall_any A c l num W hl ((ha.below h).more h.size))
  have hlen := ofNum_le l num
  clear ha
  go_enter Tryz.func26, Tryz.ntmps26
  go_wp2_with fail
  refine (HL.out _ HB0.out.all).mono ?_
  rintro e w1 ⟨v, rfl, hown, hb⟩
  obtain ⟨A1, c1, rfl, -, -⟩ := own_form hown
  have HS := Lib.hid (SR.of_own hown)
  have H1 := Lib.hid (HB0.out.below hb)
  clear hown hb HL HB0
  obtain ⟨c0, c1', c2, c3⟩ := H1.out.four
  have f0 := fun i => H1.out.free i
  by_cases hn : (ofNum l num).length = 0
  · have hnil := List.length_eq_zero_iff.1 hn
    have hn' : (((ofNum l num).length : Int) == 0) = true := by simp [hnil]
    have HE := Lib.hid (lst_none (typ := typ) hnil)
    obtain ⟨wE, hE, hxE⟩ := name_world (P := fun W => Bx w w.heap.size #[.int .i64 0, .int .i64 0, .int .u64 0, .string ⟨#[]⟩] 69 W) (H1.out.four_put (Nat.le_refl _) (.int .i64 0) (.int .i64 0) (.int .u64 0) (.string ⟨#[]⟩))
    have HXE := Lib.hid hxE
    clear hxE hn hnil
    go_wp2_with fail
    obtain ⟨e0, e1, e2, e3⟩ := HXE.out.four
    rw [HE.out.1, HE.out.2.1, HE.out.2.2]
    exact bodyPost_ret (v := .tuple #[.agg #[.int .i64 0, .int .i64 0, .int .u64 0, .string ⟨#[]⟩], .bool false, .int .i64 0]) (by simp [results, Tryz.results26, go_sem, e0, e1, e2, e3]) rfl ⟨rfl, HXE.out.all⟩
  · have hpos : 0 < (ofNum l num).length := by omega
    have hn' : (((ofNum l num).length : Int) == 0) = false := by rw [beq_eq_false_iff_ne]; omega
    have hne : ofNum l num ≠ [] := List.length_pos_iff.1 hpos
    obtain ⟨b1, o1, rfl, hb1, x0, x1, x2, x3⟩ := field_at HS.out (k := (ofNum l num).length - 1) (by omega)
    rw [lastF_at hpos] at x0 x1 x2 x3
    have HY := Lib.hid (lst_yes (typ := typ) hne)
    have HN := Lib.hid (lst_no (typ := typ) hne)
    have hi1 : 0 ≤ ((ofNum l num).length : Int) - 1 := by omega
    have hi2 : ((ofNum l num).length : Int) - 1 < ((ofNum l num).length : Int) := by omega
    have hi3 : (((ofNum l num).length : Int) - 1).toNat = (ofNum l num).length - 1 := by omega
    generalize lastF l num = f at *
    obtain ⟨fnum, ftyp, fn, fdata⟩ := f
    have H2 := Lib.hid (H1.out.more (.cells #[.int .i64 fnum, .int .i64 ftyp, .int .u64 (fn : Int), .string fdata] 69))
    obtain ⟨k0, k1, k2, k3⟩ := H2.out.four
    have g0 := fun i => H2.out.free i
    dsimp only at x0 x1 x2 x3 HY HN
    clear hn hpos hne hb1
    by_cases ht : ftyp = typ
    · have hq : (ftyp != typ) = false := by simpa using ht
      have HE := Lib.hid (HY.out ht)
      clear ht HY HN
      obtain ⟨wE, hE, hxE⟩ := name_world (P := fun W => Bx w w.heap.size #[.int .i64 fnum, .int .i64 ftyp, .int .u64 (fn : Int), .string fdata] 69 W) (H2.out.four_put (Nat.le_refl _) (.int .i64 fnum) (.int .i64 ftyp) (.int .u64 (fn : Int)) (.string fdata))
      have HXE := Lib.hid hxE
      clear hxE
      go_wp2_with fail
      obtain ⟨e0, e1, e2, e3⟩ := HXE.out.four
      rw [HE.out.1, HE.out.2.1, HE.out.2.2]
      exact bodyPost_ret (v := .tuple #[.agg #[.int .i64 fnum, .int .i64 ftyp, .int .u64 (fn : Int), .string fdata], .bool true, .int .i64 0]) (by simp [results, Tryz.results26, go_sem, e0, e1, e2, e3]) rfl ⟨rfl, HXE.out.all⟩
    · have hq : (ftyp != typ) = true := by simpa using ht
      have HE := Lib.hid (HN.out ht)
      clear ht HY HN
      obtain ⟨wE, hE, hxE⟩ := name_world (P := fun W => Bx w w.heap.size #[.int .i64 0, .int .i64 0, .int .u64 0, .string ⟨#[]⟩] 69 W) (H2.out.four_put (Nat.le_refl _) (.int .i64 0) (.int .i64 0) (.int .u64 0) (.string ⟨#[]⟩))
      have HXE := Lib.hid hxE
      clear hxE
      go_wp2_with fail
      obtain ⟨e0, e1, e2, e3⟩ := HXE.out.four
      rw [HE.out.1, HE.out.2.1, HE.out.2.2]
      exact bodyPost_ret (v := .tuple #[.agg #[.int .i64 0, .int .i64 0, .int .u64 0, .string ⟨#[]⟩], .bool true, .int .i64 3]) (by simp [results, Tryz.results26, go_sem, e0, e1, e2, e3]) rfl ⟨rfl, HXE.out.all⟩
end Go.Proofs.YtmmcfhgbjmfbaaaGreat
