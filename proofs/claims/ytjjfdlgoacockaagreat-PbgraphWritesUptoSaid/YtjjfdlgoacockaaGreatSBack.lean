import Derived.Test.YtjjfdlgoacockaaGreatOpenRow
import Derived.Test.YtjjfdlgoacockaaGreatWOpen
import Derived.Test.YtjjfdlgoacockaaGreatSSize
import Derived.Test.YtjjfdlgoacockaaGreatAppend
import Derived.Test.YtjjfdlgoacockaaGreatMath
namespace Go.Proofs.YtjjfdlgoacockaaGreat
open Go.RowKit M5

theorem patch_set {t s : List Int} {k : Nat} (hs : s.length = t.length) (hk : k < t.length) : (t.take k ++ s.drop k).set k t[k] = t.take (k + 1) ++ s.drop (k + 1) := by
  rw [List.set_append_right _ _ (by simp; omega), List.take_succ_eq_append_getElem hk, List.drop_eq_getElem_cons (by omega : k < s.length)]
  have h2 : k - (t.take k).length = 0 := by simp; omega
  rw [h2, List.set_cons_zero, List.append_assoc, List.singleton_append]
theorem patch_same {t s : List Int} {k : Nat} (hs : s.length = t.length) (hk : k < t.length) (he : t[k] = s[k]) : t.take k ++ s.drop k = t.take (k + 1) ++ s.drop (k + 1) := by
  rw [List.take_succ_eq_append_getElem hk, List.drop_eq_getElem_cons (by omega : k < s.length), he, List.append_assoc, List.singleton_append]
theorem patch_len {t s : List Int} {k : Nat} (hs : s.length = t.length) (hk : k ≤ t.length) : (t.take k ++ s.drop k).length = t.length := by simp; omega
theorem bk_get {l p : List Int} (h : l.length ≤ p.length) {k : Nat} (hk : k < l.length) (hk2 : k < (bk l p).length) : (bk l p)[k] = if l[k] = 1 then 0 else p[p.length - l.length + k] := by
  have := bk_at h hk
  rw [List.getElem?_eq_getElem hk2] at this
  injection this

set_option maxRecDepth 100000 in
theorem shBack_any (A : Option Addr) (c : Nat) (a : List Int) (B : Option Addr) (d : Nat) (p : List Int) (w : World) (hap : a.length ≤ p.length) (hp8 : p.length ≤ 20)
    (ha : SR w w.heap.size 1 A a.length (iv a)) (hp : SR w w.heap.size 1 B p.length (iv p)) :
    Calls Tryz.prog 150 #[.slice A a.length c, .slice B p.length d] w (IntsRes w.heap.size (bk a p) w) := by
  have hbl := bk_len hap
  have HBG := Lib.hid (fun k hk hk2 => bk_get (k := k) hap hk hk2)
  obtain ⟨i0, hi0, hz0, hz1, hz2⟩ := info_parts infoInt64
  have hap' : (a.length : Int) ≤ (p.length : Int) := by omega
  have hp8' : (p.length : Int) ≤ 20 := by omega
  go_enter Tryz.func150, Tryz.ntmps150
  go_wp2_with (at_make; refine wpList_make_full _ rfl _ _ 83 rfl w.heap.size 2 i0 _ 1 Tryz.underlying83 hi0 hz0 hz1 .i64 .i64 _ _ a.length rfl rfl rfl rfl (by rw [hz2]; omega) (by unfold maxLen; omega) (Nat.le_refl _) ?_)
  intro w1 hown hg
  rw [made_ints] at hown
  have hb1 := (Below.refl w.heap.size w).grown hg (Nat.le_refl _) (fun q hq => by cases hq)
  have HO := Lib.hid hown
  have HB := Lib.hid hb1
  clear hown hg hb1 hi0 hz0 hz1 hz2
  go_wp2_with fail
  go_loopw [7, 20] (fun _ kk wr => ∃ (k : Nat) (K : Int), kk = .int .i64 K ∧ K = (k : Nat) ∧ k ≤ a.length ∧ wr.ownsRow w.heap.size 2 1 (.slice (some ⟨w.heap.size, 0, none⟩) a.length a.length) a.length (iv ((bk a p).take k ++ (List.replicate a.length 0).drop k)) ∧ Below w.heap.size w wr) (fun _ kk _ => a.length - (intOf kk).toNat)
  case atStart => exact ⟨0, _, rfl, rfl, by omega, by simpa using HO.out, HB.out⟩
  case round =>
    obtain ⟨k, K, rfl, rfl, hk, hown, hbl2⟩ := hrel
    by_cases hlt : k < a.length
    · obtain ⟨b1, o1, rfl, hb1, x0⟩ := int_at (ha.below hbl2) hlt
      have hq : p.length - a.length + k < p.length := by omega
      obtain ⟨b2, o2, rfl, hb2, y0⟩ := int_at (hp.below hbl2) hq
      have hg := HBG.out k hlt (by omega)
      have hps := patch_set (t := bk a p) (s := List.replicate a.length 0) (k := k) (by simp; omega) (by omega)
      have HPM := Lib.hid (patch_same (t := bk a p) (s := List.replicate a.length 0) (k := k) (by simp; omega) (by omega))
      have hpl := patch_len (t := bk a p) (s := List.replicate a.length 0) (k := k) (by simp; omega) (by omega)
      have hcell := hown.cellAt k (by omega)
      rw [iv_at (show k < ((bk a p).take k ++ (List.replicate a.length 0).drop k).length by rw [hpl]; omega)] at hcell
      have hfz := hown.frozenAt k
      have HST := Lib.hid (fun u => hown.stored k u)
      have HOW := Lib.hid hown
      have HPS := Lib.hid hps
      have HBL := Lib.hid hbl2
      have HG := Lib.hid hg
      generalize ((bk a p).take k ++ (List.replicate a.length 0).drop k)[k]'(by rw [hpl]; omega) = old at *
      generalize a[k] = u at *
      generalize p[p.length - a.length + k] = v at *
      clear hps hown hbl2 ha hp HO HB hg hpl hq
      by_cases hu : u = 1
      · subst hu
        have HS := Lib.hid (HPM.out (by rw [HG.out, if_pos rfl]; simp))
        clear HG
        go_wp2_with fail
        go_roundw
        case rel => exact ⟨k + 1, _, rfl, by omega, by omega, by rw [← HS.out]; exact HOW.out, HBL.out⟩
        case measure => simp [intOf]; omega
      · have hu' : (u != 1) = true := by simpa using hu
        have HV : Hid ((bk a p)[k]'(by omega) = v) := Lib.hid (by rw [HG.out, if_neg hu])
        clear hu
        go_wp2_with fail
        go_roundw
        case rel =>
          refine ⟨k + 1, _, rfl, by omega, by omega, ?_, HBL.out.setCell (Nat.le_refl _) _⟩
          have h1 := (HST.out (.int .i64 v)).1
          rw [iv_set, ← HV.out, HPS.out] at h1
          rw [← HV.out]
          exact h1
        case measure => simp [intOf]; omega
    · obtain rfl : k = a.length := by omega
      rw [List.drop_of_length_le (by simp), List.append_nil, List.take_of_length_le (by omega)] at hown
      go_wp2_with fail
      go_ret
      exact ⟨_, rfl, by rw [hbl]; exact hown, hbl2⟩

end Go.Proofs.YtjjfdlgoacockaaGreat
namespace Go.Proofs.YtjjfdlgoacockaaGreat
open Go.RowKit M5

theorem ex_bc : bc [3, 1] [4] = ([3, 4], 0) := by decide +kernel
theorem ex_bk : bk [3, 1] [2, 3] = [2, 0] := by decide +kernel
theorem litA (w : World) (l : List Int) : SR (w.alloc (.cells (iv l).toArray 2)) (w.alloc (.cells (iv l).toArray 2)).heap.size 1 (some ⟨w.heap.size, 0, none⟩) l.length (iv l) :=
  (SR.lit w (iv l) 2 (size := 1) (n := l.length) (by simp [iv_len])).more (by simp)
theorem SR.alloc {w : World} {size n : Nat} {A : Option Addr} {xs : List Value} (h : SR w w.heap.size size A n xs) (o : Obj) : SR (w.alloc o) (w.alloc o).heap.size size A n xs :=
  (h.below ((Below.refl _ _).alloc (Nat.le_refl _) o)).more (by simp)
theorem small_in {l : List Int} (h : l.all (fun n => decide (-9223372036854775808 ≤ n) && decide (n ≤ 9223372036854775807)) = true) : ∀ n ∈ l, I64 n := by
  intro n hn
  have := List.all_eq_true.1 h n hn
  simp only [Bool.and_eq_true, decide_eq_true_eq] at this
  exact this

set_option maxRecDepth 100000 in
theorem shAwake_any (w : World) : Calls Tryz.prog 105 #[] w fun e w' => e = .returned (.bool true) ∧ Below w.heap.size w w' := by
  have hc := shBroad_any (some ⟨w.heap.size, 0, none⟩) 2 [3, 1] (some ⟨w.heap.size + 1, 0, none⟩) 1 [4] ((w.alloc (.cells (iv [3, 1]).toArray 2)).alloc (.cells (iv [4]).toArray 2)) (by unfold maxLen; simp) (by unfold maxLen; simp)
    ((litA w [3, 1]).alloc _) (by have := litA (w.alloc (.cells (iv [3, 1]).toArray 2)) [4]; simpa using this) (small_in (by decide)) (small_in (by decide))
  rw [ex_bc] at hc
  have HC := Lib.hid hc
  clear hc
  go_enter Tryz.func105, Tryz.ntmps105
  go_wp2_with fail
  refine HC.out.mono ?_
  rintro e w1 ⟨v1, rfl, hown1, hb1⟩
  obtain ⟨A1, c1, rfl, -, -⟩ := own_form hown1
  have hs1 := SR.of_own hown1
  have HB1 := Lib.hid (below_two hb1)
  clear hown1 hb1 HC
  have HS := Lib.hid (isInts_any A1 (some ⟨w1.heap.size, 0, none⟩) c1 2 [3, 4] [3, 4] (w1.alloc (.cells (iv [3, 4]).toArray 2)) (by unfold maxLen; simp) (hs1.alloc _) (litA w1 [3, 4]))
  clear hs1
  go_wp2_with fail
  refine HS.out.mono ?_
  rintro e w2 ⟨rfl, hb2⟩
  have HB2 := Lib.hid (step_below HB1.out (below_one hb2))
  clear hb2 HS
  have hc := shBack_any (some ⟨w2.heap.size, 0, none⟩) 2 [3, 1] (some ⟨w2.heap.size + 1, 0, none⟩) 2 [2, 3] ((w2.alloc (.cells (iv [3, 1]).toArray 2)).alloc (.cells (iv [2, 3]).toArray 2)) (by simp) (by simp)
    ((litA w2 [3, 1]).alloc _) (by have := litA (w2.alloc (.cells (iv [3, 1]).toArray 2)) [2, 3]; simpa using this)
  rw [ex_bk] at hc
  have HC := Lib.hid hc
  clear hc
  go_wp2_with fail
  refine HC.out.mono ?_
  rintro e w3 ⟨v3, rfl, hown3, hb3⟩
  obtain ⟨A3, c3, rfl, -, -⟩ := own_form hown3
  have hs3 := SR.of_own hown3
  have HB3 := Lib.hid (step_below HB2.out (below_two hb3))
  clear hown3 hb3 HC
  have HS := Lib.hid (isInts_any A3 (some ⟨w3.heap.size, 0, none⟩) c3 2 [2, 0] [2, 0] (w3.alloc (.cells (iv [2, 0]).toArray 2)) (by unfold maxLen; simp) (hs3.alloc _) (litA w3 [2, 0]))
  clear hs3
  go_wp2_with fail
  refine HS.out.mono ?_
  rintro e w4 ⟨rfl, hb4⟩
  have HB4 := Lib.hid (step_below HB3.out (below_one hb4))
  clear hb4 HS
  go_wp2_with fail
  go_ret
  exact ⟨rfl, HB4.out⟩
end Go.Proofs.YtjjfdlgoacockaaGreat
