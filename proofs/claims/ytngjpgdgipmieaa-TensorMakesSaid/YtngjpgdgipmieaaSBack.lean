/- The walks of layer 5: a place taken back, the program's and the document's own, by contract. -/
import Derived.Test.YtngjpgdgipmieaaInts
import Derived.Test.YtngjpgdgipmieaaSMath
import Derived.Test.YtngjpgdgipmieaaSBroad
import Derived.Test.YtngjpgdgipmieaaAppend
namespace Go.Proofs.Ytngjpgdgipmieaa
open Go.RowKit M5

/-- a row that is turned from the front -/
theorem patch_set {t s : List Int} {k : Nat} (hs : s.length = t.length) (hk : k < t.length) : (t.take k ++ s.drop k).set k t[k] = t.take (k + 1) ++ s.drop (k + 1) := by
  rw [List.set_append_right _ _ (by simp; omega), List.take_succ_eq_append_getElem hk, List.drop_eq_getElem_cons (by omega : k < s.length)]
  have h2 : k - (t.take k).length = 0 := by simp; omega
  rw [h2, List.set_cons_zero, List.append_assoc, List.singleton_append]
theorem patch_same {t s : List Int} {k : Nat} (hs : s.length = t.length) (hk : k < t.length) (he : t[k] = s[k]) : t.take k ++ s.drop k = t.take (k + 1) ++ s.drop (k + 1) := by
  rw [List.take_succ_eq_append_getElem hk, List.drop_eq_getElem_cons (by omega : k < s.length), he, List.append_assoc, List.singleton_append]
theorem patch_len {t s : List Int} {k : Nat} (hs : s.length = t.length) (hk : k ≤ t.length) : (t.take k ++ s.drop k).length = t.length := by simp; omega
theorem bk_get {l p : List Int} (h : l.length ≤ p.length) {k : Nat} (hk : k < l.length) (hk2 : k < (bk l p).length) : (bk l p)[k] = if l[k] = 1 then 0 else p[p.length - l.length + k] := by
  have := bk_at h hk
  rw [List.getElem?_eq_getElem hk2] at this
  injection this

set_option maxRecDepth 100000 in
theorem shBack_any (A : Option Addr) (c : Nat) (a : List Int) (B : Option Addr) (d : Nat) (p : List Int) (w : World) (hap : a.length ≤ p.length) (hp8 : p.length ≤ 20)
    (ha : SR w w.heap.size 1 A a.length (iv a)) (hp : SR w w.heap.size 1 B p.length (iv p)) :
    Calls Try.prog 56 #[.slice A a.length c, .slice B p.length d] w (IntsRes w.heap.size (bk a p) w) := by
  have hbl := bk_len hap
  have HBG := Lib.hid (fun k hk hk2 => bk_get (k := k) hap hk hk2)
  obtain ⟨i0, hi0, hz0, hz1, hz2⟩ := info_parts infoInt64
  have hap' : (a.length : Int) ≤ (p.length : Int) := by omega
  have hp8' : (p.length : Int) ≤ 20 := by omega
  go_enter Try.func56, Try.ntmps56
  go_wp2_with (at_make; refine wpList_make_full _ rfl _ _ 23 rfl w.heap.size 2 i0 _ 1 Try.underlying23 hi0 hz0 hz1 .i64 .i64 _ _ a.length rfl rfl rfl rfl (by rw [hz2]; omega) (by unfold maxLen; omega) (Nat.le_refl _) ?_)
  intro w1 hown hg
  rw [made_ints] at hown
  have hb1 := (Below.refl w.heap.size w).grown hg (Nat.le_refl _) (fun q hq => by cases hq)
  have HO := Lib.hid hown
  have HB := Lib.hid hb1
  clear hown hg hb1 hi0 hz0 hz1 hz2
  go_wp2_with fail
  go_loopw [7, 20] (fun _ kk wr => ∃ (k : Nat) (K : Int), kk = .int .i64 K ∧ K = (k : Nat) ∧ k ≤ a.length ∧ wr.ownsRow w.heap.size 2 1 (.slice (some ⟨w.heap.size, 0, none⟩) a.length a.length) a.length (iv ((bk a p).take k ++ (List.replicate a.length 0).drop k)) ∧ Below w.heap.size w wr) (fun _ kk _ => a.length - (intOf kk).toNat)
  case atStart => exact ⟨0, _, rfl, rfl, by omega, by simpa using HO.out, HB.out⟩
  case round =>
    obtain ⟨k, K, rfl, rfl, hk, hown, hbl2⟩ := hrel
    by_cases hlt : k < a.length
    · obtain ⟨b1, o1, rfl, hb1, x0⟩ := int_at (ha.below hbl2) hlt
      have hq : p.length - a.length + k < p.length := by omega
      obtain ⟨b2, o2, rfl, hb2, y0⟩ := int_at (hp.below hbl2) hq
      have hg := HBG.out k hlt (by omega)
      have hps := patch_set (t := bk a p) (s := List.replicate a.length 0) (k := k) (by simp; omega) (by omega)
      have HPM := Lib.hid (patch_same (t := bk a p) (s := List.replicate a.length 0) (k := k) (by simp; omega) (by omega))
      have hpl := patch_len (t := bk a p) (s := List.replicate a.length 0) (k := k) (by simp; omega) (by omega)
      have hcell := hown.cellAt k (by omega)
      rw [iv_at (show k < ((bk a p).take k ++ (List.replicate a.length 0).drop k).length by rw [hpl]; omega)] at hcell
      have hfz := hown.frozenAt k
      have HST := Lib.hid (fun u => hown.stored k u)
      have HOW := Lib.hid hown
      have HPS := Lib.hid hps
      have HBL := Lib.hid hbl2
      have HG := Lib.hid hg
      generalize ((bk a p).take k ++ (List.replicate a.length 0).drop k)[k]'(by rw [hpl]; omega) = old at *
      generalize a[k] = u at *
      generalize p[p.length - a.length + k] = v at *
      clear hps hown hbl2 ha hp HO HB hg hpl hq
      by_cases hu : u = 1
      · subst hu
        have HS := Lib.hid (HPM.out (by rw [HG.out, if_pos rfl]; simp))
        clear HG
        go_wp2_with fail
        go_roundw
        case rel => exact ⟨k + 1, _, rfl, by omega, by omega, by rw [← HS.out]; exact HOW.out, HBL.out⟩
        case measure => simp [intOf]; omega
      · have hu' : (u != 1) = true := by simpa using hu
        have HV : Hid ((bk a p)[k]'(by omega) = v) := Lib.hid (by rw [HG.out, if_neg hu])
        clear hu
        go_wp2_with fail
        go_roundw
        case rel =>
          refine ⟨k + 1, _, rfl, by omega, by omega, ?_, HBL.out.setCell (Nat.le_refl _) _⟩
          have h1 := (HST.out (.int .i64 v)).1
          rw [iv_set, ← HV.out, HPS.out] at h1
          rw [← HV.out]
          exact h1
        case measure => simp [intOf]; omega
    · obtain rfl : k = a.length := by omega
      rw [List.drop_of_length_le (by simp), List.append_nil, List.take_of_length_le (by omega)] at hown
      go_wp2_with fail
      go_ret
      exact ⟨_, rfl, by rw [hbl]; exact hown, hbl2⟩

end Go.Proofs.Ytngjpgdgipmieaa
