/- The walks of layer 5: a place taken back, the program's and the document's own, by contract. -/
import Derived.Test.YtiljgokhgihodaaInts
import Derived.Test.YtiljgokhgihodaaSMathTwo
import Derived.Test.YtiljgokhgihodaaSBroad
import Derived.Test.YtiljgokhgihodaaAppend
namespace Go.Proofs.Ytiljgokhgihodaa
open Go.RowKit M5

/-- a row that is turned from the front -/
theorem patch_set {t s : List Int} {k : Nat} (hs : s.length = t.length) (hk : k < t.length) : (t.take k ++ s.drop k).set k t[k] = t.take (k + 1) ++ s.drop (k + 1) := by
  rw [List.set_append_right _ _ (by simp; omega), List.take_succ_eq_append_getElem hk, List.drop_eq_getElem_cons (by omega : k < s.length)]
  have h2 : k - (t.take k).length = 0 := by simp; omega
  rw [h2, List.set_cons_zero, List.append_assoc, List.singleton_append]
theorem patch_same {t s : List Int} {k : Nat} (hs : s.length = t.length) (hk : k < t.length) (he : t[k] = s[k]) : t.take k ++ s.drop k = t.take (k + 1) ++ s.drop (k + 1) := by
  rw [List.take_succ_eq_append_getElem hk, List.drop_eq_getElem_cons (by omega : k < s.length), he, List.append_assoc, List.singleton_append]
theorem patch_len {t s : List Int} {k : Nat} (hs : s.length = t.length) (hk : k ≤ t.length) : (t.take k ++ s.drop k).length = t.length := by simp; omega
theorem bk_get {l p : List Int} (h : l.length ≤ p.length) {k : Nat} (hk : k < l.length) (hk2 : k < (bk l p).length) : (bk l p)[k] = if l[k] = 1 then 0 else p[p.length - l.length + k] := by
  have := bk_at h hk
  rw [List.getElem?_eq_getElem hk2] at this
  injection this

set_option maxRecDepth 100000 in
theorem shBack_any (A : Option Addr) (c : Nat) (a : List Int) (B : Option Addr) (d : Nat) (p : List Int) (w : World) (hap : a.length ≤ p.length) (hp8 : p.length ≤ 20)
    (ha : SR w w.heap.size 1 A a.length (iv a)) (hp : SR w w.heap.size 1 B p.length (iv p)) :
    Calls Try.prog 16 #[.slice A a.length c, .slice B p.length d] w (IntsRes w.heap.size (bk a p) w) := by
  have hbl := bk_len hap
  have HBG := Lib.hid (fun k hk hk2 => bk_get (k := k) hap hk hk2)
  obtain ⟨i0, hi0, hz0, hz1, hz2⟩ := info_parts infoInt64
  have hap' : (a.length : Int) ≤ (p.length : Int) := by omega
  have hp8' : (p.length : Int) ≤ 20 := by omega
  go_enter Try.func16, Try.ntmps16
  go_wp2_with (at_make; refine wpList_make_full _ rfl _ _ 22 rfl w.heap.size 2 i0 _ 1 Try.underlying22 hi0 hz0 hz1 .i64 .i64 _ _ a.length rfl rfl rfl rfl (by rw [hz2]; omega) (by unfold maxLen; omega) (Nat.le_refl _) ?_)
  intro w1 hown hg
  rw [made_ints] at hown
  have hb1 := (Below.refl w.heap.size w).grown hg (Nat.le_refl _) (fun q hq => by cases hq)
  have HO := Lib.hid hown
  have HB := Lib.hid hb1
  clear hown hg hb1 hi0 hz0 hz1 hz2
  go_wp2_with fail
  go_loopw [7, 20] (fun _ kk wr => ∃ (k : Nat) (K : Int), kk = .int .i64 K ∧ K = (k : Nat) ∧ k ≤ a.length ∧ wr.ownsRow w.heap.size 2 1 (.slice (some ⟨w.heap.size, 0, none⟩) a.length a.length) a.length (iv ((bk a p).take k ++ (List.replicate a.length 0).drop k)) ∧ Below w.heap.size w wr) (fun _ kk _ => a.length - (intOf kk).toNat)
  case atStart => exact ⟨0, _, rfl, rfl, by omega, by simpa using HO.out, HB.out⟩
  case round =>
    obtain ⟨k, K, rfl, rfl, hk, hown, hbl2⟩ := hrel
    by_cases hlt : k < a.length
    · obtain ⟨b1, o1, rfl, hb1, x0⟩ := int_at (ha.below hbl2) hlt
      have hq : p.length - a.length + k < p.length := by omega
      obtain ⟨b2, o2, rfl, hb2, y0⟩ := int_at (hp.below hbl2) hq
      have hg := HBG.out k hlt (by omega)
      have hps := patch_set (t := bk a p) (s := List.replicate a.length 0) (k := k) (by simp; omega) (by omega)
      have HPM := Lib.hid (patch_same (t := bk a p) (s := List.replicate a.length 0) (k := k) (by simp; omega) (by omega))
      have hpl := patch_len (t := bk a p) (s := List.replicate a.length 0) (k := k) (by simp; omega) (by omega)
      have hcell := hown.cellAt k (by omega)
      rw [iv_at (show k < ((bk a p).take k ++ (List.replicate a.length 0).drop k).length by rw [hpl]; omega)] at hcell
      have hfz := hown.frozenAt k
      have HST := Lib.hid (fun u => hown.stored k u)
      have HOW := Lib.hid hown
      have HPS := Lib.hid hps
      have HBL := Lib.hid hbl2
      have HG := Lib.hid hg
      generalize ((bk a p).take k ++ (List.replicate a.length 0).drop k)[k]'(by rw [hpl]; omega) = old at *
      generalize a[k] = u at *
      generalize p[p.length - a.length + k] = v at *
      clear hps hown hbl2 ha hp HO HB hg hpl hq
      by_cases hu : u = 1
      · subst hu
        have HS := Lib.hid (HPM.out (by rw [HG.out, if_pos rfl]; simp))
        clear HG
        go_wp2_with fail
        go_roundw
        case rel => exact ⟨k + 1, _, rfl, by omega, by omega, by rw [← HS.out]; exact HOW.out, HBL.out⟩
        case measure => simp [intOf]; omega
      · have hu' : (u != 1) = true := by simpa using hu
        have HV : Hid ((bk a p)[k]'(by omega) = v) := Lib.hid (by rw [HG.out, if_neg hu])
        clear hu
        go_wp2_with fail
        go_roundw
        case rel =>
          refine ⟨k + 1, _, rfl, by omega, by omega, ?_, HBL.out.setCell (Nat.le_refl _) _⟩
          have h1 := (HST.out (.int .i64 v)).1
          rw [iv_set, ← HV.out, HPS.out] at h1
          rw [← HV.out]
          exact h1
        case measure => simp [intOf]; omega
    · obtain rfl : k = a.length := by omega
      rw [List.drop_of_length_le (by simp), List.append_nil, List.take_of_length_le (by omega)] at hown
      go_wp2_with fail
      go_ret
      exact ⟨_, rfl, by rw [hbl]; exact hown, hbl2⟩

theorem own_pos {w : World} {B n : Nat} {e : TypeId} {size : Nat} {v : Value} {xs : List Value} (h : w.ownsRow B e size v n xs) (hn : 0 < n) : ∃ g c, v = .slice (some ⟨g, 0, none⟩) n c ∧ B ≤ g := by
  rcases h.2 with ⟨_, rfl⟩ | ⟨g, cap, cur, rfl, hB, _⟩
  · omega
  · exact ⟨g, cap, rfl, hB⟩

theorem tail_cells {w : World} {B n lo b o : Nat} {p : List Int} (h : SR w B 1 (some ⟨b, o, none⟩) n (iv p)) : ∀ ad, some (⟨b, o + lo, none⟩ : Addr) = some ad → ∀ j u, (iv (p.drop lo))[j]? = some u → w.cell? (ad.add j) = some u := by
  intro ad hA j u hj
  injection hA with hA
  subst hA
  have h1 := h.cells _ rfl (lo + j) u (by
    have : iv (p.drop lo) = (iv p).drop lo := by simp [iv, List.map_drop]
    rw [this, List.getElem?_drop] at hj
    exact hj)
  rw [Addr.add_mid] at h1 ⊢
  rw [Nat.add_assoc]
  exact h1

set_option maxRecDepth 100000 in
theorem shRefBack_any (A : Option Addr) (c : Nat) (a : List Int) (B : Option Addr) (d : Nat) (p : List Int) (w : World) (hap : a.length ≤ p.length) (hp8 : p.length ≤ 20) (hpd : p.length ≤ d) (hd : d ≤ maxLen) (hBn : B = none → p.length = 0 ∧ d = 0)
    (ha : SR w w.heap.size 1 A a.length (iv a)) (hp : SR w w.heap.size 1 B p.length (iv p)) :
    Calls Try.prog 17 #[.slice A a.length c, .slice B p.length d] w (IntsRes w.heap.size (bk a p) w) := by
  have hbl := bk_len hap
  have HBG := Lib.hid (fun k hk hk2 => bk_get (k := k) hap hk hk2)
  obtain ⟨i0, hi0, hz0, hz1, hz2⟩ := info_parts infoInt64
  have hap' : (a.length : Int) ≤ (p.length : Int) := by omega
  have hp8' : (p.length : Int) ≤ 20 := by omega
  have hpd' : (p.length : Int) ≤ (d : Int) := by omega
  have hd' : (d : Int) ≤ 9223372036854775807 := by unfold maxLen at hd; omega
  go_enter Try.func17, Try.ntmps17
  by_cases ha0 : a.length = 0
  · obtain rfl : a = [] := List.length_eq_zero_iff.1 ha0
    clear HBG ha hbl ha0 hap
    have hend : ∀ (v' : Value) (w2 : World), w2.ownsRow w.heap.size 2 1 v' 0 (iv []) → Below w.heap.size w w2 → IntsRes w.heap.size (bk [] p) w (.returned v') w2 := fun v' w2 h1 h2 => ⟨v', rfl, h1, h2⟩
    have HEND := Lib.hid hend
    clear hend
    cases B with
    | none =>
      obtain ⟨hp0, rfl⟩ := hBn rfl
      obtain rfl : p = [] := List.length_eq_zero_iff.1 hp0
      clear hp hBn
      go_wp2_with (at_builtin; refine wpList_append_any rfl _ _ 22 rfl w.heap.size 2 i0 _ 1 8 Try.underlying22 hi0 hz0 hz1 hz2 rfl (by decide) _ 0 [] rfl (World.ownsRow_lit (size := 1) w #[] 0 (Nat.le_refl _) (by unfold maxLen; omega) rfl) _ _ _ [] rfl (by simp) (fun _ => ⟨rfl, rfl⟩) (fun ad _ j u hj => by simp at hj) (fun u hu => by cases hu) (by unfold maxLen; omega) (by omega) (by simp) ?_)
      intro v' w2 hown' hgrow
      have h1 : w2.ownsRow w.heap.size 2 1 v' 0 (iv []) := by simpa [iv] using hown'
      have hb2 := ((Below.refl w.heap.size w).alloc (Nat.le_refl _) _).grown hgrow (by simp) (fun q hq => by simp [Value.ownBlock] at hq; omega)
      have HF := Lib.hid (HEND.out _ _ h1 hb2)
      clear hown' hgrow hb2 hi0 hz0 hz1 hz2 h1 HEND
      go_wp2_with fail
      go_loop [6] (fun i => i = .int .i64 0) (fun _ => 0)
      case atStart => rfl
      case round =>
        obtain rfl := hrel
        go_wp2_with fail
        go_ret
        exact HF.out
    | some bb =>
      clear hBn
      by_cases hdp : d = p.length
      · subst hdp
        clear hp
        go_wp2_with (at_builtin; refine wpList_append_any rfl _ _ 22 rfl w.heap.size 2 i0 _ 1 8 Try.underlying22 hi0 hz0 hz1 hz2 rfl (by decide) _ 0 [] rfl (World.ownsRow_lit (size := 1) w #[] 0 (Nat.le_refl _) (by unfold maxLen; omega) rfl) _ _ _ [] rfl (by simp) (fun h => by cases h) (fun ad _ j u hj => by simp at hj) (fun u hu => by cases hu) (by unfold maxLen; omega) (by omega) (by simp) ?_)
        intro v' w2 hown' hgrow
        have h1 : w2.ownsRow w.heap.size 2 1 v' 0 (iv []) := by simpa [iv] using hown'
        have hb2 := ((Below.refl w.heap.size w).alloc (Nat.le_refl _) _).grown hgrow (by simp) (fun q hq => by simp [Value.ownBlock] at hq; omega)
        have HF := Lib.hid (HEND.out _ _ h1 hb2)
        clear hown' hgrow hb2 hi0 hz0 hz1 hz2 h1 HEND
        go_wp2_with fail
        go_loop [6] (fun i => i = .int .i64 0) (fun _ => 0)
        case atStart => rfl
        case round =>
          obtain rfl := hrel
          go_wp2_with fail
          go_ret
          exact HF.out
      · have hdp' : ¬ (d : Int) = (p.length : Int) := by omega
        clear hp
        go_wp2_with (at_builtin; refine wpList_append_any rfl _ _ 22 rfl w.heap.size 2 i0 _ 1 8 Try.underlying22 hi0 hz0 hz1 hz2 rfl (by decide) _ 0 [] rfl (World.ownsRow_lit (size := 1) w #[] 0 (Nat.le_refl _) (by unfold maxLen; omega) rfl) _ _ _ [] rfl (by simp) (fun h => by cases h) (fun ad _ j u hj => by simp at hj) (fun u hu => by cases hu) (by unfold maxLen; omega) (by omega) (by simp) ?_)
        intro v' w2 hown' hgrow
        have h1 : w2.ownsRow w.heap.size 2 1 v' 0 (iv []) := by simpa [iv] using hown'
        have hb2 := ((Below.refl w.heap.size w).alloc (Nat.le_refl _) _).grown hgrow (by simp) (fun q hq => by simp [Value.ownBlock] at hq; omega)
        have HF := Lib.hid (HEND.out _ _ h1 hb2)
        clear hown' hgrow hb2 hi0 hz0 hz1 hz2 h1 HEND
        go_wp2_with fail
        go_loop [6] (fun i => i = .int .i64 0) (fun _ => 0)
        case atStart => rfl
        case round =>
          obtain rfl := hrel
          go_wp2_with fail
          go_ret
          exact HF.out
  · obtain ⟨b1, o1, rfl, hb1, hc1⟩ := hp.2 (by omega)
    have hne : ¬ d = p.length - a.length := by omega
    have hne' : ¬ (d : Int) = (p.length : Int) - (a.length : Int) := by omega
    have hp' := hp.keep (w' := w.alloc (.cells #[] 2)) ((Below.refl _ _).alloc (Nat.le_refl _) _).block
    have HTC := Lib.hid (tail_cells (lo := p.length - a.length) hp')
    have hm : p.length - (p.length - a.length) = a.length := by omega
    have HM := Lib.hid hm
    clear hp' hm hc1
    go_wp2_with (at_builtin; refine wpList_append_any rfl _ _ 22 rfl w.heap.size 2 i0 _ 1 8 Try.underlying22 hi0 hz0 hz1 hz2 rfl (by decide) _ 0 [] rfl (World.ownsRow_lit (size := 1) w #[] 0 (Nat.le_refl _) (by unfold maxLen; omega) rfl) _ _ _ (iv (p.drop (p.length - a.length))) rfl (by simp [iv_len]) (fun h => by cases h) (fun ad hA => HTC.out ad hA) iv_oneCell (by unfold maxLen; omega) (by omega) (by simp) ?_)
    intro v' w2 hown' hgrow
    rw [HM.out] at hown'
    obtain ⟨g, cc, rfl, hgg⟩ := own_pos hown' (by omega)
    have hb2 := ((Below.refl w.heap.size w).alloc (Nat.le_refl _) _).grown hgrow (by simp) (fun q hq => by simp [Value.ownBlock] at hq; omega)
    have HO := Lib.hid hown'
    have HB := Lib.hid hb2
    clear hown' hgrow hb2 hi0 hz0 hz1 hz2
    go_wp2_with fail
    go_loopw [6] (fun i wr => ∃ (k : Nat) (K : Int), i = .int .i64 K ∧ K = (k : Nat) ∧ k ≤ a.length ∧ wr.ownsRow w.heap.size 2 1 (.slice (some ⟨g, 0, none⟩) a.length cc) a.length (iv ((bk a p).take k ++ (p.drop (p.length - a.length)).drop k)) ∧ Below w.heap.size w wr) (fun i _ => a.length - (intOf i).toNat)
    case atStart => exact ⟨0, _, rfl, rfl, by omega, by simpa using HO.out, HB.out⟩
    case round =>
      obtain ⟨k, K, rfl, rfl, hk, hown, hbl2⟩ := hrel
      by_cases hlt : k < a.length
      · obtain ⟨b3, o3, rfl, hb3, x0⟩ := int_at (ha.below hbl2) hlt
        have hg := HBG.out k hlt (by omega)
        have hdk : (p.drop (p.length - a.length))[k]'(by simp; omega) = p[p.length - a.length + k]'(by omega) := by simp
        have HDK := Lib.hid hdk
        have hps := patch_set (t := bk a p) (s := p.drop (p.length - a.length)) (k := k) (by simp; omega) (by omega)
        have HPM := Lib.hid (patch_same (t := bk a p) (s := p.drop (p.length - a.length)) (k := k) (by simp; omega) (by omega))
        have hpl := patch_len (t := bk a p) (s := p.drop (p.length - a.length)) (k := k) (by simp; omega) (by omega)
        have hcell := hown.cellAt k (by omega)
        rw [iv_at (show k < ((bk a p).take k ++ (p.drop (p.length - a.length)).drop k).length by rw [hpl]; omega)] at hcell
        have hfz := hown.frozenAt k
        have HST := Lib.hid (fun u => hown.stored k u)
        have HOW := Lib.hid hown
        have HPS := Lib.hid hps
        have HBL := Lib.hid hbl2
        have HG := Lib.hid hg
        generalize ((bk a p).take k ++ (p.drop (p.length - a.length)).drop k)[k]'(by rw [hpl]; omega) = old at *
        generalize a[k] = u at *
        clear hps hown hbl2 ha hp HO HB hg hpl hdk HTC
        by_cases hu : u = 1
        · subst hu
          have HV : Hid ((bk a p)[k]'(by omega) = 0) := Lib.hid (by rw [HG.out, if_pos rfl])
          clear HG HPM
          go_wp2_with fail
          go_roundw
          case rel =>
            refine ⟨k + 1, _, rfl, by omega, by omega, ?_, HBL.out.setCell hgg _⟩
            have h1 := (HST.out (.int .i64 0)).1
            rw [iv_set, ← HV.out, HPS.out] at h1
            rw [← HV.out]
            exact h1
          case measure => simp [intOf]; omega
        · have hu' : (u == 1) = false := by simpa using hu
          have HS := Lib.hid (HPM.out (by rw [HG.out, if_neg hu, HDK.out]))
          clear HG HPM hu
          go_wp2_with fail
          go_roundw
          case rel => exact ⟨k + 1, _, rfl, by omega, by omega, by rw [← HS.out]; exact HOW.out, HBL.out⟩
          case measure => simp [intOf]; omega
      · obtain rfl : k = a.length := by omega
        rw [List.drop_of_length_le (by simp; omega), List.append_nil, List.take_of_length_le (by omega)] at hown
        go_wp2_with fail
        go_ret
        exact ⟨_, rfl, by rw [hbl]; exact hown, hbl2⟩
end Go.Proofs.Ytiljgokhgihodaa
