/- The walk of layer 5: to what two shapes broadcast, by contract. -/
import Derived.Test.YtngjpgdgipmieaaSSize
import Derived.Test.YtngjpgdgipmieaaSDim
import Derived.OwnWalk
namespace Go.Proofs.Ytngjpgdgipmieaa
open Go.RowKit M5

theorem made_ints (n : Nat) : (madeCells #[Value.int .i64 0] n).toList = iv (List.replicate n 0) := by
  have h : madeCells #[Value.int .i64 0] n = (Array.range n).map (fun _ => Value.int .i64 0) := by
    unfold madeCells
    congr 1
    funext i
    show (#[Value.int .i64 0] : Array Value)[i % 1]! = _
    rw [Nat.mod_one]; rfl
  rw [h]
  apply List.ext_getElem
  · simp [iv]
  · intro i h1 h2; simp [iv]
theorem iv_set (l : List Int) (k : Nat) (x : Int) : (iv l).set k (.int .i64 x) = iv (l.set k x) := by simp [iv, List.map_set]
theorem iv_at {l : List Int} {k : Nat} (h : k < l.length) : (iv l)[k]? = some (.int .i64 l[k]) := by simp [iv, h]
/-- a row filled from the front -/
theorem fill_front {t : List Int} {k : Nat} (hk : k < t.length) : (t.take k ++ List.replicate (t.length - k) 0).set k t[k] = t.take (k + 1) ++ List.replicate (t.length - (k + 1)) 0 := by
  have h1 : t.length - k = (t.length - (k + 1)) + 1 := by omega
  rw [h1, List.replicate_succ, List.set_append_right _ _ (by simp; omega), List.take_succ_eq_append_getElem hk]
  have h2 : k - (t.take k).length = 0 := by simp; omega
  rw [h2, List.set_cons_zero]
  rw [List.append_assoc, List.singleton_append]
theorem th_in {a b : List Int} (ha : Shp a) (hb : Shp b) : ∀ n ∈ th a b, I64 n := by
  intro n hn
  have h1 : ∀ {l : List Int}, Shp l → ∀ i, 0 ≤ e l i ∧ e l i ≤ 65536 := fun {l} h i => by
    by_cases hi : i < l.length
    · rw [e_lt hi]; exact ⟨h.lo _ (List.getElem_mem _), h.hi _ (List.getElem_mem _)⟩
    · rw [e_ge (by omega)]; omega
  simp only [th, List.mem_reverse, List.mem_map] at hn
  obtain ⟨i, _, rfl⟩ := hn
  have ha1 := h1 ha i
  have hb1 := h1 hb i
  unfold bo I64
  split <;> omega
theorem fit_of {a b : List Int} (h : ∀ i, i < max a.length b.length → okd (e a (max a.length b.length - 1 - i)) (e b (max a.length b.length - 1 - i))) : fit a b := by
  intro i hi
  have := h (max a.length b.length - 1 - i) (by omega)
  rwa [show max a.length b.length - 1 - (max a.length b.length - 1 - i) = i by omega] at this
theorem th_at {a b : List Int} {k : Nat} (hk : k < (th a b).length) : (th a b)[k] = bo (e a (max a.length b.length - 1 - k)) (e b (max a.length b.length - 1 - k)) := by
  have hl := th_len a b
  rw [← th_e, e_lt (by omega)]
  congr 1
  omega

set_option maxRecDepth 100000 in
theorem shBroad_any (A : Option Addr) (c : Nat) (a : List Int) (B : Option Addr) (d : Nat) (b : List Int) (w : World) (hla : a.length ≤ maxLen) (hlb : b.length ≤ maxLen)
    (ha : SR w w.heap.size 1 A a.length (iv a)) (hb : SR w w.heap.size 1 B b.length (iv b)) (hia : ∀ n ∈ a, I64 n) (hib : ∀ n ∈ b, I64 n) :
    Calls Try.prog 55 #[.slice A a.length c, .slice B b.length d] w (RowRes w.heap.size (bc a b) w) := by
  have HSA := Lib.hid (shSize_any A c a w hla ha hia)
  have HSB := Lib.hid (shSize_any B d b w hlb hb hib)
  clear hia hib
  rcases sz_cases a with ⟨ca, hsa, hca, -⟩ | ⟨hsa, hA⟩
  · rw [hsa] at HSA
    have HE := Lib.hid (bc_a (b := b) hsa (by omega))
    have hca' : ((ca : Int) != 0) = true := by simp; omega
    clear ha hb hsa hca HSB
    go_enter Try.func55, Try.ntmps55
    go_wp2_with fail
    refine HSA.out.mono ?_
    rintro e w1 ⟨rfl, rfl⟩
    go_wp2_with fail
    go_ret2
    rw [HE.out]
    exact ⟨_, rfl, World.ownsRow_nil _ _ _ _, Below.refl _ _⟩
  rcases sz_cases b with ⟨cb, hsb, hcb, -⟩ | ⟨hsb, hB⟩
  · rw [hsa] at HSA
    rw [hsb] at HSB
    have HE := Lib.hid (bc_b hsa hsb (by omega))
    have hcb' : ((cb : Int) != 0) = true := by simp; omega
    clear ha hb hsa hsb hcb hA
    go_enter Try.func55, Try.ntmps55
    go_wp2_with fail
    refine HSA.out.mono ?_
    rintro e w1 ⟨rfl, rfl⟩
    go_wp2_with fail
    refine HSB.out.mono ?_
    rintro e w1 ⟨rfl, rfl⟩
    go_wp2_with fail
    go_ret2
    rw [HE.out]
    exact ⟨_, rfl, World.ownsRow_nil _ _ _ _, Below.refl _ _⟩
  · rw [hsa] at HSA
    rw [hsb] at HSB
    have hT := bc_t hsa hsb
    have hN := bc_no hsa hsb
    have HT := Lib.hid hT
    have HN := Lib.hid hN
    have hAl := hA.len
    have hBl := hB.len
    have htl := th_len a b
    have htd := fun k h => th_at (a := a) (b := b) (k := k) h
    have HTD := Lib.hid htd
    clear hT hN hsa hsb hla hlb htd
    generalize hR : max a.length b.length = R at *
    obtain ⟨i0, hi0, hz0, hz1, hz2⟩ := info_parts infoInt64
    have hRa : (a.length : Int) ≤ (R : Int) := by omega
    have hRb : (b.length : Int) ≤ (R : Int) := by omega
    have hR8 : (R : Int) ≤ 8 := by omega
    go_enter Try.func55, Try.ntmps55
    go_wp2_with fail
    refine HSA.out.mono ?_
    rintro e w1 ⟨rfl, rfl⟩
    go_wp2_with fail
    refine HSB.out.mono ?_
    rintro e w1 ⟨rfl, rfl⟩
    go_wp2_with (at_make; refine wpList_make_full _ rfl _ _ 23 rfl w.heap.size 2 i0 _ 1 Try.underlying23 hi0 hz0 hz1 .i64 .i64 _ _ R rfl rfl (by omega) (by omega) (by rw [hz2]; omega) (by unfold maxLen; omega) (Nat.le_refl _) ?_)
    all_goals
      intro w1 hown hg
      rw [made_ints] at hown
      have hb1 := (Below.refl w.heap.size w).grown hg (Nat.le_refl _) (fun q hq => by cases hq)
      have HO := Lib.hid hown
      have HB := Lib.hid hb1
      clear hown hg hb1 hi0 hz0 hz1 hz2
      go_wp2_with fail
      go_loopw [11, 12, 13, 40] (fun _ _ _ kk wr => ∃ (k : Nat) (K : Int), kk = .int .i64 K ∧ K = (k : Nat) ∧ k ≤ R ∧ wr.ownsRow w.heap.size 2 1 (.slice (some ⟨w.heap.size, 0, none⟩) R R) R (iv ((th a b).take k ++ List.replicate (R - k) 0)) ∧ Below w.heap.size w wr ∧ ∀ i, i < k → okd (e a (R - 1 - i)) (e b (R - 1 - i))) (fun _ _ _ kk _ => R - (intOf kk).toNat)
      case atStart => exact ⟨0, _, rfl, rfl, by omega, by simpa using HO.out, HB.out, fun i hi => absurd hi (by omega)⟩
      case round =>
        obtain ⟨k, K, rfl, rfl, hk, hown, hbl, hok⟩ := hrel
        by_cases hlt : k < R
        · have HDA := Lib.hid (dim_any A c a k R wr (by omega) (by omega) hlt (ha.below hbl))
          have HDB := Lib.hid (dim_any B d b k R wr (by omega) (by omega) hlt (hb.below hbl))
          have HBO := Lib.hid (both_any (e a (R - 1 - k)) (e b (R - 1 - k)) wr)
          have htk := HTD.out k (by omega)
          have hff := fill_front (t := th a b) (k := k) (by omega)
          rw [htk, htl] at hff
          have HNF := Lib.hid (fun (h : ¬ okd (e a (R - 1 - k)) (e b (R - 1 - k))) => HN.out fun hf => h (fit_all hf _))
          have HOK := Lib.hid (fun (h : okd (e a (R - 1 - k)) (e b (R - 1 - k))) => (fun i hi => by
            by_cases he : i = k
            · subst he; exact h
            · exact hok i (by omega) : ∀ i, i < k + 1 → okd (e a (R - 1 - i)) (e b (R - 1 - i))))
          have hcell := hown.cellAt k (by omega)
          rw [iv_at (show k < ((th a b).take k ++ List.replicate (R - k) 0).length by simp; omega)] at hcell
          have hfz := hown.frozenAt k
          have HST := Lib.hid (fun u => hown.stored k u)
          have HFF := Lib.hid hff
          have HBL := Lib.hid hbl
          generalize ((th a b).take k ++ List.replicate (R - k) 0)[k]'(by simp; omega) = old at *
          generalize e a (R - 1 - k) = x at *
          generalize e b (R - 1 - k) = y at *
          clear htk hff hok hown hbl ha hb HO HB
          by_cases hxy : okd x y
          · have HV : Hid (boV x y = bo x y ∧ boB x y = true) := Lib.hid ⟨if_pos hxy, decide_eq_true hxy⟩
            have HK := Lib.hid (HOK.out hxy)
            clear hxy
            go_wp2_with fail
            refine HDA.out.mono ?_
            rintro en w2 ⟨rfl, rfl⟩
            go_wp2_with fail
            refine HDB.out.mono ?_
            rintro en w2 ⟨rfl, rfl⟩
            go_wp2_with fail
            refine HBO.out.mono ?_
            rintro en w2 ⟨rfl, rfl⟩
            rw [HV.out.1, HV.out.2]
            go_wp2_with fail
            go_roundw
            case rel =>
              refine ⟨k + 1, _, rfl, by omega, by omega, ?_, HBL.out.setCell (Nat.le_refl _) _, HK.out⟩
              have h1 := (HST.out (.int .i64 (bo x y))).1
              rw [iv_set, HFF.out] at h1
              exact h1
            case measure => simp [intOf]; omega
          · have HV : Hid (boB x y = false) := Lib.hid (decide_eq_false hxy)
            have HE := Lib.hid (HNF.out hxy)
            clear hxy
            go_wp2_with fail
            refine HDA.out.mono ?_
            rintro en w2 ⟨rfl, rfl⟩
            go_wp2_with fail
            refine HDB.out.mono ?_
            rintro en w2 ⟨rfl, rfl⟩
            go_wp2_with fail
            refine HBO.out.mono ?_
            rintro en w2 ⟨rfl, rfl⟩
            rw [HV.out]
            go_wp2_with fail
            go_ret2
            rw [HE.out]
            exact ⟨_, rfl, World.ownsRow_nil _ _ _ _, HBL.out⟩
        · obtain rfl : k = R := by omega
          rw [Nat.sub_self, List.replicate_zero, List.append_nil, List.take_of_length_le (by omega)] at hown
          have hf : fit a b := fit_of (by rw [hR]; exact hok)
          have hT := HT.out hf
          have hS := shSize_any (some ⟨w.heap.size, 0, none⟩) k (th a b) wr (by unfold maxLen; omega) (by rw [htl]; exact SR.of_own hown) (th_in hA hB)
          rw [htl] at hS
          have HS := Lib.hid hS
          have HBL := Lib.hid hbl
          have HOW := Lib.hid hown
          clear hS hbl hown ha hb HO HB hok hf
          rcases sz_cases (th a b) with ⟨ct, hst, hct, -⟩ | ⟨hst, hsh⟩
          · rw [hst] at HS hT
            have HE := Lib.hid hT
            rw [if_pos (by omega)] at HE
            have hct' : ((ct : Int) != 0) = true := by simp; omega
            clear hst hct hT
            go_wp2_with fail
            refine HS.out.mono ?_
            rintro en w2 ⟨rfl, rfl⟩
            go_wp2_with fail
            go_ret2
            rw [HE.out]
            exact ⟨_, rfl, World.ownsRow_nil _ _ _ _, HBL.out⟩
          · rw [hst] at HS hT
            rw [if_neg (by simp)] at hT
            have HE := Lib.hid hT
            clear hst hT
            go_wp2_with fail
            refine HS.out.mono ?_
            rintro en w2 ⟨rfl, rfl⟩
            go_wp2_with fail
            go_ret2
            rw [HE.out]
            exact ⟨_, rfl, by rw [htl]; exact HOW.out, HBL.out⟩
end Go.Proofs.Ytngjpgdgipmieaa
