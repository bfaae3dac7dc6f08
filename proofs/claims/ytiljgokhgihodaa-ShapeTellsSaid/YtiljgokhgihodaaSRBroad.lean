/- The walk of layer 5: the document's own answer to what two shapes broadcast, by contract. -/
import Derived.Test.YtiljgokhgihodaaSBroad
import Derived.Test.YtiljgokhgihodaaAppend
namespace Go.Proofs.Ytiljgokhgihodaa
open Go.RowKit M5

theorem fill_back {t : List Int} {k : Nat} (hk : k < t.length) : t.drop (t.length - (k + 1)) = t[t.length - (k + 1)] :: t.drop (t.length - k) := by
  rw [List.drop_eq_getElem_cons (by omega : t.length - (k + 1) < t.length)]
  congr 2
  omega
theorem th_back {a b : List Int} {k R : Nat} (hR : max a.length b.length = R) (hk : k < R) : (th a b).drop (R - (k + 1)) = bo (e a k) (e b k) :: (th a b).drop (R - k) := by
  have hl := th_len a b
  rw [hR] at hl
  have := fill_back (t := th a b) (k := k) (by omega)
  rw [th_at] at this
  simp only [hl, hR] at this
  rwa [show R - 1 - (R - (k + 1)) = k by omega] at this
theorem okd_ways {x y : Int} (h : okd x y) : ((x != y) = false ∧ (x == 1) = true ∧ bo x y = y) ∨ ((x != y) = true ∧ (x != 1) = false ∧ (x == 1) = true ∧ bo x y = y) ∨
    ((x != y) = false ∧ (x == 1) = false ∧ bo x y = x) ∨ ((x != y) = true ∧ (x != 1) = true ∧ (y != 1) = false ∧ (x == 1) = false ∧ bo x y = x) := by
  simp only [bne_iff_ne, beq_iff_eq, bne_eq_false_iff_eq, beq_eq_false_iff_ne]
  unfold okd at h
  unfold bo
  split <;> omega
theorem okd_no {x y : Int} (h : ¬ okd x y) : (x != y) = true ∧ (x != 1) = true ∧ (y != 1) = true := by
  simp only [bne_iff_ne]
  unfold okd at h
  omega

set_option maxRecDepth 100000 in
theorem shRefBroad_any (A : Option Addr) (c : Nat) (a : List Int) (B : Option Addr) (d : Nat) (b : List Int) (w : World) (hla : a.length ≤ maxLen) (hlb : b.length ≤ maxLen)
    (ha : SR w w.heap.size 1 A a.length (iv a)) (hb : SR w w.heap.size 1 B b.length (iv b)) (hia : ∀ n ∈ a, I64 n) (hib : ∀ n ∈ b, I64 n) :
    Calls Try.prog 10 #[.slice A a.length c, .slice B b.length d] w (RowRes w.heap.size (bc a b) w) := by
  have HSA := Lib.hid (shRefSize_any A c a w hla ha hia)
  have HSB := Lib.hid (shRefSize_any B d b w hlb hb hib)
  clear hia hib
  rcases sz_cases a with ⟨ca, hsa, hca, -⟩ | ⟨hsa, hA⟩
  · rw [hsa] at HSA
    have HE := Lib.hid (bc_a (b := b) hsa (by omega))
    have hca' : ((ca : Int) != 0) = true := by simp; omega
    clear ha hb hsa hca HSB
    go_enter Try.func10, Try.ntmps10
    go_wp2_with fail
    refine HSA.out.mono ?_
    rintro e w1 ⟨rfl, rfl⟩
    go_wp2_with fail
    go_ret2
    rw [HE.out]
    exact ⟨_, rfl, World.ownsRow_nil _ _ _ _, Below.refl _ _⟩
  rcases sz_cases b with ⟨cb, hsb, hcb, -⟩ | ⟨hsb, hB⟩
  · rw [hsa] at HSA
    rw [hsb] at HSB
    have HE := Lib.hid (bc_b hsa hsb (by omega))
    have hcb' : ((cb : Int) != 0) = true := by simp; omega
    clear ha hb hsa hsb hcb hA
    go_enter Try.func10, Try.ntmps10
    go_wp2_with fail
    refine HSA.out.mono ?_
    rintro e w1 ⟨rfl, rfl⟩
    go_wp2_with fail
    refine HSB.out.mono ?_
    rintro e w1 ⟨rfl, rfl⟩
    go_wp2_with fail
    go_ret2
    rw [HE.out]
    exact ⟨_, rfl, World.ownsRow_nil _ _ _ _, Below.refl _ _⟩
  · rw [hsa] at HSA
    rw [hsb] at HSB
    have HT := Lib.hid (bc_t hsa hsb)
    have HN := Lib.hid (bc_no hsa hsb)
    have hAl := hA.len
    have hBl := hB.len
    have htl := th_len a b
    have HBK := Lib.hid (fun k hk => th_back (a := a) (b := b) (k := k) rfl hk)
    clear hsa hsb hla hlb
    generalize hR : max a.length b.length = R at *
    obtain ⟨i0, hi0, hz0, hz1, hz2⟩ := info_parts infoInt64
    have hR8 : (R : Int) ≤ 8 := by omega
    go_enter Try.func10, Try.ntmps10
    go_wp2_with fail
    refine HSA.out.mono ?_
    rintro e w1 ⟨rfl, rfl⟩
    go_wp2_with fail
    refine HSB.out.mono ?_
    rintro e w1 ⟨rfl, rfl⟩
    go_wp2_with fail
    go_loopw [10, 11, 12, 13] (fun v i _ _ wr => ∃ (k : Nat) (K : Int), i = .int .i64 K ∧ K = (k : Nat) ∧ k ≤ R ∧ wr.ownsRow w.heap.size 2 1 v k (iv ((th a b).drop (R - k))) ∧ Below w.heap.size w wr ∧ ∀ i, i < k → okd (M5.e a i) (M5.e b i)) (fun _ i _ _ _ => R - (intOf i).toNat)
    case atStart => exact ⟨0, _, rfl, rfl, by omega, by rw [List.drop_of_length_le (by omega)]; exact World.ownsRow_nil _ _ _ _, Below.refl _ _, fun i hi => absurd hi (by omega)⟩
    case round =>
      obtain ⟨k, K, rfl, rfl, hk, hown, hbl, hok⟩ := hrel
      obtain ⟨V, vc, rfl, -, -⟩ := own_form hown
      by_cases hlt : k < R
      · have HDA := Lib.hid (refDim_any A c a k wr (by omega) (by omega) (ha.below hbl))
        have HDB := Lib.hid (refDim_any B d b k wr (by omega) (by omega) (hb.below hbl))
        have htk := HBK.out k hlt
        have HNF := Lib.hid (fun (h : ¬ okd (e a k) (e b k)) => HN.out fun hf => h (fit_all hf _))
        have HOK := Lib.hid (fun (h : okd (e a k) (e b k)) => (fun i hi => by
          by_cases he : i = k
          · subst he; exact h
          · exact hok i (by omega) : ∀ i, i < k + 1 → okd (e a i) (e b i)))
        have HBL := Lib.hid hbl
        have HO := Lib.hid hown
        have HTK := Lib.hid htk
        have hwz := hbl.size
        have htest : (k : Int) < (a.length : Int) ∨ (¬ (k : Int) < (a.length : Int) ∧ (k : Int) < (b.length : Int)) := by omega
        generalize e a k = x at *
        generalize e b k = y at *
        clear htk hok hown hbl ha hb
        by_cases hxy : okd x y
        · have HK := Lib.hid (HOK.out hxy)
          have hways := okd_ways hxy
          clear hxy
          rcases htest with ht | ⟨ht, ht2⟩ <;> rcases hways with ⟨h1, h2, hz⟩ | ⟨h1, h2, h3, hz⟩ | ⟨h1, h2, hz⟩ | ⟨h1, h2, h3, h4, hz⟩
          all_goals have HZ := Lib.hid hz
          all_goals clear hz
          all_goals
            go_wp2_with fail
            refine HDA.out.mono ?_
            rintro en w2 ⟨rfl, rfl⟩
            go_wp2_with fail
            refine HDB.out.mono ?_
            rintro en w2 ⟨rfl, rfl⟩
            go_wp2_with (at_builtin; refine wpList_append_any rfl _ _ 22 rfl w.heap.size 2 i0 _ 1 8 Try.underlying22 hi0 hz0 hz1 hz2 rfl (by decide) _ 1 _ rfl (World.ownsRow_lit (size := 1) wr #[_] 1 hwz (by unfold maxLen; omega) rfl) V k vc _ rfl (own_len1 HO.out) (own_nil HO.out) (SR.of_own (HO.out.alloc _)).cells iv_oneCell (by unfold maxLen; omega) (by omega) (by simp; omega) ?_)
          all_goals
            intro v' w2 hown' hgrow
            have h9 : w2.ownsRow w.heap.size 2 1 v' (k + 1) (iv ((th a b).drop (R - (k + 1)))) := by rw [HTK.out, HZ.out, Nat.add_comm]; exact hown'
            have hb2 := (HBL.out.alloc hwz _).grown hgrow (by simp; omega) (fun q hq => by simp [Value.ownBlock] at hq; omega)
            have HO2 := Lib.hid h9
            have HB2 := Lib.hid hb2
            clear hown' hgrow h9 hb2 hi0 hz0 hz1 hz2
            go_wp2_with fail
            go_roundw
            case rel => exact ⟨k + 1, _, rfl, by omega, by omega, HO2.out, HB2.out, HK.out⟩
            case measure => simp [intOf]; omega
        · have hno := okd_no hxy
          obtain ⟨h1, h2, h3⟩ := hno
          have HE := Lib.hid (HNF.out hxy)
          clear hxy
          rcases htest with ht | ⟨ht, ht2⟩
          all_goals
            go_wp2_with fail
            refine HDA.out.mono ?_
            rintro en w2 ⟨rfl, rfl⟩
            go_wp2_with fail
            refine HDB.out.mono ?_
            rintro en w2 ⟨rfl, rfl⟩
            go_wp2_with fail
            go_ret2
            rw [HE.out]
            exact ⟨_, rfl, World.ownsRow_nil _ _ _ _, HBL.out⟩
      · obtain rfl : k = R := by omega
        rw [Nat.sub_self, List.drop_zero] at hown
        have hf : fit a b := fun i hi => hok i (by omega)
        have hT := HT.out hf
        have hS := shRefSize_any V vc (th a b) wr (by unfold maxLen; omega) (by rw [htl]; exact SR.of_own hown) (th_in hA hB)
        rw [htl] at hS
        have HS := Lib.hid hS
        have HBL := Lib.hid hbl
        have HOW := Lib.hid hown
        have ht1 : ¬ (k : Int) < (a.length : Int) := by omega
        have ht2 : ¬ (k : Int) < (b.length : Int) := by omega
        clear hS hbl hown ha hb hok hf
        rcases sz_cases (th a b) with ⟨ct, hst, hct, -⟩ | ⟨hst, hsh⟩
        · rw [hst] at HS hT
          have HE := Lib.hid hT
          rw [if_pos (by omega)] at HE
          have hct' : ((ct : Int) != 0) = true := by simp; omega
          clear hst hct hT
          go_wp2_with fail
          refine HS.out.mono ?_
          rintro en w2 ⟨rfl, rfl⟩
          go_wp2_with fail
          go_ret2
          rw [HE.out]
          exact ⟨_, rfl, World.ownsRow_nil _ _ _ _, HBL.out⟩
        · rw [hst] at HS hT
          rw [if_neg (by simp)] at hT
          have HE := Lib.hid hT
          clear hst hT
          go_wp2_with fail
          refine HS.out.mono ?_
          rintro en w2 ⟨rfl, rfl⟩
          go_wp2_with fail
          go_ret2
          rw [HE.out]
          exact ⟨_, rfl, by rw [htl]; exact HOW.out, HBL.out⟩
end Go.Proofs.Ytiljgokhgihodaa
