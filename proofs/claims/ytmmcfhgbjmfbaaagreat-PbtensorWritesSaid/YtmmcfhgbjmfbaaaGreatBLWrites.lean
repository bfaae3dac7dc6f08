/- The law PbtensorWrites (agatelaw09): for every input that can be read the call returns true, and its arguments read behind it as before. -/
import Derived.Test.YtmmcfhgbjmfbaaaGreatOOpen
import Derived.Test.YtmmcfhgbjmfbaaaGreatBAwake
import Derived.Test.YtmmcfhgbjmfbaaaGreatBRead
import Derived.Test.YtmmcfhgbjmfbaaaGreatBRefM
import Derived.Test.YtmmcfhgbjmfbaaaGreatTCheck
import Derived.Test.YtmmcfhgbjmfbaaaGreatBPut
import Derived.Test.YtmmcfhgbjmfbaaaGreatMath
import Derived.Deep.Slices
import Derived.ChangeSame
import Derived.SizedLaws
import Derived.OpenShut
import Derived.Test.YtmmcfhgbjmfbaaaGreatLift
/- The walk of the law PbtensorReads. -/
namespace Go.Proofs.YtmmcfhgbjmfbaaaGreat
open Go.RowKit M2 M8 M9 Go.Sort
open M7 (Ten ck)

structure TenOk (t : Ten) : Prop where
  name : t.name.size ≤ 1048576
  data : t.data.size ≤ 1048576
  kind0 : 0 ≤ t.kind
  kind1 : t.kind ≤ 14
  dl : t.dims.length ≤ 8
  di : ∀ n ∈ t.dims, I64 n
theorem z9_ok : TenOk z9 := ⟨et_le _, et_le _, by decide, by decide, by decide, by simp [z9]⟩
theorem rd9_is (b : ByteArray) (fs : List Fl) : TenOk (rd9 b fs).1 := by
  unfold rd9
  split
  · exact z9_ok
  · have h := msg_ok b
    have he := elems_size h fs
    unfold fin
    split
    · exact z9_ok
    · split
      · exact z9_ok
      · rename_i h2
        have h3 := M7.ck_zero (Decidable.of_not_not h2)
        exact ⟨h.name, he, h.kind0, h.kind1, (M5.sz_shp h3.2.2.1).len, h.di⟩
theorem TenOk.tok {t : Ten} (h : TenOk t) {w : World} {B : Nat} {A : Option Addr} {c : Nat} (ho : w.ownsRow B 2 1 (.slice A t.dims.length c) t.dims.length (iv t.dims)) : Tok w t A :=
  ⟨by have := h.name; omega, by have := h.data; omega, WalkArith.wf_i64 (by have := h.kind0; have := h.kind1; omega), SR.of_own ho, by have := h.dl; unfold maxLen; omega, h.di⟩

set_option maxRecDepth 100000 in
set_option maxHeartbeats 4000000 in
theorem reads9_walk (b : ByteArray) (l : List Fl) (A : Option Addr) (c : Nat) (w : World) (hb : b.size ≤ 140737488351232) (hl : l.length ≤ 4398046510976) (hs : ∀ f ∈ l, FlOk f) (hA : SR w w.heap.size 2 A l.length (fcl l)) :
    Calls Tryz.prog 3 #[.string b, .slice A l.length c] w fun e w' => e = .returned (.bool true) ∧ Below w.heap.size w w' := by
  have HAW := Lib.hid (fun W => b_awake_any W)
  have HLD := Lib.hid (laid9_any l A c w hl hs hA)
  clear hA hs
  go_enter Tryz.func3, Tryz.ntmps3
  go_wp2_with fail
  refine HLD.out.mono ?_
  rintro e w1 ⟨mb, V, n, vc, ok, rfl, hok, hb1⟩
  have HB1 := Lib.hid hb1
  have hst1 := Bx.start w1 #[.map mb] 25
  have HX1 := Lib.hid hst1
  have HOK := Lib.hid hok
  clear hb1 hok HLD hst1
  cases ok
  · go_wp2_with fail
    refine (HAW.out _).mono ?_
    rintro e w2 ⟨rfl, hb2⟩
    have HB := Lib.hid (HB1.out.trans ((HX1.out.below hb2).all.mono HB1.out.size))
    clear hb2
    go_wp2_with fail
    go_ret
    exact ⟨rfl, HB.out⟩
  · by_cases h3 : 3000 < b.size
    · have h3' : (3000 : Int) < (b.size : Int) := by omega
      go_wp2_with fail
      refine (HAW.out _).mono ?_
      rintro e w2 ⟨rfl, hb2⟩
      have HB := Lib.hid (HB1.out.trans ((HX1.out.below hb2).all.mono HB1.out.size))
      clear hb2
      go_wp2_with fail
      go_ret
      exact ⟨rfl, HB.out⟩
    · have h3' : ¬ (3000 : Int) < (b.size : Int) := by omega
      obtain ⟨hc, ht, rfl, ⟨B, hst⟩, hsr⟩ := HOK.out rfl
      have HLL := Lib.hid (show l.length ≤ 100 from by
        by_cases h : 64 < l.length
        · rw [newC_size h] at hc; cases hc
        · omega)
      have HFS := Lib.hid (fun f (hf : f ∈ l) => show f.data.size ≤ 10000 by have := totL_mem hf; omega)
      have HR1 := Lib.hid (b_read_any b B l mb (w1.alloc (.cells #[.map mb] 25)) (by unfold maxLen; omega) (fun f hf => by have := HFS.out f hf; unfold maxLen; omega) (hst.below HX1.out.all))
      have HR2 := Lib.hid (fun W (h : Below w1.heap.size w1 W) => rread9_any b V vc l W (by unfold maxLen; omega) HLL.out HFS.out ((hsr.below h).more h.size))
      have HTO := Lib.hid (rd9_is b l)
      clear hc ht hst hsr HOK
      generalize rd9 b l = R at *
      obtain ⟨t, K⟩ := R
      try dsimp only at HTO
      go_wp2_with fail
      refine HR1.out.mono ?_
      rintro e w2 ⟨v1, rfl, hown1, hb2⟩
      try dsimp only at hown1
      obtain ⟨A1, c1, rfl, -, -⟩ := own_form hown1
      have hal := hb2.alloc hb2.size (.cells #[.string t.name, .int .i64 t.kind, .slice A1 t.dims.length c1, .string t.data] 33)
      have HX2 := Lib.hid (HX1.out.below hal)
      have HY2 := Lib.hid ((HX1.out.below hb2).next #[.string t.name, .int .i64 t.kind, .slice A1 t.dims.length c1, .string t.data] 33)
      have HO1 := Lib.hid (own_keep hown1 ((Below.refl w2.heap.size w2).alloc (Nat.le_refl _) (.cells #[.string t.name, .int .i64 t.kind, .slice A1 t.dims.length c1, .string t.data] 33)))
      clear hb2 hal hown1 HR1
      go_wp2_with fail
      refine (HR2.out _ HX2.out.all).mono ?_
      rintro e w3 ⟨v2, rfl, hown2, hb3⟩
      try dsimp only at hown2
      obtain ⟨A2, c2, rfl, -, -⟩ := own_form hown2
      have hal := hb3.alloc hb3.size (.cells #[.string t.name, .int .i64 t.kind, .slice A2 t.dims.length c2, .string t.data] 38)
      have HX3 := Lib.hid (HX2.out.below hal)
      have HY3 := Lib.hid (HY2.out.below hal)
      have HZ3 := Lib.hid ((HY2.out.below hb3).next #[.string t.name, .int .i64 t.kind, .slice A2 t.dims.length c2, .string t.data] 38)
      have hT1 := HTO.out.tok (own_keep HO1.out hal)
      have hT2 := HTO.out.tok (own_keep hown2 ((Below.refl w3.heap.size w3).alloc (Nat.le_refl _) (.cells #[.string t.name, .int .i64 t.kind, .slice A2 t.dims.length c2, .string t.data] 38)))
      have HT1 := Lib.hid hT1
      have HT2 := Lib.hid hT2
      clear hb3 hal hown2 HR2 HX2 HY2 HO1 hT1 hT2 HX1
      go_upto_region 6 with fail
      generalize w3.alloc (.cells #[.string t.name, .int .i64 t.kind, .slice A2 t.dims.length c2, .string t.data] 38) = W at *
      obtain ⟨a0, a1, a2, a3⟩ := HY3.out.four
      obtain ⟨z0, z1, z2, z3⟩ := HZ3.out.four
      have k0 := fun d os => cell_regrown a0 d os
      have k1 := fun d os => cell_regrown a1 d os
      have k2 := fun d os => cell_regrown a2 d os
      have k3 := fun d os => cell_regrown a3 d os
      have l0 := fun d os => cell_regrown z0 d os
      have l1 := fun d os => cell_regrown z1 d os
      have l2 := fun d os => cell_regrown z2 d os
      have l3 := fun d os => cell_regrown z3 d os
      have HOF := Lib.hid (fun W => law7of_any t.name t.kind A1 t.dims.length c1 t.data W)
      have HSM := Lib.hid (fun W' (h : Below W.heap.size W W') => rsame_any t t A1 A2 c1 c2 W' (HT1.out.below h) (HT2.out.below h) (by have := HTO.out.dl; omega))
      rw [show sameT t t = true from sameT_yes rfl rfl rfl rfl] at HSM
      have HB := Lib.hid (HB1.out.trans (HX3.out.all.mono HB1.out.size))
      clear a0 a1 a2 a3 z0 z1 z2 z3 HT1 HT2 HTO HX3 HY3 HZ3
      obtain ⟨tn, tk, td, tb⟩ := t
      dsimp only at k0 k1 k2 k3 l0 l1 l2 l3 HOF HSM
      refine wp_region_quiet_below (by kernel_rfl) (by kernel_rfl) ?_
      repeat (go_big_quiet_step ((first | (go_at_call 6; exact Calls.regrown_of (HAW.out _)) | (go_at_call 10; exact Calls.regrown_of (HOF.out _)) | (go_at_call 9; exact Calls.regrown_of (HSM.out _ (below_regrown _ _ _))))))
      refine wpQuiet_nil ?_
      rintro w4 ⟨p4, rfl⟩
      have hbp := below_regrown W p4.d p4.os
      generalize grow (redrawn W p4.d) p4.os = w4 at hbp ⊢
      have HF := Lib.hid (HB.out.trans (hbp.mono (HB.out.size)))
      clear hbp k0 k1 k2 k3 l0 l1 l2 l3
      go_wp2_with fail
      go_ret
      exact ⟨rfl, HF.out⟩
end Go.Proofs.YtmmcfhgbjmfbaaaGreat
/- What is put is read as it was: the fields of a tensor's least writing. No walk. -/
namespace Go.Proofs.YtmmcfhgbjmfbaaaGreat
open Go.RowKit M1 M2 M3 M8 M9
open M7 (Ten ck)

/-- the fields of a least writing -/
def wl (t : Ten) : List WFd := (if t.dims = [] then [] else [⟨1, 2, 0, cps t.dims⟩]) ++ [⟨2, 0, us t.kind, ⟨#[]⟩⟩, ⟨8, 2, 0, t.name⟩, ⟨9, 2, 0, t.data⟩]
theorem app_et (a : ByteArray) : a ++ (⟨#[]⟩ : ByteArray) = a := ByteArray.ext (by simp)
theorem et_app (a : ByteArray) : (⟨#[]⟩ : ByteArray) ++ a = a := ByteArray.ext (by simp)
theorem cat_app (a b : List WFd) : cat (a ++ b) = cat a ++ cat b := by
  induction a with
  | nil => exact (et_app _).symm
  | cons f a ih =>
    show fb f ++ cat (a ++ b) = fb f ++ cat a ++ cat b
    rw [ih]
    exact ByteArray.ext (by simp)
theorem wl_cat (t : Ten) : cat (wl t) = wr9 t := by
  unfold wl wr9
  rw [cat_app]
  have h3 : cat [⟨2, 0, us t.kind, ⟨#[]⟩⟩, ⟨8, 2, 0, t.name⟩, ⟨9, 2, 0, t.data⟩] = fb ⟨2, 0, us t.kind, ⟨#[]⟩⟩ ++ (fb ⟨8, 2, 0, t.name⟩ ++ (fb ⟨9, 2, 0, t.data⟩ ++ ⟨#[]⟩)) := rfl
  have h1 : cat (if t.dims = [] then [] else [⟨1, 2, 0, cps t.dims⟩]) = M3.pt 1 t.dims := by
    unfold M3.pt
    by_cases h : t.dims = []
    · rw [if_pos h, if_pos h]; rfl
    · rw [if_neg h, if_neg h]
      show fb ⟨1, 2, 0, cps t.dims⟩ ++ ⟨#[]⟩ = _
      exact app_et _
  rw [h1, h3, app_et]
  exact ByteArray.ext (by simp)
theorem wl_wanted (t : Ten) : wanted (wl t) = wl t := by
  have a1 : hasB ⟨1, 2, 0, cps t.dims⟩ = true := hasB_yes (fb_part_ne 0 _ (by decide) (by decide))
  have a2 : hasB ⟨2, 0, us t.kind, ⟨#[]⟩⟩ = true := hasB_yes (fb_num_ne _ _ (by decide) (by decide))
  have a3 : hasB ⟨8, 2, 0, t.name⟩ = true := hasB_yes (fb_part_ne 0 _ (by decide) (by decide))
  have a4 : hasB ⟨9, 2, 0, t.data⟩ = true := hasB_yes (fb_part_ne 0 _ (by decide) (by decide))
  unfold wanted wl
  by_cases h : t.dims = []
  · rw [if_pos h]
    simp [a2, a3, a4, norm]
  · rw [if_neg h]
    simp [a1, a2, a3, a4, norm]
theorem wl_fields {t : Ten} (hd : t.data.size ≤ 4000) (hn : t.name.size ≤ 200) (hl : t.dims.length ≤ 20) : fields (wr9 t) = (wl t, 0) := by
  have hc := cps_le t.dims
  have h1 : flw (wr9 t) = (wl t, 0) := by
    rw [← wl_cat, flw_cat, wl_wanted]
    intro f hf
    unfold wl at hf
    have hcase : f = ⟨1, 2, 0, cps t.dims⟩ ∨ f = ⟨2, 0, us t.kind, ⟨#[]⟩⟩ ∨ f = ⟨8, 2, 0, t.name⟩ ∨ f = ⟨9, 2, 0, t.data⟩ := by
      by_cases h : t.dims = []
      · rw [if_pos h] at hf
        simp at hf
        exact .inr hf
      · rw [if_neg h] at hf
        simpa using hf
    rcases hcase with rfl | rfl | rfl | rfl
    · exact ⟨by show (0 : Nat) < _; omega, by show (cps t.dims).size < _; omega⟩
    · exact ⟨us_fits _, by show (0 : Nat) < _; omega⟩
    · exact ⟨by show (0 : Nat) < _; omega, by show t.name.size < _; omega⟩
    · exact ⟨by show (0 : Nat) < _; omega, by show t.data.size < _; omega⟩
  unfold fields
  rw [if_neg, h1]
  have q1 := wr9_len t hl
  have q2 := fb_le ⟨2, 0, us t.kind, ⟨#[]⟩⟩
  have q3 := fb_le ⟨8, 2, 0, t.name⟩
  have q4 := fb_le ⟨9, 2, 0, t.data⟩
  have e0 : (⟨#[]⟩ : ByteArray).size = 0 := rfl
  dsimp only at q2 q3 q4
  unfold wr9
  simp only [ByteArray.size_append]
  omega
theorem wl_of1 (t : Ten) : ofNum (wl t) 1 = if t.dims = [] then [] else [⟨1, 2, 0, cps t.dims⟩] := by
  unfold wl ofNum
  by_cases h : t.dims = []
  · rw [if_pos h]; simp
  · rw [if_neg h]; simp
theorem wl_ints1 {t : Ten} (hi : ∀ n ∈ t.dims, I64 n) (hl : t.dims.length ≤ 20) : ints (ofNum (wl t) 1) [] = (t.dims, 0) := by
  rw [wl_of1]
  by_cases h : t.dims = []
  · rw [if_pos h, h]; rfl
  · rw [if_neg h]
    have e := pks_cps t.dims [] hi (by simp; omega)
    have ha : addF ⟨1, 2, 0, cps t.dims⟩ [] = (t.dims, 0) := by
      unfold addF
      rw [if_neg (by show ¬ (2 : Int) = 0; decide), if_pos rfl]
      simpa using e
    rw [ints_ok ha]; rfl
theorem wl_none (t : Ten) (k : Int) (h1 : k ≠ 1) (h2 : k ≠ 2) (h8 : k ≠ 8) (h9 : k ≠ 9) : ofNum (wl t) k = [] := by
  unfold wl ofNum
  by_cases h : t.dims = []
  · rw [if_pos h]; simp [Ne.symm h2, Ne.symm h8, Ne.symm h9]
  · rw [if_neg h]; simp [Ne.symm h1, Ne.symm h2, Ne.symm h8, Ne.symm h9]
theorem wl_2 (t : Ten) : ofNum (wl t) 2 = [⟨2, 0, us t.kind, ⟨#[]⟩⟩] := by
  unfold wl ofNum
  by_cases h : t.dims = []
  · rw [if_pos h]; simp
  · rw [if_neg h]; simp
theorem wl_8 (t : Ten) : ofNum (wl t) 8 = [⟨8, 2, 0, t.name⟩] := by
  unfold wl ofNum
  by_cases h : t.dims = []
  · rw [if_pos h]; simp
  · rw [if_neg h]; simp
theorem wl_9 (t : Ten) : ofNum (wl t) 9 = [⟨9, 2, 0, t.data⟩] := by
  unfold wl ofNum
  by_cases h : t.dims = []
  · rw [if_pos h]; simp
  · rw [if_neg h]; simp
theorem us_kind {k : Int} (h : kSize k ≠ 0) : kindN (us k) = k := by
  obtain ⟨s, hs, -⟩ := size_nat k
  have hk : isKind k = true := (kSize_pos (k := k)).1 (by omega)
  rcases isKind_iff.1 hk with rfl | rfl | rfl | rfl | rfl <;> decide +kernel
/-- P9.2 -/
theorem rd9_wr9 {t : Ten} (fs : List Fl) (h : ck t = 0) (hi : ∀ n ∈ t.dims, I64 n) (hd : t.data.size ≤ 4000) (hn : t.name.size ≤ 200) (hl : t.dims.length ≤ 20) : rd9 (wr9 t) fs = (t, 0) := by
  obtain ⟨g1, g2, g3, g4, g5⟩ := M7.ck_zero h
  rw [rd9_L (wl_fields hd hn hl)]
  have hok : okFs (wl t) = true := by
    unfold okFs okF lastF
    rw [wl_2, wl_8, wl_9, wl_none t 14 (by decide) (by decide) (by decide) (by decide)]
    simp
  have hr : rows (wl t) = (⟨t.dims, [], [], []⟩, 0) := by
    refine rows_all (wl_ints1 hi hl) ?_ ?_ ?_
    · rw [wl_none t 5 (by decide) (by decide) (by decide) (by decide)]; rfl
    · rw [wl_none t 7 (by decide) (by decide) (by decide) (by decide)]; rfl
    · rw [wl_none t 13 (by decide) (by decide) (by decide) (by decide)]; rfl
  have l2 : lastF (wl t) 2 = ⟨2, 0, us t.kind, ⟨#[]⟩⟩ := by unfold lastF; rw [wl_2]; rfl
  have l8 : lastF (wl t) 8 = ⟨8, 2, 0, t.name⟩ := by unfold lastF; rw [wl_8]; rfl
  have l9 : lastF (wl t) 9 = ⟨9, 2, 0, t.data⟩ := by unfold lastF; rw [wl_9]; rfl
  have l14 : lastF (wl t) 14 = fd0 := last_none (wl_none t 14 (by decide) (by decide) (by decide) (by decide))
  have h9 : has (wl t) 9 = true := by unfold has; rw [wl_9]; simp
  have hc : chkL (wl t) ⟨t.dims, [], [], []⟩ = ((M5.sz t.dims).1 * kSize t.kind, 0) := by
    unfold chkL
    rw [l2, l8, l14]
    dsimp only
    rw [us_kind g2, show fd0.n = 0 from rfl]
    unfold chk
    rw [if_neg (by omega), if_neg (by simp [g1]), if_neg g2, g3]
    rfl
  rw [rdL_ok hok hr hc]
  unfold mk
  rw [l2, l8, l9, l14, h9]
  dsimp only
  rw [us_kind g2]
  rw [elems_here (by show (0 : Nat) ≠ 1; omega)]
  dsimp only
  rw [here_raw (by rfl)]
  exact fin_ok (t := ⟨t.name, t.kind, t.dims, ⟨#[]⟩⟩) (r := (t.data, 0)) rfl h
end Go.Proofs.YtmmcfhgbjmfbaaaGreat
/- The walk of the law PbtensorWrites. -/
namespace Go.Proofs.YtmmcfhgbjmfbaaaGreat
open Go.RowKit M2 M8 M9 Go.Sort
open M7 (Ten ck)

set_option maxRecDepth 100000 in
set_option maxHeartbeats 8000000 in
theorem writes9_walk (t : Ten) (At : Option Addr) (ct : Nat) (l : List Fl) (A : Option Addr) (c : Nat) (w : World) (ht : Tok w t At) (hl : l.length ≤ 4398046510976) (hs : ∀ f ∈ l, FlOk f) (hA : SR w w.heap.size 2 A l.length (fcl l)) :
    Calls Tryz.prog 4 #[t_tv t.name t.kind (.slice At t.dims.length ct) t.data, .slice A l.length c] w fun e w' => e = .returned (.bool true) ∧ Below w.heap.size w w' := by
  have HAW := Lib.hid (fun W => b_awake_any W)
  have HB0 := Lib.hid (Bx.start w #[.string t.name, .int .i64 t.kind, .slice At t.dims.length ct, .string t.data] 33)
  have HLD := Lib.hid (laid9_any l A c _ hl hs ((hA.below HB0.out.all).more HB0.out.all.size))
  have HT := Lib.hid ht
  have hn1 := ht.name
  have hd1 := ht.data
  have hl1 := ht.len
  unfold maxLen at hl1
  clear hA hs ht
  go_enter Tryz.func4, Tryz.ntmps4
  go_wp2_with fail
  refine HLD.out.mono ?_
  rintro e w1 ⟨mb, V, n, vc, ok, rfl, hok, hb1⟩
  have HB1 := Lib.hid (HB0.out.below hb1)
  have HX1 := Lib.hid (HB1.out.next #[.map mb] 25)
  have HY1 := Lib.hid (HB1.out.more (.cells #[.map mb] 25))
  have HOK := Lib.hid hok
  obtain ⟨a0, a1, a2, a3⟩ := HY1.out.four
  clear hb1 hok HLD HB0
  by_cases hgo : ok = true ∧ t.data.size ≤ 4000 ∧ t.dims.length ≤ 20 ∧ t.name.size ≤ 200
  · obtain ⟨rfl, hd, hdl, hn⟩ := hgo
    have g1 : ¬ (4000 : Int) < (t.data.size : Int) := by omega
    have g2 : ¬ (20 : Int) < (t.dims.length : Int) := by omega
    have g3 : ¬ (200 : Int) < (t.name.size : Int) := by omega
    obtain ⟨hc, htl, rfl, ⟨B, hst⟩, hsr⟩ := HOK.out rfl
    have HFS := Lib.hid (fun f (hf : f ∈ l) => show f.data.size ≤ maxLen by have := totL_mem hf; unfold maxLen; omega)
    have HST := Lib.hid (fun W (h : Below w1.heap.size w1 W) => hst.below h)
    have HOF := Lib.hid (fun W => law7of_any t.name t.kind At t.dims.length ct t.data W)
    have HD := Lib.hid (And.intro hd (And.intro hdl hn))
    clear hc htl hst hsr HOK
    go_wp2_with fail
    refine (HOF.out _).mono ?_
    rintro e w2 ⟨rfl, hb2⟩
    have hal := hb2.alloc hb2.size (.cells #[.string t.name, .int .i64 t.kind, .slice At t.dims.length ct, .string t.data] 38)
    have HX2 := Lib.hid (HX1.out.below hal)
    have HY2 := Lib.hid (HY1.out.below hal)
    have HZ2 := Lib.hid ((HY1.out.below hb2).next #[.string t.name, .int .i64 t.kind, .slice At t.dims.length ct, .string t.data] 38)
    have HN2 := Lib.hid (((Below.refl w1.heap.size w1).alloc (Nat.le_refl _) (.cells #[.map mb] 25)).trans (hal.mono (by simp)))
    clear hb2 hal HX1 HY1 a0 a1 a2 a3 HB1
    obtain ⟨z0, z1, z2, z3⟩ := HZ2.out.four
    have HCK := Lib.hid (rcheck_any t At ct _ (HT.out.below HZ2.out.all))
    have HPT := Lib.hid (fun W (h : Below w.heap.size w W) => b_put_any t At ct W (HT.out.below h) HD.out.1 HD.out.2.2 HD.out.2.1)
    have HRB := Lib.hid (fun h => rd9_wr9 l h HT.out.ints HD.out.1 HD.out.2.2 HD.out.2.1)
    have HWL := Lib.hid (show (wr9 t).size ≤ 1048576 from by
      have h := fields_size (s := wr9 t) (by rw [wl_fields HD.out.1 HD.out.2.2 HD.out.2.1])
      exact h)
    go_wp2_with fail
    refine HCK.out.mono ?_
    rintro e w3 ⟨rfl, hb3⟩
    have HX3 := Lib.hid (HX2.out.below hb3)
    have HY3 := Lib.hid (HY2.out.below hb3)
    have HZ3 := Lib.hid (HZ2.out.below hb3)
    have HN3 := Lib.hid (HN2.out.trans (hb3.mono HN2.out.size))
    clear hb3 HX2 HY2 HZ2 HN2 HCK z0 z1 z2 z3
    obtain ⟨a0, a1, a2, a3⟩ := HY3.out.four
    go_wp2_with fail
    refine (HPT.out _ HY3.out.all).mono ?_
    rintro e w4 ⟨rfl, hb4⟩
    have HX4 := Lib.hid (HX3.out.below hb4)
    have HZ4 := Lib.hid (HZ3.out.below hb4)
    have HN4 := Lib.hid (HN3.out.trans (hb4.mono HN3.out.size))
    clear hb4 HX3 HY3 HZ3 HN3 HPT a0 a1 a2 a3
    by_cases hK : ck t = 0
    · have HK := Lib.hid hK
      have HR := Lib.hid (HRB.out hK)
      rw [if_pos hK, hK]
      have s0 := HX4.out.cell 0
      change _ = some _ at s0
      have HRD := Lib.hid (b_read_any (wr9 t) B l mb w4 (by have := HWL.out; unfold maxLen; omega) HFS.out (HST.out _ HN4.out))
      rw [HR.out] at HRD
      have HPR := Lib.hid (fun W (h : Below w.heap.size w W) => b_rput_any t At ct W (HT.out.below h) HD.out.1 HD.out.2.2 HD.out.2.1)
      clear hK HR HRB HST HFS
      generalize wr9 t = X at *
      go_wp2_with fail
      refine HRD.out.mono ?_
      rintro e w5 ⟨v2, rfl, hown2, hb5⟩
      try dsimp only at hown2
      obtain ⟨A2, c2, rfl, -, -⟩ := own_form hown2
      have hal := hb5.alloc hb5.size (.cells #[.string t.name, .int .i64 t.kind, .slice A2 t.dims.length c2, .string t.data] 33)
      have HZ5 := Lib.hid (HZ4.out.below hal)
      have HU5 := Lib.hid ((HZ4.out.below hb5).next #[.string t.name, .int .i64 t.kind, .slice A2 t.dims.length c2, .string t.data] 33)
      have HO5 := Lib.hid (own_keep hown2 ((Below.refl w5.heap.size w5).alloc (Nat.le_refl _) (.cells #[.string t.name, .int .i64 t.kind, .slice A2 t.dims.length c2, .string t.data] 33)))
      clear hb5 hal hown2 HRD HX4 HZ4 s0
      go_upto_region 12 with fail
      generalize w5.alloc (.cells #[.string t.name, .int .i64 t.kind, .slice A2 t.dims.length c2, .string t.data] 33) = W at *
      have HT2 := Lib.hid (show Tok W t A2 from ⟨HT.out.name, HT.out.data, HT.out.kind, SR.of_own HO5.out, HT.out.len, HT.out.ints⟩)
      have HT1 := Lib.hid (HT.out.below HZ5.out.all)
      obtain ⟨a0, a1, a2, a3⟩ := HU5.out.four
      obtain ⟨z0, z1, z2, z3⟩ := HZ5.out.four
      have k0 := fun d os => cell_regrown a0 d os
      have k1 := fun d os => cell_regrown a1 d os
      have k2 := fun d os => cell_regrown a2 d os
      have k3 := fun d os => cell_regrown a3 d os
      have l0 := fun d os => cell_regrown z0 d os
      have l1 := fun d os => cell_regrown z1 d os
      have l2 := fun d os => cell_regrown z2 d os
      have l3 := fun d os => cell_regrown z3 d os
      have HOF2 := Lib.hid (fun W => law7of_any t.name t.kind A2 t.dims.length c2 t.data W)
      have HSM := Lib.hid (fun W' (h : Below W.heap.size W W') => rsame_any t t A2 At c2 ct W' (HT2.out.below h) (HT1.out.below h) HD.out.2.1)
      rw [show sameT t t = true from sameT_yes rfl rfl rfl rfl] at HSM
      have HPR2 := Lib.hid (fun W' (h : Below W.heap.size W W') => HPR.out W' (step_below HZ5.out.all h))
      have HTX := Lib.hid (show (X.toList == X.toList) = true from beq_self_eq_true _)
      have HB := Lib.hid HZ5.out.all
      clear a0 a1 a2 a3 z0 z1 z2 z3 HT1 HT2 HU5 HZ5 HO5 HPR HOF HT HD hn1 hd1 hl1 hd hdl hn g1 g2 g3 HN4 HK HWL
      obtain ⟨tn, tk, td, tb⟩ := t
      dsimp only at k0 k1 k2 k3 l0 l1 l2 l3 HOF2 HSM HPR2
      have htx := HTX.out
      refine wp_region_quiet_below (by kernel_rfl) (by kernel_rfl) ?_
      repeat (go_big_quiet_step ((first | (go_at_call 6; exact Calls.regrown_of (HAW.out _)) | (go_at_call 10; exact Calls.regrown_of (HOF2.out _)) | (go_at_call 13; exact Calls.regrown_of (HPR2.out _ (below_regrown _ _ _))) | (go_at_call 9; exact Calls.regrown_of (HSM.out _ (below_regrown _ _ _))))))
      refine wpQuiet_nil ?_
      rintro w6 ⟨p6, rfl⟩
      have hbp := below_regrown W p6.d p6.os
      generalize grow (redrawn W p6.d) p6.os = w6 at hbp ⊢
      have HF := Lib.hid (HB.out.trans (hbp.mono (HB.out.size)))
      clear hbp k0 k1 k2 k3 l0 l1 l2 l3
      go_wp2_with fail
      go_ret
      exact ⟨rfl, HF.out⟩
    · rw [if_neg hK]
      have hcb : (ck t != 0) = true := by simpa using hK
      generalize ck t = K at *
      clear hK HRB
      go_wp2_with fail
      refine (HAW.out _).mono ?_
      rintro e w5 ⟨rfl, hb5⟩
      have HB := Lib.hid (HZ4.out.below hb5).all
      clear hb5
      go_wp2_with fail
      go_ret
      exact ⟨rfl, HB.out⟩
  · have hcases : ok = false ∨ (ok = true ∧ 4000 < t.data.size) ∨ (ok = true ∧ t.data.size ≤ 4000 ∧ 20 < t.dims.length) ∨ (ok = true ∧ t.data.size ≤ 4000 ∧ t.dims.length ≤ 20 ∧ 200 < t.name.size) := by
      cases ok
      · exact .inl rfl
      · right
        by_cases h1 : 4000 < t.data.size
        · exact .inl ⟨rfl, h1⟩
        · by_cases h2 : 20 < t.dims.length
          · exact .inr (.inl ⟨rfl, by omega, h2⟩)
          · by_cases h3 : 200 < t.name.size
            · exact .inr (.inr ⟨rfl, by omega, by omega, h3⟩)
            · exact absurd ⟨rfl, by omega, by omega, by omega⟩ hgo
    clear hgo HOK
    rcases hcases with rfl | ⟨rfl, h1⟩ | ⟨rfl, h1, h2⟩ | ⟨rfl, h1, h2, h3⟩
    · skip
      go_wp2_with fail
      refine (HAW.out _).mono ?_
      rintro e w2 ⟨rfl, hb2⟩
      have HB := Lib.hid (HY1.out.below hb2).all
      clear hb2
      go_wp2_with fail
      go_ret
      exact ⟨rfl, HB.out⟩
    · have g1 : (4000 : Int) < (t.data.size : Int) := by omega
      go_wp2_with fail
      refine (HAW.out _).mono ?_
      rintro e w2 ⟨rfl, hb2⟩
      have HB := Lib.hid (HY1.out.below hb2).all
      clear hb2
      go_wp2_with fail
      go_ret
      exact ⟨rfl, HB.out⟩
    · have g1 : ¬ (4000 : Int) < (t.data.size : Int) := by omega
      have g2 : (20 : Int) < (t.dims.length : Int) := by omega
      go_wp2_with fail
      refine (HAW.out _).mono ?_
      rintro e w2 ⟨rfl, hb2⟩
      have HB := Lib.hid (HY1.out.below hb2).all
      clear hb2
      go_wp2_with fail
      go_ret
      exact ⟨rfl, HB.out⟩
    · have g1 : ¬ (4000 : Int) < (t.data.size : Int) := by omega
      have g2 : ¬ (20 : Int) < (t.dims.length : Int) := by omega
      have g3 : (200 : Int) < (t.name.size : Int) := by omega
      go_wp2_with fail
      refine (HAW.out _).mono ?_
      rintro e w2 ⟨rfl, hb2⟩
      have HB := Lib.hid (HY1.out.below hb2).all
      clear hb2
      go_wp2_with fail
      go_ret
      exact ⟨rfl, HB.out⟩
end Go.Proofs.YtmmcfhgbjmfbaaaGreat
/- Arguments opened: a tensor; a slice of pairs of whole numbers; a slice of flags. -/
namespace Go.Proofs.YtmmcfhgbjmfbaaaGreat
open Go.RowKit M6 M7 Go.ChangeShapes Go.WideShapes Go.Deep

theorem tensorCells : Tryz.prog.cellsOf 33 = 4 := by kernel_rfl
theorem tensorOff : (match Tryz.prog.underlying 33 with | some (.struct fs) => fs.toList.map (fun f => (f.offset, f.type)) | _ => []) = [(0, 9), (1, 30), (2, 31), (3, 9)] := by kernel_rfl
theorem cellsStr7 : Tryz.prog.cellsOf 9 = 1 := by kernel_rfl
theorem cellsKind7 : Tryz.prog.cellsOf 30 = 1 := by kernel_rfl
theorem cellsInts7 : Tryz.prog.cellsOf 31 = 1 := by kernel_rfl
theorem tensorStruct : ∃ fs, Tryz.prog.underlying 33 = some (.struct fs) := ⟨_, Tryz.underlying33⟩
theorem reach7 : reachBytes = 140737488351232 := by decide
section
variable {H : Type} {enc : TypeId × Value → H} {w : World} {base : Nat} {spare : Nat → Bool} {held : Bool}
set_option maxRecDepth 100000 in
theorem weights_tensor (s r : List UInt8) (k : Int) (d : DataW H) : s.length ∈ (DataW.agg [.lit (.string s), .lit (.int .i64 k), d, .lit (.string r)] : DataW H).weights Tryz.prog 33 ∧ r.length ∈ (DataW.agg [.lit (.string s), .lit (.int .i64 k), d, .lit (.string r)] : DataW H).weights Tryz.prog 33 := by
  have ho := tensorOff
  cases hu : Tryz.prog.underlying 33 with
  | none => rw [hu] at ho; simp at ho
  | some ds =>
    rw [hu] at ho
    cases ds with
    | struct fs =>
      simp only at ho
      obtain ⟨fl⟩ := fs
      match fl, ho with
      | [f0, f1, f2, f3], ho => simp [DataW.weights, hu, DataW.weightsEach]
    | _ => simp at ho
set_option maxRecDepth 100000 in
/-- a tensor -/
theorem open_tensor {v : Value} {d : DataW H} {p : List MemPlace} (h : DataW.Trod enc Tryz.prog w base spare held 33 v d p) (hv : ∃ cs, v = .agg cs ∧ cs.size = Tryz.prog.cellsOf 33)
    (hz : ∀ n ∈ d.weights Tryz.prog 33, n ≤ reachBytes) : ∃ (t : Ten) (A : Option Addr) (c : Nat), v = t_tv t.name t.kind (.slice A t.dims.length c) t.data ∧ Tok w t A := by
  obtain ⟨cs, rfl, hcs⟩ := hv
  obtain ⟨fuel, h⟩ := h
  have ho := tensorOff
  rw [tensorCells] at hcs
  cases hu : Tryz.prog.underlying 33 with
  | none => rw [hu] at ho; simp at ho
  | some ds =>
    rw [hu] at ho
    cases ds with
    | struct fs =>
      simp only at ho
      obtain ⟨xs, m, rfl, hx, hlen, hxl, hf⟩ := DataW.trod_struct hu h
      obtain ⟨fl⟩ := fs
      match fl, ho with
      | [f0, f1, f2, f3], ho =>
        simp only [List.map_cons, List.map_nil, List.cons.injEq, Prod.mk.injEq, and_true] at ho
        obtain ⟨⟨o0, t0⟩, ⟨o1, t1⟩, ⟨o2, t2⟩, ⟨o3, t3⟩⟩ := ho
        obtain ⟨cl⟩ := cs
        have hcl : cl.length = 4 := hcs
        match cl, hcl, xs, hxl with
        | [c0, c1, c2, c3], _, [x0, x1, x2, x3], _ =>
          have h0 := hf 0 f0 rfl
          have h1 := hf 1 f1 rfl
          have h2 := hf 2 f2 rfl
          have h3 := hf 3 f3 rfl
          rw [o0, t0, cellsStr7] at h0
          rw [o1, t1, cellsKind7] at h1
          rw [o2, t2, cellsInts7] at h2
          rw [o3, t3, cellsStr7] at h3
          simp only [Value.cells, List.drop_zero, List.drop_succ_cons, List.take_succ_cons, List.take_zero, List.getElem?_cons_zero, List.getElem?_cons_succ] at h0 h1 h2 h3
          obtain ⟨a0, e0, r0, w0⟩ := DataW.trod_string Tryz.underlying9 h0
          obtain ⟨a1, e1, r1, w1⟩ := DataW.trod_int Tryz.underlying30 h1
          obtain ⟨a3, e3, r3, w3⟩ := DataW.trod_string Tryz.underlying9 h3
          simp only [List.cons.injEq, and_true] at e0 e1 e3
          have hs : ∃ a l c, c2 = .slice a l c := by
            rcases open_slice Tryz.underlying31 h2 with ⟨hc, _⟩ | ⟨a, len, cap, m, n, D, Pl, hc, _⟩
            · simp only [List.cons.injEq, and_true] at hc; exact ⟨_, _, _, hc⟩
            · simp only [List.cons.injEq, and_true] at hc; exact ⟨_, _, _, hc⟩
          obtain ⟨sa, sl, sc, rfl⟩ := hs
          obtain ⟨x2d, x2p⟩ := x2
          obtain ⟨A, c, l, e2, hsr, hll, hin⟩ := open_ints64 Tryz.underlying31 ⟨m, h2⟩ ⟨sa, sl, sc, rfl⟩
          rw [e2]
          subst e0 e1 e3
          have hd : d = .agg [.lit (.string a0.data.toList), .lit (.int .i64 a1), x2d, .lit (.string a3.data.toList)] := by
            have := congrArg Prod.fst hx
            rw [r0, r1, r3] at this
            simpa using this
          subst hd
          have hw := weights_tensor (H := H) a0.data.toList a3.data.toList a1 x2d
          have z0 := hz _ hw.1
          have z3 := hz _ hw.2
          rw [reach7] at z0 z3
          exact ⟨⟨a0, a1, l, a3⟩, A, c, rfl, ⟨by simpa using z0, by simpa using z3, w1, hsr, hll, hin⟩⟩
    | _ => simp at ho
end
end Go.Proofs.YtmmcfhgbjmfbaaaGreat
/- The law PbtensorWrites (agatelaw09): for every input that can be read the call returns true, and its arguments read behind it as before. -/
namespace Go.Proofs.YtmmcfhgbjmfbaaaGreat.pbtensorWrites
open Go.ChangeShapes Go.WideShapes Go.ChangeAt Go.RowKit
open Go.ChangeMaps (open_string shut_string)
set_option linter.unusedVariables false
theorem own : ownKnob Tryz.prog.godebug = none := by kernel_rfl
theorem laidOut : laidOutB Tryz.prog = true := by kernel_rfl
theorem readable : ([33, 22].all fun t => Tryz.prog.readableRec t && decide (t < Tryz.prog.types.size)) = true := by kernel_rfl
set_option maxRecDepth 100000 in
theorem lifted (os : Os) (started : os.Started) (H : Type) (enc : TypeId × Value → H) :
    ReturnsInHanded {} Tryz.checked os 4 .any (Rows.pbtensorWritesSpec.pre6 enc Tryz.prog Tryz.f4 Rows.pbtensorWritesRow.domain false) (Rows.pbtensorWritesSpec.post enc Tryz.prog Tryz.f4 false true false false) := by
  refine returnsInHanded_of_change_sized (C := Tryz.checked) own started (by kernel_rfl) Tryz.func4
    (ChangeSpec.witness6 (enc := enc) (C := Tryz.checked) false ⟨#[], #[.agg #[.string ByteArray.empty, .int .i64 0, .slice none 0 0, .string ByteArray.empty], .slice none 0 0], []⟩ 8 (by kernel_rfl) (by kernel_rfl) (by kernel_rfl) (by kernel_rfl)) ?_
  intro W base args ds gs before hval0 hW hcnd hsz _
  have hval : ∀ (j : Nat) t v, Tryz.f4.params[j]? = some t → args[j]? = some v → Value.okWide Tryz.prog W .any base t v := hval0
  have hW' := hW
  obtain ⟨p, q, hA0, hV, rfl, hfz, hnd⟩ := hW
  have hA : DataW.TrodAll enc Tryz.prog W 0 (fun _ => true) true Tryz.f4.params.toList args.toList ds p := hA0
  rw [Tryz.params4] at hA hval
  obtain ⟨rfl, rfl⟩ := trodVars_none hV
  have hkeep := hA
  have hcalls : Calls Tryz.prog 4 args W fun e W' => e = .returned (.bool true) ∧ Below W.heap.size W W' := by
    clear hW' hA0 hval0 hfz hnd hV hkeep
    obtain ⟨v0, vs0, d0, ds0, p0, q0, hargs, rfl, rfl, h0, r0⟩ := trodAll_cons hA
    obtain ⟨v1, vs1, d1, ds1, p1, q1, rfl, rfl, rfl, h1, r1⟩ := trodAll_cons r0
    obtain ⟨rfl, rfl, rfl⟩ := trodAll_nil r1
    obtain rfl : args = #[v0, v1] := by cases args; simp_all
    obtain ⟨fs, hfs⟩ := tensorStruct
    have hv0 := okWide_struct hfs (hval 0 33 v0 rfl rfl)
    have hv1 := okWide_slice Tryz.underlying22 (hval 1 22 v1 rfl rfl)
    have hz0 : ∀ n ∈ d0.weights Tryz.prog 33, n ≤ reachBytes := fun n hn => by
      have := List.all_eq_true.1 hsz n (DataW.weights_mem_each (j := 0) (t := 33) (d := d0) rfl rfl n hn)
      simpa using this
    have hz1 : ∀ n ∈ d1.weights Tryz.prog 22, n ≤ reachBytes := fun n hn => by
      have := List.all_eq_true.1 hsz n (DataW.weights_mem_each (j := 1) (t := 22) (d := d1) rfl rfl n hn)
      simpa using this
    obtain ⟨t, At, ct, rfl, ht⟩ := open_tensor h0 hv0 hz0
    obtain ⟨A, c, l, rfl, hs1, hl1, hok⟩ := open_files Tryz.underlying22 h1 hv1 hz1
    exact writes9_walk t At ct l A c W ht hl1 hok hs1
  refine hcalls.mono fun e W' ⟨he, bel⟩ => ?_
  subst he
  have hargs := below_trodAll laidOut bel readable hkeep
  have hlen := trodAll_length hkeep
  match ds, hlen, hargs, hW' with
  | [e0, e1], _, hargs, hW' => exact ⟨_, rfl, _, _, _, [], _, [], hW', trodAll_mk1 (shut_bool Tryz.underlying4 _), hargs, rfl, bel.frame _, fun h => by cases h⟩

theorem over : Rows.pbtensorWritesRow.holds Tryz.pinned (OpenSpec.ofChange Rows.pbtensorWritesSpec) :=
  OpenClaim.holds_of_wide 4 Tryz.f4 rfl rfl rfl rfl rfl rfl rfl ⟨rfl, rfl, rfl, rfl, rfl⟩ rfl rfl rfl rfl rfl (by kernel_rfl) Tryz.func4 (by kernel_rfl)
    (of_decide_eq_true (by kernel_rfl)) (by unfold Func.isWrapper; first | (rw [if_pos (by decide +kernel)]; kernel_rfl) | (rw [if_neg (by decide +kernel)]; exact ⟨rfl, rfl⟩))
    (fun os started H enc _ => lifted os started H enc)
theorem proved : Rows.PbtensorWritesSaid := over
#print axioms proved
end Go.Proofs.YtmmcfhgbjmfbaaaGreat.pbtensorWrites
