/- The law PbtensorReads (agatelaw09): for every input that can be read the call returns true, and its arguments read behind it as before. -/
import Derived.Test.YtmmcfhgbjmfbaaaGreatOOpen
import Derived.Test.YtmmcfhgbjmfbaaaGreatBAwake
import Derived.Test.YtmmcfhgbjmfbaaaGreatBRead
import Derived.Test.YtmmcfhgbjmfbaaaGreatBRefM
import Derived.Test.YtmmcfhgbjmfbaaaGreatTCheck
import Derived.Test.YtmmcfhgbjmfbaaaGreatLift
import Derived.SizedLaws
/- The walk of the law PbtensorReads. -/
namespace Go.Proofs.YtmmcfhgbjmfbaaaGreat
open Go.RowKit M2 M8 M9 Go.Sort
open M7 (Ten ck)

structure TenOk (t : Ten) : Prop where
  name : t.name.size ≤ 1048576
  data : t.data.size ≤ 1048576
  kind0 : 0 ≤ t.kind
  kind1 : t.kind ≤ 14
  dl : t.dims.length ≤ 8
  di : ∀ n ∈ t.dims, I64 n
theorem z9_ok : TenOk z9 := ⟨et_le _, et_le _, by decide, by decide, by decide, by simp [z9]⟩
theorem rd9_is (b : ByteArray) (fs : List Fl) : TenOk (rd9 b fs).1 := by
  unfold rd9
  split
  · exact z9_ok
  · have h := msg_ok b
    have he := elems_size h fs
    unfold fin
    split
    · exact z9_ok
    · split
      · exact z9_ok
      · rename_i h2
        have h3 := M7.ck_zero (Decidable.of_not_not h2)
        exact ⟨h.name, he, h.kind0, h.kind1, (M5.sz_shp h3.2.2.1).len, h.di⟩
theorem TenOk.tok {t : Ten} (h : TenOk t) {w : World} {B : Nat} {A : Option Addr} {c : Nat} (ho : w.ownsRow B 2 1 (.slice A t.dims.length c) t.dims.length (iv t.dims)) : Tok w t A :=
  ⟨by have := h.name; omega, by have := h.data; omega, WalkArith.wf_i64 (by have := h.kind0; have := h.kind1; omega), SR.of_own ho, by have := h.dl; unfold maxLen; omega, h.di⟩

set_option maxRecDepth 100000 in
set_option maxHeartbeats 4000000 in
theorem reads9_walk (b : ByteArray) (l : List Fl) (A : Option Addr) (c : Nat) (w : World) (hb : b.size ≤ 140737488351232) (hl : l.length ≤ 4398046510976) (hs : ∀ f ∈ l, FlOk f) (hA : SR w w.heap.size 2 A l.length (fcl l)) :
    Calls Tryz.prog 3 #[.string b, .slice A l.length c] w fun e w' => e = .returned (.bool true) ∧ Below w.heap.size w w' := by
  have HAW := Lib.hid (fun W => b_awake_any W)
  have HLD := Lib.hid (laid9_any l A c w hl hs hA)
  clear hA hs
  go_enter Tryz.func3, Tryz.ntmps3
  go_wp2_with fail
  refine HLD.out.mono ?_
  rintro e w1 ⟨mb, V, n, vc, ok, rfl, hok, hb1⟩
  have HB1 := Lib.hid hb1
  have hst1 := Bx.start w1 #[.map mb] 25
  have HX1 := Lib.hid hst1
  have HOK := Lib.hid hok
  clear hb1 hok HLD hst1
  cases ok
  · go_wp2_with fail
    refine (HAW.out _).mono ?_
    rintro e w2 ⟨rfl, hb2⟩
    have HB := Lib.hid (HB1.out.trans ((HX1.out.below hb2).all.mono HB1.out.size))
    clear hb2
    go_wp2_with fail
    go_ret
    exact ⟨rfl, HB.out⟩
  · by_cases h3 : 3000 < b.size
    · have h3' : (3000 : Int) < (b.size : Int) := by omega
      go_wp2_with fail
      refine (HAW.out _).mono ?_
      rintro e w2 ⟨rfl, hb2⟩
      have HB := Lib.hid (HB1.out.trans ((HX1.out.below hb2).all.mono HB1.out.size))
      clear hb2
      go_wp2_with fail
      go_ret
      exact ⟨rfl, HB.out⟩
    · have h3' : ¬ (3000 : Int) < (b.size : Int) := by omega
      obtain ⟨hc, ht, rfl, ⟨B, hst⟩, hsr⟩ := HOK.out rfl
      have HLL := Lib.hid (show l.length ≤ 100 from by
        by_cases h : 64 < l.length
        · rw [newC_size h] at hc; cases hc
        · omega)
      have HFS := Lib.hid (fun f (hf : f ∈ l) => show f.data.size ≤ 10000 by have := totL_mem hf; omega)
      have HR1 := Lib.hid (b_read_any b B l mb (w1.alloc (.cells #[.map mb] 25)) (by unfold maxLen; omega) (fun f hf => by have := HFS.out f hf; unfold maxLen; omega) (hst.below HX1.out.all))
      have HR2 := Lib.hid (fun W (h : Below w1.heap.size w1 W) => rread9_any b V vc l W (by unfold maxLen; omega) HLL.out HFS.out ((hsr.below h).more h.size))
      have HTO := Lib.hid (rd9_is b l)
      clear hc ht hst hsr HOK
      generalize rd9 b l = R at *
      obtain ⟨t, K⟩ := R
      try dsimp only at HTO
      go_wp2_with fail
      refine HR1.out.mono ?_
      rintro e w2 ⟨v1, rfl, hown1, hb2⟩
      try dsimp only at hown1
      obtain ⟨A1, c1, rfl, -, -⟩ := own_form hown1
      have hal := hb2.alloc hb2.size (.cells #[.string t.name, .int .i64 t.kind, .slice A1 t.dims.length c1, .string t.data] 33)
      have HX2 := Lib.hid (HX1.out.below hal)
      have HY2 := Lib.hid ((HX1.out.below hb2).next #[.string t.name, .int .i64 t.kind, .slice A1 t.dims.length c1, .string t.data] 33)
      have HO1 := Lib.hid (own_keep hown1 ((Below.refl w2.heap.size w2).alloc (Nat.le_refl _) (.cells #[.string t.name, .int .i64 t.kind, .slice A1 t.dims.length c1, .string t.data] 33)))
      clear hb2 hal hown1 HR1
      go_wp2_with fail
      refine (HR2.out _ HX2.out.all).mono ?_
      rintro e w3 ⟨v2, rfl, hown2, hb3⟩
      try dsimp only at hown2
      obtain ⟨A2, c2, rfl, -, -⟩ := own_form hown2
      have hal := hb3.alloc hb3.size (.cells #[.string t.name, .int .i64 t.kind, .slice A2 t.dims.length c2, .string t.data] 38)
      have HX3 := Lib.hid (HX2.out.below hal)
      have HY3 := Lib.hid (HY2.out.below hal)
      have HZ3 := Lib.hid ((HY2.out.below hb3).next #[.string t.name, .int .i64 t.kind, .slice A2 t.dims.length c2, .string t.data] 38)
      have hT1 := HTO.out.tok (own_keep HO1.out hal)
      have hT2 := HTO.out.tok (own_keep hown2 ((Below.refl w3.heap.size w3).alloc (Nat.le_refl _) (.cells #[.string t.name, .int .i64 t.kind, .slice A2 t.dims.length c2, .string t.data] 38)))
      have HT1 := Lib.hid hT1
      have HT2 := Lib.hid hT2
      clear hb3 hal hown2 HR2 HX2 HY2 HO1 hT1 hT2 HX1
      go_upto_region 6 with fail
      generalize w3.alloc (.cells #[.string t.name, .int .i64 t.kind, .slice A2 t.dims.length c2, .string t.data] 38) = W at *
      obtain ⟨a0, a1, a2, a3⟩ := HY3.out.four
      obtain ⟨z0, z1, z2, z3⟩ := HZ3.out.four
      have k0 := fun d os => cell_regrown a0 d os
      have k1 := fun d os => cell_regrown a1 d os
      have k2 := fun d os => cell_regrown a2 d os
      have k3 := fun d os => cell_regrown a3 d os
      have l0 := fun d os => cell_regrown z0 d os
      have l1 := fun d os => cell_regrown z1 d os
      have l2 := fun d os => cell_regrown z2 d os
      have l3 := fun d os => cell_regrown z3 d os
      have HOF := Lib.hid (fun W => law7of_any t.name t.kind A1 t.dims.length c1 t.data W)
      have HSM := Lib.hid (fun W' (h : Below W.heap.size W W') => rsame_any t t A1 A2 c1 c2 W' (HT1.out.below h) (HT2.out.below h) (by have := HTO.out.dl; omega))
      rw [show sameT t t = true from sameT_yes rfl rfl rfl rfl] at HSM
      have HB := Lib.hid (HB1.out.trans (HX3.out.all.mono HB1.out.size))
      clear a0 a1 a2 a3 z0 z1 z2 z3 HT1 HT2 HTO HX3 HY3 HZ3
      obtain ⟨tn, tk, td, tb⟩ := t
      dsimp only at k0 k1 k2 k3 l0 l1 l2 l3 HOF HSM
      refine wp_region_quiet_below (by kernel_rfl) (by kernel_rfl) ?_
      repeat (go_big_quiet_step ((first | (go_at_call 6; exact Calls.regrown_of (HAW.out _)) | (go_at_call 10; exact Calls.regrown_of (HOF.out _)) | (go_at_call 9; exact Calls.regrown_of (HSM.out _ (below_regrown _ _ _))))))
      refine wpQuiet_nil ?_
      rintro w4 ⟨p4, rfl⟩
      have hbp := below_regrown W p4.d p4.os
      generalize grow (redrawn W p4.d) p4.os = w4 at hbp ⊢
      have HF := Lib.hid (HB.out.trans (hbp.mono (HB.out.size)))
      clear hbp k0 k1 k2 k3 l0 l1 l2 l3
      go_wp2_with fail
      go_ret
      exact ⟨rfl, HF.out⟩
end Go.Proofs.YtmmcfhgbjmfbaaaGreat
/- The law PbtensorReads (agatelaw09): for every input that can be read the call returns true, and its arguments read behind it as before. -/
namespace Go.Proofs.YtmmcfhgbjmfbaaaGreat.pbtensorReads
open Go.ChangeShapes Go.WideShapes Go.ChangeAt Go.RowKit
open Go.ChangeMaps (open_string shut_string)
set_option linter.unusedVariables false
theorem own : ownKnob Tryz.prog.godebug = none := by kernel_rfl
theorem laidOut : laidOutB Tryz.prog = true := by kernel_rfl
theorem readable : ([9, 22].all fun t => Tryz.prog.readableRec t && decide (t < Tryz.prog.types.size)) = true := by kernel_rfl
set_option maxRecDepth 100000 in
theorem lifted (os : Os) (started : os.Started) (H : Type) (enc : TypeId × Value → H) :
    ReturnsInHanded {} Tryz.checked os 3 .any (Rows.pbtensorReadsSpec.pre6 enc Tryz.prog Tryz.f3 Rows.pbtensorReadsRow.domain false) (Rows.pbtensorReadsSpec.post enc Tryz.prog Tryz.f3 false true false false) := by
  refine returnsInHanded_of_change_sized (C := Tryz.checked) own started (by kernel_rfl) Tryz.func3
    (ChangeSpec.witness6 (enc := enc) (C := Tryz.checked) false ⟨#[], #[.string ByteArray.empty, .slice none 0 0], []⟩ 8 (by kernel_rfl) (by kernel_rfl) (by kernel_rfl) (by kernel_rfl)) ?_
  intro W base args ds gs before hval0 hW hcnd hsz _
  have hval : ∀ (j : Nat) t v, Tryz.f3.params[j]? = some t → args[j]? = some v → Value.okWide Tryz.prog W .any base t v := hval0
  have hW' := hW
  obtain ⟨p, q, hA0, hV, rfl, hfz, hnd⟩ := hW
  have hA : DataW.TrodAll enc Tryz.prog W 0 (fun _ => true) true Tryz.f3.params.toList args.toList ds p := hA0
  rw [Tryz.params3] at hA hval
  obtain ⟨rfl, rfl⟩ := trodVars_none hV
  have hkeep := hA
  have hcalls : Calls Tryz.prog 3 args W fun e W' => e = .returned (.bool true) ∧ Below W.heap.size W W' := by
    clear hW' hA0 hval0 hfz hnd hV hkeep
    obtain ⟨v0, vs0, d0, ds0, p0, q0, hargs, rfl, rfl, h0, r0⟩ := trodAll_cons hA
    obtain ⟨v1, vs1, d1, ds1, p1, q1, rfl, rfl, rfl, h1, r1⟩ := trodAll_cons r0
    obtain ⟨rfl, rfl, rfl⟩ := trodAll_nil r1
    obtain rfl : args = #[v0, v1] := by cases args; simp_all
    have hv1 := okWide_slice Tryz.underlying22 (hval 1 22 v1 rfl rfl)
    have hz0 : ∀ n ∈ d0.weights Tryz.prog 9, n ≤ reachBytes := fun n hn => by
      have := List.all_eq_true.1 hsz n (DataW.weights_mem_each (j := 0) (t := 9) (d := d0) rfl rfl n hn)
      simpa using this
    have hz1 : ∀ n ∈ d1.weights Tryz.prog 22, n ≤ reachBytes := fun n hn => by
      have := List.all_eq_true.1 hsz n (DataW.weights_mem_each (j := 1) (t := 22) (d := d1) rfl rfl n hn)
      simpa using this
    obtain ⟨s0, rfl, rfl, rfl, w0⟩ := open_string Tryz.underlying9 (hval 0 9 v0 rfl rfl) h0
    obtain ⟨A, c, l, rfl, hs1, hl1, hok⟩ := open_files Tryz.underlying22 h1 hv1 hz1
    have hk : s0.size ≤ 140737488351232 := by
      have e : reachBytes = 140737488351232 := by decide
      have := hz0 s0.data.toList.length (by simp [DataW.weights])
      rw [e] at this
      simpa using this
    exact reads9_walk s0 l A c W hk hl1 hok hs1
  refine hcalls.mono fun e W' ⟨he, bel⟩ => ?_
  subst he
  have hargs := below_trodAll laidOut bel readable hkeep
  have hlen := trodAll_length hkeep
  match ds, hlen, hargs, hW' with
  | [e0, e1], _, hargs, hW' => exact ⟨_, rfl, _, _, _, [], _, [], hW', trodAll_mk1 (shut_bool Tryz.underlying4 _), hargs, rfl, bel.frame _, fun h => by cases h⟩

theorem over : Rows.pbtensorReadsRow.holds Tryz.pinned (OpenSpec.ofChange Rows.pbtensorReadsSpec) :=
  OpenClaim.holds_of_wide 3 Tryz.f3 rfl rfl rfl rfl rfl rfl rfl ⟨rfl, rfl, rfl, rfl, rfl⟩ rfl rfl rfl rfl rfl (by kernel_rfl) Tryz.func3 (by kernel_rfl)
    (of_decide_eq_true (by kernel_rfl)) (by unfold Func.isWrapper; first | (rw [if_pos (by decide +kernel)]; kernel_rfl) | (rw [if_neg (by decide +kernel)]; exact ⟨rfl, rfl⟩))
    (fun os started H enc _ => lifted os started H enc)
theorem proved : Rows.PbtensorReadsSaid := over
#print axioms proved
end Go.Proofs.YtmmcfhgbjmfbaaaGreat.pbtensorReads
