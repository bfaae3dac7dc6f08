import Derived.Test.YtjjfdlgoacockaaGreatMNew
import Derived.Deep.RegionWith
import Derived.Deep.RegionHeld
import Derived.Deep.CutRange
import Derived.Deep.RegionLaw
import Derived.Deep.AppendLies
namespace Go.Proofs.YtjjfdlgoacockaaGreat
open Go.RowKit M7 M10 Go.Sort

structure LOf (w : World) (g3 : Nat) (bc zc mc : Array Value) (W : World) : Prop where
  a : Bx w w.heap.size bc 34 W
  b : Bx w (w.heap.size + 1) zc 42 W
  c : Bx w g3 mc 42 W
  lt : w.heap.size + 1 < g3
section
variable {w W W' : World} {g3 : Nat} {bc zc mc : Array Value}
theorem LOf.below (h : LOf w g3 bc zc mc W) (hb : Below W.heap.size W W') : LOf w g3 bc zc mc W' := ⟨h.a.below hb, h.b.below hb, h.c.below hb, h.lt⟩
theorem LOf.more (h : LOf w g3 bc zc mc W) (o : Obj) : LOf w g3 bc zc mc (W.alloc o) := ⟨h.a.more o, h.b.more o, h.c.more o, h.lt⟩
theorem LOf.drew (h : LOf w g3 bc zc mc W) : LOf w g3 bc zc mc W.drew := ⟨h.a.drew10, h.b.drew10, h.c.drew10, h.lt⟩
theorem LOf.set (h : LOf w g3 bc zc mc W) (i : Nat) (v : Value) : LOf w g3 bc zc (mc.setIfInBounds i v) (W.setCell ⟨g3, i, none⟩ v) := by
  have := h.lt
  exact ⟨h.a.far_set v (by omega) (by omega), h.b.far_set v (by omega) (by omega), h.c.set (by omega) i v, h.lt⟩
theorem LOf.grown (h : LOf w g3 bc zc mc W) {B s n : Nat} {e : TypeId} {v : Value} {ys : List Value} (ho : W.ownsRow B e s v n ys) (hB : w.heap.size ≤ B) (h1 : 34 ≠ e) (h2 : 42 ≠ e) (hg : W.grownBy W' v.ownBlock) : LOf w g3 bc zc mc W' :=
  ⟨h.a.grown hg (own_far ho h.a.1 h1) (fun _ hq => Nat.le_trans hB (own_blk ho hq).1), h.b.grown hg (own_far ho h.b.1 h2) (fun _ hq => Nat.le_trans hB (own_blk ho hq).1), h.c.grown hg (own_far ho h.c.1 h2) (fun _ hq => Nat.le_trans hB (own_blk ho hq).1), h.lt⟩
end
structure LRs (W : World) (B : Nat) (l1 l2 : List Inf) (l3 : List Ten) (l4 : List Nod) (v1 v2 v3 v4 : Value) : Prop where
  r1 : RR InfAt W B 89 3 v1 l1
  r2 : RR InfAt W B 89 3 v2 l2
  r3 : RR TenAt W B 85 4 v3 l3
  r4 : RR RNod W B 80 4 v4 l4
section
variable {W W' : World} {B : Nat} {l1 l2 : List Inf} {l3 : List Ten} {l4 : List Nod} {v1 v2 v3 v4 : Value}
theorem LRs.keep (h : LRs W B l1 l2 l3 l4 v1 v2 v3 v4) (hb : Below W.heap.size W W') (hB : B ≤ W.heap.size) : LRs W' B l1 l2 l3 l4 v1 v2 v3 v4 := ⟨h.r1.keep er_inf hb hB, h.r2.keep er_inf hb hB, h.r3.keep er_ten hb hB, h.r4.keep er_nod hb hB⟩
theorem LRs.more (h : LRs W B l1 l2 l3 l4 v1 v2 v3 v4) (o : Obj) (hB : B ≤ W.heap.size) : LRs (W.alloc o) B l1 l2 l3 l4 v1 v2 v3 v4 := h.keep ((Below.refl _ _).alloc (Nat.le_refl _) o) hB
theorem LRs.set (h : LRs W B l1 l2 l3 l4 v1 v2 v3 v4) {g : Nat} {cur : Array Value} {i : Nat} {u : Value} (hg : W.heap[g]? = some (.cells cur 42 (0, 0))) (hB : B ≤ g) : LRs (W.setCell ⟨g, i, none⟩ u) B l1 l2 l3 l4 v1 v2 v3 v4 :=
  ⟨h.r1.set er_inf hg trivial (by decide) hB, h.r2.set er_inf hg trivial (by decide) hB, h.r3.set er_ten hg trivial (by decide) hB, h.r4.set er_nod hg (by decide) (by decide) hB⟩
theorem LRs.grown3 (h : LRs W B l1 l2 l3 l4 v1 v2 v3 v4) {t : Ten} {cs : List Value} {v' : Value} {css : List (List Value)} (hal : Al (TenAt B W) l3 css) (hsz : ∀ c ∈ css, c.length = 4) (ho : W.ownsRow B 85 4 v3 l3.length css.flatten)
    (ht : TenAt B W t cs) (ho' : W'.ownsRow B 85 4 v' (l3.length + 1) (css.flatten ++ cs)) (hg : W.grownBy W' v3.ownBlock) (hB : B ≤ W.heap.size) : LRs W' B l1 l2 (l3 ++ [t]) l4 v1 v2 v' v4 :=
  ⟨h.r1.grown er_inf ho trivial (by decide) hg hB, h.r2.grown er_inf ho trivial (by decide) hg hB,
   ⟨css ++ [cs], (hal.mono fun _ _ hp => er_ten.grown hp ho trivial hg hB).snoc (er_ten.grown ht ho trivial hg hB), fun c hc => by
      rcases List.mem_append.1 hc with h1 | h1
      · exact hsz c h1
      · simp at h1; rw [h1]; exact ek_ten.len ht, by rw [flatten_snoc, List.length_append]; exact ho'⟩,
   h.r4.grown er_nod ho (by decide) (by decide) hg hB⟩
theorem LRs.grown4 (h : LRs W B l1 l2 l3 l4 v1 v2 v3 v4) {t : Nod} {cs : List Value} {v' : Value} {css : List (List Value)} (hal : Al (RNod B W) l4 css) (hsz : ∀ c ∈ css, c.length = 4) (ho : W.ownsRow B 80 4 v4 l4.length css.flatten)
    (ht : RNod B W t cs) (ho' : W'.ownsRow B 80 4 v' (l4.length + 1) (css.flatten ++ cs)) (hg : W.grownBy W' v4.ownBlock) (hB : B ≤ W.heap.size) : LRs W' B l1 l2 l3 (l4 ++ [t]) v1 v2 v3 v' :=
  ⟨h.r1.grown er_inf ho trivial (by decide) hg hB, h.r2.grown er_inf ho trivial (by decide) hg hB, h.r3.grown er_ten ho trivial (by decide) hg hB,
   ⟨css ++ [cs], (hal.mono fun _ _ hp => er_nod.grown hp ho (by decide) hg hB).snoc (er_nod.grown ht ho (by decide) hg hB), fun c hc => by
      rcases List.mem_append.1 hc with h1 | h1
      · exact hsz c h1
      · simp at h1; rw [h1]; exact er_nod.len ht, by rw [flatten_snoc, List.length_append]; exact ho'⟩⟩
theorem LRs.at_ {m : Mod} {B1 B2 B3 B4 : Option Addr} {d1 d2 d3 d4 : Nat} (h : LRs W B m.inputs m.outputs m.inits m.nodes (.slice B1 m.inputs.length d1) (.slice B2 m.outputs.length d2) (.slice B3 m.inits.length d3) (.slice B4 m.nodes.length d4)) (hB : B ≤ W.heap.size)
    (ho : I64 m.opset) (h1 : m.inputs.length * 48 ≤ 140737488351232) (h2 : m.outputs.length * 48 ≤ 140737488351232) (h3 : m.inits.length * 64 ≤ 140737488351232) (h4 : m.nodes.length * 80 ≤ 140737488351232) : ModAt W.heap.size W m B1 B2 B3 B4 :=
  ⟨h.r1.read fun _ _ _ hp => ek_inf.more hp hB, h.r2.read fun _ _ _ hp => ek_inf.more hp hB, h.r3.read fun _ _ _ hp => ek_ten.more hp hB, h.r4.read fun _ _ _ hp => hp.at_ hB, ho, h1, h2, h3, h4⟩
end
theorem lten_any (t : Ten) (A : Option Addr) (c : Nat) (w : World) : Calls Tryz.prog 34 #[.agg #[.string t.name, .int .i64 t.kind, .slice A t.dims.length c, .string t.data]] w fun e w' => e = .returned (.agg #[.string t.name, .int .i64 t.kind, .slice A t.dims.length c, .string t.data]) ∧ Below w.heap.size w w' :=
  law7of_any t.name t.kind A t.dims.length c t.data w

structure LAB (w : World) (bc zc : Array Value) (W : World) : Prop where
  a : Bx w w.heap.size bc 34 W
  b : Bx w (w.heap.size + 1) zc 42 W
section
variable {w W W' : World} {g3 : Nat} {bc zc mc : Array Value}
theorem LAB.below (h : LAB w bc zc W) (hb : Below W.heap.size W W') : LAB w bc zc W' := ⟨h.a.below hb, h.b.below hb⟩
theorem LAB.more (h : LAB w bc zc W) (o : Obj) : LAB w bc zc (W.alloc o) := ⟨h.a.more o, h.b.more o⟩
theorem LAB.mkA {a0 a1 a2 a3 a4 : Value} (h : LAB w bc zc W) (hc : Bx w g3 #[a0, a1, a2, a3, a4] 42 W) (hlt : w.heap.size + 1 < g3) (v0 v1 v2 v3 v4 : Value) :
    LOf w g3 bc zc #[v0, v1, v2, v3, v4] (((((W.setCell ⟨g3, 0, none⟩ v0).setCell ⟨g3, 1, none⟩ v1).setCell ⟨g3, 2, none⟩ v2).setCell ⟨g3, 3, none⟩ v3).setCell ⟨g3, 4, none⟩ v4) :=
  ⟨h.a.far_set5 v0 v1 v2 v3 v4 (by omega) (by omega), h.b.far_set5 v0 v1 v2 v3 v4 (by omega) (by omega), hc.five_put (by omega) v0 v1 v2 v3 v4, hlt⟩
theorem LAB.mkC (h : LAB w bc zc W) (mc : Array Value) : LOf w W.heap.size bc zc mc (W.alloc (.cells mc 42)) := ⟨h.a.more _, h.b.more _, h.a.next mc 42, h.b.2.1⟩
theorem LRs.set5 {B : Nat} {l1 l2 : List Inf} {l3 : List Ten} {l4 : List Nod} {r1 r2 r3 r4 : Value} {cur : Array Value} (h : LRs W B l1 l2 l3 l4 r1 r2 r3 r4) (hg : W.heap[g3]? = some (.cells cur 42 (0, 0))) (hB : B ≤ g3) (v0 v1 v2 v3 v4 : Value) :
    LRs (((((W.setCell ⟨g3, 0, none⟩ v0).setCell ⟨g3, 1, none⟩ v1).setCell ⟨g3, 2, none⟩ v2).setCell ⟨g3, 3, none⟩ v3).setCell ⟨g3, 4, none⟩ v4) B l1 l2 l3 l4 r1 r2 r3 r4 := by
  have g1 := heap_setCell_same W g3 0 _ 42 v0 hg
  have g2 := heap_setCell_same _ g3 1 _ 42 v1 g1
  have g3' := heap_setCell_same _ g3 2 _ 42 v2 g2
  have g4 := heap_setCell_same _ g3 3 _ 42 v3 g3'
  exact ((((h.set hg hB).set g1 hB).set g2 hB).set g3' hB).set g4 hB
end
theorem rr_nil_any {α : Type} {P : Nat → World → α → List Value → Prop} {W : World} {B : Nat} {T : TypeId} {n : Nat} : RR P W B T n (.slice none 0 0) [] := RR.nil W B T n

set_option maxRecDepth 100000 in
set_option maxHeartbeats 8000000 in
theorem lof_any (m : Mod) (A1 A2 A3 A4 : Option Addr) (c1 c2 c3 c4 : Nat) (w : World) (hm : ModAt w.heap.size w m A1 A2 A3 A4) :
    Calls Tryz.prog 10 #[.agg (mv m.opset A1 m.inputs.length c1 A2 m.outputs.length c2 A3 m.inits.length c3 A4 m.nodes.length c4)] w fun e w' => ∃ B1 B2 B3 B4 d1 d2 d3 d4,
      e = .returned (.agg (mv m.opset B1 m.inputs.length d1 B2 m.outputs.length d2 B3 m.inits.length d3 B4 m.nodes.length d4)) ∧ ModAt w'.heap.size w' m B1 B2 B3 B4 ∧ Below w.heap.size w w' := by
  have HM := Lib.hid hm
  have HT := Lib.hid (show LAB w #[.int .i64 m.opset, .slice A1 m.inputs.length c1, .slice A2 m.outputs.length c2, .slice A3 m.inits.length c3, .slice A4 m.nodes.length c4] #[.int .i64 0, .slice none 0 0, .slice none 0 0, .slice none 0 0, .slice none 0 0] _ from ⟨((Bx.start w #[.int .i64 m.opset, .slice A1 m.inputs.length c1, .slice A2 m.outputs.length c2, .slice A3 m.inits.length c3, .slice A4 m.nodes.length c4] 34).more (.cells #[.int .i64 0, .slice none 0 0, .slice none 0 0, .slice none 0 0, .slice none 0 0] 42)).drew10, (Bx.two w (.cells #[.int .i64 m.opset, .slice A1 m.inputs.length c1, .slice A2 m.outputs.length c2, .slice A3 m.inits.length c3, .slice A4 m.nodes.length c4] 34) #[.int .i64 0, .slice none 0 0, .slice none 0 0, .slice none 0 0, .slice none 0 0] 42).drew10⟩)
  have H1 := Lib.hid (fun W (h : Below w.heap.size w W) => linfos_any w.heap.size m.inputs A1 c1 W h.size hm.len1 (hm.inputs.below ek_inf h))
  have H2 := Lib.hid (fun W (h : Below w.heap.size w W) => linfos_any w.heap.size m.outputs A2 c2 W h.size hm.len2 (hm.outputs.below ek_inf h))
  have hl3 := hm.len3
  have hl4 := hm.len4
  clear hm
  unfold mv
  go_enter Tryz.func10, Tryz.ntmps10
  go_upto_region 1 with fail
  go_cut [3] from 8 to 16 (fun s3 wx => ∃ g3 B1 B2 d1 d2, s3 = .pointer (some ⟨g3, 0, none⟩) ∧ LOf w g3 #[.int .i64 m.opset, .slice A1 m.inputs.length c1, .slice A2 m.outputs.length c2, .slice A3 m.inits.length c3, .slice A4 m.nodes.length c4] #[.int .i64 0, .slice none 0 0, .slice none 0 0, .slice none 0 0, .slice none 0 0] #[.int .i64 m.opset, .slice B1 m.inputs.length d1, .slice B2 m.outputs.length d2, .slice none 0 0, .slice none 0 0] wx ∧ LRs wx w.heap.size m.inputs m.outputs [] [] (.slice B1 m.inputs.length d1) (.slice B2 m.outputs.length d2) (.slice none 0 0) (.slice none 0 0))
  case first =>
    rename_i Q0 Kr haK J Kp hJ hMt
    clear haK HM
    generalize hw2 : (w.alloc (.cells #[.int .i64 m.opset, .slice A1 m.inputs.length c1, .slice A2 m.outputs.length c2, .slice A3 m.inits.length c3, .slice A4 m.nodes.length c4] 34)).alloc (.cells #[.int .i64 0, .slice none 0 0, .slice none 0 0, .slice none 0 0, .slice none 0 0] 42) = w2 at *
    clear hw2
    go_region_held (fun W => W.cell? ⟨w.heap.size, 0, none⟩ = some (.int .i64 m.opset) ∧ W.cell? ⟨w.heap.size, 1, none⟩ = some (.slice A1 m.inputs.length c1) ∧ W.cell? ⟨w.heap.size, 2, none⟩ = some (.slice A2 m.outputs.length c2) ∧ W.cell? ⟨w.heap.size, 3, none⟩ = some (.slice A3 m.inits.length c3) ∧ W.cell? ⟨w.heap.size, 4, none⟩ = some (.slice A4 m.nodes.length c4))
      (first | exact HLE.out.a.five | exact HT3.out.a.five | exact HT2.out.a.five | exact (HT2.out.more _).a.five | exact HT1.out.a.five | exact (HT1.out.more _).a.five | exact HT.out.a.five | exact (HT.out.more _).a.five)
      (first
        | (go_at_call 33; (with_reducible refine (H1.out _ ?hside).mono ?_); (case hside => first | exact HT.out.a.all | exact (HT.out.more _).a.all); rintro e w3 ⟨v1, rfl, hd1, hb3⟩; (have HT1 : Hid (LAB w #[.int .i64 m.opset, .slice A1 m.inputs.length c1, .slice A2 m.outputs.length c2, .slice A3 m.inits.length c3, .slice A4 m.nodes.length c4] #[.int .i64 0, .slice none 0 0, .slice none 0 0, .slice none 0 0, .slice none 0 0] w3) := (by first | exact Lib.hid (HT.out.below hb3) | exact Lib.hid ((HT.out.more _).below hb3))); (try have HC1 := Lib.hid (show Bx w w2.heap.size #[.int .i64 0, .slice none 0 0, .slice none 0 0, .slice none 0 0, .slice none 0 0] 42 w3 from (HT.out.a.next #[.int .i64 0, .slice none 0 0, .slice none 0 0, .slice none 0 0, .slice none 0 0] 42).below hb3)); have HD1 := Lib.hid hd1; (obtain ⟨B1, d1, rfl⟩ := hd1.form); clear hd1 hb3)
        | (go_at_call 33; have HC1' := HC1; (with_reducible refine (H2.out _ HT1.out.a.all).mono ?_); rintro e w4 ⟨v2, rfl, hd2, hb4⟩; have HT2 := Lib.hid (HT1.out.below hb4); have HC2 := Lib.hid (And.intro (HC1.out.below hb4) (show w.heap.size + 1 < w2.heap.size from HT.out.b.2.1)); have HD1' := Lib.hid (HD1.out.keep er_inf hb4 HT1.out.a.all.size); have HD2 := Lib.hid hd2; (obtain ⟨B2, d2, rfl⟩ := hd2.form); clear hd2 hb4; have hq5 := HC2.out.1.five; have hqf := fun i => HC2.out.1.free i; (obtain ⟨wE, hE, hxE⟩ := name_world10 (P := fun W => LOf w _ #[.int .i64 m.opset, .slice A1 m.inputs.length c1, .slice A2 m.outputs.length c2, .slice A3 m.inits.length c3, .slice A4 m.nodes.length c4] #[.int .i64 0, .slice none 0 0, .slice none 0 0, .slice none 0 0, .slice none 0 0] #[.int .i64 m.opset, .slice B1 m.inputs.length d1, .slice B2 m.outputs.length d2, .slice none 0 0, .slice none 0 0] W ∧ LRs W w.heap.size m.inputs m.outputs [] [] (.slice B1 m.inputs.length d1) (.slice B2 m.outputs.length d2) (.slice none 0 0) (.slice none 0 0)) ⟨HT2.out.mkA HC2.out.1 HC2.out.2 (.int .i64 m.opset) (.slice B1 m.inputs.length d1) (.slice B2 m.outputs.length d2) (.slice none 0 0) (.slice none 0 0), LRs.set5 ⟨HD1'.out, HD2.out, rr_nil_any, rr_nil_any⟩ HC2.out.1.1 (Nat.le_trans (Nat.le_succ _) (Nat.le_of_lt HC2.out.2)) (.int .i64 m.opset) (.slice B1 m.inputs.length d1) (.slice B2 m.outputs.length d2) (.slice none 0 0) (.slice none 0 0)⟩); have HLE := Lib.hid hxE.1; have HLR := Lib.hid hxE.2; clear hxE)
        | (go_at_call 33; (with_reducible refine (H2.out _ (HT1.out.more (.cells #[.int .i64 0, .slice none 0 0, .slice none 0 0, .slice none 0 0, .slice none 0 0] 42)).a.all).mono ?_); rintro e w4 ⟨v2, rfl, hd2, hb4⟩; have HT2 := Lib.hid ((HT1.out.more (.cells #[.int .i64 0, .slice none 0 0, .slice none 0 0, .slice none 0 0, .slice none 0 0] 42)).below hb4); have HC2 := Lib.hid (And.intro ((HT1.out.a.next #[.int .i64 0, .slice none 0 0, .slice none 0 0, .slice none 0 0, .slice none 0 0] 42).below hb4) HT1.out.b.2.1); have HD1' := Lib.hid (HD1.out.keep er_inf (((Below.refl w3.heap.size w3).alloc (Nat.le_refl _) (.cells #[.int .i64 0, .slice none 0 0, .slice none 0 0, .slice none 0 0, .slice none 0 0] 42)).trans (hb4.mono (by simp))) HT1.out.a.all.size); have HD2 := Lib.hid hd2; (obtain ⟨B2, d2, rfl⟩ := hd2.form); clear hd2 hb4; have hq5 := HC2.out.1.five; have hqf := fun i => HC2.out.1.free i; (obtain ⟨wE, hE, hxE⟩ := name_world10 (P := fun W => LOf w _ #[.int .i64 m.opset, .slice A1 m.inputs.length c1, .slice A2 m.outputs.length c2, .slice A3 m.inits.length c3, .slice A4 m.nodes.length c4] #[.int .i64 0, .slice none 0 0, .slice none 0 0, .slice none 0 0, .slice none 0 0] #[.int .i64 m.opset, .slice B1 m.inputs.length d1, .slice B2 m.outputs.length d2, .slice none 0 0, .slice none 0 0] W ∧ LRs W w.heap.size m.inputs m.outputs [] [] (.slice B1 m.inputs.length d1) (.slice B2 m.outputs.length d2) (.slice none 0 0) (.slice none 0 0)) ⟨HT2.out.mkA HC2.out.1 HC2.out.2 (.int .i64 m.opset) (.slice B1 m.inputs.length d1) (.slice B2 m.outputs.length d2) (.slice none 0 0) (.slice none 0 0), LRs.set5 ⟨HD1'.out, HD2.out, rr_nil_any, rr_nil_any⟩ HC2.out.1.1 (Nat.le_trans (Nat.le_succ _) (Nat.le_of_lt HC2.out.2)) (.int .i64 m.opset) (.slice B1 m.inputs.length d1) (.slice B2 m.outputs.length d2) (.slice none 0 0) (.slice none 0 0)⟩); have HLE := Lib.hid hxE.1; have HLR := Lib.hid hxE.2; clear hxE)
        | (go_at_call 33; (with_reducible refine (H2.out _ HT1.out.a.all).mono ?_); rintro e w4 ⟨v2, rfl, hd2, hb4⟩; have HT2 := Lib.hid (HT1.out.below hb4); have HT3 := Lib.hid (HT2.out.more (.cells #[.int .i64 0, .slice none 0 0, .slice none 0 0, .slice none 0 0, .slice none 0 0] 42)); have HC2 := Lib.hid (And.intro (HT2.out.a.next #[.int .i64 0, .slice none 0 0, .slice none 0 0, .slice none 0 0, .slice none 0 0] 42) HT2.out.b.2.1); have HD1' := Lib.hid (HD1.out.keep er_inf hb4 HT1.out.a.all.size); have HD2 := Lib.hid hd2; (obtain ⟨B2, d2, rfl⟩ := hd2.form); clear hd2 hb4; have hq5 := HC2.out.1.five; have hqf := fun i => HC2.out.1.free i; (obtain ⟨wE, hE, hxE⟩ := name_world10 (P := fun W => LOf w _ #[.int .i64 m.opset, .slice A1 m.inputs.length c1, .slice A2 m.outputs.length c2, .slice A3 m.inits.length c3, .slice A4 m.nodes.length c4] #[.int .i64 0, .slice none 0 0, .slice none 0 0, .slice none 0 0, .slice none 0 0] #[.int .i64 m.opset, .slice B1 m.inputs.length d1, .slice B2 m.outputs.length d2, .slice none 0 0, .slice none 0 0] W ∧ LRs W w.heap.size m.inputs m.outputs [] [] (.slice B1 m.inputs.length d1) (.slice B2 m.outputs.length d2) (.slice none 0 0) (.slice none 0 0)) ⟨HT3.out.mkA HC2.out.1 HC2.out.2 (.int .i64 m.opset) (.slice B1 m.inputs.length d1) (.slice B2 m.outputs.length d2) (.slice none 0 0) (.slice none 0 0), LRs.set5 (LRs.more ⟨HD1'.out, HD2.out, rr_nil_any, rr_nil_any⟩ (.cells #[.int .i64 0, .slice none 0 0, .slice none 0 0, .slice none 0 0, .slice none 0 0] 42) HT2.out.a.all.size) HC2.out.1.1 (Nat.le_trans (Nat.le_succ _) (Nat.le_of_lt HC2.out.2)) (.int .i64 m.opset) (.slice B1 m.inputs.length d1) (.slice B2 m.outputs.length d2) (.slice none 0 0) (.slice none 0 0)⟩); have HLE := Lib.hid hxE.1; have HLR := Lib.hid hxE.2; clear hxE))
    all_goals
      go_wp2_with fail
      go_meet
      first
        | exact ⟨_, B1, B2, d1, d2, rfl, HLE.out, HLR.out⟩
        | exact ⟨_, B1, B2, d1, d2, rfl, HT2.out.mkC _, LRs.more ⟨HD1'.out, HD2.out, rr_nil_any, rr_nil_any⟩ _ HT2.out.a.all.size⟩
  case rest =>
    obtain ⟨g3, B1, B2, d1, d2, rfl, hl, hr⟩ := hcut
    have HL := Lib.hid hl
    have HR := Lib.hid hr
    have hlt3 := hl.lt
    clear hl hr H1 H2 HT
    obtain ⟨a0, a1, a2, a3, a4⟩ := HL.out.a.five
    go_wp2_with fail
    clear a0 a1 a2 a3 a4
    obtain ⟨i3, hi3, hz3, hz31, hz32⟩ := info_parts infoRTen
    obtain ⟨i4, hi4, hz4, hz41, hz42⟩ := info_parts infoRNode
    go_loopw [5, 20] (fun _ i wr => ∃ (k : Nat) (K : Int) (V3 : Option Addr) (vc3 : Nat), i = .int .i64 K ∧ K = (k : Nat) ∧ k ≤ m.inits.length ∧ LOf w g3 #[.int .i64 m.opset, .slice A1 m.inputs.length c1, .slice A2 m.outputs.length c2, .slice A3 m.inits.length c3, .slice A4 m.nodes.length c4] #[.int .i64 0, .slice none 0 0, .slice none 0 0, .slice none 0 0, .slice none 0 0] #[.int .i64 m.opset, .slice B1 m.inputs.length d1, .slice B2 m.outputs.length d2, .slice V3 k vc3, .slice none 0 0] wr ∧ LRs wr w.heap.size m.inputs m.outputs (m.inits.take k) [] (.slice B1 m.inputs.length d1) (.slice B2 m.outputs.length d2) (.slice V3 k vc3) (.slice none 0 0)) (fun _ i _ => m.inits.length - (intOf i).toNat)
    case atStart => exact ⟨0, _, none, 0, rfl, rfl, by omega, HL.out, by rw [List.take_zero]; exact HR.out⟩
    case round =>
      obtain ⟨k, K, V3, vc3, rfl, rfl, hk, hl, hr⟩ := hrel
      have HL := Lib.hid hl
      have HR := Lib.hid hr
      have hsz := hl.a.all.size
      clear hl hr
      by_cases hlt : k < m.inits.length
      · obtain ⟨b, o, cs, rfl, hbb, hp, hcx⟩ := (HM.out.inits.below ek_ten HL.out.a.all).at_ ek_ten hlt
        have HS := Lib.hid (show m.inits.take (k + 1) = m.inits.take k ++ [m.inits[k]] from List.take_succ_eq_append_getElem hlt)
        have HLEN := Lib.hid (show (m.inits.take k).length = k from by simp; omega)
        have HP := Lib.hid hp
        obtain ⟨U1, e1, rfl⟩ := TenAt.shape hp
        clear hp
        generalize m.inits[k] = u at *
        have p0 := hcx 0 _ rfl
        have p1 := hcx 1 _ rfl
        have p2 := hcx 2 _ rfl
        have p3 := hcx 3 _ rfl
        simp only [Nat.add_zero] at p0
        clear hcx
        have HL1 := Lib.hid (HL.out.more (.cells #[.string u.name, .int .i64 u.kind, .slice U1 u.dims.length e1, .string u.data] 98)).drew
        have HBX := Lib.hid (HL.out.a.next #[.string u.name, .int .i64 u.kind, .slice U1 u.dims.length e1, .string u.data] 98).drew10
        have x := HL1.out.c.five
        have xf := fun i => HL1.out.c.free i
        have y := HBX.out.four
        have HB1 := Lib.hid (show RowKit.Below wr.heap.size wr (wr.alloc (.cells #[.string u.name, .int .i64 u.kind, .slice U1 u.dims.length e1, .string u.data] 98)).drew from ((Below.refl _ _).alloc (Nat.le_refl _) _).drew)
        go_upto_region 5 with fail
        go_region_law (first
          | (refine step_append_lies _ rfl (.tmp 25) (.tmp 28) 39 rfl w.heap.size 85 i3 _ 4 64 Tryz.underlying39 hi3 hz3 hz31 hz32 rfl (by decide) (.slice V3 k vc3) (m.inits.take k).length CSS.flatten (by simp [Act.eval]) HOC.out ⟨w4.heap.size, 0, none⟩ 1 1 [.string u.name, .int .i64 u.kind, .slice U1 u.dims.length e1, .string u.data] (by simp [Act.eval]) rfl (cells_new _ _ _) (by intro z hz; simp at hz; rcases hz with rfl | rfl | rfl | rfl <;> rfl) (by omega) (by rw [HLEN.out]; unfold maxLen; omega) (by rw [HLEN.out]; omega) HL5.out.a.all.size _ rfl ?_; intro g cap w6 hown6 hgrow hat6 hlt6; have HR6 := Lib.hid (LRs.grown3 HR5.out HALC.out HCS.out HOC.out HP5.out hown6 hgrow HL5.out.a.all.size); rw [HLEN.out] at HR6; have HL6 := Lib.hid (HL5.out.grown HOC.out (Nat.le_refl _) (by decide) (by decide) hgrow); have x6 := HL6.out.c.five; have xf6 := (fun i => HL6.out.c.free i); have hx7 := And.intro (HL6.out.set 3 (.slice (some ⟨g, 0, none⟩) (k + 1) cap)) (HR6.out.set (i := 3) (u := .slice (some ⟨g, 0, none⟩) (k + 1) cap) HL6.out.c.1 (Nat.le_trans (Nat.le_succ _) (Nat.le_of_lt hlt3))); (generalize hw7 : w6.setCell ⟨g3, 3, none⟩ (.slice (some ⟨g, 0, none⟩) (k + 1) cap) = w7 at hx7); rw [HLEN.out]; have HL7 := Lib.hid hx7.1; have HR7 := Lib.hid hx7.2; clear hx7 hown6 hgrow hat6 hlt6)
          | (go_simp; go_at_call 34; (with_reducible refine (lten_any u U1 e1 _).mono ?_); rintro e w4 ⟨rfl, hb4⟩; have HL4 := Lib.hid (HL1.out.below hb4); have HB4 := Lib.hid (HB1.out.trans (hb4.mono HB1.out.size)); have HP4 := Lib.hid (ek_ten.below HP.out (HB4.out.mono hsz)); have x4 := HL4.out.c.five; have HL5 := Lib.hid (HL4.out.more (.cells #[.string u.name, .int .i64 u.kind, .slice U1 u.dims.length e1, .string u.data] 85)); have HR5 := Lib.hid ((HR.out.keep HB4.out hsz).more (.cells #[.string u.name, .int .i64 u.kind, .slice U1 u.dims.length e1, .string u.data] 85) HL4.out.a.all.size); have HP5 := Lib.hid (er_ten.keep HP4.out ((Below.refl w4.heap.size w4).alloc (Nat.le_refl _) (.cells #[.string u.name, .int .i64 u.kind, .slice U1 u.dims.length e1, .string u.data] 85)) HL4.out.a.all.size); have x5 := HL5.out.c.five; (obtain ⟨CSS, hal, hcs, ho⟩ := HR5.out.r3); have HALC := Lib.hid hal; have HCS := Lib.hid hcs; have HOC := Lib.hid ho; clear hal hcs ho hb4))
        all_goals
          go_wp2_with fail
          go_roundw
          case rel => exact ⟨k + 1, _, _, _, rfl, by omega, by omega, HL7.out, by rw [HS.out]; exact HR7.out⟩
          case measure => simp [intOf]; omega
      · obtain rfl : k = m.inits.length := by omega
        have hr := HR.out
        rw [List.take_length] at hr
        have HR := Lib.hid hr
        clear hr
        obtain ⟨a0, a1, a2, a3, a4⟩ := HL.out.a.five
        go_wp2_with fail
        clear a0 a1 a2 a3 a4 hlt hk
        go_loopw [7, 35] (fun _ i wr => ∃ (k : Nat) (K : Int) (V : Option Addr) (vc : Nat), i = .int .i64 K ∧ K = (k : Nat) ∧ k ≤ m.nodes.length ∧ LOf w g3 #[.int .i64 m.opset, .slice A1 m.inputs.length c1, .slice A2 m.outputs.length c2, .slice A3 m.inits.length c3, .slice A4 m.nodes.length c4] #[.int .i64 0, .slice none 0 0, .slice none 0 0, .slice none 0 0, .slice none 0 0] #[.int .i64 m.opset, .slice B1 m.inputs.length d1, .slice B2 m.outputs.length d2, .slice V3 m.inits.length vc3, .slice V k vc] wr ∧ LRs wr w.heap.size m.inputs m.outputs m.inits (m.nodes.take k) (.slice B1 m.inputs.length d1) (.slice B2 m.outputs.length d2) (.slice V3 m.inits.length vc3) (.slice V k vc)) (fun _ i _ => m.nodes.length - (intOf i).toNat)
        case atStart => exact ⟨0, _, none, 0, rfl, rfl, by omega, HL.out, by rw [List.take_zero]; exact HR.out⟩
        case round =>
          obtain ⟨k, K, V, vc, rfl, rfl, hk, hl, hr⟩ := hrel
          have HL := Lib.hid hl
          have HR := Lib.hid hr
          have hsz := hl.a.all.size
          clear hl hr
          by_cases hlt : k < m.nodes.length
          · obtain ⟨b, o, cs, rfl, hbb, hp, hcx⟩ := (HM.out.nodes.below ek_nod HL.out.a.all).at_ ek_nod hlt
            have HS := Lib.hid (show m.nodes.take (k + 1) = m.nodes.take k ++ [m.nodes[k]] from List.take_succ_eq_append_getElem hlt)
            have HLEN := Lib.hid (show (m.nodes.take k).length = k from by simp; omega)
            have HP := Lib.hid hp
            obtain ⟨U1, e1, X1, f1, rfl⟩ := NodAt.shape hp
            clear hp
            generalize m.nodes[k] = u at *
            have p0 := hcx 0 _ rfl
            have p1 := hcx 1 _ rfl
            have p2 := hcx 2 _ rfl
            have p3 := hcx 3 _ rfl
            simp only [Nat.add_zero] at p0
            clear hcx
            have HL1 := Lib.hid (HL.out.more (.cells #[.string u.op, .slice U1 u.ins.length e1, .string u.out, .slice X1 u.attrs.length f1] 102)).drew
            have HBX := Lib.hid (HL.out.a.next #[.string u.op, .slice U1 u.ins.length e1, .string u.out, .slice X1 u.attrs.length f1] 102).drew10
            have x := HL1.out.c.five
            have xf := fun i => HL1.out.c.free i
            have y := HBX.out.four
            have HB1 := Lib.hid (show RowKit.Below wr.heap.size wr (wr.alloc (.cells #[.string u.op, .slice U1 u.ins.length e1, .string u.out, .slice X1 u.attrs.length f1] 102)).drew from ((Below.refl _ _).alloc (Nat.le_refl _) _).drew)
            have HC := Lib.hid (lnode_any w.heap.size u [.string u.op, .slice U1 u.ins.length e1, .string u.out, .slice X1 u.attrs.length f1] (wr.alloc (.cells #[.string u.op, .slice U1 u.ins.length e1, .string u.out, .slice X1 u.attrs.length f1] 102)).drew HL1.out.a.all.size (ek_nod.below HP.out (HB1.out.mono hsz)))
            go_upto_region 10 with fail
            go_region_law (first
              | (refine step_append_lies _ rfl (.tmp 40) (.tmp 43) 40 rfl w.heap.size 80 i4 _ 4 80 Tryz.underlying40 hi4 hz4 hz41 hz42 rfl (by decide) (.slice V k vc) (m.nodes.take k).length CSS.flatten (by simp [Act.eval]) HOC.out ⟨w4.heap.size, 0, none⟩ 1 1 [.string u.op, .slice U2 u.ins.length e2, .string u.out, .slice X2 u.attrs.length f2] (by simp [Act.eval]) rfl (cells_new _ _ _) (by intro z hz; simp at hz; rcases hz with rfl | rfl | rfl | rfl <;> rfl) (by omega) (by rw [HLEN.out]; unfold maxLen; omega) (by rw [HLEN.out]; omega) HL5.out.a.all.size _ rfl ?_; intro g cap w6 hown6 hgrow hat6 hlt6; have HR6 := Lib.hid (LRs.grown4 HR5.out HALC.out HCS.out HOC.out HP5.out hown6 hgrow HL5.out.a.all.size); rw [HLEN.out] at HR6; have HL6 := Lib.hid (HL5.out.grown HOC.out (Nat.le_refl _) (by decide) (by decide) hgrow); have x6 := HL6.out.c.five; have xf6 := (fun i => HL6.out.c.free i); have hx7 := And.intro (HL6.out.set 4 (.slice (some ⟨g, 0, none⟩) (k + 1) cap)) (HR6.out.set (i := 4) (u := .slice (some ⟨g, 0, none⟩) (k + 1) cap) HL6.out.c.1 (Nat.le_trans (Nat.le_succ _) (Nat.le_of_lt hlt3))); (generalize hw7 : w6.setCell ⟨g3, 4, none⟩ (.slice (some ⟨g, 0, none⟩) (k + 1) cap) = w7 at hx7); rw [HLEN.out]; have HL7 := Lib.hid hx7.1; have HR7 := Lib.hid hx7.2; clear hx7 hown6 hgrow hat6 hlt6)
              | (go_simp; go_at_call 35; (with_reducible refine (HC.out).mono ?_); rintro e w4 ⟨cs4, rfl, hp4, hb4⟩; have HL4 := Lib.hid (HL1.out.below hb4); have HB4 := Lib.hid (HB1.out.trans (hb4.mono HB1.out.size)); have HP4 := Lib.hid (hp4); obtain ⟨U2, e2, X2, f2, rfl⟩ := RNod.shape hp4; have x4 := HL4.out.c.five; have HL5 := Lib.hid (HL4.out.more (.cells #[.string u.op, .slice U2 u.ins.length e2, .string u.out, .slice X2 u.attrs.length f2] 80)); have HR5 := Lib.hid ((HR.out.keep HB4.out hsz).more (.cells #[.string u.op, .slice U2 u.ins.length e2, .string u.out, .slice X2 u.attrs.length f2] 80) HL4.out.a.all.size); have HP5 := Lib.hid (er_nod.keep HP4.out ((Below.refl w4.heap.size w4).alloc (Nat.le_refl _) (.cells #[.string u.op, .slice U2 u.ins.length e2, .string u.out, .slice X2 u.attrs.length f2] 80)) HL4.out.a.all.size); have x5 := HL5.out.c.five; (obtain ⟨CSS, hal, hcs, ho⟩ := HR5.out.r4); have HALC := Lib.hid hal; have HCS := Lib.hid hcs; have HOC := Lib.hid ho; clear hal hcs ho hb4 hp4))
            all_goals
              go_wp2_with fail
              go_roundw
              case rel => exact ⟨k + 1, _, _, _, rfl, by omega, by omega, HL7.out, by rw [HS.out]; exact HR7.out⟩
              case measure => simp [intOf]; omega
          · obtain rfl : k = m.nodes.length := by omega
            have hr := HR.out
            rw [List.take_length] at hr
            have HO := Lib.hid hr
            clear hr HR
            obtain ⟨a0, a1, a2, a3, a4⟩ := HL.out.c.five
            obtain ⟨z0, z1, z2, z3, z4⟩ := HL.out.b.five
            have zf := fun i => HL.out.b.free i
            obtain ⟨w3, hw3, hx3⟩ := name_world10 (P := fun W => Bx w (w.heap.size + 1) #[.int .i64 m.opset, .slice B1 m.inputs.length d1, .slice B2 m.outputs.length d2, .slice V3 m.inits.length vc3, .slice V m.nodes.length vc] 42 W ∧ LRs W w.heap.size m.inputs m.outputs m.inits m.nodes (.slice B1 m.inputs.length d1) (.slice B2 m.outputs.length d2) (.slice V3 m.inits.length vc3) (.slice V m.nodes.length vc)) ⟨HL.out.b.five_put (by omega) (.int .i64 m.opset) (.slice B1 m.inputs.length d1) (.slice B2 m.outputs.length d2) (.slice V3 m.inits.length vc3) (.slice V m.nodes.length vc), LRs.set5 HO.out HL.out.b.1 (Nat.le_succ _) (.int .i64 m.opset) (.slice B1 m.inputs.length d1) (.slice B2 m.outputs.length d2) (.slice V3 m.inits.length vc3) (.slice V m.nodes.length vc)⟩
            have HW := Lib.hid hx3
            clear hx3
            go_wp2_with fail
            obtain ⟨y0, y1, y2, y3, y4⟩ := HW.out.1.five
            exact bodyPost_ret (v := .agg #[.int .i64 m.opset, .slice B1 m.inputs.length d1, .slice B2 m.outputs.length d2, .slice V3 m.inits.length vc3, .slice V m.nodes.length vc]) (by simp [results, Tryz.results10, go_sem, y0, y1, y2, y3, y4]) rfl ⟨B1, B2, V3, V, d1, d2, vc3, vc, rfl, HW.out.2.at_ HW.out.1.all.size HM.out.opset HM.out.len1 HM.out.len2 HM.out.len3 HM.out.len4, HW.out.1.all⟩
end Go.Proofs.YtjjfdlgoacockaaGreat
