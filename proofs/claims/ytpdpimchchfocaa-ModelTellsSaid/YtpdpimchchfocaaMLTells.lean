/- The law ModelTells (agatelaw10): for every input that can be read the call returns true, and its arguments read behind it as before. -/
import Derived.Test.YtpdpimchchfocaaMEach
import Derived.Test.YtpdpimchchfocaaMOf
import Derived.Test.YtpdpimchchfocaaMAwake
import Derived.Deep.RegionHeld
import Derived.Deep.CutRange
import Derived.Test.YtpdpimchchfocaaTCheck
import Derived.Test.YtpdpimchchfocaaLift
import Derived.SizedLaws
/- The walk of the law ModelTells: contracts at a clone. -/
namespace Go.Proofs.Ytpdpimchchfocaa
open Go.RowKit M7 M10 Go.Sort

section
variable {m : Mod} {w : World} {B : Nat} {A1 A2 A3 A4 B1 B2 B3 B4 : Option Addr} {c1 c2 c3 c4 d1 d2 d3 d4 : Nat}
theorem clone_read (h : OMod w B (nM m) (.slice B1 m.inputs.length d1) (.slice B2 m.outputs.length d2) (.slice B3 m.inits.length d3) (.slice B4 m.nodes.length d4)) {B0 : Nat} {w0 : World} {Z1 Z2 Z3 Z4 : Option Addr} (hm : ModAt B0 w0 m Z1 Z2 Z3 Z4) : ModAt w.heap.size w (nM m) B1 B2 B3 B4 := by
  have e : (nM m).nodes.length = m.nodes.length := by unfold nM; simp
  rw [← e] at h
  exact OMod.read (m := nM m) h hm.opset hm.len1 hm.len2 hm.len3 (by rw [e]; exact hm.len4)
theorem lof_clone (hm : ModAt w.heap.size w (nM m) A1 A2 A3 A4) :
    Calls Try.prog 7 #[.agg (mv m.opset A1 m.inputs.length c1 A2 m.outputs.length c2 A3 m.inits.length c3 A4 m.nodes.length c4)] w fun e w' => ∃ B1 B2 B3 B4 d1 d2 d3 d4, e = .returned (.agg (mv m.opset B1 m.inputs.length d1 B2 m.outputs.length d2 B3 m.inits.length d3 B4 m.nodes.length d4)) ∧ ModAt w'.heap.size w' (nM m) B1 B2 B3 B4 ∧ Below w.heap.size w w' := by
  have e : (nM m).nodes.length = m.nodes.length := by unfold nM; simp
  have h := lof_any (nM m) A1 A2 A3 A4 c1 c2 c3 c4 w hm
  rw [e] at h
  exact h
theorem rsame_clone1 (hm : ModAt w.heap.size w (nM m) A1 A2 A3 A4) (hn : ModAt w.heap.size w m B1 B2 B3 B4) :
    Calls Try.prog 9 #[.agg (mv m.opset A1 m.inputs.length c1 A2 m.outputs.length c2 A3 m.inits.length c3 A4 m.nodes.length c4), .agg (mv m.opset B1 m.inputs.length d1 B2 m.outputs.length d2 B3 m.inits.length d3 B4 m.nodes.length d4)] w fun e w' => e = .returned (.bool true) ∧ Below w.heap.size w w' := by
  have e : (nM m).nodes.length = m.nodes.length := by unfold nM; simp
  have h := rmodel_any (nM m) m A1 A2 A3 A4 B1 B2 B3 B4 c1 c2 c3 c4 d1 d2 d3 d4 w hm hn
  rw [e, sameM_nM] at h
  exact h
theorem rsame_clone2 (hn : ModAt w.heap.size w m A1 A2 A3 A4) (hm : ModAt w.heap.size w (nM m) B1 B2 B3 B4) :
    Calls Try.prog 9 #[.agg (mv m.opset A1 m.inputs.length c1 A2 m.outputs.length c2 A3 m.inits.length c3 A4 m.nodes.length c4), .agg (mv m.opset B1 m.inputs.length d1 B2 m.outputs.length d2 B3 m.inits.length d3 B4 m.nodes.length d4)] w fun e w' => e = .returned (.bool true) ∧ Below w.heap.size w w' := by
  have e : (nM m).nodes.length = m.nodes.length := by unfold nM; simp
  have h := rmodel_any m (nM m) A1 A2 A3 A4 B1 B2 B3 B4 c1 c2 c3 c4 d1 d2 d3 d4 w hn hm
  rw [e, sameM_nM2] at h
  exact h
end
/-- the two arguments and a third block -/
structure X3 (w : World) (gp : Nat) (mx my mp : Array Value) (Tp : TypeId) (W : World) : Prop where
  a : Bx w w.heap.size mx 26 W
  b : Bx w (w.heap.size + 1) my 26 W
  c : Bx w gp mp Tp W
section
variable {w W W' : World} {gp : Nat} {mx my mp : Array Value} {Tp : TypeId}
theorem X3.below (h : X3 w gp mx my mp Tp W) (hb : Below W.heap.size W W') : X3 w gp mx my mp Tp W' := ⟨h.a.below hb, h.b.below hb, h.c.below hb⟩
theorem X3.more (h : X3 w gp mx my mp Tp W) (o : Obj) : X3 w gp mx my mp Tp (W.alloc o) := ⟨h.a.more o, h.b.more o, h.c.more o⟩
theorem X3.drew (h : X3 w gp mx my mp Tp W) : X3 w gp mx my mp Tp W.drew := ⟨h.a.drew10, h.b.drew10, h.c.drew10⟩
end
end Go.Proofs.Ytpdpimchchfocaa
/- The walk of the law ModelTells. -/
namespace Go.Proofs.Ytpdpimchchfocaa
open Go.RowKit M7 M10 Go.Sort

set_option maxRecDepth 100000 in
set_option maxHeartbeats 16000000 in
theorem tells_walk (m n : Mod) (A1 A2 A3 A4 B1 B2 B3 B4 : Option Addr) (c1 c2 c3 c4 d1 d2 d3 d4 : Nat) (w : World) (hm : ModAt w.heap.size w m A1 A2 A3 A4) (hn : ModAt w.heap.size w n B1 B2 B3 B4) :
    Calls Try.prog 3 #[.agg (mv m.opset A1 m.inputs.length c1 A2 m.outputs.length c2 A3 m.inits.length c3 A4 m.nodes.length c4), .agg (mv n.opset B1 n.inputs.length d1 B2 n.outputs.length d2 B3 n.inits.length d3 B4 n.nodes.length d4)] w fun e w' => e = .returned (.bool true) ∧ Below w.heap.size w w' := by
  have HM := Lib.hid hm
  have HN := Lib.hid hn
  have HT := Lib.hid (show MTwo w w.heap.size (w.heap.size + 1) #[.int .i64 m.opset, .slice A1 m.inputs.length c1, .slice A2 m.outputs.length c2, .slice A3 m.inits.length c3, .slice A4 m.nodes.length c4] #[.int .i64 n.opset, .slice B1 n.inputs.length d1, .slice B2 n.outputs.length d2, .slice B3 n.inits.length d3, .slice B4 n.nodes.length d4] 26 _ from ⟨(Bx.start w #[.int .i64 m.opset, .slice A1 m.inputs.length c1, .slice A2 m.outputs.length c2, .slice A3 m.inits.length c3, .slice A4 m.nodes.length c4] 26).more (.cells #[.int .i64 n.opset, .slice B1 n.inputs.length d1, .slice B2 n.outputs.length d2, .slice B3 n.inits.length d3, .slice B4 n.nodes.length d4] 26), Bx.two w (.cells #[.int .i64 m.opset, .slice A1 m.inputs.length c1, .slice A2 m.outputs.length c2, .slice A3 m.inits.length c3, .slice A4 m.nodes.length c4] 26) #[.int .i64 n.opset, .slice B1 n.inputs.length d1, .slice B2 n.outputs.length d2, .slice B3 n.inits.length d3, .slice B4 n.nodes.length d4] 26⟩)
  have HS1 := Lib.hid (fun W (h : Below w.heap.size w W) => lsmall_any m A1 A2 A3 A4 c1 c2 c3 c4 W ((hm.below h).more h.size))
  have HS2 := Lib.hid (fun W (h : Below w.heap.size w W) => lsmall_any n B1 B2 B3 B4 d1 d2 d3 d4 W ((hn.below h).more h.size))
  have HO1 := Lib.hid (fun W (h : Below w.heap.size w W) => lof_any m A1 A2 A3 A4 c1 c2 c3 c4 W ((hm.below h).more h.size))
  have HO2 := Lib.hid (fun W (h : Below w.heap.size w W) => lof_any n B1 B2 B3 B4 d1 d2 d3 d4 W ((hn.below h).more h.size))
  have HSA := Lib.hid (fun W (h : Below w.heap.size w W) => m_same_any m n A1 A2 A3 A4 B1 B2 B3 B4 c1 c2 c3 c4 d1 d2 d3 d4 W ((hm.below h).more h.size) ((hn.below h).more h.size))
  have HSB := Lib.hid (fun W (h : Below w.heap.size w W) => m_same_any m m A1 A2 A3 A4 A1 A2 A3 A4 c1 c2 c3 c4 c1 c2 c3 c4 W ((hm.below h).more h.size) ((hm.below h).more h.size))
  have HC1 := Lib.hid (fun W (h : Below w.heap.size w W) => clone_model_any m A1 A2 A3 A4 c1 c2 c3 c4 W ((hm.below h).more h.size))
  have HC2 := Lib.hid (fun W (h : Below w.heap.size w W) => clone_model_any n B1 B2 B3 B4 d1 d2 d3 d4 W ((hn.below h).more h.size))
  rw [sameM_refl] at HSB
  clear hm hn
  unfold mv at *
  obtain ⟨x0, x1, x2, x3, x4⟩ := HT.out.a.five
  go_enter Try.func3, Try.ntmps3
  go_wp2_with fail
  refine (HS1.out _ HT.out.a.all).mono ?_
  rintro e w1 ⟨b1, rfl, hb1⟩
  have HT1 := Lib.hid (HT.out.below hb1)
  clear hb1 HS1 HT x0 x1 x2 x3 x4
  obtain ⟨y0, y1, y2, y3, y4⟩ := HT1.out.b.five
  cases b1
  · go_wp2_with fail
    refine (mawake_any _).mono ?_
    rintro e w9 ⟨rfl, hb9⟩
    have H9 := Lib.hid (HT1.out.a.all.trans (hb9.mono HT1.out.a.all.size))
    clear hb9
    go_wp2_with fail
    go_ret
    exact ⟨rfl, H9.out⟩
  go_wp2_with fail
  refine (HS2.out _ HT1.out.a.all).mono ?_
  rintro e w2 ⟨b2, rfl, hb2⟩
  have HT2 := Lib.hid (HT1.out.below hb2)
  clear hb2 HS2 HT1 y0 y1 y2 y3 y4
  obtain ⟨x0, x1, x2, x3, x4⟩ := HT2.out.a.five
  cases b2
  · go_wp2_with fail
    refine (mawake_any _).mono ?_
    rintro e w9 ⟨rfl, hb9⟩
    have H9 := Lib.hid (HT2.out.a.all.trans (hb9.mono HT2.out.a.all.size))
    clear hb9
    go_wp2_with fail
    go_ret
    exact ⟨rfl, H9.out⟩
  go_wp2_with fail
  refine (HO1.out _ HT2.out.a.all).mono ?_
  rintro e w3 ⟨P1, P2, P3, P4, p1, p2, p3, p4, rfl, hmx, hb3⟩
  have HMX := Lib.hid hmx
  have HX3 := Lib.hid (show X3 w w3.heap.size #[.int .i64 m.opset, .slice A1 m.inputs.length c1, .slice A2 m.outputs.length c2, .slice A3 m.inits.length c3, .slice A4 m.nodes.length c4] #[.int .i64 n.opset, .slice B1 n.inputs.length d1, .slice B2 n.outputs.length d2, .slice B3 n.inits.length d3, .slice B4 n.nodes.length d4] #[.int .i64 m.opset, .slice P1 m.inputs.length p1, .slice P2 m.outputs.length p2, .slice P3 m.inits.length p3, .slice P4 m.nodes.length p4] 33 (w3.alloc (.cells #[.int .i64 m.opset, .slice P1 m.inputs.length p1, .slice P2 m.outputs.length p2, .slice P3 m.inits.length p3, .slice P4 m.nodes.length p4] 33)) from ⟨(HT2.out.below hb3).a.more _, (HT2.out.below hb3).b.more _, (HT2.out.below hb3).a.next #[.int .i64 m.opset, .slice P1 m.inputs.length p1, .slice P2 m.outputs.length p2, .slice P3 m.inits.length p3, .slice P4 m.nodes.length p4] 33⟩)
  have HL3 := Lib.hid (show Below w3.heap.size w3 (w3.alloc (.cells #[.int .i64 m.opset, .slice P1 m.inputs.length p1, .slice P2 m.outputs.length p2, .slice P3 m.inits.length p3, .slice P4 m.nodes.length p4] 33)) from (Below.refl _ _).alloc (Nat.le_refl _) _)
  clear hmx hb3 HO1 HT2 x0 x1 x2 x3 x4
  go_upto_region 4 with fail
  generalize hW : w3.alloc (.cells #[.int .i64 m.opset, .slice P1 m.inputs.length p1, .slice P2 m.outputs.length p2, .slice P3 m.inits.length p3, .slice P4 m.nodes.length p4] 33) = W3 at *
  clear hW
  have HX4 := Lib.hid HX3.out.drew
  have HRS := Lib.hid (fun W (h : Below w3.heap.size w3 W) Q1 Q2 Q3 Q4 q1 q2 q3 q4 (hq : ModAt W.heap.size W n Q1 Q2 Q3 Q4) => rmodel_any m n P1 P2 P3 P4 Q1 Q2 Q3 Q4 p1 p2 p3 p4 q1 q2 q3 q4 W ((HMX.out.below h).more h.size) hq)
  unfold mv at HRS
  have HL4 := Lib.hid (show Below w3.heap.size w3 W3.drew from HL3.out.drew)
  go_cut [41] from 28 to 40 (fun s41 wx => s41 = .bool false ∧ X3 w w3.heap.size #[.int .i64 m.opset, .slice A1 m.inputs.length c1, .slice A2 m.outputs.length c2, .slice A3 m.inits.length c3, .slice A4 m.nodes.length c4] #[.int .i64 n.opset, .slice B1 n.inputs.length d1, .slice B2 n.outputs.length d2, .slice B3 n.inits.length d3, .slice B4 n.nodes.length d4] #[.int .i64 m.opset, .slice P1 m.inputs.length p1, .slice P2 m.outputs.length p2, .slice P3 m.inits.length p3, .slice P4 m.nodes.length p4] 33 wx ∧ Below w3.heap.size w3 wx)
  case first =>
    rename_i Q0 Kr haK J Kp hJ hMt
    clear haK
    cases hsm : sameM m n
    all_goals
      rw [hsm] at HSA HRS
      clear hsm
      go_region_held (fun W => (W.cell? ⟨w.heap.size, 0, none⟩ = some (.int .i64 m.opset) ∧ W.cell? ⟨w.heap.size, 1, none⟩ = some (.slice A1 m.inputs.length c1) ∧ W.cell? ⟨w.heap.size, 2, none⟩ = some (.slice A2 m.outputs.length c2) ∧ W.cell? ⟨w.heap.size, 3, none⟩ = some (.slice A3 m.inits.length c3) ∧ W.cell? ⟨w.heap.size, 4, none⟩ = some (.slice A4 m.nodes.length c4)) ∧ (W.cell? ⟨w.heap.size + 1, 0, none⟩ = some (.int .i64 n.opset) ∧ W.cell? ⟨w.heap.size + 1, 1, none⟩ = some (.slice B1 n.inputs.length d1) ∧ W.cell? ⟨w.heap.size + 1, 2, none⟩ = some (.slice B2 n.outputs.length d2) ∧ W.cell? ⟨w.heap.size + 1, 3, none⟩ = some (.slice B3 n.inits.length d3) ∧ W.cell? ⟨w.heap.size + 1, 4, none⟩ = some (.slice B4 n.nodes.length d4)) ∧ (W.cell? ⟨w3.heap.size, 0, none⟩ = some (.int .i64 m.opset) ∧ W.cell? ⟨w3.heap.size, 1, none⟩ = some (.slice P1 m.inputs.length p1) ∧ W.cell? ⟨w3.heap.size, 2, none⟩ = some (.slice P2 m.outputs.length p2) ∧ W.cell? ⟨w3.heap.size, 3, none⟩ = some (.slice P3 m.inits.length p3) ∧ W.cell? ⟨w3.heap.size, 4, none⟩ = some (.slice P4 m.nodes.length p4)))
        (first | exact ⟨HX8.out.a.five, HX8.out.b.five, HX8.out.c.five⟩ | exact ⟨HX7.out.a.five, HX7.out.b.five, HX7.out.c.five⟩ | exact ⟨HX6.out.a.five, HX6.out.b.five, HX6.out.c.five⟩ | exact ⟨HX5.out.a.five, HX5.out.b.five, HX5.out.c.five⟩ | exact ⟨HX4.out.a.five, HX4.out.b.five, HX4.out.c.five⟩)
        (first
          | (go_at_call 8; (with_reducible refine (HSA.out _ HX4.out.a.all).mono ?_); rintro e w5 ⟨rfl, hb5⟩; have HX5 := Lib.hid (HX4.out.below hb5); have HL5 := Lib.hid (HL4.out.trans (hb5.mono HL4.out.size)); clear hb5)
          | (go_at_call 7; (with_reducible refine (HO2.out _ HX5.out.a.all).mono ?_); rintro e w6 ⟨Q1, Q2, Q3, Q4, q1, q2, q3, q4, rfl, hq, hb6⟩; have HQ := Lib.hid hq; have HX6 := Lib.hid (HX5.out.below hb6); have HL6 := Lib.hid (HL5.out.trans (hb6.mono HL5.out.size)); clear hb6 hq)
          | (go_at_call 9; (with_reducible refine (HRS.out _ HL6.out Q1 Q2 Q3 Q4 q1 q2 q3 q4 HQ.out).mono ?_); rintro e w7 ⟨rfl, hb7⟩; have HX7 := Lib.hid (HX6.out.below hb7); have HL7 := Lib.hid (HL6.out.trans (hb7.mono HL6.out.size)); clear hb7)
          | (go_at_call 8; (with_reducible refine (HSB.out _ HX7.out.a.all).mono ?_); rintro e w8 ⟨rfl, hb8⟩; have HX8 := Lib.hid (HX7.out.below hb8); have HL8 := Lib.hid (HL7.out.trans (hb8.mono HL7.out.size)); clear hb8))
      all_goals
        go_wp2_with fail
        go_meet
        exact ⟨rfl, HX8.out, HL8.out⟩
  case rest =>
    obtain ⟨rfl, hx8, hl8⟩ := hcut
    have HX8 := Lib.hid hx8
    have HL8 := Lib.hid hl8
    clear hx8 hl8 HX4 HX3 HL3 HL4 HSA HSB HRS
    obtain ⟨x0, x1, x2, x3, x4⟩ := HX8.out.a.five
    go_wp2_with fail
    refine (HC1.out _ HX8.out.a.all).mono ?_
    rintro e w9 ⟨C1, C2, C3, C4, k1, k2, k3, k4, rfl, hom, hb9⟩
    have HCR := Lib.hid (clone_read hom HM.out)
    have HX9 := Lib.hid ((HX8.out.below hb9).more (.cells #[.int .i64 m.opset, .slice C1 m.inputs.length k1, .slice C2 m.outputs.length k2, .slice C3 m.inits.length k3, .slice C4 m.nodes.length k4] 26))
    have HC9 := Lib.hid ((HX8.out.below hb9).a.next #[.int .i64 m.opset, .slice C1 m.inputs.length k1, .slice C2 m.outputs.length k2, .slice C3 m.inits.length k3, .slice C4 m.nodes.length k4] 26)
    have HL9 := Lib.hid ((HL8.out.trans (hb9.mono HL8.out.size)).alloc (HL8.out.trans (hb9.mono HL8.out.size)).size (.cells #[.int .i64 m.opset, .slice C1 m.inputs.length k1, .slice C2 m.outputs.length k2, .slice C3 m.inits.length k3, .slice C4 m.nodes.length k4] 26))
    have HD9 := Lib.hid (show Below w9.heap.size w9 (w9.alloc (.cells #[.int .i64 m.opset, .slice C1 m.inputs.length k1, .slice C2 m.outputs.length k2, .slice C3 m.inits.length k3, .slice C4 m.nodes.length k4] 26)) from (Below.refl _ _).alloc (Nat.le_refl _) _)
    clear hom hb9 HC1 HX8 HL8 x0 x1 x2 x3 x4
    have HOC := Lib.hid (fun W (h : Below w9.heap.size w9 W) => lof_clone (c1 := k1) (c2 := k2) (c3 := k3) (c4 := k4) ((HCR.out.below h).more h.size))
    have HRC := Lib.hid (fun W (h : Below w3.heap.size w3 W) Q1 Q2 Q3 Q4 q1 q2 q3 q4 (hq : ModAt W.heap.size W (nM m) Q1 Q2 Q3 Q4) => rsame_clone1 (c1 := q1) (c2 := q2) (c3 := q3) (c4 := q4) (d1 := p1) (d2 := p2) (d3 := p3) (d4 := p4) hq ((HMX.out.below h).more h.size))
    unfold mv at HOC HRC
    go_upto_region 7 with fail
    generalize hW : w9.alloc (.cells #[.int .i64 m.opset, .slice C1 m.inputs.length k1, .slice C2 m.outputs.length k2, .slice C3 m.inits.length k3, .slice C4 m.nodes.length k4] 26) = W9 at *
    clear hW
    have HX10 := Lib.hid HX9.out.drew
    have HC10 := Lib.hid HC9.out.drew10
    have HL10 := Lib.hid HL9.out.drew
    have HD10 := Lib.hid HD9.out.drew
    clear HX9 HC9 HL9 HD9
    go_region_held (fun W => (W.cell? ⟨w9.heap.size, 0, none⟩ = some (.int .i64 m.opset) ∧ W.cell? ⟨w9.heap.size, 1, none⟩ = some (.slice C1 m.inputs.length k1) ∧ W.cell? ⟨w9.heap.size, 2, none⟩ = some (.slice C2 m.outputs.length k2) ∧ W.cell? ⟨w9.heap.size, 3, none⟩ = some (.slice C3 m.inits.length k3) ∧ W.cell? ⟨w9.heap.size, 4, none⟩ = some (.slice C4 m.nodes.length k4)) ∧ (W.cell? ⟨w3.heap.size, 0, none⟩ = some (.int .i64 m.opset) ∧ W.cell? ⟨w3.heap.size, 1, none⟩ = some (.slice P1 m.inputs.length p1) ∧ W.cell? ⟨w3.heap.size, 2, none⟩ = some (.slice P2 m.outputs.length p2) ∧ W.cell? ⟨w3.heap.size, 3, none⟩ = some (.slice P3 m.inits.length p3) ∧ W.cell? ⟨w3.heap.size, 4, none⟩ = some (.slice P4 m.nodes.length p4)))
      (first | exact ⟨HC12.out.five, HX12.out.c.five⟩ | exact ⟨HC11.out.five, HX11.out.c.five⟩ | exact ⟨HC10.out.five, HX10.out.c.five⟩)
      (first
        | (go_at_call 7; (with_reducible refine (HOC.out _ HD10.out).mono ?_); rintro e w11 ⟨Q1, Q2, Q3, Q4, q1, q2, q3, q4, rfl, hq, hb⟩; have HQ := Lib.hid hq; have HX11 := Lib.hid (HX10.out.below hb); have HC11 := Lib.hid (HC10.out.below hb); have HL11 := Lib.hid (HL10.out.trans (hb.mono HL10.out.size)); clear hb hq)
        | (go_at_call 9; (with_reducible refine (HRC.out _ HL11.out Q1 Q2 Q3 Q4 q1 q2 q3 q4 HQ.out).mono ?_); rintro e w12 ⟨rfl, hb⟩; have HX12 := Lib.hid (HX11.out.below hb); have HC12 := Lib.hid (HC11.out.below hb); clear hb))
    all_goals
      clear HX10 HC10 HL10 HD10 HX11 HC11 HL11 HOC HRC HCR HC12
      obtain ⟨y0, y1, y2, y3, y4⟩ := HX12.out.b.five
      go_wp2_with fail
      refine (HC2.out _ HX12.out.b.all).mono ?_
      rintro e w13 ⟨D1, D2, D3, D4, l1, l2, l3, l4, rfl, hom, hb⟩
      have HDR := Lib.hid (clone_read hom HN.out)
      have HX13 := Lib.hid (HX12.out.below hb)
      clear hom hb HX12 y0 y1 y2 y3 y4
      have HOD := Lib.hid (lof_clone (c1 := l1) (c2 := l2) (c3 := l3) (c4 := l4) HDR.out)
      unfold mv at HOD
      go_wp2_with fail
      refine HOD.out.mono ?_
      rintro e w14 ⟨K1, K2, K3, K4, j1, j2, j3, j4, rfl, hk, hb⟩
      have HY14 := Lib.hid ((HX13.out.below hb).b.more (.cells #[.int .i64 n.opset, .slice K1 n.inputs.length j1, .slice K2 n.outputs.length j2, .slice K3 n.inits.length j3, .slice K4 n.nodes.length j4] 33))
      have HK14 := Lib.hid ((HX13.out.below hb).b.next #[.int .i64 n.opset, .slice K1 n.inputs.length j1, .slice K2 n.outputs.length j2, .slice K3 n.inits.length j3, .slice K4 n.nodes.length j4] 33)
      have HL14 := Lib.hid (show Below w14.heap.size w14 (w14.alloc (.cells #[.int .i64 n.opset, .slice K1 n.inputs.length j1, .slice K2 n.outputs.length j2, .slice K3 n.inits.length j3, .slice K4 n.nodes.length j4] 33)) from (Below.refl _ _).alloc (Nat.le_refl _) _)
      have HKM := Lib.hid ((hk.below HL14.out).more HL14.out.size)
      clear hk hb HOD HX13 HL14 HDR
      obtain ⟨y0, y1, y2, y3, y4⟩ := HY14.out.five
      go_wp2_with fail
      generalize hW : w14.alloc (.cells #[.int .i64 n.opset, .slice K1 n.inputs.length j1, .slice K2 n.outputs.length j2, .slice K3 n.inits.length j3, .slice K4 n.nodes.length j4] 33) = W0 at *
      clear hW
      refine (HC2.out _ HY14.out.all).mono ?_
      rintro e wz ⟨E1, E2, E3, E4, z1, z2, z3, z4, rfl, hom, hb⟩
      have HBZ := Lib.hid (hb.alloc hb.size (.cells #[.int .i64 n.opset, .slice E1 n.inputs.length z1, .slice E2 n.outputs.length z2, .slice E3 n.inits.length z3, .slice E4 n.nodes.length z4] 26))
      obtain ⟨v1, hv1⟩ : ∃ v1 : Value, v1 = .slice E1 n.inputs.length z1 := ⟨_, rfl⟩
      obtain ⟨v3, hv3⟩ : ∃ v3 : Value, v3 = .slice E3 n.inits.length z3 := ⟨_, rfl⟩
      obtain ⟨v4, hv4⟩ : ∃ v4 : Value, v4 = .slice E4 n.nodes.length z4 := ⟨_, rfl⟩
      obtain ⟨zc, hzc⟩ : ∃ zc : Array Value, zc = #[.int .i64 n.opset, .slice E1 n.inputs.length z1, .slice E2 n.outputs.length z2, .slice E3 n.inits.length z3, .slice E4 n.nodes.length z4] := ⟨_, rfl⟩
      obtain ⟨ca, cb, cd, aa, hzs, hl1, hl3, hl4, hs1, hs3, hs4, hsa⟩ := ZS.start (B := W0.heap.size) (g8 := wz.heap.size) (zc := zc) (W0 := W0) (v1 := v1) (v3 := v3) (v4 := v4) (hom.keep (show Below wz.heap.size wz (wz.alloc (.cells #[.int .i64 n.opset, .slice E1 n.inputs.length z1, .slice E2 n.outputs.length z2, .slice E3 n.inits.length z3, .slice E4 n.nodes.length z4] 26)) from (Below.refl _ _).alloc (Nat.le_refl _) _) |> (by rw [hv1, hv3, hv4]; exact ·)) HBZ.out hb.size (by rw [hzc]; exact heap_alloc_new wz _)
      have HZ := Lib.hid hzs
      have HV1 := Lib.hid hv1
      have HV3 := Lib.hid hv3
      have HV4 := Lib.hid hv4
      have HF := Lib.hid (fun f W (h : ZS W0.heap.size wz.heap.size zc W0 v1 v3 v4 ca cb cd aa f W) => (hzc ▸ h : ZS W0.heap.size wz.heap.size #[.int .i64 n.opset, .slice E1 n.inputs.length z1, .slice E2 n.outputs.length z2, .slice E3 n.inits.length z3, .slice E4 n.nodes.length z4] W0 v1 v3 v4 ca cb cd aa f W).five)
      have HL1 := Lib.hid (show ca.length = n.inputs.length from hl1)
      have HL3 := Lib.hid (show cb.length = n.inits.length from hl3)
      have HL4 := Lib.hid (show cd.length = n.nodes.length by rw [hl4]; unfold nM; simp)
      have HSZ1 := Lib.hid hs1
      have HSZ3 := Lib.hid hs3
      have HSZ4 := Lib.hid hs4
      have HSZA := Lib.hid hsa
      have hn1 := HN.out.len1
      have hn3 := HN.out.len3
      have hn4 := HN.out.len4
      clear hom hb HBZ hzs hv1 hv3 hv4 hzc hl1 hl3 hl4 hs1 hs3 hs4 hsa HC2 y0 y1 y2 y3 y4
      obtain ⟨y0, y1, y2, y3, y4⟩ := HF.out _ _ HZ.out
      go_wp2_with fail
      clear y0 y1 y2 y3 y4
      go_loopw [9, 57] (fun _ i wr => ∃ (k : Nat) (K : Int), i = .int .i64 K ∧ K = (k : Nat) ∧ k ≤ n.inputs.length ∧ ZS W0.heap.size wz.heap.size zc W0 v1 v3 v4 ca cb cd aa (fB 0 0) wr) (fun _ i _ => n.inputs.length - (intOf i).toNat)
      case atStart => exact ⟨0, _, rfl, rfl, by omega, HZ.out⟩
      case round =>
        obtain ⟨k, K, rfl, rfl, hk, hz⟩ := hrel
        have HZ1 := Lib.hid hz
        clear hz HZ
        obtain ⟨y0, y1, y2, y3, y4⟩ := HF.out _ _ HZ1.out
        by_cases hlt : k < n.inputs.length
        · have HKC := Lib.hid (show k < ca.length by rw [HL1.out]; exact hlt)
          obtain ⟨ga, cc, s, kk, A, nl, cl, hv, hsh, hnl⟩ := HZ1.out.inf_at HKC.out
          have HV := Lib.hid hv
          have HSH := Lib.hid hsh
          obtain rfl : E1 = some ⟨ga, 0, none⟩ := by
            have e := HV1.out.symm.trans hv
            simp only [Value.slice.injEq] at e
            exact e.1
          obtain ⟨hc, -⟩ := HZ1.out.inf_cells HSZ1.out HKC.out hv hsh
          clear hv hsh
          unfold maxLen at hnl
          go_wp2_with fail
          clear y0 y1 y2 y3 y4 hc
          go_loopw [10, 67] (fun _ i wi => ∃ (q : Nat) (Q : Int), i = .int .i64 Q ∧ Q = (q : Nat) ∧ q ≤ nl ∧ ZS W0.heap.size wz.heap.size zc W0 v1 v3 v4 ca cb cd aa (fB 0 0) wi) (fun _ i _ => nl - (intOf i).toNat)
          case atStart => exact ⟨0, _, rfl, rfl, by omega, HZ1.out⟩
          case round =>
            obtain ⟨q, Q, rfl, rfl, hq, hz⟩ := hrel
            have HZ2 := Lib.hid hz
            clear hz HZ1
            obtain ⟨y0, y1, y2, y3, y4⟩ := HF.out _ _ HZ2.out
            obtain ⟨hc, hcell⟩ := HZ2.out.inf_cells HSZ1.out HKC.out HV.out HSH.out
            by_cases hlq : q < nl
            · obtain ⟨gb, x, cur, rfl, hgB, hgc, hx, hfz⟩ := hcell q hlq
              have HNX := Lib.hid (fun x => HZ2.out.int (i := q) hgc hgB x)
              clear hcell hgc hgB
              go_wp2_with fail
              go_roundw
              case rel => exact ⟨q + 1, _, rfl, by omega, by omega, HNX.out _⟩
              case measure => simp [intOf]; omega
            · obtain rfl : q = nl := by omega
              clear hcell
              go_wp2_with fail
              go_roundw
              case rel => exact ⟨k + 1, _, rfl, by omega, by omega, HZ2.out⟩
              case measure => simp [intOf]; omega
        · obtain rfl : k = n.inputs.length := by omega
          have HZ := Lib.hid HZ1.out
          clear HZ1 hlt hk
          go_wp2_with fail
          clear y0 y1 y2 y3 y4
          go_loopw [11, 86] (fun _ i wr => ∃ (k : Nat) (K : Int), i = .int .i64 K ∧ K = (k : Nat) ∧ k ≤ n.inits.length ∧ ZS W0.heap.size wz.heap.size zc W0 v1 v3 v4 ca cb cd aa (fB 0 0) wr) (fun _ i _ => n.inits.length - (intOf i).toNat)
          case atStart => exact ⟨0, _, rfl, rfl, by omega, HZ.out⟩
          case round =>
            obtain ⟨k, K, rfl, rfl, hk, hz⟩ := hrel
            have HZ1 := Lib.hid hz
            clear hz HZ
            obtain ⟨y0, y1, y2, y3, y4⟩ := HF.out _ _ HZ1.out
            by_cases hlt : k < n.inits.length
            · have HKC := Lib.hid (show k < cb.length by rw [HL3.out]; exact hlt)
              obtain ⟨ga, cc, s, kk, A, nl, cl, dd, hv, hsh, hnl⟩ := HZ1.out.ten_at HKC.out
              have HV := Lib.hid hv
              have HSH := Lib.hid hsh
              obtain rfl : E3 = some ⟨ga, 0, none⟩ := by
                have e := HV3.out.symm.trans hv
                simp only [Value.slice.injEq] at e
                exact e.1
              obtain ⟨hc, -⟩ := HZ1.out.ten_cells HSZ3.out HKC.out hv hsh
              clear hv hsh
              unfold maxLen at hnl
              go_wp2_with fail
              clear y0 y1 y2 y3 y4 hc
              go_loopw [12, 96] (fun _ i wi => ∃ (q : Nat) (Q : Int), i = .int .i64 Q ∧ Q = (q : Nat) ∧ q ≤ nl ∧ ZS W0.heap.size wz.heap.size zc W0 v1 v3 v4 ca cb cd aa (fB 0 0) wi) (fun _ i _ => nl - (intOf i).toNat)
              case atStart => exact ⟨0, _, rfl, rfl, by omega, HZ1.out⟩
              case round =>
                obtain ⟨q, Q, rfl, rfl, hq, hz⟩ := hrel
                have HZ2 := Lib.hid hz
                clear hz HZ1
                obtain ⟨y0, y1, y2, y3, y4⟩ := HF.out _ _ HZ2.out
                obtain ⟨hc, hcell⟩ := HZ2.out.ten_cells HSZ3.out HKC.out HV.out HSH.out
                by_cases hlq : q < nl
                · obtain ⟨gb, x, cur, rfl, hgB, hgc, hx, hfz⟩ := hcell q hlq
                  have HNX := Lib.hid (fun x => HZ2.out.int (i := q) hgc hgB x)
                  clear hcell hgc hgB
                  go_wp2_with fail
                  go_roundw
                  case rel => exact ⟨q + 1, _, rfl, by omega, by omega, HNX.out _⟩
                  case measure => simp [intOf]; omega
                · obtain rfl : q = nl := by omega
                  clear hcell
                  go_wp2_with fail
                  go_roundw
                  case rel => exact ⟨k + 1, _, rfl, by omega, by omega, HZ2.out⟩
                  case measure => simp [intOf]; omega
            · obtain rfl : k = n.inits.length := by omega
              have HZ := Lib.hid HZ1.out
              clear HZ1 hlt hk
              go_wp2_with fail
              clear y0 y1 y2 y3 y4
              go_loopw [13, 115] (fun _ i wr => ∃ (k : Nat) (K : Int), i = .int .i64 K ∧ K = (k : Nat) ∧ k ≤ n.nodes.length ∧ ZS W0.heap.size wz.heap.size zc W0 v1 v3 v4 ca cb cd aa (fB k 0) wr) (fun _ i _ => n.nodes.length - (intOf i).toNat)
              case atStart => exact ⟨0, _, rfl, rfl, by omega, HZ.out⟩
              case round =>
                obtain ⟨k, K, rfl, rfl, hk, hz⟩ := hrel
                have HZ5 := Lib.hid hz
                clear hz HZ
                obtain ⟨y0, y1, y2, y3, y4⟩ := HF.out _ _ HZ5.out
                by_cases hlt : k < n.nodes.length
                · have HKC := Lib.hid (show k < cd.length by rw [HL4.out]; exact hlt)
                  obtain ⟨ga, cc, op, out, A, nl, cl, D, dl, hv, hsh, hnl, hal⟩ := HZ5.out.nod_at HKC.out
                  have HV := Lib.hid hv
                  have HSH := Lib.hid hsh
                  obtain rfl : E4 = some ⟨ga, 0, none⟩ := by
                    have e := HV4.out.symm.trans hv
                    simp only [Value.slice.injEq] at e
                    exact e.1
                  obtain ⟨hc, -, -⟩ := HZ5.out.nod_cells HSZ4.out HKC.out hv hsh
                  have HSZK := Lib.hid (HSZA.out k HKC.out)
                  clear hv hsh
                  unfold maxLen at hnl hal
                  go_wp2_with fail
                  clear y0 y1 y2 y3 y4 hc
                  go_loopw [14, 125] (fun _ i wi => ∃ (q : Nat) (Q : Int), i = .int .i64 Q ∧ Q = (q : Nat) ∧ q ≤ nl ∧ ZS W0.heap.size wz.heap.size zc W0 v1 v3 v4 ca cb cd aa (fB k q) wi) (fun _ i _ => nl - (intOf i).toNat)
                  case atStart => exact ⟨0, _, rfl, rfl, by omega, HZ5.out⟩
                  case round =>
                    obtain ⟨q, Q, rfl, rfl, hq, hz⟩ := hrel
                    have HZ6 := Lib.hid hz
                    clear hz HZ5
                    obtain ⟨y0, y1, y2, y3, y4⟩ := HF.out _ _ HZ6.out
                    obtain ⟨hc, hd, hcell⟩ := HZ6.out.nod_cells HSZ4.out HKC.out HV.out HSH.out
                    by_cases hlq : q < nl
                    · obtain ⟨gb, x, rfl, hx, hxs, hfz⟩ := hcell q hlq
                      rw [(fB_at k q).2] at hxs
                      have HNX := Lib.hid (HZ6.out.str (f' := fB k (q + 1)) (k := q) HKC.out HSH.out (x ++ ⟨#[120]⟩) (fun a b => fB_step k q a b) (by rw [(fB_at k q).1, ByteArray.size_append]; show x.size + 1 ≤ _; omega))
                      clear hcell hd
                      go_wp2_with fail
                      go_roundw
                      case rel => exact ⟨q + 1, _, rfl, by omega, by omega, HNX.out⟩
                      case measure => simp [intOf]; omega
                    · obtain rfl : q = nl := by omega
                      clear hcell hc
                      go_wp2_with fail
                      clear y0 y1 y2 y3 y4 hd
                      go_loopw [15, 147] (fun _ i wj => ∃ (j : Nat) (J : Int), i = .int .i64 J ∧ J = (j : Nat) ∧ j ≤ (aa k).length ∧ ZS W0.heap.size wz.heap.size zc W0 v1 v3 v4 ca cb cd aa (fB k q) wj) (fun _ i _ => (aa k).length - (intOf i).toNat)
                      case atStart => exact ⟨0, _, rfl, rfl, by omega, HZ6.out⟩
                      case round =>
                        obtain ⟨j, J, rfl, rfl, hj, hz⟩ := hrel
                        have HZ7 := Lib.hid hz
                        clear hz HZ6
                        obtain ⟨y0, y1, y2, y3, y4⟩ := HF.out _ _ HZ7.out
                        obtain ⟨-, hd, -⟩ := HZ7.out.nod_cells HSZ4.out HKC.out HV.out HSH.out
                        by_cases hlj : j < (aa k).length
                        · obtain ⟨gd, s, b, kk, E, na, ce, rfl, hsa, hna⟩ := HZ7.out.att_at HKC.out HSH.out hlj
                          have HSA := Lib.hid hsa
                          have HLJ := Lib.hid hlj
                          obtain ⟨he, -⟩ := HZ7.out.att_cells HSZK.out HKC.out HSH.out hlj hsa
                          clear hsa
                          unfold maxLen at hna
                          go_wp2_with fail
                          clear y0 y1 y2 y3 y4 hd he
                          go_loopw [16, 161] (fun _ i wq => ∃ (t : Nat) (TT : Int), i = .int .i64 TT ∧ TT = (t : Nat) ∧ t ≤ na ∧ ZS W0.heap.size wz.heap.size zc W0 v1 v3 v4 ca cb cd aa (fB k q) wq) (fun _ i _ => na - (intOf i).toNat)
                          case atStart => exact ⟨0, _, rfl, rfl, by omega, HZ7.out⟩
                          case round =>
                            obtain ⟨t, TT, rfl, rfl, ht, hz⟩ := hrel
                            have HZ8 := Lib.hid hz
                            clear hz HZ7
                            obtain ⟨y0, y1, y2, y3, y4⟩ := HF.out _ _ HZ8.out
                            obtain ⟨-, hd, -⟩ := HZ8.out.nod_cells HSZ4.out HKC.out HV.out HSH.out
                            obtain ⟨he, hcell⟩ := HZ8.out.att_cells HSZK.out HKC.out HSH.out HLJ.out HSA.out
                            by_cases hlq : t < na
                            · obtain ⟨gb, x, cur, rfl, hgB, hgc, hx, hfz⟩ := hcell t hlq
                              have HNX := Lib.hid (fun x => HZ8.out.int (i := t) hgc hgB x)
                              clear hcell hgc hgB
                              go_wp2_with fail
                              go_roundw
                              case rel => exact ⟨t + 1, _, rfl, by omega, by omega, HNX.out _⟩
                              case measure => simp [intOf]; omega
                            · obtain rfl : t = na := by omega
                              clear hcell
                              go_wp2_with fail
                              go_roundw
                              case rel => exact ⟨j + 1, _, rfl, by omega, by omega, HZ8.out⟩
                              case measure => simp [intOf]; omega
                        · obtain rfl : j = (aa k).length := by omega
                          clear hd
                          go_wp2_with fail
                          go_roundw
                          case rel => exact ⟨k + 1, _, rfl, by omega, by omega, HZ7.out.mono (fB_next k q)⟩
                          case measure => simp [intOf]; omega
                · obtain rfl : k = n.nodes.length := by omega
                  have HZE := Lib.hid HZ5.out
                  clear HZ5 hlt hk HF
                  have HYE := Lib.hid (HY14.out.low HZE.out.below HY14.out.2.1 HY14.out.all.size)
                  have HKE := Lib.hid (HK14.out.low HZE.out.below HK14.out.2.1 HY14.out.all.size)
                  have HKM2 := Lib.hid ((HKM.out.below HZE.out.below).more HZE.out.below.size)
                  clear y0 y1 y2 y3 y4
                  go_upto_region 47 with fail
                  have HY0 := Lib.hid HYE.out.drew10
                  have HK0 := Lib.hid HKE.out.drew10
                  have HLX := Lib.hid (show Below wr.heap.size wr wr.drew from (Below.refl _ _).drew)
                  have HRS := Lib.hid (fun W (h : Below wr.heap.size wr W) Q1 Q2 Q3 Q4 q1 q2 q3 q4 (hq : ModAt W.heap.size W n Q1 Q2 Q3 Q4) => rsame_clone2 (m := n) (c1 := q1) (c2 := q2) (c3 := q3) (c4 := q4) (d1 := j1) (d2 := j2) (d3 := j3) (d4 := j4) hq ((HKM2.out.below h).more h.size))
                  unfold mv at HRS
                  go_region_held (fun W => (W.cell? ⟨w.heap.size + 1, 0, none⟩ = some (.int .i64 n.opset) ∧ W.cell? ⟨w.heap.size + 1, 1, none⟩ = some (.slice B1 n.inputs.length d1) ∧ W.cell? ⟨w.heap.size + 1, 2, none⟩ = some (.slice B2 n.outputs.length d2) ∧ W.cell? ⟨w.heap.size + 1, 3, none⟩ = some (.slice B3 n.inits.length d3) ∧ W.cell? ⟨w.heap.size + 1, 4, none⟩ = some (.slice B4 n.nodes.length d4)) ∧ (W.cell? ⟨w14.heap.size, 0, none⟩ = some (.int .i64 n.opset) ∧ W.cell? ⟨w14.heap.size, 1, none⟩ = some (.slice K1 n.inputs.length j1) ∧ W.cell? ⟨w14.heap.size, 2, none⟩ = some (.slice K2 n.outputs.length j2) ∧ W.cell? ⟨w14.heap.size, 3, none⟩ = some (.slice K3 n.inits.length j3) ∧ W.cell? ⟨w14.heap.size, 4, none⟩ = some (.slice K4 n.nodes.length j4)))
                    (first | exact ⟨HY3.out.five, HK3.out.five⟩ | exact ⟨HY2.out.five, HK2.out.five⟩ | exact ⟨HY1.out.five, HK1.out.five⟩ | exact ⟨HY0.out.five, HK0.out.five⟩)
                    (first
                      | (go_at_call 6; (with_reducible refine (mawake_any _).mono ?_); rintro e u1 ⟨rfl, hb⟩; have HY1 := Lib.hid (HY0.out.below hb); have HK1 := Lib.hid (HK0.out.below hb); have HL1' := Lib.hid (HLX.out.trans (hb.mono HLX.out.size)); clear hb)
                      | (go_at_call 7; (with_reducible refine (HO2.out _ HY1.out.all).mono ?_); rintro e u2 ⟨Q1, Q2, Q3, Q4, q1, q2, q3, q4, rfl, hq, hb⟩; have HQ := Lib.hid hq; have HY2 := Lib.hid (HY1.out.below hb); have HK2 := Lib.hid (HK1.out.below hb); have HL2' := Lib.hid (HL1'.out.trans (hb.mono HL1'.out.size)); clear hb hq)
                      | (go_at_call 9; (with_reducible refine (HRS.out _ HL2'.out Q1 Q2 Q3 Q4 q1 q2 q3 q4 HQ.out).mono ?_); rintro e u3 ⟨rfl, hb⟩; have HY3 := Lib.hid (HY2.out.below hb); have HK3 := Lib.hid (HK2.out.below hb); clear hb))
                  all_goals
                    go_wp2_with fail
                    go_ret
                    exact ⟨rfl, HY3.out.all⟩
end Go.Proofs.Ytpdpimchchfocaa
/- The law ModelTells (agatelaw10): for every input that can be read the call returns true, and its arguments read behind it as before. -/
namespace Go.Proofs.Ytpdpimchchfocaa.modelTells
open Go.ChangeShapes Go.WideShapes Go.ChangeAt Go.RowKit
open Go.ChangeMaps (open_string shut_string)
set_option linter.unusedVariables false
theorem own : ownKnob Try.prog.godebug = none := by kernel_rfl
theorem laidOut : laidOutB Try.prog = true := by kernel_rfl
theorem readable : ([26, 26].all fun t => Try.prog.readableRec t && decide (t < Try.prog.types.size)) = true := by kernel_rfl
set_option maxRecDepth 100000 in
theorem lifted (os : Os) (started : os.Started) (H : Type) (enc : TypeId × Value → H) :
    ReturnsInHanded {} Try.checked os 3 .any (Rows.modelTellsSpec.pre6 enc Try.prog Try.f3 Rows.modelTellsRow.domain false) (Rows.modelTellsSpec.post enc Try.prog Try.f3 false true false false) := by
  refine returnsInHanded_of_change_sized (C := Try.checked) own started (by kernel_rfl) Try.func3
    (ChangeSpec.witness6 (enc := enc) (C := Try.checked) false ⟨#[], #[.agg #[.int .i64 0, .slice none 0 0, .slice none 0 0, .slice none 0 0, .slice none 0 0], .agg #[.int .i64 0, .slice none 0 0, .slice none 0 0, .slice none 0 0, .slice none 0 0]], []⟩ 8 (by kernel_rfl) (by kernel_rfl) (by kernel_rfl) (by kernel_rfl)) ?_
  intro W base args ds gs before hval0 hW hcnd hsz _
  have hval : ∀ (j : Nat) t v, Try.f3.params[j]? = some t → args[j]? = some v → Value.okWide Try.prog W .any base t v := hval0
  have hW' := hW
  obtain ⟨p, q, hA0, hV, rfl, hfz, hnd⟩ := hW
  have hA : DataW.TrodAll enc Try.prog W 0 (fun _ => true) true Try.f3.params.toList args.toList ds p := hA0
  rw [Try.params3] at hA hval
  obtain ⟨rfl, rfl⟩ := trodVars_none hV
  have hkeep := hA
  have hcalls : Calls Try.prog 3 args W fun e W' => e = .returned (.bool true) ∧ Below W.heap.size W W' := by
    clear hW' hA0 hval0 hfz hnd hV hkeep
    obtain ⟨v0, vs0, d0, ds0, p0, q0, hargs, rfl, rfl, h0, r0⟩ := trodAll_cons hA
    obtain ⟨v1, vs1, d1, ds1, p1, q1, rfl, rfl, rfl, h1, r1⟩ := trodAll_cons r0
    obtain ⟨rfl, rfl, rfl⟩ := trodAll_nil r1
    obtain rfl : args = #[v0, v1] := by cases args; simp_all
    obtain ⟨fs, hfs⟩ := modelStruct
    have hv0 := okWide_struct hfs (hval 0 26 v0 rfl rfl)
    have hv1 := okWide_struct hfs (hval 1 26 v1 rfl rfl)
    have hz0 : ∀ n ∈ d0.weights Try.prog 26, n ≤ reachBytes := fun n hn => by
      have := List.all_eq_true.1 hsz n (DataW.weights_mem_each (j := 0) (t := 26) (d := d0) rfl rfl n hn)
      simpa using this
    have hz1 : ∀ n ∈ d1.weights Try.prog 26, n ≤ reachBytes := fun n hn => by
      have := List.all_eq_true.1 hsz n (DataW.weights_mem_each (j := 1) (t := 26) (d := d1) rfl rfl n hn)
      simpa using this
    obtain ⟨m, A1, A2, A3, A4, c1, c2, c3, c4, rfl, hm⟩ := open_model h0 hv0 hz0
    obtain ⟨n, B1, B2, B3, B4, e1, e2, e3, e4, rfl, hn⟩ := open_model h1 hv1 hz1
    exact tells_walk m n A1 A2 A3 A4 B1 B2 B3 B4 c1 c2 c3 c4 e1 e2 e3 e4 W hm hn
  refine hcalls.mono fun e W' ⟨he, bel⟩ => ?_
  subst he
  have hargs := below_trodAll laidOut bel readable hkeep
  have hlen := trodAll_length hkeep
  match ds, hlen, hargs, hW' with
  | [e0, e1], _, hargs, hW' => exact ⟨_, rfl, _, _, _, [], _, [], hW', trodAll_mk1 (shut_bool Try.underlying4 _), hargs, rfl, bel.frame _, fun h => by cases h⟩

theorem over : Rows.modelTellsRow.holds Try.pinned (OpenSpec.ofChange Rows.modelTellsSpec) :=
  OpenClaim.holds_of_wide 3 Try.f3 rfl rfl rfl rfl rfl rfl rfl ⟨rfl, rfl, rfl, rfl, rfl⟩ rfl rfl rfl rfl rfl (by kernel_rfl) Try.func3 (by kernel_rfl)
    (of_decide_eq_true (by kernel_rfl)) (by unfold Func.isWrapper; first | (rw [if_pos (by decide +kernel)]; kernel_rfl) | (rw [if_neg (by decide +kernel)]; exact ⟨rfl, rfl⟩))
    (fun os started H enc _ => lifted os started H enc)
theorem proved : Rows.ModelTellsSaid := over
#print axioms proved
end Go.Proofs.Ytpdpimchchfocaa.modelTells
