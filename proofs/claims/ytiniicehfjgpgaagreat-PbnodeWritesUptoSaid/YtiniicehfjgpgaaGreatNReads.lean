/- The walk of the law PbnodeReads. -/
import Derived.Test.YtiniicehfjgpgaaGreatNSame
import Derived.Test.YtiniicehfjgpgaaGreatNAttr
import Derived.Test.YtiniicehfjgpgaaGreatNInfoD
import Derived.Deep.RegionHeld
namespace Go.Proofs.YtiniicehfjgpgaaGreat
open Go.RowKit M1 M2 M3 M8 M9 M10 M11 Go.Sort
open M7 (nm)

/-- four blocks of the call's own -/
structure R4 (w : World) (g5 g7 g9 g11 : Nat) (c5 c7 c9 c11 : Array Value) (W : World) : Prop where
  a : Bx w g5 c5 26 W
  b : Bx w g7 c7 32 W
  c : Bx w g9 c9 38 W
  d : Bx w g11 c11 42 W
section
variable {w W W' : World} {g5 g7 g9 g11 : Nat} {c5 c7 c9 c11 : Array Value}
theorem R4.below (h : R4 w g5 g7 g9 g11 c5 c7 c9 c11 W) (hb : Below W.heap.size W W') : R4 w g5 g7 g9 g11 c5 c7 c9 c11 W' := ⟨h.a.below hb, h.b.below hb, h.c.below hb, h.d.below hb⟩
theorem R4.more (h : R4 w g5 g7 g9 g11 c5 c7 c9 c11 W) (o : Obj) : R4 w g5 g7 g9 g11 c5 c7 c9 c11 (W.alloc o) := ⟨h.a.more o, h.b.more o, h.c.more o, h.d.more o⟩
theorem R4.drew (h : R4 w g5 g7 g9 g11 c5 c7 c9 c11 W) : R4 w g5 g7 g9 g11 c5 c7 c9 c11 W.drew := ⟨h.a.drew10, h.b.drew10, h.c.drew10, h.d.drew10⟩
theorem R4.all4 {p5 p7 q5 q7 : Value} {r5 s5 r7 s7 a9 b9 d9 a11 b11 d11 : Value} (h : R4 w g5 g7 g9 g11 #[p5, q5, r5, s5] #[p7, q7, r7, s7] #[a9, b9, d9] #[a11, b11, d11] W) :
    (W.cell? ⟨g5, 0, none⟩ = some p5 ∧ W.cell? ⟨g5, 1, none⟩ = some q5 ∧ W.cell? ⟨g5, 2, none⟩ = some r5 ∧ W.cell? ⟨g5, 3, none⟩ = some s5) ∧ (W.cell? ⟨g7, 0, none⟩ = some p7 ∧ W.cell? ⟨g7, 1, none⟩ = some q7 ∧ W.cell? ⟨g7, 2, none⟩ = some r7 ∧ W.cell? ⟨g7, 3, none⟩ = some s7) ∧
    (W.cell? ⟨g9, 0, none⟩ = some a9 ∧ W.cell? ⟨g9, 1, none⟩ = some b9 ∧ W.cell? ⟨g9, 2, none⟩ = some d9) ∧ (W.cell? ⟨g11, 0, none⟩ = some a11 ∧ W.cell? ⟨g11, 1, none⟩ = some b11 ∧ W.cell? ⟨g11, 2, none⟩ = some d11) :=
  ⟨h.a.four, h.b.four, h.c.three, h.d.three⟩
end

set_option maxRecDepth 100000 in
set_option maxHeartbeats 8000000 in
theorem reads11_walk (a b : ByteArray) (w : World) (ha : a.size ≤ maxLen) (hb : b.size ≤ maxLen) :
    Calls Tryz.prog 3 #[.string a, .string b] w fun e w' => e = .returned (.bool true) ∧ Below w.heap.size w w' := by
  have HAW := Lib.hid (fun W => nawake_any W)
  by_cases h1 : 3000 < a.size
  · have h1' : (3000 : Int) < (a.size : Int) := by omega
    go_enter Tryz.func3, Tryz.ntmps3
    go_wp2_with fail
    refine (HAW.out _).mono ?_
    rintro e w1 ⟨rfl, hb1⟩
    have HB := Lib.hid hb1
    clear hb1
    go_wp2_with fail
    go_ret
    exact ⟨rfl, HB.out⟩
  have h1' : ¬ (3000 : Int) < (a.size : Int) := by omega
  by_cases h2 : 3000 < b.size
  · have h2' : (3000 : Int) < (b.size : Int) := by omega
    go_enter Tryz.func3, Tryz.ntmps3
    go_wp2_with fail
    refine (HAW.out _).mono ?_
    rintro e w1 ⟨rfl, hb1⟩
    have HB := Lib.hid hb1
    clear hb1
    go_wp2_with fail
    go_ret
    exact ⟨rfl, HB.out⟩
  have h2' : ¬ (3000 : Int) < (b.size : Int) := by omega
  have HC1 := Lib.hid (fun W => readNode_any a W ha)
  have HC2 := Lib.hid (fun W => rnode11_any a W ha)
  have HC3 := Lib.hid (fun W => readInfo_any b W hb)
  have HC4 := Lib.hid (fun W => rinfo11_any b W hb)
  generalize nodeM a = RN at *
  generalize infoM b = RI at *
  obtain ⟨N, CN⟩ := RN
  obtain ⟨I, CI⟩ := RI
  clear ha hb
  go_enter Tryz.func3, Tryz.ntmps3
  go_wp2_with fail
  refine (HC1.out _).mono ?_
  rintro e w1 ⟨cs, rfl, hn, hb1⟩
  dsimp only at hn
  obtain ⟨A5, c5, D5, d5, rfl⟩ := ONod.shape hn
  have hba := (Below.refl w1.heap.size w1).alloc (Nat.le_refl _) (.cells #[.string N.op, .slice A5 N.ins.length c5, .string N.out, .slice D5 N.attrs.length d5] 26)
  have HB5 := Lib.hid (step_below hb1 hba)
  have HX5 : Hid (Bx w w1.heap.size #[.string N.op, .slice A5 N.ins.length c5, .string N.out, .slice D5 N.attrs.length d5] 26 (w1.alloc (.cells #[.string N.op, .slice A5 N.ins.length c5, .string N.out, .slice D5 N.attrs.length d5] 26))) := Lib.hid ⟨heap_alloc_new w1 _, by simp, HB5.out⟩
  have HN5 := Lib.hid (eo_nod.keep hn hba)
  clear hn hb1 hba HC1
  go_wp2_with fail
  refine (HC2.out _).mono ?_
  rintro e w2 ⟨cs, rfl, hn, hb2⟩
  dsimp only at hn
  obtain ⟨A7, c7, D7, d7, hcs⟩ : ∃ A7 c7 D7 d7, cs = [.string N.op, .slice A7 N.ins.length c7, .string N.out, .slice D7 N.attrs.length d7] := NodAt.shape hn.at_
  subst hcs
  have hba := step_below hb2 ((Below.refl w2.heap.size w2).alloc (Nat.le_refl _) (.cells #[.string N.op, .slice A7 N.ins.length c7, .string N.out, .slice D7 N.attrs.length d7] 32))
  have HX7 := Lib.hid ((HX5.out.below hb2).next #[.string N.op, .slice A7 N.ins.length c7, .string N.out, .slice D7 N.attrs.length d7] 32)
  have HX5b := Lib.hid (HX5.out.below hba)
  have HN7 := Lib.hid (hn.keep ((Below.refl w2.heap.size w2).alloc (Nat.le_refl _) (.cells #[.string N.op, .slice A7 N.ins.length c7, .string N.out, .slice D7 N.attrs.length d7] 32)))
  have HN5b := Lib.hid (eo_nod.keep HN5.out hba)
  clear hn hb2 hba HC2 HX5 HN5 HB5
  go_wp2_with fail
  refine (HC3.out _).mono ?_
  rintro e w3 ⟨cs, rfl, hn, hb3⟩
  dsimp only at hn
  obtain ⟨A9, c9, rfl⟩ := OInf.shape hn
  have hba := step_below hb3 ((Below.refl w3.heap.size w3).alloc (Nat.le_refl _) (.cells #[.string I.name, .int .i64 I.kind, .slice A9 I.dims.length c9] 38))
  have HX9 := Lib.hid ((HX5b.out.below hb3).next #[.string I.name, .int .i64 I.kind, .slice A9 I.dims.length c9] 38)
  have HX5c := Lib.hid (HX5b.out.below hba)
  have HX7b := Lib.hid (HX7.out.below hba)
  have HI9 := Lib.hid (eo_inf.keep hn ((Below.refl w3.heap.size w3).alloc (Nat.le_refl _) (.cells #[.string I.name, .int .i64 I.kind, .slice A9 I.dims.length c9] 38)))
  have HN5c := Lib.hid (eo_nod.keep HN5b.out hba)
  have HN7b := Lib.hid (HN7.out.keep hba)
  clear hn hb3 hba HC3 HX5b HX7 HN5b HN7
  go_wp2_with fail
  refine (HC4.out _).mono ?_
  rintro e w4 ⟨cs, rfl, hn, hb4⟩
  dsimp only at hn
  obtain ⟨A11, c11, rfl⟩ := OInf.shape hn
  have hba := step_below hb4 ((Below.refl w4.heap.size w4).alloc (Nat.le_refl _) (.cells #[.string I.name, .int .i64 I.kind, .slice A11 I.dims.length c11] 42))
  have HX : Hid (R4 w w1.heap.size w2.heap.size w3.heap.size w4.heap.size #[.string N.op, .slice A5 N.ins.length c5, .string N.out, .slice D5 N.attrs.length d5] #[.string N.op, .slice A7 N.ins.length c7, .string N.out, .slice D7 N.attrs.length d7] #[.string I.name, .int .i64 I.kind, .slice A9 I.dims.length c9] #[.string I.name, .int .i64 I.kind, .slice A11 I.dims.length c11] (w4.alloc (.cells #[.string I.name, .int .i64 I.kind, .slice A11 I.dims.length c11] 42))) := Lib.hid ⟨HX5c.out.below hba, HX7b.out.below hba, HX9.out.below hba, (HX5c.out.below hb4).next #[.string I.name, .int .i64 I.kind, .slice A11 I.dims.length c11] 42⟩
  have HI11 := Lib.hid (eo_inf.keep hn ((Below.refl w4.heap.size w4).alloc (Nat.le_refl _) (.cells #[.string I.name, .int .i64 I.kind, .slice A11 I.dims.length c11] 42))).at_
  have HI9b := Lib.hid (eo_inf.keep HI9.out hba).at_
  have HN5d := Lib.hid (eo_nod.keep HN5c.out hba).at_
  have HN7c := Lib.hid (HN7b.out.keep hba).at_
  clear hn hb4 hba HC4 HX5c HX7b HX9 HI9 HN5c HN7b
  go_upto_region 7 with fail
  generalize w4.alloc (.cells #[.string I.name, .int .i64 I.kind, .slice A11 I.dims.length c11] 42) = W at *
  have HX0 := Lib.hid HX.out.drew
  have HL0 : Hid (Below W.heap.size W W.drew) := Lib.hid (Below.refl _ _).drew
  have HLN := Lib.hid (fun W' (h : Below W.heap.size W W') => lnode_any W.heap.size N _ W' h.size (ek_nod.below HN5d.out h))
  have HNS := Lib.hid (fun W' (h : Below W.heap.size W W') cs (hr : NodAt W'.heap.size W' N cs) => (by have q := rnode_any N N cs _ W' hr (ek_nod.more (ek_nod.below HN7c.out h) h.size); rwa [sameN_refl] at q : Calls Tryz.prog 10 #[.agg cs.toArray, .agg #[.string N.op, .slice A7 N.ins.length c7, .string N.out, .slice D7 N.attrs.length d7]] W' fun e w' => e = .returned (.bool true) ∧ Below W'.heap.size W' w'))
  have HLI : Hid (∀ W' (_ : Below W.heap.size W W'), Calls Tryz.prog 13 #[.slice (some ⟨W'.heap.size, 0, none⟩) 1 1] (W'.alloc (.cells #[.string I.name, .int .i64 I.kind, .slice A9 I.dims.length c9] 38)) fun e w' => ∃ v, e = .returned v ∧ RR InfAt w' (W'.heap.size + 1) 42 3 v [I] ∧ Below (W'.alloc (.cells #[.string I.name, .int .i64 I.kind, .slice A9 I.dims.length c9] 38)).heap.size (W'.alloc (.cells #[.string I.name, .int .i64 I.kind, .slice A9 I.dims.length c9] 38)) w') := Lib.hid (fun W' h => linfos_any (W'.heap.size + 1) [I] (some ⟨W'.heap.size, 0, none⟩) 1 (W'.alloc (.cells #[.string I.name, .int .i64 I.kind, .slice A9 I.dims.length c9] 38)) (by simp) (by simp) (dr_lit W' I A9 c9 38 (ek_inf.more (ek_inf.below HI9b.out h) h.size)))
  have HSM := Lib.hid (fun W' (h : Below W.heap.size W W') cs (hr : InfAt W'.heap.size W' I cs) => same11_any I cs _ W' hr (ek_inf.more (ek_inf.below HI11.out h) h.size))
  clear HX HN5d HN7c HI9b HI11
  obtain ⟨⟨p0, q0, r0, s0⟩, ⟨t0, u0, v0, x0⟩, ⟨y0, z0, m0⟩, ⟨n0, o0, l0⟩⟩ := R4.all4 HX0.out
  go_region_with (first
    | (go_at_call 5; (with_reducible refine (HAW.out _).mono ?_); rintro e w5 ⟨rfl, hb⟩; have HX1 := Lib.hid (HX0.out.below hb); have HL1 := Lib.hid (HL0.out.trans (hb.mono HL0.out.size)); clear hb; obtain ⟨⟨p1, q1, r1, s1⟩, ⟨t1, u1, v1, x1⟩, ⟨y1, z1, m1⟩, ⟨n1, o1, l1⟩⟩ := R4.all4 HX1.out)
    | (go_at_call 11; (with_reducible refine (HLN.out _ HL1.out).mono ?_); rintro e w6 ⟨cs, rfl, hr, hb⟩; have HX2 := Lib.hid (HX1.out.below hb); have HL2 := Lib.hid (HL1.out.trans (hb.mono HL1.out.size)); have HRA := Lib.hid (hr.at_ HL2.out.size); obtain ⟨A8, c8, D8, d8, rfl⟩ := RNod.shape hr; clear hb hr; obtain ⟨⟨p2, q2, r2, s2⟩, ⟨t2, u2, v2, x2⟩, ⟨y2, z2, m2⟩, ⟨n2, o2, l2⟩⟩ := R4.all4 HX2.out)
    | (go_at_call 10; (with_reducible refine (HNS.out _ HL2.out _ HRA.out).mono ?_); rintro e w7 ⟨rfl, hb⟩; have HX3 := Lib.hid (HX2.out.below hb); have HL3 := Lib.hid (HL2.out.trans (hb.mono HL2.out.size)); have HX4 := Lib.hid (HX3.out.more (.cells #[.string I.name, .int .i64 I.kind, .slice A9 I.dims.length c9] 38)); have HL4 := Lib.hid (HL3.out.alloc HL3.out.size (.cells #[.string I.name, .int .i64 I.kind, .slice A9 I.dims.length c9] 38)); clear hb; obtain ⟨⟨p3, q3, r3, s3⟩, ⟨t3, u3, v3, x3⟩, ⟨y3, z3, m3⟩, ⟨n3, o3, l3⟩⟩ := R4.all4 HX3.out; obtain ⟨⟨p4, q4, r4, s4⟩, ⟨t4, u4, v4, x4⟩, ⟨y4, z4, m4⟩, ⟨n4, o4, l4⟩⟩ := R4.all4 HX4.out)
    | (go_at_call 13; (with_reducible refine (HLI.out _ HL3.out).mono ?_); rintro e w8 ⟨v, rfl, hr, hb⟩; have HX5 := Lib.hid (HX4.out.below hb); have HL5 := Lib.hid (HL4.out.trans (hb.mono HL4.out.size)); obtain ⟨g, cg, A12, k12, rfl, j0, j1, j2, hy⟩ := rr_one hr; have HIA := Lib.hid (ek_inf.more hy (Nat.le_trans (by simp) hb.size)); clear hb hr hy; obtain ⟨⟨p5, q5, r5, s5⟩, ⟨t5, u5, v5, x5⟩, ⟨y5, z5, m5⟩, ⟨n5, o5, l5⟩⟩ := R4.all4 HX5.out)
    | (go_at_call 12; (with_reducible refine (HSM.out _ HL5.out _ HIA.out).mono ?_); rintro e w9 ⟨rfl, hb⟩; have HX6 := Lib.hid (HX5.out.below hb); clear hb; obtain ⟨⟨p6, q6, r6, s6⟩, ⟨t6, u6, v6, x6⟩, ⟨y6, z6, m6⟩, ⟨n6, o6, l6⟩⟩ := R4.all4 HX6.out))
  all_goals
    go_wp2_with fail
    go_ret
    exact ⟨rfl, HX6.out.a.all⟩
end Go.Proofs.YtiniicehfjgpgaaGreat
