/- The walk of the law GaussReckons. -/
import Derived.Test.YtldgpmnckhlbbaaGReads
namespace Go.Proofs.Ytldgpmnckhlbbaa
open Go.RowKit M6 Go.Sort

theorem oc_small (n m : Int) : (oc n m).1.natAbs ≤ 1048576 ∧ (oc n m).2.1.natAbs ≤ 1048576 ∧ ((oc n m).2.2 = 0 ∨ (oc n m).2.2 = 17) := by
  unfold oc
  split
  · rename_i h; exact ⟨h.1, h.2, .inl rfl⟩
  · exact ⟨by decide, by decide, .inr rfl⟩
theorem res_small (b : Bool) (n m : Int) : (res b n m).1.natAbs ≤ 1048576 ∧ (res b n m).2.1.natAbs ≤ 1048576 ∧ ((res b n m).2.2 = 0 ∨ (res b n m).2.2 = 17) := by
  unfold res
  split
  · exact oc_small n m
  · exact ⟨by decide, by decide, .inr rfl⟩
theorem pt_yes {n m : Int} (h : n.natAbs ≤ 1048576) (h2 : m.natAbs ≤ 1048576) : pt n m = (bs (sz n) ++ bs (sz m), 0) := if_pos ⟨h, h2⟩
/-- the two blocks of the law, kept -/
def Su (w : World) (a b c d : Int) (W : World) : Prop :=
  W.heap[w.heap.size]? = some (.cells #[.int .i64 a, .int .i64 b] 23 (0, 0)) ∧ W.heap[w.heap.size + 1]? = some (.cells #[.int .i64 c, .int .i64 d] 23 (0, 0)) ∧ w.heap.size + 2 ≤ W.heap.size ∧ Below w.heap.size w W
theorem Su.below {w W W' : World} {a b c d : Int} (h : Su w a b c d W) (hb : Below W.heap.size W W') : Su w a b c d W' := by
  obtain ⟨h1, h2, h3, h4⟩ := h
  exact ⟨(hb.block _ (by omega)).trans h1, (hb.block _ (by omega)).trans h2, Nat.le_trans h3 hb.size, h4.trans (hb.mono h4.size)⟩
theorem Su.start (w : World) (a b c d : Int) : Su w a b c d ((w.alloc (.cells #[.int .i64 a, .int .i64 b] 23)).alloc (.cells #[.int .i64 c, .int .i64 d] 23)) := by
  have e1 := heap_alloc_new w (.cells #[.int .i64 a, .int .i64 b] 23)
  have e2 := heap_alloc_new (w.alloc (.cells #[.int .i64 a, .int .i64 b] 23)) (.cells #[.int .i64 c, .int .i64 d] 23)
  have hz1 : (w.alloc (.cells #[.int .i64 a, .int .i64 b] 23)).heap.size = w.heap.size + 1 := by simp
  rw [hz1] at e2
  refine ⟨?_, e2, by simp, ?_⟩
  · exact (Below.heap_alloc _ _ w.heap.size (by rw [hz1]; omega)).trans e1
  · exact ((Below.refl _ _).alloc (Nat.le_refl _) _).alloc (by rw [hz1]; omega) _
theorem Su.facts {w W : World} {a b c d : Int} (h : Su w a b c d W) : (W.cell? ⟨w.heap.size, 0, none⟩ = some (.int .i64 a) ∧ W.cell? ⟨w.heap.size, 1, none⟩ = some (.int .i64 b)) ∧ (W.cell? ⟨w.heap.size + 1, 0, none⟩ = some (.int .i64 c) ∧ W.cell? ⟨w.heap.size + 1, 1, none⟩ = some (.int .i64 d)) :=
  ⟨cells_of2 h.1, cells_of2 h.2.1⟩
theorem Su.two {w W W' : World} {a b c d : Int} {p q : Value} (h : Su w a b c d W) (hb : Below (W.alloc (.cells #[p, q] 23)).heap.size (W.alloc (.cells #[p, q] 23)) W') : Su w a b c d W' ∧ W'.heap[W.heap.size]? = some (.cells #[p, q] 23 (0, 0)) :=
  ⟨h.below (below_one hb), kept2 hb⟩

set_option maxRecDepth 100000 in
set_option maxHeartbeats 2000000 in
theorem gaussReckons_walk (a b c d : Int) (w : World) :
    Calls Try.prog 4 #[.int .i64 a, .int .i64 b, .int .i64 c, .int .i64 d] w fun e w' => e = .returned (.bool true) ∧ Below w.heap.size w w' := by
  have H0 := Lib.hid (Su.start w a b c d)
  by_cases hn : a.natAbs ≤ 1125899906842624 ∧ b.natAbs ≤ 1125899906842624
  · by_cases hn2 : c.natAbs ≤ 1125899906842624 ∧ d.natAbs ≤ 1125899906842624
    · obtain ⟨c0, c1⟩ := H0.out.facts
      have HA := Lib.hid (fun W => gadd_any a b c d W (by omega) (by omega) (by omega) (by omega))
      have HSU := Lib.hid (fun W => gsub_any a b c d W (by omega) (by omega) (by omega) (by omega))
      have HMU := Lib.hid (fun W => gmul_any a b c d W (by omega) (by omega) (by omega) (by omega))
      have HNE := Lib.hid (fun W => gneg_any a b W (by omega) (by omega))
      have HO1 := Lib.hid (fun W => of_any a b W)
      have HO2 := Lib.hid (fun W => of_any c d W)
      have HD0 := Lib.hid (fun W => do0 a b c d W)
      have HD1 := Lib.hid (fun W => do1 a b c d W)
      have HD2 := Lib.hid (fun W => do2 a b c d W)
      have HD3 := Lib.hid (fun W => do3 a b c d W)
      have HNR := Lib.hid (And.intro (nearN_yes hn) (nearN_yes hn2))
      have r0 := res_small (ok2 a b c d) (a + c) (b + d)
      have r1 := res_small (ok2 a b c d) (a - c) (b - d)
      have r2 := res_small (ok2 a b c d) (a * c - b * d) (a * d + b * c)
      have r3 := oc_small (-a) (-b)
      generalize res (ok2 a b c d) (a + c) (b + d) = R0 at *
      generalize res (ok2 a b c d) (a - c) (b - d) = R1 at *
      generalize res (ok2 a b c d) (a * c - b * d) (a * d + b * c) = R2 at *
      generalize oc (-a) (-b) = R3 at *
      generalize fz a = xa at *
      generalize fz b = xb at *
      generalize fz c = xc at *
      generalize fz d = xd at *
      have HR0 := Lib.hid r0
      have HR1 := Lib.hid r1
      have HR2 := Lib.hid r2
      have HR3 := Lib.hid r3
      clear r0 r1 r2 r3 hn hn2
      go_enter Try.func4, Try.ntmps4
      go_wp2_with fail
      refine (near_any a b _).mono ?_
      rintro e w1 ⟨rfl, hb⟩
      have H1 := Lib.hid (H0.out.below hb)
      rw [HNR.out.1]
      clear hb H0 c0 c1
      obtain ⟨⟨c0, c1⟩, ⟨c2, c3⟩⟩ := H1.out.facts
      go_wp2_with fail
      refine (near_any c d _).mono ?_
      rintro e w2 ⟨rfl, hb⟩
      have H2 := Lib.hid (H1.out.below hb)
      rw [HNR.out.2]
      clear hb H1 c0 c1 c2 c3
      go_wp2_with fail
      go_loopw [35] (fun i wr => ∃ (k : Nat) (K : Int), i = .int .i64 K ∧ K = k ∧ k ≤ 4 ∧ Su w a b c d wr) (fun i _ => 4 - (intOf i).toNat)
      case atStart => exact ⟨0, _, rfl, rfl, by omega, H2.out⟩
      case round =>
        obtain ⟨k, K, rfl, rfl, hk, hsu⟩ := hrel
        have H3 := Lib.hid hsu
        obtain ⟨⟨c0, c1⟩, ⟨c2, c3⟩⟩ := hsu.facts
        clear hsu H2
        rcases (by omega : k = 0 ∨ k = 1 ∨ k = 2 ∨ k = 3 ∨ k = 4) with rfl | rfl | rfl | rfl | rfl
        · go_wp2_with fail
          refine (HO1.out _).mono ?_
          rintro e w3 ⟨rfl, hb⟩
          have H4 := Lib.hid (H3.out.below hb)
          clear hb H3 c0 c1 c2 c3
          go_wp2_with fail
          refine (HNE.out _).mono ?_
          rintro e w4 ⟨rfl, hb⟩
          have H5 := Lib.hid (H4.out.below hb)
          clear hb H4
          obtain ⟨⟨c0, c1⟩, ⟨c2, c3⟩⟩ := H5.out.facts
          go_wp2_with fail
          have q0 := fun d os => cell_regrown c0 d os
          have q1 := fun d os => cell_regrown c1 d os
          have q2 := fun d os => cell_regrown c2 d os
          have q3 := fun d os => cell_regrown c3 d os
          clear c0 c1 c2 c3
          refine wp_region_quiet_below (by kernel_rfl) (by kernel_rfl) ?_
          repeat (go_big_quiet_step ((first
            | (go_at_call 11; with_reducible exact Calls.regrown_of (HO1.out _))
            | (go_at_call 11; with_reducible exact Calls.regrown_of (HO2.out _))
            | (go_at_call 14; exact Calls.regrown_of (HA.out _)))))
          refine wpQuiet_nil ?_
          rintro w5 ⟨p, rfl⟩
          have hbp := below_regrown w4 p.d p.os
          clear q0 q1 q2 q3
          generalize grow (redrawn w4 p.d) p.os = w5 at hbp ⊢
          have H6 := Lib.hid (H5.out.below hbp)
          clear hbp H5
          obtain ⟨⟨c0, c1⟩, ⟨c2, c3⟩⟩ := H6.out.facts
          go_wp2_with fail
          refine (HD0.out _).mono ?_
          rintro e w6 ⟨rfl, hb⟩
          have H7 := Lib.hid (H6.out.below hb)
          have HR := HR0
          clear hb H6 c0 c1 c2 c3
          obtain ⟨n, m, j⟩ := R0
          simp only at HR
          have hka := heap_alloc_new w6 (.cells #[.int .i64 n, .int .i64 m] 23)
          obtain ⟨k0, k1⟩ := cells_of2 hka
          clear hka
          go_wp2_with fail
          refine (of_any n m _).mono ?_
          rintro e w7 ⟨rfl, hb⟩
          obtain ⟨h8, hkb⟩ := H7.out.two hb
          have H8 := Lib.hid h8
          have HKB := Lib.hid hkb
          clear hb h8 hkb H7 k0 k1
          have o1 := fz_self (n := n) (by have := HR.out; omega)
          have o2 := fz_self (n := m) (by have := HR.out; omega)
          have HP1 := Lib.hid (fun W => gput_yes n m W HR.out.1 HR.out.2.1)
          have HP2 := Lib.hid (fun W => rput_yes n m W HR.out.1 HR.out.2.1)
          generalize bs (sz n) ++ bs (sz m) = T at *
          generalize fz n = xn at *
          generalize fz m = xm at *
          rcases HR.out.2.2 with rfl | rfl
          · go_wp2_with fail
            refine (HP1.out _).mono ?_
            rintro e w8 ⟨rfl, hb⟩
            have hsz8 := hb.size
            have H9 := Lib.hid (H8.out.below hb)
            have hkc := (hb.block _ (blk_lt HKB.out)).trans HKB.out
            obtain ⟨k0, k1⟩ := cells_of2 hkc
            clear hb H8 HKB hkc
            go_wp2_with fail
            refine (HP2.out _).mono ?_
            rintro e w9 ⟨rfl, hb⟩
            have H10 := Lib.hid (H9.out.below hb)
            clear hb H9 k0 k1
            go_wp2_with fail
            go_round
            case rel => exact ⟨1, _, rfl, by omega, by omega, H10.out⟩
            case measure => simp [intOf]
          · go_wp2_with fail
            go_round
            case rel => exact ⟨1, _, rfl, by omega, by omega, H8.out⟩
            case measure => simp [intOf]
        · go_wp2_with fail
          refine (HO1.out _).mono ?_
          rintro e w3 ⟨rfl, hb⟩
          have H4 := Lib.hid (H3.out.below hb)
          clear hb H3 c0 c1 c2 c3
          go_wp2_with fail
          refine (HNE.out _).mono ?_
          rintro e w4 ⟨rfl, hb⟩
          have H5 := Lib.hid (H4.out.below hb)
          clear hb H4
          obtain ⟨⟨c0, c1⟩, ⟨c2, c3⟩⟩ := H5.out.facts
          go_wp2_with fail
          have q0 := fun d os => cell_regrown c0 d os
          have q1 := fun d os => cell_regrown c1 d os
          have q2 := fun d os => cell_regrown c2 d os
          have q3 := fun d os => cell_regrown c3 d os
          clear c0 c1 c2 c3
          refine wp_region_quiet_below (by kernel_rfl) (by kernel_rfl) ?_
          repeat (go_big_quiet_step ((first
            | (go_at_call 11; with_reducible exact Calls.regrown_of (HO1.out _))
            | (go_at_call 11; with_reducible exact Calls.regrown_of (HO2.out _))
            | (go_at_call 15; exact Calls.regrown_of (HSU.out _)))))
          refine wpQuiet_nil ?_
          rintro w5 ⟨p, rfl⟩
          have hbp := below_regrown w4 p.d p.os
          clear q0 q1 q2 q3
          generalize grow (redrawn w4 p.d) p.os = w5 at hbp ⊢
          have H6 := Lib.hid (H5.out.below hbp)
          clear hbp H5
          obtain ⟨⟨c0, c1⟩, ⟨c2, c3⟩⟩ := H6.out.facts
          go_wp2_with fail
          refine (HD1.out _).mono ?_
          rintro e w6 ⟨rfl, hb⟩
          have H7 := Lib.hid (H6.out.below hb)
          have HR := HR1
          clear hb H6 c0 c1 c2 c3
          obtain ⟨n, m, j⟩ := R1
          simp only at HR
          have hka := heap_alloc_new w6 (.cells #[.int .i64 n, .int .i64 m] 23)
          obtain ⟨k0, k1⟩ := cells_of2 hka
          clear hka
          go_wp2_with fail
          refine (of_any n m _).mono ?_
          rintro e w7 ⟨rfl, hb⟩
          obtain ⟨h8, hkb⟩ := H7.out.two hb
          have H8 := Lib.hid h8
          have HKB := Lib.hid hkb
          clear hb h8 hkb H7 k0 k1
          have o1 := fz_self (n := n) (by have := HR.out; omega)
          have o2 := fz_self (n := m) (by have := HR.out; omega)
          have HP1 := Lib.hid (fun W => gput_yes n m W HR.out.1 HR.out.2.1)
          have HP2 := Lib.hid (fun W => rput_yes n m W HR.out.1 HR.out.2.1)
          generalize bs (sz n) ++ bs (sz m) = T at *
          generalize fz n = xn at *
          generalize fz m = xm at *
          rcases HR.out.2.2 with rfl | rfl
          · go_wp2_with fail
            refine (HP1.out _).mono ?_
            rintro e w8 ⟨rfl, hb⟩
            have hsz8 := hb.size
            have H9 := Lib.hid (H8.out.below hb)
            have hkc := (hb.block _ (blk_lt HKB.out)).trans HKB.out
            obtain ⟨k0, k1⟩ := cells_of2 hkc
            clear hb H8 HKB hkc
            go_wp2_with fail
            refine (HP2.out _).mono ?_
            rintro e w9 ⟨rfl, hb⟩
            have H10 := Lib.hid (H9.out.below hb)
            clear hb H9 k0 k1
            go_wp2_with fail
            go_round
            case rel => exact ⟨2, _, rfl, by omega, by omega, H10.out⟩
            case measure => simp [intOf]
          · go_wp2_with fail
            go_round
            case rel => exact ⟨2, _, rfl, by omega, by omega, H8.out⟩
            case measure => simp [intOf]
        · go_wp2_with fail
          refine (HO1.out _).mono ?_
          rintro e w3 ⟨rfl, hb⟩
          have H4 := Lib.hid (H3.out.below hb)
          clear hb H3 c0 c1 c2 c3
          go_wp2_with fail
          refine (HNE.out _).mono ?_
          rintro e w4 ⟨rfl, hb⟩
          have H5 := Lib.hid (H4.out.below hb)
          clear hb H4
          obtain ⟨⟨c0, c1⟩, ⟨c2, c3⟩⟩ := H5.out.facts
          go_wp2_with fail
          have q0 := fun d os => cell_regrown c0 d os
          have q1 := fun d os => cell_regrown c1 d os
          have q2 := fun d os => cell_regrown c2 d os
          have q3 := fun d os => cell_regrown c3 d os
          clear c0 c1 c2 c3
          refine wp_region_quiet_below (by kernel_rfl) (by kernel_rfl) ?_
          repeat (go_big_quiet_step ((first
            | (go_at_call 11; with_reducible exact Calls.regrown_of (HO1.out _))
            | (go_at_call 11; with_reducible exact Calls.regrown_of (HO2.out _))
            | (go_at_call 16; exact Calls.regrown_of (HMU.out _)))))
          refine wpQuiet_nil ?_
          rintro w5 ⟨p, rfl⟩
          have hbp := below_regrown w4 p.d p.os
          clear q0 q1 q2 q3
          generalize grow (redrawn w4 p.d) p.os = w5 at hbp ⊢
          have H6 := Lib.hid (H5.out.below hbp)
          clear hbp H5
          obtain ⟨⟨c0, c1⟩, ⟨c2, c3⟩⟩ := H6.out.facts
          go_wp2_with fail
          refine (HD2.out _).mono ?_
          rintro e w6 ⟨rfl, hb⟩
          have H7 := Lib.hid (H6.out.below hb)
          have HR := HR2
          clear hb H6 c0 c1 c2 c3
          obtain ⟨n, m, j⟩ := R2
          simp only at HR
          have hka := heap_alloc_new w6 (.cells #[.int .i64 n, .int .i64 m] 23)
          obtain ⟨k0, k1⟩ := cells_of2 hka
          clear hka
          go_wp2_with fail
          refine (of_any n m _).mono ?_
          rintro e w7 ⟨rfl, hb⟩
          obtain ⟨h8, hkb⟩ := H7.out.two hb
          have H8 := Lib.hid h8
          have HKB := Lib.hid hkb
          clear hb h8 hkb H7 k0 k1
          have o1 := fz_self (n := n) (by have := HR.out; omega)
          have o2 := fz_self (n := m) (by have := HR.out; omega)
          have HP1 := Lib.hid (fun W => gput_yes n m W HR.out.1 HR.out.2.1)
          have HP2 := Lib.hid (fun W => rput_yes n m W HR.out.1 HR.out.2.1)
          generalize bs (sz n) ++ bs (sz m) = T at *
          generalize fz n = xn at *
          generalize fz m = xm at *
          rcases HR.out.2.2 with rfl | rfl
          · go_wp2_with fail
            refine (HP1.out _).mono ?_
            rintro e w8 ⟨rfl, hb⟩
            have hsz8 := hb.size
            have H9 := Lib.hid (H8.out.below hb)
            have hkc := (hb.block _ (blk_lt HKB.out)).trans HKB.out
            obtain ⟨k0, k1⟩ := cells_of2 hkc
            clear hb H8 HKB hkc
            go_wp2_with fail
            refine (HP2.out _).mono ?_
            rintro e w9 ⟨rfl, hb⟩
            have H10 := Lib.hid (H9.out.below hb)
            clear hb H9 k0 k1
            go_wp2_with fail
            go_round
            case rel => exact ⟨3, _, rfl, by omega, by omega, H10.out⟩
            case measure => simp [intOf]
          · go_wp2_with fail
            go_round
            case rel => exact ⟨3, _, rfl, by omega, by omega, H8.out⟩
            case measure => simp [intOf]
        · go_wp2_with fail
          refine (HO1.out _).mono ?_
          rintro e w3 ⟨rfl, hb⟩
          have H4 := Lib.hid (H3.out.below hb)
          clear hb H3 c0 c1 c2 c3
          go_wp2_with fail
          refine (HNE.out _).mono ?_
          rintro e w4 ⟨rfl, hb⟩
          have H5 := Lib.hid (H4.out.below hb)
          clear hb H4
          obtain ⟨⟨c0, c1⟩, ⟨c2, c3⟩⟩ := H5.out.facts
          go_wp2_with fail
          have H6 := H5
          clear H5
          refine (HD3.out _).mono ?_
          rintro e w6 ⟨rfl, hb⟩
          have H7 := Lib.hid (H6.out.below hb)
          have HR := HR3
          clear hb H6 c0 c1 c2 c3
          obtain ⟨n, m, j⟩ := R3
          simp only at HR
          have hka := heap_alloc_new w6 (.cells #[.int .i64 n, .int .i64 m] 23)
          obtain ⟨k0, k1⟩ := cells_of2 hka
          clear hka
          go_wp2_with fail
          refine (of_any n m _).mono ?_
          rintro e w7 ⟨rfl, hb⟩
          obtain ⟨h8, hkb⟩ := H7.out.two hb
          have H8 := Lib.hid h8
          have HKB := Lib.hid hkb
          clear hb h8 hkb H7 k0 k1
          have o1 := fz_self (n := n) (by have := HR.out; omega)
          have o2 := fz_self (n := m) (by have := HR.out; omega)
          have HP1 := Lib.hid (fun W => gput_yes n m W HR.out.1 HR.out.2.1)
          have HP2 := Lib.hid (fun W => rput_yes n m W HR.out.1 HR.out.2.1)
          generalize bs (sz n) ++ bs (sz m) = T at *
          generalize fz n = xn at *
          generalize fz m = xm at *
          rcases HR.out.2.2 with rfl | rfl
          · go_wp2_with fail
            refine (HP1.out _).mono ?_
            rintro e w8 ⟨rfl, hb⟩
            have hsz8 := hb.size
            have H9 := Lib.hid (H8.out.below hb)
            have hkc := (hb.block _ (blk_lt HKB.out)).trans HKB.out
            obtain ⟨k0, k1⟩ := cells_of2 hkc
            clear hb H8 HKB hkc
            go_wp2_with fail
            refine (HP2.out _).mono ?_
            rintro e w9 ⟨rfl, hb⟩
            have H10 := Lib.hid (H9.out.below hb)
            clear hb H9 k0 k1
            go_wp2_with fail
            go_round
            case rel => exact ⟨4, _, rfl, by omega, by omega, H10.out⟩
            case measure => simp [intOf]
          · go_wp2_with fail
            go_round
            case rel => exact ⟨4, _, rfl, by omega, by omega, H8.out⟩
            case measure => simp [intOf]
        · go_wp2_with fail
          refine (gawake_any _).mono ?_
          rintro e w3 ⟨rfl, hb⟩
          have H4 := Lib.hid (H3.out.below hb)
          clear hb H3 c0 c1 c2 c3
          go_wp2_with fail
          go_ret
          exact ⟨rfl, H4.out.2.2.2⟩
    · obtain ⟨c0, c1⟩ := H0.out.facts
      have HNR := Lib.hid (And.intro (nearN_yes hn) (nearN_no hn2))
      clear hn hn2
      go_enter Try.func4, Try.ntmps4
      go_wp2_with fail
      refine (near_any a b _).mono ?_
      rintro e w1 ⟨rfl, hb⟩
      have H1 := Lib.hid (H0.out.below hb)
      rw [HNR.out.1]
      clear hb H0 c0 c1
      obtain ⟨⟨c0, c1⟩, ⟨c2, c3⟩⟩ := H1.out.facts
      go_wp2_with fail
      refine (near_any c d _).mono ?_
      rintro e w2 ⟨rfl, hb⟩
      have H2 := Lib.hid (H1.out.below hb)
      rw [HNR.out.2]
      clear hb H1 c0 c1 c2 c3
      go_wp2_with fail
      refine (gawake_any _).mono ?_
      rintro e w3 ⟨rfl, hb⟩
      have H4 := Lib.hid (H2.out.below hb)
      clear hb H2
      go_wp2_with fail
      go_ret
      exact ⟨rfl, H4.out.2.2.2⟩
  · obtain ⟨c0, c1⟩ := H0.out.facts
    have HNR := Lib.hid (nearN_no hn)
    clear hn
    go_enter Try.func4, Try.ntmps4
    go_wp2_with fail
    refine (near_any a b _).mono ?_
    rintro e w1 ⟨rfl, hb⟩
    have H1 := Lib.hid (H0.out.below hb)
    rw [HNR.out]
    clear hb H0 c0 c1
    go_wp2_with fail
    refine (gawake_any _).mono ?_
    rintro e w3 ⟨rfl, hb⟩
    have H4 := Lib.hid (H1.out.below hb)
    clear hb H1
    go_wp2_with fail
    go_ret
    exact ⟨rfl, H4.out.2.2.2⟩
end Go.Proofs.Ytldgpmnckhlbbaa
