/- The walk of the document's own sums, differences, products: Do; Of and near. -/
import Derived.Test.YtldgpmnckhlbbaaGRefTwo
import Derived.Test.YtldgpmnckhlbbaaGOps
namespace Go.Proofs.Ytldgpmnckhlbbaa
open Go.RowKit M6

def RNum (r : Int × Int × Int) (w : World) (e : Ending) (w' : World) : Prop := e = .returned (.tuple #[.agg #[.int .i64 r.1, .int .i64 r.2.1], .int .i64 r.2.2]) ∧ Below w.heap.size w w'
def nearN (a b : Int) : Bool := decide (a.natAbs ≤ 1125899906842624 ∧ b.natAbs ≤ 1125899906842624)
theorem nearN_yes {a b : Int} (h : a.natAbs ≤ 1125899906842624 ∧ b.natAbs ≤ 1125899906842624) : nearN a b = true := decide_eq_true h
theorem nearN_no {a b : Int} (h : ¬ (a.natAbs ≤ 1125899906842624 ∧ b.natAbs ≤ 1125899906842624)) : nearN a b = false := decide_eq_false h
set_option maxRecDepth 100000 in
theorem near_any (a b : Int) (w : World) :
    Calls Try.prog 6 #[.agg #[.int .i64 a, .int .i64 b]] w fun e w' => e = .returned (.bool (nearN a b)) ∧ Below w.heap.size w w' := by
  by_cases h1 : -1125899906842624 ≤ a
  · by_cases h2 : a ≤ 1125899906842624
    · by_cases h3 : -1125899906842624 ≤ b
      · by_cases h4 : b ≤ 1125899906842624
        · rw [nearN_yes (by omega)]
          go_enter Try.func6, Try.ntmps6
          go_wp2_with fail
          go_ret
          exact ⟨rfl, (Below.refl _ _).alloc (Nat.le_refl _) _⟩
        · rw [nearN_no (by omega)]
          go_enter Try.func6, Try.ntmps6
          go_wp2_with fail
          go_ret
          exact ⟨rfl, (Below.refl _ _).alloc (Nat.le_refl _) _⟩
      · rw [nearN_no (by omega)]
        go_enter Try.func6, Try.ntmps6
        go_wp2_with fail
        go_ret
        exact ⟨rfl, (Below.refl _ _).alloc (Nat.le_refl _) _⟩
    · rw [nearN_no (by omega)]
      go_enter Try.func6, Try.ntmps6
      go_wp2_with fail
      go_ret
      exact ⟨rfl, (Below.refl _ _).alloc (Nat.le_refl _) _⟩
  · rw [nearN_no (by omega)]
    go_enter Try.func6, Try.ntmps6
    go_wp2_with fail
    go_ret
    exact ⟨rfl, (Below.refl _ _).alloc (Nat.le_refl _) _⟩

set_option maxRecDepth 100000 in
theorem of_any (a b : Int) (w : World) :
    Calls Try.prog 11 #[.agg #[.int .i64 a, .int .i64 b]] w fun e w' => e = .returned (.complex .f64 (fz a) (fz b)) ∧ Below w.heap.size w w' := by
  have hs : (Try.prog.underlying 2).isSome = true := by kernel_rfl
  have hd : Try.prog.underlying 42 = some (.float .f64) := by kernel_rfl
  have hc : ∀ (n : Int) (W : World), (convert 2 42 (.int .i64 n)).run Try.prog W = .ok (.float .f64 (fz n)) W := fun n W => run_convert_int_float W _ _ _ _ n hs hd
  clear hs hd
  go_enter Try.func11, Try.ntmps11
  go_wp2_with fail
  go_ret
  exact ⟨rfl, (Below.refl _ _).alloc (Nat.le_refl _) _⟩

/-- the blocks of Do: its two numbers, and what it gives -/
def St (w : World) (a b c d : Int) (W : World) : Prop :=
  W.heap[w.heap.size]? = some (.cells #[.int .i64 a, .int .i64 b] 23 (0, 0)) ∧ W.heap[w.heap.size + 1]? = some (.cells #[.int .i64 c, .int .i64 d] 23 (0, 0)) ∧ W.heap[w.heap.size + 1 + 1]? = some (.cells #[.int .i64 0, .int .i64 0] 23 (0, 0)) ∧ w.heap.size + 3 ≤ W.heap.size ∧ Below w.heap.size w W
theorem St.below {w W W' : World} {a b c d : Int} (h : St w a b c d W) (hb : Below W.heap.size W W') : St w a b c d W' := by
  obtain ⟨h1, h2, h3, h4, h5⟩ := h
  exact ⟨(hb.block _ (by omega)).trans h1, (hb.block _ (by omega)).trans h2, (hb.block _ (by omega)).trans h3, Nat.le_trans h4 hb.size, h5.trans (hb.mono h5.size)⟩
theorem St.start (w : World) (a b c d : Int) : St w a b c d (((w.alloc (.cells #[.int .i64 a, .int .i64 b] 23)).alloc (.cells #[.int .i64 c, .int .i64 d] 23)).alloc (.cells #[.int .i64 0, .int .i64 0] 23)) := by
  have e1 := heap_alloc_new w (.cells #[.int .i64 a, .int .i64 b] 23)
  have e2 := heap_alloc_new (w.alloc (.cells #[.int .i64 a, .int .i64 b] 23)) (.cells #[.int .i64 c, .int .i64 d] 23)
  have e3 := heap_alloc_new ((w.alloc (.cells #[.int .i64 a, .int .i64 b] 23)).alloc (.cells #[.int .i64 c, .int .i64 d] 23)) (.cells #[.int .i64 0, .int .i64 0] 23)
  have hz1 : (w.alloc (.cells #[.int .i64 a, .int .i64 b] 23)).heap.size = w.heap.size + 1 := by simp
  have hz2 : ((w.alloc (.cells #[.int .i64 a, .int .i64 b] 23)).alloc (.cells #[.int .i64 c, .int .i64 d] 23)).heap.size = w.heap.size + 1 + 1 := by simp
  rw [hz1] at e2
  rw [hz2] at e3
  refine ⟨?_, ?_, e3, by simp, ?_⟩
  · exact (Below.heap_alloc _ _ w.heap.size (by rw [hz2]; omega)).trans ((Below.heap_alloc _ _ w.heap.size (by rw [hz1]; omega)).trans e1)
  · exact (Below.heap_alloc _ _ (w.heap.size + 1) (by rw [hz2]; omega)).trans e2
  · exact (((Below.refl _ _).alloc (Nat.le_refl _) _).alloc (by rw [hz1]; omega) _).alloc (by rw [hz2]; omega) _
/-- what a walk asks of them -/
theorem St.facts {w W : World} {a b c d : Int} (h : St w a b c d W) : (W.cell? ⟨w.heap.size, 0, none⟩ = some (.int .i64 a) ∧ W.cell? ⟨w.heap.size, 1, none⟩ = some (.int .i64 b)) ∧ (W.cell? ⟨w.heap.size + 1, 0, none⟩ = some (.int .i64 c) ∧ W.cell? ⟨w.heap.size + 1, 1, none⟩ = some (.int .i64 d)) ∧ (W.cell? ⟨w.heap.size + 1 + 1, 0, none⟩ = some (.int .i64 0) ∧ W.cell? ⟨w.heap.size + 1 + 1, 1, none⟩ = some (.int .i64 0)) ∧ (∀ i, W.frozen? ⟨w.heap.size + 1 + 1, i, none⟩ = false) ∧ w.heap.size + 3 ≤ W.heap.size :=
  ⟨cells_of2 h.1, cells_of2 h.2.1, cells_of2 h.2.2.1, fun i => frozen_of_row _ _ i _ _ h.2.2.1, h.2.2.2.1⟩

def doR (k : Nat) (a b c d : Int) : Int × Int × Int :=
  if k = 0 then res (ok2 a b c d) (a + c) (b + d) else if k = 1 then res (ok2 a b c d) (a - c) (b - d) else if k = 2 then res (ok2 a b c d) (a * c - b * d) (a * d + b * c) else oc (-a) (-b)

/-- the end of Do: its result is stored -/
theorem St.put {w W : World} {a b c d : Int} (h : St w a b c d W) (v0 v1 : Value) :
    ((W.setCell ⟨w.heap.size + 1 + 1, 0, none⟩ v0).setCell ⟨w.heap.size + 1 + 1, 1, none⟩ v1).cell? ⟨w.heap.size + 1 + 1, 0, none⟩ = some v0 ∧ ((W.setCell ⟨w.heap.size + 1 + 1, 0, none⟩ v0).setCell ⟨w.heap.size + 1 + 1, 1, none⟩ v1).cell? ⟨w.heap.size + 1 + 1, 1, none⟩ = some v1 ∧ Below w.heap.size w ((W.setCell ⟨w.heap.size + 1 + 1, 0, none⟩ v0).setCell ⟨w.heap.size + 1 + 1, 1, none⟩ v1) := by
  obtain ⟨c0, c1⟩ := cells_of2 (set2 h.2.2.1 v0 v1)
  exact ⟨c0, c1, (h.2.2.2.2.setCell (p := ⟨w.heap.size + 1 + 1, 0, none⟩) (by show w.heap.size ≤ w.heap.size + 1 + 1; omega) v0).setCell (p := ⟨w.heap.size + 1 + 1, 1, none⟩) (by show w.heap.size ≤ w.heap.size + 1 + 1; omega) v1⟩
theorem oc_yes {n m : Int} (h : n.natAbs ≤ 1048576 ∧ m.natAbs ≤ 1048576) : oc n m = (n, m, 0) := if_pos h
theorem oc_no {n m : Int} (h : ¬ (n.natAbs ≤ 1048576 ∧ m.natAbs ≤ 1048576)) : oc n m = (0, 0, 17) := if_neg h
/-- a block of two cells, made and then kept -/
theorem kept2 {w1 w2 : World} {t : TypeId} {p q : Value} (hb : Below (w1.alloc (.cells #[p, q] t)).heap.size (w1.alloc (.cells #[p, q] t)) w2) : w2.heap[w1.heap.size]? = some (.cells #[p, q] t (0, 0)) :=
  (hb.block _ (by simp)).trans (heap_alloc_new w1 _)
theorem St.alloc2 {w W W' : World} {a b c d : Int} {t : TypeId} {p q : Value} (h : St w a b c d W) (hb : Below (W.alloc (.cells #[p, q] t)).heap.size (W.alloc (.cells #[p, q] t)) W') : St w a b c d W' :=
  h.below (below_one hb)

set_option maxRecDepth 100000 in
theorem do3 (a b c d : Int) (w : World) :
    Calls Try.prog 17 #[.int .i64 3, .agg #[.int .i64 a, .int .i64 b], .agg #[.int .i64 c, .int .i64 d]] w (RNum (oc (-a) (-b)) w) := by
  have H0 := Lib.hid (St.start w a b c d)
  go_enter Try.func17, Try.ntmps17
  go_wp2_with fail
  refine (rmay_any a b _).mono ?_
  rintro e w1 ⟨rfl, hb⟩
  have H1 := Lib.hid (H0.out.below hb)
  clear hb H0
  obtain ⟨⟨a0, a1⟩, ⟨c0, c1⟩, ⟨z0, z1⟩, f0, hz⟩ := H1.out.facts
  by_cases hm : a.natAbs ≤ 1048576 ∧ b.natAbs ≤ 1048576
  · have HR := Lib.hid (oc_yes (n := -a) (m := -b) (by omega))
    have HM := Lib.hid (mayN_yes (a := -a) (b := -b) (by omega))
    rw [mayN_yes hm]
    go_wp2_with fail
    refine (rmay_any (-a) (-b) _).mono ?_
    rintro e w2 ⟨rfl, hb⟩
    have H2 := Lib.hid (H1.out.alloc2 hb)
    have hk := kept2 hb
    clear hb H1 a0 a1 c0 c1 z0 z1 f0
    rw [HM.out]
    obtain ⟨⟨a0, a1⟩, ⟨c0, c1⟩, ⟨z0, z1⟩, f0, hz'⟩ := H2.out.facts
    obtain ⟨k0, k1⟩ := cells_of2 hk
    clear hk
    go_wp2_with fail
    clear z0 z1
    obtain ⟨z0, z1, hbb⟩ := H2.out.put (.int .i64 (-a)) (.int .i64 (-b))
    exact bodyPost_ret (v := .tuple #[.agg #[.int .i64 (-a), .int .i64 (-b)], .int .i64 0]) (by simp [results, Try.results17, go_sem, z0, z1]) rfl ⟨by rw [HR.out], hbb⟩
  · have HR := Lib.hid (oc_no (n := -a) (m := -b) (by omega))
    rw [mayN_no hm]
    go_wp2_with fail
    clear z0 z1
    obtain ⟨z0, z1, hbb⟩ := H1.out.put (.int .i64 0) (.int .i64 0)
    exact bodyPost_ret (v := .tuple #[.agg #[.int .i64 0, .int .i64 0], .int .i64 17]) (by simp [results, Try.results17, go_sem, z0, z1]) rfl ⟨by rw [HR.out], hbb⟩

set_option maxRecDepth 100000 in
theorem do0 (a b c d : Int) (w : World) :
    Calls Try.prog 17 #[.int .i64 0, .agg #[.int .i64 a, .int .i64 b], .agg #[.int .i64 c, .int .i64 d]] w (RNum (res (ok2 a b c d) (a + c) (b + d)) w) := by
  have H0 := Lib.hid (St.start w a b c d)
  go_enter Try.func17, Try.ntmps17
  go_wp2_with fail
  refine (rmay_any a b _).mono ?_
  rintro e w1 ⟨rfl, hb⟩
  have H1 := Lib.hid (H0.out.below hb)
  clear hb H0
  obtain ⟨⟨a0, a1⟩, ⟨c0, c1⟩, ⟨z0, z1⟩, f0, hz⟩ := H1.out.facts
  by_cases hm : a.natAbs ≤ 1048576 ∧ b.natAbs ≤ 1048576
  · rw [mayN_yes hm]
    go_wp2_with fail
    refine (rmay_any c d _).mono ?_
    rintro e w2 ⟨rfl, hb⟩
    have H2 := Lib.hid (H1.out.below hb)
    clear hb H1 a0 a1 c0 c1 z0 z1 f0 hz
    obtain ⟨⟨a0, a1⟩, ⟨c0, c1⟩, ⟨z0, z1⟩, f0, hz⟩ := H2.out.facts
    by_cases hm2 : c.natAbs ≤ 1048576 ∧ d.natAbs ≤ 1048576
    · rw [mayN_yes hm2]
      have m1 := small_mul hm.1 hm2.1
      have m2 := small_mul hm.2 hm2.2
      have m3 := small_mul hm.1 hm2.2
      have m4 := small_mul hm.2 hm2.1
      have hok : ok2 a b c d = true := by unfold ok2; simp [hm, hm2]
      have HR : Hid (res (ok2 a b c d) (a + c) (b + d) = oc (a + c) (b + d)) := Lib.hid (by rw [hok, res, if_pos rfl])
      clear hok
      have hka := heap_alloc_new w2 (.cells #[.int .i64 (-a), .int .i64 (-b)] 23)
      have H2a := H2.out.below ((Below.refl w2.heap.size w2).alloc (Nat.le_refl _) (.cells #[.int .i64 (-a), .int .i64 (-b)] 23))
      clear c0 c1 z0 z1 f0
      obtain ⟨⟨a2, a3⟩, ⟨c0, c1⟩, ⟨z0, z1⟩, f0, hz2⟩ := H2a.facts
      have k0 := (cells_of2 hka).1
      have k1 := (cells_of2 hka).2
      have kf := fun i => frozen_of_row _ w2.heap.size i _ _ hka
      have HKA := Lib.hid hka
      have H2A := Lib.hid H2a
      clear hka H2a z0 z1 f0
      go_wp2_with fail
      refine (rmay_any (a + c) (b + d) _).mono ?_
      rintro e w3 ⟨rfl, hb⟩
      have H3 := Lib.hid (H2.out.alloc2 hb)
      have hk := kept2 hb
      clear hb H2 H2A HKA a0 a1 a2 a3 c0 c1 k0 k1 kf hz hz2
      obtain ⟨-, -, ⟨z0, z1⟩, f0, hz⟩ := H3.out.facts
      obtain ⟨k0, k1⟩ := cells_of2 hk
      clear hk m1 m2 m3 m4 hm hm2
      by_cases hm : (a + c).natAbs ≤ 1048576 ∧ (b + d).natAbs ≤ 1048576
      · have HO := Lib.hid (HR.out.trans (oc_yes hm))
        rw [mayN_yes hm]
        clear hm
        generalize a + c = R1 at *
        generalize b + d = R2 at *
        go_wp2_with fail
        clear z0 z1
        obtain ⟨z0, z1, hbb⟩ := H3.out.put (.int .i64 R1) (.int .i64 R2)
        exact bodyPost_ret (v := .tuple #[.agg #[.int .i64 R1, .int .i64 R2], .int .i64 0]) (by simp [results, Try.results17, go_sem, z0, z1]) rfl ⟨by rw [HO.out], hbb⟩
      · have HO := Lib.hid (HR.out.trans (oc_no hm))
        rw [mayN_no hm]
        clear hm
        generalize a + c = R1 at *
        generalize b + d = R2 at *
        go_wp2_with fail
        clear z0 z1
        obtain ⟨z0, z1, hbb⟩ := H3.out.put (.int .i64 0) (.int .i64 0)
        exact bodyPost_ret (v := .tuple #[.agg #[.int .i64 0, .int .i64 0], .int .i64 17]) (by simp [results, Try.results17, go_sem, z0, z1]) rfl ⟨by rw [HO.out], hbb⟩
    · have HR : Hid (res (ok2 a b c d) (a + c) (b + d) = (0, 0, 17)) := Lib.hid (by
        rw [res, if_neg]; unfold ok2; simp only [Bool.and_eq_true, decide_eq_true_iff]; omega)
      rw [mayN_no hm2]
      go_wp2_with fail
      clear z0 z1
      obtain ⟨z0, z1, hbb⟩ := H2.out.put (.int .i64 0) (.int .i64 0)
      exact bodyPost_ret (v := .tuple #[.agg #[.int .i64 0, .int .i64 0], .int .i64 17]) (by simp [results, Try.results17, go_sem, z0, z1]) rfl ⟨by rw [HR.out], hbb⟩
  · have HR : Hid (res (ok2 a b c d) (a + c) (b + d) = (0, 0, 17)) := Lib.hid (by
      rw [res, if_neg]; unfold ok2; simp only [Bool.and_eq_true, decide_eq_true_iff]; omega)
    rw [mayN_no hm]
    go_wp2_with fail
    clear z0 z1
    obtain ⟨z0, z1, hbb⟩ := H1.out.put (.int .i64 0) (.int .i64 0)
    exact bodyPost_ret (v := .tuple #[.agg #[.int .i64 0, .int .i64 0], .int .i64 17]) (by simp [results, Try.results17, go_sem, z0, z1]) rfl ⟨by rw [HR.out], hbb⟩

set_option maxRecDepth 100000 in
theorem do1 (a b c d : Int) (w : World) :
    Calls Try.prog 17 #[.int .i64 1, .agg #[.int .i64 a, .int .i64 b], .agg #[.int .i64 c, .int .i64 d]] w (RNum (res (ok2 a b c d) (a - c) (b - d)) w) := by
  have H0 := Lib.hid (St.start w a b c d)
  go_enter Try.func17, Try.ntmps17
  go_wp2_with fail
  refine (rmay_any a b _).mono ?_
  rintro e w1 ⟨rfl, hb⟩
  have H1 := Lib.hid (H0.out.below hb)
  clear hb H0
  obtain ⟨⟨a0, a1⟩, ⟨c0, c1⟩, ⟨z0, z1⟩, f0, hz⟩ := H1.out.facts
  by_cases hm : a.natAbs ≤ 1048576 ∧ b.natAbs ≤ 1048576
  · rw [mayN_yes hm]
    go_wp2_with fail
    refine (rmay_any c d _).mono ?_
    rintro e w2 ⟨rfl, hb⟩
    have H2 := Lib.hid (H1.out.below hb)
    clear hb H1 a0 a1 c0 c1 z0 z1 f0 hz
    obtain ⟨⟨a0, a1⟩, ⟨c0, c1⟩, ⟨z0, z1⟩, f0, hz⟩ := H2.out.facts
    by_cases hm2 : c.natAbs ≤ 1048576 ∧ d.natAbs ≤ 1048576
    · rw [mayN_yes hm2]
      have m1 := small_mul hm.1 hm2.1
      have m2 := small_mul hm.2 hm2.2
      have m3 := small_mul hm.1 hm2.2
      have m4 := small_mul hm.2 hm2.1
      have hok : ok2 a b c d = true := by unfold ok2; simp [hm, hm2]
      have HR : Hid (res (ok2 a b c d) (a - c) (b - d) = oc (a - c) (b - d)) := Lib.hid (by rw [hok, res, if_pos rfl])
      clear hok
      have hka := heap_alloc_new w2 (.cells #[.int .i64 (-a), .int .i64 (-b)] 23)
      have H2a := H2.out.below ((Below.refl w2.heap.size w2).alloc (Nat.le_refl _) (.cells #[.int .i64 (-a), .int .i64 (-b)] 23))
      clear c0 c1 z0 z1 f0
      obtain ⟨⟨a2, a3⟩, ⟨c0, c1⟩, ⟨z0, z1⟩, f0, hz2⟩ := H2a.facts
      have k0 := (cells_of2 hka).1
      have k1 := (cells_of2 hka).2
      have kf := fun i => frozen_of_row _ w2.heap.size i _ _ hka
      have HKA := Lib.hid hka
      have H2A := Lib.hid H2a
      clear hka H2a z0 z1 f0
      go_wp2_with fail
      refine (rmay_any (a - c) (b - d) _).mono ?_
      rintro e w3 ⟨rfl, hb⟩
      have H3 := Lib.hid (H2.out.alloc2 hb)
      have hk := kept2 hb
      clear hb H2 H2A HKA a0 a1 a2 a3 c0 c1 k0 k1 kf hz hz2
      obtain ⟨-, -, ⟨z0, z1⟩, f0, hz⟩ := H3.out.facts
      obtain ⟨k0, k1⟩ := cells_of2 hk
      clear hk m1 m2 m3 m4 hm hm2
      by_cases hm : (a - c).natAbs ≤ 1048576 ∧ (b - d).natAbs ≤ 1048576
      · have HO := Lib.hid (HR.out.trans (oc_yes hm))
        rw [mayN_yes hm]
        clear hm
        generalize a - c = R1 at *
        generalize b - d = R2 at *
        go_wp2_with fail
        clear z0 z1
        obtain ⟨z0, z1, hbb⟩ := H3.out.put (.int .i64 R1) (.int .i64 R2)
        exact bodyPost_ret (v := .tuple #[.agg #[.int .i64 R1, .int .i64 R2], .int .i64 0]) (by simp [results, Try.results17, go_sem, z0, z1]) rfl ⟨by rw [HO.out], hbb⟩
      · have HO := Lib.hid (HR.out.trans (oc_no hm))
        rw [mayN_no hm]
        clear hm
        generalize a - c = R1 at *
        generalize b - d = R2 at *
        go_wp2_with fail
        clear z0 z1
        obtain ⟨z0, z1, hbb⟩ := H3.out.put (.int .i64 0) (.int .i64 0)
        exact bodyPost_ret (v := .tuple #[.agg #[.int .i64 0, .int .i64 0], .int .i64 17]) (by simp [results, Try.results17, go_sem, z0, z1]) rfl ⟨by rw [HO.out], hbb⟩
    · have HR : Hid (res (ok2 a b c d) (a - c) (b - d) = (0, 0, 17)) := Lib.hid (by
        rw [res, if_neg]; unfold ok2; simp only [Bool.and_eq_true, decide_eq_true_iff]; omega)
      rw [mayN_no hm2]
      go_wp2_with fail
      clear z0 z1
      obtain ⟨z0, z1, hbb⟩ := H2.out.put (.int .i64 0) (.int .i64 0)
      exact bodyPost_ret (v := .tuple #[.agg #[.int .i64 0, .int .i64 0], .int .i64 17]) (by simp [results, Try.results17, go_sem, z0, z1]) rfl ⟨by rw [HR.out], hbb⟩
  · have HR : Hid (res (ok2 a b c d) (a - c) (b - d) = (0, 0, 17)) := Lib.hid (by
      rw [res, if_neg]; unfold ok2; simp only [Bool.and_eq_true, decide_eq_true_iff]; omega)
    rw [mayN_no hm]
    go_wp2_with fail
    clear z0 z1
    obtain ⟨z0, z1, hbb⟩ := H1.out.put (.int .i64 0) (.int .i64 0)
    exact bodyPost_ret (v := .tuple #[.agg #[.int .i64 0, .int .i64 0], .int .i64 17]) (by simp [results, Try.results17, go_sem, z0, z1]) rfl ⟨by rw [HR.out], hbb⟩

set_option maxRecDepth 100000 in
theorem do2 (a b c d : Int) (w : World) :
    Calls Try.prog 17 #[.int .i64 2, .agg #[.int .i64 a, .int .i64 b], .agg #[.int .i64 c, .int .i64 d]] w (RNum (res (ok2 a b c d) (a * c - b * d) (a * d + b * c)) w) := by
  have H0 := Lib.hid (St.start w a b c d)
  go_enter Try.func17, Try.ntmps17
  go_wp2_with fail
  refine (rmay_any a b _).mono ?_
  rintro e w1 ⟨rfl, hb⟩
  have H1 := Lib.hid (H0.out.below hb)
  clear hb H0
  obtain ⟨⟨a0, a1⟩, ⟨c0, c1⟩, ⟨z0, z1⟩, f0, hz⟩ := H1.out.facts
  by_cases hm : a.natAbs ≤ 1048576 ∧ b.natAbs ≤ 1048576
  · rw [mayN_yes hm]
    go_wp2_with fail
    refine (rmay_any c d _).mono ?_
    rintro e w2 ⟨rfl, hb⟩
    have H2 := Lib.hid (H1.out.below hb)
    clear hb H1 a0 a1 c0 c1 z0 z1 f0 hz
    obtain ⟨⟨a0, a1⟩, ⟨c0, c1⟩, ⟨z0, z1⟩, f0, hz⟩ := H2.out.facts
    by_cases hm2 : c.natAbs ≤ 1048576 ∧ d.natAbs ≤ 1048576
    · rw [mayN_yes hm2]
      have m1 := small_mul hm.1 hm2.1
      have m2 := small_mul hm.2 hm2.2
      have m3 := small_mul hm.1 hm2.2
      have m4 := small_mul hm.2 hm2.1
      have hok : ok2 a b c d = true := by unfold ok2; simp [hm, hm2]
      have HR : Hid (res (ok2 a b c d) (a * c - b * d) (a * d + b * c) = oc (a * c - b * d) (a * d + b * c)) := Lib.hid (by rw [hok, res, if_pos rfl])
      clear hok
      have hka := heap_alloc_new w2 (.cells #[.int .i64 (-a), .int .i64 (-b)] 23)
      have H2a := H2.out.below ((Below.refl w2.heap.size w2).alloc (Nat.le_refl _) (.cells #[.int .i64 (-a), .int .i64 (-b)] 23))
      clear c0 c1 z0 z1 f0
      obtain ⟨⟨a2, a3⟩, ⟨c0, c1⟩, ⟨z0, z1⟩, f0, hz2⟩ := H2a.facts
      have k0 := (cells_of2 hka).1
      have k1 := (cells_of2 hka).2
      have kf := fun i => frozen_of_row _ w2.heap.size i _ _ hka
      have HKA := Lib.hid hka
      have H2A := Lib.hid H2a
      clear hka H2a z0 z1 f0
      go_wp2_with fail
      refine (rmay_any (a * c - b * d) (a * d + b * c) _).mono ?_
      rintro e w3 ⟨rfl, hb⟩
      have H3 := Lib.hid (H2.out.alloc2 hb)
      have hk := kept2 hb
      clear hb H2 H2A HKA a0 a1 a2 a3 c0 c1 k0 k1 kf hz hz2
      obtain ⟨-, -, ⟨z0, z1⟩, f0, hz⟩ := H3.out.facts
      obtain ⟨k0, k1⟩ := cells_of2 hk
      clear hk m1 m2 m3 m4 hm hm2
      by_cases hm : (a * c - b * d).natAbs ≤ 1048576 ∧ (a * d + b * c).natAbs ≤ 1048576
      · have HO := Lib.hid (HR.out.trans (oc_yes hm))
        rw [mayN_yes hm]
        clear hm
        generalize a * c - b * d = R1 at *
        generalize a * d + b * c = R2 at *
        go_wp2_with fail
        clear z0 z1
        obtain ⟨z0, z1, hbb⟩ := H3.out.put (.int .i64 R1) (.int .i64 R2)
        exact bodyPost_ret (v := .tuple #[.agg #[.int .i64 R1, .int .i64 R2], .int .i64 0]) (by simp [results, Try.results17, go_sem, z0, z1]) rfl ⟨by rw [HO.out], hbb⟩
      · have HO := Lib.hid (HR.out.trans (oc_no hm))
        rw [mayN_no hm]
        clear hm
        generalize a * c - b * d = R1 at *
        generalize a * d + b * c = R2 at *
        go_wp2_with fail
        clear z0 z1
        obtain ⟨z0, z1, hbb⟩ := H3.out.put (.int .i64 0) (.int .i64 0)
        exact bodyPost_ret (v := .tuple #[.agg #[.int .i64 0, .int .i64 0], .int .i64 17]) (by simp [results, Try.results17, go_sem, z0, z1]) rfl ⟨by rw [HO.out], hbb⟩
    · have HR : Hid (res (ok2 a b c d) (a * c - b * d) (a * d + b * c) = (0, 0, 17)) := Lib.hid (by
        rw [res, if_neg]; unfold ok2; simp only [Bool.and_eq_true, decide_eq_true_iff]; omega)
      rw [mayN_no hm2]
      go_wp2_with fail
      clear z0 z1
      obtain ⟨z0, z1, hbb⟩ := H2.out.put (.int .i64 0) (.int .i64 0)
      exact bodyPost_ret (v := .tuple #[.agg #[.int .i64 0, .int .i64 0], .int .i64 17]) (by simp [results, Try.results17, go_sem, z0, z1]) rfl ⟨by rw [HR.out], hbb⟩
  · have HR : Hid (res (ok2 a b c d) (a * c - b * d) (a * d + b * c) = (0, 0, 17)) := Lib.hid (by
      rw [res, if_neg]; unfold ok2; simp only [Bool.and_eq_true, decide_eq_true_iff]; omega)
    rw [mayN_no hm]
    go_wp2_with fail
    clear z0 z1
    obtain ⟨z0, z1, hbb⟩ := H1.out.put (.int .i64 0) (.int .i64 0)
    exact bodyPost_ret (v := .tuple #[.agg #[.int .i64 0, .int .i64 0], .int .i64 17]) (by simp [results, Try.results17, go_sem, z0, z1]) rfl ⟨by rw [HR.out], hbb⟩
end Go.Proofs.Ytldgpmnckhlbbaa
