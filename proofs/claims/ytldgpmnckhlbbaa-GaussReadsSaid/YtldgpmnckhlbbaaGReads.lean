/- The walks of the example of layer 6 and of the law GaussReads. -/
import Derived.Test.YtldgpmnckhlbbaaGDo
import Derived.Test.YtldgpmnckhlbbaaGBytes
import Derived.Test.YtldgpmnckhlbbaaText
namespace Go.Proofs.Ytldgpmnckhlbbaa
open Go.RowKit M6

theorem fz_self {n : Int} (h : n.natAbs < 9007199254740992) : FloatKind.f64.format.order (fz n) (fz n) = some .eq := by
  have h2 : FloatKind.f64.format.order (fz n) (fz n) = some (compare n n) := D_order (fz_num h) (fz_num h) h h
  rw [h2, Int.compare_eq_ite_lt, if_neg (by omega), if_neg (by omega)]
theorem fz_other {n m : Int} (h : n.natAbs < 9007199254740992) (hm : m.natAbs < 9007199254740992) (hne : n ≠ m) : ¬ FloatKind.f64.format.order (fz n) (fz m) = some .eq := by
  have h2 : FloatKind.f64.format.order (fz n) (fz m) = some (compare n m) := D_order (fz_num h) (fz_num hm) h hm
  rw [h2, Int.compare_eq_ite_lt]
  split
  · simp
  · split
    · simp
    · omega
theorem step_below {w a b : World} (h : Below w.heap.size w a) (h2 : Below a.heap.size a b) : Below w.heap.size w b := h.trans (h2.mono h.size)

set_option maxRecDepth 100000 in
theorem gawake_any (w : World) : Calls Try.prog 7 #[] w fun e w' => e = .returned (.bool true) ∧ Below w.heap.size w w' := by
  have HM := Lib.hid (fun W => gmul_any 1 2 3 4 W (by decide) (by decide) (by decide) (by decide))
  have e1 : fz 1 = 4607182418800017408 := by decide +kernel
  have e2 : fz 2 = 4611686018427387904 := by decide +kernel
  have e3 : fz 3 = 4613937818241073152 := by decide +kernel
  have e4 : fz 4 = 4616189618054758400 := by decide +kernel
  have e5 : fz (-5) = 13840687554816376832 := by decide +kernel
  have e6 : fz 10 = 4621819117588971520 := by decide +kernel
  have hr : res (ok2 1 2 3 4) (1 * 3 - 2 * 4) (1 * 4 + 2 * 3) = (-5, 10, 0) := by decide
  have s5 := fz_self (n := -5) (by decide)
  have s6 := fz_self (n := 10) (by decide)
  unfold NRes at HM
  rw [hr, e1, e2, e3, e4] at HM
  simp only at HM
  rw [e5, e6] at HM
  rw [e5] at s5
  rw [e6] at s6
  clear e1 e2 e3 e4 e5 e6 hr
  go_enter Try.func7, Try.ntmps7
  go_wp2_with fail
  refine (HM.out _).mono ?_
  rintro e w1 ⟨rfl, hb⟩
  have HB := Lib.hid hb
  clear hb
  go_wp2_with fail
  go_ret
  exact ⟨rfl, HB.out⟩

theorem rdSpec_one {b : ByteArray} {n m c n' m' c' : Int} (h : RdSpec b n m c) (h' : RdSpec b n' m' c') : n = n' ∧ m = m' ∧ c = c' ∧ n.natAbs ≤ 1048576 ∧ m.natAbs ≤ 1048576 := by
  rcases h with ⟨s, rfl, rfl, rfl⟩ | ⟨s, rfl, rfl, rfl⟩ | ⟨s, rfl, hn, hm, e1, e2⟩ | ⟨s, rfl, rfl, rfl, hno⟩ <;>
    rcases h' with ⟨s', rfl, rfl, rfl⟩ | ⟨s', rfl, rfl, rfl⟩ | ⟨s', rfl, hn', hm', e1', e2'⟩ | ⟨s', rfl, rfl, rfl, hno'⟩
  all_goals first
    | (exfalso; omega)
    | exact ⟨rfl, rfl, rfl, by decide, by decide⟩
    | exact absurd e2 (hno' _ _ hn hm e1)
    | exact absurd e2' (hno _ _ hn' hm' e1')
    | exact ⟨sz_inj hn hn' (e1.symm.trans e1'), sz_inj hm hm' (e2.symm.trans e2'), rfl, hn, hm⟩

/-- what Put gives -/
def pt (a c : Int) : ByteArray × Int := if a.natAbs ≤ 1048576 ∧ c.natAbs ≤ 1048576 then (bs (sz a) ++ bs (sz c), 0) else (⟨#[]⟩, 17)
theorem gput_any (a c : Int) (w : World) (ha : a.natAbs < 9007199254740992) (hc : c.natAbs < 9007199254740992) :
    Calls Try.prog 10 #[.complex .f64 (fz a) (fz c)] w fun e w' => e = .returned (.tuple #[.string (pt a c).1, .int .i64 (pt a c).2]) ∧ Below w.heap.size w w' := by
  by_cases h : a.natAbs ≤ 1048576 ∧ c.natAbs ≤ 1048576
  · have e : pt a c = (bs (sz a) ++ bs (sz c), 0) := if_pos h
    rw [e]
    exact gput_yes a c w h.1 h.2
  · have e : pt a c = (⟨#[]⟩, 17) := if_neg h
    rw [e]
    refine (gput_no (fz a) (fz c) w (fz_lt a) (fz_lt c) ?_).mono ?_
    · rw [whole_small ha, whole_small hc, decide_eq_false_iff_not, decide_eq_false_iff_not]; omega
    · rintro e w1 ⟨rfl, rfl⟩; exact ⟨rfl, Below.refl _ _⟩
theorem rput_any (a c : Int) (w : World) :
    Calls Try.prog 12 #[.agg #[.int .i64 a, .int .i64 c]] w fun e w' => e = .returned (.tuple #[.string (pt a c).1, .int .i64 (pt a c).2]) ∧ Below w.heap.size w w' := by
  by_cases h : a.natAbs ≤ 1048576 ∧ c.natAbs ≤ 1048576
  · have e : pt a c = (bs (sz a) ++ bs (sz c), 0) := if_pos h
    rw [e]
    exact rput_yes a c w h.1 h.2
  · have e : pt a c = (⟨#[]⟩, 17) := if_neg h
    rw [e]
    exact rput_no a c w h
/-- a block of two cells that the call has made, and what has come since -/
def Two (w : World) (g : Nat) (p q : Value) (W : World) : Prop := W.heap[g]? = some (.cells #[p, q] 23 (0, 0)) ∧ g < W.heap.size ∧ Below w.heap.size w W
theorem Two.start (w : World) (p q : Value) : Two w w.heap.size p q (w.alloc (.cells #[p, q] 23)) := ⟨heap_alloc_new w _, by simp, (Below.refl _ _).alloc (Nat.le_refl _) _⟩
theorem Two.below {w W W' : World} {g : Nat} {p q : Value} (h : Two w g p q W) (hb : Below W.heap.size W W') : Two w g p q W' := ⟨(hb.block g h.2.1).trans h.1, Nat.lt_of_lt_of_le h.2.1 hb.size, step_below h.2.2 hb⟩
theorem Two.alloc {w W : World} {g : Nat} {p q : Value} (h : Two w g p q W) (p2 q2 : Value) : Two w W.heap.size p2 q2 (W.alloc (.cells #[p2, q2] 23)) := ⟨heap_alloc_new W _, by simp, step_below h.2.2 ((Below.refl _ _).alloc (Nat.le_refl _) _)⟩
theorem Two.more {w W : World} {g : Nat} {p q : Value} (h : Two w g p q W) (o : Obj) : Two w g p q (W.alloc o) := h.below ((Below.refl _ _).alloc (Nat.le_refl _) _)

set_option maxRecDepth 100000 in
theorem gaussReads_walk (b : ByteArray) (a c : Int) (w : World) (hb : b.size ≤ maxLen) :
    Calls Try.prog 3 #[.string b, .int .i64 a, .int .i64 c] w fun e w' => e = .returned (.bool true) ∧ Below w.heap.size w w' := by
  have HBM := Lib.hid hb
  unfold maxLen at hb
  have H0 := Lib.hid (Two.start w (.int .i64 a) (.int .i64 c))
  by_cases h100 : 100 < b.size
  · have h : 100 < (b.size : Int) := by omega
    go_enter Try.func3, Try.ntmps3
    go_wp2_with fail
    refine (gawake_any _).mono ?_
    rintro e w1 ⟨rfl, hb1⟩
    have HB := Lib.hid (below_one hb1)
    clear hb1
    go_wp2_with fail
    go_ret
    exact ⟨rfl, HB.out⟩
  · have h : ¬ 100 < (b.size : Int) := by omega
    go_enter Try.func3, Try.ntmps3
    go_wp2_with fail
    refine (near_any a c _).mono ?_
    rintro e w1 ⟨rfl, hb1⟩
    have H1 := Lib.hid (H0.out.below hb1)
    clear hb1 H0
    by_cases hn : a.natAbs ≤ 1125899906842624 ∧ c.natAbs ≤ 1125899906842624
    · rw [nearN_yes hn]
      go_wp2_with fail
      refine (gread_any b _ HBM.out).mono ?_
      rintro e w2 ⟨n, m, k, rfl, hs, hb2⟩
      have H2 := Lib.hid (H1.out.below hb2)
      have HS := Lib.hid hs
      clear hb2 H1 hs
      go_wp2_with fail
      refine (rread_any b _ HBM.out).mono ?_
      rintro e w3 ⟨n', m', k', rfl, hs', hb3⟩
      obtain ⟨rfl, rfl, rfl, hn1, hm1⟩ := rdSpec_one HS.out hs'
      have H3 := Lib.hid (H2.out.below hb3)
      have HY := Lib.hid (H3.out.alloc (.int .i64 n) (.int .i64 m))
      have HZ := Lib.hid (H3.out.more (.cells #[.int .i64 n, .int .i64 m] 23))
      clear hb3 H2 HS hs'
      obtain ⟨z0, z1⟩ := cells_of2 HZ.out.1
      go_wp2_with fail
      refine (of_any a c _).mono ?_
      rintro e w4 ⟨rfl, hb4⟩
      have HY4 := Lib.hid (HY.out.below hb4)
      have HZ4 := Lib.hid (HZ.out.below hb4)
      clear hb4 z0 z1 HY HZ H3
      go_wp2_with fail
      refine (gput_any a c _ (by omega) (by omega)).mono ?_
      rintro e w5 ⟨rfl, hb5⟩
      have HY5 := Lib.hid (HY4.out.below hb5)
      have HZ5 := Lib.hid (HZ4.out.below hb5)
      clear hb5 HY4 HZ4
      obtain ⟨z0, z1⟩ := cells_of2 HZ5.out.1
      go_wp2_with fail
      refine (rput_any a c _).mono ?_
      rintro e w6 ⟨rfl, hb6⟩
      have HY6 := Lib.hid (HY5.out.below hb6)
      clear hb6 HY5 HZ5 z0 z1
      generalize pt a c = r at *
      generalize fz a = xa at *
      generalize fz c = xc at *
      have o1 := fz_self (n := n) (by omega)
      have o2 := fz_self (n := m) (by omega)
      clear hn hn1 hm1
      go_wp2_with fail
      refine (gawake_any _).mono ?_
      rintro e w7 ⟨rfl, hb7⟩
      have HY7 := Lib.hid (HY6.out.below hb7)
      clear hb7 HY6
      obtain ⟨z0, z1⟩ := cells_of2 HY7.out.1
      go_wp2_with fail
      refine (of_any n m _).mono ?_
      rintro e w8 ⟨rfl, hb8⟩
      have HY8 := Lib.hid (HY7.out.below hb8)
      clear hb8 HY7 z0 z1
      generalize fz n = xn at *
      generalize fz m = xm at *
      go_wp2_with fail
      go_ret
      exact ⟨rfl, HY8.out.2.2⟩
    · rw [nearN_no hn]
      go_wp2_with fail
      refine (gawake_any _).mono ?_
      rintro e w2 ⟨rfl, hb2⟩
      have H2 := Lib.hid (H1.out.below hb2)
      clear hb2 H1
      go_wp2_with fail
      go_ret
      exact ⟨rfl, H2.out.2.2⟩
end Go.Proofs.Ytldgpmnckhlbbaa
