/- What both readings and both writings of numbers give; blocks of two cells. -/
import Derived.Test.YtngjpgdgipmieaaGAwake
import Derived.Test.YtngjpgdgipmieaaGOf
import Derived.Test.YtngjpgdgipmieaaGBytes
namespace Go.Proofs.Ytngjpgdgipmieaa
open Go.RowKit M6
theorem rdSpec_one {b : ByteArray} {n m c n' m' c' : Int} (h : RdSpec b n m c) (h' : RdSpec b n' m' c') : n = n' ∧ m = m' ∧ c = c' ∧ n.natAbs ≤ 1048576 ∧ m.natAbs ≤ 1048576 := by
  rcases h with ⟨s, rfl, rfl, rfl⟩ | ⟨s, rfl, rfl, rfl⟩ | ⟨s, rfl, hn, hm, e1, e2⟩ | ⟨s, rfl, rfl, rfl, hno⟩ <;>
    rcases h' with ⟨s', rfl, rfl, rfl⟩ | ⟨s', rfl, rfl, rfl⟩ | ⟨s', rfl, hn', hm', e1', e2'⟩ | ⟨s', rfl, rfl, rfl, hno'⟩
  all_goals first
    | (exfalso; omega)
    | exact ⟨rfl, rfl, rfl, by decide, by decide⟩
    | exact absurd e2 (hno' _ _ hn hm e1)
    | exact absurd e2' (hno _ _ hn' hm' e1')
    | exact ⟨sz_inj hn hn' (e1.symm.trans e1'), sz_inj hm hm' (e2.symm.trans e2'), rfl, hn, hm⟩
/-- what Put gives -/
def pt (a c : Int) : ByteArray × Int := if a.natAbs ≤ 1048576 ∧ c.natAbs ≤ 1048576 then (bs (sz a) ++ bs (sz c), 0) else (⟨#[]⟩, 17)
theorem gput_any (a c : Int) (w : World) (ha : a.natAbs < 9007199254740992) (hc : c.natAbs < 9007199254740992) :
    Calls Try.prog 65 #[.complex .f64 (fz a) (fz c)] w fun e w' => e = .returned (.tuple #[.string (pt a c).1, .int .i64 (pt a c).2]) ∧ Below w.heap.size w w' := by
  by_cases h : a.natAbs ≤ 1048576 ∧ c.natAbs ≤ 1048576
  · have e : pt a c = (bs (sz a) ++ bs (sz c), 0) := if_pos h
    rw [e]
    exact gput_yes a c w h.1 h.2
  · have e : pt a c = (⟨#[]⟩, 17) := if_neg h
    rw [e]
    refine (gput_no (fz a) (fz c) w (fz_lt a) (fz_lt c) ?_).mono ?_
    · rw [whole_small ha, whole_small hc, decide_eq_false_iff_not, decide_eq_false_iff_not]; omega
    · rintro e w1 ⟨rfl, rfl⟩; exact ⟨rfl, Below.refl _ _⟩
theorem rput_any (a c : Int) (w : World) :
    Calls Try.prog 26 #[.agg #[.int .i64 a, .int .i64 c]] w fun e w' => e = .returned (.tuple #[.string (pt a c).1, .int .i64 (pt a c).2]) ∧ Below w.heap.size w w' := by
  by_cases h : a.natAbs ≤ 1048576 ∧ c.natAbs ≤ 1048576
  · have e : pt a c = (bs (sz a) ++ bs (sz c), 0) := if_pos h
    rw [e]
    exact rput_yes a c w h.1 h.2
  · have e : pt a c = (⟨#[]⟩, 17) := if_neg h
    rw [e]
    exact rput_no a c w h
/-- a block of two cells that the call has made, and what has come since -/
def Two (w : World) (g : Nat) (p q : Value) (W : World) : Prop := W.heap[g]? = some (.cells #[p, q] 52 (0, 0)) ∧ g < W.heap.size ∧ Below w.heap.size w W
theorem Two.start (w : World) (p q : Value) : Two w w.heap.size p q (w.alloc (.cells #[p, q] 52)) := ⟨heap_alloc_new w _, by simp, (Below.refl _ _).alloc (Nat.le_refl _) _⟩
theorem Two.below {w W W' : World} {g : Nat} {p q : Value} (h : Two w g p q W) (hb : Below W.heap.size W W') : Two w g p q W' := ⟨(hb.block g h.2.1).trans h.1, Nat.lt_of_lt_of_le h.2.1 hb.size, step_below h.2.2 hb⟩
theorem Two.alloc {w W : World} {g : Nat} {p q : Value} (h : Two w g p q W) (p2 q2 : Value) : Two w W.heap.size p2 q2 (W.alloc (.cells #[p2, q2] 52)) := ⟨heap_alloc_new W _, by simp, step_below h.2.2 ((Below.refl _ _).alloc (Nat.le_refl _) _)⟩
theorem Two.more {w W : World} {g : Nat} {p q : Value} (h : Two w g p q W) (o : Obj) : Two w g p q (W.alloc o) := h.below ((Below.refl _ _).alloc (Nat.le_refl _) _)
end Go.Proofs.Ytngjpgdgipmieaa
