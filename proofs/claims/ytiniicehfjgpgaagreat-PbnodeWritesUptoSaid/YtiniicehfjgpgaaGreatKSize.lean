/- The walks of Size and String of a kind, and of the document's own answers, Size and Word. -/
import Derived.Test.YtiniicehfjgpgaaGreatKMap
import Derived.Test.YtiniicehfjgpgaaGreatLift
import Derived.Test.YtiniicehfjgpgaaGreatRow
import Derived.Test.YtiniicehfjgpgaaGreatGRefTwo
namespace Go.Proofs.YtiniicehfjgpgaaGreat
open Go.RowKit Go.Maps

theorem kindField1 (s : ByteArray) (n : Int) (w : World) : (Instr.field 178 (.agg #[.string s, .int .i64 n]) 1).run Tryz.prog w = .ok (.int .i64 n) w := by kernel_rfl

set_option maxRecDepth 100000 in
theorem k_size_any (k : Int) (w : World) (hw : (Lit.int .i64 k).wf = true) :
    Calls Tryz.prog 95 #[.int .i64 k] w fun e w' => e = .returned (.int .i64 (kSize k)) ∧ Below w.heap.size w w' := by
  have HW := Lib.hid hw
  clear hw
  go_enter Tryz.func95, Tryz.ntmps95
  go_wp2_with fail
  refine (kinds_any _).mono ?_
  rintro e w1 ⟨b, rfl, hm, hbb, hb1⟩
  have hl := km_look hm k HW.out
  have HB := Lib.hid hb1
  clear hm hbb hb1
  have hf := kindField1
  go_wp2_with fail
  go_ret
  exact ⟨rfl, HB.out⟩

set_option maxRecDepth 100000 in
theorem string_any (k : Int) (w : World) (hw : (Lit.int .i64 k).wf = true) :
    Calls Tryz.prog 96 #[.int .i64 k] w fun e w' => e = .returned (.string (kWord k)) ∧ Below w.heap.size w w' := by
  have HW := Lib.hid hw
  clear hw
  cases hk : isKind k
  · have HK := Lib.hid (kWord_no hk)
    have HI := Lib.hid hk
    clear hk
    go_enter Tryz.func96, Tryz.ntmps96
    go_wp2_with fail
    refine (kinds_any _).mono ?_
    rintro e w1 ⟨b, rfl, hm, hbb, hb1⟩
    have hl := km_look_ok hm k HW.out
    rw [HI.out] at hl
    have HB := Lib.hid hb1
    have hz := hb1.size
    clear hm hbb hb1
    go_wp2_with fail
    go_ret
    refine ⟨?_, HB.out.alloc hz _⟩
    show Ending.returned (.string _) = _
    rw [HK.out]
  · have HK := Lib.hid (kWord_yes hk)
    have HI := Lib.hid hk
    clear hk
    go_enter Tryz.func96, Tryz.ntmps96
    go_wp2_with fail
    refine (kinds_any _).mono ?_
    rintro e w1 ⟨b, rfl, hm, hbb, hb1⟩
    have hl := km_look_ok hm k HW.out
    rw [HI.out] at hl
    have HB := Lib.hid hb1
    have hz := hb1.size
    clear hm hbb hb1
    go_wp2_with fail
    go_ret
    refine ⟨?_, HB.out.alloc hz _⟩
    show Ending.returned (.string _) = _
    rw [HK.out]

set_option maxRecDepth 100000 in
theorem refSize_any (k : Int) (w : World) : Calls Tryz.prog 21 #[.int .i64 k] w fun e w' => e = .returned (.int .i64 (kSize k)) ∧ w = w' := by
  go_enter Tryz.func21, Tryz.ntmps21
  go_wp2_with fail
  all_goals
    go_ret
    refine ⟨?_, rfl⟩
    congr 2
    simp only [beq_iff_eq, beq_eq_false_iff_ne, ne_eq] at *
    first | (subst_vars; decide) | simp_all [kSize]
end Go.Proofs.YtiniicehfjgpgaaGreat
/- The walk of the example of layer 4. -/
namespace Go.Proofs.YtiniicehfjgpgaaGreat
open Go.RowKit Go.Maps
set_option maxRecDepth 100000 in
theorem kawake_any (w : World) : Calls Tryz.prog 76 #[] w fun e w' => e = .returned (.bool true) ∧ Below w.heap.size w w' := by
  have h8 : Hid (kSize 14 = 8) := Lib.hid (by decide)
  have hw7 : Hid (kWord 7 = ⟨#[105, 110, 116]⟩) := Lib.hid (by decide +kernel)
  go_enter Tryz.func76, Tryz.ntmps76
  go_wp2_with fail
  refine (k_size_any 14 _ (by decide)).mono ?_
  rintro e w1 ⟨rfl, hb1⟩
  rw [h8.out]
  have HB1 := Lib.hid hb1
  clear hb1
  go_wp2_with fail
  refine (string_any 7 _ (by decide)).mono ?_
  rintro e w2 ⟨rfl, hb2⟩
  rw [hw7.out]
  have HB2 := Lib.hid (HB1.out.trans (hb2.mono HB1.out.size))
  clear hb2
  go_wp2_with fail
  go_ret
  exact ⟨rfl, HB2.out⟩
end Go.Proofs.YtiniicehfjgpgaaGreat
/- The walk of kind.Of: the map gone over in whatever order. -/
namespace Go.Proofs.YtiniicehfjgpgaaGreat
open Go.RowKit Go.Maps Go.ChangeMaps

/-- the map of kinds under way: which keys are still to come -/
def KR (b r : Nat) (left : Lit → Bool) (cnt : Nat) (w : World) : Prop := w.ranges Tryz.prog 35 abR b r 5 kMap left cnt

theorem kind_next {w : World} {ops : Array Oper} {rest : List Oper} {o : Oper} {a : Act} {Q : Exit → Act → World → Prop} (hg : o.guard = none) (it : Operand) (hop : o.op = Op.next it false)
    (b r : Nat) (left : Lit → Bool) (cnt : Nat) (hit : a.eval it = .pointer (some ⟨r, 0, none⟩)) (h : KR b r left cnt w)
    (hDone : (∀ kl, left kl = false) → wpList Tryz.prog ops Q rest (a.put o.dst (.tuple #[.bool false])) w)
    (hMore : ∀ (k : Int) (w' : World) (cnt' : Nat), isKind k = true → left (kKey k) = true → KR b r (fun z => left z && !z.sameKey (kKey k)) cnt' w' → cnt' < cnt → w.grownBy w' (some r) → w'.heap.size = w.heap.size →
      (Instr.entry (.pointer (some ⟨r, 0, none⟩))).run Tryz.prog w' = .ok (.tuple #[.int .i64 k, .agg #[.string (mWord k), .int .i64 (kSize k)]]) w' →
      wpList Tryz.prog ops Q rest (a.put o.dst (.tuple #[.bool true, .int .i64 k, .agg #[.string (mWord k), .int .i64 (kSize k)]])) w') :
    wpList Tryz.prog ops Q (o :: rest) a w :=
  wpList_next_ranges w hg it hop 35 kindLaw abR (Value.int .i64) (fun p : ByteArray × Int => .agg #[.string p.1, .int .i64 p.2])
    (fun key kl hk => by obtain ⟨x, rfl, _⟩ := Maps.keyOf_int_inv Tryz.underlying35 hk; exact ⟨x, rfl⟩)
    (fun v y hv => by obtain ⟨s, n, rfl, _⟩ := abR_inv hv; exact ⟨(s, n), rfl⟩)
    b r 5 kMap left cnt hit h (fun _ hl => hDone hl) (fun x c kl y w' cnt' hkey hlk hv hat hrg hlt hgr hsz hen => by
      obtain ⟨x', ex, rfl, _⟩ := Maps.keyOf_int_inv Tryz.underlying35 hkey
      cases ex
      obtain ⟨k, hk, ek⟩ := (kMap_has _).1 (has_true_of_atKey hat)
      have e2 : x = k := by unfold kKey at ek; injection ek
      subst e2
      have ev := abR_of hv (by rw [← hat .nil]; exact kMap_at hk _)
      rw [ev] at hen ⊢
      exact hMore x w' cnt' hk hlk hrg hlt hgr hsz hen)

def OfRel (b r : Nat) (s : ByteArray) (w : World) (wr : World) : Prop :=
  ∃ left cnt, KR b r left cnt wr ∧ (∀ k, isKind k = true → left (kKey k) = false → mWord k ≠ s) ∧ Below w.heap.size w wr ∧ w.heap.size ≤ r

def OfRes (s : ByteArray) (w : World) (e : Ending) (w' : World) : Prop :=
  e = .returned (.tuple #[.int .i64 (kindOf s), .bool (decide (0 < kindOf s))]) ∧ Below w.heap.size w w'

end Go.Proofs.YtiniicehfjgpgaaGreat
