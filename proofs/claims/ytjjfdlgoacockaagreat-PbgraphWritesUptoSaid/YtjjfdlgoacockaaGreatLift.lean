import Derived.WalkKit
import Derived.ProofKit
import Derived.OpenShut
import Derived.ShutString
import Derived.ChangeOld
import Derived.Below
import Derived.Test.YtjjfdlgoacockaaGreatKMap
import Derived.Test.YtjjfdlgoacockaaGreatGRefTwo
import Derived.Test.YtjjfdlgoacockaaGreatMath
namespace Go.Proofs.YtjjfdlgoacockaaGreat
open Go.ChangeShapes Go.WideShapes Go.ChangeAt Go.RowKit
theorem trodAll_lt {H : Type} {enc : TypeId × Value → H} {P : Program} {W : World} : ∀ {ts : List TypeId} {vs : List Value} {ds : List (DataW H)} {p : List MemPlace},
    DataW.TrodAll enc P W 0 (fun _ => true) true ts vs ds p → ∀ x ∈ p, x.block < W.heap.size
  | [], vs, ds, p, h, x, hx => by
    obtain ⟨_, _, rfl⟩ := trodAll_nil h
    cases hx
  | t :: ts, vs, ds, p, h, x, hx => by
    obtain ⟨v, vs', d, ds', p0, q0, rfl, rfl, rfl, h0, r0⟩ := trodAll_cons h
    rcases List.mem_append.1 hx with hx | hx
    · obtain ⟨m, hm⟩ := h0
      exact DataW.trod_lt m _ _ _ hm x hx
    · exact trodAll_lt r0 x hx
theorem trodAll_length {H : Type} {enc : TypeId × Value → H} {P : Program} {W : World} {base : Nat} {spare : Nat → Bool} {held : Bool} : ∀ {ts : List TypeId} {vs : List Value} {ds : List (DataW H)} {p : List MemPlace},
    DataW.TrodAll enc P W base spare held ts vs ds p → ds.length = ts.length
  | [], vs, ds, p, h => by
    obtain ⟨_, rfl, _⟩ := trodAll_nil h
    rfl
  | t :: ts, vs, ds, p, h => by
    obtain ⟨v, vs', d, ds', p0, q0, _, rfl, _, _, r0⟩ := trodAll_cons h
    simp [trodAll_length r0]
theorem below_trodAll {H : Type} {enc : TypeId × Value → H} {P : Program} (hl : laidOutB P = true) {W W' : World} (hb : Below W.heap.size W W') : ∀ {ts : List TypeId} {vs : List Value} {ds : List (DataW H)} {p : List MemPlace},
    (ts.all fun t => P.readableRec t && decide (t < P.types.size)) = true →
    DataW.TrodAll enc P W 0 (fun _ => true) true ts vs ds p → DataW.TrodAll enc P W' 0 (fun b => decide (b < W.heap.size)) true ts vs ds p
  | [], vs, ds, p, _, h => by
    obtain ⟨rfl, rfl, rfl⟩ := trodAll_nil h
    exact trodAll_mk0
  | t :: ts, vs, ds, p, hr, h => by
    have hlt := trodAll_lt h
    obtain ⟨v, vs', d, ds', p0, q0, rfl, rfl, rfl, h0, r0⟩ := trodAll_cons h
    simp only [List.all_cons, Bool.and_eq_true, decide_eq_true_eq] at hr
    exact trodAll_cons_mk (Below.trod hl hr.1.1 hr.1.2 h0 hb (fun x hx => hlt x (List.mem_append_left _ hx))) (below_trodAll hl hb (by simp only [List.all_eq_true, Bool.and_eq_true, decide_eq_true_eq]; simpa [List.all_eq_true] using hr.2) r0)
end Go.Proofs.YtjjfdlgoacockaaGreat
namespace Go.Proofs.YtjjfdlgoacockaaGreat
open Go.RowKit Go.Maps

theorem kindField1 (s : ByteArray) (n : Int) (w : World) : (Instr.field 281 (.agg #[.string s, .int .i64 n]) 1).run Tryz.prog w = .ok (.int .i64 n) w := by kernel_rfl

set_option maxRecDepth 100000 in
theorem k_size_any (k : Int) (w : World) (hw : (Lit.int .i64 k).wf = true) :
    Calls Tryz.prog 129 #[.int .i64 k] w fun e w' => e = .returned (.int .i64 (kSize k)) ∧ Below w.heap.size w w' := by
  have HW := Lib.hid hw
  clear hw
  go_enter Tryz.func129, Tryz.ntmps129
  go_wp2_with fail
  refine (kinds_any _).mono ?_
  rintro e w1 ⟨b, rfl, hm, hbb, hb1⟩
  have hl := km_look hm k HW.out
  have HB := Lib.hid hb1
  clear hm hbb hb1
  have hf := kindField1
  go_wp2_with fail
  go_ret
  exact ⟨rfl, HB.out⟩

set_option maxRecDepth 100000 in
theorem string_any (k : Int) (w : World) (hw : (Lit.int .i64 k).wf = true) :
    Calls Tryz.prog 148 #[.int .i64 k] w fun e w' => e = .returned (.string (kWord k)) ∧ Below w.heap.size w w' := by
  have HW := Lib.hid hw
  clear hw
  cases hk : isKind k
  · have HK := Lib.hid (kWord_no hk)
    have HI := Lib.hid hk
    clear hk
    go_enter Tryz.func148, Tryz.ntmps148
    go_wp2_with fail
    refine (kinds_any _).mono ?_
    rintro e w1 ⟨b, rfl, hm, hbb, hb1⟩
    have hl := km_look_ok hm k HW.out
    rw [HI.out] at hl
    have HB := Lib.hid hb1
    have hz := hb1.size
    clear hm hbb hb1
    go_wp2_with fail
    go_ret
    refine ⟨?_, HB.out.alloc hz _⟩
    show Ending.returned (.string _) = _
    rw [HK.out]
  · have HK := Lib.hid (kWord_yes hk)
    have HI := Lib.hid hk
    clear hk
    go_enter Tryz.func148, Tryz.ntmps148
    go_wp2_with fail
    refine (kinds_any _).mono ?_
    rintro e w1 ⟨b, rfl, hm, hbb, hb1⟩
    have hl := km_look_ok hm k HW.out
    rw [HI.out] at hl
    have HB := Lib.hid hb1
    have hz := hb1.size
    clear hm hbb hb1
    go_wp2_with fail
    go_ret
    refine ⟨?_, HB.out.alloc hz _⟩
    show Ending.returned (.string _) = _
    rw [HK.out]

set_option maxRecDepth 100000 in
theorem refSize_any (k : Int) (w : World) : Calls Tryz.prog 55 #[.int .i64 k] w fun e w' => e = .returned (.int .i64 (kSize k)) ∧ w = w' := by
  go_enter Tryz.func55, Tryz.ntmps55
  go_wp2_with fail
  all_goals
    go_ret
    refine ⟨?_, rfl⟩
    congr 2
    simp only [beq_iff_eq, beq_eq_false_iff_ne, ne_eq] at *
    first | (subst_vars; decide) | simp_all [kSize]
end Go.Proofs.YtjjfdlgoacockaaGreat
namespace Go.Proofs.YtjjfdlgoacockaaGreat
open Go.RowKit Go.Maps Go.ChangeMaps

def KR (b r : Nat) (left : Lit → Bool) (cnt : Nat) (w : World) : Prop := w.ranges Tryz.prog 96 abR b r 5 kMap left cnt

theorem kind_next {w : World} {ops : Array Oper} {rest : List Oper} {o : Oper} {a : Act} {Q : Exit → Act → World → Prop} (hg : o.guard = none) (it : Operand) (hop : o.op = Op.next it false)
    (b r : Nat) (left : Lit → Bool) (cnt : Nat) (hit : a.eval it = .pointer (some ⟨r, 0, none⟩)) (h : KR b r left cnt w)
    (hDone : (∀ kl, left kl = false) → wpList Tryz.prog ops Q rest (a.put o.dst (.tuple #[.bool false])) w)
    (hMore : ∀ (k : Int) (w' : World) (cnt' : Nat), isKind k = true → left (kKey k) = true → KR b r (fun z => left z && !z.sameKey (kKey k)) cnt' w' → cnt' < cnt → w.grownBy w' (some r) → w'.heap.size = w.heap.size →
      (Instr.entry (.pointer (some ⟨r, 0, none⟩))).run Tryz.prog w' = .ok (.tuple #[.int .i64 k, .agg #[.string (mWord k), .int .i64 (kSize k)]]) w' →
      wpList Tryz.prog ops Q rest (a.put o.dst (.tuple #[.bool true, .int .i64 k, .agg #[.string (mWord k), .int .i64 (kSize k)]])) w') :
    wpList Tryz.prog ops Q (o :: rest) a w :=
  wpList_next_ranges w hg it hop 96 kindLaw abR (Value.int .i64) (fun p : ByteArray × Int => .agg #[.string p.1, .int .i64 p.2])
    (fun key kl hk => by obtain ⟨x, rfl, _⟩ := Maps.keyOf_int_inv Tryz.underlying96 hk; exact ⟨x, rfl⟩)
    (fun v y hv => by obtain ⟨s, n, rfl, _⟩ := abR_inv hv; exact ⟨(s, n), rfl⟩)
    b r 5 kMap left cnt hit h (fun _ hl => hDone hl) (fun x c kl y w' cnt' hkey hlk hv hat hrg hlt hgr hsz hen => by
      obtain ⟨x', ex, rfl, _⟩ := Maps.keyOf_int_inv Tryz.underlying96 hkey
      cases ex
      obtain ⟨k, hk, ek⟩ := (kMap_has _).1 (has_true_of_atKey hat)
      have e2 : x = k := by unfold kKey at ek; injection ek
      subst e2
      have ev := abR_of hv (by rw [← hat .nil]; exact kMap_at hk _)
      rw [ev] at hen ⊢
      exact hMore x w' cnt' hk hlk hrg hlt hgr hsz hen)

end Go.Proofs.YtjjfdlgoacockaaGreat
namespace Go.Proofs.YtjjfdlgoacockaaGreat
open Go.RowKit Go.Maps
set_option maxRecDepth 100000 in
theorem kawake_any (w : World) : Calls Tryz.prog 104 #[] w fun e w' => e = .returned (.bool true) ∧ Below w.heap.size w w' := by
  have h8 : Hid (kSize 14 = 8) := Lib.hid (by decide)
  have hw7 : Hid (kWord 7 = ⟨#[105, 110, 116]⟩) := Lib.hid (by decide +kernel)
  go_enter Tryz.func104, Tryz.ntmps104
  go_wp2_with fail
  refine (k_size_any 14 _ (by decide)).mono ?_
  rintro e w1 ⟨rfl, hb1⟩
  rw [h8.out]
  have HB1 := Lib.hid hb1
  clear hb1
  go_wp2_with fail
  refine (string_any 7 _ (by decide)).mono ?_
  rintro e w2 ⟨rfl, hb2⟩
  rw [hw7.out]
  have HB2 := Lib.hid (HB1.out.trans (hb2.mono HB1.out.size))
  clear hb2
  go_wp2_with fail
  go_ret
  exact ⟨rfl, HB2.out⟩
end Go.Proofs.YtjjfdlgoacockaaGreat
