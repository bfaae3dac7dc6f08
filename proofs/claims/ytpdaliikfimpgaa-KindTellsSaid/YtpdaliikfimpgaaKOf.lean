/- The walk of kind.Of: the map gone over in whatever order. -/
import Derived.Test.YtpdaliikfimpgaaKMap
import Derived.Test.YtpdaliikfimpgaaLift
import Derived.Test.YtpdaliikfimpgaaText
namespace Go.Proofs.Ytpdaliikfimpgaa
open Go.RowKit Go.Maps Go.ChangeMaps

/-- the map of kinds under way: which keys are still to come -/
def KR (b r : Nat) (left : Lit → Bool) (cnt : Nat) (w : World) : Prop := w.ranges Try.prog 22 abR b r 5 kMap left cnt

theorem kind_next {w : World} {ops : Array Oper} {rest : List Oper} {o : Oper} {a : Act} {Q : Exit → Act → World → Prop} (hg : o.guard = none) (it : Operand) (hop : o.op = Op.next it false)
    (b r : Nat) (left : Lit → Bool) (cnt : Nat) (hit : a.eval it = .pointer (some ⟨r, 0, none⟩)) (h : KR b r left cnt w)
    (hDone : (∀ kl, left kl = false) → wpList Try.prog ops Q rest (a.put o.dst (.tuple #[.bool false])) w)
    (hMore : ∀ (k : Int) (w' : World) (cnt' : Nat), isKind k = true → left (kKey k) = true → KR b r (fun z => left z && !z.sameKey (kKey k)) cnt' w' → cnt' < cnt → w.grownBy w' (some r) → w'.heap.size = w.heap.size →
      (Instr.entry (.pointer (some ⟨r, 0, none⟩))).run Try.prog w' = .ok (.tuple #[.int .i64 k, .agg #[.string (mWord k), .int .i64 (kSize k)]]) w' →
      wpList Try.prog ops Q rest (a.put o.dst (.tuple #[.bool true, .int .i64 k, .agg #[.string (mWord k), .int .i64 (kSize k)]])) w') :
    wpList Try.prog ops Q (o :: rest) a w :=
  wpList_next_ranges w hg it hop 22 kindLaw abR (Value.int .i64) (fun p : ByteArray × Int => .agg #[.string p.1, .int .i64 p.2])
    (fun key kl hk => by obtain ⟨x, rfl, _⟩ := Maps.keyOf_int_inv Try.underlying22 hk; exact ⟨x, rfl⟩)
    (fun v y hv => by obtain ⟨s, n, rfl, _⟩ := abR_inv hv; exact ⟨(s, n), rfl⟩)
    b r 5 kMap left cnt hit h (fun _ hl => hDone hl) (fun x c kl y w' cnt' hkey hlk hv hat hrg hlt hgr hsz hen => by
      obtain ⟨x', ex, rfl, _⟩ := Maps.keyOf_int_inv Try.underlying22 hkey
      cases ex
      obtain ⟨k, hk, ek⟩ := (kMap_has _).1 (has_true_of_atKey hat)
      have e2 : x = k := by unfold kKey at ek; injection ek
      subst e2
      have ev := abR_of hv (by rw [← hat .nil]; exact kMap_at hk _)
      rw [ev] at hen ⊢
      exact hMore x w' cnt' hk hlk hrg hlt hgr hsz hen)

def OfRel (b r : Nat) (s : ByteArray) (w : World) (wr : World) : Prop :=
  ∃ left cnt, KR b r left cnt wr ∧ (∀ k, isKind k = true → left (kKey k) = false → mWord k ≠ s) ∧ Below w.heap.size w wr ∧ w.heap.size ≤ r

def OfRes (s : ByteArray) (w : World) (e : Ending) (w' : World) : Prop :=
  e = .returned (.tuple #[.int .i64 (kindOf s), .bool (decide (0 < kindOf s))]) ∧ Below w.heap.size w w'

set_option maxRecDepth 100000 in
theorem of_any (s : ByteArray) (w : World) : Calls Try.prog 8 #[.string s] w (OfRes s w) := by
  go_enter Try.func8, Try.ntmps8
  go_wp2_with fail
  refine (kinds_any _).mono ?_
  rintro e w1 ⟨b, rfl, hm, hbb, hb1⟩
  obtain ⟨w2, hrun, hrg, hg2, hz2⟩ := hm.range kindLaw Try.underlying36
  have H0 : Hid (OfRel b w1.heap.size s w w2) := Lib.hid ⟨_, _, hrg, (fun k hk hl => by rw [(kMap_has _).2 ⟨k, hk, rfl⟩] at hl; cases hl), hb1.grown hg2 hb1.size (fun k hk => by cases hk), hb1.size⟩
  clear hm hbb hb1 hrg hg2 hz2
  go_wp2_with fail
  go_loopw [4] (fun _ wr => OfRel b w1.heap.size s w wr) (fun _ wr => wr.rangeLeft b w1.heap.size)
  case atStart => exact H0.out
  case round =>
    obtain ⟨left, cnt, hrg, hseen, hbl, hr⟩ := hrel
    have HS := Lib.hid hseen
    have HL := Lib.hid hbl
    have HR := Lib.hid hr
    have hsz0 := hbl.size
    clear hseen hbl hr H0
    go_wp2_with (with_reducible refine kind_next rfl _ rfl b w1.heap.size left cnt rfl hrg ?_ ?_)
    · intro hl0
      have hk0 : kindOf s = 0 := kindOf_zero fun k hk => HS.out k hk (hl0 _)
      clear hrg hl0
      go_wp2
      go_ret2
      exact ⟨by rw [hk0]; rfl, HL.out⟩
    · intro k w3 cnt3 hk hlk hrg3 hlt hg3 hs3 hen
      have hl3 := HL.out.grown hg3 hsz0 (fun j hj => by cases hj; exact HR.out)
      have hla : Below w.heap.size w (w3.alloc (.cells #[.string (mWord k), .int .i64 (kSize k)] 35)) := hl3.alloc (by rw [hs3]; exact hsz0) _
      have hra : KR b w1.heap.size (fun z => left z && !z.sameKey (kKey k)) cnt3 (w3.alloc (.cells #[.string (mWord k), .int .i64 (kSize k)] 35)) := hrg3.alloc _
      have HA := Lib.hid hla
      have HX := Lib.hid hra
      have HM := Lib.hid hlt
      have HK := Lib.hid hk
      have hle := hrg.left_eq
      have HE := Lib.hid hle
      clear hl3 hla hra hrg3 hlt hg3 hs3 hk hle hrg hlk
      by_cases hs : mWord k = s
      · have HW := Lib.hid (kindOf_eq HK.out hs)
        have ht := teq_yes hs
        clear hs
        go_wp2
        go_ret2
        refine ⟨?_, HA.out⟩
        have hp := isKind_bd HK.out
        rw [HW.out, decide_eq_true (show 0 < k by omega)]
        rfl
      · have HN := Lib.hid hs
        have ht := teq_no hs
        clear hs
        go_wp2
        go_roundw
        case rel =>
          refine ⟨_, _, HX.out, fun k' hk' hl' => ?_, HA.out, HR.out⟩
          by_cases e : k' = k
          · rw [e]; exact HN.out
          · refine HS.out k' hk' ?_
            have : (kKey k').sameKey (kKey k) = false := sameKey_ne (kKey_ne e)
            rw [this] at hl'
            simpa using hl'
        case measure => rw [HX.out.left_eq, HE.out]; exact HM.out
end Go.Proofs.Ytpdaliikfimpgaa
