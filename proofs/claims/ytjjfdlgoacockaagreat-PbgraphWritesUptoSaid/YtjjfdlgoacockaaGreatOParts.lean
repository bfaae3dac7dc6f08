import Derived.RangeFuncFrom
import Derived.RangeFuncLeaves
import Derived.RangeFuncCalls
import Derived.Shelf.Abstract
import Derived.Shelf.RegionOpen
import Derived.WalkKit
import Derived.OwnWalkIn
import Derived.TacticsInMore
import Derived.LoopNIn
import Derived.LoopIn
import Derived.Test.YtjjfdlgoacockaaGreatOCut
namespace Go.Proofs.YtjjfdlgoacockaaGreat
open Go.RowKit M8 Go.Shelf
attribute [local go_sem] Oper.semAt_some

abbrev Pt := { b : ByteArray // b.size ≤ 255 }
def ptl (pre : List Pt) : List (List UInt8) := pre.map fun p => p.1.data.toList
theorem ptl_snoc (pre : List Pt) (x : Pt) : ptl (pre ++ [x]) = ptl pre ++ [x.1.data.toList] := by simp [ptl]
theorem ptl_len (pre : List Pt) : (ptl pre).length = pre.length := by simp [ptl]
theorem grown_drewN (w : World) (n : Nat) (row : Option Nat) : w.grownBy (w.drewN n) row := ⟨rfl, rfl, rfl, Nat.le_refl _, fun _ _ _ => rfl⟩
def More (s : ByteArray) (pre : List Pt) (x : Pt) (r : ByteArray) (m : Bool) : Prop :=
  r.size ≤ 255 ∧ pts [] s.data.toList = ptl pre ++ x.1.data.toList :: (if m then pts [] r.data.toList else [])
theorem More.start {s p r : ByteArray} {m : Bool} (hs : s.size ≤ 255) (h : CutIs s p r m) : ∃ x : Pt, x.1 = p ∧ More s [] x r m := ⟨⟨p, Nat.le_trans h.1 hs⟩, rfl, Nat.le_trans h.2.1 hs, h.2.2.2⟩
theorem More.room {s : ByteArray} {pre : List Pt} {x : Pt} {r : ByteArray} {m : Bool} (h : More s pre x r m) : pre.length < (pts [] s.data.toList).length := by
  rw [h.2]; simp [ptl_len]
theorem More.next {s : ByteArray} {pre : List Pt} {x : Pt} {r p' r' : ByteArray} {m' : Bool} (h : More s pre x r true) (hc : CutIs r p' r' m') : ∃ y : Pt, y.1 = p' ∧ More s (pre ++ [x]) y r' m' := by
  have h3 := h.2
  rw [if_pos rfl, hc.2.2.2] at h3
  have h4 : pts [] s.data.toList = ptl (pre ++ [x]) ++ p'.data.toList :: (if m' then pts [] r'.data.toList else []) := by
    rw [h3, ptl_snoc, List.append_assoc]
    rfl
  have hz := Nat.le_trans hc.1 h.1
  exact ⟨⟨p', hz⟩, rfl, Nat.le_trans hc.2.1 h.1, h4⟩
theorem More.last {s : ByteArray} {pre : List Pt} {x : Pt} {r : ByteArray} (h : More s pre x r false) : ptl (pre ++ [x]) = pts [] s.data.toList := by
  rw [h.2, ptl_snoc]; rfl
theorem More.part {s : ByteArray} {pre : List Pt} {x : Pt} {r : ByteArray} {m : Bool} (h : More s pre x r m) : ptl (pre ++ [x]) <+: pts [] s.data.toList := by
  rw [h.2, ptl_snoc]
  exact ⟨if m then pts [] r.data.toList else [], by simp⟩

set_option maxRecDepth 100000 in
set_option maxHeartbeats 1000000 in
theorem parts1_in (n : Nat) (hn : 1 ≤ n) (l Bn n₀ B : Nat) (s : ByteArray) (hs : s.size ≤ 255) (J Jx : List Pt → World → Prop) (hJ : AbidesFrom B J)
    (hY : ∀ pre x W, J pre W → pre.length < (pts [] s.data.toList).length → YieldAt Fence.wide (n - 1) Tryz.prog l #[.string x.1] W fun e W' =>
      (e = .returned (.bool true) ∧ J (pre ++ [x]) W' ∧ Below n₀ W W') ∨ (e = .returned (.bool false) ∧ Jx (pre ++ [x]) W'))
    (W : World) (hc : W.cell? ⟨Bn, 0, none⟩ = some (.string s)) (h0 : J [] W) :
    CallsIn Fence.wide n Tryz.prog 140 #[.func (.yield l) #[] #[], .pointer (some ⟨Bn, 0, none⟩)] W fun e W' => (∃ v, e = .returned v) ∧
      ((∃ ys, ptl ys = pts [] s.data.toList ∧ J ys W') ∨ (∃ pre, ptl pre <+: pts [] s.data.toList ∧ Jx pre W')) := by
  have hsm : s.size ≤ maxLen := by unfold maxLen; omega
  have hf : Fence.wide.fn 141 := trivial
  refine callsIn_of_wp Tryz.func140 rfl trivial ?_ rfl
  simp only [Tryz.ntmps140, List.size_toArray, List.length_cons, List.length_nil, Nat.reduceAdd, Nat.reduceSub, Array.replicate_succ, Array.replicate_zero, List.push_toArray, List.append_toArray, List.nil_append, List.cons_append]
  gi_wp2_with (gi_at_call 141; refine (callsIn_wide.2 (o_cut_any _ _ hsm)).mono ?_; rintro e w' ⟨p, r, m, k, rfl, hcut, rfl⟩)
  have h0' := hJ _ _ _ none h0 (grown_drewN W k none) (fun r e => by cases e)
  obtain ⟨x0, hx0, hm0⟩ := More.start hs hcut
  have HM := Lib.hid hm0
  have HX := Lib.hid hx0
  clear hcut hm0 hx0
  gi_loopw [3, 4, 5] (fun p r m wr => ∃ (pre : List Pt) (x : Pt) (pb rb : ByteArray) (mb : Bool), p = .string pb ∧ r = .string rb ∧ m = .bool mb ∧ x.1 = pb ∧ More s pre x rb mb ∧ J pre wr)
    (fun _ r m _ => (match r with | .string b => b.size | _ => 0) + (match m with | .bool true => 1 | _ => 0))
  case atStart => exact ⟨[], x0, p, r, m, rfl, rfl, rfl, HX.out, HM.out, h0'⟩
  case round =>
    obtain ⟨pre, x, pb, rb, mb, rfl, rfl, rfl, hx, hm, hJs⟩ := hrel
    obtain ⟨fn, tmps, assign, body, hy, hR⟩ := hY pre x wr hJs hm.room
    rw [hx] at hy
    have HM2 := Lib.hid hm
    clear hm hx
    cases mb
    · gi_wp2
      refine hR.mono ?_
      rintro e W3 (⟨rfl, hJ3, hk3⟩ | ⟨rfl, hJx3⟩)
      · gi_wp2
        go_end0
        exact ⟨⟨_, rfl⟩, .inl ⟨_, HM2.out.last, hJ3⟩⟩
      · gi_wp2
        go_end0
        exact ⟨⟨_, rfl⟩, .inr ⟨_, HM2.out.part, hJx3⟩⟩
    · have hrm : rb.size ≤ maxLen := by have := HM2.out.1; unfold maxLen; omega
      gi_wp2
      refine hR.mono ?_
      rintro e W3 (⟨rfl, hJ3, hk3⟩ | ⟨rfl, hJx3⟩)
      · gi_wp2_with (gi_at_call 141; refine (callsIn_wide.2 (o_cut_any _ _ hrm)).mono ?_; rintro e w' ⟨p', r', m', k', rfl, hcut, rfl⟩)
        have h3' := hJ _ _ _ none hJ3 (grown_drewN W3 k' none) (fun r e => by cases e)
        obtain ⟨y, hy', hm'⟩ := HM2.out.next hcut
        go_roundw
        case rel => exact ⟨_, y, p', r', m', rfl, rfl, rfl, hy', hm', h3'⟩
        case measure =>
          have q1 := hcut.2.1
          have q2 := hcut.2.2.1
          cases m'
          · show r'.size + 0 < rb.size + 1
            omega
          · show r'.size + 1 < rb.size + 1
            have := q2 rfl
            omega
      · gi_wp2
        go_end0
        exact ⟨⟨_, rfl⟩, .inr ⟨_, HM2.out.part, hJx3⟩⟩
set_option maxHeartbeats 1000000 in
theorem parts_in (n : Nat) (s : ByteArray) (w : World) :
    CallsIn Fence.wide n Tryz.prog 96 #[.string s] w fun e w' => e = .returned (.func (.func 140) #[] #[.pointer (some ⟨w.heap.size, 0, none⟩)]) ∧ w' = w.alloc (.cells #[.string s] 9) := by
  refine callsIn_of_wp Tryz.func96 rfl trivial ?_ rfl
  simp only [Tryz.ntmps96, List.size_toArray, List.length_cons, List.length_nil, Nat.reduceAdd, Nat.reduceSub, Array.replicate_succ, Array.replicate_zero, List.push_toArray, List.append_toArray, List.nil_append, List.cons_append]
  gi_wp2
  go_ret
  exact ⟨rfl, rfl⟩
theorem parts_stops (n : Nat) (hn : 1 ≤ n) (Bn n₀ : Nat) (s : ByteArray) (hs : s.size ≤ 255) (w : World) (hBn : Bn < w.heap.size) (hc : w.cell? ⟨Bn, 0, none⟩ = some (.string s)) :
    SeqStopsK Fence.wide n Tryz.prog 140 #[.pointer (some ⟨Bn, 0, none⟩)] (fun x : Pt => #[Value.string x.1]) (Below n₀) (fun ys => ptl ys = pts [] s.data.toList) (fun pre => ptl pre <+: pts [] s.data.toList) (pts [] s.data.toList).length w :=
  fun l J Jx W hW hJ _ hY h0 => parts1_in n hn l Bn n₀ _ s hs J Jx hJ hY W ((hW.cell (p := ⟨Bn, 0, none⟩) hBn).trans hc) h0
end Go.Proofs.YtjjfdlgoacockaaGreat
