import Derived.Test.YtjjfdlgoacockaaGreatPAt
import Derived.BigQuiet
import Derived.Test.YtjjfdlgoacockaaGreatPWith
import Derived.Test.YtjjfdlgoacockaaGreatWHigh
import Derived.Test.YtjjfdlgoacockaaGreatMath
namespace Go.Proofs.YtjjfdlgoacockaaGreat
open Go.RowKit M1 M2 M3

set_option maxRecDepth 100000 in
theorem sameInts_any (A B : Option Addr) (c d : Nat) (l : List Int) (w : World) (hl : l.length ≤ maxLen) (ha : SR w w.heap.size 1 A l.length (iv l)) (hb : SR w w.heap.size 1 B l.length (iv l)) :
    Calls Tryz.prog 103 #[.slice A l.length c, .slice B l.length d] w fun e w' => e = .returned (.bool true) ∧ Below w.heap.size w w' := by
  unfold maxLen at hl
  go_enter Tryz.func103, Tryz.ntmps103
  go_wp2
  go_loopw [5, 13] (fun _ i wr => ∃ (k : Nat) (K : Int), i = .int .i64 K ∧ K = (k : Nat) ∧ k ≤ l.length ∧ Below w.heap.size w wr) (fun _ i _ => l.length - (intOf i).toNat)
  case atStart => exact ⟨0, _, rfl, rfl, by omega, Below.refl _ _⟩
  case round =>
    obtain ⟨k, K, rfl, rfl, hk, hbw⟩ := hrel
    by_cases hlt : k < l.length
    · obtain ⟨b1, o1, rfl, hb1, x0⟩ := int_at (ha.below hbw) hlt
      obtain ⟨b2, o2, rfl, hb2, y0⟩ := int_at (hb.below hbw) hlt
      have HB := Lib.hid hbw
      clear ha hb hbw
      generalize l[k] = u at *
      go_wp2_with fail
      go_quiet (fail)
      go_wp2_with fail
      go_roundw
      case rel => exact ⟨k + 1, _, rfl, by omega, by omega, below_drewN HB.out _⟩
      case measure => simp [intOf]; omega
    · obtain rfl : k = l.length := by omega
      go_wp2
      go_ret
      exact ⟨rfl, hbw⟩

end Go.Proofs.YtjjfdlgoacockaaGreat
namespace Go.Proofs.YtjjfdlgoacockaaGreat
open Go.RowKit M1 M2 M3

def exData : ByteArray := ⟨#[1, 255, 255, 255, 255, 255, 255, 255, 255, 255, 1]⟩
def exFields : List WFd := [⟨1, 2, 0, exData⟩, ⟨1, 0, 5, ⟨#[]⟩⟩]
theorem ex_ints : ints (ofNum exFields 1) [] = ([1, -1, 5], 0) := by decide +kernel
theorem ex_ok : ∀ f ∈ exFields, FOk f := by
  intro f hf
  simp only [exFields, List.mem_cons, List.not_mem_nil, or_false] at hf
  rcases hf with rfl | rfl
  · exact ⟨by decide, by decide, by decide, by decide, by unfold Fits64; simp, by show (11 : Nat) ≤ _; omega⟩
  · exact ⟨by decide, by decide, by decide, by decide, by unfold Fits64; simp, by show (0 : Nat) ≤ _; omega⟩

set_option maxRecDepth 100000 in
theorem pawake_any (w : World) : Calls Tryz.prog 59 #[] w fun e w' => e = .returned (.bool true) ∧ Below w.heap.size w w' := by
  have hc := ints_any (some ⟨w.heap.size, 0, none⟩) 2 exFields 1 (w.alloc (.cells (fcs exFields).toArray 184)) (by simp [exFields]) ((SR.lit w (fcs exFields) 184 (size := 4) (n := 2) rfl).more (by simp)) ex_ok
  rw [ex_ints] at hc
  have HC := Lib.hid hc
  clear hc
  go_enter Tryz.func59, Tryz.ntmps59
  go_wp2_with fail
  refine HC.out.mono ?_
  rintro e w1 ⟨v1, rfl, hown1, hb1⟩
  obtain ⟨A1, c1, rfl, -, -⟩ := own_form hown1
  have hs1 := SR.of_own hown1
  have HB1 := Lib.hid (below_one hb1)
  clear hown1 hb1 HC
  go_wp2_with fail
  refine (wawake_any _).mono ?_
  rintro e w2 ⟨rfl, hb2⟩
  have HB2 := Lib.hid (HB1.out.trans (hb2.mono HB1.out.size))
  have hs2 := (hs1.below hb2).more hb2.size
  have hs2' : SR (w2.alloc (.cells (iv [1, -1, 5]).toArray 2)) (w2.heap.size + 1) 1 A1 3 (iv [1, -1, 5]) := (hs2.below ((Below.refl _ _).alloc (Nat.le_refl _) _)).more (by omega)
  have HS := Lib.hid (sameInts_any A1 (some ⟨w2.heap.size, 0, none⟩) c1 3 [1, -1, 5] (w2.alloc (.cells (iv [1, -1, 5]).toArray 2)) (by unfold maxLen; simp) (hs2'.more (by simp)) ((SR.lit w2 (iv [1, -1, 5]) 2 (size := 1) (n := 3) rfl).more (by simp)))
  clear hb2 hs1 hs2 hs2'
  go_wp2_with fail
  refine HS.out.mono ?_
  rintro e w3 ⟨rfl, hb3⟩
  have HB3 := Lib.hid (HB2.out.trans ((below_one hb3).mono HB2.out.size))
  clear hb3
  go_wp2_with fail
  go_ret
  exact ⟨rfl, HB3.out⟩
end Go.Proofs.YtjjfdlgoacockaaGreat
