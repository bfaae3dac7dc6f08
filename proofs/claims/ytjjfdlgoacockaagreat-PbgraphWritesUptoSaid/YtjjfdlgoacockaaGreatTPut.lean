import Derived.Test.YtjjfdlgoacockaaGreatGRefTwo
import Derived.Test.YtjjfdlgoacockaaGreatMath
import Derived.Lib.BufferWrite
import Derived.Laws.CopyOwn
namespace Go.Proofs.YtjjfdlgoacockaaGreat
open Go.RowKit M6 M7

def c8 (v k : Nat) : Array Value := #[.int .u8 (if 0 < k then bt v 0 else 0 : Nat), .int .u8 (if 1 < k then bt v 1 else 0 : Nat), .int .u8 (if 2 < k then bt v 2 else 0 : Nat), .int .u8 (if 3 < k then bt v 3 else 0 : Nat),
  .int .u8 (if 4 < k then bt v 4 else 0 : Nat), .int .u8 (if 5 < k then bt v 5 else 0 : Nat), .int .u8 (if 6 < k then bt v 6 else 0 : Nat), .int .u8 (if 7 < k then bt v 7 else 0 : Nat)]
theorem c8_next {v k : Nat} (hk : k < 8) : (c8 v k).setIfInBounds k (.int .u8 ((v : Int) / 2 ^ (8 * k) % 256)) = c8 v (k + 1) := by
  rw [bt_shift]
  rcases (by omega : k = 0 ∨ k = 1 ∨ k = 2 ∨ k = 3 ∨ k = 4 ∨ k = 5 ∨ k = 6 ∨ k = 7) with rfl | rfl | rfl | rfl | rfl | rfl | rfl | rfl <;> rfl
theorem cells_of8 {w : World} {g : Nat} {t : TypeId} {a0 a1 a2 a3 a4 a5 a6 a7 : Value} (h : w.heap[g]? = some (.cells #[a0, a1, a2, a3, a4, a5, a6, a7] t (0, 0))) :
    w.cell? ⟨g, 0, none⟩ = some a0 ∧ w.cell? ⟨g, 1, none⟩ = some a1 ∧ w.cell? ⟨g, 2, none⟩ = some a2 ∧ w.cell? ⟨g, 3, none⟩ = some a3 ∧ w.cell? ⟨g, 4, none⟩ = some a4 ∧ w.cell? ⟨g, 5, none⟩ = some a5 ∧ w.cell? ⟨g, 6, none⟩ = some a6 ∧ w.cell? ⟨g, 7, none⟩ = some a7 :=
  ⟨cell_of_row w g 0 _ t _ h, cell_of_row w g 1 _ t _ h, cell_of_row w g 2 _ t _ h, cell_of_row w g 3 _ t _ h, cell_of_row w g 4 _ t _ h, cell_of_row w g 5 _ t _ h, cell_of_row w g 6 _ t _ h, cell_of_row w g 7 _ t _ h⟩
theorem set8 {w : World} {g : Nat} {t : TypeId} {a0 a1 a2 a3 a4 a5 a6 a7 : Value} (h : w.heap[g]? = some (.cells #[a0, a1, a2, a3, a4, a5, a6, a7] t (0, 0))) (v0 v1 v2 v3 v4 v5 v6 v7 : Value) :
    ((((((((w.setCell ⟨g, 0, none⟩ v0).setCell ⟨g, 1, none⟩ v1).setCell ⟨g, 2, none⟩ v2).setCell ⟨g, 3, none⟩ v3).setCell ⟨g, 4, none⟩ v4).setCell ⟨g, 5, none⟩ v5).setCell ⟨g, 6, none⟩ v6).setCell ⟨g, 7, none⟩ v7).heap[g]? = some (.cells #[v0, v1, v2, v3, v4, v5, v6, v7] t (0, 0)) := by
  have h0 : (w.setCell ⟨g, 0, none⟩ v0).heap[g]? = some (.cells #[v0, a1, a2, a3, a4, a5, a6, a7] t (0, 0)) := heap_setCell_same _ g 0 _ t v0 h
  have h1 : ((w.setCell ⟨g, 0, none⟩ v0).setCell ⟨g, 1, none⟩ v1).heap[g]? = some (.cells #[v0, v1, a2, a3, a4, a5, a6, a7] t (0, 0)) := heap_setCell_same _ g 1 _ t v1 h0
  have h2 : (((w.setCell ⟨g, 0, none⟩ v0).setCell ⟨g, 1, none⟩ v1).setCell ⟨g, 2, none⟩ v2).heap[g]? = some (.cells #[v0, v1, v2, a3, a4, a5, a6, a7] t (0, 0)) := heap_setCell_same _ g 2 _ t v2 h1
  have h3 : ((((w.setCell ⟨g, 0, none⟩ v0).setCell ⟨g, 1, none⟩ v1).setCell ⟨g, 2, none⟩ v2).setCell ⟨g, 3, none⟩ v3).heap[g]? = some (.cells #[v0, v1, v2, v3, a4, a5, a6, a7] t (0, 0)) := heap_setCell_same _ g 3 _ t v3 h2
  have h4 : (((((w.setCell ⟨g, 0, none⟩ v0).setCell ⟨g, 1, none⟩ v1).setCell ⟨g, 2, none⟩ v2).setCell ⟨g, 3, none⟩ v3).setCell ⟨g, 4, none⟩ v4).heap[g]? = some (.cells #[v0, v1, v2, v3, v4, a5, a6, a7] t (0, 0)) := heap_setCell_same _ g 4 _ t v4 h3
  have h5 : ((((((w.setCell ⟨g, 0, none⟩ v0).setCell ⟨g, 1, none⟩ v1).setCell ⟨g, 2, none⟩ v2).setCell ⟨g, 3, none⟩ v3).setCell ⟨g, 4, none⟩ v4).setCell ⟨g, 5, none⟩ v5).heap[g]? = some (.cells #[v0, v1, v2, v3, v4, v5, a6, a7] t (0, 0)) := heap_setCell_same _ g 5 _ t v5 h4
  have h6 : (((((((w.setCell ⟨g, 0, none⟩ v0).setCell ⟨g, 1, none⟩ v1).setCell ⟨g, 2, none⟩ v2).setCell ⟨g, 3, none⟩ v3).setCell ⟨g, 4, none⟩ v4).setCell ⟨g, 5, none⟩ v5).setCell ⟨g, 6, none⟩ v6).heap[g]? = some (.cells #[v0, v1, v2, v3, v4, v5, v6, a7] t (0, 0)) := heap_setCell_same _ g 6 _ t v6 h5
  have h7 : ((((((((w.setCell ⟨g, 0, none⟩ v0).setCell ⟨g, 1, none⟩ v1).setCell ⟨g, 2, none⟩ v2).setCell ⟨g, 3, none⟩ v3).setCell ⟨g, 4, none⟩ v4).setCell ⟨g, 5, none⟩ v5).setCell ⟨g, 6, none⟩ v6).setCell ⟨g, 7, none⟩ v7).heap[g]? = some (.cells #[v0, v1, v2, v3, v4, v5, v6, v7] t (0, 0)) := heap_setCell_same _ g 7 _ t v7 h6
  exact h7
theorem below8 {B g : Nat} {w0 w : World} (h : Below B w0 w) (hg : B ≤ g) (v0 v1 v2 v3 v4 v5 v6 v7 : Value) :
    Below B w0 ((((((((w.setCell ⟨g, 0, none⟩ v0).setCell ⟨g, 1, none⟩ v1).setCell ⟨g, 2, none⟩ v2).setCell ⟨g, 3, none⟩ v3).setCell ⟨g, 4, none⟩ v4).setCell ⟨g, 5, none⟩ v5).setCell ⟨g, 6, none⟩ v6).setCell ⟨g, 7, none⟩ v7) :=
  (((((((h.setCell (p := ⟨g, 0, none⟩) hg v0).setCell (p := ⟨g, 1, none⟩) hg v1).setCell (p := ⟨g, 2, none⟩) hg v2).setCell (p := ⟨g, 3, none⟩) hg v3).setCell (p := ⟨g, 4, none⟩) hg v4).setCell (p := ⟨g, 5, none⟩) hg v5).setCell (p := ⟨g, 6, none⟩) hg v6).setCell (p := ⟨g, 7, none⟩) hg v7
def a8 (b0 b1 b2 b3 b4 b5 b6 b7 : Nat) : Value := .agg #[.int .u8 b0, .int .u8 b1, .int .u8 b2, .int .u8 b3, .int .u8 b4, .int .u8 b5, .int .u8 b6, .int .u8 b7]

set_option maxRecDepth 100000 in
theorem putInt_any (n : Int) (w : World) :
    Calls Tryz.prog 100 #[.int .i64 n] w fun e w' => e = .returned (a8 (bt (us n) 0) (bt (us n) 1) (bt (us n) 2) (bt (us n) 3) (bt (us n) 4) (bt (us n) 5) (bt (us n) 6) (bt (us n) 7)) ∧ Below w.heap.size w w' := by
  have hus := us_eq n
  have hlt := us_lt n
  generalize us n = v at *
  go_enter Tryz.func100, Tryz.ntmps100
  go_wp2_with fail
  have hblk := heap_alloc_new w (Obj.cells #[Value.int IntKind.u8 0, Value.int IntKind.u8 0, Value.int IntKind.u8 0, Value.int IntKind.u8 0, Value.int IntKind.u8 0, Value.int IntKind.u8 0, Value.int IntKind.u8 0, Value.int IntKind.u8 0] 243)
  have HBK := Lib.hid hblk
  clear hblk
  go_loopw [3, 4] (fun _ i wr => ∃ (k : Nat) (K : Int), i = .int .i64 K ∧ K = k ∧ k ≤ 8 ∧ wr.heap[w.heap.size]? = some (.cells (c8 v k) 243 (0, 0)) ∧ Below w.heap.size w wr) (fun _ i _ => 8 - (intOf i).toNat)
  case atStart => exact ⟨0, _, rfl, rfl, by omega, HBK.out, (Below.refl _ _).alloc (Nat.le_refl _) _⟩
  case round =>
    obtain ⟨k, K, rfl, rfl, hk, hb, hbl⟩ := hrel
    have HBL := Lib.hid hbl
    have hsz := hbl.size
    clear hbl
    by_cases hlt8 : k < 8
    · have hsz4 : (c8 v k).size = 8 := rfl
      have hkc : ∃ u, (c8 v k)[k]? = some u := ⟨_, Array.getElem?_eq_getElem (by omega)⟩
      obtain ⟨u, hu⟩ := hkc
      have hc1 := cell_of_row wr w.heap.size k _ _ _ hb
      rw [hu] at hc1
      have HH := Lib.hid hb
      have hfz : wr.frozen? ⟨w.heap.size, k, none⟩ = false := by
        unfold World.frozen?; dsimp only; rw [hb]; simp
      clear hb
      go_wp2_with fail
      go_round
      case rel => exact ⟨k + 1, _, rfl, by omega, by omega, by rw [← c8_next hlt8]; exact heap_setCell_same _ _ _ _ _ _ HH.out, HBL.out.setCell (Nat.le_refl _) _⟩
      case measure => simp [intOf]; omega
    · obtain rfl : k = 8 := by omega
      have hb8 : wr.heap[w.heap.size]? = some (.cells #[(Value.int .u8 (bt v 0 : Nat)), (Value.int .u8 (bt v 1 : Nat)), (Value.int .u8 (bt v 2 : Nat)), (Value.int .u8 (bt v 3 : Nat)), (Value.int .u8 (bt v 4 : Nat)), (Value.int .u8 (bt v 5 : Nat)), (Value.int .u8 (bt v 6 : Nat)), (Value.int .u8 (bt v 7 : Nat))] 243 (0, 0)) := hb
      obtain ⟨q0, q1, q2, q3, q4, q5, q6, q7⟩ := cells_of8 hb8
      have hf0 := fun i => frozen_of_row wr w.heap.size i _ _ hb
      have HK := Lib.hid (And.intro (cells_of8 (set8 hb8 (Value.int .u8 (bt v 0 : Nat)) (Value.int .u8 (bt v 1 : Nat)) (Value.int .u8 (bt v 2 : Nat)) (Value.int .u8 (bt v 3 : Nat)) (Value.int .u8 (bt v 4 : Nat)) (Value.int .u8 (bt v 5 : Nat)) (Value.int .u8 (bt v 6 : Nat)) (Value.int .u8 (bt v 7 : Nat)))) (below8 HBL.out (Nat.le_refl _) (Value.int .u8 (bt v 0 : Nat)) (Value.int .u8 (bt v 1 : Nat)) (Value.int .u8 (bt v 2 : Nat)) (Value.int .u8 (bt v 3 : Nat)) (Value.int .u8 (bt v 4 : Nat)) (Value.int .u8 (bt v 5 : Nat)) (Value.int .u8 (bt v 6 : Nat)) (Value.int .u8 (bt v 7 : Nat))))
      clear hb hb8
      go_wp2_with fail
      obtain ⟨⟨c0, c1, c2, c3, c4, c5, c6, c7⟩, hbb⟩ := HK.out
      clear HK hf0 q0 q1 q2 q3 q4 q5 q6 q7
      generalize ((((((((wr.setCell ⟨w.heap.size, 0, none⟩ (Value.int .u8 (bt v 0 : Nat))).setCell ⟨w.heap.size, 1, none⟩ (Value.int .u8 (bt v 1 : Nat))).setCell ⟨w.heap.size, 2, none⟩ (Value.int .u8 (bt v 2 : Nat))).setCell ⟨w.heap.size, 3, none⟩ (Value.int .u8 (bt v 3 : Nat))).setCell ⟨w.heap.size, 4, none⟩ (Value.int .u8 (bt v 4 : Nat))).setCell ⟨w.heap.size, 5, none⟩ (Value.int .u8 (bt v 5 : Nat))).setCell ⟨w.heap.size, 6, none⟩ (Value.int .u8 (bt v 6 : Nat))).setCell ⟨w.heap.size, 7, none⟩ (Value.int .u8 (bt v 7 : Nat))) = w2 at *
      exact bodyPost_ret (v := a8 (bt v 0) (bt v 1) (bt v 2) (bt v 3) (bt v 4) (bt v 5) (bt v 6) (bt v 7)) (by simp [results, Tryz.results100, go_sem, c0, c1, c2, c3, c4, c5, c6, c7, a8]) rfl ⟨rfl, hbb⟩

def av (l : List UInt8) : Value := .agg (bv l).toArray
def l8 (v : Nat) : List UInt8 := [UInt8.ofNat (bt v 0), UInt8.ofNat (bt v 1), UInt8.ofNat (bt v 2), UInt8.ofNat (bt v 3), UInt8.ofNat (bt v 4), UInt8.ofNat (bt v 5), UInt8.ofNat (bt v 6), UInt8.ofNat (bt v 7)]
theorem a8_av (v : Nat) : a8 (bt v 0) (bt v 1) (bt v 2) (bt v 3) (bt v 4) (bt v 5) (bt v 6) (bt v 7) = av (l8 v) := by
  have hb : ∀ k, ((UInt8.ofNat (bt v k)).toNat) = bt v k := fun k => by
    have := bt_lt v k
    simp; omega
  simp [a8, av, bv, l8, hb]
theorem putInt_av (n : Int) (w : World) : Calls Tryz.prog 100 #[.int .i64 n] w fun e w' => e = .returned (av (l8 (us n))) ∧ Below w.heap.size w w' := by
  rw [← a8_av]
  exact putInt_any n w

theorem eight_of {l : List UInt8} (h : l.length = 8) : ∃ b0 b1 b2 b3 b4 b5 b6 b7, l = [b0, b1, b2, b3, b4, b5, b6, b7] := by
  match l, h with
  | [b0, b1, b2, b3, b4, b5, b6, b7], _ => exact ⟨b0, b1, b2, b3, b4, b5, b6, b7, rfl⟩

end Go.Proofs.YtjjfdlgoacockaaGreat
namespace Go.Proofs.YtjjfdlgoacockaaGreat
open Go.RowKit M6 M7

end Go.Proofs.YtjjfdlgoacockaaGreat
