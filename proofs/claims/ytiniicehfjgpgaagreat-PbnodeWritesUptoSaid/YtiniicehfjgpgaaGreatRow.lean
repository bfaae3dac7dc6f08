/- A slice that reads as a list of cells, whatever its elements' size; nil and empty ones too. No program is imported. -/
import Derived.WalkKit
import Derived.Deep.MidRow
import Derived.Deep.Draws
import Derived.Maps.AppendAt
import Derived.Lib.Hide
import Derived.OwnWalk
import Derived.Test.YtiniicehfjgpgaaGreatKMath
namespace Go.Proofs.YtiniicehfjgpgaaGreat
open Go.RowKit

/-- The slice at A of n elements, of size cells each, holds the cells xs, in a block below B. -/
def SR (w : World) (B size : Nat) (A : Option Addr) (n : Nat) (xs : List Value) : Prop :=
  xs.length = n * size ∧ (0 < n → ∃ b o, A = some ⟨b, o, none⟩ ∧ b < B ∧ w.rangeAt b o xs)

section
variable {w w' : World} {B B' size n : Nat} {A : Option Addr} {xs : List Value}
theorem SR.empty (w : World) (B size : Nat) (A : Option Addr) : SR w B size A 0 [] := ⟨by simp, fun h => absurd h (by omega)⟩
theorem SR.keep (h : SR w B size A n xs) (hk : ∀ k, k < B → w'.heap[k]? = w.heap[k]?) : SR w' B size A n xs :=
  ⟨h.1, fun hn => by
    obtain ⟨b, o, e, hb, hc⟩ := h.2 hn
    exact ⟨b, o, e, hb, fun j u hu => (World.cell?_of_block (a := ⟨b, o + j, none⟩) (hk b hb)).trans (hc j u hu)⟩⟩
theorem SR.more (h : SR w B size A n xs) (hB : B ≤ B') : SR w B' size A n xs :=
  ⟨h.1, fun hn => by
    obtain ⟨b, o, e, hb, hc⟩ := h.2 hn
    exact ⟨b, o, e, by omega, hc⟩⟩
theorem SR.below (h : SR w B size A n xs) (hb : Below B w w') : SR w' B size A n xs := h.keep hb.block
theorem SR.of_own {base : Nat} {e : TypeId} {c : Nat} (h : w.ownsRow base e size (.slice A n c) n xs) : SR w w.heap.size size A n xs := by
  refine ⟨h.1, fun hn => ?_⟩
  rcases h.2 with ⟨hv, h0⟩ | ⟨g, cap, cur, hv, hB, hg, hnc, hcap, hsz, hcur⟩
  · omega
  · have hA : A = some ⟨g, 0, none⟩ := by injection hv
    refine ⟨g, 0, hA, (Array.getElem?_eq_some_iff.1 hg).1, fun j u hj => ?_⟩
    rw [cell_of_row w g (0 + j) cur e (0, 0) hg, Nat.zero_add]
    rw [← hcur, List.getElem?_take] at hj
    split at hj
    · simpa using hj
    · cases hj
/-- element k of the slice, its cells from a place on -/
theorem SR.at_ (h : SR w B size A n xs) {k : Nat} (hk : k < n) : ∃ b o, A = some ⟨b, o, none⟩ ∧ b < B ∧ ∀ j, j < size → ∀ u, xs[k * size + j]? = some u → w.cell? ⟨b, o + k * size + j, none⟩ = some u := by
  obtain ⟨b, o, rfl, hb, hr⟩ := h.2 (by omega)
  exact ⟨b, o, rfl, hb, fun j _ u hu => by rw [Nat.add_assoc]; exact hr _ _ hu⟩
end

/-- an owned row: the form of its value -/
theorem own_form {w : World} {base : Nat} {e : TypeId} {size n : Nat} {v : Value} {xs : List Value} (h : w.ownsRow base e size v n xs) :
    ∃ A c, v = .slice A n c ∧ n ≤ c ∧ c ≤ maxLen := by
  rcases h.2 with ⟨rfl, rfl⟩ | ⟨g, cap, cur, rfl, _, _, hnc, hcap, _⟩
  · exact ⟨none, 0, rfl, Nat.le_refl _, by unfold maxLen; omega⟩
  · exact ⟨_, cap, rfl, hnc, hcap⟩
theorem own_len {w : World} {base : Nat} {e : TypeId} {size n : Nat} {v : Value} {xs : List Value} (h : w.ownsRow base e size v n xs) : n ≤ maxLen := by
  obtain ⟨A, c, _, h1, h2⟩ := own_form h
  omega
theorem own_base {w : World} {base base' : Nat} {e : TypeId} {size n : Nat} {v : Value} {xs : List Value} (h : w.ownsRow base e size v n xs) (hb : base' ≤ base) : w.ownsRow base' e size v n xs := by
  refine ⟨h.1, ?_⟩
  rcases h.2 with hn | ⟨g, cap, cur, hv, hB, r⟩
  · exact .inl hn
  · exact .inr ⟨g, cap, cur, hv, by omega, r⟩
theorem own_keep {w w' : World} {base : Nat} {e : TypeId} {size n : Nat} {v : Value} {xs : List Value} (h : w.ownsRow base e size v n xs) (hb : Below w.heap.size w w') : w'.ownsRow base e size v n xs := by
  refine ⟨h.1, ?_⟩
  rcases h.2 with hn | ⟨g, cap, cur, hv, hB, hg, r⟩
  · exact .inl hn
  · exact .inr ⟨g, cap, cur, hv, hB, (hb.block g (Array.getElem?_eq_some_iff.1 hg).1).trans hg, r⟩
/-- a new block's cells, as an append asks for them -/
theorem cells_new (w : World) (cs : List Value) (t : TypeId) : ∀ j u, cs[j]? = some u → (w.alloc (.cells cs.toArray t)).cell? ((⟨w.heap.size, 0, none⟩ : Addr).add j) = some u := by
  intro j u hj
  rw [Addr.add_mid, cell_of_row _ _ _ cs.toArray t (0, 0) (heap_alloc_new w _)]
  simpa using hj
theorem cells_new2 (w : World) (o : Obj) (cs : List Value) (t : TypeId) : ∀ j u, cs[j]? = some u → ((w.alloc o).alloc (.cells cs.toArray t)).cell? ((⟨w.heap.size + 1, 0, none⟩ : Addr).add j) = some u := by
  have h := cells_new (w.alloc o) cs t
  rwa [show (w.alloc o).heap.size = w.heap.size + 1 from by simp] at h
/-- behind a call that makes memory: what was there reads as before -/
theorem kept_cells {W w1 : World} (hb : Below W.heap.size W w1) : (∀ b o, b < W.heap.size → w1.cell? ⟨b, o, none⟩ = W.cell? ⟨b, o, none⟩) ∧ (∀ b o, b < W.heap.size → w1.frozen? ⟨b, o, none⟩ = W.frozen? ⟨b, o, none⟩) :=
  ⟨fun b o h => hb.cell (p := ⟨b, o, none⟩) h, fun b o h => hb.frozen (p := ⟨b, o, none⟩) h⟩
theorem set4 {w : World} {g : Nat} {t : TypeId} {a0 a1 a2 a3 : Value} (h : w.heap[g]? = some (.cells #[a0, a1, a2, a3] t (0, 0))) (v0 v1 v2 v3 : Value) :
    ((((w.setCell ⟨g, 0, none⟩ v0).setCell ⟨g, 1, none⟩ v1).setCell ⟨g, 2, none⟩ v2).setCell ⟨g, 3, none⟩ v3).heap[g]? = some (.cells #[v0, v1, v2, v3] t (0, 0)) :=
  heap_setCell_same _ g 3 _ t v3 (heap_setCell_same _ g 2 _ t v2 (heap_setCell_same _ g 1 _ t v1 (heap_setCell_same _ g 0 _ t v0 h)))
theorem cells_of4 {w : World} {g : Nat} {t : TypeId} {a0 a1 a2 a3 : Value} (h : w.heap[g]? = some (.cells #[a0, a1, a2, a3] t (0, 0))) :
    w.cell? ⟨g, 0, none⟩ = some a0 ∧ w.cell? ⟨g, 1, none⟩ = some a1 ∧ w.cell? ⟨g, 2, none⟩ = some a2 ∧ w.cell? ⟨g, 3, none⟩ = some a3 :=
  ⟨cell_of_row w g 0 _ t _ h, cell_of_row w g 1 _ t _ h, cell_of_row w g 2 _ t _ h, cell_of_row w g 3 _ t _ h⟩
theorem below_one {w w1 : World} {a : Obj} (hb : Below (w.alloc a).heap.size (w.alloc a) w1) : Below w.heap.size w w1 :=
  ((Below.refl _ _).alloc (Nat.le_refl _) _).trans (hb.mono (by simp))
theorem below_two {w w1 : World} {a b : Obj} (hb : Below ((w.alloc a).alloc b).heap.size ((w.alloc a).alloc b) w1) : Below w.heap.size w w1 :=
  below_one (below_one hb |>.mono (Nat.le_refl _))
theorem heap_far {w : World} {g : Nat} {o : Obj} (h : w.heap[g]? = some o) {b i : Nat} (v : Value) (hb : g ≠ b) : (w.setCell ⟨b, i, none⟩ v).heap[g]? = some o :=
  (heap_setCell_other w ⟨b, i, none⟩ g v hb).trans h
theorem below_drewN {B : Nat} {w w' : World} (h : Below B w w') (n : Nat) : Below B w (w'.drewN n) := ⟨h.os, h.tape, h.output, h.size, h.block⟩
end Go.Proofs.YtiniicehfjgpgaaGreat
/- A block that stays as it is while others are made or grow. No program is imported. -/
namespace Go.Proofs.YtiniicehfjgpgaaGreat
open Go.RowKit
theorem blk_lt {w : World} {b : Nat} {x : Obj} (h : w.heap[b]? = some x) : b < w.heap.size := (Array.getElem?_eq_some_iff.1 h).1
theorem blk_alloc {w : World} {b : Nat} {x : Obj} (h : w.heap[b]? = some x) (o : Obj) : (w.alloc o).heap[b]? = some x := by
  show (w.heap.push o)[b]? = some x
  rw [Array.getElem?_push_lt (blk_lt h)]
  exact (Array.getElem?_eq_getElem (blk_lt h)).symm.trans h
theorem blk_below {B : Nat} {w w' : World} {b : Nat} {x : Obj} (h : w.heap[b]? = some x) (hb : Below B w w') (hB : b < B) : w'.heap[b]? = some x := (hb.block b hB).trans h
theorem own_far {w : World} {B size n b : Nat} {e T : TypeId} {v : Value} {xs : List Value} {cs : Array Value} {fz : Nat × Nat} (h : w.ownsRow B e size v n xs) (hb : w.heap[b]? = some (.cells cs T fz)) (hT : T ≠ e) : v.ownBlock ≠ some b := by
  rcases h.2 with ⟨rfl, -⟩ | ⟨g, cap, cur, rfl, -, hg, -⟩
  · simp [Value.ownBlock]
  · intro he
    simp only [Value.ownBlock, Option.some.injEq] at he
    subst he
    rw [hg] at hb
    simp only [Option.some.injEq, Obj.cells.injEq] at hb
    exact hT hb.2.1.symm
theorem blk_grown {w w' : World} {row : Option Nat} {b : Nat} {x : Obj} (h : w.heap[b]? = some x) (hg : w.grownBy w' row) (hne : row ≠ some b) : w'.heap[b]? = some x :=
  (hg.block b (blk_lt h) (fun e => hne e.symm)).trans h
/-- a slice literal, just made -/
theorem SR.lit (w : World) (xs : List Value) (T : TypeId) {size n : Nat} (h : xs.length = n * size) : SR (w.alloc (.cells xs.toArray T)) (w.heap.size + 1) size (some ⟨w.heap.size, 0, none⟩) n xs :=
  ⟨h, fun _ => ⟨_, 0, rfl, Nat.lt_succ_self _, fun j u hj => by
    have h1 := cells_new w xs T j u hj
    rw [Addr.add_mid] at h1
    exact h1⟩⟩
theorem step_below {w a b : World} (h : Below w.heap.size w a) (h2 : Below a.heap.size a b) : Below w.heap.size w b := h.trans (h2.mono h.size)
/-- a block of the call's own that stays as it is, and what has come since the call began -/
def Bx (w : World) (g : Nat) (cs : Array Value) (T : TypeId) (W : World) : Prop := W.heap[g]? = some (.cells cs T (0, 0)) ∧ g < W.heap.size ∧ Below w.heap.size w W
theorem Bx.start (w : World) (cs : Array Value) (T : TypeId) : Bx w w.heap.size cs T (w.alloc (.cells cs T)) := ⟨heap_alloc_new w _, by simp, (Below.refl _ _).alloc (Nat.le_refl _) _⟩
theorem Bx.below {w W W' : World} {g : Nat} {cs : Array Value} {T : TypeId} (h : Bx w g cs T W) (hb : Below W.heap.size W W') : Bx w g cs T W' := ⟨(hb.block g h.2.1).trans h.1, Nat.lt_of_lt_of_le h.2.1 hb.size, step_below h.2.2 hb⟩
theorem Bx.more {w W : World} {g : Nat} {cs : Array Value} {T : TypeId} (h : Bx w g cs T W) (o : Obj) : Bx w g cs T (W.alloc o) := h.below ((Below.refl _ _).alloc (Nat.le_refl _) _)
theorem Bx.next {w W : World} {g : Nat} {cs : Array Value} {T : TypeId} (h : Bx w g cs T W) (cs2 : Array Value) (T2 : TypeId) : Bx w W.heap.size cs2 T2 (W.alloc (.cells cs2 T2)) := ⟨heap_alloc_new W _, by simp, step_below h.2.2 ((Below.refl _ _).alloc (Nat.le_refl _) _)⟩
theorem Bx.all {w W : World} {g : Nat} {cs : Array Value} {T : TypeId} (h : Bx w g cs T W) : Below w.heap.size w W := h.2.2
theorem Bx.four {w W : World} {g : Nat} {a0 a1 a2 a3 : Value} {T : TypeId} (h : Bx w g #[a0, a1, a2, a3] T W) : (W.cell? ⟨g, 0, none⟩ = some a0 ∧ W.cell? ⟨g, 1, none⟩ = some a1 ∧ W.cell? ⟨g, 2, none⟩ = some a2 ∧ W.cell? ⟨g, 3, none⟩ = some a3) := cells_of4 h.1
theorem Bx.two (w : World) (o : Obj) (cs : Array Value) (T : TypeId) : Bx w (w.heap.size + 1) cs T ((w.alloc o).alloc (.cells cs T)) := by
  have h := heap_alloc_new (w.alloc o) (.cells cs T)
  have hz : (w.alloc o).heap.size = w.heap.size + 1 := by simp
  rw [hz] at h
  exact ⟨h, by simp, ((Below.refl _ _).alloc (Nat.le_refl _) _).alloc (by simp) _⟩
theorem Bx.grown {w W W' : World} {g : Nat} {cs : Array Value} {T : TypeId} {row : Option Nat} (h : Bx w g cs T W) (hg : W.grownBy W' row) (hne : row ≠ some g) (hB : ∀ q, row = some q → w.heap.size ≤ q) : Bx w g cs T W' :=
  ⟨blk_grown h.1 hg hne, Nat.lt_of_lt_of_le h.2.1 hg.size, h.2.2.grown hg h.2.2.size hB⟩
theorem Bx.low {w W W' : World} {g B : Nat} {cs : Array Value} {T : TypeId} (h : Bx w g cs T W) (hb : Below B W W') (hg : g < B) (hw : w.heap.size ≤ B) : Bx w g cs T W' :=
  ⟨(hb.block g hg).trans h.1, Nat.lt_of_lt_of_le h.2.1 hb.size, h.2.2.trans (hb.mono hw)⟩
end Go.Proofs.YtiniicehfjgpgaaGreat
/- A block of the call's own, cell by cell: stores into it, its cells, rows that live beside it. No program is imported. -/
namespace Go.Proofs.YtiniicehfjgpgaaGreat
open Go.RowKit

theorem Bx.set {w W : World} {g : Nat} {cs : Array Value} {T : TypeId} (h : Bx w g cs T W) (hg : w.heap.size ≤ g) (i : Nat) (v : Value) : Bx w g (cs.setIfInBounds i v) T (W.setCell ⟨g, i, none⟩ v) := by
  have h1 := heap_setCell_same W g i cs T v h.1
  exact ⟨h1, blk_lt h1, h.2.2.setCell (p := ⟨g, i, none⟩) hg v⟩
theorem Bx.cell {w W : World} {g : Nat} {cs : Array Value} {T : TypeId} (h : Bx w g cs T W) (i : Nat) : W.cell? ⟨g, i, none⟩ = cs[i]? := cell_of_row W g i cs T _ h.1
theorem Bx.free {w W : World} {g : Nat} {cs : Array Value} {T : TypeId} (h : Bx w g cs T W) (i : Nat) : W.frozen? ⟨g, i, none⟩ = false := frozen_of_row W g i cs T h.1
theorem Bx.four_put {w W : World} {g : Nat} {a0 a1 a2 a3 : Value} {T : TypeId} (h : Bx w g #[a0, a1, a2, a3] T W) (hg : w.heap.size ≤ g) (v0 v1 v2 v3 : Value) :
    Bx w g #[v0, v1, v2, v3] T ((((W.setCell ⟨g, 0, none⟩ v0).setCell ⟨g, 1, none⟩ v1).setCell ⟨g, 2, none⟩ v2).setCell ⟨g, 3, none⟩ v3) :=
  (((h.set hg 0 v0).set hg 1 v1).set hg 2 v2).set hg 3 v3
/-- a row of the call's own lives on beside a store into a block of another element type -/
theorem own_set {w : World} {B size n b : Nat} {e : TypeId} {v : Value} {xs : List Value} (h : w.ownsRow B e size v n xs) (hb : v.ownBlock ≠ some b) (i : Nat) (u : Value) :
    (w.setCell ⟨b, i, none⟩ u).ownsRow B e size v n xs :=
  h.kept (row := some b) ⟨rfl, rfl, rfl, by simp [World.setCell], fun k _ hk => Below.heap_setCell _ _ _ _ (fun e => hk (by simp [e]))⟩ (Or.inr hb)
theorem own_nothing (w : World) (B size : Nat) (e : TypeId) : w.ownsRow B e size (.slice none 0 0) 0 [] := ⟨by simp, .inl ⟨rfl, rfl⟩⟩
/-- a block older than a call -/
theorem Bx.far_set {w W : World} {g : Nat} {cs : Array Value} {T : TypeId} (h : Bx w g cs T W) {b i : Nat} (v : Value) (hne : g ≠ b) (hb : w.heap.size ≤ b) : Bx w g cs T (W.setCell ⟨b, i, none⟩ v) :=
  ⟨heap_far h.1 v hne, by simpa using h.2.1, h.2.2.setCell (p := ⟨b, i, none⟩) hb v⟩
end Go.Proofs.YtiniicehfjgpgaaGreat
/- A row of one-cell values made at once and filled from the front. No program is imported. -/
namespace Go.Proofs.YtiniicehfjgpgaaGreat
open Go.RowKit

theorem made_cells (z : Value) (n : Nat) : (madeCells #[z] n).toList = List.replicate n z := by
  have h : madeCells #[z] n = (Array.range n).map (fun _ => z) := by
    unfold madeCells
    congr 1
    funext i
    show (#[z] : Array Value)[i % 1]! = _
    rw [Nat.mod_one]; rfl
  rw [h]
  apply List.ext_getElem
  · simp
  · intro i h1 h2; simp
theorem patchV_set {α : Type} {t s : List α} {k : Nat} (hs : s.length = t.length) (hk : k < t.length) : (t.take k ++ s.drop k).set k t[k] = t.take (k + 1) ++ s.drop (k + 1) := by
  rw [List.set_append_right _ _ (by simp; omega), List.take_succ_eq_append_getElem hk, List.drop_eq_getElem_cons (by omega : k < s.length)]
  have h2 : k - (t.take k).length = 0 := by simp; omega
  rw [h2, List.set_cons_zero, List.append_assoc, List.singleton_append]
theorem patchV_len {α : Type} {t s : List α} {k : Nat} (hs : s.length = t.length) (hk : k ≤ t.length) : (t.take k ++ s.drop k).length = t.length := by simp; omega
theorem Bx.far {w W : World} {g : Nat} {cs : Array Value} {T : TypeId} (h : Bx w g cs T W) {b i : Nat} (v : Value) (hne : g ≠ b) (hb : w.heap.size ≤ b) : Bx w g cs T (W.setCell ⟨b, i, none⟩ v) :=
  ⟨heap_far h.1 v hne, by simpa using h.2.1, h.2.2.setCell (p := ⟨b, i, none⟩) hb v⟩
/-- a row of the call's own that is filled from the front: k places are filled -/
def Fill (W : World) (B g : Nat) (T : TypeId) (vs zs : List Value) (k : Nat) : Prop := W.ownsRow B T 1 (.slice (some ⟨g, 0, none⟩) vs.length vs.length) vs.length (vs.take k ++ zs.drop k)
theorem Fill.start {W : World} {B g : Nat} {T : TypeId} {vs zs : List Value} (h : W.ownsRow B T 1 (.slice (some ⟨g, 0, none⟩) vs.length vs.length) vs.length zs) : Fill W B g T vs zs 0 := by
  unfold Fill; simpa using h
theorem Fill.keep {W W' : World} {B g k : Nat} {T : TypeId} {vs zs : List Value} (h : Fill W B g T vs zs k) (hb : Below W.heap.size W W') : Fill W' B g T vs zs k := own_keep h hb
theorem Fill.cell {W : World} {B g k : Nat} {T : TypeId} {vs zs : List Value} (h : Fill W B g T vs zs k) (hz : zs.length = vs.length) (hk : k < vs.length) : ∃ u, W.cell? ⟨g, k, none⟩ = some u := by
  have h1 := h.cellAt k (by omega)
  have hl := patchV_len (t := vs) (s := zs) (k := k) hz (by omega)
  rw [List.getElem?_eq_getElem (show k < (vs.take k ++ zs.drop k).length by omega)] at h1
  exact ⟨_, h1⟩
theorem Fill.put {W : World} {B g k : Nat} {T : TypeId} {vs zs : List Value} (h : Fill W B g T vs zs k) (hz : zs.length = vs.length) (hk : k < vs.length) : Fill (W.setCell ⟨g, k, none⟩ vs[k]) B g T vs zs (k + 1) := by
  have h1 := (h.stored k vs[k]).1
  unfold Fill
  rw [← patchV_set hz hk]
  exact h1
theorem Fill.done {W : World} {B g : Nat} {T : TypeId} {vs zs : List Value} (h : Fill W B g T vs zs vs.length) (hz : zs.length = vs.length) : W.ownsRow B T 1 (.slice (some ⟨g, 0, none⟩) vs.length vs.length) vs.length vs := by
  unfold Fill at h
  rw [List.drop_of_length_le (by omega), List.append_nil, List.take_length] at h
  exact h
end Go.Proofs.YtiniicehfjgpgaaGreat
/- The walks of putPart and Put: a number's bytes. -/
namespace Go.Proofs.YtiniicehfjgpgaaGreat
open Go.RowKit M6

/-- a byte of a number, the lowest first -/
def bt (v j : Nat) : Nat := v / 256 ^ j % 256
theorem bt_lt (v j : Nat) : bt v j < 256 := Nat.mod_lt _ (by decide)
/-- four bytes of a number, the lowest first -/
def ls (v : Nat) : List UInt8 := [UInt8.ofNat (bt v 0), UInt8.ofNat (bt v 1), UInt8.ofNat (bt v 2), UInt8.ofNat (bt v 3)]
def bs (v : Nat) : ByteArray := ⟨(ls v).toArray⟩
theorem run_bytes_cells {P : Program} (w : World) (src dst e : TypeId) (hs : P.underlying src = some (.slice e)) (he : P.underlying e = some (.int .u8)) (hd : P.underlying dst = some .string)
    {g cap : Nat} {l : List UInt8} (h : ∀ j u, (bv l)[j]? = some u → w.cell? ((⟨g, 0, none⟩ : Addr).add j) = some u) : (convert src dst (.slice (some ⟨g, 0, none⟩) l.length cap)).run P w = .ok (.string ⟨l.toArray⟩) w := by
  rw [run_convert_bytes_string w src dst e _ l.length cap hs he hd]
  have hc : (loadCells ⟨g, 0, none⟩ l.length).run P w = .ok ((l.map fun b => ((b.toNat : Nat) : Int)).map (Value.int .u8)).toArray w := by
    have h2 := run_loadCells_list (P := P) (w := w) ⟨g, 0, none⟩ (bv l) h
    rw [bv_len] at h2
    rw [h2]; simp [bv]
  rw [run_bytesToString w _ l.length cap _ hc, foldl_bytes]
  simp
/-- the cells of an array of four bytes, the first k of them laid -/
def c4 (v k : Nat) : Array Value := #[.int .u8 (if 0 < k then bt v 0 else 0 : Nat), .int .u8 (if 1 < k then bt v 1 else 0 : Nat), .int .u8 (if 2 < k then bt v 2 else 0 : Nat), .int .u8 (if 3 < k then bt v 3 else 0 : Nat)]

theorem bt_shift (v k : Nat) : (v : Int) / 2 ^ (8 * k) % 256 = ((bt v k : Nat) : Int) := by
  have e8 : (2 : Int) ^ (8 * k) = ((256 ^ k : Nat) : Int) := by
    rw [show (256 : Nat) = 2 ^ 8 from rfl, ← Nat.pow_mul, Int.natCast_pow]; rfl
  rw [e8, bt, ← Int.natCast_ediv]
  rfl
theorem c4_next {v k : Nat} (hk : k < 4) : (c4 v k).setIfInBounds k (.int .u8 ((v : Int) / 2 ^ (8 * k) % 256)) = c4 v (k + 1) := by
  rw [bt_shift]
  rcases (by omega : k = 0 ∨ k = 1 ∨ k = 2 ∨ k = 3) with rfl | rfl | rfl | rfl <;> rfl
theorem c4_cells (v : Nat) {w : World} {g : Nat} {t : TypeId} (h : w.heap[g]? = some (.cells (c4 v 4) t (0, 0))) : ∀ j u, (bv (ls v))[j]? = some u → w.cell? ((⟨g, 0, none⟩ : Addr).add j) = some u := by
  intro j u hj
  have e : (c4 v 4) = (bv (ls v)).toArray := by
    have hb : ∀ k, ((UInt8.ofNat (bt v k)).toNat) = bt v k := fun k => by
      have := bt_lt v k
      simp; omega
    simp [bv, ls, c4, hb]
  rw [Addr.add_mid, cell_of_row _ _ _ _ _ _ h, e]
  simpa using hj
theorem conv_narrow {n : Int} (hn : n.natAbs ≤ 1048576) (w : World) : (convert 205 216 (.float .f64 (fz n))).run Tryz.prog w = .ok (.float .f32 (sz n)) w := by
  have hs : (Tryz.prog.underlying 205).isSome = true := by kernel_rfl
  have hd : Tryz.prog.underlying 216 = some (.float .f32) := by kernel_rfl
  refine run_convert_float_float w _ _ .f64 .f32 _ _ hs hd ?_
  obtain ⟨s, m, e, h1, h2⟩ := narrow_read hn
  have h3 := narrow hn
  unfold floatToFloatBits
  rw [if_neg (by decide)]
  show (match (Ieee.double.read (fz n)) with
    | .nan _ _ => none
    | .infinity s => some (Ieee.single.write (.infinity s))
    | .number s m e => if (Ieee.single.read (Ieee.single.write (.number s m e))).isInfinity then none else some (Ieee.single.write (.number s m e))) = _
  rw [h1] at h3 ⊢
  dsimp only
  rw [h2, h3]; rfl

end Go.Proofs.YtiniicehfjgpgaaGreat
