/- What a clone's rows are: rows of the call's own, element by element. No walk. -/
import Derived.Test.YtiniicehfjgpgaaGreatMNew
import Derived.Test.YtiniicehfjgpgaaGreatIntRows
import Derived.Test.YtiniicehfjgpgaaGreatTCheck
namespace Go.Proofs.YtiniicehfjgpgaaGreat
open Go.RowKit M7 M10

/-- a row of the call's own: where it lies -/
theorem own_addr {w : World} {base size n : Nat} {e : TypeId} {v : Value} {xs : List Value} (h : w.ownsRow base e size v n xs) (hn : 0 < n) :
    ∃ g c cur, v = .slice (some ⟨g, 0, none⟩) n c ∧ base ≤ g ∧ w.heap[g]? = some (.cells cur e (0, 0)) := by
  rcases h.2 with ⟨_, h0⟩ | ⟨g, cap, cur, hv, hB, hg, _⟩
  · omega
  · exact ⟨g, cap, cur, hv, hB, hg⟩
theorem own_blk {w : World} {base size n : Nat} {e : TypeId} {v : Value} {xs : List Value} (h : w.ownsRow base e size v n xs) {g : Nat} (hg : v.ownBlock = some g) : base ≤ g ∧ g < w.heap.size := by
  rcases h.2 with ⟨rfl, _⟩ | ⟨g2, cap, cur, rfl, hB, hh, _⟩
  · simp [Value.ownBlock] at hg
  · simp only [Value.ownBlock, Option.some.injEq] at hg
    subst hg
    exact ⟨hB, blk_lt hh⟩
/-- a row of elements of several cells, of the call's own -/
def DW {α : Type} (Q : Nat → World → α → List Value → Prop) (w : World) (B : Nat) (T : TypeId) (size : Nat) (v : Value) (l : List α) : Prop :=
  ∃ css, Al (Q B w) l css ∧ (∀ c ∈ css, c.length = size) ∧ w.ownsRow B T size v l.length css.flatten
theorem Al.map {α β : Type} {P : β → List Value → Prop} {g : α → β} : ∀ {l : List α} {css : List (List Value)}, Al (fun a => P (g a)) l css → Al P (l.map g) css
  | [], [], _ => trivial
  | _ :: _, [], h => h.elim
  | [], _ :: _, h => h.elim
  | _ :: _, _ :: _, h => ⟨h.1, Al.map h.2⟩
/-- what stays of an element of the call's own -/
structure Eo {α : Type} (Q : Nat → World → α → List Value → Prop) (far : TypeId → Prop) (size : Nat) : Prop where
  len : ∀ {B w a cs}, Q B w a cs → cs.length = size
  keep : ∀ {B w w' a cs}, Q B w a cs → Below w.heap.size w w' → Q B w' a cs
  base : ∀ {B B' w a cs}, Q B w a cs → B' ≤ B → Q B' w a cs
  set : ∀ {B w a cs g cur T i u}, Q B w a cs → w.heap[g]? = some (.cells cur T (0, 0)) → far T → Q B (w.setCell ⟨g, i, none⟩ u) a cs
section
variable {α : Type} {Q : Nat → World → α → List Value → Prop} {far : TypeId → Prop} {w w' : World} {B B' size n : Nat} {T : TypeId} {v : Value} {l : List α}
theorem DW.keep (h : DW Q w B T n v l) (hq : Eo Q far size) (hb : Below w.heap.size w w') : DW Q w' B T n v l := by
  obtain ⟨css, ha, hl, ho⟩ := h
  exact ⟨css, ha.mono fun _ _ hp => hq.keep hp hb, hl, own_keep ho hb⟩
theorem DW.base (h : DW Q w B T n v l) (hq : Eo Q far size) (hB : B' ≤ B) : DW Q w B' T n v l := by
  obtain ⟨css, ha, hl, ho⟩ := h
  exact ⟨css, ha.mono fun _ _ hp => hq.base hp hB, hl, own_base ho hB⟩
theorem DW.set (h : DW Q w B T n v l) (hq : Eo Q far size) {g : Nat} {cur : Array Value} {T2 : TypeId} {i : Nat} {u : Value} (hg : w.heap[g]? = some (.cells cur T2 (0, 0))) (hf : far T2) (hT : T2 ≠ T) : DW Q (w.setCell ⟨g, i, none⟩ u) B T n v l := by
  obtain ⟨css, ha, hl, ho⟩ := h
  exact ⟨css, ha.mono fun _ _ hp => hq.set hp hg hf, hl, own_set ho (own_far ho hg hT) i u⟩
theorem DW.form (h : DW Q w B T n v l) : ∃ A c, v = .slice A l.length c := by
  obtain ⟨css, _, _, ho⟩ := h
  obtain ⟨A, c, hv, _⟩ := own_form ho
  exact ⟨A, c, hv⟩
/-- it reads as a slice does -/
theorem DW.read {P : Nat → World → α → List Value → Prop} {A : Option Addr} {c : Nat} (h : DW Q w B T n (.slice A l.length c) l) (hm : ∀ a cs, a ∈ l → Q B w a cs → P w.heap.size w a cs) : DR P w w.heap.size n A l := by
  obtain ⟨css, ha, hl, ho⟩ := h
  refine ⟨css, Al.of_get ha.len fun k h1 h2 => hm _ _ (List.getElem_mem h1) (ha.get h1 h2), SR.of_own ho⟩
theorem DW.blk (h : DW Q w B T n v l) {g : Nat} (hg : v.ownBlock = some g) : B ≤ g ∧ g < w.heap.size := by
  obtain ⟨css, _, _, ho⟩ := h
  exact own_blk ho hg
end
def OInf (B : Nat) (w : World) (i : Inf) (cs : List Value) : Prop :=
  ∃ v, cs = [.string i.name, .int .i64 i.kind, v] ∧ w.ownsRow B 2 1 v i.dims.length (iv i.dims) ∧ IOk i
def OTen (B : Nat) (w : World) (t : Ten) (cs : List Value) : Prop :=
  ∃ v, cs = [.string t.name, .int .i64 t.kind, v, .string t.data] ∧ w.ownsRow B 2 1 v t.dims.length (iv t.dims) ∧ TOk t
def OAtt (B : Nat) (w : World) (a : Att) (cs : List Value) : Prop :=
  ∃ v, cs = [.string a.name, .bool a.one, .int .i64 a.int, v] ∧ w.ownsRow B 2 1 v a.ints.length (iv a.ints) ∧ AOk a
def ONod (B : Nat) (w : World) (n : Nod) (cs : List Value) : Prop :=
  ∃ v u, cs = [.string n.op, v, .string n.out, u] ∧ w.ownsRow B 9 1 v n.ins.length (m_tx n.ins) ∧ DW OAtt w B 94 4 u n.attrs ∧ NOk n
theorem OInf.shape {B : Nat} {w : World} {i : Inf} {cs : List Value} (h : OInf B w i cs) : ∃ A c, cs = [.string i.name, .int .i64 i.kind, .slice A i.dims.length c] := by
  obtain ⟨v, h, ho, _⟩ := h; obtain ⟨A, c, rfl, _⟩ := own_form ho; exact ⟨A, c, h⟩
theorem OTen.shape {B : Nat} {w : World} {t : Ten} {cs : List Value} (h : OTen B w t cs) : ∃ A c, cs = [.string t.name, .int .i64 t.kind, .slice A t.dims.length c, .string t.data] := by
  obtain ⟨v, h, ho, _⟩ := h; obtain ⟨A, c, rfl, _⟩ := own_form ho; exact ⟨A, c, h⟩
theorem OAtt.shape {B : Nat} {w : World} {a : Att} {cs : List Value} (h : OAtt B w a cs) : ∃ A c, cs = [.string a.name, .bool a.one, .int .i64 a.int, .slice A a.ints.length c] := by
  obtain ⟨v, h, ho, _⟩ := h; obtain ⟨A, c, rfl, _⟩ := own_form ho; exact ⟨A, c, h⟩
theorem ONod.shape {B : Nat} {w : World} {n : Nod} {cs : List Value} (h : ONod B w n cs) : ∃ A c A' c', cs = [.string n.op, .slice A n.ins.length c, .string n.out, .slice A' n.attrs.length c'] := by
  obtain ⟨v, u, h, ho, hd, _⟩ := h; obtain ⟨A, c, rfl, _⟩ := own_form ho; obtain ⟨A', c', rfl⟩ := hd.form; exact ⟨A, c, A', c', h⟩
theorem eo_inf : Eo OInf (fun T => T ≠ 2) 3 := ⟨fun ⟨_, h, _⟩ => by rw [h]; rfl, fun ⟨v, h, ho, k⟩ hb => ⟨v, h, own_keep ho hb, k⟩, fun ⟨v, h, ho, k⟩ hb => ⟨v, h, own_base ho hb, k⟩, fun ⟨v, h, ho, k⟩ hg hf => ⟨v, h, own_set ho (own_far ho hg hf) _ _, k⟩⟩
theorem eo_ten : Eo OTen (fun T => T ≠ 2) 4 := ⟨fun ⟨_, h, _⟩ => by rw [h]; rfl, fun ⟨v, h, ho, k⟩ hb => ⟨v, h, own_keep ho hb, k⟩, fun ⟨v, h, ho, k⟩ hb => ⟨v, h, own_base ho hb, k⟩, fun ⟨v, h, ho, k⟩ hg hf => ⟨v, h, own_set ho (own_far ho hg hf) _ _, k⟩⟩
theorem eo_att : Eo OAtt (fun T => T ≠ 2) 4 := ⟨fun ⟨_, h, _⟩ => by rw [h]; rfl, fun ⟨v, h, ho, k⟩ hb => ⟨v, h, own_keep ho hb, k⟩, fun ⟨v, h, ho, k⟩ hb => ⟨v, h, own_base ho hb, k⟩, fun ⟨v, h, ho, k⟩ hg hf => ⟨v, h, own_set ho (own_far ho hg hf) _ _, k⟩⟩
theorem eo_nod : Eo ONod (fun T => T ≠ 2 ∧ T ≠ 9 ∧ T ≠ 94) 4 :=
  ⟨fun ⟨_, _, h, _⟩ => by rw [h]; rfl, fun ⟨v, u, h, ho, hd, k⟩ hb => ⟨v, u, h, own_keep ho hb, hd.keep eo_att hb, k⟩, fun ⟨v, u, h, ho, hd, k⟩ hb => ⟨v, u, h, own_base ho hb, hd.base eo_att hb, k⟩,
    fun ⟨v, u, h, ho, hd, k⟩ hg hf => ⟨v, u, h, own_set ho (own_far ho hg hf.2.1) _ _, hd.set eo_att hg hf.1 hf.2.2, k⟩⟩
theorem OInf.at_ {B : Nat} {w : World} {i : Inf} {cs : List Value} (h : OInf B w i cs) : InfAt w.heap.size w i cs := by
  obtain ⟨v, rfl, ho, k⟩ := h; obtain ⟨A, c, rfl, _⟩ := own_form ho; exact ⟨A, c, rfl, SR.of_own ho, k⟩
theorem OTen.at_ {B : Nat} {w : World} {i : Ten} {cs : List Value} (h : OTen B w i cs) : TenAt w.heap.size w i cs := by
  obtain ⟨v, rfl, ho, k⟩ := h; obtain ⟨A, c, rfl, _⟩ := own_form ho; exact ⟨A, c, rfl, SR.of_own ho, k⟩
theorem OAtt.at_ {B : Nat} {w : World} {i : Att} {cs : List Value} (h : OAtt B w i cs) : AttAt w.heap.size w i cs := by
  obtain ⟨v, rfl, ho, k⟩ := h; obtain ⟨A, c, rfl, _⟩ := own_form ho; exact ⟨A, c, rfl, SR.of_own ho, k⟩
theorem ONod.at_ {B : Nat} {w : World} {i : Nod} {cs : List Value} (h : ONod B w i cs) : NodAt w.heap.size w i cs := by
  obtain ⟨v, u, rfl, ho, hd, k⟩ := h; obtain ⟨A, c, rfl, _⟩ := own_form ho; obtain ⟨A', c', rfl⟩ := hd.form
  exact ⟨A, c, A', c', rfl, SR.of_own ho, hd.read fun _ _ _ hp => hp.at_, k⟩
/-- of nodes: each one's In lies in a block that no other one's has -/
def Ap : List (List Value) → Prop := List.Pairwise fun a b => ∀ v u g, a[1]? = some v → b[1]? = some u → v.ownBlock = some g → u.ownBlock ≠ some g
/-- the element at a place of what is done and what is still to do -/
theorem done_at {α : Type} {d css : List α} {k : Nat} (hd : d.length = k) (hk : k < css.length) (h : k < (d ++ css.drop k).length) : (d ++ css.drop k)[k] = css[k] := by
  rw [List.getElem_append_right (by omega)]
  simp [hd]
theorem flat_set {size : Nat} : ∀ {d e : List (List Value)} {c c' : List Value} {k : Nat}, d.length = k → (∀ x ∈ d, x.length = size) → c.length = size → ∀ (j : Nat) (u : Value), j < size → c' = c.set j u → (d ++ c :: e).flatten.set (k * size + j) u = (d ++ c' :: e).flatten
  | [], e, c, c', k, hk, _, hc, j, u, hj, hc' => by
    simp at hk
    subst hk
    subst hc'
    simp only [List.nil_append, List.flatten_cons, Nat.zero_mul, Nat.zero_add]
    rw [List.set_append_left _ _ (by omega)]
  | x :: d, e, c, c', k, hk, hd, hc, j, u, hj, hc' => by
    obtain ⟨k, rfl⟩ : ∃ m, k = m + 1 := ⟨d.length, by simpa using hk.symm⟩
    have hx := hd x List.mem_cons_self
    have ih := flat_set (e := e) (k := k) (by simpa using hk) (fun y hy => hd y (List.mem_cons_of_mem _ hy)) hc j u hj hc'
    simp only [List.cons_append, List.flatten_cons]
    rw [List.set_append_right _ _ (by rw [Nat.succ_mul]; omega), hx, show (k + 1) * size + j - size = k * size + j by rw [Nat.succ_mul]; omega, ih]
theorem drop_cons {α : Type} {css : List α} {k : Nat} (hk : k < css.length) : css.drop k = css[k] :: css.drop (k + 1) := List.drop_eq_getElem_cons hk
/-- the step of a list that is made anew, element by element -/
structure Each {α : Type} (Q : Nat → World → α → List Value → Prop) (w wr : World) (T : TypeId) (size : Nat) (v : Value) (l : List α) (css done : List (List Value)) (k : Nat) : Prop where
  len : done.length = k
  sized : ∀ c ∈ done, c.length = size
  all : Al (Q w.heap.size wr) (l.take k) done
  row : wr.ownsRow w.heap.size T size v l.length (done ++ css.drop k).flatten
  below : Below w.heap.size w wr
section
variable {α : Type} {Q : Nat → World → α → List Value → Prop} {far : TypeId → Prop} {w wr w2 : World} {size k : Nat} {T : TypeId} {v : Value} {l : List α} {css done : List (List Value)}
theorem Each.cellsAt (h : Each Q w wr T size v l css done k) {P : Nat → World → α → List Value → Prop} {l0 : List α} (hk : Ek P size) (hc : Al (P w.heap.size w) l0 css) (hl : l0.length = l.length) (hlt : k < l.length) :
    ∃ g c cs cur, v = .slice (some ⟨g, 0, none⟩) l.length c ∧ w.heap.size ≤ g ∧ wr.heap[g]? = some (.cells cur T (0, 0)) ∧ P wr.heap.size wr (l0[k]'(by omega)) cs ∧ ∀ j u, cs[j]? = some u → wr.cell? ⟨g, k * size + j, none⟩ = some u := by
  obtain ⟨g, c, cur, rfl, hB, hg⟩ := own_addr h.row (by omega)
  have hcl : css.length = l.length := by rw [← hc.len]; exact hl
  have hkc : k < css.length := by omega
  refine ⟨g, c, css[k], cur, rfl, hB, hg, hk.more (hk.below (hc.get (by omega) hkc) h.below) h.below.size, fun j u hj => ?_⟩
  have hlen := hk.len (hc.get (by omega : k < l0.length) hkc)
  have hjs : j < size := by have := (List.getElem?_eq_some_iff.1 hj).1; omega
  have hall : ∀ c ∈ done ++ css.drop k, c.length = size := by
    intro c hc'
    rcases List.mem_append.1 hc' with h1 | h1
    · exact h.sized c h1
    · exact hk.all hc c (List.mem_of_mem_drop h1)
  have hkm : k < (done ++ css.drop k).length := by rw [List.length_append, h.len]; simp; omega
  have hlast : k * size + j < l.length * size := by
    have : (k + 1) * size ≤ l.length * size := Nat.mul_le_mul_right _ hlt
    rw [Nat.succ_mul] at this
    omega
  rw [h.row.cellAt (k * size + j) hlast, flat_at hall hkm j hjs, done_at h.len hkc hkm]
  exact hj
theorem Each.keep (h : Each Q w wr T size v l css done k) (hq : Eo Q far size) (hb : Below wr.heap.size wr w2) : Each Q w w2 T size v l css done k :=
  ⟨h.len, h.sized, h.all.mono fun _ _ hp => hq.keep hp hb, own_keep h.row hb, step_below h.below hb⟩
theorem Each.start (hb : Below w.heap.size w wr) (ho : wr.ownsRow w.heap.size T size v l.length css.flatten) : Each Q w wr T size v l css [] 0 :=
  ⟨rfl, by simp, by rw [List.take_zero]; exact trivial, by simpa using ho, hb⟩
theorem Each.end_ (h : Each Q w wr T size v l css done l.length) (hcl : css.length = l.length) : DW Q wr w.heap.size T size v l := by
  refine ⟨done, by have := h.all; rwa [List.take_length] at this, h.sized, ?_⟩
  have := h.row
  rwa [List.drop_of_length_le (by omega), List.append_nil] at this
/-- a store into the row leaves the elements' own rows -/
theorem own_cur {w : World} {base size n g c : Nat} {e : TypeId} {xs : List Value} (h : w.ownsRow base e size (.slice (some ⟨g, 0, none⟩) n c) n xs) : base ≤ g ∧ ∃ cur, w.heap[g]? = some (.cells cur e (0, 0)) := by
  rcases h.2 with ⟨hv, _⟩ | ⟨g2, cap, cur, hv, hB, hg, _⟩
  · simp at hv
  · simp only [Value.slice.injEq, Option.some.injEq, Addr.mk.injEq, and_true, true_and] at hv
    obtain ⟨rfl, rfl⟩ := hv
    exact ⟨hB, cur, hg⟩
theorem Eo.store (hq : Eo Q far size) {base n m g c i : Nat} {e : TypeId} {xs : List Value} {u : Value} (h : wr.ownsRow base e m (.slice (some ⟨g, 0, none⟩) n c) n xs) (hf : far e) {B : Nat} {a : α} {cs : List Value} (hp : Q B wr a cs) : Q B (wr.setCell ⟨g, i, none⟩ u) a cs := by
  obtain ⟨_, cur, hg⟩ := own_cur h
  exact hq.set hp hg hf
theorem Each.put3 {g c : Nat} {u0 u1 u2 : Value} (h : Each Q w wr T 3 (.slice (some ⟨g, 0, none⟩) l.length c) l css done k) (hq : Eo Q far 3) (hf : far T) (hcl : css.length = l.length) (hcs : ∀ c ∈ css, c.length = 3) (hlt : k < l.length)
    (hnew : Q w.heap.size wr l[k] [u0, u1, u2]) : Each Q w (((wr.setCell ⟨g, k * 3, none⟩ u0).setCell ⟨g, k * 3 + 1, none⟩ u1).setCell ⟨g, k * 3 + 2, none⟩ u2) T 3 (.slice (some ⟨g, 0, none⟩) l.length c) l css (done ++ [[u0, u1, u2]]) (k + 1) := by
  have hkc : k < css.length := by omega
  have hB := (own_cur h.row).1
  have r0 := (h.row.stored (k * 3) u0).1
  have r1 := (r0.stored (k * 3 + 1) u1).1
  have r2 := (r1.stored (k * 3 + 2) u2).1
  obtain ⟨y0, y1, y2, hy⟩ : ∃ y0 y1 y2, css[k] = [y0, y1, y2] := by
    have := hcs _ (List.getElem_mem hkc)
    match hc : css[k], this with
    | [y0, y1, y2], _ => exact ⟨y0, y1, y2, rfl⟩
  have f0 := flat_set (size := 3) (d := done) (e := css.drop (k + 1)) (c := [y0, y1, y2]) (c' := [u0, y1, y2]) h.len h.sized rfl 0 u0 (by omega) rfl
  have f1 := flat_set (size := 3) (d := done) (e := css.drop (k + 1)) (c := [u0, y1, y2]) (c' := [u0, u1, y2]) h.len h.sized rfl 1 u1 (by omega) rfl
  have f2 := flat_set (size := 3) (d := done) (e := css.drop (k + 1)) (c := [u0, u1, y2]) (c' := [u0, u1, u2]) h.len h.sized rfl 2 u2 (by omega) rfl
  rw [drop_cons hkc, hy] at r0 r1 r2
  simp only [Nat.add_zero] at f0
  rw [f0, f1, f2] at r2
  have hall : Al (Q w.heap.size (((wr.setCell ⟨g, k * 3, none⟩ u0).setCell ⟨g, k * 3 + 1, none⟩ u1).setCell ⟨g, k * 3 + 2, none⟩ u2)) (l.take k) done := h.all.mono fun _ _ hp => hq.store r1 hf (hq.store r0 hf (hq.store h.row hf hp))
  have hne : Q w.heap.size (((wr.setCell ⟨g, k * 3, none⟩ u0).setCell ⟨g, k * 3 + 1, none⟩ u1).setCell ⟨g, k * 3 + 2, none⟩ u2) l[k] [u0, u1, u2] := hq.store r1 hf (hq.store r0 hf (hq.store h.row hf hnew))
  refine ⟨by simp [h.len], fun c hc => ?_, ?_, by rw [List.append_assoc]; exact r2, (((h.below.setCell (p := ⟨g, k * 3, none⟩) hB u0).setCell (p := ⟨g, k * 3 + 1, none⟩) hB u1).setCell (p := ⟨g, k * 3 + 2, none⟩) hB u2)⟩
  · rcases List.mem_append.1 hc with h1 | h1
    · exact h.sized c h1
    · simp at h1; rw [h1]; rfl
  · rw [List.take_succ_eq_append_getElem hlt]
    exact hall.snoc hne
theorem Each.put4 {g c : Nat} {u0 u1 u2 u3 : Value} (h : Each Q w wr T 4 (.slice (some ⟨g, 0, none⟩) l.length c) l css done k) (hq : Eo Q far 4) (hf : far T) (hcl : css.length = l.length) (hcs : ∀ c ∈ css, c.length = 4) (hlt : k < l.length)
    (hnew : Q w.heap.size wr l[k] [u0, u1, u2, u3]) : Each Q w ((((wr.setCell ⟨g, k * 4, none⟩ u0).setCell ⟨g, k * 4 + 1, none⟩ u1).setCell ⟨g, k * 4 + 2, none⟩ u2).setCell ⟨g, k * 4 + 3, none⟩ u3) T 4 (.slice (some ⟨g, 0, none⟩) l.length c) l css (done ++ [[u0, u1, u2, u3]]) (k + 1) := by
  have hkc : k < css.length := by omega
  have hB := (own_cur h.row).1
  have r0 := (h.row.stored (k * 4) u0).1
  have r1 := (r0.stored (k * 4 + 1) u1).1
  have r2 := (r1.stored (k * 4 + 2) u2).1
  have r3 := (r2.stored (k * 4 + 3) u3).1
  obtain ⟨y0, y1, y2, y3, hy⟩ : ∃ y0 y1 y2 y3, css[k] = [y0, y1, y2, y3] := by
    have := hcs _ (List.getElem_mem hkc)
    match hc : css[k], this with
    | [y0, y1, y2, y3], _ => exact ⟨y0, y1, y2, y3, rfl⟩
  have f0 := flat_set (size := 4) (d := done) (e := css.drop (k + 1)) (c := [y0, y1, y2, y3]) (c' := [u0, y1, y2, y3]) h.len h.sized rfl 0 u0 (by omega) rfl
  have f1 := flat_set (size := 4) (d := done) (e := css.drop (k + 1)) (c := [u0, y1, y2, y3]) (c' := [u0, u1, y2, y3]) h.len h.sized rfl 1 u1 (by omega) rfl
  have f2 := flat_set (size := 4) (d := done) (e := css.drop (k + 1)) (c := [u0, u1, y2, y3]) (c' := [u0, u1, u2, y3]) h.len h.sized rfl 2 u2 (by omega) rfl
  have f3 := flat_set (size := 4) (d := done) (e := css.drop (k + 1)) (c := [u0, u1, u2, y3]) (c' := [u0, u1, u2, u3]) h.len h.sized rfl 3 u3 (by omega) rfl
  rw [drop_cons hkc, hy] at r0 r1 r2 r3
  simp only [Nat.add_zero] at f0
  rw [f0, f1, f2, f3] at r3
  have hall : Al (Q w.heap.size ((((wr.setCell ⟨g, k * 4, none⟩ u0).setCell ⟨g, k * 4 + 1, none⟩ u1).setCell ⟨g, k * 4 + 2, none⟩ u2).setCell ⟨g, k * 4 + 3, none⟩ u3)) (l.take k) done := h.all.mono fun _ _ hp => hq.store r2 hf (hq.store r1 hf (hq.store r0 hf (hq.store h.row hf hp)))
  have hne : Q w.heap.size ((((wr.setCell ⟨g, k * 4, none⟩ u0).setCell ⟨g, k * 4 + 1, none⟩ u1).setCell ⟨g, k * 4 + 2, none⟩ u2).setCell ⟨g, k * 4 + 3, none⟩ u3) l[k] [u0, u1, u2, u3] := hq.store r2 hf (hq.store r1 hf (hq.store r0 hf (hq.store h.row hf hnew)))
  refine ⟨by simp [h.len], fun c hc => ?_, ?_, by rw [List.append_assoc]; exact r3, ((((h.below.setCell (p := ⟨g, k * 4, none⟩) hB u0).setCell (p := ⟨g, k * 4 + 1, none⟩) hB u1).setCell (p := ⟨g, k * 4 + 2, none⟩) hB u2).setCell (p := ⟨g, k * 4 + 3, none⟩) hB u3)⟩
  · rcases List.mem_append.1 hc with h1 | h1
    · exact h.sized c h1
    · simp at h1; rw [h1]; rfl
  · rw [List.take_succ_eq_append_getElem hlt]
    exact hall.snoc hne
theorem Each.end2 (h : Each Q w wr T size v l css done l.length) (hcl : css.length = l.length) : Al (Q w.heap.size wr) l done ∧ (∀ c ∈ done, c.length = size) ∧ wr.ownsRow w.heap.size T size v l.length done.flatten := by
  refine ⟨by have := h.all; rwa [List.take_length] at this, h.sized, ?_⟩
  have := h.row
  rwa [List.drop_of_length_le (by omega), List.append_nil] at this
end
theorem Ap.snoc {w wr w2 : World} {T : TypeId} {v : Value} {l : List Nod} {css done : List (List Value)} {k : Nat} {n : Nod} {cs : List Value} (h : Ap done)
    (he : Each (fun B w a cs => ONod B w (nN a) cs) w wr T 4 v l css done k) (ho : ONod wr.heap.size w2 n cs) : Ap (done ++ [cs]) := by
  unfold Ap
  rw [List.pairwise_append]
  refine ⟨h, by simp, fun a ha b hb => ?_⟩
  simp only [List.mem_singleton] at hb
  subst hb
  intro x y g hx hy hg
  obtain ⟨a', _, x1, y1, rfl, ho1, _⟩ := he.all.mem a ha
  obtain ⟨x2, y2, rfl, ho2, _⟩ := ho
  simp only [List.getElem?_cons_succ, List.getElem?_cons_zero, Option.some.injEq] at hx hy
  subst hx; subst hy
  intro hc
  have := (own_blk ho1 hg).2
  have := (own_blk ho2 hc).1
  omega
end Go.Proofs.YtiniicehfjgpgaaGreat
