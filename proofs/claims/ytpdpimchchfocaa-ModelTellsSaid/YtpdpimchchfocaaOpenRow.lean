/- An argument that is a slice of elements of one cell, opened: it reads as a list. No program is imported. -/
import Derived.Test.YtpdpimchchfocaaRow
import Derived.Deep.Slices
import Derived.ChangeSame
import Derived.SizedLaws
import Derived.OpenShut
namespace Go.Proofs.Ytpdpimchchfocaa
open Go.RowKit Go.ChangeShapes Go.WideShapes Go.Deep
section
variable {H : Type} {enc : TypeId × Value → H} {P : Program} {w : World} {base : Nat} {spare : Nat → Bool} {held : Bool}
theorem plain_cell {a : Addr} {v : Value} (h : w.cell? a = some v) : a = ⟨a.block, a.off, none⟩ ∧ a.block < w.heap.size := by
  refine ⟨?_, block_lt_of_cell h⟩
  obtain ⟨b, o, s⟩ := a
  cases s with
  | none => rfl
  | some x =>
    unfold World.cell? at h
    split at h <;> simp at h
theorem open_row1c {α : Type} [Inhabited α] (mk : α → Value) (Q : α → Prop) {t e : TypeId} (ht : P.underlying t = some (.slice e)) (hc : P.cellsOf e = 1)
    (elem : ∀ n v x, DataW.trod enc P w base spare held n e [v] = some x → ∃ a, v = mk a ∧ Q a)
    {v : Value} {d : DataW H} {p : List MemPlace} (h : DataW.Trod enc P w base spare held t v d p) (hv : ∃ a l c, v = .slice a l c) :
    ∃ (A : Option Addr) (c : Nat) (l : List α), v = .slice A l.length c ∧ SR w w.heap.size 1 A l.length (l.map mk) ∧ l.length ≤ c ∧ c ≤ maxLen ∧ (A = none → l.length = 0 ∧ c = 0) ∧ ∀ a ∈ l, Q a := by
  obtain ⟨A0, l0, c0, rfl⟩ := hv
  obtain ⟨fuel, h⟩ := h
  rcases open_slice1 ht hc h with ⟨hcs, hx⟩ | ⟨a, len, cap, m, n, V, D, Pl, hcs, hb, hl, hm, hmm, hx, hi⟩
  · simp only [Value.cells, List.cons.injEq, and_true, Value.slice.injEq] at hcs
    obtain ⟨rfl, rfl, rfl⟩ := hcs
    exact ⟨none, 0, [], rfl, SR.empty _ _ _ _, by simp, by unfold maxLen; omega, fun _ => ⟨rfl, rfl⟩, by simp⟩
  · simp only [Value.cells, List.cons.injEq, and_true, Value.slice.injEq] at hcs
    obtain ⟨rfl, rfl, rfl⟩ := hcs
    have hlm : l0 ≤ m := by rw [hmm]; split <;> omega
    obtain ⟨F, hF⟩ := choose_lt (α := α) (p := fun i f => w.cell? (a.add i) = some (mk f) ∧ Q f) (n := l0) (fun i hil => by
      obtain ⟨h1, h2⟩ := hi i (by omega)
      obtain ⟨f, hf, hq⟩ := elem _ _ _ h2
      exact ⟨f, by rw [h1, hf], hq⟩)
    have hlen : ((List.range l0).map F).length = l0 := by simp
    refine ⟨some a, c0, (List.range l0).map F, by rw [hlen], ⟨by simp, fun hpos => ?_⟩, by rw [hlen]; exact hl, hm, (fun h => by cases h), ?_⟩
    · rw [hlen] at hpos
      have h0 := (hF 0 hpos).1
      have h00 : w.cell? a = some (mk (F 0)) := by simpa [Addr.add] using h0
      obtain ⟨ha, hab⟩ := plain_cell h00
      refine ⟨a.block, a.off, by rw [← ha], hab, fun j u hj => ?_⟩
      rw [← Addr.add_mid, ← ha]
      have hjl := (List.getElem?_eq_some_iff.1 hj).1
      simp only [List.length_map, List.length_range] at hjl
      rw [(hF j hjl).1, ← hj]
      simp [hjl]
    · intro f hf
      obtain ⟨i, hi2, rfl⟩ := List.mem_map.1 hf
      exact (hF i (List.mem_range.1 hi2)).2
theorem open_row1 {α : Type} [Inhabited α] (mk : α → Value) (Q : α → Prop) {t e : TypeId} (ht : P.underlying t = some (.slice e)) (hc : P.cellsOf e = 1)
    (elem : ∀ n v x, DataW.trod enc P w base spare held n e [v] = some x → ∃ a, v = mk a ∧ Q a)
    {v : Value} {d : DataW H} {p : List MemPlace} (h : DataW.Trod enc P w base spare held t v d p) (hv : ∃ a l c, v = .slice a l c) :
    ∃ (A : Option Addr) (c : Nat) (l : List α), v = .slice A l.length c ∧ SR w w.heap.size 1 A l.length (l.map mk) ∧ l.length ≤ maxLen ∧ ∀ a ∈ l, Q a := by
  obtain ⟨A, c, l, h1, h2, h3, h4, _, h5⟩ := open_row1c mk Q ht hc elem h hv
  exact ⟨A, c, l, h1, h2, Nat.le_trans h3 h4, h5⟩
end
end Go.Proofs.Ytpdpimchchfocaa
/- An argument that is a slice of elements of any cells, opened, element by element; a struct of fields of one cell each. No program is imported. -/
namespace Go.Proofs.Ytpdpimchchfocaa
open Go.RowKit Go.ChangeShapes Go.WideShapes Go.Deep
section
variable {H : Type} {enc : TypeId × Value → H} {P : Program} {w : World} {base : Nat} {spare : Nat → Bool} {held : Bool}
theorem weights_deep {e : TypeId} {d : DataW H} : ∀ {ds : List (DataW H)}, d ∈ ds → ∀ n ∈ d.weights P e, n ∈ DataW.weightsAll P e ds
  | d0 :: ds, hd, n, hn => by
    simp only [DataW.weightsAll, List.mem_append]
    rcases List.mem_cons.1 hd with rfl | hd
    · exact .inl hn
    · exact .inr (weights_deep hd n hn)
theorem flat_len_deep {size : Nat} : ∀ {css : List (List Value)}, (∀ c ∈ css, c.length = size) → css.flatten.length = css.length * size
  | [], _ => by simp
  | c :: css, h => by
    rw [List.flatten_cons, List.length_append, flat_len_deep (fun x hx => h x (List.mem_cons_of_mem _ hx)), h c List.mem_cons_self, List.length_cons, Nat.succ_mul]
    omega
theorem flat_at_deep {size : Nat} : ∀ {css : List (List Value)} {k : Nat}, (∀ c ∈ css, c.length = size) → ∀ (hk : k < css.length) (j : Nat), j < size → css.flatten[k * size + j]? = css[k][j]?
  | [], _, _, hk, _, _ => absurd hk (by simp)
  | c :: css, 0, h, _, j, hj => by
    have hc := h c List.mem_cons_self
    rw [List.flatten_cons, Nat.zero_mul, Nat.zero_add, List.getElem?_append_left (by omega)]
    rfl
  | c :: css, k + 1, h, hk, j, hj => by
    have hc := h c List.mem_cons_self
    rw [List.flatten_cons, List.getElem?_append_right (by rw [Nat.succ_mul]; omega), hc, show (k + 1) * size + j - size = k * size + j by rw [Nat.succ_mul]; omega]
    simpa using flat_at_deep (css := css) (k := k) (fun x hx => h x (List.mem_cons_of_mem _ hx)) (by simpa using hk) j hj
/-- a slice, element by element: the cells of each, and what they stand for -/
theorem open_deep {α : Type} [Inhabited α] (size : Nat) (hpos : 0 < size) (Q : α → List Value → Prop) {t e : TypeId} (ht : P.underlying t = some (.slice e)) (hc : P.cellsOf e = size)
    (elem : ∀ n cs x, DataW.trod enc P w base spare held n e cs = some x → cs.length = size → (∀ n ∈ x.1.weights P e, n ≤ reachBytes) → ∃ a, Q a cs)
    {fuel : Nat} {cs : List Value} {x : DataW H × List MemPlace} (h : DataW.trod enc P w base spare held fuel t cs = some x) (hz : ∀ n ∈ x.1.weights P t, n ≤ reachBytes) :
    ∃ (A : Option Addr) (c : Nat) (l : List α) (css : List (List Value)), cs = [.slice A l.length c] ∧ l.length = css.length ∧ (∀ k (h1 : k < l.length) (h2 : k < css.length), Q l[k] css[k]) ∧ (∀ c ∈ css, c.length = size) ∧
      SR w w.heap.size size A l.length css.flatten ∧ l.length * P.bytesOf e ≤ reachBytes := by
  rcases open_slice ht h with ⟨rfl, rfl⟩ | ⟨a, len, cap, m, n, D, Pl, rfl, hb, hl, hm, hmm, rfl, hx⟩
  · exact ⟨none, 0, [], [], rfl, rfl, fun k h1 => absurd h1 (by simp), by simp, SR.empty _ _ _ _, by simp⟩
  · have hlm : len ≤ m := by rw [hmm]; split <;> omega
    rw [hc] at hx
    have hw : ∀ i, i < len → ∀ n ∈ (D i).weights P e, n ≤ reachBytes := by
      intro i hi n hn
      refine hz n ?_
      simp only [DataW.weights, ht]
      exact List.mem_cons_of_mem _ (List.mem_append_left _ (weights_deep (List.mem_map.2 ⟨i, List.mem_range.2 hi, rfl⟩) n hn))
    have hone : ∀ i, i < len → ∃ q : α × List Value, Q q.1 q.2 ∧ q.2.length = size ∧ ∀ j, j < size → w.cell? ((a.add (i * size)).add j) = q.2[j]? := by
      intro i hi
      obtain ⟨cs', h1, h2⟩ := hx i (by omega)
      obtain ⟨_, hlen, hcell⟩ := World.cells?_some h1
      obtain ⟨v, hv⟩ := elem _ _ _ h2 hlen (hw i hi)
      exact ⟨(v, cs'), hv, hlen, hcell⟩
    obtain ⟨F, hF⟩ := choose_lt hone
    have hlen : ((List.range len).map fun i => (F i).1).length = len := by simp
    have hszs : ∀ c ∈ (List.range len).map fun i => (F i).2, c.length = size := by
      intro c hc'
      obtain ⟨i, hi, rfl⟩ := List.mem_map.1 hc'
      exact (hF i (List.mem_range.1 hi)).2.1
    refine ⟨some a, cap, (List.range len).map fun i => (F i).1, (List.range len).map fun i => (F i).2, by rw [hlen], by simp, ?_, hszs, ⟨?_, ?_⟩, ?_⟩
    · intro k h1 h2
      simp only [List.getElem_map, List.getElem_range]
      exact (hF k (by simpa using h1)).1
    · rw [flat_len_deep hszs]; simp
    · intro h0
      rw [hlen] at h0
      have hcell0 := (hF 0 h0).2.2 0 hpos
      have hl0 := (hF 0 h0).2.1
      rw [List.getElem?_eq_getElem (by omega)] at hcell0
      have h00 : w.cell? a = some ((F 0).2[0]'(by omega)) := by simpa [Addr.add] using hcell0
      obtain ⟨ha, hab⟩ := plain_cell h00
      refine ⟨a.block, a.off, by rw [← ha], hab, fun j u hj => ?_⟩
      have hjl := (List.getElem?_eq_some_iff.1 hj).1
      rw [flat_len_deep hszs] at hjl
      simp only [List.length_map, List.length_range] at hjl
      have hk : j / size < len := Nat.div_lt_of_lt_mul (by rw [Nat.mul_comm]; exact hjl)
      have hr : j % size < size := Nat.mod_lt _ hpos
      have hjd : j / size * size + j % size = j := by rw [Nat.mul_comm]; exact Nat.div_add_mod j size
      have hat := flat_at_deep (size := size) hszs (k := j / size) (by simpa using hk) (j % size) hr
      rw [hjd] at hat
      rw [hat] at hj
      simp only [List.getElem_map, List.getElem_range] at hj
      have hcl := (hF (j / size) hk).2.2 (j % size) hr
      rw [hj, ha, Addr.add_mid, Addr.add_mid] at hcl
      rw [← hjd, ← Nat.add_assoc]
      exact hcl
    · have hw3 := hz ((((List.range len).map D).length + ((List.range (m - len)).map fun j => D (len + j)).length) * P.bytesOf e) (by simp only [DataW.weights, ht]; exact List.mem_cons_self)
      rw [hlen]
      simp only [List.length_map, List.length_range] at hw3
      exact Nat.le_trans (Nat.mul_le_mul_right _ (by omega)) hw3
/-- a struct whose fields have one cell each: field by field -/
theorem open_fields {e : TypeId} {fs : Array Field} {ts : List TypeId} (hu : P.underlying e = some (.struct fs)) (ho : fs.toList.map (fun f => (f.offset, f.type)) = (List.range ts.length).zip ts) (h1 : ∀ t ∈ ts, P.cellsOf t = 1)
    {fuel : Nat} {cs : List Value} {x : DataW H × List MemPlace} (h : DataW.trod enc P w base spare held fuel e cs = some x) (hcs : cs.length = ts.length) (hz : ∀ n ∈ x.1.weights P e, n ≤ reachBytes) :
    ∃ n, ∀ i (hi : i < ts.length) (hc : i < cs.length), ∃ y, DataW.trod enc P w base spare held n ts[i] [cs[i]] = some y ∧ ∀ n ∈ y.1.weights P ts[i], n ≤ reachBytes := by
  obtain ⟨xs, n, rfl, rfl, hlen, hxl, hf⟩ := DataW.trod_struct hu h
  refine ⟨n, fun i hi hc => ?_⟩
  have hfl : fs.toList.length = ts.length := by
    have := congrArg List.length ho
    simpa using this
  have hif : i < fs.toList.length := by omega
  have hget := congrArg (fun l => l[i]?) ho
  simp only [List.getElem?_map, List.getElem?_eq_getElem hif, Option.map_some] at hget
  rw [List.getElem?_eq_getElem (by simp; omega)] at hget
  simp only [List.getElem_zip, List.getElem_range, Option.some.injEq, Prod.mk.injEq] at hget
  have hfi := hf i fs.toList[i] (by rw [← Array.getElem?_toList, List.getElem?_eq_getElem hif])
  rw [hget.1, hget.2, h1 _ (List.getElem_mem hi)] at hfi
  have hdt : (cs.drop i).take 1 = [cs[i]] := by rw [List.drop_eq_getElem_cons hc]; rfl
  rw [hdt] at hfi
  have hix : i < xs.length := by rw [hxl]; simpa using hif
  rw [List.getElem?_eq_getElem hix] at hfi
  refine ⟨xs[i], hfi, fun n hn => hz n ?_⟩
  simp only [DataW.weights, hu]
  exact DataW.weights_mem_each (j := i) (t := ts[i]) (d := xs[i].1) (by rw [List.getElem?_map, List.getElem?_eq_getElem hif, ← hget.2]; rfl) (by rw [List.getElem?_map, List.getElem?_eq_getElem hix]; rfl) n hn
end
end Go.Proofs.Ytpdpimchchfocaa
