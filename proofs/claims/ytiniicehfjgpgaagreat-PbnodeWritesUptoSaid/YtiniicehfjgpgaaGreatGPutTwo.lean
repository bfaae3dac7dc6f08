/- The walk of Put; the document's own bytes: laid. -/
import Derived.Test.YtiniicehfjgpgaaGreatRow
import Derived.Test.YtiniicehfjgpgaaGreatGRead
import Derived.BigQuiet
import Derived.Deep.Slices
import Derived.ChangeSame
import Derived.SizedLaws
import Derived.OpenShut
namespace Go.Proofs.YtiniicehfjgpgaaGreat
open Go.RowKit M6

theorem whole_fz {n : Int} (h : n.natAbs ≤ 1048576) : wb (fz n) = true := (wb_iff (fz_lt n)).2 ⟨n, h, rfl⟩
theorem laid_cells (v : Nat) (hv : v < 4294967296) : (#[.int .u8 ((v : Int) % 256), .int .u8 ((v : Int) / 256 % 256), .int .u8 ((v : Int) / 65536 % 256), .int .u8 ((v : Int) / 16777216)] : Array Value) = c4 v 4 := by
  have e0 : (v : Int) % 256 = ((bt v 0 : Nat) : Int) := by simp [bt]
  have e1 : (v : Int) / 256 % 256 = ((bt v 1 : Nat) : Int) := by simp [bt]
  have e2 : (v : Int) / 65536 % 256 = ((bt v 2 : Nat) : Int) := by simp [bt]
  have e3 : (v : Int) / 16777216 = ((bt v 3 : Nat) : Int) := by
    have : bt v 3 = v / 16777216 := by
      unfold bt
      rw [show (256 : Nat) ^ 3 = 16777216 from by decide]
      omega
    rw [this]; simp
  rw [e0, e1, e2, e3]
  rfl
end Go.Proofs.YtiniicehfjgpgaaGreat
/- The walks of the document's own answers: bits and whole, of the lesser format's words. -/
namespace Go.Proofs.YtiniicehfjgpgaaGreat
open Go.RowKit M6

/-- the word of a whole number that isn't 0, from its digits -/
theorem sz_bits {n : Int} {k : Nat} (h : n.natAbs ≤ 1048576) (h1 : 8388608 ≤ n.natAbs * 2 ^ k) (h2 : n.natAbs * 2 ^ k < 16777216) :
    k ≤ 23 ∧ 3 ≤ k ∧ sz n = (if n < 0 then 2147483648 else 0) + (150 - k) * 8388608 + (n.natAbs * 2 ^ k - 8388608) := by
  have h0 : n.natAbs ≠ 0 := fun e => by rw [e] at h1; simp at h1
  have hN : n.natAbs * 2 ^ k ≠ 0 := by omega
  have hl : (n.natAbs * 2 ^ k).log2 = 23 := (Nat.log2_eq_iff hN).2 ⟨h1, h2⟩
  have hlog := log2_mul_pow h0 (n := n.natAbs * 2 ^ k) rfl
  have hsmall : n.natAbs.log2 ≤ 20 := by
    have : n.natAbs < 2 ^ 21 := by omega
    have := (Nat.log2_lt h0).2 this
    omega
  refine ⟨by omega, by omega, ?_⟩
  rw [sz_word n h]
  have hk : k = 23 - n.natAbs.log2 := by omega
  have hr : rg Ieee.single 149 n.natAbs = (n.natAbs.log2 + 126) * 8388608 + n.natAbs * 2 ^ k := by
    unfold rg
    rw [if_neg h0, hk, show Ieee.single.fractionBits = 23 from rfl, show Ieee.single.binade = 8388608 from by decide]
    congr 2
  have e : (n.natAbs.log2 + 126) = 149 - k := by omega
  rw [hr, e]
  unfold Ieee.Format.word
  rw [show Ieee.single.signWeight = 2147483648 from by decide]
  have e2 : (149 - k) * 8388608 + 8388608 = (150 - k) * 8388608 := by omega
  by_cases hn : n < 0
  · rw [decide_eq_true hn, if_pos rfl, if_pos hn]; omega
  · rw [decide_eq_false hn, if_neg (by simp), if_neg hn]; omega
theorem sz_digits {n : Int} (h0 : n ≠ 0) (h : n.natAbs ≤ 1048576) : ∃ k, 8388608 ≤ n.natAbs * 2 ^ k ∧ n.natAbs * 2 ^ k < 16777216 := by
  have h0' : n.natAbs ≠ 0 := by omega
  have hsmall : n.natAbs.log2 ≤ 20 := by
    have : n.natAbs < 2 ^ 21 := by omega
    have := (Nat.log2_lt h0').2 this
    omega
  refine ⟨23 - n.natAbs.log2, ?_, ?_⟩
  · have h1 := Nat.mul_le_mul_right (2 ^ (23 - n.natAbs.log2)) (Nat.log2_self_le h0')
    rw [← Nat.pow_add, show n.natAbs.log2 + (23 - n.natAbs.log2) = 23 from by omega] at h1
    exact h1
  · have h1 := Nat.mul_lt_mul_of_pos_right (@Nat.lt_log2_self n.natAbs) (Nat.two_pow_pos (23 - n.natAbs.log2))
    rw [← Nat.pow_add, show n.natAbs.log2 + 1 + (23 - n.natAbs.log2) = 24 from by omega] at h1
    exact h1
/-- which words are whole numbers, by their fields -/
theorem sz_fields {n : Int} (h0 : n ≠ 0) (h : n.natAbs ≤ 1048576) : ∃ k, sz n / 8388608 % 256 + k = 150 ∧ 3 ≤ k ∧ k ≤ 23 ∧ sz n % 8388608 + 8388608 = n.natAbs * 2 ^ k := by
  obtain ⟨k, h1, h2⟩ := sz_digits h0 h
  obtain ⟨h3, h4, e⟩ := sz_bits h h1 h2
  refine ⟨k, ?_, h4, h3, ?_⟩
  · rw [e]; split <;> omega
  · rw [e]; split <;> omega

theorem sz_is {v : Nat} {n : Int} {k : Nat} (h : n.natAbs ≤ 1048576) (hv : v < 4294967296) (h1 : n.natAbs * 2 ^ k = v % 8388608 + 8388608) (h2 : v / 8388608 % 256 + k = 150) (h3 : n < 0 ↔ 2147483648 ≤ v) : v = sz n := by
  obtain ⟨e1, e2, e3⟩ := sz_bits h (k := k) (by omega) (by omega)
  rw [e3, h1]
  split <;> omega

/-- what the document's whole gives -/
def WhRes (v : Nat) (w : World) (e : Ending) (w' : World) : Prop := ∃ (k : Int) (b : Bool), e = .returned (.tuple #[.int .i64 k, .bool b]) ∧ w = w' ∧ (b = true → k.natAbs ≤ 1048576 ∧ v = sz k) ∧ (∀ n : Int, n.natAbs ≤ 1048576 → v = sz n → b = true)
theorem WhRes.no {v : Nat} (w : World) (h : ∀ n : Int, n.natAbs ≤ 1048576 → v ≠ sz n) : WhRes v w (.returned (.tuple #[.int .i64 0, .bool false])) w :=
  ⟨0, false, rfl, rfl, fun h => by simp at h, fun n hn e => absurd e (h n hn)⟩
end Go.Proofs.YtiniicehfjgpgaaGreat
/- Eight bytes, and the two numbers in them. No walk. -/
namespace Go.Proofs.YtiniicehfjgpgaaGreat
open Go.RowKit M6

theorem four_of {s : ByteArray} (h : s.size = 4) : ∃ a b c d : UInt8, s = ⟨#[a, b, c, d]⟩ := by
  obtain ⟨⟨l⟩⟩ := s
  have h' : l.length = 4 := h
  match l, h' with
  | [a, b, c, d], _ => exact ⟨a, b, c, d, rfl⟩
theorem pr_lit (a b c d : UInt8) : pr ⟨#[a, b, c, d]⟩ 4 = a.toNat + b.toNat * 256 + c.toNat * 65536 + d.toNat * 16777216 := pr_four rfl
theorem bt_lit (a b c d : UInt8) : ls (pr ⟨#[a, b, c, d]⟩ 4) = [a, b, c, d] := by
  have h0 := UInt8.toNat_lt a
  have h1 := UInt8.toNat_lt b
  have h2 := UInt8.toNat_lt c
  have h3 := UInt8.toNat_lt d
  rw [pr_lit]
  unfold ls bt
  have e0 : (a.toNat + b.toNat * 256 + c.toNat * 65536 + d.toNat * 16777216) / 256 ^ 0 % 256 = a.toNat := by simp; omega
  have e1 : (a.toNat + b.toNat * 256 + c.toNat * 65536 + d.toNat * 16777216) / 256 ^ 1 % 256 = b.toNat := by simp; omega
  have e2 : (a.toNat + b.toNat * 256 + c.toNat * 65536 + d.toNat * 16777216) / 256 ^ 2 % 256 = c.toNat := by simp; omega
  have e3 : (a.toNat + b.toNat * 256 + c.toNat * 65536 + d.toNat * 16777216) / 256 ^ 3 % 256 = d.toNat := by simp; omega
  rw [e0, e1, e2, e3]
  simp
theorem bs_pr {s : ByteArray} (h : s.size = 4) : bs (pr s 4) = s := by
  obtain ⟨a, b, c, d, rfl⟩ := four_of h
  unfold bs
  rw [bt_lit]
theorem bs_size (v : Nat) : (bs v).size = 4 := rfl
theorem pr_bs {v : Nat} (h : v < 4294967296) : pr (bs v) 4 = v := by
  have h0 := bt_lt v 0
  have h1 := bt_lt v 1
  have h2 := bt_lt v 2
  have h3 := bt_lt v 3
  have e := pr_lit (UInt8.ofNat (bt v 0)) (UInt8.ofNat (bt v 1)) (UInt8.ofNat (bt v 2)) (UInt8.ofNat (bt v 3))
  have ht : ∀ k, (UInt8.ofNat (bt v k)).toNat = bt v k := fun k => by have := bt_lt v k; simp; omega
  rw [ht, ht, ht, ht] at e
  show pr ⟨#[UInt8.ofNat (bt v 0), UInt8.ofNat (bt v 1), UInt8.ofNat (bt v 2), UInt8.ofNat (bt v 3)]⟩ 4 = v
  rw [e]
  unfold bt
  simp only [show (256 : Nat) ^ 0 = 1 from rfl, show (256 : Nat) ^ 1 = 256 from rfl, show (256 : Nat) ^ 2 = 65536 from rfl, show (256 : Nat) ^ 3 = 16777216 from rfl]
  omega
theorem cat_first (a b : ByteArray) (ha : a.size = 4) : (a ++ b).extract 0 4 = a := by
  refine ByteArray.ext ?_
  rw [ByteArray.data_extract, ByteArray.data_append]
  have : a.data.size = 4 := ha
  simp [this]
theorem cat_second (a b : ByteArray) (ha : a.size = 4) (hb : b.size = 4) : (a ++ b).extract 4 8 = b := by
  refine ByteArray.ext ?_
  rw [ByteArray.data_extract, ByteArray.data_append]
  have h1 : a.data.size = 4 := ha
  have h2 : b.data.size = 4 := hb
  have e1 : a.data.extract 4 4 = #[] := by simp; omega
  have e2 : b.data.extract 0 4 = b.data := by rw [← h2]; simp
  simp [h1, e1, e2]
theorem halves {s : ByteArray} (h : s.size = 8) : s.extract 0 4 ++ s.extract 4 8 = s := by
  refine ByteArray.ext ?_
  rw [ByteArray.data_append, ByteArray.data_extract, ByteArray.data_extract]
  have h1 : s.data.size = 8 := h
  simp
  omega
theorem sz_inj {a b : Int} (ha : a.natAbs ≤ 1048576) (hb : b.natAbs ≤ 1048576) (h : sz a = sz b) : a = b := by
  have h1 := Num.V goodS (sz_num' ha) (by rw [two24]; omega)
  have h2 := Num.V goodS (sz_num' hb) (by rw [two24]; omega)
  rw [h, h2] at h1
  have hp : (2 : Int) ^ 149 ≠ 0 := by decide +kernel
  exact (Int.mul_eq_mul_right_iff hp).1 h1.symm
end Go.Proofs.YtiniicehfjgpgaaGreat
/- An argument that is a slice of elements of one cell, opened: it reads as a list. No program is imported. -/
namespace Go.Proofs.YtiniicehfjgpgaaGreat
open Go.RowKit Go.ChangeShapes Go.WideShapes Go.Deep
section
variable {H : Type} {enc : TypeId × Value → H} {P : Program} {w : World} {base : Nat} {spare : Nat → Bool} {held : Bool}
theorem plain_cell {a : Addr} {v : Value} (h : w.cell? a = some v) : a = ⟨a.block, a.off, none⟩ ∧ a.block < w.heap.size := by
  refine ⟨?_, block_lt_of_cell h⟩
  obtain ⟨b, o, s⟩ := a
  cases s with
  | none => rfl
  | some x =>
    unfold World.cell? at h
    split at h <;> simp at h
theorem open_row1c {α : Type} [Inhabited α] (mk : α → Value) (Q : α → Prop) {t e : TypeId} (ht : P.underlying t = some (.slice e)) (hc : P.cellsOf e = 1)
    (elem : ∀ n v x, DataW.trod enc P w base spare held n e [v] = some x → ∃ a, v = mk a ∧ Q a)
    {v : Value} {d : DataW H} {p : List MemPlace} (h : DataW.Trod enc P w base spare held t v d p) (hv : ∃ a l c, v = .slice a l c) :
    ∃ (A : Option Addr) (c : Nat) (l : List α), v = .slice A l.length c ∧ SR w w.heap.size 1 A l.length (l.map mk) ∧ l.length ≤ c ∧ c ≤ maxLen ∧ (A = none → l.length = 0 ∧ c = 0) ∧ ∀ a ∈ l, Q a := by
  obtain ⟨A0, l0, c0, rfl⟩ := hv
  obtain ⟨fuel, h⟩ := h
  rcases open_slice1 ht hc h with ⟨hcs, hx⟩ | ⟨a, len, cap, m, n, V, D, Pl, hcs, hb, hl, hm, hmm, hx, hi⟩
  · simp only [Value.cells, List.cons.injEq, and_true, Value.slice.injEq] at hcs
    obtain ⟨rfl, rfl, rfl⟩ := hcs
    exact ⟨none, 0, [], rfl, SR.empty _ _ _ _, by simp, by unfold maxLen; omega, fun _ => ⟨rfl, rfl⟩, by simp⟩
  · simp only [Value.cells, List.cons.injEq, and_true, Value.slice.injEq] at hcs
    obtain ⟨rfl, rfl, rfl⟩ := hcs
    have hlm : l0 ≤ m := by rw [hmm]; split <;> omega
    obtain ⟨F, hF⟩ := choose_lt (α := α) (p := fun i f => w.cell? (a.add i) = some (mk f) ∧ Q f) (n := l0) (fun i hil => by
      obtain ⟨h1, h2⟩ := hi i (by omega)
      obtain ⟨f, hf, hq⟩ := elem _ _ _ h2
      exact ⟨f, by rw [h1, hf], hq⟩)
    have hlen : ((List.range l0).map F).length = l0 := by simp
    refine ⟨some a, c0, (List.range l0).map F, by rw [hlen], ⟨by simp, fun hpos => ?_⟩, by rw [hlen]; exact hl, hm, (fun h => by cases h), ?_⟩
    · rw [hlen] at hpos
      have h0 := (hF 0 hpos).1
      have h00 : w.cell? a = some (mk (F 0)) := by simpa [Addr.add] using h0
      obtain ⟨ha, hab⟩ := plain_cell h00
      refine ⟨a.block, a.off, by rw [← ha], hab, fun j u hj => ?_⟩
      rw [← Addr.add_mid, ← ha]
      have hjl := (List.getElem?_eq_some_iff.1 hj).1
      simp only [List.length_map, List.length_range] at hjl
      rw [(hF j hjl).1, ← hj]
      simp [hjl]
    · intro f hf
      obtain ⟨i, hi2, rfl⟩ := List.mem_map.1 hf
      exact (hF i (List.mem_range.1 hi2)).2
theorem open_row1 {α : Type} [Inhabited α] (mk : α → Value) (Q : α → Prop) {t e : TypeId} (ht : P.underlying t = some (.slice e)) (hc : P.cellsOf e = 1)
    (elem : ∀ n v x, DataW.trod enc P w base spare held n e [v] = some x → ∃ a, v = mk a ∧ Q a)
    {v : Value} {d : DataW H} {p : List MemPlace} (h : DataW.Trod enc P w base spare held t v d p) (hv : ∃ a l c, v = .slice a l c) :
    ∃ (A : Option Addr) (c : Nat) (l : List α), v = .slice A l.length c ∧ SR w w.heap.size 1 A l.length (l.map mk) ∧ l.length ≤ maxLen ∧ ∀ a ∈ l, Q a := by
  obtain ⟨A, c, l, h1, h2, h3, h4, _, h5⟩ := open_row1c mk Q ht hc elem h hv
  exact ⟨A, c, l, h1, h2, Nat.le_trans h3 h4, h5⟩
end
end Go.Proofs.YtiniicehfjgpgaaGreat
/- An argument that is a slice of elements of any cells, opened, element by element; a struct of fields of one cell each. No program is imported. -/
namespace Go.Proofs.YtiniicehfjgpgaaGreat
open Go.RowKit Go.ChangeShapes Go.WideShapes Go.Deep
section
variable {H : Type} {enc : TypeId × Value → H} {P : Program} {w : World} {base : Nat} {spare : Nat → Bool} {held : Bool}
theorem weights_deep {e : TypeId} {d : DataW H} : ∀ {ds : List (DataW H)}, d ∈ ds → ∀ n ∈ d.weights P e, n ∈ DataW.weightsAll P e ds
  | d0 :: ds, hd, n, hn => by
    simp only [DataW.weightsAll, List.mem_append]
    rcases List.mem_cons.1 hd with rfl | hd
    · exact .inl hn
    · exact .inr (weights_deep hd n hn)
theorem flat_len_deep {size : Nat} : ∀ {css : List (List Value)}, (∀ c ∈ css, c.length = size) → css.flatten.length = css.length * size
  | [], _ => by simp
  | c :: css, h => by
    rw [List.flatten_cons, List.length_append, flat_len_deep (fun x hx => h x (List.mem_cons_of_mem _ hx)), h c List.mem_cons_self, List.length_cons, Nat.succ_mul]
    omega
theorem flat_at_deep {size : Nat} : ∀ {css : List (List Value)} {k : Nat}, (∀ c ∈ css, c.length = size) → ∀ (hk : k < css.length) (j : Nat), j < size → css.flatten[k * size + j]? = css[k][j]?
  | [], _, _, hk, _, _ => absurd hk (by simp)
  | c :: css, 0, h, _, j, hj => by
    have hc := h c List.mem_cons_self
    rw [List.flatten_cons, Nat.zero_mul, Nat.zero_add, List.getElem?_append_left (by omega)]
    rfl
  | c :: css, k + 1, h, hk, j, hj => by
    have hc := h c List.mem_cons_self
    rw [List.flatten_cons, List.getElem?_append_right (by rw [Nat.succ_mul]; omega), hc, show (k + 1) * size + j - size = k * size + j by rw [Nat.succ_mul]; omega]
    simpa using flat_at_deep (css := css) (k := k) (fun x hx => h x (List.mem_cons_of_mem _ hx)) (by simpa using hk) j hj
/-- a slice, element by element: the cells of each, and what they stand for -/
theorem open_deep {α : Type} [Inhabited α] (size : Nat) (hpos : 0 < size) (Q : α → List Value → Prop) {t e : TypeId} (ht : P.underlying t = some (.slice e)) (hc : P.cellsOf e = size)
    (elem : ∀ n cs x, DataW.trod enc P w base spare held n e cs = some x → cs.length = size → (∀ n ∈ x.1.weights P e, n ≤ reachBytes) → ∃ a, Q a cs)
    {fuel : Nat} {cs : List Value} {x : DataW H × List MemPlace} (h : DataW.trod enc P w base spare held fuel t cs = some x) (hz : ∀ n ∈ x.1.weights P t, n ≤ reachBytes) :
    ∃ (A : Option Addr) (c : Nat) (l : List α) (css : List (List Value)), cs = [.slice A l.length c] ∧ l.length = css.length ∧ (∀ k (h1 : k < l.length) (h2 : k < css.length), Q l[k] css[k]) ∧ (∀ c ∈ css, c.length = size) ∧
      SR w w.heap.size size A l.length css.flatten ∧ l.length * P.bytesOf e ≤ reachBytes := by
  rcases open_slice ht h with ⟨rfl, rfl⟩ | ⟨a, len, cap, m, n, D, Pl, rfl, hb, hl, hm, hmm, rfl, hx⟩
  · exact ⟨none, 0, [], [], rfl, rfl, fun k h1 => absurd h1 (by simp), by simp, SR.empty _ _ _ _, by simp⟩
  · have hlm : len ≤ m := by rw [hmm]; split <;> omega
    rw [hc] at hx
    have hw : ∀ i, i < len → ∀ n ∈ (D i).weights P e, n ≤ reachBytes := by
      intro i hi n hn
      refine hz n ?_
      simp only [DataW.weights, ht]
      exact List.mem_cons_of_mem _ (List.mem_append_left _ (weights_deep (List.mem_map.2 ⟨i, List.mem_range.2 hi, rfl⟩) n hn))
    have hone : ∀ i, i < len → ∃ q : α × List Value, Q q.1 q.2 ∧ q.2.length = size ∧ ∀ j, j < size → w.cell? ((a.add (i * size)).add j) = q.2[j]? := by
      intro i hi
      obtain ⟨cs', h1, h2⟩ := hx i (by omega)
      obtain ⟨_, hlen, hcell⟩ := World.cells?_some h1
      obtain ⟨v, hv⟩ := elem _ _ _ h2 hlen (hw i hi)
      exact ⟨(v, cs'), hv, hlen, hcell⟩
    obtain ⟨F, hF⟩ := choose_lt hone
    have hlen : ((List.range len).map fun i => (F i).1).length = len := by simp
    have hszs : ∀ c ∈ (List.range len).map fun i => (F i).2, c.length = size := by
      intro c hc'
      obtain ⟨i, hi, rfl⟩ := List.mem_map.1 hc'
      exact (hF i (List.mem_range.1 hi)).2.1
    refine ⟨some a, cap, (List.range len).map fun i => (F i).1, (List.range len).map fun i => (F i).2, by rw [hlen], by simp, ?_, hszs, ⟨?_, ?_⟩, ?_⟩
    · intro k h1 h2
      simp only [List.getElem_map, List.getElem_range]
      exact (hF k (by simpa using h1)).1
    · rw [flat_len_deep hszs]; simp
    · intro h0
      rw [hlen] at h0
      have hcell0 := (hF 0 h0).2.2 0 hpos
      have hl0 := (hF 0 h0).2.1
      rw [List.getElem?_eq_getElem (by omega)] at hcell0
      have h00 : w.cell? a = some ((F 0).2[0]'(by omega)) := by simpa [Addr.add] using hcell0
      obtain ⟨ha, hab⟩ := plain_cell h00
      refine ⟨a.block, a.off, by rw [← ha], hab, fun j u hj => ?_⟩
      have hjl := (List.getElem?_eq_some_iff.1 hj).1
      rw [flat_len_deep hszs] at hjl
      simp only [List.length_map, List.length_range] at hjl
      have hk : j / size < len := Nat.div_lt_of_lt_mul (by rw [Nat.mul_comm]; exact hjl)
      have hr : j % size < size := Nat.mod_lt _ hpos
      have hjd : j / size * size + j % size = j := by rw [Nat.mul_comm]; exact Nat.div_add_mod j size
      have hat := flat_at_deep (size := size) hszs (k := j / size) (by simpa using hk) (j % size) hr
      rw [hjd] at hat
      rw [hat] at hj
      simp only [List.getElem_map, List.getElem_range] at hj
      have hcl := (hF (j / size) hk).2.2 (j % size) hr
      rw [hj, ha, Addr.add_mid, Addr.add_mid] at hcl
      rw [← hjd, ← Nat.add_assoc]
      exact hcl
    · have hw3 := hz ((((List.range len).map D).length + ((List.range (m - len)).map fun j => D (len + j)).length) * P.bytesOf e) (by simp only [DataW.weights, ht]; exact List.mem_cons_self)
      rw [hlen]
      simp only [List.length_map, List.length_range] at hw3
      exact Nat.le_trans (Nat.mul_le_mul_right _ (by omega)) hw3
/-- a struct whose fields have one cell each: field by field -/
theorem open_fields {e : TypeId} {fs : Array Field} {ts : List TypeId} (hu : P.underlying e = some (.struct fs)) (ho : fs.toList.map (fun f => (f.offset, f.type)) = (List.range ts.length).zip ts) (h1 : ∀ t ∈ ts, P.cellsOf t = 1)
    {fuel : Nat} {cs : List Value} {x : DataW H × List MemPlace} (h : DataW.trod enc P w base spare held fuel e cs = some x) (hcs : cs.length = ts.length) (hz : ∀ n ∈ x.1.weights P e, n ≤ reachBytes) :
    ∃ n, ∀ i (hi : i < ts.length) (hc : i < cs.length), ∃ y, DataW.trod enc P w base spare held n ts[i] [cs[i]] = some y ∧ ∀ n ∈ y.1.weights P ts[i], n ≤ reachBytes := by
  obtain ⟨xs, n, rfl, rfl, hlen, hxl, hf⟩ := DataW.trod_struct hu h
  refine ⟨n, fun i hi hc => ?_⟩
  have hfl : fs.toList.length = ts.length := by
    have := congrArg List.length ho
    simpa using this
  have hif : i < fs.toList.length := by omega
  have hget := congrArg (fun l => l[i]?) ho
  simp only [List.getElem?_map, List.getElem?_eq_getElem hif, Option.map_some] at hget
  rw [List.getElem?_eq_getElem (by simp; omega)] at hget
  simp only [List.getElem_zip, List.getElem_range, Option.some.injEq, Prod.mk.injEq] at hget
  have hfi := hf i fs.toList[i] (by rw [← Array.getElem?_toList, List.getElem?_eq_getElem hif])
  rw [hget.1, hget.2, h1 _ (List.getElem_mem hi)] at hfi
  have hdt : (cs.drop i).take 1 = [cs[i]] := by rw [List.drop_eq_getElem_cons hc]; rfl
  rw [hdt] at hfi
  have hix : i < xs.length := by rw [hxl]; simpa using hif
  rw [List.getElem?_eq_getElem hix] at hfi
  refine ⟨xs[i], hfi, fun n hn => hz n ?_⟩
  simp only [DataW.weights, hu]
  exact DataW.weights_mem_each (j := i) (t := ts[i]) (d := xs[i].1) (by rw [List.getElem?_map, List.getElem?_eq_getElem hif, ← hget.2]; rfl) (by rw [List.getElem?_map, List.getElem?_eq_getElem hix]; rfl) n hn
end
end Go.Proofs.YtiniicehfjgpgaaGreat
