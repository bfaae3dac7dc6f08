/- Layer 9 in plain words: digits, keys and values, elements here and in a file, what a message is read as. No walk. -/
import Derived.Test.YtiniicehfjgpgaaGreatMath
import Derived.Test.YtiniicehfjgpgaaGreatWOpen
import Derived.Test.YtiniicehfjgpgaaGreatTMade
import Derived.Test.YtiniicehfjgpgaaGreatOFMath
namespace Go.Proofs.YtiniicehfjgpgaaGreat
namespace M9
open Go.RowKit M1 M2 M3 M8
open M7 (Ten ck nm)

/-- the zero tensor -/
def z9 : Ten := ⟨⟨#[]⟩, 0, [], ⟨#[]⟩⟩
def has (l : List WFd) (num : Int) : Bool := decide (ofNum l num ≠ [])
/-- the last field of a number, if there is one, is of a Type -/
def okF (l : List WFd) (num typ : Int) : Bool := decide (ofNum l num = []) || decide ((lastF l num).typ = typ)
theorem okF_no {l : List WFd} {num typ : Int} (h : ofNum l num = []) : okF l num typ = true := by unfold okF; simp [h]
theorem okF_yes {l : List WFd} {num typ : Int} (h : ofNum l num ≠ []) : okF l num typ = decide ((lastF l num).typ = typ) := by unfold okF; simp [h]

/-- a digit -/
def isd (c : UInt8) : Bool := decide (48 ≤ c.toNat) && decide (c.toNat ≤ 57)
def dgv (l : List UInt8) : Nat := l.foldl (fun n c => n * 10 + (c.toNat - 48)) 0
/-- a 0 ahead of others -/
def lead (s : ByteArray) : Bool := if h : 1 < s.size then decide (s[0].toNat = 48) else false
def dgo (s : ByteArray) : Bool := decide (1 ≤ s.size) && decide (s.size ≤ 18) && !lead s && s.data.toList.all isd
/-- the number of digits; -1: they are none -/
def dg (s : ByteArray) : Int := if dgo s = true then (dgv s.data.toList : Int) else -1
theorem fold_lt : ∀ (l : List UInt8) (n : Nat), l.all isd = true → l.foldl (fun n c => n * 10 + (c.toNat - 48)) n < (n + 1) * 10 ^ l.length
  | [], n, _ => by simp
  | c :: l, n, h => by
    simp only [List.all_cons, Bool.and_eq_true, isd, decide_eq_true_eq] at h
    obtain ⟨⟨h1, h2⟩, h3⟩ := h
    have ih := fold_lt l (n * 10 + (c.toNat - 48)) h3
    rw [List.foldl_cons, List.length_cons, Nat.pow_succ]
    refine Nat.lt_of_lt_of_le ih ?_
    have : n * 10 + (c.toNat - 48) + 1 ≤ (n + 1) * 10 := by omega
    calc (n * 10 + (c.toNat - 48) + 1) * 10 ^ l.length ≤ ((n + 1) * 10) * 10 ^ l.length := Nat.mul_le_mul_right _ this
      _ = (n + 1) * (10 ^ l.length * 10) := by rw [Nat.mul_assoc, Nat.mul_comm 10]
theorem dgv_lt {l : List UInt8} (h : l.all isd = true) : dgv l < 10 ^ l.length := by have := fold_lt l 0 h; simpa [dgv] using this
theorem dgv_snoc {s : ByteArray} {k : Nat} (h : k < s.size) : dgv (s.data.toList.take (k + 1)) = dgv (s.data.toList.take k) * 10 + (s[k].toNat - 48) := by
  rw [take_snoc h]; unfold dgv; rw [List.foldl_append]; rfl
theorem dg_in (s : ByteArray) : -1 ≤ dg s ∧ dg s < 1000000000000000000 := by
  unfold dg
  split
  · rename_i h
    simp only [dgo, Bool.and_eq_true, decide_eq_true_eq] at h
    obtain ⟨⟨⟨h1, h2⟩, h3⟩, h4⟩ := h
    have hl := dgv_lt h4
    have e : s.data.toList.length = s.size := by simp
    rw [e] at hl
    have : 10 ^ s.size ≤ 10 ^ 18 := Nat.pow_le_pow_right (by omega) h2
    omega
  · omega
theorem dg_empty {s : ByteArray} (h : s.size = 0) : dg s = -1 := by unfold dg; rw [if_neg]; simp [dgo, h]
theorem dg_long {s : ByteArray} (h : 18 < s.size) : dg s = -1 := by
  unfold dg; rw [if_neg]; unfold dgo; rw [decide_eq_false (by omega : ¬ s.size ≤ 18)]; simp
theorem dg_lead {s : ByteArray} (h : lead s = true) : dg s = -1 := by unfold dg; rw [if_neg]; simp [dgo, h]
theorem dg_bad {s : ByteArray} {k : Nat} (hk : k < s.size) (h : isd s[k] = false) : dg s = -1 := by
  unfold dg; rw [if_neg]; unfold dgo
  have : s.data.toList.all isd = false := by
    rw [List.all_eq_false]
    exact ⟨s[k], by show s.data[k] ∈ s.data.toList; simp, by simp [h]⟩
  rw [this]; simp
theorem dg_ok {s : ByteArray} (h1 : 1 ≤ s.size) (h2 : s.size ≤ 18) (h3 : lead s = false) (h4 : s.data.toList.all isd = true) : dg s = (dgv s.data.toList : Int) := by
  unfold dg; rw [if_pos]; unfold dgo; rw [decide_eq_true h1, decide_eq_true h2, h3, h4]; rfl
theorem lead_at {s : ByteArray} (h : 1 < s.size) : lead s = decide (s[0].toNat = 48) := dif_pos h
theorem lead_one {s : ByteArray} (h : ¬ 1 < s.size) : lead s = false := dif_neg h

/-- keys and values, message by message, and the error -/
abbrev KV := ByteArray × ByteArray
def kvs : List ByteArray → List KV → List KV × Nat
  | [], acc => (acc, 0)
  | b :: r, acc => if (fields b).2 ≠ 0 then ([], (fields b).2)
    else if (okF (fields b).1 1 2 && okF (fields b).1 2 2) = false then ([], 3)
    else kvs r (acc ++ [((lastF (fields b).1 1).data, (lastF (fields b).1 2).data)])
/-- the last value of a key -/
def val (l : List KV) (k : ByteArray) : Option ByteArray := (l.reverse.find? fun p => decide (p.1 = k)).map (·.2)
theorem val_nil (k : ByteArray) : val [] k = none := rfl
theorem val_snoc (l : List KV) (p : KV) (k : ByteArray) : val (l ++ [p]) k = if p.1 = k then some p.2 else val l k := by
  unfold val
  rw [List.reverse_append, List.reverse_singleton, List.singleton_append, List.find?_cons]
  by_cases h : p.1 = k <;> simp [h]
theorem val_in {l : List KV} {k v : ByteArray} (h : val l k = some v) : ∃ p ∈ l, p.2 = v := by
  unfold val at h
  simp only [Option.map_eq_some_iff] at h
  obtain ⟨p, hp, rfl⟩ := h
  exact ⟨p, by simpa using List.mem_of_find?_eq_some hp, rfl⟩
def num (l : List KV) (k : ByteArray) (other : Int) : Int := match val l k with | none => other | some s => dg s
theorem num_none {l : List KV} {k : ByteArray} {other : Int} (h : val l k = none) : num l k other = other := by unfold num; rw [h]
theorem num_some {l : List KV} {k s : ByteArray} {other : Int} (h : val l k = some s) : num l k other = dg s := by unfold num; rw [h]
def kLoc : ByteArray := ⟨#[108, 111, 99, 97, 116, 105, 111, 110]⟩
def kOff : ByteArray := ⟨#[111, 102, 102, 115, 101, 116]⟩
def kLen : ByteArray := ⟨#[108, 101, 110, 103, 116, 104]⟩

/-- bytes of small elements -/
def smallD (row : List Int) (m : Int) : ByteArray × Int := if row.all (fun n => decide (0 ≤ n) && decide (n ≤ m)) = true then (⟨(row.map fun n => UInt8.ofNat n.toNat).toArray⟩, 0) else (⟨#[]⟩, 17)
def great (k : Int) : Int := if k = 9 then 1 else 255
/-- elements that are here -/
def here (k : Int) (d : ByteArray) (hs : Bool) (small ints : List Int) : ByteArray × Int :=
  if hs = true then (if small ≠ [] ∨ ints ≠ [] then (⟨#[]⟩, 19) else (d, 0))
  else if small ≠ [] ∧ k ≠ 2 ∧ k ≠ 9 then (⟨#[]⟩, 5) else if ints ≠ [] ∧ k ≠ 7 then (⟨#[]⟩, 5)
  else if k = 7 then (⟨(flat (fun n => l8 (M7.us n)) 8 ints).toArray⟩, 0) else smallD small (great k)
/-- elements in a file -/
def inFile (size : Int) (hs : Bool) (small ints : List Int) (bs : List ByteArray) (fs : List Fl) : ByteArray × Int :=
  if hs = true ∨ small ≠ [] ∨ ints ≠ [] then (⟨#[]⟩, 19)
  else if (kvs bs []).2 ≠ 0 then (⟨#[]⟩, ((kvs bs []).2 : Int))
  else match val (kvs bs []).1 kLoc with
  | none => (⟨#[]⟩, 18)
  | some key => if num (kvs bs []).1 kOff 0 < 0 then (⟨#[]⟩, 17) else if num (kvs bs []).1 kLen size < 0 then (⟨#[]⟩, 17)
    else if num (kvs bs []).1 kLen size ≠ size then (⟨#[]⟩, 7) else rdC fs key (num (kvs bs []).1 kOff 0) size
/-- what a tensor is with its elements, and the error -/
def fin (t : Ten) (r : ByteArray × Int) : Ten × Int :=
  if r.2 ≠ 0 then (z9, r.2) else if ck ⟨t.name, t.kind, t.dims, r.1⟩ ≠ 0 then (z9, ck ⟨t.name, t.kind, t.dims, r.1⟩) else (⟨t.name, t.kind, t.dims, r.1⟩, 0)
theorem fin_err {t : Ten} {r : ByteArray × Int} (h : r.2 ≠ 0) : fin t r = (z9, r.2) := if_pos h
theorem fin_ck {t : Ten} {r : ByteArray × Int} (h : r.2 = 0) (h2 : ck ⟨t.name, t.kind, t.dims, r.1⟩ ≠ 0) : fin t r = (z9, ck ⟨t.name, t.kind, t.dims, r.1⟩) := by unfold fin; rw [if_neg (by simp [h]), if_pos h2]
theorem fin_ok {t : Ten} {r : ByteArray × Int} (h : r.2 = 0) (h2 : ck ⟨t.name, t.kind, t.dims, r.1⟩ = 0) : fin t r = (⟨t.name, t.kind, t.dims, r.1⟩, 0) := by unfold fin; rw [if_neg (by simp [h]), if_neg (by simp [h2])]

/-- the rows of a message, and the error -/
structure Rws9 where
  d : List Int
  s : List Int
  i : List Int
  t : List ByteArray
def zr : Rws9 := ⟨[], [], [], []⟩
def rowsOf (R1 R5 R7 : List Int × Nat) (RT : List ByteArray × Nat) : Rws9 × Nat :=
  if R1.2 ≠ 0 then (zr, R1.2) else if R5.2 ≠ 0 then (zr, R5.2) else if R7.2 ≠ 0 then (zr, R7.2) else if RT.2 ≠ 0 then (zr, RT.2) else (⟨R1.1, R5.1, R7.1, RT.1⟩, 0)
def rows (l : List WFd) : Rws9 × Nat := rowsOf (ints (ofNum l 1) []) (ints (ofNum l 5) []) (ints (ofNum l 7) []) (txts (ofNum l 13) [])
def kindN (n : Nat) : Int := if isKind (n : Int) = true then (n : Int) else 0
/-- what is wrong ahead of the elements, and how many bytes they have -/
def chk (wh : Nat) (name : ByteArray) (k : Int) (dims : List Int) : Int × Int :=
  if wh ≠ 0 ∧ wh ≠ 1 then (0, 19) else if nm name = false then (0, 8) else if kSize k = 0 then (0, 5) else ((M5.sz dims).1 * kSize k, ((M5.sz dims).2 : Int))
/-- what a message tells -/
structure Msg where
  t : Ten
  size : Int
  wh : Nat
  d : ByteArray
  hs : Bool
  s : List Int
  i : List Int
  b : List ByteArray
def zm : Msg := ⟨z9, 0, 0, ⟨#[]⟩, false, [], [], []⟩
def okFs (l : List WFd) : Bool := okF l 2 0 && okF l 8 2 && okF l 9 2 && okF l 14 0
/-- the message of fields and rows -/
def mk (l : List WFd) (r : Rws9) (size : Int) : Msg := ⟨⟨(lastF l 8).data, kindN (lastF l 2).n, r.d, ⟨#[]⟩⟩, size, (lastF l 14).n, (lastF l 9).data, has l 9, r.s, r.i, r.t⟩
def chkL (l : List WFd) (r : Rws9) : Int × Int := chk (lastF l 14).n (lastF l 8).data (kindN (lastF l 2).n) r.d
def msgL (l : List WFd) : Msg × Int :=
  if okFs l = false then (zm, 3) else if (rows l).2 ≠ 0 then (zm, ((rows l).2 : Int))
  else if (chkL l (rows l).1).2 ≠ 0 then (zm, (chkL l (rows l).1).2) else (mk l (rows l).1 (chkL l (rows l).1).1, 0)
def msg (b : ByteArray) : Msg × Int := if (fields b).2 ≠ 0 then (zm, ((fields b).2 : Int)) else msgL (fields b).1
/-- the elements of a message -/
def elems (m : Msg) (fs : List Fl) : ByteArray × Int := if m.wh = 1 then inFile m.size m.hs m.s m.i m.b fs else here m.t.kind m.d m.hs m.s m.i
/-- P9.1: the tensor of a message, and the error -/
def rd9 (b : ByteArray) (fs : List Fl) : Ten × Int := if (msg b).2 ≠ 0 then (z9, (msg b).2) else fin (msg b).1.t (elems (msg b).1 fs)
theorem rd9_err {b : ByteArray} {fs : List Fl} (h : (msg b).2 ≠ 0) : rd9 b fs = (z9, (msg b).2) := if_pos h
theorem rd9_ok {b : ByteArray} {fs : List Fl} (h : (msg b).2 = 0) : rd9 b fs = fin (msg b).1.t (elems (msg b).1 fs) := if_neg (by simp [h])
end M9
end Go.Proofs.YtiniicehfjgpgaaGreat
/- What the fields of a text are: their numbers fit, their texts are no longer than the text. No walk. -/
namespace Go.Proofs.YtiniicehfjgpgaaGreat
open Go.RowKit M1 M2 M3 M9

theorem et_le (n : Nat) : (⟨#[]⟩ : ByteArray).size ≤ n := Nat.zero_le n
theorem fd0_ok (n : Nat) : FOk fd0 ∧ fd0.data.size ≤ n := ⟨⟨by decide, by decide, by decide, by decide, by show (0 : Nat) < _; omega, et_le _⟩, et_le _⟩
theorem rest_le (s : ByteArray) (k : Nat) : (rest s k).size ≤ s.size := by rw [rest_size]; omega
theorem rt_le (s : ByteArray) : (rt s).1.size ≤ s.size := by
  unfold rt
  split
  · exact et_le _
  · split
    · exact et_le _
    · rw [ByteArray.size_extract]; omega
theorem pay_data (t : Nat) (s : ByteArray) : (pay t s).2.1.size ≤ s.size := by
  unfold pay
  split
  · exact et_le _
  · split
    · exact et_le _
    · split
      · exact rt_le s
      · exact et_le _
theorem pay_num (t : Nat) (s : ByteArray) : Fits64 (pay t s).1 := by
  unfold pay
  split
  · exact rd_fits s
  · split
    · exact rl_fits s (by omega)
    · split
      · show (0 : Nat) < _; omega
      · exact rl_fits s (by omega)
theorem one_ok (s : ByteArray) (hs : s.size ≤ 140737488351232) : FOk (one s).1 ∧ (one s).1.data.size ≤ s.size := by
  unfold one
  split
  · exact fd0_ok _
  · split
    · exact fd0_ok _
    · split
      · exact fd0_ok _
      · have hx := rd_fits s
        unfold Fits64 at hx
        have hd := Nat.le_trans (pay_data ((rd s).1 % 8) (rest s (rd s).2.1)) (rest_le s _)
        exact ⟨⟨by dsimp only; omega, by dsimp only; omega, by dsimp only; omega, by dsimp only; omega, pay_num _ _, by dsimp only; omega⟩, hd⟩
theorem fl_ok (k : Nat) : ∀ s : ByteArray, s.size ≤ 140737488351232 → ∀ f ∈ (fl k s).1, FOk f ∧ f.data.size ≤ s.size := by
  induction k with
  | zero => intro s _ f hf; simp [fl] at hf
  | succ k ih =>
    intro s hs f hf
    rw [fl] at hf
    split at hf
    · simp at hf
    · split at hf
      · simp at hf
      · split at hf
        · simp at hf
        · rcases List.mem_cons.1 hf with rfl | hf
          · exact one_ok s hs
          · have h := ih _ (Nat.le_trans (rest_le s _) hs) f hf
            exact ⟨h.1, Nat.le_trans h.2 (rest_le s _)⟩
theorem fields_ok {s : ByteArray} : ∀ f ∈ (fields s).1, FOk f ∧ f.data.size ≤ 1048576 := by
  intro f hf
  unfold fields at hf
  split at hf
  · simp at hf
  · have h := fl_ok _ s (by omega) f hf
    exact ⟨h.1, Nat.le_trans h.2 (by omega)⟩
theorem fields_size {s : ByteArray} (h : (fields s).2 = 0) : s.size ≤ 1048576 := by
  unfold fields at h
  split at h
  · simp at h
  · omega
theorem fields_len (s : ByteArray) : (fields s).1.length ≤ 1048576 := by
  unfold fields
  split
  · simp
  · exact Nat.le_trans (fields_list_le s) (by omega)
theorem lastF_ok {l : List WFd} (h : ∀ f ∈ l, FOk f ∧ f.data.size ≤ 1048576) (num : Int) : FOk (lastF l num) ∧ (lastF l num).data.size ≤ 1048576 := by
  unfold lastF
  cases e : (ofNum l num).getLast? with
  | none => exact fd0_ok _
  | some f => exact h f (List.mem_filter.1 (List.mem_of_getLast? e)).1
theorem txts_in (l : List WFd) : ∀ (acc : List ByteArray) (n : Nat), (∀ b ∈ acc, b.size ≤ n) → (∀ f ∈ l, f.data.size ≤ n) → ∀ b ∈ (txts l acc).1, b.size ≤ n := by
  induction l with
  | nil => intro acc n h _ b hb; exact h b hb
  | cons f l ih =>
    intro acc n h hl b hb
    rw [txts] at hb
    split at hb
    · simp at hb
    · refine ih (acc ++ [f.data]) n (fun b hb => ?_) (fun g hg => hl g (List.mem_cons_of_mem _ hg)) b hb
      rcases List.mem_append.1 hb with hb | hb
      · exact h b hb
      · rw [List.mem_singleton.1 hb]; exact hl f List.mem_cons_self
theorem ofNum_mem {l : List WFd} {num : Int} {f : WFd} (h : f ∈ ofNum l num) : f ∈ l := (List.mem_filter.1 h).1
theorem pk_in (k : Nat) : ∀ (s : ByteArray) (acc : List Int), (∀ n ∈ acc, In64 n) → ∀ n ∈ (pk k s acc).1, In64 n := by
  induction k with
  | zero => intro s acc h n hn; exact h n (by simpa [pk] using hn)
  | succ k ih =>
    intro s acc h n hn
    rw [pk] at hn
    split at hn
    · exact h n hn
    · split at hn
      · simp at hn
      · split at hn
        · simp at hn
        · refine ih _ _ (fun m hm => ?_) n hn
          rcases List.mem_append.1 hm with hm | hm
          · exact h m hm
          · rw [List.mem_singleton.1 hm]; exact sg_in _
theorem addF_in (f : WFd) {acc : List Int} (h : ∀ n ∈ acc, In64 n) : ∀ n ∈ (addF f acc).1, In64 n := by
  unfold addF
  split
  · split
    · simp
    · intro n hn
      rcases List.mem_append.1 hn with hn | hn
      · exact h n hn
      · rw [List.mem_singleton.1 hn]; exact sg_in _
  · split
    · exact pk_in _ _ _ h
    · simp
theorem ints_in (l : List WFd) : ∀ (acc : List Int), (∀ n ∈ acc, In64 n) → ∀ n ∈ (ints l acc).1, In64 n := by
  induction l with
  | nil => intro acc h; exact h
  | cons f l ih =>
    intro acc h
    rw [ints]
    split
    · simp
    · exact ih _ (addF_in f h)
/-- the rows of a message fit -/
structure RwOk (r : Rws9) : Prop where
  dl : r.d.length ≤ 65536
  sl : r.s.length ≤ 65536
  il : r.i.length ≤ 65536
  tl : r.t.length ≤ 1048576
  di : ∀ n ∈ r.d, I64 n
  tb : ∀ b ∈ r.t, b.size ≤ 1048576
theorem zr_ok : RwOk zr := ⟨by simp [zr], by simp [zr], by simp [zr], by simp [zr], by simp [zr], by simp [zr]⟩
theorem rows_ok {l : List WFd} (hl : l.length ≤ 1048576) (h : ∀ f ∈ l, FOk f ∧ f.data.size ≤ 1048576) : RwOk (rows l).1 := by
  unfold rows rowsOf
  split
  · exact zr_ok
  · split
    · exact zr_ok
    · split
      · exact zr_ok
      · split
        · exact zr_ok
        · refine ⟨ints_le _ _ (by simp), ints_le _ _ (by simp), ints_le _ _ (by simp), ?_, ints_in _ _ (by simp), txts_in _ _ _ (by simp) (fun f hf => (h f (ofNum_mem hf)).2)⟩
          have h1 := txts_le (ofNum l 13) []
          have h2 := ofNum_le l 13
          simp at h1
          dsimp only
          omega
end Go.Proofs.YtiniicehfjgpgaaGreat
