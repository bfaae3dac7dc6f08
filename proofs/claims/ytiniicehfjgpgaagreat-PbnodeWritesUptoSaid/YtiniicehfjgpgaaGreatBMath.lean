/- Layer 9 in plain words: digits, keys and values, elements here and in a file, what a message is read as. No walk. -/
import Derived.Test.YtiniicehfjgpgaaGreatMath
import Derived.Test.YtiniicehfjgpgaaGreatWCells
import Derived.Test.YtiniicehfjgpgaaGreatWOpen
import Derived.Test.YtiniicehfjgpgaaGreatTMade
import Derived.Test.YtiniicehfjgpgaaGreatOFMath
import Derived.Test.YtiniicehfjgpgaaGreatTCheck
namespace Go.Proofs.YtiniicehfjgpgaaGreat
namespace M9
open Go.RowKit M1 M2 M3 M8
open M7 (Ten ck nm)

/-- the zero tensor -/
def z9 : Ten := ⟨⟨#[]⟩, 0, [], ⟨#[]⟩⟩
def has (l : List WFd) (num : Int) : Bool := decide (ofNum l num ≠ [])
/-- the last field of a number, if there is one, is of a Type -/
def okF (l : List WFd) (num typ : Int) : Bool := decide (ofNum l num = []) || decide ((lastF l num).typ = typ)
theorem okF_no {l : List WFd} {num typ : Int} (h : ofNum l num = []) : okF l num typ = true := by unfold okF; simp [h]
theorem okF_yes {l : List WFd} {num typ : Int} (h : ofNum l num ≠ []) : okF l num typ = decide ((lastF l num).typ = typ) := by unfold okF; simp [h]

/-- a digit -/
def isd (c : UInt8) : Bool := decide (48 ≤ c.toNat) && decide (c.toNat ≤ 57)
def dgv (l : List UInt8) : Nat := l.foldl (fun n c => n * 10 + (c.toNat - 48)) 0
/-- a 0 ahead of others -/
def lead (s : ByteArray) : Bool := if h : 1 < s.size then decide (s[0].toNat = 48) else false
def dgo (s : ByteArray) : Bool := decide (1 ≤ s.size) && decide (s.size ≤ 18) && !lead s && s.data.toList.all isd
/-- the number of digits; -1: they are none -/
def dg (s : ByteArray) : Int := if dgo s = true then (dgv s.data.toList : Int) else -1
theorem fold_lt : ∀ (l : List UInt8) (n : Nat), l.all isd = true → l.foldl (fun n c => n * 10 + (c.toNat - 48)) n < (n + 1) * 10 ^ l.length
  | [], n, _ => by simp
  | c :: l, n, h => by
    simp only [List.all_cons, Bool.and_eq_true, isd, decide_eq_true_eq] at h
    obtain ⟨⟨h1, h2⟩, h3⟩ := h
    have ih := fold_lt l (n * 10 + (c.toNat - 48)) h3
    rw [List.foldl_cons, List.length_cons, Nat.pow_succ]
    refine Nat.lt_of_lt_of_le ih ?_
    have : n * 10 + (c.toNat - 48) + 1 ≤ (n + 1) * 10 := by omega
    calc (n * 10 + (c.toNat - 48) + 1) * 10 ^ l.length ≤ ((n + 1) * 10) * 10 ^ l.length := Nat.mul_le_mul_right _ this
      _ = (n + 1) * (10 ^ l.length * 10) := by rw [Nat.mul_assoc, Nat.mul_comm 10]
theorem dgv_lt {l : List UInt8} (h : l.all isd = true) : dgv l < 10 ^ l.length := by have := fold_lt l 0 h; simpa [dgv] using this
theorem dgv_snoc {s : ByteArray} {k : Nat} (h : k < s.size) : dgv (s.data.toList.take (k + 1)) = dgv (s.data.toList.take k) * 10 + (s[k].toNat - 48) := by
  rw [take_snoc h]; unfold dgv; rw [List.foldl_append]; rfl
theorem dg_in (s : ByteArray) : -1 ≤ dg s ∧ dg s < 1000000000000000000 := by
  unfold dg
  split
  · rename_i h
    simp only [dgo, Bool.and_eq_true, decide_eq_true_eq] at h
    obtain ⟨⟨⟨h1, h2⟩, h3⟩, h4⟩ := h
    have hl := dgv_lt h4
    have e : s.data.toList.length = s.size := by simp
    rw [e] at hl
    have : 10 ^ s.size ≤ 10 ^ 18 := Nat.pow_le_pow_right (by omega) h2
    omega
  · omega
theorem dg_empty {s : ByteArray} (h : s.size = 0) : dg s = -1 := by unfold dg; rw [if_neg]; simp [dgo, h]
theorem dg_long {s : ByteArray} (h : 18 < s.size) : dg s = -1 := by
  unfold dg; rw [if_neg]; unfold dgo; rw [decide_eq_false (by omega : ¬ s.size ≤ 18)]; simp
theorem dg_lead {s : ByteArray} (h : lead s = true) : dg s = -1 := by unfold dg; rw [if_neg]; simp [dgo, h]
theorem dg_bad {s : ByteArray} {k : Nat} (hk : k < s.size) (h : isd s[k] = false) : dg s = -1 := by
  unfold dg; rw [if_neg]; unfold dgo
  have : s.data.toList.all isd = false := by
    rw [List.all_eq_false]
    exact ⟨s[k], by show s.data[k] ∈ s.data.toList; simp, by simp [h]⟩
  rw [this]; simp
theorem dg_ok {s : ByteArray} (h1 : 1 ≤ s.size) (h2 : s.size ≤ 18) (h3 : lead s = false) (h4 : s.data.toList.all isd = true) : dg s = (dgv s.data.toList : Int) := by
  unfold dg; rw [if_pos]; unfold dgo; rw [decide_eq_true h1, decide_eq_true h2, h3, h4]; rfl
theorem lead_at {s : ByteArray} (h : 1 < s.size) : lead s = decide (s[0].toNat = 48) := dif_pos h
theorem lead_one {s : ByteArray} (h : ¬ 1 < s.size) : lead s = false := dif_neg h

/-- keys and values, message by message, and the error -/
abbrev KV := ByteArray × ByteArray
def kvs : List ByteArray → List KV → List KV × Nat
  | [], acc => (acc, 0)
  | b :: r, acc => if (fields b).2 ≠ 0 then ([], (fields b).2)
    else if (okF (fields b).1 1 2 && okF (fields b).1 2 2) = false then ([], 3)
    else kvs r (acc ++ [((lastF (fields b).1 1).data, (lastF (fields b).1 2).data)])
/-- the last value of a key -/
def val (l : List KV) (k : ByteArray) : Option ByteArray := (l.reverse.find? fun p => decide (p.1 = k)).map (·.2)
theorem val_nil (k : ByteArray) : val [] k = none := rfl
theorem val_snoc (l : List KV) (p : KV) (k : ByteArray) : val (l ++ [p]) k = if p.1 = k then some p.2 else val l k := by
  unfold val
  rw [List.reverse_append, List.reverse_singleton, List.singleton_append, List.find?_cons]
  by_cases h : p.1 = k <;> simp [h]
theorem val_in {l : List KV} {k v : ByteArray} (h : val l k = some v) : ∃ p ∈ l, p.2 = v := by
  unfold val at h
  simp only [Option.map_eq_some_iff] at h
  obtain ⟨p, hp, rfl⟩ := h
  exact ⟨p, by simpa using List.mem_of_find?_eq_some hp, rfl⟩
def num (l : List KV) (k : ByteArray) (other : Int) : Int := match val l k with | none => other | some s => dg s
theorem num_none {l : List KV} {k : ByteArray} {other : Int} (h : val l k = none) : num l k other = other := by unfold num; rw [h]
theorem num_some {l : List KV} {k s : ByteArray} {other : Int} (h : val l k = some s) : num l k other = dg s := by unfold num; rw [h]
def kLoc : ByteArray := ⟨#[108, 111, 99, 97, 116, 105, 111, 110]⟩
def kOff : ByteArray := ⟨#[111, 102, 102, 115, 101, 116]⟩
def kLen : ByteArray := ⟨#[108, 101, 110, 103, 116, 104]⟩

/-- bytes of small elements -/
def smallD (row : List Int) (m : Int) : ByteArray × Int := if row.all (fun n => decide (0 ≤ n) && decide (n ≤ m)) = true then (⟨(row.map fun n => UInt8.ofNat n.toNat).toArray⟩, 0) else (⟨#[]⟩, 17)
def great (k : Int) : Int := if k = 9 then 1 else 255
/-- elements that are here -/
def here (k : Int) (d : ByteArray) (hs : Bool) (small ints : List Int) : ByteArray × Int :=
  if hs = true then (if small ≠ [] ∨ ints ≠ [] then (⟨#[]⟩, 19) else (d, 0))
  else if small ≠ [] ∧ k ≠ 2 ∧ k ≠ 9 then (⟨#[]⟩, 5) else if ints ≠ [] ∧ k ≠ 7 then (⟨#[]⟩, 5)
  else if k = 7 then (⟨(flat (fun n => l8 (M7.us n)) 8 ints).toArray⟩, 0) else smallD small (great k)
/-- elements in a file -/
def inFile (size : Int) (hs : Bool) (small ints : List Int) (bs : List ByteArray) (fs : List Fl) : ByteArray × Int :=
  if hs = true ∨ small ≠ [] ∨ ints ≠ [] then (⟨#[]⟩, 19)
  else if (kvs bs []).2 ≠ 0 then (⟨#[]⟩, ((kvs bs []).2 : Int))
  else match val (kvs bs []).1 kLoc with
  | none => (⟨#[]⟩, 18)
  | some key => if num (kvs bs []).1 kOff 0 < 0 then (⟨#[]⟩, 17) else if num (kvs bs []).1 kLen size < 0 then (⟨#[]⟩, 17)
    else if num (kvs bs []).1 kLen size ≠ size then (⟨#[]⟩, 7) else rdC fs key (num (kvs bs []).1 kOff 0) size
/-- what a tensor is with its elements, and the error -/
def fin (t : Ten) (r : ByteArray × Int) : Ten × Int :=
  if r.2 ≠ 0 then (z9, r.2) else if ck ⟨t.name, t.kind, t.dims, r.1⟩ ≠ 0 then (z9, ck ⟨t.name, t.kind, t.dims, r.1⟩) else (⟨t.name, t.kind, t.dims, r.1⟩, 0)
theorem fin_err {t : Ten} {r : ByteArray × Int} (h : r.2 ≠ 0) : fin t r = (z9, r.2) := if_pos h
theorem fin_ck {t : Ten} {r : ByteArray × Int} (h : r.2 = 0) (h2 : ck ⟨t.name, t.kind, t.dims, r.1⟩ ≠ 0) : fin t r = (z9, ck ⟨t.name, t.kind, t.dims, r.1⟩) := by unfold fin; rw [if_neg (by simp [h]), if_pos h2]
theorem fin_ok {t : Ten} {r : ByteArray × Int} (h : r.2 = 0) (h2 : ck ⟨t.name, t.kind, t.dims, r.1⟩ = 0) : fin t r = (⟨t.name, t.kind, t.dims, r.1⟩, 0) := by unfold fin; rw [if_neg (by simp [h]), if_neg (by simp [h2])]

/-- the rows of a message, and the error -/
structure Rws9 where
  d : List Int
  s : List Int
  i : List Int
  t : List ByteArray
def zr : Rws9 := ⟨[], [], [], []⟩
def rowsOf (R1 R5 R7 : List Int × Nat) (RT : List ByteArray × Nat) : Rws9 × Nat :=
  if R1.2 ≠ 0 then (zr, R1.2) else if R5.2 ≠ 0 then (zr, R5.2) else if R7.2 ≠ 0 then (zr, R7.2) else if RT.2 ≠ 0 then (zr, RT.2) else (⟨R1.1, R5.1, R7.1, RT.1⟩, 0)
def rows (l : List WFd) : Rws9 × Nat := rowsOf (ints (ofNum l 1) []) (ints (ofNum l 5) []) (ints (ofNum l 7) []) (txts (ofNum l 13) [])
def kindN (n : Nat) : Int := if isKind (n : Int) = true then (n : Int) else 0
/-- what is wrong ahead of the elements, and how many bytes they have -/
def chk (wh : Nat) (name : ByteArray) (k : Int) (dims : List Int) : Int × Int :=
  if wh ≠ 0 ∧ wh ≠ 1 then (0, 19) else if nm name = false then (0, 8) else if kSize k = 0 then (0, 5) else ((M5.sz dims).1 * kSize k, ((M5.sz dims).2 : Int))
/-- what a message tells -/
structure Msg where
  t : Ten
  size : Int
  wh : Nat
  d : ByteArray
  hs : Bool
  s : List Int
  i : List Int
  b : List ByteArray
def zm : Msg := ⟨z9, 0, 0, ⟨#[]⟩, false, [], [], []⟩
def okFs (l : List WFd) : Bool := okF l 2 0 && okF l 8 2 && okF l 9 2 && okF l 14 0
/-- the message of fields and rows -/
def mk (l : List WFd) (r : Rws9) (size : Int) : Msg := ⟨⟨(lastF l 8).data, kindN (lastF l 2).n, r.d, ⟨#[]⟩⟩, size, (lastF l 14).n, (lastF l 9).data, has l 9, r.s, r.i, r.t⟩
def chkL (l : List WFd) (r : Rws9) : Int × Int := chk (lastF l 14).n (lastF l 8).data (kindN (lastF l 2).n) r.d
def msgL (l : List WFd) : Msg × Int :=
  if okFs l = false then (zm, 3) else if (rows l).2 ≠ 0 then (zm, ((rows l).2 : Int))
  else if (chkL l (rows l).1).2 ≠ 0 then (zm, (chkL l (rows l).1).2) else (mk l (rows l).1 (chkL l (rows l).1).1, 0)
def msg (b : ByteArray) : Msg × Int := if (fields b).2 ≠ 0 then (zm, ((fields b).2 : Int)) else msgL (fields b).1
/-- the elements of a message -/
def elems (m : Msg) (fs : List Fl) : ByteArray × Int := if m.wh = 1 then inFile m.size m.hs m.s m.i m.b fs else here m.t.kind m.d m.hs m.s m.i
/-- P9.1: the tensor of a message, and the error -/
def rd9 (b : ByteArray) (fs : List Fl) : Ten × Int := if (msg b).2 ≠ 0 then (z9, (msg b).2) else fin (msg b).1.t (elems (msg b).1 fs)
theorem rd9_err {b : ByteArray} {fs : List Fl} (h : (msg b).2 ≠ 0) : rd9 b fs = (z9, (msg b).2) := if_pos h
theorem rd9_ok {b : ByteArray} {fs : List Fl} (h : (msg b).2 = 0) : rd9 b fs = fin (msg b).1.t (elems (msg b).1 fs) := if_neg (by simp [h])
end M9
end Go.Proofs.YtiniicehfjgpgaaGreat
/- Layer 11 in plain words: attributes, nodes and infos in messages. No walk. -/
namespace Go.Proofs.YtiniicehfjgpgaaGreat
namespace M11
open Go.RowKit M1 M2 M3 M9 M10
open M7 (nm)

def zA11 : Att := ⟨⟨#[]⟩, false, 0, []⟩
def zN11 : Nod := ⟨⟨#[]⟩, [], ⟨#[]⟩, []⟩
def zI11 : Inf := ⟨⟨#[]⟩, 0, []⟩
/-- an attribute of its fields -/
def attrL (l : List WFd) : Att × Nat :=
  if (okF l 1 2 && okF l 3 0 && okF l 20 0) = false then (zA11, 3)
  else if (ints (ofNum l 8) []).2 ≠ 0 then (zA11, (ints (ofNum l 8) []).2)
  else if nm (lastF l 1).data = false then (zA11, 8)
  else if (lastF l 20).n = 2 then (⟨(lastF l 1).data, true, sg (lastF l 3).n, []⟩, 0)
  else if (lastF l 20).n = 7 then (⟨(lastF l 1).data, false, 0, (ints (ofNum l 8) []).1⟩, 0)
  else (zA11, 12)
/-- .. of a message -/
def attrM (b : ByteArray) : Att × Nat := if (fields b).2 ≠ 0 then (zA11, (fields b).2) else attrL (fields b).1
/-- attributes, message by message, and the first error -/
def attrsM : List ByteArray → List Att → List Att × Nat
  | [], acc => (acc, 0)
  | b :: r, acc => if (attrM b).2 ≠ 0 then ([], (attrM b).2) else attrsM r (acc ++ [(attrM b).1])
/-- no two of one name -/
def once (l : List Att) : Bool := decide (l.map Att.name).Nodup
def txtsOk (l : List WFd) : Bool := decide ((txts (ofNum l 1) []).2 = 0) && decide ((txts (ofNum l 2) []).2 = 0) && decide ((txts (ofNum l 5) []).2 = 0)
/-- a node of its fields -/
def nodeL (l : List WFd) : Nod × Nat :=
  if (txtsOk l && okF l 4 2 && okF l 7 2) = false then (zN11, 3)
  else if (txts (ofNum l 2) []).1.length ≠ 1 ∨ 64 < (txts (ofNum l 1) []).1.length then (zN11, 11)
  else if (lastF l 7).data ≠ ⟨#[]⟩ then (zN11, 10)
  else if (attrsM (txts (ofNum l 5) []).1 []).2 ≠ 0 then (zN11, (attrsM (txts (ofNum l 5) []).1 []).2)
  else if once (attrsM (txts (ofNum l 5) []).1 []).1 = false then (zN11, 14)
  else (⟨(lastF l 4).data, (txts (ofNum l 1) []).1, (txts (ofNum l 2) []).1.headD ⟨#[]⟩, (attrsM (txts (ofNum l 5) []).1 []).1⟩, 0)
/-- P11.1: the node of a message -/
def nodeM (b : ByteArray) : Nod × Nat := if (fields b).2 ≠ 0 then (zN11, (fields b).2) else nodeL (fields b).1
/-- texts, one behind the other -/
def joined (l : List ByteArray) : ByteArray := l.foldl (fun s t => s ++ t) ⟨#[]⟩
/-- all texts of a number as one message -/
def whole (l : List WFd) (num : Int) : List WFd × Nat := if (txts (ofNum l num) []).2 ≠ 0 then ([], (txts (ofNum l num) []).2) else fields (joined (txts (ofNum l num) []).1)
/-- dimensions, message by message, and the first error -/
def dimsM : List ByteArray → List Int → List Int × Nat
  | [], acc => (acc, 0)
  | b :: r, acc => if (fields b).2 ≠ 0 then ([], (fields b).2) else if okF (fields b).1 1 0 = false then ([], 3) else if has (fields b).1 1 = false then ([], 6)
    else dimsM r (acc ++ [sg (lastF (fields b).1 1).n])
def kindOk (k : Nat) : Bool := decide (k ≤ 100) && decide (kSize (k : Int) ≠ 0)
/-- P11.1: the info of a message -/
def infoM (b : ByteArray) : Inf × Nat :=
  if (fields b).2 ≠ 0 then (zI11, (fields b).2) else if okF (fields b).1 1 2 = false then (zI11, 3)
  else if (whole (fields b).1 2).2 ≠ 0 then (zI11, (whole (fields b).1 2).2)
  else if (whole (whole (fields b).1 2).1 1).2 ≠ 0 then (zI11, (whole (whole (fields b).1 2).1 1).2)
  else if okF (whole (whole (fields b).1 2).1 1).1 1 0 = false then (zI11, 3)
  else if (whole (whole (whole (fields b).1 2).1 1).1 2).2 ≠ 0 then (zI11, (whole (whole (whole (fields b).1 2).1 1).1 2).2)
  else if (txts (ofNum (whole (whole (whole (fields b).1 2).1 1).1 2).1 1) []).2 ≠ 0 then (zI11, (txts (ofNum (whole (whole (whole (fields b).1 2).1 1).1 2).1 1) []).2)
  else if (dimsM (txts (ofNum (whole (whole (whole (fields b).1 2).1 1).1 2).1 1) []).1 []).2 ≠ 0 then (zI11, (dimsM (txts (ofNum (whole (whole (whole (fields b).1 2).1 1).1 2).1 1) []).1 []).2)
  else if nm (lastF (fields b).1 1).data = false then (zI11, 8)
  else if kindOk (lastF (whole (whole (fields b).1 2).1 1).1 1).n = false then (zI11, 5)
  else (⟨(lastF (fields b).1 1).data, ((lastF (whole (whole (fields b).1 2).1 1).1 1).n : Int), (dimsM (txts (ofNum (whole (whole (whole (fields b).1 2).1 1).1 2).1 1) []).1 []).1⟩, 0)

/-! ### the least writing -/
def tF (k : Int) (s : ByteArray) : WFd := ⟨k, 2, 0, s⟩
def nF (k : Int) (n : Nat) : WFd := ⟨k, 0, n, ⟨#[]⟩⟩
/-- the fields of an attribute -/
def attF (a : Att) : List WFd := if a.one then [tF 1 a.name, nF 3 (us a.int), nF 20 2] else tF 1 a.name :: ((if a.ints = [] then [] else [tF 8 (cps a.ints)]) ++ [nF 20 7])
def wrA (a : Att) : ByteArray := cat (attF a)
/-- .. of a node -/
def nodF (n : Nod) : List WFd := n.ins.map (tF 1) ++ ([tF 2 n.out, tF 4 n.op] ++ n.attrs.map fun a => tF 5 (wrA a))
def wrN (n : Nod) : ByteArray := cat (nodF n)
/-- .. of an info -/
def dimF (l : List Int) : List WFd := l.map fun n => tF 1 (cat [nF 1 (us n)])
def tenF (i : Inf) : List WFd := [nF 1 (us i.kind), tF 2 (cat (dimF i.dims))]
def infF (i : Inf) : List WFd := [tF 1 i.name, tF 2 (cat [tF 1 (cat (tenF i))])]
def wrI (i : Inf) : ByteArray := cat (infF i)

/-- a field as Put writes it: a text, or a number -/
def Pr (f : WFd) : Prop := 1 ≤ f.num ∧ f.num ≤ 100 ∧ ((f.typ = 2 ∧ f.n = 0) ∨ (f.typ = 0 ∧ Fits64 f.n ∧ f.data = ⟨#[]⟩))
theorem Pr.text {k : Int} (s : ByteArray) (h1 : 1 ≤ k) (h2 : k ≤ 100) : Pr (tF k s) := ⟨h1, h2, .inl ⟨rfl, rfl⟩⟩
theorem Pr.num {k : Int} {n : Nat} (h1 : 1 ≤ k) (h2 : k ≤ 100) (hn : Fits64 n) : Pr (nF k n) := ⟨h1, h2, .inr ⟨rfl, hn, rfl⟩⟩
theorem Pr.has {f : WFd} (h : Pr f) : hasB f = true := by
  obtain ⟨h1, h2, ⟨e, _⟩ | ⟨e, _, _⟩⟩ := h
  · obtain ⟨k, t, n, d⟩ := f
    dsimp only at e
    subst e
    exact hasB_yes (fb_part_ne n d h1 h2)
  · obtain ⟨k, t, n, d⟩ := f
    dsimp only at e
    subst e
    exact hasB_yes (fb_num_ne n d h1 h2)
theorem Pr.norm {f : WFd} (h : Pr f) : norm f = f := by
  obtain ⟨k, t, n, d⟩ := f
  obtain ⟨h1, h2, ⟨e, e2⟩ | ⟨e, _, e3⟩⟩ := h
  · dsimp only at e e2; subst e; subst e2; rfl
  · dsimp only at e e3; subst e; subst e3; rfl
theorem wanted_pr : ∀ {l : List WFd}, (∀ f ∈ l, Pr f) → wanted l = l
  | [], _ => rfl
  | f :: l, h => by
    have hf := h f List.mem_cons_self
    have ih := wanted_pr (l := l) fun g hg => h g (List.mem_cons_of_mem _ hg)
    unfold wanted at ih ⊢
    rw [List.filter_cons, if_pos hf.has, List.map_cons, hf.norm, ih]
theorem cat_size_mem : ∀ {l : List WFd} {f : WFd}, f ∈ l → (fb f).size ≤ (cat l).size
  | g :: l, f, h => by
    rw [cat, ByteArray.size_append]
    rcases List.mem_cons.1 h with rfl | h
    · omega
    · have := cat_size_mem h; omega
theorem fb_data_le {f : WFd} (h : Pr f) (ht : f.typ = 2) : f.data.size ≤ (fb f).size := by
  obtain ⟨k, t, n, d⟩ := f
  dsimp only at ht ⊢
  subst ht
  have hm : M2.mayB k 2 = true := by unfold M2.mayB; rw [decide_eq_true_iff]; have := h.1; have := h.2.1; dsimp only at *; omega
  have e : fb ⟨k, 2, n, d⟩ = ps (8 * k + 2).toNat ++ ps d.size ++ d := by unfold fb; simp [hm]
  rw [e, ByteArray.size_append]; omega
/-- fields that are written one behind the other are read as they were -/
theorem fields_cat {l : List WFd} (h : ∀ f ∈ l, Pr f) (hs : (cat l).size ≤ 1048576) : fields (cat l) = (l, 0) := by
  have h1 : flw (cat l) = (l, 0) := by
    rw [flw_cat, wanted_pr h]
    intro f hf
    have hp := h f hf
    refine ⟨?_, ?_⟩
    · rcases hp.2.2 with ⟨_, e⟩ | ⟨_, e, _⟩
      · rw [e]; show (0 : Nat) < _; omega
      · exact e
    · rcases hp.2.2 with ⟨e, _⟩ | ⟨_, _, e⟩
      · have := fb_data_le hp e
        have := cat_size_mem hf
        show f.data.size < _; omega
      · rw [e]; show (0 : Nat) < _; omega
  unfold fields
  rw [if_neg (by omega), h1]
/-! ### what the fields of a writing tell -/
theorem of_map_self (k : Int) (l : List ByteArray) : ofNum (l.map (tF k)) k = l.map (tF k) := by
  unfold ofNum; rw [List.filter_eq_self]; intro f hf; obtain ⟨s, _, rfl⟩ := List.mem_map.1 hf; simp [tF]
theorem of_map_other {k j : Int} (h : k ≠ j) (l : List ByteArray) : ofNum (l.map (tF k)) j = [] := by
  unfold ofNum; rw [List.filter_eq_nil_iff]; intro f hf; obtain ⟨s, _, rfl⟩ := List.mem_map.1 hf; simp [tF, h]
theorem of_app (a b : List WFd) (k : Int) : ofNum (a ++ b) k = ofNum a k ++ ofNum b k := List.filter_append ..
theorem txts_map (k : Int) : ∀ (l acc : List ByteArray), txts (l.map (tF k)) acc = (acc ++ l, 0)
  | [], acc => by simp [txts]
  | s :: l, acc => by
    rw [List.map_cons, txts, if_neg (by simp [tF]), txts_map k l]
    simp [tF]
theorem once_nodup {l : List Att} : once l = true ↔ (l.map Att.name).Nodup := by unfold once; simp
end M11
end Go.Proofs.YtiniicehfjgpgaaGreat
/- What is put is read as it was: attributes, nodes, infos. No walk. -/
namespace Go.Proofs.YtiniicehfjgpgaaGreat
namespace M11
open Go.RowKit M1 M2 M3 M9 M10
open M7 (nm)

theorem in64 {n : Int} (h : I64 n) : In64 n := h
theorem attF_pr (a : Att) : ∀ f ∈ attF a, Pr f := by
  intro f hf
  unfold attF at hf
  cases h : a.one with
  | true =>
    rw [h, if_pos rfl] at hf
    simp only [List.mem_cons, List.not_mem_nil, or_false] at hf
    rcases hf with rfl | rfl | rfl
    · exact Pr.text _ (by omega) (by omega)
    · exact Pr.num (by omega) (by omega) (us_fits _)
    · exact Pr.num (by omega) (by omega) (by unfold Fits64; omega)
  | false =>
    rw [h, if_neg (by simp)] at hf
    by_cases hi : a.ints = []
    · rw [if_pos hi] at hf
      simp only [List.nil_append, List.mem_cons, List.not_mem_nil, or_false] at hf
      rcases hf with rfl | rfl
      · exact Pr.text _ (by omega) (by omega)
      · exact Pr.num (by omega) (by omega) (by unfold Fits64; omega)
    · rw [if_neg hi] at hf
      simp only [List.cons_append, List.nil_append, List.mem_cons, List.not_mem_nil, or_false] at hf
      rcases hf with rfl | rfl | rfl
      · exact Pr.text _ (by omega) (by omega)
      · exact Pr.text _ (by omega) (by omega)
      · exact Pr.num (by omega) (by omega) (by unfold Fits64; omega)
theorem attrM_wrA {a : Att} (hn : nm a.name = true) (hi : I64 a.int) (hl : ∀ n ∈ a.ints, I64 n) (h6 : a.ints.length ≤ 65536) (hs : (wrA a).size ≤ 1048576) : attrM (wrA a) = (nA a, 0) := by
  unfold attrM wrA
  rw [fields_cat (attF_pr a) hs, if_neg (by simp)]
  unfold attrL nA
  cases h : a.one with
  | true =>
    have e : attF a = [tF 1 a.name, nF 3 (us a.int), nF 20 2] := by unfold attF; rw [h]; rfl
    have o1 : ofNum (attF a) 1 = [tF 1 a.name] := by rw [e]; simp [ofNum, tF, nF]
    have o3 : ofNum (attF a) 3 = [nF 3 (us a.int)] := by rw [e]; simp [ofNum, tF, nF]
    have o8 : ofNum (attF a) 8 = [] := by rw [e]; simp [ofNum, tF, nF]
    have o20 : ofNum (attF a) 20 = [nF 20 2] := by rw [e]; simp [ofNum, tF, nF]
    have l1 : lastF (attF a) 1 = tF 1 a.name := by unfold lastF; rw [o1]; rfl
    have l3 : lastF (attF a) 3 = nF 3 (us a.int) := by unfold lastF; rw [o3]; rfl
    have l20 : lastF (attF a) 20 = nF 20 2 := by unfold lastF; rw [o20]; rfl
    have hok : (okF (attF a) 1 2 && okF (attF a) 3 0 && okF (attF a) 20 0) = true := by
      unfold okF; rw [l1, l3, l20]; simp [tF, nF]
    dsimp only
    rw [if_neg (by rw [hok]; simp), o8, if_neg (by simp [ints]), l1, if_neg (by show ¬ nm a.name = false; rw [hn]; simp), l20, if_pos (show (nF 20 2).n = 2 from rfl), l3, if_pos rfl]
    show ((⟨a.name, true, sg (us a.int), []⟩ : Att), 0) = _
    rw [sg_us (in64 hi)]
  | false =>
    have hd : ∀ k : Int, k ≠ 8 → ofNum (if a.ints = [] then [] else [tF 8 (cps a.ints)]) k = [] := by
      intro k hk; split <;> simp [ofNum, tF, Ne.symm hk]
    have e : attF a = [tF 1 a.name] ++ ((if a.ints = [] then [] else [tF 8 (cps a.ints)]) ++ [nF 20 7]) := by unfold attF; rw [h]; rfl
    have o1 : ofNum (attF a) 1 = [tF 1 a.name] := by rw [e, of_app, of_app, hd 1 (by decide)]; simp [ofNum, tF, nF]
    have o3 : ofNum (attF a) 3 = [] := by rw [e, of_app, of_app, hd 3 (by decide)]; simp [ofNum, tF, nF]
    have o20 : ofNum (attF a) 20 = [nF 20 7] := by rw [e, of_app, of_app, hd 20 (by decide)]; simp [ofNum, tF, nF]
    have o8 : ints (ofNum (attF a) 8) [] = (a.ints, 0) := by
      rw [e, of_app, of_app]
      by_cases h0 : a.ints = []
      · rw [if_pos h0, h0]; simp [ofNum, tF, nF, ints]
      · rw [if_neg h0]
        have e8 : ofNum [tF 1 a.name] 8 ++ (ofNum [tF 8 (cps a.ints)] 8 ++ ofNum [nF 20 7] 8) = [tF 8 (cps a.ints)] := by simp [ofNum, tF, nF]
        rw [e8]
        have hp := pks_cps a.ints [] (fun n hn => in64 (hl n hn)) (by simpa using h6)
        have ha : addF (tF 8 (cps a.ints)) [] = (a.ints, 0) := by
          unfold addF tF
          rw [if_neg (by show ¬ (2 : Int) = 0; decide), if_pos rfl]
          simpa using hp
        rw [ints_ok ha]; rfl
    have l1 : lastF (attF a) 1 = tF 1 a.name := by unfold lastF; rw [o1]; rfl
    have l20 : lastF (attF a) 20 = nF 20 7 := by unfold lastF; rw [o20]; rfl
    have hok : (okF (attF a) 1 2 && okF (attF a) 3 0 && okF (attF a) 20 0) = true := by
      rw [okF_no o3]; unfold okF; rw [l1, l20]; simp [tF, nF]
    dsimp only
    rw [if_neg (by rw [hok]; simp), o8, if_neg (by simp), l1, if_neg (by show ¬ nm a.name = false; rw [hn]; simp), l20, if_neg (by show ¬ (7 : Nat) = 2; decide), if_pos (show (nF 20 7).n = 7 from rfl), if_neg (by simp)]
    rfl
theorem attrsM_map : ∀ {l : List Att} (acc : List Att), (∀ a ∈ l, attrM (wrA a) = (nA a, 0)) → attrsM (l.map wrA) acc = (acc ++ l.map nA, 0)
  | [], acc, _ => by simp [attrsM]
  | a :: l, acc, h => by
    have ha := h a List.mem_cons_self
    rw [List.map_cons, attrsM, ha, if_neg (by simp), attrsM_map _ fun b hb => h b (List.mem_cons_of_mem _ hb)]
    simp
theorem nA_name (a : Att) : (nA a).name = a.name := by unfold nA; split <;> rfl
theorem nodF_pr (n : Nod) : ∀ f ∈ nodF n, Pr f := by
  intro f hf
  unfold nodF at hf
  simp only [List.mem_append, List.mem_map, List.mem_cons, List.not_mem_nil, or_false] at hf
  rcases hf with ⟨s, _, rfl⟩ | (rfl | rfl) | ⟨a, _, rfl⟩
  all_goals exact Pr.text _ (by omega) (by omega)
theorem wrA_le {n : Nod} {a : Att} (h : a ∈ n.attrs) : (wrA a).size ≤ (wrN n).size := by
  have hm : tF 5 (wrA a) ∈ nodF n := by
    unfold nodF
    simp only [List.mem_append, List.mem_map]
    exact .inr (.inr ⟨a, h, rfl⟩)
  have h1 := cat_size_mem hm
  have h2 := fb_data_le (Pr.text (k := 5) (wrA a) (by omega) (by omega)) rfl
  unfold wrN
  exact Nat.le_trans h2 h1
/-- P11.2 of nodes -/
theorem nodeM_wrN {n : Nod} (h64 : n.ins.length ≤ 64) (ha : ∀ a ∈ n.attrs, nm a.name = true ∧ I64 a.int ∧ (∀ k ∈ a.ints, I64 k) ∧ a.ints.length ≤ 65536) (hd : (n.attrs.map Att.name).Nodup) (hs : (wrN n).size ≤ 1048576) :
    nodeM (wrN n) = (nN n, 0) := by
  have hf : fields (wrN n) = (nodF n, 0) := fields_cat (nodF_pr n) hs
  have hat : ∀ a ∈ n.attrs, attrM (wrA a) = (nA a, 0) := fun a h => by
    obtain ⟨h1, h2, h3, h4⟩ := ha a h
    exact attrM_wrA h1 h2 h3 h4 (Nat.le_trans (wrA_le h) hs)
  have e5 : (n.attrs.map fun a => tF 5 (wrA a)) = (n.attrs.map wrA).map (tF 5) := by simp
  have o1 : ofNum (nodF n) 1 = n.ins.map (tF 1) := by
    unfold nodF; rw [of_app, of_app, of_map_self, e5, of_map_other (by decide)]; simp [ofNum, tF]
  have o2 : ofNum (nodF n) 2 = [tF 2 n.out] := by
    unfold nodF; rw [of_app, of_app, of_map_other (by decide), e5, of_map_other (by decide)]; simp [ofNum, tF]
  have o4 : ofNum (nodF n) 4 = [tF 4 n.op] := by
    unfold nodF; rw [of_app, of_app, of_map_other (by decide), e5, of_map_other (by decide)]; simp [ofNum, tF]
  have o5 : ofNum (nodF n) 5 = (n.attrs.map wrA).map (tF 5) := by
    unfold nodF; rw [of_app, of_app, of_map_other (by decide), e5, of_map_self]; simp [ofNum, tF]
  have o7 : ofNum (nodF n) 7 = [] := by
    unfold nodF; rw [of_app, of_app, of_map_other (by decide), e5, of_map_other (by decide)]; simp [ofNum, tF]
  have t1 : txts (ofNum (nodF n) 1) [] = (n.ins, 0) := by rw [o1, txts_map]; simp
  have t2 : txts (ofNum (nodF n) 2) [] = ([n.out], 0) := by rw [o2]; simp [txts, tF]
  have t5 : txts (ofNum (nodF n) 5) [] = (n.attrs.map wrA, 0) := by rw [o5, txts_map]; simp
  have l4 : lastF (nodF n) 4 = tF 4 n.op := by unfold lastF; rw [o4]; rfl
  have l7 : lastF (nodF n) 7 = fd0 := last_none o7
  have hm : attrsM (n.attrs.map wrA) [] = (n.attrs.map nA, 0) := by rw [attrsM_map [] hat]; simp
  have hon : once (n.attrs.map nA) = true := by
    rw [once_nodup, List.map_map]
    rwa [show (n.attrs.map (Att.name ∘ nA)) = n.attrs.map Att.name from List.map_congr_left fun a _ => nA_name a]
  unfold nodeM
  rw [hf, if_neg (by simp)]
  unfold nodeL txtsOk
  dsimp only
  rw [t1, t2, t5, okF_no o7]
  have h4 : okF (nodF n) 4 2 = true := by unfold okF; rw [l4]; simp [tF]
  rw [h4, if_neg (by simp), if_neg (by simp; omega), l7, if_neg (by simp [fd0]), hm, if_neg (by simp)]
  dsimp only
  rw [hon, if_neg (by simp), l4]
  rfl
theorem joined_one (s : ByteArray) : joined [s] = s := by
  unfold joined
  exact ByteArray.ext (by simp)
theorem whole_one {l : List WFd} {k : Int} {m : List WFd} (ho : ofNum l k = [tF k (cat m)]) (hm : ∀ f ∈ m, Pr f) (hs : (cat m).size ≤ 1048576) : whole l k = (m, 0) := by
  unfold whole
  have t : txts (ofNum l k) [] = ([cat m], 0) := by rw [ho]; simp [txts, tF]
  rw [t, if_neg (by simp), joined_one, fields_cat hm hs]
theorem cat_one_le {k : Int} {s : ByteArray} (h1 : 1 ≤ k) (h2 : k ≤ 100) {l : List WFd} (h : tF k s ∈ l) : s.size ≤ (cat l).size :=
  Nat.le_trans (fb_data_le (Pr.text (k := k) s h1 h2) rfl) (cat_size_mem h)
theorem dimF_pr (l : List Int) : ∀ f ∈ dimF l, Pr f := by
  intro f hf
  obtain ⟨n, _, rfl⟩ := List.mem_map.1 hf
  exact Pr.text _ (by omega) (by omega)
theorem dimsM_map : ∀ {l : List Int} (acc : List Int), (∀ n ∈ l, I64 n) → dimsM (l.map fun n => cat [nF 1 (us n)]) acc = (acc ++ l, 0)
  | [], acc, _ => by simp [dimsM]
  | n :: l, acc, h => by
    have hp : ∀ f ∈ [nF 1 (us n)], Pr f := by intro f hf; simp at hf; subst hf; exact Pr.num (by omega) (by omega) (us_fits _)
    have hz : (cat [nF 1 (us n)]).size ≤ 1048576 := by
      have := fb_le (nF 1 (us n))
      have e : cat [nF 1 (us n)] = fb (nF 1 (us n)) ++ ⟨#[]⟩ := rfl
      rw [e, ByteArray.size_append]
      have e0 : (⟨#[]⟩ : ByteArray).size = 0 := rfl
      have e1 : (nF 1 (us n)).data.size = 0 := rfl
      omega
    have hf := fields_cat hp hz
    have ho : ofNum [nF 1 (us n)] 1 = [nF 1 (us n)] := by simp [ofNum, nF]
    have hl : lastF [nF 1 (us n)] 1 = nF 1 (us n) := by unfold lastF; rw [ho]; rfl
    have hok : okF [nF 1 (us n)] 1 0 = true := by unfold okF; rw [hl]; simp [nF]
    have hh : has [nF 1 (us n)] 1 = true := by unfold has; rw [ho]; simp
    rw [List.map_cons, dimsM, hf]
    dsimp only
    rw [if_neg (by simp), hok, if_neg (by simp), hh, if_neg (by simp), hl]
    rw [show sg (nF 1 (us n)).n = n from sg_us (in64 (h n List.mem_cons_self)), dimsM_map _ fun k hk => h k (List.mem_cons_of_mem _ hk)]
    simp
theorem kind_us {k : Int} (h : kSize k ≠ 0) : ((us k : Nat) : Int) = k ∧ kindOk (us k) = true := by
  obtain ⟨s, hs, -⟩ := size_nat k
  have hk : isKind k = true := (kSize_pos (k := k)).1 (by omega)
  rcases isKind_iff.1 hk with rfl | rfl | rfl | rfl | rfl <;> decide +kernel
/-- P11.2 of infos -/
theorem infoM_wrI {i : Inf} (hn : nm i.name = true) (hk : kSize i.kind ≠ 0) (hd : ∀ n ∈ i.dims, I64 n) (hs : (wrI i).size ≤ 1048576) : infoM (wrI i) = (i, 0) := by
  obtain ⟨hku, hkk⟩ := kind_us hk
  have p1 : ∀ f ∈ infF i, Pr f := by
    intro f hf; unfold infF at hf
    simp only [List.mem_cons, List.not_mem_nil, or_false] at hf
    rcases hf with rfl | rfl <;> exact Pr.text _ (by omega) (by omega)
  have p2 : ∀ f ∈ [tF 1 (cat (tenF i))], Pr f := by
    intro f hf; simp only [List.mem_cons, List.not_mem_nil, or_false] at hf; subst hf; exact Pr.text _ (by omega) (by omega)
  have p3 : ∀ f ∈ tenF i, Pr f := by
    intro f hf; unfold tenF at hf
    simp only [List.mem_cons, List.not_mem_nil, or_false] at hf
    rcases hf with rfl | rfl
    · exact Pr.num (by omega) (by omega) (us_fits _)
    · exact Pr.text _ (by omega) (by omega)
  have z2 : (cat [tF 1 (cat (tenF i))]).size ≤ 1048576 := Nat.le_trans (cat_one_le (k := 2) (by omega) (by omega) (by unfold infF; simp)) hs
  have z3 : (cat (tenF i)).size ≤ 1048576 := Nat.le_trans (cat_one_le (k := 1) (by omega) (by omega) (by simp)) z2
  have z4 : (cat (dimF i.dims)).size ≤ 1048576 := Nat.le_trans (cat_one_le (k := 2) (by omega) (by omega) (by unfold tenF; simp)) z3
  have hf : fields (wrI i) = (infF i, 0) := fields_cat p1 hs
  have o1 : ofNum (infF i) 1 = [tF 1 i.name] := by unfold infF; simp [ofNum, tF]
  have w1 : whole (infF i) 2 = ([tF 1 (cat (tenF i))], 0) := whole_one (by unfold infF; simp [ofNum, tF]) p2 z2
  have w2 : whole [tF 1 (cat (tenF i))] 1 = (tenF i, 0) := whole_one (by simp [ofNum, tF]) p3 z3
  have w3 : whole (tenF i) 2 = (dimF i.dims, 0) := whole_one (by unfold tenF; simp [ofNum, tF, nF]) (dimF_pr _) z4
  have o4 : ofNum (tenF i) 1 = [nF 1 (us i.kind)] := by unfold tenF; simp [ofNum, tF, nF]
  have l1 : lastF (infF i) 1 = tF 1 i.name := by unfold lastF; rw [o1]; rfl
  have l4 : lastF (tenF i) 1 = nF 1 (us i.kind) := by unfold lastF; rw [o4]; rfl
  have k1 : okF (infF i) 1 2 = true := by unfold okF; rw [l1]; simp [tF]
  have k4 : okF (tenF i) 1 0 = true := by unfold okF; rw [l4]; simp [nF]
  have t5 : txts (ofNum (dimF i.dims) 1) [] = (i.dims.map fun n => cat [nF 1 (us n)], 0) := by
    have e : dimF i.dims = (i.dims.map fun n => cat [nF 1 (us n)]).map (tF 1) := by unfold dimF; simp
    rw [e, of_map_self, txts_map]; simp
  have m5 : dimsM (i.dims.map fun n => cat [nF 1 (us n)]) [] = (i.dims, 0) := by rw [dimsM_map [] hd]; simp
  unfold infoM
  rw [hf]
  dsimp only
  rw [if_neg (by simp), k1, if_neg (by simp), w1]
  dsimp only
  rw [if_neg (by simp), w2]
  dsimp only
  rw [if_neg (by simp), k4, if_neg (by simp), w3]
  dsimp only
  rw [if_neg (by simp), t5]
  dsimp only
  rw [if_neg (by simp), m5]
  dsimp only
  rw [if_neg (by simp), l1, if_neg (by show ¬ nm i.name = false; rw [hn]; simp), l4]
  rw [if_neg (by show ¬ kindOk (us i.kind) = false; rw [hkk]; simp)]
  show ((⟨i.name, ((us i.kind : Nat) : Int), i.dims⟩ : Inf), 0) = _
  rw [hku]
end M11
end Go.Proofs.YtiniicehfjgpgaaGreat
/- What the fields of a text are: their numbers fit, their texts are no longer than the text. No walk. -/
namespace Go.Proofs.YtiniicehfjgpgaaGreat
open Go.RowKit M1 M2 M3 M9

theorem et_le (n : Nat) : (⟨#[]⟩ : ByteArray).size ≤ n := Nat.zero_le n
theorem fd0_ok (n : Nat) : FOk fd0 ∧ fd0.data.size ≤ n := ⟨⟨by decide, by decide, by decide, by decide, by show (0 : Nat) < _; omega, et_le _⟩, et_le _⟩
theorem rest_le (s : ByteArray) (k : Nat) : (rest s k).size ≤ s.size := by rw [rest_size]; omega
theorem rt_le (s : ByteArray) : (rt s).1.size ≤ s.size := by
  unfold rt
  split
  · exact et_le _
  · split
    · exact et_le _
    · rw [ByteArray.size_extract]; omega
theorem pay_data (t : Nat) (s : ByteArray) : (pay t s).2.1.size ≤ s.size := by
  unfold pay
  split
  · exact et_le _
  · split
    · exact et_le _
    · split
      · exact rt_le s
      · exact et_le _
theorem pay_num (t : Nat) (s : ByteArray) : Fits64 (pay t s).1 := by
  unfold pay
  split
  · exact rd_fits s
  · split
    · exact rl_fits s (by omega)
    · split
      · show (0 : Nat) < _; omega
      · exact rl_fits s (by omega)
theorem one_ok (s : ByteArray) (hs : s.size ≤ 140737488351232) : FOk (one s).1 ∧ (one s).1.data.size ≤ s.size := by
  unfold one
  split
  · exact fd0_ok _
  · split
    · exact fd0_ok _
    · split
      · exact fd0_ok _
      · have hx := rd_fits s
        unfold Fits64 at hx
        have hd := Nat.le_trans (pay_data ((rd s).1 % 8) (rest s (rd s).2.1)) (rest_le s _)
        exact ⟨⟨by dsimp only; omega, by dsimp only; omega, by dsimp only; omega, by dsimp only; omega, pay_num _ _, by dsimp only; omega⟩, hd⟩
theorem fl_ok (k : Nat) : ∀ s : ByteArray, s.size ≤ 140737488351232 → ∀ f ∈ (fl k s).1, FOk f ∧ f.data.size ≤ s.size := by
  induction k with
  | zero => intro s _ f hf; simp [fl] at hf
  | succ k ih =>
    intro s hs f hf
    rw [fl] at hf
    split at hf
    · simp at hf
    · split at hf
      · simp at hf
      · split at hf
        · simp at hf
        · rcases List.mem_cons.1 hf with rfl | hf
          · exact one_ok s hs
          · have h := ih _ (Nat.le_trans (rest_le s _) hs) f hf
            exact ⟨h.1, Nat.le_trans h.2 (rest_le s _)⟩
theorem fields_ok {s : ByteArray} : ∀ f ∈ (fields s).1, FOk f ∧ f.data.size ≤ 1048576 := by
  intro f hf
  unfold fields at hf
  split at hf
  · simp at hf
  · have h := fl_ok _ s (by omega) f hf
    exact ⟨h.1, Nat.le_trans h.2 (by omega)⟩
theorem fields_size {s : ByteArray} (h : (fields s).2 = 0) : s.size ≤ 1048576 := by
  unfold fields at h
  split at h
  · simp at h
  · omega
theorem fields_len (s : ByteArray) : (fields s).1.length ≤ 1048576 := by
  unfold fields
  split
  · simp
  · exact Nat.le_trans (fields_list_le s) (by omega)
theorem lastF_ok {l : List WFd} (h : ∀ f ∈ l, FOk f ∧ f.data.size ≤ 1048576) (num : Int) : FOk (lastF l num) ∧ (lastF l num).data.size ≤ 1048576 := by
  unfold lastF
  cases e : (ofNum l num).getLast? with
  | none => exact fd0_ok _
  | some f => exact h f (List.mem_filter.1 (List.mem_of_getLast? e)).1
theorem txts_in (l : List WFd) : ∀ (acc : List ByteArray) (n : Nat), (∀ b ∈ acc, b.size ≤ n) → (∀ f ∈ l, f.data.size ≤ n) → ∀ b ∈ (txts l acc).1, b.size ≤ n := by
  induction l with
  | nil => intro acc n h _ b hb; exact h b hb
  | cons f l ih =>
    intro acc n h hl b hb
    rw [txts] at hb
    split at hb
    · simp at hb
    · refine ih (acc ++ [f.data]) n (fun b hb => ?_) (fun g hg => hl g (List.mem_cons_of_mem _ hg)) b hb
      rcases List.mem_append.1 hb with hb | hb
      · exact h b hb
      · rw [List.mem_singleton.1 hb]; exact hl f List.mem_cons_self
theorem ofNum_mem {l : List WFd} {num : Int} {f : WFd} (h : f ∈ ofNum l num) : f ∈ l := (List.mem_filter.1 h).1
theorem pk_in (k : Nat) : ∀ (s : ByteArray) (acc : List Int), (∀ n ∈ acc, In64 n) → ∀ n ∈ (pk k s acc).1, In64 n := by
  induction k with
  | zero => intro s acc h n hn; exact h n (by simpa [pk] using hn)
  | succ k ih =>
    intro s acc h n hn
    rw [pk] at hn
    split at hn
    · exact h n hn
    · split at hn
      · simp at hn
      · split at hn
        · simp at hn
        · refine ih _ _ (fun m hm => ?_) n hn
          rcases List.mem_append.1 hm with hm | hm
          · exact h m hm
          · rw [List.mem_singleton.1 hm]; exact sg_in _
theorem addF_in (f : WFd) {acc : List Int} (h : ∀ n ∈ acc, In64 n) : ∀ n ∈ (addF f acc).1, In64 n := by
  unfold addF
  split
  · split
    · simp
    · intro n hn
      rcases List.mem_append.1 hn with hn | hn
      · exact h n hn
      · rw [List.mem_singleton.1 hn]; exact sg_in _
  · split
    · exact pk_in _ _ _ h
    · simp
theorem ints_in (l : List WFd) : ∀ (acc : List Int), (∀ n ∈ acc, In64 n) → ∀ n ∈ (ints l acc).1, In64 n := by
  induction l with
  | nil => intro acc h; exact h
  | cons f l ih =>
    intro acc h
    rw [ints]
    split
    · simp
    · exact ih _ (addF_in f h)
/-- the rows of a message fit -/
structure RwOk (r : Rws9) : Prop where
  dl : r.d.length ≤ 65536
  sl : r.s.length ≤ 65536
  il : r.i.length ≤ 65536
  tl : r.t.length ≤ 1048576
  di : ∀ n ∈ r.d, I64 n
  tb : ∀ b ∈ r.t, b.size ≤ 1048576
theorem zr_ok : RwOk zr := ⟨by simp [zr], by simp [zr], by simp [zr], by simp [zr], by simp [zr], by simp [zr]⟩
theorem rows_ok {l : List WFd} (hl : l.length ≤ 1048576) (h : ∀ f ∈ l, FOk f ∧ f.data.size ≤ 1048576) : RwOk (rows l).1 := by
  unfold rows rowsOf
  split
  · exact zr_ok
  · split
    · exact zr_ok
    · split
      · exact zr_ok
      · split
        · exact zr_ok
        · refine ⟨ints_le _ _ (by simp), ints_le _ _ (by simp), ints_le _ _ (by simp), ?_, ints_in _ _ (by simp), txts_in _ _ _ (by simp) (fun f hf => (h f (ofNum_mem hf)).2)⟩
          have h1 := txts_le (ofNum l 13) []
          have h2 := ofNum_le l 13
          simp at h1
          dsimp only
          omega
end Go.Proofs.YtiniicehfjgpgaaGreat
