/- Layer 11 in plain words: attributes, nodes and infos in messages. No walk. -/
import Derived.Test.YtiniicehfjgpgaaGreatBMath
import Derived.Test.YtiniicehfjgpgaaGreatTCheck
import Derived.Test.YtiniicehfjgpgaaGreatMath
namespace Go.Proofs.YtiniicehfjgpgaaGreat
namespace M11
open Go.RowKit M1 M2 M3 M9 M10
open M7 (nm)

def zA11 : Att := ⟨⟨#[]⟩, false, 0, []⟩
def zN11 : Nod := ⟨⟨#[]⟩, [], ⟨#[]⟩, []⟩
def zI11 : Inf := ⟨⟨#[]⟩, 0, []⟩
/-- an attribute of its fields -/
def attrL (l : List WFd) : Att × Nat :=
  if (okF l 1 2 && okF l 3 0 && okF l 20 0) = false then (zA11, 3)
  else if (ints (ofNum l 8) []).2 ≠ 0 then (zA11, (ints (ofNum l 8) []).2)
  else if nm (lastF l 1).data = false then (zA11, 8)
  else if (lastF l 20).n = 2 then (⟨(lastF l 1).data, true, sg (lastF l 3).n, []⟩, 0)
  else if (lastF l 20).n = 7 then (⟨(lastF l 1).data, false, 0, (ints (ofNum l 8) []).1⟩, 0)
  else (zA11, 12)
/-- .. of a message -/
def attrM (b : ByteArray) : Att × Nat := if (fields b).2 ≠ 0 then (zA11, (fields b).2) else attrL (fields b).1
/-- attributes, message by message, and the first error -/
def attrsM : List ByteArray → List Att → List Att × Nat
  | [], acc => (acc, 0)
  | b :: r, acc => if (attrM b).2 ≠ 0 then ([], (attrM b).2) else attrsM r (acc ++ [(attrM b).1])
/-- no two of one name -/
def once (l : List Att) : Bool := decide (l.map Att.name).Nodup
def txtsOk (l : List WFd) : Bool := decide ((txts (ofNum l 1) []).2 = 0) && decide ((txts (ofNum l 2) []).2 = 0) && decide ((txts (ofNum l 5) []).2 = 0)
/-- a node of its fields -/
def nodeL (l : List WFd) : Nod × Nat :=
  if (txtsOk l && okF l 4 2 && okF l 7 2) = false then (zN11, 3)
  else if (txts (ofNum l 2) []).1.length ≠ 1 ∨ 64 < (txts (ofNum l 1) []).1.length then (zN11, 11)
  else if (lastF l 7).data ≠ ⟨#[]⟩ then (zN11, 10)
  else if (attrsM (txts (ofNum l 5) []).1 []).2 ≠ 0 then (zN11, (attrsM (txts (ofNum l 5) []).1 []).2)
  else if once (attrsM (txts (ofNum l 5) []).1 []).1 = false then (zN11, 14)
  else (⟨(lastF l 4).data, (txts (ofNum l 1) []).1, (txts (ofNum l 2) []).1.headD ⟨#[]⟩, (attrsM (txts (ofNum l 5) []).1 []).1⟩, 0)
/-- P11.1: the node of a message -/
def nodeM (b : ByteArray) : Nod × Nat := if (fields b).2 ≠ 0 then (zN11, (fields b).2) else nodeL (fields b).1
/-- texts, one behind the other -/
def joined (l : List ByteArray) : ByteArray := l.foldl (fun s t => s ++ t) ⟨#[]⟩
/-- all texts of a number as one message -/
def whole (l : List WFd) (num : Int) : List WFd × Nat := if (txts (ofNum l num) []).2 ≠ 0 then ([], (txts (ofNum l num) []).2) else fields (joined (txts (ofNum l num) []).1)
/-- dimensions, message by message, and the first error -/
def dimsM : List ByteArray → List Int → List Int × Nat
  | [], acc => (acc, 0)
  | b :: r, acc => if (fields b).2 ≠ 0 then ([], (fields b).2) else if okF (fields b).1 1 0 = false then ([], 3) else if has (fields b).1 1 = false then ([], 6)
    else dimsM r (acc ++ [sg (lastF (fields b).1 1).n])
def kindOk (k : Nat) : Bool := decide (k ≤ 100) && decide (kSize (k : Int) ≠ 0)
/-- P11.1: the info of a message -/
def infoM (b : ByteArray) : Inf × Nat :=
  if (fields b).2 ≠ 0 then (zI11, (fields b).2) else if okF (fields b).1 1 2 = false then (zI11, 3)
  else if (whole (fields b).1 2).2 ≠ 0 then (zI11, (whole (fields b).1 2).2)
  else if (whole (whole (fields b).1 2).1 1).2 ≠ 0 then (zI11, (whole (whole (fields b).1 2).1 1).2)
  else if okF (whole (whole (fields b).1 2).1 1).1 1 0 = false then (zI11, 3)
  else if (whole (whole (whole (fields b).1 2).1 1).1 2).2 ≠ 0 then (zI11, (whole (whole (whole (fields b).1 2).1 1).1 2).2)
  else if (txts (ofNum (whole (whole (whole (fields b).1 2).1 1).1 2).1 1) []).2 ≠ 0 then (zI11, (txts (ofNum (whole (whole (whole (fields b).1 2).1 1).1 2).1 1) []).2)
  else if (dimsM (txts (ofNum (whole (whole (whole (fields b).1 2).1 1).1 2).1 1) []).1 []).2 ≠ 0 then (zI11, (dimsM (txts (ofNum (whole (whole (whole (fields b).1 2).1 1).1 2).1 1) []).1 []).2)
  else if nm (lastF (fields b).1 1).data = false then (zI11, 8)
  else if kindOk (lastF (whole (whole (fields b).1 2).1 1).1 1).n = false then (zI11, 5)
  else (⟨(lastF (fields b).1 1).data, ((lastF (whole (whole (fields b).1 2).1 1).1 1).n : Int), (dimsM (txts (ofNum (whole (whole (whole (fields b).1 2).1 1).1 2).1 1) []).1 []).1⟩, 0)

/-! ### the least writing -/
def tF (k : Int) (s : ByteArray) : WFd := ⟨k, 2, 0, s⟩
def nF (k : Int) (n : Nat) : WFd := ⟨k, 0, n, ⟨#[]⟩⟩
/-- the fields of an attribute -/
def attF (a : Att) : List WFd := if a.one then [tF 1 a.name, nF 3 (us a.int), nF 20 2] else tF 1 a.name :: ((if a.ints = [] then [] else [tF 8 (cps a.ints)]) ++ [nF 20 7])
def wrA (a : Att) : ByteArray := cat (attF a)
/-- .. of a node -/
def nodF (n : Nod) : List WFd := n.ins.map (tF 1) ++ ([tF 2 n.out, tF 4 n.op] ++ n.attrs.map fun a => tF 5 (wrA a))
def wrN (n : Nod) : ByteArray := cat (nodF n)
/-- .. of an info -/
def dimF (l : List Int) : List WFd := l.map fun n => tF 1 (cat [nF 1 (us n)])
def tenF (i : Inf) : List WFd := [nF 1 (us i.kind), tF 2 (cat (dimF i.dims))]
def infF (i : Inf) : List WFd := [tF 1 i.name, tF 2 (cat [tF 1 (cat (tenF i))])]
def wrI (i : Inf) : ByteArray := cat (infF i)

/-- a field as Put writes it: a text, or a number -/
def Pr (f : WFd) : Prop := 1 ≤ f.num ∧ f.num ≤ 100 ∧ ((f.typ = 2 ∧ f.n = 0) ∨ (f.typ = 0 ∧ Fits64 f.n ∧ f.data = ⟨#[]⟩))
theorem Pr.text {k : Int} (s : ByteArray) (h1 : 1 ≤ k) (h2 : k ≤ 100) : Pr (tF k s) := ⟨h1, h2, .inl ⟨rfl, rfl⟩⟩
theorem Pr.num {k : Int} {n : Nat} (h1 : 1 ≤ k) (h2 : k ≤ 100) (hn : Fits64 n) : Pr (nF k n) := ⟨h1, h2, .inr ⟨rfl, hn, rfl⟩⟩
theorem Pr.has {f : WFd} (h : Pr f) : hasB f = true := by
  obtain ⟨h1, h2, ⟨e, _⟩ | ⟨e, _, _⟩⟩ := h
  · obtain ⟨k, t, n, d⟩ := f
    dsimp only at e
    subst e
    exact hasB_yes (fb_part_ne n d h1 h2)
  · obtain ⟨k, t, n, d⟩ := f
    dsimp only at e
    subst e
    exact hasB_yes (fb_num_ne n d h1 h2)
theorem Pr.norm {f : WFd} (h : Pr f) : norm f = f := by
  obtain ⟨k, t, n, d⟩ := f
  obtain ⟨h1, h2, ⟨e, e2⟩ | ⟨e, _, e3⟩⟩ := h
  · dsimp only at e e2; subst e; subst e2; rfl
  · dsimp only at e e3; subst e; subst e3; rfl
theorem wanted_pr : ∀ {l : List WFd}, (∀ f ∈ l, Pr f) → wanted l = l
  | [], _ => rfl
  | f :: l, h => by
    have hf := h f List.mem_cons_self
    have ih := wanted_pr (l := l) fun g hg => h g (List.mem_cons_of_mem _ hg)
    unfold wanted at ih ⊢
    rw [List.filter_cons, if_pos hf.has, List.map_cons, hf.norm, ih]
theorem cat_size_mem : ∀ {l : List WFd} {f : WFd}, f ∈ l → (fb f).size ≤ (cat l).size
  | g :: l, f, h => by
    rw [cat, ByteArray.size_append]
    rcases List.mem_cons.1 h with rfl | h
    · omega
    · have := cat_size_mem h; omega
theorem fb_data_le {f : WFd} (h : Pr f) (ht : f.typ = 2) : f.data.size ≤ (fb f).size := by
  obtain ⟨k, t, n, d⟩ := f
  dsimp only at ht ⊢
  subst ht
  have hm : M2.mayB k 2 = true := by unfold M2.mayB; rw [decide_eq_true_iff]; have := h.1; have := h.2.1; dsimp only at *; omega
  have e : fb ⟨k, 2, n, d⟩ = ps (8 * k + 2).toNat ++ ps d.size ++ d := by unfold fb; simp [hm]
  rw [e, ByteArray.size_append]; omega
/-- fields that are written one behind the other are read as they were -/
theorem fields_cat {l : List WFd} (h : ∀ f ∈ l, Pr f) (hs : (cat l).size ≤ 1048576) : fields (cat l) = (l, 0) := by
  have h1 : flw (cat l) = (l, 0) := by
    rw [flw_cat, wanted_pr h]
    intro f hf
    have hp := h f hf
    refine ⟨?_, ?_⟩
    · rcases hp.2.2 with ⟨_, e⟩ | ⟨_, e, _⟩
      · rw [e]; show (0 : Nat) < _; omega
      · exact e
    · rcases hp.2.2 with ⟨e, _⟩ | ⟨_, _, e⟩
      · have := fb_data_le hp e
        have := cat_size_mem hf
        show f.data.size < _; omega
      · rw [e]; show (0 : Nat) < _; omega
  unfold fields
  rw [if_neg (by omega), h1]
/-! ### what the fields of a writing tell -/
theorem of_map_self (k : Int) (l : List ByteArray) : ofNum (l.map (tF k)) k = l.map (tF k) := by
  unfold ofNum; rw [List.filter_eq_self]; intro f hf; obtain ⟨s, _, rfl⟩ := List.mem_map.1 hf; simp [tF]
theorem of_map_other {k j : Int} (h : k ≠ j) (l : List ByteArray) : ofNum (l.map (tF k)) j = [] := by
  unfold ofNum; rw [List.filter_eq_nil_iff]; intro f hf; obtain ⟨s, _, rfl⟩ := List.mem_map.1 hf; simp [tF, h]
theorem of_app (a b : List WFd) (k : Int) : ofNum (a ++ b) k = ofNum a k ++ ofNum b k := List.filter_append ..
theorem txts_map (k : Int) : ∀ (l acc : List ByteArray), txts (l.map (tF k)) acc = (acc ++ l, 0)
  | [], acc => by simp [txts]
  | s :: l, acc => by
    rw [List.map_cons, txts, if_neg (by simp [tF]), txts_map k l]
    simp [tF]
theorem once_nodup {l : List Att} : once l = true ↔ (l.map Att.name).Nodup := by unfold once; simp
end M11
end Go.Proofs.YtiniicehfjgpgaaGreat
