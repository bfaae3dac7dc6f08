import Derived.Test.YtjjfdlgoacockaaGreatTMade
import Derived.Test.YtjjfdlgoacockaaGreatTCheck
import Derived.Test.YtjjfdlgoacockaaGreatMath
namespace Go.Proofs.YtjjfdlgoacockaaGreat
namespace M11
open Go.RowKit M1 M2 M3 M9 M10
open M7 (nm)

def zA11 : Att := ⟨⟨#[]⟩, false, 0, []⟩
def zN11 : Nod := ⟨⟨#[]⟩, [], ⟨#[]⟩, []⟩
def zI11 : Inf := ⟨⟨#[]⟩, 0, []⟩
def attrL (l : List WFd) : Att × Nat :=
  if (okF l 1 2 && okF l 3 0 && okF l 20 0) = false then (zA11, 3)
  else if (ints (ofNum l 8) []).2 ≠ 0 then (zA11, (ints (ofNum l 8) []).2)
  else if nm (lastF l 1).data = false then (zA11, 8)
  else if (lastF l 20).n = 2 then (⟨(lastF l 1).data, true, sg (lastF l 3).n, []⟩, 0)
  else if (lastF l 20).n = 7 then (⟨(lastF l 1).data, false, 0, (ints (ofNum l 8) []).1⟩, 0)
  else (zA11, 12)
def attrM (b : ByteArray) : Att × Nat := if (fields b).2 ≠ 0 then (zA11, (fields b).2) else attrL (fields b).1
def attrsM : List ByteArray → List Att → List Att × Nat
  | [], acc => (acc, 0)
  | b :: r, acc => if (attrM b).2 ≠ 0 then ([], (attrM b).2) else attrsM r (acc ++ [(attrM b).1])
def once (l : List Att) : Bool := decide (l.map Att.name).Nodup
def txtsOk (l : List WFd) : Bool := decide ((txts (ofNum l 1) []).2 = 0) && decide ((txts (ofNum l 2) []).2 = 0) && decide ((txts (ofNum l 5) []).2 = 0)
def nodeL (l : List WFd) : Nod × Nat :=
  if (txtsOk l && okF l 4 2 && okF l 7 2) = false then (zN11, 3)
  else if (txts (ofNum l 2) []).1.length ≠ 1 ∨ 64 < (txts (ofNum l 1) []).1.length then (zN11, 11)
  else if (lastF l 7).data ≠ ⟨#[]⟩ then (zN11, 10)
  else if (attrsM (txts (ofNum l 5) []).1 []).2 ≠ 0 then (zN11, (attrsM (txts (ofNum l 5) []).1 []).2)
  else if once (attrsM (txts (ofNum l 5) []).1 []).1 = false then (zN11, 14)
  else (⟨(lastF l 4).data, (txts (ofNum l 1) []).1, (txts (ofNum l 2) []).1.headD ⟨#[]⟩, (attrsM (txts (ofNum l 5) []).1 []).1⟩, 0)
def nodeM (b : ByteArray) : Nod × Nat := if (fields b).2 ≠ 0 then (zN11, (fields b).2) else nodeL (fields b).1
def joined (l : List ByteArray) : ByteArray := l.foldl (fun s t => s ++ t) ⟨#[]⟩
def whole (l : List WFd) (num : Int) : List WFd × Nat := if (txts (ofNum l num) []).2 ≠ 0 then ([], (txts (ofNum l num) []).2) else fields (joined (txts (ofNum l num) []).1)
def dimsM : List ByteArray → List Int → List Int × Nat
  | [], acc => (acc, 0)
  | b :: r, acc => if (fields b).2 ≠ 0 then ([], (fields b).2) else if okF (fields b).1 1 0 = false then ([], 3) else if has (fields b).1 1 = false then ([], 6)
    else dimsM r (acc ++ [sg (lastF (fields b).1 1).n])
def kindOk (k : Nat) : Bool := decide (k ≤ 100) && decide (kSize (k : Int) ≠ 0)
def infoM (b : ByteArray) : Inf × Nat :=
  if (fields b).2 ≠ 0 then (zI11, (fields b).2) else if okF (fields b).1 1 2 = false then (zI11, 3)
  else if (whole (fields b).1 2).2 ≠ 0 then (zI11, (whole (fields b).1 2).2)
  else if (whole (whole (fields b).1 2).1 1).2 ≠ 0 then (zI11, (whole (whole (fields b).1 2).1 1).2)
  else if okF (whole (whole (fields b).1 2).1 1).1 1 0 = false then (zI11, 3)
  else if (whole (whole (whole (fields b).1 2).1 1).1 2).2 ≠ 0 then (zI11, (whole (whole (whole (fields b).1 2).1 1).1 2).2)
  else if (txts (ofNum (whole (whole (whole (fields b).1 2).1 1).1 2).1 1) []).2 ≠ 0 then (zI11, (txts (ofNum (whole (whole (whole (fields b).1 2).1 1).1 2).1 1) []).2)
  else if (dimsM (txts (ofNum (whole (whole (whole (fields b).1 2).1 1).1 2).1 1) []).1 []).2 ≠ 0 then (zI11, (dimsM (txts (ofNum (whole (whole (whole (fields b).1 2).1 1).1 2).1 1) []).1 []).2)
  else if nm (lastF (fields b).1 1).data = false then (zI11, 8)
  else if kindOk (lastF (whole (whole (fields b).1 2).1 1).1 1).n = false then (zI11, 5)
  else (⟨(lastF (fields b).1 1).data, ((lastF (whole (whole (fields b).1 2).1 1).1 1).n : Int), (dimsM (txts (ofNum (whole (whole (whole (fields b).1 2).1 1).1 2).1 1) []).1 []).1⟩, 0)

/-! ### the least writing -/
def tF (k : Int) (s : ByteArray) : WFd := ⟨k, 2, 0, s⟩
def nF (k : Int) (n : Nat) : WFd := ⟨k, 0, n, ⟨#[]⟩⟩
def attF (a : Att) : List WFd := if a.one then [tF 1 a.name, nF 3 (us a.int), nF 20 2] else tF 1 a.name :: ((if a.ints = [] then [] else [tF 8 (cps a.ints)]) ++ [nF 20 7])
def wrA (a : Att) : ByteArray := cat (attF a)
def nodF (n : Nod) : List WFd := n.ins.map (tF 1) ++ ([tF 2 n.out, tF 4 n.op] ++ n.attrs.map fun a => tF 5 (wrA a))
def wrN (n : Nod) : ByteArray := cat (nodF n)
def dimF (l : List Int) : List WFd := l.map fun n => tF 1 (cat [nF 1 (us n)])
def tenF (i : Inf) : List WFd := [nF 1 (us i.kind), tF 2 (cat (dimF i.dims))]
def infF (i : Inf) : List WFd := [tF 1 i.name, tF 2 (cat [tF 1 (cat (tenF i))])]
def wrI (i : Inf) : ByteArray := cat (infF i)

def Pr (f : WFd) : Prop := 1 ≤ f.num ∧ f.num ≤ 100 ∧ ((f.typ = 2 ∧ f.n = 0) ∨ (f.typ = 0 ∧ Fits64 f.n ∧ f.data = ⟨#[]⟩))
theorem Pr.text {k : Int} (s : ByteArray) (h1 : 1 ≤ k) (h2 : k ≤ 100) : Pr (tF k s) := ⟨h1, h2, .inl ⟨rfl, rfl⟩⟩
theorem Pr.num {k : Int} {n : Nat} (h1 : 1 ≤ k) (h2 : k ≤ 100) (hn : Fits64 n) : Pr (nF k n) := ⟨h1, h2, .inr ⟨rfl, hn, rfl⟩⟩
theorem Pr.has {f : WFd} (h : Pr f) : hasB f = true := by
  obtain ⟨h1, h2, ⟨e, _⟩ | ⟨e, _, _⟩⟩ := h
  · obtain ⟨k, t, n, d⟩ := f
    dsimp only at e
    subst e
    exact hasB_yes (fb_part_ne n d h1 h2)
  · obtain ⟨k, t, n, d⟩ := f
    dsimp only at e
    subst e
    exact hasB_yes (fb_num_ne n d h1 h2)
theorem Pr.norm {f : WFd} (h : Pr f) : norm f = f := by
  obtain ⟨k, t, n, d⟩ := f
  obtain ⟨h1, h2, ⟨e, e2⟩ | ⟨e, _, e3⟩⟩ := h
  · dsimp only at e e2; subst e; subst e2; rfl
  · dsimp only at e e3; subst e; subst e3; rfl
theorem wanted_pr : ∀ {l : List WFd}, (∀ f ∈ l, Pr f) → wanted l = l
  | [], _ => rfl
  | f :: l, h => by
    have hf := h f List.mem_cons_self
    have ih := wanted_pr (l := l) fun g hg => h g (List.mem_cons_of_mem _ hg)
    unfold wanted at ih ⊢
    rw [List.filter_cons, if_pos hf.has, List.map_cons, hf.norm, ih]
theorem cat_size_mem : ∀ {l : List WFd} {f : WFd}, f ∈ l → (fb f).size ≤ (cat l).size
  | g :: l, f, h => by
    rw [cat, ByteArray.size_append]
    rcases List.mem_cons.1 h with rfl | h
    · omega
    · have := cat_size_mem h; omega
theorem fb_data_le {f : WFd} (h : Pr f) (ht : f.typ = 2) : f.data.size ≤ (fb f).size := by
  obtain ⟨k, t, n, d⟩ := f
  dsimp only at ht ⊢
  subst ht
  have hm : M2.mayB k 2 = true := by unfold M2.mayB; rw [decide_eq_true_iff]; have := h.1; have := h.2.1; dsimp only at *; omega
  have e : fb ⟨k, 2, n, d⟩ = ps (8 * k + 2).toNat ++ ps d.size ++ d := by unfold fb; simp [hm]
  rw [e, ByteArray.size_append]; omega
theorem fields_cat {l : List WFd} (h : ∀ f ∈ l, Pr f) (hs : (cat l).size ≤ 1048576) : fields (cat l) = (l, 0) := by
  have h1 : flw (cat l) = (l, 0) := by
    rw [flw_cat, wanted_pr h]
    intro f hf
    have hp := h f hf
    refine ⟨?_, ?_⟩
    · rcases hp.2.2 with ⟨_, e⟩ | ⟨_, e, _⟩
      · rw [e]; show (0 : Nat) < _; omega
      · exact e
    · rcases hp.2.2 with ⟨e, _⟩ | ⟨_, _, e⟩
      · have := fb_data_le hp e
        have := cat_size_mem hf
        show f.data.size < _; omega
      · rw [e]; show (0 : Nat) < _; omega
  unfold fields
  rw [if_neg (by omega), h1]
/-! ### what the fields of a writing tell -/
theorem of_map_self (k : Int) (l : List ByteArray) : ofNum (l.map (tF k)) k = l.map (tF k) := by
  unfold ofNum; rw [List.filter_eq_self]; intro f hf; obtain ⟨s, _, rfl⟩ := List.mem_map.1 hf; simp [tF]
theorem of_map_other {k j : Int} (h : k ≠ j) (l : List ByteArray) : ofNum (l.map (tF k)) j = [] := by
  unfold ofNum; rw [List.filter_eq_nil_iff]; intro f hf; obtain ⟨s, _, rfl⟩ := List.mem_map.1 hf; simp [tF, h]
theorem of_app (a b : List WFd) (k : Int) : ofNum (a ++ b) k = ofNum a k ++ ofNum b k := List.filter_append ..
theorem txts_map (k : Int) : ∀ (l acc : List ByteArray), txts (l.map (tF k)) acc = (acc ++ l, 0)
  | [], acc => by simp [txts]
  | s :: l, acc => by
    rw [List.map_cons, txts, if_neg (by simp [tF]), txts_map k l]
    simp [tF]
theorem once_nodup {l : List Att} : once l = true ↔ (l.map Att.name).Nodup := by unfold once; simp
end M11
end Go.Proofs.YtjjfdlgoacockaaGreat
namespace Go.Proofs.YtjjfdlgoacockaaGreat
namespace M11
open Go.RowKit M1 M2 M3 M9 M10
open M7 (nm)

theorem in64 {n : Int} (h : I64 n) : In64 n := h
theorem attF_pr (a : Att) : ∀ f ∈ attF a, Pr f := by
  intro f hf
  unfold attF at hf
  cases h : a.one with
  | true =>
    rw [h, if_pos rfl] at hf
    simp only [List.mem_cons, List.not_mem_nil, or_false] at hf
    rcases hf with rfl | rfl | rfl
    · exact Pr.text _ (by omega) (by omega)
    · exact Pr.num (by omega) (by omega) (us_fits _)
    · exact Pr.num (by omega) (by omega) (by unfold Fits64; omega)
  | false =>
    rw [h, if_neg (by simp)] at hf
    by_cases hi : a.ints = []
    · rw [if_pos hi] at hf
      simp only [List.nil_append, List.mem_cons, List.not_mem_nil, or_false] at hf
      rcases hf with rfl | rfl
      · exact Pr.text _ (by omega) (by omega)
      · exact Pr.num (by omega) (by omega) (by unfold Fits64; omega)
    · rw [if_neg hi] at hf
      simp only [List.cons_append, List.nil_append, List.mem_cons, List.not_mem_nil, or_false] at hf
      rcases hf with rfl | rfl | rfl
      · exact Pr.text _ (by omega) (by omega)
      · exact Pr.text _ (by omega) (by omega)
      · exact Pr.num (by omega) (by omega) (by unfold Fits64; omega)
theorem attrM_wrA {a : Att} (hn : nm a.name = true) (hi : I64 a.int) (hl : ∀ n ∈ a.ints, I64 n) (h6 : a.ints.length ≤ 65536) (hs : (wrA a).size ≤ 1048576) : attrM (wrA a) = (nA a, 0) := by
  unfold attrM wrA
  rw [fields_cat (attF_pr a) hs, if_neg (by simp)]
  unfold attrL nA
  cases h : a.one with
  | true =>
    have e : attF a = [tF 1 a.name, nF 3 (us a.int), nF 20 2] := by unfold attF; rw [h]; rfl
    have o1 : ofNum (attF a) 1 = [tF 1 a.name] := by rw [e]; simp [ofNum, tF, nF]
    have o3 : ofNum (attF a) 3 = [nF 3 (us a.int)] := by rw [e]; simp [ofNum, tF, nF]
    have o8 : ofNum (attF a) 8 = [] := by rw [e]; simp [ofNum, tF, nF]
    have o20 : ofNum (attF a) 20 = [nF 20 2] := by rw [e]; simp [ofNum, tF, nF]
    have l1 : lastF (attF a) 1 = tF 1 a.name := by unfold lastF; rw [o1]; rfl
    have l3 : lastF (attF a) 3 = nF 3 (us a.int) := by unfold lastF; rw [o3]; rfl
    have l20 : lastF (attF a) 20 = nF 20 2 := by unfold lastF; rw [o20]; rfl
    have hok : (okF (attF a) 1 2 && okF (attF a) 3 0 && okF (attF a) 20 0) = true := by
      unfold okF; rw [l1, l3, l20]; simp [tF, nF]
    dsimp only
    rw [if_neg (by rw [hok]; simp), o8, if_neg (by simp [ints]), l1, if_neg (by show ¬ nm a.name = false; rw [hn]; simp), l20, if_pos (show (nF 20 2).n = 2 from rfl), l3, if_pos rfl]
    show ((⟨a.name, true, sg (us a.int), []⟩ : Att), 0) = _
    rw [sg_us (in64 hi)]
  | false =>
    have hd : ∀ k : Int, k ≠ 8 → ofNum (if a.ints = [] then [] else [tF 8 (cps a.ints)]) k = [] := by
      intro k hk; split <;> simp [ofNum, tF, Ne.symm hk]
    have e : attF a = [tF 1 a.name] ++ ((if a.ints = [] then [] else [tF 8 (cps a.ints)]) ++ [nF 20 7]) := by unfold attF; rw [h]; rfl
    have o1 : ofNum (attF a) 1 = [tF 1 a.name] := by rw [e, of_app, of_app, hd 1 (by decide)]; simp [ofNum, tF, nF]
    have o3 : ofNum (attF a) 3 = [] := by rw [e, of_app, of_app, hd 3 (by decide)]; simp [ofNum, tF, nF]
    have o20 : ofNum (attF a) 20 = [nF 20 7] := by rw [e, of_app, of_app, hd 20 (by decide)]; simp [ofNum, tF, nF]
    have o8 : ints (ofNum (attF a) 8) [] = (a.ints, 0) := by
      rw [e, of_app, of_app]
      by_cases h0 : a.ints = []
      · rw [if_pos h0, h0]; simp [ofNum, tF, nF, ints]
      · rw [if_neg h0]
        have e8 : ofNum [tF 1 a.name] 8 ++ (ofNum [tF 8 (cps a.ints)] 8 ++ ofNum [nF 20 7] 8) = [tF 8 (cps a.ints)] := by simp [ofNum, tF, nF]
        rw [e8]
        have hp := pks_cps a.ints [] (fun n hn => in64 (hl n hn)) (by simpa using h6)
        have ha : addF (tF 8 (cps a.ints)) [] = (a.ints, 0) := by
          unfold addF tF
          rw [if_neg (by show ¬ (2 : Int) = 0; decide), if_pos rfl]
          simpa using hp
        rw [ints_ok ha]; rfl
    have l1 : lastF (attF a) 1 = tF 1 a.name := by unfold lastF; rw [o1]; rfl
    have l20 : lastF (attF a) 20 = nF 20 7 := by unfold lastF; rw [o20]; rfl
    have hok : (okF (attF a) 1 2 && okF (attF a) 3 0 && okF (attF a) 20 0) = true := by
      rw [okF_no o3]; unfold okF; rw [l1, l20]; simp [tF, nF]
    dsimp only
    rw [if_neg (by rw [hok]; simp), o8, if_neg (by simp), l1, if_neg (by show ¬ nm a.name = false; rw [hn]; simp), l20, if_neg (by show ¬ (7 : Nat) = 2; decide), if_pos (show (nF 20 7).n = 7 from rfl), if_neg (by simp)]
    rfl
theorem attrsM_map : ∀ {l : List Att} (acc : List Att), (∀ a ∈ l, attrM (wrA a) = (nA a, 0)) → attrsM (l.map wrA) acc = (acc ++ l.map nA, 0)
  | [], acc, _ => by simp [attrsM]
  | a :: l, acc, h => by
    have ha := h a List.mem_cons_self
    rw [List.map_cons, attrsM, ha, if_neg (by simp), attrsM_map _ fun b hb => h b (List.mem_cons_of_mem _ hb)]
    simp
theorem nA_name (a : Att) : (nA a).name = a.name := by unfold nA; split <;> rfl
theorem nodF_pr (n : Nod) : ∀ f ∈ nodF n, Pr f := by
  intro f hf
  unfold nodF at hf
  simp only [List.mem_append, List.mem_map, List.mem_cons, List.not_mem_nil, or_false] at hf
  rcases hf with ⟨s, _, rfl⟩ | (rfl | rfl) | ⟨a, _, rfl⟩
  all_goals exact Pr.text _ (by omega) (by omega)
theorem wrA_le {n : Nod} {a : Att} (h : a ∈ n.attrs) : (wrA a).size ≤ (wrN n).size := by
  have hm : tF 5 (wrA a) ∈ nodF n := by
    unfold nodF
    simp only [List.mem_append, List.mem_map]
    exact .inr (.inr ⟨a, h, rfl⟩)
  have h1 := cat_size_mem hm
  have h2 := fb_data_le (Pr.text (k := 5) (wrA a) (by omega) (by omega)) rfl
  unfold wrN
  exact Nat.le_trans h2 h1
theorem nodeM_wrN {n : Nod} (h64 : n.ins.length ≤ 64) (ha : ∀ a ∈ n.attrs, nm a.name = true ∧ I64 a.int ∧ (∀ k ∈ a.ints, I64 k) ∧ a.ints.length ≤ 65536) (hd : (n.attrs.map Att.name).Nodup) (hs : (wrN n).size ≤ 1048576) :
    nodeM (wrN n) = (nN n, 0) := by
  have hf : fields (wrN n) = (nodF n, 0) := fields_cat (nodF_pr n) hs
  have hat : ∀ a ∈ n.attrs, attrM (wrA a) = (nA a, 0) := fun a h => by
    obtain ⟨h1, h2, h3, h4⟩ := ha a h
    exact attrM_wrA h1 h2 h3 h4 (Nat.le_trans (wrA_le h) hs)
  have e5 : (n.attrs.map fun a => tF 5 (wrA a)) = (n.attrs.map wrA).map (tF 5) := by simp
  have o1 : ofNum (nodF n) 1 = n.ins.map (tF 1) := by
    unfold nodF; rw [of_app, of_app, of_map_self, e5, of_map_other (by decide)]; simp [ofNum, tF]
  have o2 : ofNum (nodF n) 2 = [tF 2 n.out] := by
    unfold nodF; rw [of_app, of_app, of_map_other (by decide), e5, of_map_other (by decide)]; simp [ofNum, tF]
  have o4 : ofNum (nodF n) 4 = [tF 4 n.op] := by
    unfold nodF; rw [of_app, of_app, of_map_other (by decide), e5, of_map_other (by decide)]; simp [ofNum, tF]
  have o5 : ofNum (nodF n) 5 = (n.attrs.map wrA).map (tF 5) := by
    unfold nodF; rw [of_app, of_app, of_map_other (by decide), e5, of_map_self]; simp [ofNum, tF]
  have o7 : ofNum (nodF n) 7 = [] := by
    unfold nodF; rw [of_app, of_app, of_map_other (by decide), e5, of_map_other (by decide)]; simp [ofNum, tF]
  have t1 : txts (ofNum (nodF n) 1) [] = (n.ins, 0) := by rw [o1, txts_map]; simp
  have t2 : txts (ofNum (nodF n) 2) [] = ([n.out], 0) := by rw [o2]; simp [txts, tF]
  have t5 : txts (ofNum (nodF n) 5) [] = (n.attrs.map wrA, 0) := by rw [o5, txts_map]; simp
  have l4 : lastF (nodF n) 4 = tF 4 n.op := by unfold lastF; rw [o4]; rfl
  have l7 : lastF (nodF n) 7 = fd0 := last_none o7
  have hm : attrsM (n.attrs.map wrA) [] = (n.attrs.map nA, 0) := by rw [attrsM_map [] hat]; simp
  have hon : once (n.attrs.map nA) = true := by
    rw [once_nodup, List.map_map]
    rwa [show (n.attrs.map (Att.name ∘ nA)) = n.attrs.map Att.name from List.map_congr_left fun a _ => nA_name a]
  unfold nodeM
  rw [hf, if_neg (by simp)]
  unfold nodeL txtsOk
  dsimp only
  rw [t1, t2, t5, okF_no o7]
  have h4 : okF (nodF n) 4 2 = true := by unfold okF; rw [l4]; simp [tF]
  rw [h4, if_neg (by simp), if_neg (by simp; omega), l7, if_neg (by simp [fd0]), hm, if_neg (by simp)]
  dsimp only
  rw [hon, if_neg (by simp), l4]
  rfl
theorem joined_one (s : ByteArray) : joined [s] = s := by
  unfold joined
  exact ByteArray.ext (by simp)
theorem whole_one {l : List WFd} {k : Int} {m : List WFd} (ho : ofNum l k = [tF k (cat m)]) (hm : ∀ f ∈ m, Pr f) (hs : (cat m).size ≤ 1048576) : whole l k = (m, 0) := by
  unfold whole
  have t : txts (ofNum l k) [] = ([cat m], 0) := by rw [ho]; simp [txts, tF]
  rw [t, if_neg (by simp), joined_one, fields_cat hm hs]
theorem cat_one_le {k : Int} {s : ByteArray} (h1 : 1 ≤ k) (h2 : k ≤ 100) {l : List WFd} (h : tF k s ∈ l) : s.size ≤ (cat l).size :=
  Nat.le_trans (fb_data_le (Pr.text (k := k) s h1 h2) rfl) (cat_size_mem h)
theorem dimF_pr (l : List Int) : ∀ f ∈ dimF l, Pr f := by
  intro f hf
  obtain ⟨n, _, rfl⟩ := List.mem_map.1 hf
  exact Pr.text _ (by omega) (by omega)
theorem dimsM_map : ∀ {l : List Int} (acc : List Int), (∀ n ∈ l, I64 n) → dimsM (l.map fun n => cat [nF 1 (us n)]) acc = (acc ++ l, 0)
  | [], acc, _ => by simp [dimsM]
  | n :: l, acc, h => by
    have hp : ∀ f ∈ [nF 1 (us n)], Pr f := by intro f hf; simp at hf; subst hf; exact Pr.num (by omega) (by omega) (us_fits _)
    have hz : (cat [nF 1 (us n)]).size ≤ 1048576 := by
      have := fb_le (nF 1 (us n))
      have e : cat [nF 1 (us n)] = fb (nF 1 (us n)) ++ ⟨#[]⟩ := rfl
      rw [e, ByteArray.size_append]
      have e0 : (⟨#[]⟩ : ByteArray).size = 0 := rfl
      have e1 : (nF 1 (us n)).data.size = 0 := rfl
      omega
    have hf := fields_cat hp hz
    have ho : ofNum [nF 1 (us n)] 1 = [nF 1 (us n)] := by simp [ofNum, nF]
    have hl : lastF [nF 1 (us n)] 1 = nF 1 (us n) := by unfold lastF; rw [ho]; rfl
    have hok : okF [nF 1 (us n)] 1 0 = true := by unfold okF; rw [hl]; simp [nF]
    have hh : has [nF 1 (us n)] 1 = true := by unfold has; rw [ho]; simp
    rw [List.map_cons, dimsM, hf]
    dsimp only
    rw [if_neg (by simp), hok, if_neg (by simp), hh, if_neg (by simp), hl]
    rw [show sg (nF 1 (us n)).n = n from sg_us (in64 (h n List.mem_cons_self)), dimsM_map _ fun k hk => h k (List.mem_cons_of_mem _ hk)]
    simp
theorem kind_us {k : Int} (h : kSize k ≠ 0) : ((us k : Nat) : Int) = k ∧ kindOk (us k) = true := by
  obtain ⟨s, hs, -⟩ := size_nat k
  have hk : isKind k = true := (kSize_pos (k := k)).1 (by omega)
  rcases isKind_iff.1 hk with rfl | rfl | rfl | rfl | rfl <;> decide +kernel
theorem infoM_wrI {i : Inf} (hn : nm i.name = true) (hk : kSize i.kind ≠ 0) (hd : ∀ n ∈ i.dims, I64 n) (hs : (wrI i).size ≤ 1048576) : infoM (wrI i) = (i, 0) := by
  obtain ⟨hku, hkk⟩ := kind_us hk
  have p1 : ∀ f ∈ infF i, Pr f := by
    intro f hf; unfold infF at hf
    simp only [List.mem_cons, List.not_mem_nil, or_false] at hf
    rcases hf with rfl | rfl <;> exact Pr.text _ (by omega) (by omega)
  have p2 : ∀ f ∈ [tF 1 (cat (tenF i))], Pr f := by
    intro f hf; simp only [List.mem_cons, List.not_mem_nil, or_false] at hf; subst hf; exact Pr.text _ (by omega) (by omega)
  have p3 : ∀ f ∈ tenF i, Pr f := by
    intro f hf; unfold tenF at hf
    simp only [List.mem_cons, List.not_mem_nil, or_false] at hf
    rcases hf with rfl | rfl
    · exact Pr.num (by omega) (by omega) (us_fits _)
    · exact Pr.text _ (by omega) (by omega)
  have z2 : (cat [tF 1 (cat (tenF i))]).size ≤ 1048576 := Nat.le_trans (cat_one_le (k := 2) (by omega) (by omega) (by unfold infF; simp)) hs
  have z3 : (cat (tenF i)).size ≤ 1048576 := Nat.le_trans (cat_one_le (k := 1) (by omega) (by omega) (by simp)) z2
  have z4 : (cat (dimF i.dims)).size ≤ 1048576 := Nat.le_trans (cat_one_le (k := 2) (by omega) (by omega) (by unfold tenF; simp)) z3
  have hf : fields (wrI i) = (infF i, 0) := fields_cat p1 hs
  have o1 : ofNum (infF i) 1 = [tF 1 i.name] := by unfold infF; simp [ofNum, tF]
  have w1 : whole (infF i) 2 = ([tF 1 (cat (tenF i))], 0) := whole_one (by unfold infF; simp [ofNum, tF]) p2 z2
  have w2 : whole [tF 1 (cat (tenF i))] 1 = (tenF i, 0) := whole_one (by simp [ofNum, tF]) p3 z3
  have w3 : whole (tenF i) 2 = (dimF i.dims, 0) := whole_one (by unfold tenF; simp [ofNum, tF, nF]) (dimF_pr _) z4
  have o4 : ofNum (tenF i) 1 = [nF 1 (us i.kind)] := by unfold tenF; simp [ofNum, tF, nF]
  have l1 : lastF (infF i) 1 = tF 1 i.name := by unfold lastF; rw [o1]; rfl
  have l4 : lastF (tenF i) 1 = nF 1 (us i.kind) := by unfold lastF; rw [o4]; rfl
  have k1 : okF (infF i) 1 2 = true := by unfold okF; rw [l1]; simp [tF]
  have k4 : okF (tenF i) 1 0 = true := by unfold okF; rw [l4]; simp [nF]
  have t5 : txts (ofNum (dimF i.dims) 1) [] = (i.dims.map fun n => cat [nF 1 (us n)], 0) := by
    have e : dimF i.dims = (i.dims.map fun n => cat [nF 1 (us n)]).map (tF 1) := by unfold dimF; simp
    rw [e, of_map_self, txts_map]; simp
  have m5 : dimsM (i.dims.map fun n => cat [nF 1 (us n)]) [] = (i.dims, 0) := by rw [dimsM_map [] hd]; simp
  unfold infoM
  rw [hf]
  dsimp only
  rw [if_neg (by simp), k1, if_neg (by simp), w1]
  dsimp only
  rw [if_neg (by simp), w2]
  dsimp only
  rw [if_neg (by simp), k4, if_neg (by simp), w3]
  dsimp only
  rw [if_neg (by simp), t5]
  dsimp only
  rw [if_neg (by simp), m5]
  dsimp only
  rw [if_neg (by simp), l1, if_neg (by show ¬ nm i.name = false; rw [hn]; simp), l4]
  rw [if_neg (by show ¬ kindOk (us i.kind) = false; rw [hkk]; simp)]
  show ((⟨i.name, ((us i.kind : Nat) : Int), i.dims⟩ : Inf), 0) = _
  rw [hku]
end M11
end Go.Proofs.YtjjfdlgoacockaaGreat
