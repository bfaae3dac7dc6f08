import Derived.Test.YtjjfdlgoacockaaGreatTMade
import Derived.Test.YtjjfdlgoacockaaGreatTCheck
import Derived.Test.YtjjfdlgoacockaaGreatMath
namespace Go.Proofs.YtjjfdlgoacockaaGreat
namespace M11
open Go.RowKit M1 M2 M3 M9 M10
open M7 (nm)

def zA11 : Att := ⟨⟨#[]⟩,false,0,[]⟩
def zN11 : Nod := ⟨⟨#[]⟩,[],⟨#[]⟩,[]⟩
def zI11 : Inf := ⟨⟨#[]⟩,0,[]⟩
def attrL (l : List WFd) : Att×Nat :=
  if (okF l 1 2 && okF l 3 0 && okF l 20 0) = false then (zA11,3)
  else if (ints (ofNum l 8) []).2≠0 then (zA11,(ints (ofNum l 8) []).2)
  else if nm (lastF l 1).data = false then (zA11,8)
  else if (lastF l 20).n = 2 then (⟨(lastF l 1).data,true,sg (lastF l 3).n,[]⟩,0)
  else if (lastF l 20).n = 7 then (⟨(lastF l 1).data,false,0,(ints (ofNum l 8) []).1⟩,0)
  else (zA11,12)
def attrM (b : ByteArray) : Att×Nat := if (fields b).2≠0 then (zA11,(fields b).2) else attrL (fields b).1
def attrsM : List ByteArray→List Att→List Att×Nat
  | [],acc => (acc,0)
  | b :: r,acc => if (attrM b).2≠0 then ([],(attrM b).2) else attrsM r (acc ++ [(attrM b).1])
def once (l : List Att) : Bool := decide (l.map Att.name).Nodup
def txtsOk (l : List WFd) : Bool := decide ((txts (ofNum l 1) []).2 = 0) && decide ((txts (ofNum l 2) []).2 = 0) && decide ((txts (ofNum l 5) []).2 = 0)
def nodeL (l : List WFd) : Nod×Nat :=
  if (txtsOk l && okF l 4 2 && okF l 7 2) = false then (zN11,3)
  else if (txts (ofNum l 2) []).1.length≠1∨64 < (txts (ofNum l 1) []).1.length then (zN11,11)
  else if (lastF l 7).data≠⟨#[]⟩ then (zN11,10)
  else if (attrsM (txts (ofNum l 5) []).1 []).2≠0 then (zN11,(attrsM (txts (ofNum l 5) []).1 []).2)
  else if once (attrsM (txts (ofNum l 5) []).1 []).1 = false then (zN11,14)
  else (⟨(lastF l 4).data,(txts (ofNum l 1) []).1,(txts (ofNum l 2) []).1.headD ⟨#[]⟩,(attrsM (txts (ofNum l 5) []).1 []).1⟩,0)
def nodeM (b : ByteArray) : Nod×Nat := if (fields b).2≠0 then (zN11,(fields b).2) else nodeL (fields b).1
def joined (l : List ByteArray) : ByteArray := l.foldl (fun s t => s ++ t) ⟨#[]⟩
def whole (l : List WFd) (num : Int) : List WFd×Nat := if (txts (ofNum l num) []).2≠0 then ([],(txts (ofNum l num) []).2) else fields (joined (txts (ofNum l num) []).1)
def dimsM : List ByteArray → List Int → List Int × Nat
  | [],acc => (acc,0)
  | b :: r,acc => if (fields b).2≠0 then ([],(fields b).2) else if okF (fields b).1 1 0 = false then ([],3) else if has (fields b).1 1 = false then ([],6)
    else dimsM r (acc ++ [sg (lastF (fields b).1 1).n])
def kindOk (k : Nat) : Bool := decide (k≤100) && decide (kSize (k : Int)≠0)
def infoM (b : ByteArray) : Inf×Nat :=
  if (fields b).2≠0 then (zI11,(fields b).2) else if okF (fields b).1 1 2 = false then (zI11,3)
  else if (whole (fields b).1 2).2≠0 then (zI11,(whole (fields b).1 2).2)
  else if (whole (whole (fields b).1 2).1 1).2≠0 then (zI11,(whole (whole (fields b).1 2).1 1).2)
  else if okF (whole (whole (fields b).1 2).1 1).1 1 0 = false then (zI11,3)
  else if (whole (whole (whole (fields b).1 2).1 1).1 2).2≠0 then (zI11,(whole (whole (whole (fields b).1 2).1 1).1 2).2)
  else if (txts (ofNum (whole (whole (whole (fields b).1 2).1 1).1 2).1 1) []).2≠0 then (zI11,(txts (ofNum (whole (whole (whole (fields b).1 2).1 1).1 2).1 1) []).2)
  else if (dimsM (txts (ofNum (whole (whole (whole (fields b).1 2).1 1).1 2).1 1) []).1 []).2≠0 then (zI11,(dimsM (txts (ofNum (whole (whole (whole (fields b).1 2).1 1).1 2).1 1) []).1 []).2)
  else if nm (lastF (fields b).1 1).data = false then (zI11,8)
  else if kindOk (lastF (whole (whole (fields b).1 2).1 1).1 1).n = false then (zI11,5)
  else (⟨(lastF (fields b).1 1).data,((lastF (whole (whole (fields b).1 2).1 1).1 1).n : Int),(dimsM (txts (ofNum (whole (whole (whole (fields b).1 2).1 1).1 2).1 1) []).1 []).1⟩,0)

/-! ### the least writing -/
def tF (k : Int) (s : ByteArray) : WFd := ⟨k,2,0,s⟩
def nF (k : Int) (n : Nat) : WFd := ⟨k,0,n,⟨#[]⟩⟩
def attF (a : Att) : List WFd := if a.one then [tF 1 a.name,nF 3 (us a.int),nF 20 2] else tF 1 a.name :: ((if a.ints = [] then [] else [tF 8 (cps a.ints)]) ++ [nF 20 7])
def wrA (a : Att) : ByteArray := cat (attF a)
def nodF (n : Nod) : List WFd := n.ins.map (tF 1) ++ ([tF 2 n.out,tF 4 n.op] ++ n.attrs.map fun a => tF 5 (wrA a))
def wrN (n : Nod) : ByteArray := cat (nodF n)
def dimF (l : List Int) : List WFd := l.map fun n => tF 1 (cat [nF 1 (us n)])
def tenF (i : Inf) : List WFd := [nF 1 (us i.kind),tF 2 (cat (dimF i.dims))]
def infF (i : Inf) : List WFd := [tF 1 i.name,tF 2 (cat [tF 1 (cat (tenF i))])]
def wrI (i : Inf) : ByteArray := cat (infF i)

def Pr (f : WFd) : Prop := 1≤f.num∧f.num≤100∧((f.typ = 2∧f.n = 0)∨(f.typ = 0∧Fits64 f.n∧f.data = ⟨#[]⟩))
theorem Pr.text {k : Int} (s : ByteArray) (h1 : 1≤k) (h2 : k≤100) : Pr (tF k s) := ⟨h1,h2,.inl ⟨rfl,rfl⟩⟩
theorem cat_size_mem : ∀ {l : List WFd} {f : WFd},f ∈ l→(fb f).size≤(cat l).size
  | g :: l,f,h => by
    rw [cat,ByteArray.size_append]
    rcases List.mem_cons.1 h with rfl | h
    · omega
    · have := cat_size_mem h; omega
theorem fb_data_le {f : WFd} (h : Pr f) (ht : f.typ = 2) : f.data.size≤(fb f).size := by
  obtain ⟨k,t,n,d⟩ := f
  dsimp only at ht ⊢
  subst ht
  have hm : M2.mayB k 2 = true := by unfold M2.mayB; rw [decide_eq_true_iff]; have := h.1; have := h.2.1; dsimp only at *; omega
  have e : fb ⟨k,2,n,d⟩ = ps (8 * k + 2).toNat ++ ps d.size ++ d := by unfold fb; simp [hm]
  rw [e,ByteArray.size_append]; omega
/-! ### what the fields of a writing tell -/
theorem once_nodup {l : List Att} : once l = true ↔ (l.map Att.name).Nodup := by unfold once; simp
end M11
end Go.Proofs.YtjjfdlgoacockaaGreat
namespace Go.Proofs.YtjjfdlgoacockaaGreat
namespace M11
open Go.RowKit M1 M2 M3 M9 M10
open M7 (nm)

end M11
end Go.Proofs.YtjjfdlgoacockaaGreat
