/- What the law PbnodeWrites stands on: sizes, and whether a node may be read back. No walk. -/
import Derived.Test.YtiniicehfjgpgaaGreatMEach
import Derived.Test.YtiniicehfjgpgaaGreatBMath
import Derived.Test.YtiniicehfjgpgaaGreatNPutP
import Derived.Test.YtiniicehfjgpgaaGreatNAttr
namespace Go.Proofs.YtiniicehfjgpgaaGreat
open Go.RowKit M1 M2 M3 M8 M9 M10 M11 Go.Sort
open M7 (nm)

theorem sumf_mem {α : Type} (f : α → Nat) : ∀ {l : List α} {a : α}, a ∈ l → f a ≤ sumf f l
  | b :: l, a, h => by
    have e : sumf f (b :: l) = f b + sumf f l := by unfold sumf; simp
    rw [e]
    rcases List.mem_cons.1 h with rfl | h
    · omega
    · have := sumf_mem f h; omega
theorem sumf_len {α : Type} {f : α → Nat} (hf : ∀ a, 1 ≤ f a) : ∀ l : List α, l.length ≤ sumf f l
  | [] => Nat.zero_le _
  | b :: l => by
    have e : sumf f (b :: l) = f b + sumf f l := by unfold sumf; simp
    have := sumf_len hf l
    have := hf b
    rw [e, List.length_cons]; omega
theorem nsm_of {n : Nod} (h : cN n ≤ 6000) : NSm n := by
  unfold cN at h
  have h1 := sumf_len (f := cS) (fun a => by unfold cS; omega) n.ins
  have h2 := sumf_len (f := cA) (fun a => by unfold cA; omega) n.attrs
  refine ⟨by omega, by omega, by omega, by omega, fun s hs => ?_, fun a ha => ?_⟩
  · have := sumf_mem cS hs; unfold cS at this; unfold cS at h; omega
  · have := sumf_mem cA ha
    have e : cA a = 1 + a.name.size + a.ints.length := rfl
    omega
theorem cat_cost {α : Type} {f : α → WFd} {c : α → Nat} {K : Nat} (h : ∀ a, (fb (f a)).size ≤ K * c a) : ∀ l : List α, (cat (l.map f)).size ≤ K * sumf c l
  | [] => Nat.zero_le _
  | a :: l => by
    have e : sumf c (a :: l) = c a + sumf c l := by unfold sumf; simp
    have e2 : cat ((a :: l).map f) = fb (f a) ++ cat (l.map f) := rfl
    have h1 := cat_cost h l
    have h2 := h a
    rw [e, e2, ByteArray.size_append, Nat.mul_add]
    omega
theorem wrN_size (n : Nod) : (wrN n).size ≤ 120 * cN n := by
  have h1 := cat_cost (f := tF 1) (c := cS) (K := 120) (fun s => by have := fb_le (tF 1 s); have e : (tF 1 s).data.size = s.size := rfl; unfold cS; omega) n.ins
  have h2 := cat_cost (f := fun a => tF 5 (wrA a)) (c := cA) (K := 120) (fun a => by
    have h := fb_le (tF 5 (wrA a))
    have e : (tF 5 (wrA a)).data.size = (wrA a).size := rfl
    have h2 := _root_.Go.Proofs.YtiniicehfjgpgaaGreat.wrA_le a
    unfold cA; omega) n.attrs
  have h3 := fb_le (tF 2 n.out)
  have h4 := fb_le (tF 4 n.op)
  have e3 : (tF 2 n.out).data.size = n.out.size := rfl
  have e4 : (tF 4 n.op).data.size = n.op.size := rfl
  unfold wrN nodF cN
  rw [cat_app, cat_app, cat_two, ByteArray.size_append, ByteArray.size_append, ByteArray.size_append]
  omega
theorem wrI_size (i : Inf) : (wrI i).size ≤ 120 * cI i := by
  have h1 := fb_le ⟨1, 2, 0, i.name⟩
  have h2 := fb_le ⟨1, 0, us i.kind, ⟨#[]⟩⟩
  have h3 := fb_le ⟨2, 2, 0, cat (dimF i.dims)⟩
  have h4 := fb_le ⟨1, 2, 0, fb ⟨1, 0, us i.kind, ⟨#[]⟩⟩ ++ fb ⟨2, 2, 0, cat (dimF i.dims)⟩⟩
  have h5 := fb_le ⟨2, 2, 0, fb ⟨1, 2, 0, fb ⟨1, 0, us i.kind, ⟨#[]⟩⟩ ++ fb ⟨2, 2, 0, cat (dimF i.dims)⟩⟩⟩
  have h6 := dim_size i.dims
  have z : (⟨#[]⟩ : ByteArray).size = 0 := rfl
  dsimp only at h1 h2 h3 h4 h5
  rw [ByteArray.size_append] at h4
  rw [← wrI_is, ByteArray.size_append]
  unfold cI
  omega
/-- may the first k attributes be -/
def mayK (n : Nod) (k : Nat) : Bool := decide (n.ins.length ≤ 64) && ((n.attrs.take k).all fun a => nm a.name) && once (n.attrs.take k)
theorem mayK_zero (n : Nod) : mayK n 0 = decide (n.ins.length ≤ 64) := by
  unfold mayK
  rw [List.take_zero, List.all_nil, Bool.and_true]
  have : once ([] : List Att) = true := by decide
  rw [this, Bool.and_true]
theorem fnd_le {l : List Att} {k : Nat} (hk : k < l.length) : 0 ≤ fndI (fun a => decide (a.name = l[k].name)) l ∧ fndI (fun a => decide (a.name = l[k].name)) l ≤ (k : Int) := by
  generalize hp : (fun a : Att => decide (a.name = l[k].name)) = p
  have hpk : p l[k] = true := by rw [← hp]; simp
  have h1 : l.findIdx p ≤ k := by
    rcases Nat.lt_or_ge k (l.findIdx p) with h | h
    · have := List.not_of_lt_findIdx h
      rw [hpk] at this; cases this
    · exact h
  unfold fndI
  rw [if_pos (by omega)]
  omega
theorem mayK_succ {n : Nod} {k : Nat} (hk : k < n.attrs.length) :
    mayK n (k + 1) = (mayK n k && nm n.attrs[k].name && (fndI (fun a => decide (a.name = n.attrs[k].name)) n.attrs == (k : Int))) := by
  have hf : (fndI (fun a => decide (a.name = n.attrs[k].name)) n.attrs == (k : Int)) = !decide (n.attrs[k].name ∈ (n.attrs.take k).map Att.name) := by
    rw [← fnd_low hk]
    have := fnd_le hk
    rw [Bool.eq_iff_iff]
    simp only [beq_iff_eq, Bool.not_eq_true', decide_eq_false_iff_not]
    omega
  have ho := once_snoc (n.attrs.take k) n.attrs[k]
  rw [hf]
  unfold mayK
  rw [List.take_succ_eq_append_getElem hk, List.all_append]
  generalize decide (n.attrs[k].name ∈ (n.attrs.take k).map Att.name) = m at *
  generalize once (n.attrs.take k) = o1 at *
  generalize once (n.attrs.take k ++ [n.attrs[k]]) = o2 at *
  generalize ((n.attrs.take k).all fun a => nm a.name) = q at *
  generalize decide (n.ins.length ≤ 64) = d at *
  simp only [List.all_cons, List.all_nil, Bool.and_true]
  generalize nm n.attrs[k].name = z at *
  revert ho
  cases m <;> cases o1 <;> cases o2 <;> cases q <;> cases d <;> cases z <;> decide
/-- what may be is read as it was -/
theorem back_node {n : Nod} (hm : mayK n n.attrs.length = true) (hA : ∀ a ∈ n.attrs, AOk a) (h6 : cN n ≤ 6000) : nodeM (wrN n) = (nN n, 0) := by
  unfold mayK at hm
  rw [List.take_length] at hm
  simp only [Bool.and_eq_true, decide_eq_true_eq, List.all_eq_true] at hm
  obtain ⟨⟨h1, h2⟩, h3⟩ := hm
  refine nodeM_wrN h1 (fun a ha => ?_) (once_nodup.1 h3) (by have := wrN_size n; omega)
  have hk := hA a ha
  have hl := (nsm_of h6).att a ha
  refine ⟨h2 a ha, hk.int, hk.ints, ?_⟩
  have := sumf_mem cA ha
  have e : cA a = 1 + a.name.size + a.ints.length := rfl
  unfold cN at h6
  omega
theorem back_info {i : Inf} (hn : nm i.name = true) (hk : kSize i.kind ≠ 0) (hi : IOk i) (h6 : cI i ≤ 6000) : infoM (wrI i) = (i, 0) :=
  infoM_wrI hn hk hi.ints (by have := wrI_size i; omega)
end Go.Proofs.YtiniicehfjgpgaaGreat
