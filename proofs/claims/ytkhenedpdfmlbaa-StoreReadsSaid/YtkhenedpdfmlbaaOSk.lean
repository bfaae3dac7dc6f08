/- The keys of files, rising: each is one of them, none is twice; what is read of each. -/
import Derived.Test.YtkhenedpdfmlbaaOKeys
import Derived.Sort.Walk0
namespace Go.Proofs.Ytkhenedpdfmlbaa
open Go.RowKit M8 Go.Sort
open Go.Proofs (encStr)

theorem sk_perm (q : List Fl) : (sk q).Perm ((keys q).map fun s => s.data.toList) := List.mergeSort_perm _ _
theorem sk_sorted (q : List Fl) : (sk q).Pairwise (fun a b => leB a b = true) := by
  have tr : ∀ a b c : List UInt8, leB a b = true → leB b c = true → leB a c = true := fun a b c h1 h2 => by simp only [leB, decide_eq_true_eq] at *; exact List.le_trans h1 h2
  have to : ∀ a b : List UInt8, (leB a b || leB b a) = true := fun a b => by simp only [leB, Bool.or_eq_true, decide_eq_true_eq]; exact List.le_total a b
  exact List.pairwise_mergeSort tr to _
theorem sk_nodup {q : List Fl} (hn : (keys q).Nodup) : (sk q).Nodup := by
  refine (sk_perm q).symm.nodup ?_
  refine List.pairwise_map.2 (hn.imp fun {a b} hab e => hab ?_)
  exact ByteArray.ext (Array.ext' e)
/-- the key at place k -/
def kb (q : List Fl) (k : Nat) : ByteArray := ⟨((sk q).getD k []).toArray⟩
theorem sk_at {q : List Fl} {k : Nat} (hk : k < q.length) : ((sk q).map encStr)[k]? = some (.string (kb q k)) := by
  have h : k < (sk q).length := by rw [sk_len]; exact hk
  simp [kb, encStr, h]
theorem kb_mem {q : List Fl} {k : Nat} (hk : k < q.length) : kb q k ∈ keys q := by
  have h : k < (sk q).length := by rw [sk_len]; exact hk
  have h1 : (sk q)[k] ∈ (keys q).map fun s => s.data.toList := (sk_perm q).mem_iff.1 (List.getElem_mem h)
  obtain ⟨s, hs, e⟩ := List.mem_map.1 h1
  have e2 : kb q k = s := by
    unfold kb
    rw [List.getD_eq_getElem?_getD, List.getElem?_eq_getElem h]
    exact ByteArray.ext (Array.ext' (by simp [← e]))
  rw [e2]; exact hs
theorem kb_step {q : List Fl} {k : Nat} (hn : (keys q).Nodup) (hk : k + 1 < q.length) : Op.bytesLess (kb q (k + 1)).toList (kb q k).toList = false ∧ ((kb q (k + 1)).toList == (kb q k).toList) = false := by
  have h1 : k < (sk q).length := by rw [sk_len]; omega
  have h2 : k + 1 < (sk q).length := by rw [sk_len]; exact hk
  have e1 : (kb q k).toList = (sk q)[k] := by rw [Lib.toList_data]; unfold kb; simp [h1]
  have e2 : (kb q (k + 1)).toList = (sk q)[k + 1] := by rw [Lib.toList_data]; unfold kb; simp [h2]
  have p := List.pairwise_iff_getElem.1 (sk_sorted q) k (k + 1) h1 h2 (by omega)
  have n := List.pairwise_iff_getElem.1 (sk_nodup hn) k (k + 1) h1 h2 (by omega)
  simp only [leB, decide_eq_true_eq] at p
  rw [e1, e2, bytesLess_eq]
  refine ⟨decide_eq_false p, ?_⟩
  rw [beq_eq_false_iff_ne]
  exact fun e => n e.symm
theorem goN_keys : ∀ (l : List Fl) (seen : List ByteArray), goN seen l = 0 → ∀ f ∈ l, keyB f.key = true
  | f :: r, seen, h, g, hg => by
    unfold goN at h
    split at h
    · cases h
    · rename_i hk
      split at h
      · cases h
      · rcases List.mem_cons.1 hg with rfl | hg
        · simpa using hk
        · exact goN_keys r _ h g hg
theorem kept_keys (l : List Fl) : ∀ f ∈ kept l, keyB f.key = true := by
  intro f hf
  by_cases h : newC l = 0
  · rw [kept_yes h] at hf
    unfold newC at h
    split at h
    · cases h
    · exact goN_keys l [] h f hf
  · rw [kept_no rfl h] at hf; cases hf
theorem kept_sub (l : List Fl) : ∀ f ∈ kept l, f ∈ l := by
  intro f hf
  by_cases h : newC l = 0
  · rwa [kept_yes h] at hf
  · rw [kept_no rfl h] at hf; cases hf
theorem kept_len (l : List Fl) : (kept l).length ≤ l.length := by
  unfold kept; split <;> simp
/-- what is read of a key of these files, from 0 on, nothing: no error -/
theorem rdC_none {q : List Fl} {s : ByteArray} (hq : ∀ f ∈ q, keyB f.key = true) (hs : s ∈ keys q) : (rdC q s 0 0).2 = 0 := by
  obtain ⟨f, hf, hm, he⟩ := find_in hs
  rw [rdC_ok (by rw [← he]; exact hq f hm) (by omega) hf (by omega)]
theorem kb_small {q : List Fl} {k : Nat} (hk : k < q.length) (hq : ∀ f ∈ q, f.key.size ≤ 10000 ∧ f.data.size ≤ 10000) : (kb q k).size ≤ 10000 := by
  obtain ⟨f, hf, e⟩ := List.mem_map.1 (kb_mem hk)
  rw [← e]; exact (hq f hf).1
theorem St.nodup {B : Nat} {l : List Fl} {mb : Option Nat} {w : World} (h : St B l mb w) : (keys l).Nodup := by
  rcases h with ⟨rfl, -⟩ | ⟨b, -, -, -, h⟩
  · simp [keys]
  · exact h
end Go.Proofs.Ytkhenedpdfmlbaa
