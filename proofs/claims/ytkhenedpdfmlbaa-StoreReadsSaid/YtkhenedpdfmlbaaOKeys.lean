/- The walk of Keys: the keys of a map, gathered and sorted by the library. -/
import Derived.Test.YtkhenedpdfmlbaaORead
import Derived.Test.YtkhenedpdfmlbaaOSort
import Derived.Test.YtkhenedpdfmlbaaOSorted
import Derived.Test.YtkhenedpdfmlbaaOMKeys
import Derived.Shelf.SortM.SortNone
import Derived.Sort.KeysCollected
namespace Go.Proofs.Ytkhenedpdfmlbaa
open Go.RowKit M8 Go.Maps Go.ChangeMaps Go.Shelf Go.Sort
open Go.Proofs (encStr)

/-- the keys of files, rising -/
def sk (l : List Fl) : List (List UInt8) := ((keys l).map fun s => s.data.toList).mergeSort leB
theorem sk_len (l : List Fl) : (sk l).length = l.length := by unfold sk keys; simp
theorem FM.perm {b : Nat} {l : List Fl} {w : World} (h : FM b l w) (hn : (keys l).Nodup) : ((keys l).map fun s => s.data.toList).Perm (strKeys (fdat l)) := by
  obtain ⟨es, hD, hpw, _⟩ := World.ownsMap.entries h strLaw
  obtain ⟨es', hD', hko⟩ := World.ownsMap.keysOf h
  obtain rfl : es = es' := by rw [hD] at hD'; simpa using hD'
  rw [hD]
  refine perm_strKeys hpw (fun p hp => by obtain ⟨v, hv⟩ := hko p hp; obtain ⟨x, _, hx, _⟩ := Maps.keyOf_str Try.underlying9 hv; exact ⟨x, hx⟩) ?_ (fun x => ?_)
  · refine List.pairwise_map.2 (hn.imp fun {a b} hab e => hab ?_)
    exact ByteArray.ext (Array.ext' e)
  · rw [← hD]
    have h1 := fdat_has l ⟨x.toArray⟩
    have e : fk ⟨x.toArray⟩ = .string x := by unfold fk; simp
    rw [e] at h1
    rw [h1, decide_eq_true_eq, List.mem_map]
    constructor
    · rintro ⟨s, hs, rfl⟩; exact hs
    · intro hs; exact ⟨_, hs, by simp⟩
theorem sorts_wide (m : Nat) : AnyZ.SortsIn Try.prog sortedLay_ren Fence.wide m :=
  ⟨fun blk off cap ss W hH hblk hsz => callsIn_wide.2 (AnyM.slices_Sort_string strSortLay blk off cap ss W hH hblk hsz),
   fun p cap W => callsIn_wide.2 (AnyM.slices_Sort_string_none strSortLay p cap W)⟩
theorem mkeys_in (mb : Option Nat) (W : World) : CallsIn Fence.wide 5 Try.prog 14 #[.map mb] W fun e w' => e = .returned (.func (.func 20) #[] #[.pointer (some ⟨W.heap.size, 0, none⟩)]) ∧ w' = W.alloc (.cells #[.map mb] 28) :=
  AnyZ.keys_in keysLay Fence.wide 5 trivial rfl mb W
/-- sorted: what the library hands back -/
def SortedRes (l : List Fl) (w w1 : World) (e : Ending) (w' : World) : Prop := ∃ v, e = .returned v ∧ w'.ownsRow w.heap.size 9 1 v l.length ((sk l).map encStr) ∧ Below w.heap.size w1 w'
set_option maxHeartbeats 1000000 in
theorem sorted_some {b : Nat} {l : List Fl} {w : World} (h : FM b l w) (hn : (keys l).Nodup) (hl : l.length ≤ 100) :
    CallsIn Fence.wide 5 Try.prog 13 #[.func (.func 20) #[] #[.pointer (some ⟨w.heap.size, 0, none⟩)]] (w.alloc (.cells #[.map (some b)] 28)) (SortedRes l w (w.alloc (.cells #[.map (some b)] 28))) := by
  have hbl := World.ownsMap.lt h
  have hsz := World.ownsMap.size_le h
  have hseq : SeqGives Fence.wide 2 Try.prog 20 #[.pointer (some ⟨w.heap.size, 0, none⟩)] encStr (fun ss => ss.Perm (strKeys (fdat l))) (Maps.size (fdat l)) (w.alloc (.cells #[.map (some b)] 28)) :=
    AnyZ.keys_gives (ρ := keysLay_ren) { keysLay with } Fence.wide _ trivial rfl (by omega) w.heap.size b l.length (fdat l) _ (by simp) (by simp) (own_map_keep h ((Below.heap_alloc _ _ b hbl)))
  refine (AnyZ.sorted_in sortedLay Fence.wide 5 trivial trivial trivial trivial rfl (by omega) (sorts_wide _) (enters_of Try.func19 (by kernel_rfl) rfl) 20 #[.pointer (some ⟨w.heap.size, 0, none⟩)] trivial (enters_of Try.func20 (by kernel_rfl) rfl) _ _ (by unfold maxLen; omega) (by omega) _ hseq).mono ?_
  rintro e w' ⟨v, ss, rfl, hp, hrow, -, hb⟩
  have hp2 : ss.Perm ((keys l).map fun s => s.data.toList) := hp.trans (h.perm hn).symm
  have e1 : ss.length = l.length := by rw [hp2.length_eq]; simp [keys]
  have e2 : ss.mergeSort (fun x y => decide (x ≤ y)) = sk l := mergeSort_of_perm hp2
  rw [e2, e1] at hrow
  exact ⟨v, rfl, own_base hrow (by simp), hb.mono (by simp)⟩
set_option maxHeartbeats 1000000 in
theorem sorted_none (w : World) :
    CallsIn Fence.wide 5 Try.prog 13 #[.func (.func 20) #[] #[.pointer (some ⟨w.heap.size, 0, none⟩)]] (w.alloc (.cells #[.map none] 28)) (SortedRes [] w (w.alloc (.cells #[.map none] 28))) := by
  have hseq : SeqGives Fence.wide 2 Try.prog 20 #[.pointer (some ⟨w.heap.size, 0, none⟩)] encStr (fun ss : List (List UInt8) => ss = []) 0 (w.alloc (.cells #[.map none] 28)) :=
    AnyZ.keys_gives_nil (ρ := keysLay_ren) { keysLay with } Fence.wide _ trivial rfl w.heap.size _ (by simp) (by simp)
  refine (AnyZ.sorted_in sortedLay Fence.wide 5 trivial trivial trivial trivial rfl (by omega) (sorts_wide _) (enters_of Try.func19 (by kernel_rfl) rfl) 20 #[.pointer (some ⟨w.heap.size, 0, none⟩)] trivial (enters_of Try.func20 (by kernel_rfl) rfl) _ 0 (Nat.zero_le _) (by omega) _ hseq).mono ?_
  rintro e w' ⟨v, ss, rfl, rfl, hrow, -, hb⟩
  have e2 : ([] : List (List UInt8)).mergeSort (fun x y => decide (x ≤ y)) = sk [] := rfl
  rw [e2] at hrow
  exact ⟨v, rfl, own_base hrow (by simp), hb.mono (by simp)⟩
theorem sorted_st {B : Nat} {l : List Fl} {mb : Option Nat} {w : World} (h : St B l mb w) (hl : l.length ≤ 100) :
    CallsIn Fence.wide 5 Try.prog 13 #[.func (.func 20) #[] #[.pointer (some ⟨w.heap.size, 0, none⟩)]] (w.alloc (.cells #[.map mb] 28)) (SortedRes l w (w.alloc (.cells #[.map mb] 28))) := by
  rcases h with ⟨rfl, rfl⟩ | ⟨b, rfl, h2, h3, h4⟩
  · exact sorted_none w
  · exact sorted_some h3 h4 hl
set_option maxRecDepth 100000 in
set_option maxHeartbeats 1000000 in
theorem keys_any (B : Nat) (l : List Fl) (mb : Option Nat) (w : World) (hl : l.length ≤ 100) (hS : St B l mb w) :
    Calls Try.prog 10 #[.agg #[.map mb]] w fun e w' => ∃ v, e = .returned v ∧ w'.ownsRow w.heap.size 9 1 v l.length ((sk l).map encStr) ∧ Below w.heap.size w w' := by
  have HB0 := Lib.hid (Bx.start w #[.map mb] 30)
  have hc0 := cell_of_row _ _ 0 _ _ _ HB0.out.1
  have hc := sorted_st (hS.below HB0.out.all) hl
  rw [World.size_alloc] at hc
  have HC := Lib.hid hc
  clear hc
  have HM := Lib.hid (mkeys_in mb)
  refine (callsIn_wide (n := 6)).1 ?_
  have hfK : Fence.wide.fn 14 := trivial
  have hfS : Fence.wide.fn 13 := trivial
  refine callsIn_of_wp Try.func10 rfl trivial ?_ rfl
  simp only [Try.ntmps10, List.size_toArray, List.length_cons, List.length_nil, Nat.reduceAdd, Nat.reduceSub, Array.replicate_succ, Array.replicate_zero, List.push_toArray, List.append_toArray, List.nil_append, List.cons_append]
  gi_wp2_with (gi_at_call 14; refine (HM.out _).mono ?_; rintro e w' ⟨rfl, rfl⟩)
  refine HC.out.mono ?_
  rintro e w' ⟨v, rfl, hrow, hb⟩
  have HR := Lib.hid (own_base (base' := w.heap.size) hrow (by simp))
  have HB := Lib.hid (step_below HB0.out.all (((Below.refl _ _).alloc (Nat.le_refl _) _).trans hb))
  clear hrow hb
  gi_wp2
  go_ret
  exact ⟨v, rfl, HR.out, HB.out⟩
end Go.Proofs.Ytkhenedpdfmlbaa
