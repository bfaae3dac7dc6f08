/- The walk of layer 2: Last, by contract. -/
import Derived.Test.YtkihbgklfbaiiaaWLists
namespace Go.Proofs.Ytkihbgklfbaiiaa
open Go.RowKit M1 M2

def lastF (l : List WFd) (num : Int) : WFd := ((ofNum l num).getLast?).getD fd0
theorem ofNum_append (a b : List WFd) (num : Int) : ofNum (a ++ b) num = ofNum a num ++ ofNum b num := List.filter_append ..
theorem drop_at_field {l : List WFd} {k : Nat} (h : k < l.length) : l.drop k = l[k] :: l.drop (k + 1) := List.drop_eq_getElem_cons h
theorem last_hit {l : List WFd} {num : Int} {j : Nat} (hj : j < l.length) (h : l[j].num = num) (hd : ofNum (l.drop (j + 1)) num = []) : lastF l num = l[j] ∧ ofNum l num ≠ [] := by
  have e : l = l.take j ++ ([l[j]] ++ l.drop (j + 1)) := by
    rw [List.singleton_append, ← drop_at_field hj, List.take_append_drop]
  have e2 : ofNum l num = ofNum (l.take j) num ++ [l[j]] := by
    have e3 := congrArg (fun x => ofNum x num) e
    simp only [ofNum_append, hd, List.append_nil] at e3
    rw [e3]
    congr 1
    simp [ofNum, h]
  constructor
  · rw [lastF, e2]; simp
  · rw [e2]; simp
theorem last_miss {l : List WFd} {num : Int} {j : Nat} (hj : j < l.length) (h : l[j].num ≠ num) (hd : ofNum (l.drop (j + 1)) num = []) : ofNum (l.drop j) num = [] := by
  rw [drop_at_field hj]
  unfold ofNum at hd ⊢
  rw [List.filter_cons, if_neg (by simpa using h), hd]
theorem last_none {l : List WFd} {num : Int} (h : ofNum l num = []) : lastF l num = fd0 := by rw [lastF, h]; rfl

set_option maxRecDepth 100000 in
theorem last_any (A : Option Addr) (c : Nat) (l : List WFd) (num : Int) (w : World) (hl : l.length ≤ 3000000) (ha : SR w w.heap.size 4 A l.length (fcs l)) :
    Calls Try.prog 12 #[.slice A l.length c, .int .i64 num] w fun e w' => e = .returned (.tuple #[.agg (fc (lastF l num)).toArray, .bool (decide (ofNum l num ≠ []))]) ∧ Below w.heap.size w w' := by
  go_enter Try.func12, Try.ntmps12
  go_wp2
  go_loopw [6, 10] (fun _ i wr => ∃ (k : Nat) (K : Int), i = .int .i64 K ∧ K = (k : Nat) ∧ k ≤ l.length ∧ ofNum (l.drop (l.length - k)) num = [] ∧ Below w.heap.size w wr ∧ wr.heap[w.heap.size]? = some (.cells #[.int .i64 0, .int .i64 0, .int .u64 0, .string ⟨#[]⟩] 35 (0, 0)) ∧ w.heap.size < wr.heap.size) (fun _ i _ => l.length - (intOf i).toNat)
  case atStart => exact ⟨0, _, rfl, rfl, by omega, by simp [ofNum], (Below.refl _ _).alloc (Nat.le_refl _) _, heap_alloc_new w _, by simp⟩
  case round =>
    obtain ⟨k, K, rfl, rfl, hk, hno, hb, hblk, hz⟩ := hrel
    by_cases hlt : k < l.length
    · have hj : l.length - 1 - k < l.length := by omega
      obtain ⟨b1, o1, rfl, hb1, x0, x1, x2, x3⟩ := field_at (ha.below hb) hj
      have hhit := last_hit (num := num) hj
      have hmiss := last_miss (num := num) hj
      have ej : l.length - 1 - k + 1 = l.length - k := by omega
      rw [ej] at hhit hmiss
      generalize hf : l[l.length - 1 - k] = f at *
      clear ha ej
      by_cases h : f.num = num
      · have hq : (f.num == num) = true := by simpa using h
        obtain ⟨hlast, hne⟩ := hhit h hno
        have hd : decide (ofNum l num ≠ []) = true := by simp [hne]
        have HZ := Lib.hid (And.intro hlast hd)
        clear hmiss hhit hno h hf hlast hne hd
        obtain ⟨fnum, ftyp, fn, fdata⟩ := f
        simp only at *
        have hblk' := set4 hblk (.int .i64 fnum) (.int .i64 ftyp) (.int .u64 fn) (.string fdata)
        have hk4 := cells_of4 ((Below.heap_alloc _ (.cells #[.int .i64 fnum, .int .i64 ftyp, .int .u64 (fn : Int), .string fdata] 35) w.heap.size (by simp; omega)).trans hblk')
        have hbb := ((((hb.setCell (p := ⟨w.heap.size, 0, none⟩) (Nat.le_refl _) (.int .i64 fnum)).setCell (p := ⟨w.heap.size, 1, none⟩) (Nat.le_refl _) (.int .i64 ftyp)).setCell (p := ⟨w.heap.size, 2, none⟩) (Nat.le_refl _) (.int .u64 fn)).setCell (p := ⟨w.heap.size, 3, none⟩) (Nat.le_refl _) (.string fdata)).alloc (by simp; omega) (.cells #[.int .i64 fnum, .int .i64 ftyp, .int .u64 (fn : Int), .string fdata] 35)
        have HK := Lib.hid (And.intro hk4 hbb)
        obtain ⟨c0, c1, c2, c3⟩ := cells_of4 hblk
        have f0 := fun i => frozen_of_row wr w.heap.size i _ _ hblk
        clear hk4 hbb hblk hblk' hb
        have hidx : (l.length : Int) - 1 - (k : Int) < (l.length : Int) := by omega
        go_wp2_with fail
        obtain ⟨⟨c0, c1, c2, c3⟩, hbb⟩ := HK.out
        clear HK f0 x0 x1 x2 x3
        generalize (((((wr.setCell ⟨w.heap.size, 0, none⟩ (.int .i64 fnum)).setCell ⟨w.heap.size, 1, none⟩ (.int .i64 ftyp)).setCell ⟨w.heap.size, 2, none⟩ (.int .u64 fn)).setCell ⟨w.heap.size, 3, none⟩ (.string fdata)).alloc (.cells #[.int .i64 fnum, .int .i64 ftyp, .int .u64 (fn : Int), .string fdata] 35)) = w2 at *
        rw [HZ.out.1, HZ.out.2]
        exact bodyPost_ret (v := .tuple #[.agg #[.int .i64 fnum, .int .i64 ftyp, .int .u64 fn, .string fdata], .bool true]) (by simp [results, Try.results12, go_sem, c0, c1, c2, c3]) rfl ⟨rfl, hbb⟩
      · have hq : (f.num == num) = false := by simpa using h
        have hm := hmiss h hno
        have HO := Lib.hid (And.intro hm (And.intro (hb.alloc (Nat.le_of_lt hz) (.cells (fc f).toArray 35)) (And.intro ((Below.heap_alloc wr (.cells (fc f).toArray 35) w.heap.size hz).trans hblk) hz)))
        clear hmiss hhit hm hb hblk hno h hf
        obtain ⟨fnum, ftyp, fn, fdata⟩ := f
        simp only at *
        have hidx : (l.length : Int) - 1 - (k : Int) < (l.length : Int) := by omega
        go_wp2_with fail
        go_roundw
        case rel =>
          refine ⟨k + 1, _, rfl, by omega, by omega, ?_, HO.out.2.1, HO.out.2.2.1, by simp; omega⟩
          rw [show l.length - (k + 1) = l.length - 1 - k by omega]
          exact HO.out.1
        case measure => simp [intOf]; omega
    · obtain rfl : k = l.length := by omega
      rw [Nat.sub_self, List.drop_zero] at hno
      have hk4 := cells_of4 (set4 hblk (.int .i64 0) (.int .i64 0) (.int .u64 0) (.string ⟨#[]⟩))
      have hbb := (((hb.setCell (p := ⟨w.heap.size, 0, none⟩) (Nat.le_refl _) (.int .i64 0)).setCell (p := ⟨w.heap.size, 1, none⟩) (Nat.le_refl _) (.int .i64 0)).setCell (p := ⟨w.heap.size, 2, none⟩) (Nat.le_refl _) (.int .u64 0)).setCell (p := ⟨w.heap.size, 3, none⟩) (Nat.le_refl _) (.string ⟨#[]⟩)
      have HK := Lib.hid (And.intro hk4 hbb)
      have HN := Lib.hid hno
      obtain ⟨c0, c1, c2, c3⟩ := cells_of4 hblk
      have f0 := fun i => frozen_of_row wr w.heap.size i _ _ hblk
      clear hk4 hbb hno hblk hb ha
      go_wp2_with fail
      obtain ⟨⟨c0, c1, c2, c3⟩, hbb⟩ := HK.out
      have hn := HN.out
      have hlast := last_none hn
      have hd : decide (ofNum l num ≠ []) = false := by simp [hn]
      have HZ := Lib.hid (And.intro hlast hd)
      clear HK hn hlast hd f0
      generalize ((((wr.setCell ⟨w.heap.size, 0, none⟩ (.int .i64 0)).setCell ⟨w.heap.size, 1, none⟩ (.int .i64 0)).setCell ⟨w.heap.size, 2, none⟩ (.int .u64 0)).setCell ⟨w.heap.size, 3, none⟩ (.string ⟨#[]⟩)) = w2 at *
      rw [HZ.out.1, HZ.out.2]
      exact bodyPost_ret (v := .tuple #[.agg #[.int .i64 0, .int .i64 0, .int .u64 0, .string ⟨#[]⟩], .bool false]) (by simp [results, Try.results12, go_sem, c0, c1, c2, c3]) rfl ⟨rfl, hbb⟩
end Go.Proofs.Ytkihbgklfbaiiaa
