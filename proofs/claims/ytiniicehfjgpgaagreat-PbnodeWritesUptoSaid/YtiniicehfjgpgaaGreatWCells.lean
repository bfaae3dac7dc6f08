/- Layer 2: the cells of a field. -/
import Derived.Test.YtiniicehfjgpgaaGreatRows
import Derived.Test.YtiniicehfjgpgaaGreatMath
import Derived.Test.YtiniicehfjgpgaaGreatKMath
import Derived.Test.YtiniicehfjgpgaaGreatRow
import Derived.Outline
import Derived.WalkSpells
import Derived.WalkMore
import Derived.OneCell
namespace Go.Proofs.YtiniicehfjgpgaaGreat
open Go.RowKit M1 M2

/-- a field's cells -/
def fc (f : WFd) : List Value := [.int .i64 f.num, .int .i64 f.typ, .int .u64 (f.n : Int), .string f.data]
def fcs (l : List WFd) : List Value := l.flatMap fc
theorem fcs_len (l : List WFd) : (fcs l).length = l.length * 4 := by
  induction l with
  | nil => rfl
  | cons f l ih => simp only [fcs, List.flatMap_cons, List.length_append, List.length_cons] at *; rw [ih]; simp [fc]; omega
theorem fcs_append (a b : List WFd) : fcs (a ++ b) = fcs a ++ fcs b := by simp [fcs]
theorem fcs_one (f : WFd) : fcs [f] = fc f := by simp [fcs]
theorem fcs_at (l : List WFd) (k : Nat) (h : k < l.length) (j : Nat) (hj : j < 4) : (fcs l)[k * 4 + j]? = (fc l[k])[j]? := by
  induction l generalizing k with
  | nil => simp at h
  | cons f l ih =>
    have hf : (fc f).length = 4 := rfl
    rw [show fcs (f :: l) = fc f ++ fcs l from rfl]
    cases k with
    | zero => rw [List.getElem?_append_left (by omega)]; simp
    | succ k =>
      rw [List.getElem?_append_right (by omega), hf, show (k + 1) * 4 + j - 4 = k * 4 + j by omega, ih k (by simpa using h)]
      simp
theorem fcs_one_cell {l : List WFd} : ∀ u ∈ fcs l, u.oneCell' = true := by
  intro u hu
  simp only [fcs, List.mem_flatMap, fc] at hu
  obtain ⟨f, _, hu⟩ := hu
  simp at hu
  rcases hu with rfl | rfl | rfl | rfl <;> rfl
theorem infoField : (Tryz.prog.info? 114).map (fun i => (i.zero, i.size, i.bytes)) = some (some (.agg #[.int .i64 0, .int .i64 0, .int .u64 0, .string ⟨#[]⟩]), 4, 40) := by kernel_rfl
end Go.Proofs.YtiniicehfjgpgaaGreat
/- Layer 2: a slice of fields, element by element; the fields of a number, as a list. -/
namespace Go.Proofs.YtiniicehfjgpgaaGreat
open Go.RowKit M1 M2

/-- field k of a slice of fields, cell by cell -/
theorem field_at {w : World} {B : Nat} {A : Option Addr} {l : List WFd} (h : SR w B 4 A l.length (fcs l)) {k : Nat} (hk : k < l.length) :
    ∃ b o, A = some ⟨b, o, none⟩ ∧ b < B ∧ w.cell? ⟨b, o + k * 4, none⟩ = some (.int .i64 l[k].num) ∧ w.cell? ⟨b, o + k * 4 + 1, none⟩ = some (.int .i64 l[k].typ) ∧
      w.cell? ⟨b, o + k * 4 + 2, none⟩ = some (.int .u64 (l[k].n : Int)) ∧ w.cell? ⟨b, o + k * 4 + 3, none⟩ = some (.string l[k].data) := by
  obtain ⟨b, o, hA, hb, hc⟩ := h.at_ hk
  refine ⟨b, o, hA, hb, hc 0 (by omega) _ ?_, hc 1 (by omega) _ ?_, hc 2 (by omega) _ ?_, hc 3 (by omega) _ ?_⟩
  all_goals rw [fcs_at l k hk _ (by omega)]; rfl

def ofNum (l : List WFd) (num : Int) : List WFd := l.filter fun f => decide (f.num = num)
theorem ofNum_snoc (l : List WFd) (f : WFd) (num : Int) : ofNum (l ++ [f]) num = if f.num = num then ofNum l num ++ [f] else ofNum l num := by
  unfold ofNum
  rw [List.filter_append]
  by_cases h : f.num = num <;> simp [h]
theorem ofNum_le (l : List WFd) (num : Int) : (ofNum l num).length ≤ l.length := List.length_filter_le _ _
theorem take_succ_at {l : List WFd} {k : Nat} (h : k < l.length) : l.take (k + 1) = l.take k ++ [l[k]] := by
  rw [List.take_succ_eq_append_getElem h]
end Go.Proofs.YtiniicehfjgpgaaGreat
/- The walk of layer 2: Last, by contract. -/
namespace Go.Proofs.YtiniicehfjgpgaaGreat
open Go.RowKit M1 M2

def lastF (l : List WFd) (num : Int) : WFd := ((ofNum l num).getLast?).getD fd0
theorem ofNum_append (a b : List WFd) (num : Int) : ofNum (a ++ b) num = ofNum a num ++ ofNum b num := List.filter_append ..
theorem drop_at_field {l : List WFd} {k : Nat} (h : k < l.length) : l.drop k = l[k] :: l.drop (k + 1) := List.drop_eq_getElem_cons h
theorem last_hit {l : List WFd} {num : Int} {j : Nat} (hj : j < l.length) (h : l[j].num = num) (hd : ofNum (l.drop (j + 1)) num = []) : lastF l num = l[j] ∧ ofNum l num ≠ [] := by
  have e : l = l.take j ++ ([l[j]] ++ l.drop (j + 1)) := by
    rw [List.singleton_append, ← drop_at_field hj, List.take_append_drop]
  have e2 : ofNum l num = ofNum (l.take j) num ++ [l[j]] := by
    have e3 := congrArg (fun x => ofNum x num) e
    simp only [ofNum_append, hd, List.append_nil] at e3
    rw [e3]
    congr 1
    simp [ofNum, h]
  constructor
  · rw [lastF, e2]; simp
  · rw [e2]; simp
theorem last_miss {l : List WFd} {num : Int} {j : Nat} (hj : j < l.length) (h : l[j].num ≠ num) (hd : ofNum (l.drop (j + 1)) num = []) : ofNum (l.drop j) num = [] := by
  rw [drop_at_field hj]
  unfold ofNum at hd ⊢
  rw [List.filter_cons, if_neg (by simpa using h), hd]
theorem last_none {l : List WFd} {num : Int} (h : ofNum l num = []) : lastF l num = fd0 := by rw [lastF, h]; rfl

set_option maxRecDepth 100000 in
theorem last_any (A : Option Addr) (c : Nat) (l : List WFd) (num : Int) (w : World) (hl : l.length ≤ 3000000) (ha : SR w w.heap.size 4 A l.length (fcs l)) :
    Calls Tryz.prog 65 #[.slice A l.length c, .int .i64 num] w fun e w' => e = .returned (.tuple #[.agg (fc (lastF l num)).toArray, .bool (decide (ofNum l num ≠ []))]) ∧ Below w.heap.size w w' := by
  go_enter Tryz.func65, Tryz.ntmps65
  go_wp2
  go_loopw [6, 10] (fun _ i wr => ∃ (k : Nat) (K : Int), i = .int .i64 K ∧ K = (k : Nat) ∧ k ≤ l.length ∧ ofNum (l.drop (l.length - k)) num = [] ∧ Below w.heap.size w wr ∧ wr.heap[w.heap.size]? = some (.cells #[.int .i64 0, .int .i64 0, .int .u64 0, .string ⟨#[]⟩] 114 (0, 0)) ∧ w.heap.size < wr.heap.size) (fun _ i _ => l.length - (intOf i).toNat)
  case atStart => exact ⟨0, _, rfl, rfl, by omega, by simp [ofNum], (Below.refl _ _).alloc (Nat.le_refl _) _, heap_alloc_new w _, by simp⟩
  case round =>
    obtain ⟨k, K, rfl, rfl, hk, hno, hb, hblk, hz⟩ := hrel
    by_cases hlt : k < l.length
    · have hj : l.length - 1 - k < l.length := by omega
      obtain ⟨b1, o1, rfl, hb1, x0, x1, x2, x3⟩ := field_at (ha.below hb) hj
      have hhit := last_hit (num := num) hj
      have hmiss := last_miss (num := num) hj
      have ej : l.length - 1 - k + 1 = l.length - k := by omega
      rw [ej] at hhit hmiss
      generalize hf : l[l.length - 1 - k] = f at *
      clear ha ej
      by_cases h : f.num = num
      · have hq : (f.num == num) = true := by simpa using h
        obtain ⟨hlast, hne⟩ := hhit h hno
        have hd : decide (ofNum l num ≠ []) = true := by simp [hne]
        have HZ := Lib.hid (And.intro hlast hd)
        clear hmiss hhit hno h hf hlast hne hd
        obtain ⟨fnum, ftyp, fn, fdata⟩ := f
        simp only at *
        have hblk' := set4 hblk (.int .i64 fnum) (.int .i64 ftyp) (.int .u64 fn) (.string fdata)
        have hk4 := cells_of4 ((Below.heap_alloc _ (.cells #[.int .i64 fnum, .int .i64 ftyp, .int .u64 (fn : Int), .string fdata] 114) w.heap.size (by simp; omega)).trans hblk')
        have hbb := ((((hb.setCell (p := ⟨w.heap.size, 0, none⟩) (Nat.le_refl _) (.int .i64 fnum)).setCell (p := ⟨w.heap.size, 1, none⟩) (Nat.le_refl _) (.int .i64 ftyp)).setCell (p := ⟨w.heap.size, 2, none⟩) (Nat.le_refl _) (.int .u64 fn)).setCell (p := ⟨w.heap.size, 3, none⟩) (Nat.le_refl _) (.string fdata)).alloc (by simp; omega) (.cells #[.int .i64 fnum, .int .i64 ftyp, .int .u64 (fn : Int), .string fdata] 114)
        have HK := Lib.hid (And.intro hk4 hbb)
        obtain ⟨c0, c1, c2, c3⟩ := cells_of4 hblk
        have f0 := fun i => frozen_of_row wr w.heap.size i _ _ hblk
        clear hk4 hbb hblk hblk' hb
        have hidx : (l.length : Int) - 1 - (k : Int) < (l.length : Int) := by omega
        go_wp2_with fail
        obtain ⟨⟨c0, c1, c2, c3⟩, hbb⟩ := HK.out
        clear HK f0 x0 x1 x2 x3
        generalize (((((wr.setCell ⟨w.heap.size, 0, none⟩ (.int .i64 fnum)).setCell ⟨w.heap.size, 1, none⟩ (.int .i64 ftyp)).setCell ⟨w.heap.size, 2, none⟩ (.int .u64 fn)).setCell ⟨w.heap.size, 3, none⟩ (.string fdata)).alloc (.cells #[.int .i64 fnum, .int .i64 ftyp, .int .u64 (fn : Int), .string fdata] 114)) = w2 at *
        rw [HZ.out.1, HZ.out.2]
        exact bodyPost_ret (v := .tuple #[.agg #[.int .i64 fnum, .int .i64 ftyp, .int .u64 fn, .string fdata], .bool true]) (by simp [results, Tryz.results65, go_sem, c0, c1, c2, c3]) rfl ⟨rfl, hbb⟩
      · have hq : (f.num == num) = false := by simpa using h
        have hm := hmiss h hno
        have HO := Lib.hid (And.intro hm (And.intro (hb.alloc (Nat.le_of_lt hz) (.cells (fc f).toArray 114)) (And.intro ((Below.heap_alloc wr (.cells (fc f).toArray 114) w.heap.size hz).trans hblk) hz)))
        clear hmiss hhit hm hb hblk hno h hf
        obtain ⟨fnum, ftyp, fn, fdata⟩ := f
        simp only at *
        have hidx : (l.length : Int) - 1 - (k : Int) < (l.length : Int) := by omega
        go_wp2_with fail
        go_roundw
        case rel =>
          refine ⟨k + 1, _, rfl, by omega, by omega, ?_, HO.out.2.1, HO.out.2.2.1, by simp; omega⟩
          rw [show l.length - (k + 1) = l.length - 1 - k by omega]
          exact HO.out.1
        case measure => simp [intOf]; omega
    · obtain rfl : k = l.length := by omega
      rw [Nat.sub_self, List.drop_zero] at hno
      have hk4 := cells_of4 (set4 hblk (.int .i64 0) (.int .i64 0) (.int .u64 0) (.string ⟨#[]⟩))
      have hbb := (((hb.setCell (p := ⟨w.heap.size, 0, none⟩) (Nat.le_refl _) (.int .i64 0)).setCell (p := ⟨w.heap.size, 1, none⟩) (Nat.le_refl _) (.int .i64 0)).setCell (p := ⟨w.heap.size, 2, none⟩) (Nat.le_refl _) (.int .u64 0)).setCell (p := ⟨w.heap.size, 3, none⟩) (Nat.le_refl _) (.string ⟨#[]⟩)
      have HK := Lib.hid (And.intro hk4 hbb)
      have HN := Lib.hid hno
      obtain ⟨c0, c1, c2, c3⟩ := cells_of4 hblk
      have f0 := fun i => frozen_of_row wr w.heap.size i _ _ hblk
      clear hk4 hbb hno hblk hb ha
      go_wp2_with fail
      obtain ⟨⟨c0, c1, c2, c3⟩, hbb⟩ := HK.out
      have hn := HN.out
      have hlast := last_none hn
      have hd : decide (ofNum l num ≠ []) = false := by simp [hn]
      have HZ := Lib.hid (And.intro hlast hd)
      clear HK hn hlast hd f0
      generalize ((((wr.setCell ⟨w.heap.size, 0, none⟩ (.int .i64 0)).setCell ⟨w.heap.size, 1, none⟩ (.int .i64 0)).setCell ⟨w.heap.size, 2, none⟩ (.int .u64 0)).setCell ⟨w.heap.size, 3, none⟩ (.string ⟨#[]⟩)) = w2 at *
      rw [HZ.out.1, HZ.out.2]
      exact bodyPost_ret (v := .tuple #[.agg #[.int .i64 0, .int .i64 0, .int .u64 0, .string ⟨#[]⟩], .bool false]) (by simp [results, Tryz.results65, go_sem, c0, c1, c2, c3]) rfl ⟨rfl, hbb⟩
end Go.Proofs.YtiniicehfjgpgaaGreat
/- The walk of layer 2: may a field be, by contract. -/
namespace Go.Proofs.YtiniicehfjgpgaaGreat
open Go.RowKit M1 M2

theorem w_may_any (num typ : Int) (n : Int) (d : ByteArray) (w : World) (a1 : -9223372036854775808 ≤ num) (a2 : num ≤ 9223372036854775807) (b1 : -9223372036854775808 ≤ typ) (b2 : typ ≤ 9223372036854775807) :
    Calls Tryz.prog 88 #[.agg #[.int .i64 num, .int .i64 typ, .int .u64 n, .string d]] w fun e w' => e = .returned (.bool (mayB num typ)) ∧ Below w.heap.size w w' := by
  by_cases h1 : num < 1
  · have hr : mayB num typ = false := by unfold mayB; rw [decide_eq_false_iff_not]; omega
    rw [hr]
    clear hr
    go_enter Tryz.func88, Tryz.ntmps88
    go_wp2
    go_ret
    exact ⟨rfl, (Below.refl _ _).alloc (Nat.le_refl _) _⟩
  by_cases h2 : 536870911 < num
  · have hr : mayB num typ = false := by unfold mayB; rw [decide_eq_false_iff_not]; omega
    rw [hr]
    clear hr
    go_enter Tryz.func88, Tryz.ntmps88
    go_wp2
    go_ret
    exact ⟨rfl, (Below.refl _ _).alloc (Nat.le_refl _) _⟩
  have h1' : 1 ≤ num := by omega
  have h2' : num ≤ 536870911 := by omega
  by_cases h3 : typ = 0 ∨ typ = 1 ∨ typ = 2 ∨ typ = 5
  · have hr : mayB num typ = true := by unfold mayB; rw [decide_eq_true_iff]; omega
    rw [hr]
    clear hr h1 h2
    rcases h3 with rfl | rfl | rfl | rfl
    all_goals
      go_enter Tryz.func88, Tryz.ntmps88
      go_wp2
      go_ret
      exact ⟨rfl, (Below.refl _ _).alloc (Nat.le_refl _) _⟩
  · have hr : mayB num typ = false := by unfold mayB; rw [decide_eq_false_iff_not]; omega
    rw [hr]
    have t0 : (typ == 0) = false := by simp; omega
    have t1 : (typ == 1) = false := by simp; omega
    have t2 : (typ == 2) = false := by simp; omega
    have t5 : (typ == 5) = false := by simp; omega
    clear hr h1 h2 h3
    go_enter Tryz.func88, Tryz.ntmps88
    go_wp2
    go_ret
    exact ⟨rfl, (Below.refl _ _).alloc (Nat.le_refl _) _⟩
end Go.Proofs.YtiniicehfjgpgaaGreat
/- The walk of layer 2: All, by contract. -/
namespace Go.Proofs.YtiniicehfjgpgaaGreat
open Go.RowKit M1 M2

set_option maxRecDepth 100000 in
theorem w_all_any (A : Option Addr) (c : Nat) (l : List WFd) (num : Int) (w : World) (hl : l.length ≤ 3000000) (ha : SR w w.heap.size 4 A l.length (fcs l)) :
    Calls Tryz.prog 71 #[.slice A l.length c, .int .i64 num] w fun e w' => ∃ v, e = .returned v ∧ w'.ownsRow w.heap.size 114 4 v (ofNum l num).length (fcs (ofNum l num)) ∧ Below w.heap.size w w' := by
  obtain ⟨i0, hi0, hz0, hz1, hz2⟩ := info_parts infoField
  go_enter Tryz.func71, Tryz.ntmps71
  go_wp2
  go_loopw [5, 10] (fun v i wr => ∃ (k : Nat) (K : Int), i = .int .i64 K ∧ K = (k : Nat) ∧ k ≤ l.length ∧ wr.ownsRow w.heap.size 114 4 v (ofNum (l.take k) num).length (fcs (ofNum (l.take k) num)) ∧ Below w.heap.size w wr) (fun _ i _ => l.length - (intOf i).toNat)
  case atStart => exact ⟨0, _, rfl, rfl, by omega, World.ownsRow_nil _ _ _ _, Below.refl _ _⟩
  case round =>
    obtain ⟨k, K, rfl, rfl, hk, hown, hb⟩ := hrel
    by_cases hlt : k < l.length
    · obtain ⟨b1, o1, rfl, hb1, x0, x1, x2, x3⟩ := field_at (ha.below hb) hlt
      have hz := hb.size
      have hle := ofNum_le (l.take k) num
      have hlk : (l.take k).length ≤ k := List.length_take_le _ _
      have hsn := ofNum_snoc (l.take k) l[k] num
      rw [← take_succ_at hlt] at hsn
      generalize hf : l[k] = f at *
      clear ha
      by_cases h : f.num = num
      · rw [if_pos h] at hsn
        have hq : (f.num == num) = true := by simpa using h
        have HB := Lib.hid hb
        have HS := Lib.hid hsn
        clear hb hsn h hf
        obtain ⟨fnum, ftyp, fn, fdata⟩ := f
        simp only at *
        go_wp2_with (at_builtin; refine wpList_append_own _ rfl _ _ 67 rfl w.heap.size 114 i0 _ 4 40 Tryz.underlying67 hi0 hz0 hz1 hz2 rfl (by decide) _ _ _ rfl ((hown.alloc _).alloc _) ⟨wr.heap.size + 1, 0, none⟩ 1 1 (fc ⟨fnum, ftyp, fn, fdata⟩) rfl rfl (cells_new2 _ _ _ _) ?c2 ?c3 ?c4 ?c5 ?_)
        case c2 => intro u hu; exact fcs_one_cell (l := [⟨fnum, ftyp, fn, fdata⟩]) u (by rw [fcs_one]; exact hu)
        case c3 => unfold maxLen; omega
        case c4 => omega
        case c5 => first | omega | (simp; omega)
        intro v' w2 hown' hgrow _
        have e1 : fcs (ofNum (l.take k) num) ++ fc ⟨fnum, ftyp, fn, fdata⟩ = fcs (ofNum (l.take (k + 1)) num) := by rw [HS.out, fcs_append, fcs_one]
        have e2 : (ofNum (l.take k) num).length + 1 = (ofNum (l.take (k + 1)) num).length := by rw [HS.out]; simp
        rw [e1, e2] at hown'
        have hb3 := ((HB.out.alloc hz _).alloc (by simp; omega) _).grown hgrow (by simp; omega) (fun q hq => (hown.lt q hq).1)
        have HO := Lib.hid (And.intro hown' hb3)
        clear hgrow hown' hown hb3 e1 e2
        go_wp2_with fail
        go_roundw
        case rel => exact ⟨k + 1, _, rfl, by omega, by omega, HO.out.1, HO.out.2⟩
        case measure => simp [intOf]; omega
      · rw [if_neg h] at hsn
        have hq : (f.num == num) = false := by simpa using h
        rw [← hsn] at hown
        have HO := Lib.hid (And.intro hown hb)
        clear hb hsn h hf hown
        obtain ⟨fnum, ftyp, fn, fdata⟩ := f
        simp only at *
        go_wp2_with fail
        go_roundw
        case rel => exact ⟨k + 1, _, rfl, by omega, by omega, HO.out.1.alloc _, HO.out.2.alloc hz _⟩
        case measure => simp [intOf]; omega
    · obtain rfl : k = l.length := by omega
      rw [List.take_length] at hown
      have HO := Lib.hid (And.intro hown hb)
      clear hown hb
      go_wp2
      go_ret
      exact ⟨_, rfl, HO.out.1, HO.out.2⟩
end Go.Proofs.YtiniicehfjgpgaaGreat
