/- The walks of layer 2: Same, All, Last, by contract. -/
import Derived.Test.YtkihbgklfbaiiaaWMay
import Derived.Test.YtkihbgklfbaiiaaWFields
import Derived.Test.YtkihbgklfbaiiaaWRFields
import Derived.BigQuiet
namespace Go.Proofs.Ytkihbgklfbaiiaa
open Go.RowKit M1 M2

/-- field k of a slice of fields, cell by cell -/
theorem field_at {w : World} {B : Nat} {A : Option Addr} {l : List WFd} (h : SR w B 4 A l.length (fcs l)) {k : Nat} (hk : k < l.length) :
    ∃ b o, A = some ⟨b, o, none⟩ ∧ b < B ∧ w.cell? ⟨b, o + k * 4, none⟩ = some (.int .i64 l[k].num) ∧ w.cell? ⟨b, o + k * 4 + 1, none⟩ = some (.int .i64 l[k].typ) ∧
      w.cell? ⟨b, o + k * 4 + 2, none⟩ = some (.int .u64 (l[k].n : Int)) ∧ w.cell? ⟨b, o + k * 4 + 3, none⟩ = some (.string l[k].data) := by
  obtain ⟨b, o, hA, hb, hc⟩ := h.at_ hk
  refine ⟨b, o, hA, hb, hc 0 (by omega) _ ?_, hc 1 (by omega) _ ?_, hc 2 (by omega) _ ?_, hc 3 (by omega) _ ?_⟩
  all_goals rw [fcs_at l k hk _ (by omega)]; rfl

theorem below_drewN {B : Nat} {w w' : World} (h : Below B w w') (n : Nat) : Below B w (w'.drewN n) := ⟨h.os, h.tape, h.output, h.size, h.block⟩

set_option maxRecDepth 100000 in
theorem same_any (A B : Option Addr) (c d : Nat) (l : List WFd) (w : World) (hl : l.length ≤ maxLen) (ha : SR w w.heap.size 4 A l.length (fcs l)) (hb : SR w w.heap.size 4 B l.length (fcs l)) :
    Calls Try.prog 9 #[.slice A l.length c, .slice B l.length d] w fun e w' => e = .returned (.bool true) ∧ Below w.heap.size w w' := by
  unfold maxLen at hl
  go_enter Try.func9, Try.ntmps9
  go_wp2
  go_loopw [5, 13] (fun _ i wr => ∃ (k : Nat) (K : Int), i = .int .i64 K ∧ K = (k : Nat) ∧ k ≤ l.length ∧ Below w.heap.size w wr) (fun _ i _ => l.length - (intOf i).toNat)
  case atStart => exact ⟨0, _, rfl, rfl, by omega, Below.refl _ _⟩
  case round =>
    obtain ⟨k, K, rfl, rfl, hk, hbw⟩ := hrel
    by_cases hlt : k < l.length
    · obtain ⟨b1, o1, rfl, hb1, x0, x1, x2, x3⟩ := field_at (ha.below hbw) hlt
      obtain ⟨b2, o2, rfl, hb2, y0, y1, y2, y3⟩ := field_at (hb.below hbw) hlt
      have HB := Lib.hid hbw
      clear ha hb hbw
      go_wp2_with fail
      go_quiet (fail)
      go_wp2_with fail
      go_roundw
      case rel => exact ⟨k + 1, _, rfl, by omega, by omega, below_drewN HB.out _⟩
      case measure => simp [intOf]; omega
    · obtain rfl : k = l.length := by omega
      go_wp2
      go_ret
      exact ⟨rfl, hbw⟩

def ofNum (l : List WFd) (num : Int) : List WFd := l.filter fun f => decide (f.num = num)
theorem ofNum_snoc (l : List WFd) (f : WFd) (num : Int) : ofNum (l ++ [f]) num = if f.num = num then ofNum l num ++ [f] else ofNum l num := by
  unfold ofNum
  rw [List.filter_append]
  by_cases h : f.num = num <;> simp [h]
theorem ofNum_le (l : List WFd) (num : Int) : (ofNum l num).length ≤ l.length := List.length_filter_le _ _
theorem take_succ_at {l : List WFd} {k : Nat} (h : k < l.length) : l.take (k + 1) = l.take k ++ [l[k]] := by
  rw [List.take_succ_eq_append_getElem h]

set_option maxRecDepth 100000 in
theorem all_any (A : Option Addr) (c : Nat) (l : List WFd) (num : Int) (w : World) (hl : l.length ≤ 3000000) (ha : SR w w.heap.size 4 A l.length (fcs l)) :
    Calls Try.prog 10 #[.slice A l.length c, .int .i64 num] w fun e w' => ∃ v, e = .returned v ∧ w'.ownsRow w.heap.size 35 4 v (ofNum l num).length (fcs (ofNum l num)) ∧ Below w.heap.size w w' := by
  obtain ⟨i0, hi0, hz0, hz1, hz2⟩ := info_parts infoField
  go_enter Try.func10, Try.ntmps10
  go_wp2
  go_loopw [5, 10] (fun v i wr => ∃ (k : Nat) (K : Int), i = .int .i64 K ∧ K = (k : Nat) ∧ k ≤ l.length ∧ wr.ownsRow w.heap.size 35 4 v (ofNum (l.take k) num).length (fcs (ofNum (l.take k) num)) ∧ Below w.heap.size w wr) (fun _ i _ => l.length - (intOf i).toNat)
  case atStart => exact ⟨0, _, rfl, rfl, by omega, World.ownsRow_nil _ _ _ _, Below.refl _ _⟩
  case round =>
    obtain ⟨k, K, rfl, rfl, hk, hown, hb⟩ := hrel
    by_cases hlt : k < l.length
    · obtain ⟨b1, o1, rfl, hb1, x0, x1, x2, x3⟩ := field_at (ha.below hb) hlt
      have hz := hb.size
      have hle := ofNum_le (l.take k) num
      have hlk : (l.take k).length ≤ k := List.length_take_le _ _
      have hsn := ofNum_snoc (l.take k) l[k] num
      rw [← take_succ_at hlt] at hsn
      generalize hf : l[k] = f at *
      clear ha
      by_cases h : f.num = num
      · rw [if_pos h] at hsn
        have hq : (f.num == num) = true := by simpa using h
        have HB := Lib.hid hb
        have HS := Lib.hid hsn
        clear hb hsn h hf
        obtain ⟨fnum, ftyp, fn, fdata⟩ := f
        simp only at *
        go_wp2_with (at_builtin; refine wpList_append_own _ rfl _ _ 23 rfl w.heap.size 35 i0 _ 4 40 Try.underlying23 hi0 hz0 hz1 hz2 rfl (by decide) _ _ _ rfl ((hown.alloc _).alloc _) ⟨wr.heap.size + 1, 0, none⟩ 1 1 (fc ⟨fnum, ftyp, fn, fdata⟩) rfl rfl (cells_new2 _ _ _ _) ?c2 ?c3 ?c4 ?c5 ?_)
        case c2 => intro u hu; exact fcs_one_cell (l := [⟨fnum, ftyp, fn, fdata⟩]) u (by rw [fcs_one]; exact hu)
        case c3 => unfold maxLen; omega
        case c4 => omega
        case c5 => first | omega | (simp; omega)
        intro v' w2 hown' hgrow _
        have e1 : fcs (ofNum (l.take k) num) ++ fc ⟨fnum, ftyp, fn, fdata⟩ = fcs (ofNum (l.take (k + 1)) num) := by rw [HS.out, fcs_append, fcs_one]
        have e2 : (ofNum (l.take k) num).length + 1 = (ofNum (l.take (k + 1)) num).length := by rw [HS.out]; simp
        rw [e1, e2] at hown'
        have hb3 := ((HB.out.alloc hz _).alloc (by simp; omega) _).grown hgrow (by simp; omega) (fun q hq => (hown.lt q hq).1)
        have HO := Lib.hid (And.intro hown' hb3)
        clear hgrow hown' hown hb3 e1 e2
        go_wp2_with fail
        go_roundw
        case rel => exact ⟨k + 1, _, rfl, by omega, by omega, HO.out.1, HO.out.2⟩
        case measure => simp [intOf]; omega
      · rw [if_neg h] at hsn
        have hq : (f.num == num) = false := by simpa using h
        rw [← hsn] at hown
        have HO := Lib.hid (And.intro hown hb)
        clear hb hsn h hf hown
        obtain ⟨fnum, ftyp, fn, fdata⟩ := f
        simp only at *
        go_wp2_with fail
        go_roundw
        case rel => exact ⟨k + 1, _, rfl, by omega, by omega, HO.out.1.alloc _, HO.out.2.alloc hz _⟩
        case measure => simp [intOf]; omega
    · obtain rfl : k = l.length := by omega
      rw [List.take_length] at hown
      have HO := Lib.hid (And.intro hown hb)
      clear hown hb
      go_wp2
      go_ret
      exact ⟨_, rfl, HO.out.1, HO.out.2⟩

set_option maxRecDepth 100000 in
theorem rall_any (A : Option Addr) (c : Nat) (l : List WFd) (num : Int) (w : World) (hl : l.length ≤ 3000000) (ha : SR w w.heap.size 4 A l.length (fcs l)) :
    Calls Try.prog 11 #[.slice A l.length c, .int .i64 num] w fun e w' => ∃ v, e = .returned v ∧ w'.ownsRow w.heap.size 38 4 v (ofNum l num).length (fcs (ofNum l num)) ∧ Below w.heap.size w w' := by
  obtain ⟨i0, hi0, hz0, hz1, hz2⟩ := info_parts infoRField
  go_enter Try.func11, Try.ntmps11
  go_wp2
  go_loopw [5, 6] (fun v i wr => ∃ (k : Nat) (K : Int), i = .int .i64 K ∧ K = (k : Nat) ∧ k ≤ l.length ∧ wr.ownsRow w.heap.size 38 4 v (ofNum (l.take k) num).length (fcs (ofNum (l.take k) num)) ∧ Below w.heap.size w wr) (fun _ i _ => l.length - (intOf i).toNat)
  case atStart => exact ⟨0, _, rfl, rfl, by omega, World.ownsRow_nil _ _ _ _, Below.refl _ _⟩
  case round =>
    obtain ⟨k, K, rfl, rfl, hk, hown, hb⟩ := hrel
    by_cases hlt : k < l.length
    · obtain ⟨b1, o1, rfl, hb1, x0, x1, x2, x3⟩ := field_at (ha.below hb) hlt
      have hz := hb.size
      have hle := ofNum_le (l.take k) num
      have hlk : (l.take k).length ≤ k := List.length_take_le _ _
      have hsn := ofNum_snoc (l.take k) l[k] num
      rw [← take_succ_at hlt] at hsn
      generalize hf : l[k] = f at *
      clear ha
      by_cases h : f.num = num
      · rw [if_pos h] at hsn
        have hq : (f.num == num) = true := by simpa using h
        have HB := Lib.hid hb
        have HS := Lib.hid hsn
        clear hb hsn h hf
        obtain ⟨fnum, ftyp, fn, fdata⟩ := f
        simp only at *
        go_wp2_with (at_builtin; refine wpList_append_own _ rfl _ _ 27 rfl w.heap.size 38 i0 _ 4 40 Try.underlying27 hi0 hz0 hz1 hz2 rfl (by decide) _ _ _ rfl (hown.alloc _) ⟨wr.heap.size, 0, none⟩ 1 1 (fc ⟨fnum, ftyp, fn, fdata⟩) rfl rfl (cells_new _ _ _) ?c2 ?c3 ?c4 ?c5 ?_)
        case c2 => intro u hu; exact fcs_one_cell (l := [⟨fnum, ftyp, fn, fdata⟩]) u (by rw [fcs_one]; exact hu)
        case c3 => unfold maxLen; omega
        case c4 => omega
        case c5 => first | omega | (simp; omega)
        intro v' w2 hown' hgrow _
        have e1 : fcs (ofNum (l.take k) num) ++ fc ⟨fnum, ftyp, fn, fdata⟩ = fcs (ofNum (l.take (k + 1)) num) := by rw [HS.out, fcs_append, fcs_one]
        have e2 : (ofNum (l.take k) num).length + 1 = (ofNum (l.take (k + 1)) num).length := by rw [HS.out]; simp
        rw [e1, e2] at hown'
        have hb3 := (HB.out.alloc hz _).grown hgrow (by simp; omega) (fun q hq => (hown.lt q hq).1)
        have HO := Lib.hid (And.intro hown' hb3)
        clear hgrow hown' hown hb3 e1 e2
        go_wp2_with fail
        go_roundw
        case rel => exact ⟨k + 1, _, rfl, by omega, by omega, HO.out.1, HO.out.2⟩
        case measure => simp [intOf]; omega
      · rw [if_neg h] at hsn
        have hq : (f.num == num) = false := by simpa using h
        rw [← hsn] at hown
        have HO := Lib.hid (And.intro hown hb)
        clear hb hsn h hf hown
        obtain ⟨fnum, ftyp, fn, fdata⟩ := f
        simp only at *
        go_wp2_with fail
        go_roundw
        case rel => exact ⟨k + 1, _, rfl, by omega, by omega, HO.out.1, HO.out.2⟩
        case measure => simp [intOf]; omega
    · obtain rfl : k = l.length := by omega
      rw [List.take_length] at hown
      have HO := Lib.hid (And.intro hown hb)
      clear hown hb
      go_wp2
      go_ret
      exact ⟨_, rfl, HO.out.1, HO.out.2⟩
end Go.Proofs.Ytkihbgklfbaiiaa
