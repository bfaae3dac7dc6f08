/- The walk of layer 2: All, by contract. -/
import Derived.Test.YtmojabdobjfdoaaWAt
namespace Go.Proofs.Ytmojabdobjfdoaa
open Go.RowKit M1 M2

set_option maxRecDepth 100000 in
theorem all_any (A : Option Addr) (c : Nat) (l : List WFd) (num : Int) (w : World) (hl : l.length ≤ 3000000) (ha : SR w w.heap.size 4 A l.length (fcs l)) :
    Calls Try.prog 18 #[.slice A l.length c, .int .i64 num] w fun e w' => ∃ v, e = .returned v ∧ w'.ownsRow w.heap.size 27 4 v (ofNum l num).length (fcs (ofNum l num)) ∧ Below w.heap.size w w' := by
  obtain ⟨i0, hi0, hz0, hz1, hz2⟩ := info_parts infoField
  go_enter Try.func18, Try.ntmps18
  go_wp2
  go_loopw [5, 10] (fun v i wr => ∃ (k : Nat) (K : Int), i = .int .i64 K ∧ K = (k : Nat) ∧ k ≤ l.length ∧ wr.ownsRow w.heap.size 27 4 v (ofNum (l.take k) num).length (fcs (ofNum (l.take k) num)) ∧ Below w.heap.size w wr) (fun _ i _ => l.length - (intOf i).toNat)
  case atStart => exact ⟨0, _, rfl, rfl, by omega, World.ownsRow_nil _ _ _ _, Below.refl _ _⟩
  case round =>
    obtain ⟨k, K, rfl, rfl, hk, hown, hb⟩ := hrel
    by_cases hlt : k < l.length
    · obtain ⟨b1, o1, rfl, hb1, x0, x1, x2, x3⟩ := field_at (ha.below hb) hlt
      have hz := hb.size
      have hle := ofNum_le (l.take k) num
      have hlk : (l.take k).length ≤ k := List.length_take_le _ _
      have hsn := ofNum_snoc (l.take k) l[k] num
      rw [← take_succ_at hlt] at hsn
      generalize hf : l[k] = f at *
      clear ha
      by_cases h : f.num = num
      · rw [if_pos h] at hsn
        have hq : (f.num == num) = true := by simpa using h
        have HB := Lib.hid hb
        have HS := Lib.hid hsn
        clear hb hsn h hf
        obtain ⟨fnum, ftyp, fn, fdata⟩ := f
        simp only at *
        go_wp2_with (at_builtin; refine wpList_append_own _ rfl _ _ 22 rfl w.heap.size 27 i0 _ 4 40 Try.underlying22 hi0 hz0 hz1 hz2 rfl (by decide) _ _ _ rfl ((hown.alloc _).alloc _) ⟨wr.heap.size + 1, 0, none⟩ 1 1 (fc ⟨fnum, ftyp, fn, fdata⟩) rfl rfl (cells_new2 _ _ _ _) ?c2 ?c3 ?c4 ?c5 ?_)
        case c2 => intro u hu; exact fcs_one_cell (l := [⟨fnum, ftyp, fn, fdata⟩]) u (by rw [fcs_one]; exact hu)
        case c3 => unfold maxLen; omega
        case c4 => omega
        case c5 => first | omega | (simp; omega)
        intro v' w2 hown' hgrow _
        have e1 : fcs (ofNum (l.take k) num) ++ fc ⟨fnum, ftyp, fn, fdata⟩ = fcs (ofNum (l.take (k + 1)) num) := by rw [HS.out, fcs_append, fcs_one]
        have e2 : (ofNum (l.take k) num).length + 1 = (ofNum (l.take (k + 1)) num).length := by rw [HS.out]; simp
        rw [e1, e2] at hown'
        have hb3 := ((HB.out.alloc hz _).alloc (by simp; omega) _).grown hgrow (by simp; omega) (fun q hq => (hown.lt q hq).1)
        have HO := Lib.hid (And.intro hown' hb3)
        clear hgrow hown' hown hb3 e1 e2
        go_wp2_with fail
        go_roundw
        case rel => exact ⟨k + 1, _, rfl, by omega, by omega, HO.out.1, HO.out.2⟩
        case measure => simp [intOf]; omega
      · rw [if_neg h] at hsn
        have hq : (f.num == num) = false := by simpa using h
        rw [← hsn] at hown
        have HO := Lib.hid (And.intro hown hb)
        clear hb hsn h hf hown
        obtain ⟨fnum, ftyp, fn, fdata⟩ := f
        simp only at *
        go_wp2_with fail
        go_roundw
        case rel => exact ⟨k + 1, _, rfl, by omega, by omega, HO.out.1.alloc _, HO.out.2.alloc hz _⟩
        case measure => simp [intOf]; omega
    · obtain rfl : k = l.length := by omega
      rw [List.take_length] at hown
      have HO := Lib.hid (And.intro hown hb)
      clear hown hb
      go_wp2
      go_ret
      exact ⟨_, rfl, HO.out.1, HO.out.2⟩
end Go.Proofs.Ytmojabdobjfdoaa
