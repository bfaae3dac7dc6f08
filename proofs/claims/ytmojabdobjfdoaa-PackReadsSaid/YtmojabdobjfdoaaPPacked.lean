/- The walk of layer 3: a packed text's numbers behind a row, by contract. -/
import Derived.Test.YtmojabdobjfdoaaPWith
namespace Go.Proofs.Ytmojabdobjfdoaa
open Go.RowKit M1 M2 M3

set_option maxRecDepth 100000 in
theorem packed_any (A : Option Addr) (c : Nat) (acc : List Int) (s : ByteArray) (B : Nat) (w : World) (hB : B ≤ w.heap.size) (hl : acc.length ≤ 65536) (hs : s.size ≤ maxLen)
    (hown : w.ownsRow B 2 1 (.slice A acc.length c) acc.length (iv acc)) :
    Calls Try.prog 20 #[.slice A acc.length c, .string s] w (RowRes B (pks s acc) w) := by
  unfold maxLen at hs
  go_enter Try.func20, Try.ntmps20
  go_wp2
  go_loopw [0, 1] (fun v b wr => ∃ (t : ByteArray) (r : List Int), b = .string t ∧ wr.ownsRow B 2 1 v r.length (iv r) ∧ Below B w wr ∧ pks s acc = pks t r ∧ r.length ≤ 65536 ∧ t.size ≤ s.size) (fun _ b _ => match b with | .string t => t.size | _ => 0)
  case atStart => exact ⟨s, acc, rfl, hown, Below.refl _ _, rfl, hl, Nat.le_refl _⟩
  case round =>
    obtain ⟨t, r, rfl, hown, hb, hpk, hr, hts⟩ := hrel
    have HP := Lib.hid hpk; clear hpk
    obtain ⟨A, c0, rfl, -, -⟩ := own_form hown
    by_cases h0 : t.size = 0
    · have h0' : ¬ (0 : Int) < (t.size : Int) := by omega
      have HO := Lib.hid hown
      have HB := Lib.hid hb
      have HE : Hid (pks s acc = (r, 0)) := Lib.hid (by rw [HP.out, pks_end h0])
      clear hown hb
      go_wp2
      go_ret2
      rw [HE.out]
      exact ⟨_, rfl, HO.out, HB.out⟩
    · have h0' : (0 : Int) < (t.size : Int) := by omega
      have htm : t.size ≤ maxLen := by unfold maxLen; omega
      obtain ⟨x, n, e, hrd, hok, -, hcode⟩ := rd_parts t
      have hc1 := fun W => read_any t W htm
      rw [hrd] at hc1
      have HR := Lib.hid hrd
      have HC := Lib.hid hc1
      clear hc1 hrd
      go_wp2_with fail
      refine (HC.out _).mono ?_
      rintro e1 w1 ⟨rfl, rfl⟩
      by_cases he : e = 0
      · subst he
        obtain ⟨hn0, hn, hx⟩ := hok rfl
        have hni : (n : Int) ≤ (t.size : Int) := by omega
        have hBw : B ≤ wr.heap.size := by have := hb.size; omega
        have HW := Lib.hid (with_any A c0 r x B wr hBw hr hx hown)
        have HB := Lib.hid hb
        clear hok hown hx hb
        go_wp2_with fail
        refine HW.out.mono ?_
        rintro e2 w2 ⟨v2, rfl, hown2, hb2⟩
        have HB2 := Lib.hid (HB.out.trans hb2)
        clear hb2 HW
        by_cases hf : r.length = 65536
        · rw [if_pos hf] at hown2 ⊢
          have HE : Hid (pks s acc = ([], 7)) := Lib.hid (by rw [HP.out, pks_full h0 (by rw [HR.out]) hf])
          clear hown2
          go_wp2_with fail
          go_ret2
          rw [HE.out]
          exact ⟨_, rfl, World.ownsRow_nil _ _ _ _, HB2.out⟩
        · rw [if_neg hf] at hown2 ⊢
          have hst := pks_step (s := t) h0 (by rw [HR.out]) hf
          rw [HR.out] at hst
          have HE : Hid (pks s acc = pks (rest t n) (r ++ [sg x])) := Lib.hid (by rw [HP.out, hst])
          have HO := Lib.hid hown2
          clear hst hown2
          go_wp2_with fail
          go_roundw
          case rel => exact ⟨rest t n, r ++ [sg x], rfl, HO.out, HB2.out, HE.out, by simp; omega, by rw [rest_size]; omega⟩
          case measure => show (rest t n).size < t.size; rw [rest_size]; omega
      · have hc : ((e : Int) != 0) = true := by simp; omega
        have HB := Lib.hid hb
        have HE : Hid (pks s acc = ([], e)) := Lib.hid (by rw [HP.out, pks_err h0 (by rw [HR.out]; exact he), HR.out])
        clear hok hown hb
        go_wp2_with fail
        go_ret2
        rw [HE.out]
        exact ⟨_, rfl, World.ownsRow_nil _ _ _ _, HB.out⟩
end Go.Proofs.Ytmojabdobjfdoaa
