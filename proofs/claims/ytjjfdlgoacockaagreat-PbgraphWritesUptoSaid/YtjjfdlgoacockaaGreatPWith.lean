import Derived.Test.YtjjfdlgoacockaaGreatPAt
import Derived.Test.YtjjfdlgoacockaaGreatPuts
import Derived.Test.YtjjfdlgoacockaaGreatMath
import Derived.Test.YtjjfdlgoacockaaGreatWOpen
namespace Go.Proofs.YtjjfdlgoacockaaGreat
open Go.RowKit M1 M2 M3

set_option maxRecDepth 100000 in
theorem with_any (A : Option Addr) (c : Nat) (acc : List Int) (v : Nat) (B : Nat) (w : World) (hB : B ≤ w.heap.size) (hl : acc.length ≤ 65536) (hv : Fits64 v)
    (hown : w.ownsRow B 2 1 (.slice A acc.length c) acc.length (iv acc)) :
    Calls Tryz.prog 145 #[.slice A acc.length c, .int .u64 (v : Int)] w (RowRes B (if acc.length = 65536 then ([], 7) else (acc ++ [sg v], 0)) w) := by
  by_cases h : acc.length = 65536
  · rw [if_pos h]
    have hq : ((acc.length : Int) == 65536) = true := by simp; omega
    clear hown h
    go_enter Tryz.func145, Tryz.ntmps145
    go_wp2_with fail
    go_ret2
    exact ⟨_, rfl, World.ownsRow_nil _ _ _ _, Below.refl _ _⟩
  · rw [if_neg h]
    have hq : ((acc.length : Int) == 65536) = false := by simp; omega
    have hv' : (v : Int) ≤ 18446744073709551615 := by unfold Fits64 at hv; omega
    obtain ⟨i0, hi0, hz0, hz1, hz2⟩ := info_parts infoInt64
    clear h hv
    go_enter Tryz.func145, Tryz.ntmps145
    go_wp2_with (at_builtin; refine wpList_append_own _ rfl _ _ 83 rfl B 2 i0 _ 1 8 Tryz.underlying83 hi0 hz0 hz1 hz2 rfl (by decide) _ _ _ rfl (hown.alloc _) ⟨w.heap.size, 0, none⟩ 1 1 [.int .i64 (wrap64 (v : Int))] rfl rfl (cell_one_new _ _ _) ?c2 ?c3 ?c4 ?c5 ?_)
    case c2 => intro u hu; simp at hu; subst hu; rfl
    case c3 => unfold maxLen; omega
    case c4 => omega
    case c5 => simp; omega
    intro v' w2 hown' hgrow _
    have e1 : iv acc ++ [.int .i64 (wrap64 (v : Int))] = iv (acc ++ [sg v]) := by rw [iv_append]; rfl
    have e2 : acc.length + 1 = (acc ++ [sg v]).length := by simp
    rw [e1, e2] at hown'
    have hb := ((Below.refl B w).alloc hB _).grown hgrow (by simp; omega) (fun q hq => (hown.lt q hq).1)
    have HO := Lib.hid (And.intro hown' hb)
    clear hown' hgrow hown e1 e2 hb
    go_wp2_with fail
    go_ret2
    exact ⟨_, rfl, HO.out.1, HO.out.2⟩
end Go.Proofs.YtjjfdlgoacockaaGreat
namespace Go.Proofs.YtjjfdlgoacockaaGreat
open Go.RowKit M1 M2 M3

set_option maxRecDepth 100000 in
theorem packed_any (A : Option Addr) (c : Nat) (acc : List Int) (s : ByteArray) (B : Nat) (w : World) (hB : B ≤ w.heap.size) (hl : acc.length ≤ 65536) (hs : s.size ≤ maxLen)
    (hown : w.ownsRow B 2 1 (.slice A acc.length c) acc.length (iv acc)) :
    Calls Tryz.prog 146 #[.slice A acc.length c, .string s] w (RowRes B (pks s acc) w) := by
  unfold maxLen at hs
  go_enter Tryz.func146, Tryz.ntmps146
  go_wp2
  go_loopw [0, 1] (fun v b wr => ∃ (t : ByteArray) (r : List Int), b = .string t ∧ wr.ownsRow B 2 1 v r.length (iv r) ∧ Below B w wr ∧ pks s acc = pks t r ∧ r.length ≤ 65536 ∧ t.size ≤ s.size) (fun _ b _ => match b with | .string t => t.size | _ => 0)
  case atStart => exact ⟨s, acc, rfl, hown, Below.refl _ _, rfl, hl, Nat.le_refl _⟩
  case round =>
    obtain ⟨t, r, rfl, hown, hb, hpk, hr, hts⟩ := hrel
    have HP := Lib.hid hpk; clear hpk
    obtain ⟨A, c0, rfl, -, -⟩ := own_form hown
    by_cases h0 : t.size = 0
    · have h0' : ¬ (0 : Int) < (t.size : Int) := by omega
      have HO := Lib.hid hown
      have HB := Lib.hid hb
      have HE : Hid (pks s acc = (r, 0)) := Lib.hid (by rw [HP.out, pks_end h0])
      clear hown hb
      go_wp2
      go_ret2
      rw [HE.out]
      exact ⟨_, rfl, HO.out, HB.out⟩
    · have h0' : (0 : Int) < (t.size : Int) := by omega
      have htm : t.size ≤ maxLen := by unfold maxLen; omega
      obtain ⟨x, n, e, hrd, hok, -, hcode⟩ := rd_parts t
      have hc1 := fun W => v_read_any t W htm
      rw [hrd] at hc1
      have HR := Lib.hid hrd
      have HC := Lib.hid hc1
      clear hc1 hrd
      go_wp2_with fail
      refine (HC.out _).mono ?_
      rintro e1 w1 ⟨rfl, rfl⟩
      by_cases he : e = 0
      · subst he
        obtain ⟨hn0, hn, hx⟩ := hok rfl
        have hni : (n : Int) ≤ (t.size : Int) := by omega
        have hBw : B ≤ wr.heap.size := by have := hb.size; omega
        have HW := Lib.hid (with_any A c0 r x B wr hBw hr hx hown)
        have HB := Lib.hid hb
        clear hok hown hx hb
        go_wp2_with fail
        refine HW.out.mono ?_
        rintro e2 w2 ⟨v2, rfl, hown2, hb2⟩
        have HB2 := Lib.hid (HB.out.trans hb2)
        clear hb2 HW
        by_cases hf : r.length = 65536
        · rw [if_pos hf] at hown2 ⊢
          have HE : Hid (pks s acc = ([], 7)) := Lib.hid (by rw [HP.out, pks_full h0 (by rw [HR.out]) hf])
          clear hown2
          go_wp2_with fail
          go_ret2
          rw [HE.out]
          exact ⟨_, rfl, World.ownsRow_nil _ _ _ _, HB2.out⟩
        · rw [if_neg hf] at hown2 ⊢
          have hst := pks_step (s := t) h0 (by rw [HR.out]) hf
          rw [HR.out] at hst
          have HE : Hid (pks s acc = pks (rest t n) (r ++ [sg x])) := Lib.hid (by rw [HP.out, hst])
          have HO := Lib.hid hown2
          clear hst hown2
          go_wp2_with fail
          go_roundw
          case rel => exact ⟨rest t n, r ++ [sg x], rfl, HO.out, HB2.out, HE.out, by simp; omega, by rw [rest_size]; omega⟩
          case measure => show (rest t n).size < t.size; rw [rest_size]; omega
      · have hc : ((e : Int) != 0) = true := by simp; omega
        have HB := Lib.hid hb
        have HE : Hid (pks s acc = ([], e)) := Lib.hid (by rw [HP.out, pks_err h0 (by rw [HR.out]; exact he), HR.out])
        clear hok hown hb
        go_wp2_with fail
        go_ret2
        rw [HE.out]
        exact ⟨_, rfl, World.ownsRow_nil _ _ _ _, HB.out⟩
end Go.Proofs.YtjjfdlgoacockaaGreat
namespace Go.Proofs.YtjjfdlgoacockaaGreat
open Go.RowKit M1 M2 M3

set_option maxRecDepth 100000 in
theorem ints_any (A : Option Addr) (c : Nat) (l : List WFd) (num : Int) (w : World) (hl : l.length ≤ 3000000) (ha : SR w w.heap.size 4 A l.length (fcs l)) (hok : ∀ f ∈ l, FOk f) :
    Calls Tryz.prog 101 #[.slice A l.length c, .int .i64 num] w (RowRes w.heap.size (ints (ofNum l num) []) w) := by
  have hF : ∀ f ∈ ofNum l num, FOk f := fun f hf => hok f (List.mem_filter.1 hf).1
  have hFl := ofNum_le l num
  have HF := Lib.hid hF
  have HA := Lib.hid (fun W h => w_all_any A c l num W hl h)
  clear hF hok
  go_enter Tryz.func101, Tryz.ntmps101
  go_wp2_with fail
  refine (HA.out _ ha).mono ?_
  rintro e w1 ⟨v1, rfl, hown1, hb1⟩
  obtain ⟨A1, c1, rfl, -, -⟩ := own_form hown1
  have hs1 := SR.of_own hown1
  have HB1 := Lib.hid hb1
  clear hown1 hb1 ha HA
  generalize hFF : ofNum l num = F at *
  clear hFF
  go_wp2_with fail
  go_loopw [6, 14] (fun v i wr => ∃ (k : Nat) (K : Int) (r : List Int), i = .int .i64 K ∧ K = (k : Nat) ∧ k ≤ F.length ∧ wr.ownsRow w1.heap.size 2 1 v r.length (iv r) ∧ Below w1.heap.size w1 wr ∧ ints F [] = ints (F.drop k) r ∧ r.length ≤ 65536) (fun _ i _ => F.length - (intOf i).toNat)
  case atStart => exact ⟨0, _, [], rfl, rfl, by omega, World.ownsRow_nil _ _ _ _, Below.refl _ _, rfl, by simp⟩
  case round =>
    obtain ⟨k, K, r, rfl, rfl, hk, hown, hb, hr, hrl⟩ := hrel
    have HR := Lib.hid hr; clear hr
    obtain ⟨V, vc, rfl, -, -⟩ := own_form hown
    by_cases hlt : k < F.length
    · obtain ⟨b1, o1, rfl, hlt1, x0, x1, x2, x3⟩ := field_at (hs1.below hb) hlt
      have hz := hb.size
      have hf := HF.out F[k] (List.getElem_mem hlt)
      have hd := List.drop_eq_getElem_cons hlt
      generalize F[k] = f at *
      obtain ⟨fnum, ftyp, fn, fdata⟩ := f
      obtain ⟨-, -, -, -, hfn, hfd⟩ := hf
      simp only at x0 x1 x2 x3 hfn hfd
      have hown' := hown.alloc (.cells #[.int .i64 fnum, .int .i64 ftyp, .int .u64 (fn : Int), .string fdata] 184)
      have HBa := Lib.hid (hb.alloc hz (.cells #[.int .i64 fnum, .int .i64 ftyp, .int .u64 (fn : Int), .string fdata] 184))
      have HD := Lib.hid hd
      clear hd hown hb hs1
      by_cases h0 : ftyp = 0
      · subst h0
        have ha : addF ⟨fnum, 0, fn, fdata⟩ r = (if r.length = 65536 then ([], 7) else (r ++ [sg fn], 0)) := by unfold addF; simp
        have hfn' : (fn : Int) ≤ 18446744073709551615 := by unfold Fits64 at hfn; omega
        have HC := Lib.hid (with_any V vc r fn w1.heap.size _ (by simp; omega) hrl hfn hown')
        clear hown' hfn
        go_wp2_with fail
        refine HC.out.mono ?_
        rintro e w2 ⟨v2, rfl, hown2, hb2⟩
        have HB2 := Lib.hid (HBa.out.trans hb2)
        clear hb2 HC HBa
        by_cases hf : r.length = 65536
        · rw [if_pos hf] at hown2 ha ⊢
          have HE : Hid (ints F [] = ([], 7)) := Lib.hid (by rw [HR.out, HD.out, ints_err ha (by omega)])
          clear hown2 ha
          go_wp2_with fail
          go_ret2
          rw [HE.out]
          exact ⟨_, rfl, World.ownsRow_nil _ _ _ _, HB1.out.trans (HB2.out.mono HB1.out.size)⟩
        · rw [if_neg hf] at hown2 ha ⊢
          have HE : Hid (ints F [] = ints (F.drop (k + 1)) (r ++ [sg fn])) := Lib.hid (by rw [HR.out, HD.out, ints_ok ha])
          have HO := Lib.hid hown2
          clear hown2 ha
          go_wp2_with fail
          go_roundw
          case rel => exact ⟨k + 1, _, r ++ [sg fn], rfl, by omega, by omega, HO.out, HB2.out, HE.out, by simp; omega⟩
          case measure => simp [intOf]; omega
      · have h0' : (ftyp == 0) = false := by simpa using h0
        by_cases h2 : ftyp = 2
        · subst h2
          have ha : addF ⟨fnum, 2, fn, fdata⟩ r = pks fdata r := by unfold addF; simp
          have HC := Lib.hid (packed_any V vc r fdata w1.heap.size _ (by simp; omega) hrl (by unfold maxLen; omega) hown')
          have HL := Lib.hid (pks_le fdata hrl)
          have HN := Lib.hid (pks_nil (s := fdata) (acc := r))
          clear hown' hfn h0 h0'
          go_wp2_with fail
          refine HC.out.mono ?_
          rintro e w2 ⟨v2, rfl, hown2, hb2⟩
          have HB2 := Lib.hid (HBa.out.trans hb2)
          clear hb2 HC HBa
          obtain ⟨q, z, hq⟩ : ∃ q z, pks fdata r = (q, z) := ⟨_, _, rfl⟩
          have HL2 := HL.out
          rw [hq] at hown2 ha HL2 ⊢
          simp only at hown2 ha HL2 ⊢
          clear hq HL HN
          by_cases hz0 : z = 0
          · subst hz0
            have HE : Hid (ints F [] = ints (F.drop (k + 1)) q) := Lib.hid (by rw [HR.out, HD.out, ints_ok ha])
            have HO := Lib.hid hown2
            clear hown2 ha
            go_wp2_with fail
            go_roundw
            case rel => exact ⟨k + 1, _, q, rfl, by omega, by omega, HO.out, HB2.out, HE.out, HL2⟩
            case measure => simp [intOf]; omega
          · have hz' : ((z : Int) != 0) = true := by simp; omega
            have HE : Hid (ints F [] = ([], z)) := Lib.hid (by rw [HR.out, HD.out, ints_err ha hz0])
            clear hown2 ha
            go_wp2_with fail
            go_ret2
            rw [HE.out]
            exact ⟨_, rfl, World.ownsRow_nil _ _ _ _, HB1.out.trans (HB2.out.mono HB1.out.size)⟩
        · have h2' : (ftyp == 2) = false := by simpa using h2
          have ha : addF ⟨fnum, ftyp, fn, fdata⟩ r = ([], 3) := by unfold addF; simp [h0, h2]
          have HE : Hid (ints F [] = ([], 3)) := Lib.hid (by rw [HR.out, HD.out, ints_err ha (by omega)])
          clear hown' hfn ha h0 h2
          go_wp2_with fail
          go_ret2
          rw [HE.out]
          exact ⟨_, rfl, World.ownsRow_nil _ _ _ _, HB1.out.trans (HBa.out.mono HB1.out.size)⟩
    · obtain rfl : k = F.length := by omega
      have HE : Hid (ints F [] = (r, 0)) := Lib.hid (by rw [HR.out, List.drop_length]; rfl)
      have HO := Lib.hid (And.intro hown hb)
      clear hown hb
      go_wp2
      go_ret2
      rw [HE.out]
      exact ⟨_, rfl, own_base HO.out.1 HB1.out.size, HB1.out.trans (HO.out.2.mono HB1.out.size)⟩
end Go.Proofs.YtjjfdlgoacockaaGreat
namespace Go.Proofs.YtjjfdlgoacockaaGreat
open Go.RowKit M1 M2 M3

end Go.Proofs.YtjjfdlgoacockaaGreat
