/- The walk of layer 3: the row of numbers in fields, by contract. -/
import Derived.Test.YtmojabdobjfdoaaPPacked
import Derived.Test.YtmojabdobjfdoaaWAll
import Derived.Test.YtmojabdobjfdoaaWOpen
namespace Go.Proofs.Ytmojabdobjfdoaa
open Go.RowKit M1 M2 M3

set_option maxRecDepth 100000 in
theorem ints_any (A : Option Addr) (c : Nat) (l : List WFd) (num : Int) (w : World) (hl : l.length ≤ 3000000) (ha : SR w w.heap.size 4 A l.length (fcs l)) (hok : ∀ f ∈ l, FOk f) :
    Calls Try.prog 7 #[.slice A l.length c, .int .i64 num] w (RowRes w.heap.size (ints (ofNum l num) []) w) := by
  have hF : ∀ f ∈ ofNum l num, FOk f := fun f hf => hok f (List.mem_filter.1 hf).1
  have hFl := ofNum_le l num
  have HF := Lib.hid hF
  have HA := Lib.hid (fun W h => all_any A c l num W hl h)
  clear hF hok
  go_enter Try.func7, Try.ntmps7
  go_wp2_with fail
  refine (HA.out _ ha).mono ?_
  rintro e w1 ⟨v1, rfl, hown1, hb1⟩
  obtain ⟨A1, c1, rfl, -, -⟩ := own_form hown1
  have hs1 := SR.of_own hown1
  have HB1 := Lib.hid hb1
  clear hown1 hb1 ha HA
  generalize hFF : ofNum l num = F at *
  clear hFF
  go_wp2_with fail
  go_loopw [6, 14] (fun v i wr => ∃ (k : Nat) (K : Int) (r : List Int), i = .int .i64 K ∧ K = (k : Nat) ∧ k ≤ F.length ∧ wr.ownsRow w1.heap.size 2 1 v r.length (iv r) ∧ Below w1.heap.size w1 wr ∧ ints F [] = ints (F.drop k) r ∧ r.length ≤ 65536) (fun _ i _ => F.length - (intOf i).toNat)
  case atStart => exact ⟨0, _, [], rfl, rfl, by omega, World.ownsRow_nil _ _ _ _, Below.refl _ _, rfl, by simp⟩
  case round =>
    obtain ⟨k, K, r, rfl, rfl, hk, hown, hb, hr, hrl⟩ := hrel
    have HR := Lib.hid hr; clear hr
    obtain ⟨V, vc, rfl, -, -⟩ := own_form hown
    by_cases hlt : k < F.length
    · obtain ⟨b1, o1, rfl, hlt1, x0, x1, x2, x3⟩ := field_at (hs1.below hb) hlt
      have hz := hb.size
      have hf := HF.out F[k] (List.getElem_mem hlt)
      have hd := List.drop_eq_getElem_cons hlt
      generalize F[k] = f at *
      obtain ⟨fnum, ftyp, fn, fdata⟩ := f
      obtain ⟨-, -, -, -, hfn, hfd⟩ := hf
      simp only at x0 x1 x2 x3 hfn hfd
      have hown' := hown.alloc (.cells #[.int .i64 fnum, .int .i64 ftyp, .int .u64 (fn : Int), .string fdata] 27)
      have HBa := Lib.hid (hb.alloc hz (.cells #[.int .i64 fnum, .int .i64 ftyp, .int .u64 (fn : Int), .string fdata] 27))
      have HD := Lib.hid hd
      clear hd hown hb hs1
      by_cases h0 : ftyp = 0
      · subst h0
        have ha : addF ⟨fnum, 0, fn, fdata⟩ r = (if r.length = 65536 then ([], 7) else (r ++ [sg fn], 0)) := by unfold addF; simp
        have hfn' : (fn : Int) ≤ 18446744073709551615 := by unfold Fits64 at hfn; omega
        have HC := Lib.hid (with_any V vc r fn w1.heap.size _ (by simp; omega) hrl hfn hown')
        clear hown' hfn
        go_wp2_with fail
        refine HC.out.mono ?_
        rintro e w2 ⟨v2, rfl, hown2, hb2⟩
        have HB2 := Lib.hid (HBa.out.trans hb2)
        clear hb2 HC HBa
        by_cases hf : r.length = 65536
        · rw [if_pos hf] at hown2 ha ⊢
          have HE : Hid (ints F [] = ([], 7)) := Lib.hid (by rw [HR.out, HD.out, ints_err ha (by omega)])
          clear hown2 ha
          go_wp2_with fail
          go_ret2
          rw [HE.out]
          exact ⟨_, rfl, World.ownsRow_nil _ _ _ _, HB1.out.trans (HB2.out.mono HB1.out.size)⟩
        · rw [if_neg hf] at hown2 ha ⊢
          have HE : Hid (ints F [] = ints (F.drop (k + 1)) (r ++ [sg fn])) := Lib.hid (by rw [HR.out, HD.out, ints_ok ha])
          have HO := Lib.hid hown2
          clear hown2 ha
          go_wp2_with fail
          go_roundw
          case rel => exact ⟨k + 1, _, r ++ [sg fn], rfl, by omega, by omega, HO.out, HB2.out, HE.out, by simp; omega⟩
          case measure => simp [intOf]; omega
      · have h0' : (ftyp == 0) = false := by simpa using h0
        by_cases h2 : ftyp = 2
        · subst h2
          have ha : addF ⟨fnum, 2, fn, fdata⟩ r = pks fdata r := by unfold addF; simp
          have HC := Lib.hid (packed_any V vc r fdata w1.heap.size _ (by simp; omega) hrl (by unfold maxLen; omega) hown')
          have HL := Lib.hid (pks_le fdata hrl)
          have HN := Lib.hid (pks_nil (s := fdata) (acc := r))
          clear hown' hfn h0 h0'
          go_wp2_with fail
          refine HC.out.mono ?_
          rintro e w2 ⟨v2, rfl, hown2, hb2⟩
          have HB2 := Lib.hid (HBa.out.trans hb2)
          clear hb2 HC HBa
          obtain ⟨q, z, hq⟩ : ∃ q z, pks fdata r = (q, z) := ⟨_, _, rfl⟩
          have HL2 := HL.out
          rw [hq] at hown2 ha HL2 ⊢
          simp only at hown2 ha HL2 ⊢
          clear hq HL HN
          by_cases hz0 : z = 0
          · subst hz0
            have HE : Hid (ints F [] = ints (F.drop (k + 1)) q) := Lib.hid (by rw [HR.out, HD.out, ints_ok ha])
            have HO := Lib.hid hown2
            clear hown2 ha
            go_wp2_with fail
            go_roundw
            case rel => exact ⟨k + 1, _, q, rfl, by omega, by omega, HO.out, HB2.out, HE.out, HL2⟩
            case measure => simp [intOf]; omega
          · have hz' : ((z : Int) != 0) = true := by simp; omega
            have HE : Hid (ints F [] = ([], z)) := Lib.hid (by rw [HR.out, HD.out, ints_err ha hz0])
            clear hown2 ha
            go_wp2_with fail
            go_ret2
            rw [HE.out]
            exact ⟨_, rfl, World.ownsRow_nil _ _ _ _, HB1.out.trans (HB2.out.mono HB1.out.size)⟩
        · have h2' : (ftyp == 2) = false := by simpa using h2
          have ha : addF ⟨fnum, ftyp, fn, fdata⟩ r = ([], 3) := by unfold addF; simp [h0, h2]
          have HE : Hid (ints F [] = ([], 3)) := Lib.hid (by rw [HR.out, HD.out, ints_err ha (by omega)])
          clear hown' hfn ha h0 h2
          go_wp2_with fail
          go_ret2
          rw [HE.out]
          exact ⟨_, rfl, World.ownsRow_nil _ _ _ _, HB1.out.trans (HBa.out.mono HB1.out.size)⟩
    · obtain rfl : k = F.length := by omega
      have HE : Hid (ints F [] = (r, 0)) := Lib.hid (by rw [HR.out, List.drop_length]; rfl)
      have HO := Lib.hid (And.intro hown hb)
      clear hown hb
      go_wp2
      go_ret2
      rw [HE.out]
      exact ⟨_, rfl, own_base HO.out.1 HB1.out.size, HB1.out.trans (HO.out.2.mono HB1.out.size)⟩
end Go.Proofs.Ytmojabdobjfdoaa
