import Derived.Test.YtjjfdlgoacockaaGreatPAt
import Derived.Test.YtjjfdlgoacockaaGreatBuild
import Derived.Test.YtjjfdlgoacockaaGreatWBytes
import Derived.Test.YtjjfdlgoacockaaGreatWRBytes
namespace Go.Proofs.YtjjfdlgoacockaaGreat
open Go.RowKit M1 M2 M3

theorem take_one_more {α : Type} {l : List α} {k : Nat} (h : k < l.length) : l.take (k + 1) = l.take k ++ [l[k]] := List.take_succ_eq_append_getElem h
theorem pt_nil (num : Int) : pt num [] = ⟨#[]⟩ := by simp [pt]

set_option maxRecDepth 100000 in
theorem packPut_any (A : Option Addr) (c : Nat) (l : List Int) (num : Int) (w : World) (hl : l.length ≤ 3000000) (ha : SR w w.heap.size 1 A l.length (iv l)) (a1 : -9223372036854775808 ≤ num) (a2 : num ≤ 9223372036854775807) :
    Calls Tryz.prog 90 #[.int .i64 num, .slice A l.length c] w fun e w' => e = .returned (.string (pt num l)) ∧ Below w.heap.size w w' := by
  by_cases h0 : l.length = 0
  · have : l = [] := by simpa using h0
    subst this
    rw [pt_nil]
    clear h0 ha
    go_enter Tryz.func90, Tryz.ntmps90
    go_wp2_with fail
    go_ret
    exact ⟨rfl, Below.refl _ _⟩
  · have h0' : ((l.length : Int) == 0) = false := by rw [beq_eq_false_iff_ne]; omega
    have hne : l ≠ [] := by intro h; simp [h] at h0
    have hc := cps_le l
    have HP := Lib.hid (show fb ⟨num, 2, 0, cps l⟩ = pt num l by rw [pt, if_neg hne])
    have hq : (cps l).size ≤ 281474976710656 := by omega
    have HT := Lib.hid (fun W => text_any num (cps l) W hq a1 a2)
    clear hne h0 hc hq
    go_enter Tryz.func90, Tryz.ntmps90
    go_wp2_with fail
    go_loopw [13] (fun i wr => ∃ (k : Nat) (K : Int), i = .int .i64 K ∧ K = (k : Nat) ∧ k ≤ l.length ∧ BuildF w.heap.size w.heap.size (cps (l.take k)).data.toList wr ∧ Below w.heap.size w wr) (fun i _ => l.length - (intOf i).toNat)
    case atStart => exact ⟨0, _, rfl, rfl, by omega, build_new w, (Below.refl _ _).alloc (Nat.le_refl _) _⟩
    case round =>
      obtain ⟨k, K, rfl, rfl, hk, hbd, hb⟩ := hrel
      by_cases hlt : k < l.length
      · obtain ⟨b1, o1, rfl, hlt1, x0⟩ := int_at (ha.below hb) hlt
        have hz := hb.size
        have hts : cps (l.take (k + 1)) = cps (l.take k) ++ ps (us l[k]) := by rw [take_one_more hlt, cps_snoc]
        have hcl := cps_le (l.take k)
        have hlk : (l.take k).length ≤ k := List.length_take_le _ _
        generalize l[k] = n at *
        have hu := us_eq n
        have hfit := us_fits n
        have hps := ps_le (us n)
        have HS := Lib.hid hts
        have HBd := Lib.hid hbd
        have HB := Lib.hid hb
        have HQ := Lib.hid (fun W => put_any (us n) W (fits_of64 hfit))
        clear hts hbd hb hfit ha
        go_wp2_with fail
        refine (HQ.out _).mono ?_
        rintro e w1 ⟨rfl, hb1⟩
        have HBd1 := Lib.hid (build_keep HBd.out hb1)
        have HB1 := Lib.hid (HB.out.trans (hb1.mono HB.out.size))
        clear hb1 HBd HB
        have hz1 := HB1.out.size
        have HW := Lib.hid (writeString_any w.heap.size w.heap.size _ (ps (us n)) w1 HBd1.out (by simp; omega) hz1)
        clear hu
        go_wp2_with fail
        refine HW.out.mono ?_
        rintro e w2 ⟨rfl, hbd2, hb2⟩
        have e1 : (cps (l.take k)).data.toList ++ (ps (us n)).data.toList = (cps (l.take (k + 1))).data.toList := by rw [HS.out]; simp
        rw [e1] at hbd2
        have HO := Lib.hid (And.intro hbd2 (HB1.out.trans hb2))
        clear hbd2 hb2 e1 HW
        go_wp2_with fail
        go_roundw
        case rel => exact ⟨k + 1, _, rfl, by omega, by omega, HO.out.1, HO.out.2⟩
        case measure => simp [intOf]; omega
      · obtain rfl : k = l.length := by omega
        rw [List.take_length] at hbd
        have hz := hb.size
        have HBd := Lib.hid hbd
        have HB := Lib.hid hb
        clear hbd hb
        have HS := Lib.hid (buildString_any _ _ _ _ HBd.out hz)
        go_wp2_with fail
        refine HS.out.mono ?_
        rintro e w1 ⟨rfl, -, hb1⟩
        have HB1 := Lib.hid (HB.out.trans hb1)
        clear hb1 HS
        rw [show (⟨(cps l).data.toList.toArray⟩ : ByteArray) = cps l from ba_eq (by simp)]
        go_wp2_with fail
        refine (HT.out _).mono ?_
        rintro e w2 ⟨rfl, hb2⟩
        have HB2 := Lib.hid (HB1.out.trans (hb2.mono HB1.out.size))
        clear hb2
        rw [HP.out]
        go_wp2_with fail
        go_ret
        exact ⟨rfl, HB2.out⟩

theorem rput_us (n : Int) (w : World) :
    Calls Tryz.prog 136 #[.int .u64 ((us n : Nat) : Int)] w fun e w' => ∃ g cap m, e = .returned (.slice (some ⟨g, 0, none⟩) m cap) ∧ (convert 113 9 (.slice (some ⟨g, 0, none⟩) m cap)).run Tryz.prog w' = .ok (.string (ps (us n))) w' ∧ Below w.heap.size w w' := by
  have h := us_fits n
  unfold Fits64 at h
  have h2 := rput_int ((us n : Nat) : Int) w (by omega) (by omega)
  rwa [Int.toNat_natCast] at h2

set_option maxRecDepth 100000 in
theorem packRPut_any (A : Option Addr) (c : Nat) (l : List Int) (num : Int) (w : World) (hl : l.length ≤ 3000000) (ha : SR w w.heap.size 1 A l.length (iv l)) :
    Calls Tryz.prog 94 #[.int .i64 num, .slice A l.length c] w fun e w' => e = .returned (.string (pt num l)) ∧ Below w.heap.size w w' := by
  by_cases h0 : l.length = 0
  · have : l = [] := by simpa using h0
    subst this
    rw [pt_nil]
    clear h0 ha
    go_enter Tryz.func94, Tryz.ntmps94
    go_wp2_with fail
    go_ret
    exact ⟨rfl, Below.refl _ _⟩
  · have h0' : ((l.length : Int) == 0) = false := by rw [beq_eq_false_iff_ne]; omega
    have hne : l ≠ [] := by intro h; simp [h] at h0
    have hc := cps_le l
    have hq : (cps l).size ≤ 281474976710656 := by omega
    have HP := Lib.hid (show fb ⟨num, 2, 0, cps l⟩ = pt num l by rw [pt, if_neg hne])
    have HT := Lib.hid (fun W => rtext_any num (cps l) W hq)
    clear hne h0 hc hq
    go_enter Tryz.func94, Tryz.ntmps94
    go_wp2_with fail
    go_loopw [5, 6] (fun s i wr => ∃ (k : Nat) (K : Int), i = .int .i64 K ∧ K = (k : Nat) ∧ k ≤ l.length ∧ s = .string (cps (l.take k)) ∧ Below w.heap.size w wr) (fun _ i _ => l.length - (intOf i).toNat)
    case atStart => exact ⟨0, _, rfl, rfl, by omega, rfl, Below.refl _ _⟩
    case round =>
      obtain ⟨k, K, rfl, rfl, hk, rfl, hb⟩ := hrel
      by_cases hlt : k < l.length
      · obtain ⟨b1, o1, rfl, hlt1, x0⟩ := int_at (ha.below hb) hlt
        have hts : cps (l.take (k + 1)) = cps (l.take k) ++ ps (us l[k]) := by rw [take_one_more hlt, cps_snoc]
        have hcl := cps_le (l.take k)
        have hlk : (l.take k).length ≤ k := List.length_take_le _ _
        generalize l[k] = n at *
        have hu := us_eq n
        have hps := ps_le (us n)
        have HS := Lib.hid hts
        have HB := Lib.hid hb
        have HQ := Lib.hid (fun W => rput_us n W)
        clear hts hb ha
        go_wp2_with fail
        refine (HQ.out _).mono ?_
        rintro e w1 ⟨g, cap, m, rfl, hconv, hb1⟩
        have HB1 := Lib.hid (HB.out.trans (hb1.mono HB.out.size))
        clear hb1 HB hu
        go_wp2_with fail
        go_roundw
        case rel => exact ⟨k + 1, _, rfl, by omega, by omega, by rw [HS.out], HB1.out⟩
        case measure => simp [intOf]; omega
      · obtain rfl : k = l.length := by omega
        rw [List.take_length]
        have HB := Lib.hid hb
        clear hb
        go_wp2_with fail
        refine (HT.out _).mono ?_
        rintro e w2 ⟨rfl, hb2⟩
        have HB2 := Lib.hid (HB.out.trans (hb2.mono HB.out.size))
        clear hb2
        rw [HP.out]
        go_wp2_with fail
        go_ret
        exact ⟨rfl, HB2.out⟩
end Go.Proofs.YtjjfdlgoacockaaGreat
