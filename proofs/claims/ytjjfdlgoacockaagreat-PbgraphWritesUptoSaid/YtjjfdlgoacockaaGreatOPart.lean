import Derived.Test.YtjjfdlgoacockaaGreatRows
import Derived.Test.YtjjfdlgoacockaaGreatTMade
import Derived.Test.YtjjfdlgoacockaaGreatMath
import Derived.Test.YtjjfdlgoacockaaGreatGRefTwo
import Derived.Outline
import Derived.WalkSpells
import Derived.WalkMore
namespace Go.Proofs.YtjjfdlgoacockaaGreat
open Go.RowKit M8

theorem ltr_yes {c : Int} (h : (65 ≤ c ∧ c ≤ 90) ∨ (97 ≤ c ∧ c ≤ 122) ∨ (48 ≤ c ∧ c ≤ 57) ∨ c = 46 ∨ c = 95 ∨ c = 45) : ltr c = true := decide_eq_true h
theorem ltr_no {c : Int} (h : ¬ ((65 ≤ c ∧ c ≤ 90) ∨ (97 ≤ c ∧ c ≤ 122) ∨ (48 ≤ c ∧ c ≤ 57) ∨ c = 46 ∨ c = 95 ∨ c = 45)) : ltr c = false := decide_eq_false h
set_option maxRecDepth 100000 in
theorem stand_any (c : Int) (w : World) : Calls Tryz.prog 142 #[.int .u8 c] w fun e w' => e = .returned (.bool (ltr c)) ∧ w = w' := by
  go_enter Tryz.func142, Tryz.ntmps142
  go_wp2
  all_goals
    try simp only [beq_iff_eq, beq_eq_false_iff_ne, ne_eq] at *
    go_ret
    refine ⟨ret_eq (congrArg Value.bool ?_), rfl⟩
    first
      | exact (ltr_yes (by omega)).symm
      | exact (ltr_no (by omega)).symm
      | (rw [Bool.eq_iff_iff]; unfold ltr; simp only [Bool.or_eq_true, beq_iff_eq, decide_eq_true_eq]; omega)
set_option maxRecDepth 100000 in
theorem letter_any (c : Int) (w : World) : Calls Tryz.prog 98 #[.int .u8 c] w fun e w' => e = .returned (.bool (ltr c)) ∧ w = w' := by
  go_enter Tryz.func98, Tryz.ntmps98
  go_wp2
  all_goals
    try simp only [beq_iff_eq, beq_eq_false_iff_ne, ne_eq] at *
    go_ret
    refine ⟨ret_eq (congrArg Value.bool ?_), rfl⟩
    first
      | exact (ltr_yes (by omega)).symm
      | exact (ltr_no (by omega)).symm
      | (rw [Bool.eq_iff_iff]; unfold ltr; simp only [Bool.or_eq_true, beq_iff_eq, decide_eq_true_eq]; omega)
theorem nd_cases (s : ByteArray) : (s.toList = [] ∧ s.toList.isEmpty = true ∧ nd s.data.toList = false) ∨
    (¬ s.toList = [] ∧ s.toList.isEmpty = false ∧ s.toList = [46] ∧ (s.toList == [46]) = true ∧ nd s.data.toList = false) ∨
    (¬ s.toList = [] ∧ s.toList.isEmpty = false ∧ ¬ s.toList = [46] ∧ (s.toList == [46]) = false ∧ s.toList = [46, 46] ∧ (s.toList == [46, 46]) = true ∧ nd s.data.toList = false) ∨
    (¬ s.toList = [] ∧ s.toList.isEmpty = false ∧ ¬ s.toList = [46] ∧ (s.toList == [46]) = false ∧ ¬ s.toList = [46, 46] ∧ (s.toList == [46, 46]) = false ∧ nd s.data.toList = true) := by
  rw [← Lib.toList_data]
  generalize s.toList = l
  unfold nd
  by_cases h0 : l = []
  · subst h0; exact .inl ⟨rfl, rfl, rfl⟩
  · by_cases h1 : l = [46]
    · subst h1; exact .inr (.inl ⟨h0, rfl, rfl, rfl, rfl⟩)
    · by_cases h2 : l = [46, 46]
      · subst h2; exact .inr (.inr (.inl ⟨h0, rfl, h1, rfl, rfl, rfl, rfl⟩))
      · exact .inr (.inr (.inr ⟨h0, by cases l <;> simp_all, h1, by simpa using h1, h2, by simpa using h2, by simp [h0, h1, h2]⟩))
theorem okp_no {l : List UInt8} (h : nd l = false) : okp l = false := by unfold okp; rw [h]; rfl
theorem okp_all {l : List UInt8} (h : nd l = true) : okp l = l.all lt8 := by unfold okp; rw [h]; rfl
theorem drop_all {s : ByteArray} {k : Nat} (h : k < s.size) : (s.data.toList.drop k).all lt8 = (ltr (s[k].toNat : Int) && (s.data.toList.drop (k + 1)).all lt8) := by
  rw [List.drop_eq_getElem_cons (show k < s.data.toList.length by simpa using h)]
  rfl
set_option maxRecDepth 100000 in
theorem mayBe_any (s : ByteArray) (w : World) (hs : s.size ≤ maxLen) : Calls Tryz.prog 97 #[.string s] w fun e w' => e = .returned (.bool (okp s.data.toList)) ∧ w = w' := by
  unfold maxLen at hs
  rcases nd_cases s with ⟨h0, h1, h2⟩ | ⟨h0, h1, h2, h3, h4⟩ | ⟨h0, h1, h2, h3, h4, h5, h6⟩ | ⟨h0, h1, h2, h3, h4, h5, h6⟩
  · rw [okp_no h2]
    clear h2
    go_enter Tryz.func97, Tryz.ntmps97
    go_wp2
    go_ret
    exact ⟨rfl, rfl⟩
  · rw [okp_no h4]
    clear h4 h2
    go_enter Tryz.func97, Tryz.ntmps97
    go_wp2
    go_ret
    exact ⟨rfl, rfl⟩
  · rw [okp_no h6]
    clear h6 h4
    go_enter Tryz.func97, Tryz.ntmps97
    go_wp2
    go_ret
    exact ⟨rfl, rfl⟩
  · rw [okp_all h6]
    clear h6
    generalize hb : s.data.toList.all lt8 = b
    have HB := Lib.hid hb
    clear hb
    go_enter Tryz.func97, Tryz.ntmps97
    go_wp2_with fail
    clear h0 h1 h2 h3 h4 h5
    go_loop [3, 16] (fun _ i => ∃ (k : Nat) (K : Int), i = .int .i64 K ∧ K = (k : Nat) ∧ k ≤ s.size ∧ (s.data.toList.drop k).all lt8 = b) (fun _ i => s.size - (intOf i).toNat)
    case atStart => exact ⟨0, _, rfl, rfl, by omega, HB.out⟩
    case round =>
      obtain ⟨k, K, rfl, rfl, hk, hall⟩ := hrel
      by_cases hlt : k < s.size
      · have hd := drop_all hlt
        rw [hall] at hd
        have HD := Lib.hid hd
        clear hd hall
        cases hl : ltr (s[k].toNat : Int)
        · have HL := Lib.hid hl
          have HE : Hid (b = false) := Lib.hid (by rw [HD.out, hl]; rfl)
          clear hl
          go_wp2_with fail
          refine (stand_any _ _).mono ?_
          rintro e w' ⟨rfl, rfl⟩
          rw [HL.out]
          go_wp2_with fail
          go_ret
          rw [HE.out]
          exact ⟨rfl, rfl⟩
        · have HL := Lib.hid hl
          have HE : Hid ((s.data.toList.drop (k + 1)).all lt8 = b) := Lib.hid (by rw [HD.out, hl]; rfl)
          clear hl
          go_wp2_with fail
          refine (stand_any _ _).mono ?_
          rintro e w' ⟨rfl, rfl⟩
          rw [HL.out]
          go_wp2_with fail
          go_round
          case rel => exact ⟨k + 1, _, rfl, by omega, by omega, HE.out⟩
          case measure => simp [intOf]; omega
      · obtain rfl : k = s.size := by omega
        have HE : Hid (b = true) := Lib.hid (by rw [← hall, List.drop_of_length_le (by simp)]; rfl)
        clear hall
        go_wp2_with fail
        go_ret
        rw [HE.out]
        exact ⟨rfl, rfl⟩
end Go.Proofs.YtjjfdlgoacockaaGreat
namespace Go.Proofs.YtjjfdlgoacockaaGreat
open Go.RowKit M8

def sl (s : ByteArray) (f k : Nat) : List UInt8 := (s.extract f k).data.toList
theorem sl_self (s : ByteArray) (k : Nat) : sl s k k = [] := by unfold sl; simp
theorem sl_snoc {s : ByteArray} {f k : Nat} (hf : f ≤ k) (hk : k < s.size) : sl s f (k + 1) = sl s f k ++ [s[k]] := by
  unfold sl
  simp only [ByteArray.data_extract, Array.toList_extract, List.extract_eq_take_drop]
  rw [show k + 1 - f = (k - f) + 1 by omega, List.take_succ_eq_append_getElem (by simp; omega)]
  congr 2
  simp only [List.getElem_drop, show f + (k - f) = k by omega]
  rfl
def Rd (s : ByteArray) (f k : Nat) : Prop := (k ≤ s.size → allp (sl s f k) (s.data.toList.drop k) = allp [] s.data.toList) ∧ (s.size < k → allp [] s.data.toList = true)
theorem Rd.start (s : ByteArray) : Rd s 0 0 := ⟨fun _ => by rw [sl_self]; rfl, fun h => by omega⟩
theorem rd_drop {s : ByteArray} {k : Nat} (hk : k < s.size) : s.data.toList.drop k = s[k] :: s.data.toList.drop (k + 1) := by
  rw [List.drop_eq_getElem_cons (show k < s.data.toList.length by simpa using hk)]
  rfl
theorem Rd.letter {s : ByteArray} {f k : Nat} (h : Rd s f k) (hf : f ≤ k) (hk : k < s.size) (hc : ¬ s[k] = 47) (hl : ltr (s[k].toNat : Int) = true) : Rd s f (k + 1) := by
  refine ⟨fun _ => ?_, fun h => by omega⟩
  rw [← h.1 (by omega), rd_drop hk, sl_snoc hf hk]
  show _ = (if s[k] = 47 then _ else lt8 s[k] && _)
  rw [if_neg hc, show lt8 s[k] = true from hl, Bool.true_and]
theorem Rd.bad {s : ByteArray} {f k : Nat} (h : Rd s f k) (hk : k < s.size) (hc : ¬ s[k] = 47) (hl : ltr (s[k].toNat : Int) = false) : keyB s = false := by
  have h1 := h.1 (by omega)
  rw [rd_drop hk] at h1
  unfold keyB
  rw [← h1]
  show (_ && (if s[k] = 47 then _ else lt8 s[k] && _)) = _
  rw [if_neg hc, show lt8 s[k] = false from hl, Bool.false_and, Bool.and_false]
theorem Rd.slash {s : ByteArray} {f k : Nat} (h : Rd s f k) (hk : k < s.size) (hc : s[k] = 47) (hl : nd (sl s f k) = true) : Rd s (k + 1) (k + 1) := by
  refine ⟨fun _ => ?_, fun h => by omega⟩
  rw [← h.1 (by omega), rd_drop hk, sl_self]
  show _ = (if s[k] = 47 then nd _ && allp [] _ else _)
  rw [if_pos hc, hl, Bool.true_and]
theorem Rd.none {s : ByteArray} {f k : Nat} (h : Rd s f k) (hk : k < s.size) (hc : s[k] = 47) (hl : nd (sl s f k) = false) : keyB s = false := by
  have h1 := h.1 (by omega)
  rw [rd_drop hk] at h1
  unfold keyB
  rw [← h1]
  show (_ && (if s[k] = 47 then nd _ && allp [] _ else _)) = _
  rw [if_pos hc, hl, Bool.false_and, Bool.and_false]
theorem Rd.last {s : ByteArray} {f : Nat} (h : Rd s f s.size) (hl : nd (sl s f s.size) = true) : Rd s (s.size + 1) (s.size + 1) := by
  refine ⟨fun h => by omega, fun _ => ?_⟩
  rw [← h.1 (Nat.le_refl _), List.drop_of_length_le (by simp)]
  exact hl
theorem Rd.lastNone {s : ByteArray} {f : Nat} (h : Rd s f s.size) (hl : nd (sl s f s.size) = false) : keyB s = false := by
  unfold keyB
  rw [← h.1 (Nat.le_refl _), List.drop_of_length_le (by simp)]
  show (_ && nd _) = _
  rw [hl, Bool.and_false]
theorem Rd.end_ {s : ByteArray} {f k : Nat} (h : Rd s f k) (hk : s.size < k) : keyB s = decide (s.size ≤ 255) := by
  unfold keyB; rw [h.2 hk, Bool.and_true]
set_option maxRecDepth 100000 in
theorem rkey_any (s : ByteArray) (w : World) (hs : s.size ≤ 2000000) : Calls Tryz.prog 57 #[.string s] w fun e w' => e = .returned (.bool (keyB s)) ∧ w = w' := by
  go_enter Tryz.func57, Tryz.ntmps57
  go_wp2_with fail
  go_loop [3, 4, 5] (fun a b _ => ∃ (f k : Nat) (F K : Int), a = .int .i64 F ∧ b = .int .i64 K ∧ F = (f : Nat) ∧ K = (k : Nat) ∧ f ≤ k ∧ k ≤ s.size + 1 ∧ Rd s f k) (fun _ b _ => s.size + 1 - (intOf b).toNat)
  case atStart => exact ⟨0, 0, _, _, rfl, rfl, rfl, rfl, by omega, by omega, Rd.start s⟩
  case round =>
    obtain ⟨f, k, F, K, rfl, rfl, rfl, rfl, hfk, hk, hrd⟩ := hrel
    have HR := Lib.hid hrd
    clear hrd
    by_cases hlt : k < s.size
    · by_cases hc : s[k] = 47
      · have hcb : ((s[k].toNat : Int) == 47) = true := by rw [hc]; rfl
        have b1 : (0 : Int) ≤ (f : Int) := by omega
        have b2 : (f : Int) ≤ (k : Int) := by omega
        have b3 : (k : Int) ≤ (s.size : Int) := by omega
        rcases nd_cases (s.extract f k) with ⟨h0, h1, h2⟩ | ⟨h0, h1, h2, h3, h4⟩ | ⟨h0, h1, h2, h3, h4, h5, h6⟩ | ⟨h0, h1, h2, h3, h4, h5, h6⟩
        · have HE := Lib.hid (HR.out.none hlt hc h2)
          clear h2 hc
          go_wp2_with fail
          go_ret
          rw [HE.out]
          exact ⟨rfl, rfl⟩
        · have HE := Lib.hid (HR.out.none hlt hc h4)
          clear h4 h2 hc
          go_wp2_with fail
          go_ret
          rw [HE.out]
          exact ⟨rfl, rfl⟩
        · have HE := Lib.hid (HR.out.none hlt hc h6)
          clear h4 h6 hc
          go_wp2_with fail
          go_ret
          rw [HE.out]
          exact ⟨rfl, rfl⟩
        · have HE := Lib.hid (HR.out.slash hlt hc h6)
          clear h6 hc
          go_wp2_with fail
          go_round
          case rel => exact ⟨k + 1, k + 1, _, _, rfl, rfl, by omega, by omega, by omega, by omega, HE.out⟩
          case measure => simp [intOf]; omega
      · have hcn : ¬ s[k].toNat = 47 := fun e => hc (UInt8.toNat_inj.1 e)
        have hcb : ((s[k].toNat : Int) == 47) = false := by rw [beq_eq_false_iff_ne]; omega
        cases hl : ltr (s[k].toNat : Int)
        · have HL := Lib.hid hl
          have HE := Lib.hid (HR.out.bad hlt hc hl)
          clear hl hc
          go_wp2_with fail
          refine (letter_any _ _).mono ?_
          rintro e w' ⟨rfl, rfl⟩
          rw [HL.out]
          go_wp2_with fail
          go_ret
          rw [HE.out]
          exact ⟨rfl, rfl⟩
        · have HL := Lib.hid hl
          have HE := Lib.hid (HR.out.letter hfk hlt hc hl)
          clear hl hc
          go_wp2_with fail
          refine (letter_any _ _).mono ?_
          rintro e w' ⟨rfl, rfl⟩
          rw [HL.out]
          go_wp2_with fail
          go_round
          case rel => exact ⟨f, k + 1, _, _, rfl, rfl, rfl, by omega, by omega, by omega, HE.out⟩
          case measure => simp [intOf]; omega
    · by_cases hle : k = s.size
      · subst hle
        have b1 : (0 : Int) ≤ (f : Int) := by omega
        have b2 : (f : Int) ≤ (s.size : Int) := by omega
        rcases nd_cases (s.extract f s.size) with ⟨h0, h1, h2⟩ | ⟨h0, h1, h2, h3, h4⟩ | ⟨h0, h1, h2, h3, h4, h5, h6⟩ | ⟨h0, h1, h2, h3, h4, h5, h6⟩
        · have HE := Lib.hid (HR.out.lastNone h2)
          clear h2
          go_wp2_with fail
          go_ret
          rw [HE.out]
          exact ⟨rfl, rfl⟩
        · have HE := Lib.hid (HR.out.lastNone h4)
          clear h4 h2
          go_wp2_with fail
          go_ret
          rw [HE.out]
          exact ⟨rfl, rfl⟩
        · have HE := Lib.hid (HR.out.lastNone h6)
          clear h4 h6
          go_wp2_with fail
          go_ret
          rw [HE.out]
          exact ⟨rfl, rfl⟩
        · have HE := Lib.hid (HR.out.last h6)
          clear h6
          go_wp2_with fail
          go_round
          case rel => exact ⟨s.size + 1, s.size + 1, _, _, rfl, rfl, by omega, by omega, by omega, by omega, HE.out⟩
          case measure => simp [intOf]
      · have HE := Lib.hid (HR.out.end_ (by omega))
        have hgt : ¬ (k : Int) ≤ (s.size : Int) := by omega
        clear hlt
        go_wp2_with fail
        go_ret
        rw [HE.out]
        exact ⟨ret_eq (congrArg Value.bool (by rw [decide_eq_decide]; omega)), rfl⟩
end Go.Proofs.YtjjfdlgoacockaaGreat
