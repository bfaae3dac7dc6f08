/- The walks of what may stand in a part of a key, the program's and the document's own. -/
import Derived.Test.YtkhenedpdfmlbaaRows
import Derived.Test.YtkhenedpdfmlbaaOMath
import Derived.Test.YtkhenedpdfmlbaaKit
import Derived.Test.YtkhenedpdfmlbaaText
import Derived.Outline
import Derived.WalkSpells
import Derived.WalkMore
namespace Go.Proofs.Ytkhenedpdfmlbaa
open Go.RowKit M8

theorem ltr_yes {c : Int} (h : (65 ≤ c ∧ c ≤ 90) ∨ (97 ≤ c ∧ c ≤ 122) ∨ (48 ≤ c ∧ c ≤ 57) ∨ c = 46 ∨ c = 95 ∨ c = 45) : ltr c = true := decide_eq_true h
theorem ltr_no {c : Int} (h : ¬ ((65 ≤ c ∧ c ≤ 90) ∨ (97 ≤ c ∧ c ≤ 122) ∨ (48 ≤ c ∧ c ≤ 57) ∨ c = 46 ∨ c = 95 ∨ c = 45)) : ltr c = false := decide_eq_false h
set_option maxRecDepth 100000 in
theorem stand_any (c : Int) (w : World) : Calls Try.prog 23 #[.int .u8 c] w fun e w' => e = .returned (.bool (ltr c)) ∧ w = w' := by
  go_enter Try.func23, Try.ntmps23
  go_wp2
  all_goals
    try simp only [beq_iff_eq, beq_eq_false_iff_ne, ne_eq] at *
    go_ret
    refine ⟨ret_eq (congrArg Value.bool ?_), rfl⟩
    first
      | exact (ltr_yes (by omega)).symm
      | exact (ltr_no (by omega)).symm
      | (rw [Bool.eq_iff_iff]; unfold ltr; simp only [Bool.or_eq_true, beq_iff_eq, decide_eq_true_eq]; omega)
set_option maxRecDepth 100000 in
theorem letter_any (c : Int) (w : World) : Calls Try.prog 17 #[.int .u8 c] w fun e w' => e = .returned (.bool (ltr c)) ∧ w = w' := by
  go_enter Try.func17, Try.ntmps17
  go_wp2
  all_goals
    try simp only [beq_iff_eq, beq_eq_false_iff_ne, ne_eq] at *
    go_ret
    refine ⟨ret_eq (congrArg Value.bool ?_), rfl⟩
    first
      | exact (ltr_yes (by omega)).symm
      | exact (ltr_no (by omega)).symm
      | (rw [Bool.eq_iff_iff]; unfold ltr; simp only [Bool.or_eq_true, beq_iff_eq, decide_eq_true_eq]; omega)
theorem nd_cases (s : ByteArray) : (s.toList = [] ∧ s.toList.isEmpty = true ∧ nd s.data.toList = false) ∨
    (¬ s.toList = [] ∧ s.toList.isEmpty = false ∧ s.toList = [46] ∧ (s.toList == [46]) = true ∧ nd s.data.toList = false) ∨
    (¬ s.toList = [] ∧ s.toList.isEmpty = false ∧ ¬ s.toList = [46] ∧ (s.toList == [46]) = false ∧ s.toList = [46, 46] ∧ (s.toList == [46, 46]) = true ∧ nd s.data.toList = false) ∨
    (¬ s.toList = [] ∧ s.toList.isEmpty = false ∧ ¬ s.toList = [46] ∧ (s.toList == [46]) = false ∧ ¬ s.toList = [46, 46] ∧ (s.toList == [46, 46]) = false ∧ nd s.data.toList = true) := by
  rw [← Lib.toList_data]
  generalize s.toList = l
  unfold nd
  by_cases h0 : l = []
  · subst h0; exact .inl ⟨rfl, rfl, rfl⟩
  · by_cases h1 : l = [46]
    · subst h1; exact .inr (.inl ⟨h0, rfl, rfl, rfl, rfl⟩)
    · by_cases h2 : l = [46, 46]
      · subst h2; exact .inr (.inr (.inl ⟨h0, rfl, h1, rfl, rfl, rfl, rfl⟩))
      · exact .inr (.inr (.inr ⟨h0, by cases l <;> simp_all, h1, by simpa using h1, h2, by simpa using h2, by simp [h0, h1, h2]⟩))
theorem okp_no {l : List UInt8} (h : nd l = false) : okp l = false := by unfold okp; rw [h]; rfl
theorem okp_all {l : List UInt8} (h : nd l = true) : okp l = l.all lt8 := by unfold okp; rw [h]; rfl
theorem drop_all {s : ByteArray} {k : Nat} (h : k < s.size) : (s.data.toList.drop k).all lt8 = (ltr (s[k].toNat : Int) && (s.data.toList.drop (k + 1)).all lt8) := by
  rw [List.drop_eq_getElem_cons (show k < s.data.toList.length by simpa using h)]
  rfl
set_option maxRecDepth 100000 in
theorem mayBe_any (s : ByteArray) (w : World) (hs : s.size ≤ maxLen) : Calls Try.prog 16 #[.string s] w fun e w' => e = .returned (.bool (okp s.data.toList)) ∧ w = w' := by
  unfold maxLen at hs
  rcases nd_cases s with ⟨h0, h1, h2⟩ | ⟨h0, h1, h2, h3, h4⟩ | ⟨h0, h1, h2, h3, h4, h5, h6⟩ | ⟨h0, h1, h2, h3, h4, h5, h6⟩
  · rw [okp_no h2]
    clear h2
    go_enter Try.func16, Try.ntmps16
    go_wp2
    go_ret
    exact ⟨rfl, rfl⟩
  · rw [okp_no h4]
    clear h4 h2
    go_enter Try.func16, Try.ntmps16
    go_wp2
    go_ret
    exact ⟨rfl, rfl⟩
  · rw [okp_no h6]
    clear h6 h4
    go_enter Try.func16, Try.ntmps16
    go_wp2
    go_ret
    exact ⟨rfl, rfl⟩
  · rw [okp_all h6]
    clear h6
    generalize hb : s.data.toList.all lt8 = b
    have HB := Lib.hid hb
    clear hb
    go_enter Try.func16, Try.ntmps16
    go_wp2_with fail
    clear h0 h1 h2 h3 h4 h5
    go_loop [3, 16] (fun _ i => ∃ (k : Nat) (K : Int), i = .int .i64 K ∧ K = (k : Nat) ∧ k ≤ s.size ∧ (s.data.toList.drop k).all lt8 = b) (fun _ i => s.size - (intOf i).toNat)
    case atStart => exact ⟨0, _, rfl, rfl, by omega, HB.out⟩
    case round =>
      obtain ⟨k, K, rfl, rfl, hk, hall⟩ := hrel
      by_cases hlt : k < s.size
      · have hd := drop_all hlt
        rw [hall] at hd
        have HD := Lib.hid hd
        clear hd hall
        cases hl : ltr (s[k].toNat : Int)
        · have HL := Lib.hid hl
          have HE : Hid (b = false) := Lib.hid (by rw [HD.out, hl]; rfl)
          clear hl
          go_wp2_with fail
          refine (stand_any _ _).mono ?_
          rintro e w' ⟨rfl, rfl⟩
          rw [HL.out]
          go_wp2_with fail
          go_ret
          rw [HE.out]
          exact ⟨rfl, rfl⟩
        · have HL := Lib.hid hl
          have HE : Hid ((s.data.toList.drop (k + 1)).all lt8 = b) := Lib.hid (by rw [HD.out, hl]; rfl)
          clear hl
          go_wp2_with fail
          refine (stand_any _ _).mono ?_
          rintro e w' ⟨rfl, rfl⟩
          rw [HL.out]
          go_wp2_with fail
          go_round
          case rel => exact ⟨k + 1, _, rfl, by omega, by omega, HE.out⟩
          case measure => simp [intOf]; omega
      · obtain rfl : k = s.size := by omega
        have HE : Hid (b = true) := Lib.hid (by rw [← hall, List.drop_of_length_le (by simp)]; rfl)
        clear hall
        go_wp2_with fail
        go_ret
        rw [HE.out]
        exact ⟨rfl, rfl⟩
end Go.Proofs.Ytkhenedpdfmlbaa
