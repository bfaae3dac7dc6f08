/- The walk of the law ShapeTells. -/
import Derived.Test.YtiljgokhgihodaaSAwake
import Derived.Test.YtiljgokhgihodaaSRBroad
namespace Go.Proofs.Ytiljgokhgihodaa
open Go.RowKit M5

set_option maxRecDepth 100000 in
theorem same_any (A B : Option Addr) (c d : Nat) (l m : List Int) (w : World) (hm : m.length ≤ maxLen) (ha : SR w w.heap.size 1 A l.length (iv l)) (hb : SR w w.heap.size 1 B m.length (iv m)) :
    Calls Try.prog 12 #[.slice A l.length c, .slice B m.length d] w fun e w' => e = .returned (.bool (decide (l = m))) ∧ Below w.heap.size w w' := by
  have HC := Lib.hid (slEqual_any A B c d l m w hm ha hb)
  clear hm ha hb
  go_enter Try.func12, Try.ntmps12
  go_wp2_with fail
  refine HC.out.mono ?_
  rintro e w1 ⟨rfl, hb1⟩
  have HB := Lib.hid hb1
  clear hb1
  go_wp2_with fail
  go_ret
  exact ⟨rfl, HB.out⟩

set_option maxRecDepth 100000 in
theorem shTells_walk (A : Option Addr) (c : Nat) (a : List Int) (B : Option Addr) (d : Nat) (b : List Int) (w : World) (hla : a.length ≤ maxLen) (hlb : b.length ≤ maxLen)
    (ha : SR w w.heap.size 1 A a.length (iv a)) (hb : SR w w.heap.size 1 B b.length (iv b)) (hia : ∀ n ∈ a, I64 n) (hib : ∀ n ∈ b, I64 n) :
    Calls Try.prog 3 #[.slice A a.length c, .slice B b.length d] w fun e w' => e = .returned (.bool true) ∧ Below w.heap.size w w' := by
  by_cases h20 : 20 < a.length ∨ 20 < b.length
  · have h20' : (20 : Int) < (a.length : Int) ∨ (¬ (20 : Int) < (a.length : Int) ∧ (20 : Int) < (b.length : Int)) := by omega
    clear h20 ha hb hia hib hla hlb
    rcases h20' with h | ⟨h, h2⟩
    all_goals
      go_enter Try.func3, Try.ntmps3
      go_wp2_with fail
      refine (shAwake_any _).mono ?_
      rintro e w1 ⟨rfl, hb1⟩
      have HB := Lib.hid hb1
      clear hb1
      go_wp2_with fail
      go_ret
      exact ⟨rfl, HB.out⟩
  · have h1 : ¬ (20 : Int) < (a.length : Int) := by omega
    have h2 : ¬ (20 : Int) < (b.length : Int) := by omega
    have HS1 := Lib.hid (shSize_any A c a w hla ha hia)
    have HS2 := Lib.hid (shRefSize_any A c a w hla ha hia)
    have HB1 := Lib.hid (shBroad_any A c a B d b w hla hlb ha hb hia hib)
    have HB2 := Lib.hid (fun W (h : SR W W.heap.size 1 A a.length (iv a)) (h2 : SR W W.heap.size 1 B b.length (iv b)) => shRefBroad_any A c a B d b W hla hlb h h2 hia hib)
    have hal : a.length ≤ 20 := by omega
    have hbl : b.length ≤ 20 := by omega
    clear h20 hia hib hla hlb
    have hrl := bc_len (a := a) (b := b)
    have hab := And.intro ha hb
    have HAB := Lib.hid hab
    clear ha hb hab
    go_enter Try.func3, Try.ntmps3
    go_wp2_with fail
    refine HS1.out.mono ?_
    rintro e w1 ⟨rfl, rfl⟩
    go_wp2_with fail
    refine HS2.out.mono ?_
    rintro e w1 ⟨rfl, rfl⟩
    go_wp2_with fail
    refine HB1.out.mono ?_
    rintro e w1 ⟨v1, rfl, hown1, hb1⟩
    obtain ⟨A1, c1, rfl, -, -⟩ := own_form hown1
    have HR1 := Lib.hid (SR.of_own hown1)
    have HBL := Lib.hid hb1
    have HAB1 := Lib.hid (And.intro ((HAB.out.1.below hb1).more hb1.size) ((HAB.out.2.below hb1).more hb1.size))
    clear hown1 hb1
    go_wp2_with fail
    refine (HB2.out _ HAB1.out.1 HAB1.out.2).mono ?_
    rintro e w2 ⟨v2, rfl, hown2, hb2⟩
    obtain ⟨A2, c2, rfl, -, -⟩ := own_form hown2
    have HR2 := Lib.hid (SR.of_own hown2)
    have HR12 := Lib.hid ((HR1.out.below hb2).more hb2.size)
    have HAB2 := Lib.hid (And.intro ((HAB1.out.1.below hb2).more hb2.size) ((HAB1.out.2.below hb2).more hb2.size))
    have HBL2 := Lib.hid (step_below HBL.out hb2)
    clear hown2 hb2 HR1 HAB HAB1
    go_wp2_with fail
    refine (shAwake_any _).mono ?_
    rintro e w3 ⟨rfl, hb3⟩
    have HR23 := Lib.hid (And.intro ((HR12.out.below hb3).more hb3.size) ((HR2.out.below hb3).more hb3.size))
    have HAB3 := Lib.hid (And.intro ((HAB2.out.1.below hb3).more hb3.size) ((HAB2.out.2.below hb3).more hb3.size))
    have HBL3 := Lib.hid (step_below HBL2.out hb3)
    clear hb3 HR12 HR2 HAB2
    go_wp2_with fail
    refine (isInts_any A1 A2 c1 c2 (bc a b).1 (bc a b).1 w3 (by unfold maxLen; omega) HR23.out.1 HR23.out.2).mono ?_
    rintro e w4 ⟨rfl, hb4⟩
    have HAB4 := Lib.hid (And.intro ((HAB3.out.1.below hb4).more hb4.size) ((HAB3.out.2.below hb4).more hb4.size))
    have HBL4 := Lib.hid (step_below HBL3.out hb4)
    have hself : decide ((bc a b).1 = (bc a b).1) = true := decide_eq_true rfl
    rw [hself]
    clear hb4 HAB3 HR23 hself
    go_wp2_with fail
    refine (same_any A B c d a b w4 (by unfold maxLen; omega) HAB4.out.1 HAB4.out.2).mono ?_
    rintro e w5 ⟨rfl, hb5⟩
    have HAB5 := Lib.hid (And.intro ((HAB4.out.1.below hb5).more hb5.size) ((HAB4.out.2.below hb5).more hb5.size))
    have HBL5 := Lib.hid (step_below HBL4.out hb5)
    clear hb5 HAB4
    go_wp2_with fail
    refine (isInts_any A B c d a b w5 (by unfold maxLen; omega) HAB5.out.1 HAB5.out.2).mono ?_
    rintro e w6 ⟨rfl, hb6⟩
    have HBL6 := Lib.hid (step_below HBL5.out hb6)
    generalize decide (a = b) = q at *
    clear hb6 HAB5
    go_wp2_with fail
    go_ret
    exact ⟨by simp, HBL6.out⟩
end Go.Proofs.Ytiljgokhgihodaa
