/- The walk of the law ShapeTurns. -/
import Derived.Test.YtiljgokhgihodaaSTells
namespace Go.Proofs.Ytiljgokhgihodaa
open Go.RowKit M5

theorem sr_step {w w2 : World} {size n : Nat} {A : Option Addr} {xs : List Value} (h : SR w w.heap.size size A n xs) (hb : Below w.heap.size w w2) : SR w2 w2.heap.size size A n xs := (h.below hb).more hb.size
theorem bc_in {a b : List Int} : ∀ n ∈ (bc a b).1, I64 n := by
  by_cases h : (bc a b).2 = 0
  · obtain ⟨h1, h2, _, _, h5⟩ := bc_ok h
    rw [h5]; exact th_in h1 h2
  · rw [bc_nil h]; simp
theorem bc_self_ok {a : List Int} (h : Shp a) : bc a a = (a, 0) := by
  have := bc_of h h (fun i _ => .inl rfl) (by rw [th_self]; exact h)
  rwa [th_self] at this
/-- what three rows read as, all at once -/
def Three (w : World) (A : Option Addr) (a : List Int) (B : Option Addr) (b : List Int) (C : Option Addr) (c : List Int) : Prop :=
  SR w w.heap.size 1 A a.length (iv a) ∧ SR w w.heap.size 1 B b.length (iv b) ∧ SR w w.heap.size 1 C c.length (iv c)
theorem Three.step {w w2 : World} {A B C : Option Addr} {a b c : List Int} (h : Three w A a B b C c) (hb : Below w.heap.size w w2) : Three w2 A a B b C c := ⟨sr_step h.1 hb, sr_step h.2.1 hb, sr_step h.2.2 hb⟩

set_option maxRecDepth 100000 in
theorem turns_long (A : Option Addr) (ac : Nat) (a : List Int) (B : Option Addr) (bcap : Nat) (b : List Int) (C : Option Addr) (cc : Nat) (c : List Int) (w : World) (h20 : 20 < a.length ∨ 20 < b.length ∨ 20 < c.length) :
    Calls Try.prog 5 #[.slice A a.length ac, .slice B b.length bcap, .slice C c.length cc] w fun e w' => e = .returned (.bool true) ∧ Below w.heap.size w w' := by
  have h20' : (20 : Int) < (a.length : Int) ∨ (¬ (20 : Int) < (a.length : Int) ∧ (20 : Int) < (b.length : Int)) ∨ (¬ (20 : Int) < (a.length : Int) ∧ ¬ (20 : Int) < (b.length : Int) ∧ (20 : Int) < (c.length : Int)) := by omega
  clear h20
  rcases h20' with h | ⟨h, h2⟩ | ⟨h, h2, h3⟩
  all_goals
    go_enter Try.func5, Try.ntmps5
    go_wp2_with fail
    refine (shAwake_any _).mono ?_
    rintro e w1 ⟨rfl, hb1⟩
    have HB := Lib.hid hb1
    clear hb1
    go_wp2_with fail
    go_ret
    exact ⟨rfl, HB.out⟩

set_option maxRecDepth 100000 in
theorem turns_no (A : Option Addr) (ac : Nat) (a : List Int) (B : Option Addr) (bcap : Nat) (b : List Int) (C : Option Addr) (cc : Nat) (c : List Int) (w : World) (ha20 : a.length ≤ 20) (hb20 : b.length ≤ 20) (hc20 : c.length ≤ 20)
    (h3 : Three w A a B b C c) (hia : ∀ n ∈ a, I64 n) (hib : ∀ n ∈ b, I64 n) (hic : ∀ n ∈ c, I64 n) (h0 : (bc a b).2 ≠ 0) :
    Calls Try.prog 5 #[.slice A a.length ac, .slice B b.length bcap, .slice C c.length cc] w fun e w' => e = .returned (.bool true) ∧ Below w.heap.size w w' := by
  have h1 : ¬ (20 : Int) < (a.length : Int) := by omega
  have h2 : ¬ (20 : Int) < (b.length : Int) := by omega
  have h4 : ¬ (20 : Int) < (c.length : Int) := by omega
  have hm : ∀ l : List Int, l.length ≤ 20 → l.length ≤ maxLen := fun l h => by unfold maxLen; omega
  have HM := Lib.hid hm
  have HIA := Lib.hid hia
  have HIB := Lib.hid hib
  have HIC := Lib.hid hic
  have HX := Lib.hid (bc_in (a := a) (b := b))
  have hxl := bc_len (a := a) (b := b)
  clear hm hia hib hic
  have hcm := bc_comm a b
  have h0b : (bc b a).2 ≠ 0 := fun h => h0 (hcm.1.2 h)
  have e1 := bc_nil h0
  have e2 := bc_nil h0b
  have t1 : (((bc a b).2 : Int) == 0) = false := by simp; omega
  have t2 : (((bc b a).2 : Int) == 0) = false := by simp; omega
  have t3 : (((bc a b).2 : Int) != 0) = true := by simp; omega
  have HSELF := Lib.hid (bc_self (a := a))
  have HB1 := Lib.hid (shBroad_any A ac a B bcap b w (HM.out _ ha20) (HM.out _ hb20) h3.1 h3.2.1 HIA.out HIB.out)
  have H3 := Lib.hid h3
  have hq : bc a b = ([], (bc a b).2) := by rw [← e1]
  have hq2 : bc b a = ([], (bc b a).2) := by rw [← e2]
  have HQ2 := Lib.hid hq2
  rw [hq] at HB1
  clear hcm h0 h0b h3 e1 e2 hq hq2 hxl HX
  generalize (bc a b).2 = k1 at *
  generalize (bc b a).2 = k2 at *
  go_enter Try.func5, Try.ntmps5
  go_wp2_with fail
  refine HB1.out.mono ?_
  rintro e w1 ⟨v1, rfl, hown1, hb1⟩
  obtain ⟨A1, c1, rfl, -, -⟩ := own_form hown1
  have HR1 := Lib.hid (SR.of_own hown1)
  have HBL1 := Lib.hid hb1
  have H31 := Lib.hid (H3.out.step hb1)
  clear hown1 hb1 HB1 H3
  go_wp2_with fail
  refine (shBroad_any B bcap b A ac a w1 (HM.out _ hb20) (HM.out _ ha20) H31.out.2.1 H31.out.1 HIB.out HIA.out).mono ?_
  rw [HQ2.out]
  rintro e w2 ⟨v2, rfl, hown2, hb2⟩
  obtain ⟨A2, c2, rfl, -, -⟩ := own_form hown2
  have HR2 := Lib.hid (SR.of_own hown2)
  have HR12 := Lib.hid (sr_step HR1.out hb2)
  have HBL2 := Lib.hid (step_below HBL1.out hb2)
  have H32 := Lib.hid (H31.out.step hb2)
  clear hown2 hb2 HR1 H31 HBL1
  go_wp2_with fail
  refine (isInts_any A1 A2 c1 c2 [] [] w2 (by simp) HR12.out HR2.out).mono ?_
  rintro e w3 ⟨rfl, hb3⟩
  rw [decide_eq_true rfl]
  have HBL3 := Lib.hid (step_below HBL2.out hb3)
  have H33 := Lib.hid (H32.out.step hb3)
  clear hb3 HR2 HR12 HBL2 H32
  go_wp2_with fail
  refine (shBroad_any A ac a A ac a w3 (HM.out _ ha20) (HM.out _ ha20) H33.out.1 H33.out.1 HIA.out HIA.out).mono ?_
  rintro e w4 ⟨v4, rfl, hown4, hb4⟩
  obtain ⟨A4, c4, rfl, -, -⟩ := own_form hown4
  have HR4 := Lib.hid (SR.of_own hown4)
  have HBL4 := Lib.hid (step_below HBL3.out hb4)
  have H34 := Lib.hid (H33.out.step hb4)
  clear hown4 hb4 HBL3 H33
  by_cases hg : (bc a a).2 = 0
  · have HE := Lib.hid (HSELF.out hg)
    have HI := Lib.hid (isInts_any A4 A c4 ac (bc a a).1 a w4 (HM.out _ ha20) HR4.out H34.out.1)
    rw [hg]
    clear hg HSELF
    go_wp2_with fail
    refine HI.out.mono ?_
    rintro e w5 ⟨rfl, hb5⟩
    rw [decide_eq_true HE.out]
    have HBL5 := Lib.hid (step_below HBL4.out hb5)
    clear hb5 HR4 HBL4 H34 HE HI
    go_wp2_with fail
    refine (shAwake_any _).mono ?_
    rintro e w6 ⟨rfl, hb6⟩
    have HBL6 := Lib.hid (step_below HBL5.out hb6)
    clear hb6
    go_wp2_with fail
    go_ret
    exact ⟨rfl, HBL6.out⟩
  · have hg1 : (((bc a a).2 : Int) == 0) = false := by simp; omega
    generalize (bc a a).2 = k3 at *
    clear hg HSELF HR4 H34
    go_wp2_with fail
    refine (shAwake_any _).mono ?_
    rintro e w6 ⟨rfl, hb6⟩
    have HBL6 := Lib.hid (step_below HBL4.out hb6)
    clear hb6
    go_wp2_with fail
    go_ret
    exact ⟨rfl, HBL6.out⟩

set_option maxRecDepth 100000 in
theorem turns_yes (A : Option Addr) (ac : Nat) (a : List Int) (B : Option Addr) (bcap : Nat) (b : List Int) (C : Option Addr) (cc : Nat) (c : List Int) (w : World) (ha20 : a.length ≤ 20) (hb20 : b.length ≤ 20) (hc20 : c.length ≤ 20)
    (h3 : Three w A a B b C c) (hia : ∀ n ∈ a, I64 n) (hib : ∀ n ∈ b, I64 n) (hic : ∀ n ∈ c, I64 n) (h0 : (bc a b).2 = 0) :
    Calls Try.prog 5 #[.slice A a.length ac, .slice B b.length bcap, .slice C c.length cc] w fun e w' => e = .returned (.bool true) ∧ Below w.heap.size w w' := by
  have h1 : ¬ (20 : Int) < (a.length : Int) := by omega
  have h2 : ¬ (20 : Int) < (b.length : Int) := by omega
  have h4 : ¬ (20 : Int) < (c.length : Int) := by omega
  have hm : ∀ l : List Int, l.length ≤ 20 → l.length ≤ maxLen := fun l h => by unfold maxLen; omega
  have HM := Lib.hid hm
  have HIA := Lib.hid hia
  have HIB := Lib.hid hib
  have HIC := Lib.hid hic
  have HX := Lib.hid (bc_in (a := a) (b := b))
  have hxl := bc_len (a := a) (b := b)
  clear hm hia hib hic
  have hq : bc a b = ((bc a b).1, 0) := by rw [← h0]
  have hq2 : bc b a = ((bc a b).1, 0) := by rw [bc_comm_ok h0]; exact hq
  have HQ2 := Lib.hid hq2
  have HSELF := Lib.hid (bc_self_ok (bc_ok h0).1)
  have HAS := Lib.hid (fun h2 h3 => bc_assoc (a := a) (b := b) (c := c) h0 h2 h3)
  have HB1 := Lib.hid (shBroad_any A ac a B bcap b w (HM.out _ ha20) (HM.out _ hb20) h3.1 h3.2.1 HIA.out HIB.out)
  have H3 := Lib.hid h3
  rw [hq] at HB1
  clear h0 h3 hq hq2
  generalize (bc a b).1 = x at *
  go_enter Try.func5, Try.ntmps5
  go_wp2_with fail
  refine HB1.out.mono ?_
  rintro e w1 ⟨v1, rfl, hown1, hb1⟩
  obtain ⟨A1, c1, rfl, -, -⟩ := own_form hown1
  have HR1 := Lib.hid (SR.of_own hown1)
  have HBL1 := Lib.hid hb1
  have H31 := Lib.hid (H3.out.step hb1)
  clear hown1 hb1 HB1 H3
  go_wp2_with fail
  refine (shBroad_any B bcap b A ac a w1 (HM.out _ hb20) (HM.out _ ha20) H31.out.2.1 H31.out.1 HIB.out HIA.out).mono ?_
  rw [HQ2.out]
  rintro e w2 ⟨v2, rfl, hown2, hb2⟩
  obtain ⟨A2, c2, rfl, -, -⟩ := own_form hown2
  have HR2 := Lib.hid (SR.of_own hown2)
  have HR12 := Lib.hid (sr_step HR1.out hb2)
  have HBL2 := Lib.hid (step_below HBL1.out hb2)
  have H32 := Lib.hid (H31.out.step hb2)
  clear hown2 hb2 HR1 H31 HBL1
  go_wp2_with fail
  refine (isInts_any A1 A2 c1 c2 x x w2 (HM.out _ (by omega)) HR12.out HR2.out).mono ?_
  rintro e w3 ⟨rfl, hb3⟩
  rw [decide_eq_true rfl]
  have HR13 := Lib.hid (sr_step HR12.out hb3)
  have HBL3 := Lib.hid (step_below HBL2.out hb3)
  have H33 := Lib.hid (H32.out.step hb3)
  clear hb3 HR2 HR12 HBL2 H32
  go_wp2_with fail
  refine (shBroad_any A ac a A ac a w3 (HM.out _ ha20) (HM.out _ ha20) H33.out.1 H33.out.1 HIA.out HIA.out).mono ?_
  rw [HSELF.out]
  rintro e w4 ⟨v4, rfl, hown4, hb4⟩
  obtain ⟨A4, c4, rfl, -, -⟩ := own_form hown4
  have HR4 := Lib.hid (SR.of_own hown4)
  have HR14 := Lib.hid (sr_step HR13.out hb4)
  have HBL4 := Lib.hid (step_below HBL3.out hb4)
  have H34 := Lib.hid (H33.out.step hb4)
  clear hown4 hb4 HBL3 H33 HR13
  go_wp2_with fail
  refine (isInts_any A4 A c4 ac a a w4 (HM.out _ ha20) HR4.out H34.out.1).mono ?_
  rintro e w5 ⟨rfl, hb5⟩
  rw [decide_eq_true rfl]
  have HR15 := Lib.hid (sr_step HR14.out hb5)
  have HBL5 := Lib.hid (step_below HBL4.out hb5)
  have H35 := Lib.hid (H34.out.step hb5)
  clear hb5 HR4 HBL4 H34 HR14
  go_wp2_with fail
  refine (shBroad_any A1 c1 x C cc c w5 (HM.out _ (by omega)) (HM.out _ hc20) HR15.out H35.out.2.2 HX.out HIC.out).mono ?_
  rintro e w6 ⟨v6, rfl, hown6, hb6⟩
  obtain ⟨A6, c6, rfl, -, -⟩ := own_form hown6
  have HR6 := Lib.hid (SR.of_own hown6)
  have HBL6 := Lib.hid (step_below HBL5.out hb6)
  have H36 := Lib.hid (H35.out.step hb6)
  clear hown6 hb6 HBL5 H35 HR15
  go_wp2_with fail
  refine (shBroad_any B bcap b C cc c w6 (HM.out _ hb20) (HM.out _ hc20) H36.out.2.1 H36.out.2.2 HIB.out HIC.out).mono ?_
  rintro e w7 ⟨v7, rfl, hown7, hb7⟩
  obtain ⟨A7, c7, rfl, -, -⟩ := own_form hown7
  have HR7 := Lib.hid (SR.of_own hown7)
  have HR67 := Lib.hid (sr_step HR6.out hb7)
  have HBL7 := Lib.hid (step_below HBL6.out hb7)
  have H37 := Lib.hid (H36.out.step hb7)
  clear hown7 hb7 HBL6 H36 HR6
  have hml := bc_len (a := b) (b := c)
  have hll := bc_len (a := x) (b := c)
  by_cases hg : (bc x c).2 = 0
  · by_cases hh : (bc b c).2 = 0
    · have HE := Lib.hid (HAS.out hg hh)
      have hqx : bc x c = ((bc x c).1, 0) := by rw [← hg]
      have HQX := Lib.hid hqx
      rw [hg, hh]
      have HU := Lib.hid (bc_in (a := b) (b := c))
      clear hg hh HAS hqx
      generalize (bc b c).1 = u at *
      go_wp2_with fail
      refine (shBroad_any A ac a A7 c7 u w7 (HM.out _ ha20) (HM.out _ (by omega)) H37.out.1 HR7.out HIA.out HU.out).mono ?_
      rw [HE.out, HQX.out]
      rintro e w8 ⟨v8, rfl, hown8, hb8⟩
      obtain ⟨A8, c8, rfl, -, -⟩ := own_form hown8
      have HR8 := Lib.hid (SR.of_own hown8)
      have HR68 := Lib.hid (sr_step HR67.out hb8)
      have HBL8 := Lib.hid (step_below HBL7.out hb8)
      clear hown8 hb8 HBL7 H37 HR67 HR7 HE HQX
      generalize (bc x c).1 = l at *
      go_wp2_with fail
      refine (shAwake_any _).mono ?_
      rintro e w9 ⟨rfl, hb9⟩
      have HR69 := Lib.hid (sr_step HR68.out hb9)
      have HR89 := Lib.hid (sr_step HR8.out hb9)
      have HBL9 := Lib.hid (step_below HBL8.out hb9)
      clear hb9 HR68 HR8 HBL8
      go_wp2_with fail
      refine (isInts_any A6 A8 c6 c8 l l w9 (HM.out _ (by omega)) HR69.out HR89.out).mono ?_
      rintro e w10 ⟨rfl, hb10⟩
      rw [decide_eq_true rfl]
      have HBL10 := Lib.hid (step_below HBL9.out hb10)
      clear hb10 HR69 HR89 HBL9
      go_wp2_with fail
      go_ret
      exact ⟨rfl, HBL10.out⟩
    · have hh1 : (((bc b c).2 : Int) != 0) = true := by simp; omega
      rw [hg]
      generalize (bc b c).2 = k3 at *
      clear hg hh HAS HR7 HR67 H37
      go_wp2_with fail
      refine (shAwake_any _).mono ?_
      rintro e w9 ⟨rfl, hb9⟩
      have HBL9 := Lib.hid (step_below HBL7.out hb9)
      clear hb9
      go_wp2_with fail
      go_ret
      exact ⟨rfl, HBL9.out⟩
  · have hg1 : (((bc x c).2 : Int) != 0) = true := by simp; omega
    generalize (bc x c).2 = k3 at *
    clear hg HAS HR7 HR67 H37
    go_wp2_with fail
    refine (shAwake_any _).mono ?_
    rintro e w9 ⟨rfl, hb9⟩
    have HBL9 := Lib.hid (step_below HBL7.out hb9)
    clear hb9
    go_wp2_with fail
    go_ret
    exact ⟨rfl, HBL9.out⟩

theorem shTurns_walk (A : Option Addr) (ac : Nat) (a : List Int) (B : Option Addr) (bcap : Nat) (b : List Int) (C : Option Addr) (cc : Nat) (c : List Int) (w : World)
    (ha : SR w w.heap.size 1 A a.length (iv a)) (hb : SR w w.heap.size 1 B b.length (iv b)) (hc : SR w w.heap.size 1 C c.length (iv c)) (hia : ∀ n ∈ a, I64 n) (hib : ∀ n ∈ b, I64 n) (hic : ∀ n ∈ c, I64 n) :
    Calls Try.prog 5 #[.slice A a.length ac, .slice B b.length bcap, .slice C c.length cc] w fun e w' => e = .returned (.bool true) ∧ Below w.heap.size w w' := by
  by_cases h20 : 20 < a.length ∨ 20 < b.length ∨ 20 < c.length
  · exact turns_long A ac a B bcap b C cc c w h20
  · by_cases h0 : (bc a b).2 = 0
    · exact turns_yes A ac a B bcap b C cc c w (by omega) (by omega) (by omega) ⟨ha, hb, hc⟩ hia hib hic h0
    · exact turns_no A ac a B bcap b C cc c w (by omega) (by omega) (by omega) ⟨ha, hb, hc⟩ hia hib hic h0
end Go.Proofs.Ytiljgokhgihodaa
