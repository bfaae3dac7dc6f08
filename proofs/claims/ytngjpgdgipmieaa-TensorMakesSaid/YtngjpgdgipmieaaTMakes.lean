/- The walk of the law TensorMakes. -/
import Derived.Test.YtngjpgdgipmieaaTAwake
import Derived.Test.YtngjpgdgipmieaaTMakeMath
import Derived.Test.YtngjpgdgipmieaaTOpenTwo
import Derived.Test.YtngjpgdgipmieaaTFx
import Derived.Deep.CutRange
import Derived.Lib.QuietBelow
import Derived.BigQuiet
namespace Go.Proofs.Ytngjpgdgipmieaa
open Go.RowKit M6 M7 Go.Sort

/-- a row of the call's own stays where cells of an older block are written -/
theorem own_one_set {w : World} {B size n b i : Nat} {e : TypeId} {v : Value} {xs : List Value} (h : w.ownsRow B e size v n xs) (hb : b < B) (u : Value) : (w.setCell ⟨b, i, none⟩ u).ownsRow B e size v n xs :=
  h.kept (row := some b) ⟨rfl, rfl, rfl, by simp [World.setCell], fun k _ hk => Below.heap_setCell _ _ _ _ (fun e => hk (by simp [e]))⟩ (Or.inr (fun he => by have := (h.lt b he).1; omega))
theorem own_four_set {w : World} {B size n b : Nat} {e : TypeId} {v : Value} {xs : List Value} (h : w.ownsRow B e size v n xs) (hb : b < B) (v0 v1 v2 v3 : Value) : ((((w.setCell ⟨b, 0, none⟩ v0).setCell ⟨b, 1, none⟩ v1).setCell ⟨b, 2, none⟩ v2).setCell ⟨b, 3, none⟩ v3).ownsRow B e size v n xs :=
  own_one_set (own_one_set (own_one_set (own_one_set h hb v0) hb v1) hb v2) hb v3
theorem Bx.far1 {w W : World} {g b i : Nat} {cs : Array Value} {T : TypeId} (h : Bx w g cs T W) (hne : g ≠ b) (hb : w.heap.size ≤ b) (v : Value) : Bx w g cs T (W.setCell ⟨b, i, none⟩ v) :=
  ⟨heap_far h.1 v hne, by simpa [World.setCell] using h.2.1, h.2.2.setCell (p := ⟨b, i, none⟩) hb v⟩
theorem Bx.put {w W : World} {g : Nat} {a0 a1 a2 a3 : Value} {T : TypeId} (h : Bx w g #[a0, a1, a2, a3] T W) (hg : w.heap.size ≤ g) (v0 v1 v2 v3 : Value) : Bx w g #[v0, v1, v2, v3] T ((((W.setCell ⟨g, 0, none⟩ v0).setCell ⟨g, 1, none⟩ v1).setCell ⟨g, 2, none⟩ v2).setCell ⟨g, 3, none⟩ v3) := by
  have h1 := set4 h.1 v0 v1 v2 v3
  exact ⟨h1, blk_lt h1, (((h.2.2.setCell (p := ⟨g, 0, none⟩) hg v0).setCell (p := ⟨g, 1, none⟩) hg v1).setCell (p := ⟨g, 2, none⟩) hg v2).setCell (p := ⟨g, 3, none⟩) hg v3⟩
theorem put_flag8 (b : Bool) : (fb8 b).length = 8 ∧ ∀ W : World, Calls Try.prog 49 #[.bool b] W fun e w' => e = .returned (av (fb8 b)) ∧ Below W.heap.size W w' := put_flag b

theorem bool_at {w : World} {B : Nat} {A : Option Addr} {l : List Bool} (h : SR w B 1 A l.length (l.map fun p => Value.bool p)) {k : Nat} (hk : k < l.length) :
    ∃ b o, A = some ⟨b, o, none⟩ ∧ b < B ∧ w.cell? ⟨b, o + k, none⟩ = some (.bool l[k]) := cell_at h hk (by simp [hk])
theorem fz_inj {n m : Int} (hn : n.natAbs ≤ 1048576) (hm : m.natAbs ≤ 1048576) (h : fz n = fz m) : n = m := by
  apply Classical.byContradiction
  intro hne
  have h1 := fz_other (n := n) (m := m) (by omega) (by omega) hne
  rw [← h] at h1
  exact h1 (fz_self (by omega))
/-- a number's value; all of them may be -/
def cz (p : Int × Int) : Value := .complex .f64 (fz p.1) (fz p.2)
def Mays (z : List (Int × Int)) : Prop := ∀ p ∈ z, p.1.natAbs ≤ 1048576 ∧ p.2.natAbs ≤ 1048576
def enc (p : Int × Int) : Nat × Nat := (fz p.1, fz p.2)
def fq (z : List (Int × Int)) (q : Nat × Nat) : List UInt8 := ((z.find? fun p => enc p == q).map zb8).getD (List.replicate 8 0)
theorem num_at {w : World} {B : Nat} {A : Option Addr} {l : List (Int × Int)} (h : SR w B 1 A l.length (l.map fun p => Value.complex .f64 (fz p.1) (fz p.2))) {k : Nat} (hk : k < l.length) :
    ∃ b o, A = some ⟨b, o, none⟩ ∧ b < B ∧ w.cell? ⟨b, o + k, none⟩ = some (.complex .f64 (fz l[k].1) (fz l[k].2)) := cell_at h hk (by simp [hk])
theorem fq_at {z : List (Int × Int)} (hz : Mays z) {p : Int × Int} (hp : p ∈ z) : fq z (enc p) = zb8 p := by
  unfold fq
  cases hf : z.find? (fun r => enc r == enc p) with
  | none => have := List.find?_eq_none.1 hf p hp; simp at this
  | some r =>
    have h1 := List.find?_some hf
    have h2 := List.mem_of_find?_eq_some hf
    simp only [beq_iff_eq, enc, Prod.mk.injEq] at h1
    obtain rfl : r = p := Prod.ext (fz_inj (hz r h2).1 (hz p hp).1 h1.1) (fz_inj (hz r h2).2 (hz p hp).2 h1.2)
    rfl
theorem flat_congr {α β : Type} {f : β → List UInt8} {g : α → List UInt8} {e : α → β} (s : Nat) : ∀ l : List α, (∀ x ∈ l, f (e x) = g x) → flat f s (l.map e) = flat g s l
  | [], _ => rfl
  | x :: l, h => by
    have ih := flat_congr s l (fun y hy => h y (List.mem_cons_of_mem _ hy))
    unfold flat at *
    rw [List.map_cons, List.flatMap_cons, List.flatMap_cons, ih, h x List.mem_cons_self]
theorem put_num8 {z : List (Int × Int)} (hz : Mays z) : ∀ q ∈ z.map enc, (fq z q).length = 8 ∧ ∀ W : World, Calls Try.prog 53 #[Value.complex .f64 q.1 q.2] W fun e w' => e = .returned (av (fq z q)) ∧ Below W.heap.size W w' := by
  intro q hq
  obtain ⟨p, hp, rfl⟩ := List.mem_map.1 hq
  rw [fq_at hz hp]
  obtain ⟨h1, h2⟩ := hz p hp
  exact ⟨zb8_len p, fun W => putNum_any _ _ (bs (sz p.1) ++ bs (sz p.2)) 0 (zb8 p) W (by rw [ByteArray.size_append]; exact Nat.le_refl 8) (by simp [zb8, bs]; rfl) (fun W => gput_yes p.1 p.2 W h1 h2)⟩
theorem half_bad : wb 4602678819172646912 = false := by decide +kernel
def z8 : List UInt8 := List.replicate 8 0
theorem put_half : ∀ q ∈ [(4602678819172646912, 0)], z8.length = 8 ∧ ∀ W : World, Calls Try.prog 53 #[Value.complex .f64 q.1 q.2] W fun e w' => e = .returned (av z8) ∧ Below W.heap.size W w' := by
  intro q hq
  simp only [List.mem_singleton] at hq
  subst hq
  exact ⟨rfl, fun W => putNum_any _ _ ⟨#[]⟩ 17 z8 W (by decide) (by decide) (fun W => (gput_no _ _ W (by decide) (by decide) (.inl half_bad)).mono (by rintro e w2 ⟨rfl, rfl⟩; exact ⟨rfl, Below.refl _ _⟩))⟩
theorem z8_flat : tx (flat (fun _ : Nat × Nat => z8) 8 [(4602678819172646912, 0)]) = tx (l8 (us 0)) := by decide +kernel
theorem zero_zb : tx (l8 (us 0)) = tx (flat zb8 8 [(0, 0)]) := by decide +kernel

set_option maxRecDepth 100000 in
set_option maxHeartbeats 40000000 in
theorem makes_walk (nme : ByteArray) (A1 : Option Addr) (c1 : Nat) (l : List Int) (A2 : Option Addr) (c2 : Nat) (b : List Bool) (A3 : Option Addr) (c3 : Nat) (z : List (Int × Int)) (w : World) (hn : nme.size ≤ maxLen) (hl1 : l.length ≤ maxLen) (hl2 : b.length ≤ maxLen) (hl3 : z.length ≤ maxLen)
    (hs1 : SR w w.heap.size 1 A1 l.length (iv l)) (hs2 : SR w w.heap.size 1 A2 b.length (b.map Value.bool)) (hs3 : SR w w.heap.size 2 A3 z.length (pcs z)) (hi1 : ∀ n ∈ l, I64 n) (hi3 : ∀ p ∈ z, I64 p.1 ∧ I64 p.2) :
    Calls Try.prog 4 #[.string nme, .slice A1 l.length c1, .slice A2 b.length c2, .slice A3 z.length c3] w fun e w' => e = .returned (.bool true) ∧ Below w.heap.size w w' := by
  have HNM := Lib.hid (fun W => rname_any nme W hn)
  have HI1 := Lib.hid hi1
  have HI3 := Lib.hid hi3
  have HS1 := Lib.hid hs1
  have HS2 := Lib.hid hs2
  have HS3 := Lib.hid hs3
  unfold maxLen at hn hl1 hl2 hl3
  clear hi1 hi3 hs1 hs2 hs3
  have hcs : (100 < (l.length : Int)) ∨ (¬ 100 < (l.length : Int) ∧ 100 < (b.length : Int)) ∨ (¬ 100 < (l.length : Int) ∧ ¬ 100 < (b.length : Int) ∧ 100 < (z.length : Int)) ∨ (¬ 100 < (l.length : Int) ∧ ¬ 100 < (b.length : Int) ∧ ¬ 100 < (z.length : Int)) := by omega
  rcases hcs with g1 | ⟨g1, g2⟩ | ⟨g1, g2, g3⟩ | ⟨g1, g2, g3⟩
  rotate_left 3
  · cases hnm : nm nme
    · have HN := Lib.hid hnm
      clear hnm
      go_enter Try.func4, Try.ntmps4
      go_wp2_with fail
      refine (HNM.out _).mono ?_
      rintro e w1 ⟨rfl, rfl⟩
      rw [HN.out]
      go_wp2_with fail
      refine (tawake_any _).mono ?_
      rintro e w1 ⟨rfl, hb1⟩
      have HB := Lib.hid hb1
      clear hb1
      go_wp2_with fail
      go_ret
      exact ⟨rfl, HB.out⟩
    · have HN := Lib.hid hnm
      clear hnm
      go_enter Try.func4, Try.ntmps4
      go_wp2_with fail
      refine (HNM.out _).mono ?_
      rintro e w1 ⟨rfl, rfl⟩
      rw [HN.out]
      clear HNM
      go_wp2_with fail
      go_loopw [9, 11, 47] (fun s _ i wr => ∃ (k : Nat) (K : Int), i = .int .i64 K ∧ K = (k : Nat) ∧ k ≤ l.length ∧ s = .string (tx (flat nb8 8 (l.take k))) ∧ Below w.heap.size w wr) (fun _ _ i _ => l.length - (intOf i).toNat)
      case atStart => exact ⟨0, _, rfl, rfl, by omega, rfl, Below.refl _ _⟩
      case round =>
        obtain ⟨k, K, rfl, rfl, hk, rfl, hbw⟩ := hrel
        have HB := Lib.hid hbw
        by_cases hlt : k < l.length
        · obtain ⟨b1, o1, rfl, hb1, x0⟩ := int_at (HS1.out.below hbw) hlt
          have hsn := flat_snoc nb8 8 hlt
          have htk : (nb8 l[k]).take 8 = nb8 l[k] := rfl
          rw [htk] at hsn
          have hz1 : (tx (flat nb8 8 (l.take k))).size ≤ 1000 := by
            rw [tx_size, flat_len nb8 8 (fun _ _ => rfl) (by omega), List.length_take]; omega
          have hcat : tx (flat nb8 8 (l.take k)) ++ tx (nb8 l[k]) = tx (flat nb8 8 (l.take (k + 1))) := by rw [hsn, tx_append]
          have HC := Lib.hid hcat
          have HL := Lib.hid (fun W => laid8_any l[k] W)
          have hz2 : (tx (nb8 l[k])).size = 8 := rfl
          have HT := Lib.hid (show (⟨(l8 (us l[k])).toArray⟩ : ByteArray) = tx (nb8 l[k]) from rfl)
          rw [HT.out] at HL
          clear hcat hsn htk hbw HT
          generalize tx (nb8 l[k]) = T at *
          generalize l[k] = x at *
          generalize tx (flat nb8 8 (l.take k)) = S at *
          go_wp2_with fail
          refine (HL.out _).mono ?_
          rintro e w2 ⟨rfl, hb2⟩
          have HB2 := Lib.hid (step_below HB.out hb2)
          clear hb2
          go_wp2_with fail
          go_roundw
          case rel => exact ⟨k + 1, _, rfl, by omega, by omega, by rw [HC.out], HB2.out⟩
          case measure => simp [intOf]; omega
        · obtain rfl : k = l.length := by omega
          rw [List.take_length]
          clear hbw
          have hz1 : (tx (flat nb8 8 l)).size = l.length * 8 := by rw [tx_size, flat_len nb8 8 (fun _ _ => rfl) (by omega)]
          have hi8 := i8s_flat HI1.out
          generalize hD : tx (flat nb8 8 l) = D at *
          have hns := nm_size HN.out
          have HI8 := Lib.hid hi8
          have hD' : (⟨(flat nb8 8 l).toArray⟩ : ByteArray) = D := hD
          clear hi8 hD
          go_wp2_with fail
          have HSC1 := Lib.hid ((SR.lit wr [.int .i64 (l.length : Int)] 2 (size := 1) (n := 1) rfl).more (B' := (wr.alloc (.cells #[.int .i64 (l.length : Int)] 2)).heap.size) (by simp))
          have HBG : Hid (Bx w wr.heap.size #[.int .i64 (l.length : Int)] 2 (wr.alloc (.cells #[.int .i64 (l.length : Int)] 2))) := Lib.hid ⟨heap_alloc_new wr _, by simp, HB.out.alloc HB.out.size _⟩
          have HO := Lib.hid (ofInt_any nme (some ⟨wr.heap.size, 0, none⟩) 1 [(l.length : Int)] A1 c1 l nb8 (wr.alloc (.cells #[.int .i64 (l.length : Int)] 2)) (by simp) (by omega) HSC1.out ((HS1.out.below HBG.out.all).more HBG.out.all.size) (fun p _ => put_int p))
          rw [hD'] at HO
          clear HSC1 hD'
          refine HO.out.mono ?_
          rintro e w2 ⟨v, rfl, hown, hb2⟩
          obtain ⟨va, vc, rfl, -, -⟩ := own_form hown
          have HB2 := Lib.hid (HBG.out.below hb2)
          have hz2 := hb2.size
          rw [show (wr.alloc (.cells #[.int .i64 (l.length : Int)] 2)).heap.size = wr.heap.size + 1 by simp] at hown hz2
          simp only [List.length_cons, List.length_nil, Nat.zero_add] at hown
          clear hb2 HO HBG
          have hcb := (HB2.out.more (.cells #[.string nme, .int .i64 7, .slice va 1 vc, .string D] 25)).1
          have hx0 := cell_of_row _ _ 0 _ _ _ hcb
          have hxf := frozen_of_row _ _ 0 _ _ hcb
          have hxl : wr.heap.size < w2.heap.size := by omega
          have HX1 := Lib.hid ((HB2.out.next #[.string nme, .int .i64 7, .slice va 1 vc, .string D] 25).far1 (i := 0) (b := wr.heap.size) (by omega) HB.out.size (.int .i64 ((l.length : Int) + 1)))
          have HOW := Lib.hid (own_one_set (i := 0) (own_keep hown ((Below.refl _ _).alloc (Nat.le_refl _) (.cells #[.string nme, .int .i64 7, .slice va 1 vc, .string D] 25))) (Nat.lt_succ_self _) (.int .i64 ((l.length : Int) + 1)))
          have hgw : w.heap.size ≤ w2.heap.size := HB2.out.all.size
          clear hcb hown
          generalize hW : (w2.alloc (.cells #[.string nme, .int .i64 7, .slice va 1 vc, .string D] 25)).setCell ⟨wr.heap.size, 0, none⟩ (.int .i64 ((l.length : Int) + 1)) = W at HX1 HOW
          obtain ⟨y0, y1, y2, y3⟩ := HX1.out.four
          go_wp2_with fail
          have HT7 : Hid (Tok W ⟨nme, 7, [(l.length : Int)], D⟩ va) := Lib.hid ⟨by show nme.size ≤ _; omega, by show D.size ≤ _; omega, show (Lit.int .i64 7).wf = true by decide, SR.of_own HOW.out, by unfold maxLen; simp, fun n hn => by simp only [List.mem_singleton] at hn; subst hn; unfold I64; omega⟩
          have HC7 := Lib.hid (ck_row (nme := nme) (k := 7) (s := 8) (dims := [(l.length : Int)]) (n := l.length) (d := D) HN.out (by decide) (by decide) (sz_one (by omega)) (by omega) (fun j hj => elk_other (by decide) (by decide) _ _))
          have HI := Lib.hid (tints_any ⟨nme, 7, [(l.length : Int)], D⟩ va vc W HT7.out)
          rw [ec_ok HC7.out rfl] at HI
          clear hW hx0 hxf hxl HB2 HT7 HC7 y0 y1 y2 y3
          generalize w2.heap.size = g at *
          refine HI.out.mono ?_
          rintro e w3 ⟨v2, ys, rfl, hown2, hb3, he, -⟩
          obtain rfl : l = ys := ((he rfl).trans HI8.out).symm
          obtain ⟨vb, vd, rfl, -, -⟩ := own_form hown2
          have HX3 := Lib.hid (HX1.out.below hb3)
          have HV1 := Lib.hid (((SR.of_own HOW.out).below hb3).more hb3.size)
          have HV2 := Lib.hid (SR.of_own hown2)
          clear he HI8 HOW HX1 hown2 hb3 HI hz2
          obtain ⟨y0, y1, y2, y3⟩ := HX3.out.four
          go_wp2_with fail
          have HX3a := Lib.hid (HX3.out.more (.cells #[.int .i64 (l.length : Int)] 2))
          refine (isInts_any va (some ⟨w3.heap.size, 0, none⟩) vc 1 [(l.length : Int)] [(l.length : Int)] (w3.alloc (.cells #[.int .i64 (l.length : Int)] 2)) (by unfold maxLen; simp) ((HV1.out.below ((Below.refl _ _).alloc (Nat.le_refl _) _)).more (by simp)) ((SR.lit w3 [.int .i64 (l.length : Int)] 2 (size := 1) (n := 1) rfl).more (by simp))).mono ?_
          rintro e w4 ⟨rfl, hb4⟩
          rw [decide_eq_true (rfl : [(l.length : Int)] = [(l.length : Int)])]
          have HX4 := Lib.hid (HX3a.out.below hb4)
          have HV4 := Lib.hid (((HV2.out.below ((Below.refl _ _).alloc (Nat.le_refl _) (.cells #[.int .i64 (l.length : Int)] 2))).more (B' := (w3.alloc (.cells #[.int .i64 (l.length : Int)] 2)).heap.size) (by simp)).below hb4 |>.more hb4.size)
          clear hb4 HX3 HX3a HV1 HV2 y0 y1 y2 y3
          go_wp2_with fail
          refine (isInts_any vb A1 vd c1 l l w4 (by unfold maxLen; omega) HV4.out ((HS1.out.below HX4.out.all).more HX4.out.all.size)).mono ?_
          rintro e w5 ⟨rfl, hb5⟩
          rw [decide_eq_true (rfl : l = l)]
          have HX5 := Lib.hid (HX4.out.below hb5)
          clear hb5 HX4 HV4
          have hz2 : (tx (flat fb8 1 b)).size = b.length * 1 := by rw [tx_size, flat_len fb8 1 (fun _ _ => rfl) (by omega)]
          have HF2 := Lib.hid (fls_flat b)
          have HE2 := Lib.hid (fun j (hj : j < b.length) => elk_fb hj)
          generalize hD2 : tx (flat fb8 1 b) = D2 at *
          have hD2' : (⟨(flat fb8 1 b).toArray⟩ : ByteArray) = D2 := hD2
          clear hD2
          go_wp2_with fail
          have HXb := Lib.hid (HX5.out.more (.cells #[.int .i64 (b.length : Int)] 2))
          have HO2 := Lib.hid (ofFlag_any nme (some ⟨w5.heap.size, 0, none⟩) 1 [(b.length : Int)] A2 c2 b fb8 (w5.alloc (.cells #[.int .i64 (b.length : Int)] 2)) (by simp) (by omega) ((SR.lit w5 [.int .i64 (b.length : Int)] 2 (size := 1) (n := 1) rfl).more (by simp)) ((HS2.out.below HXb.out.all).more HXb.out.all.size) (fun p _ => put_flag8 p))
          rw [hD2'] at HO2
          have hgb := HXb.out.2.1
          clear hD2'
          refine HO2.out.mono ?_
          rintro e w6 ⟨v, rfl, hown, hb6⟩
          obtain ⟨va2, vc2, rfl, -, -⟩ := own_form hown
          simp only [List.length_cons, List.length_nil, Nat.zero_add] at hown
          have HX6 := Lib.hid (HXb.out.below hb6)
          have HX7 := Lib.hid (HX6.out.put hgw (.string nme) (.int .i64 9) (.slice va2 1 vc2) (.string D2))
          have HOW2 := Lib.hid (own_four_set hown hgb (.string nme) (.int .i64 9) (.slice va2 1 vc2) (.string D2))
          have hx6 := HX6.out.2.1
          have f0 := fun i => frozen_of_row w6 g i _ _ HX6.out.1
          obtain ⟨y0, y1, y2, y3⟩ := HX6.out.four
          generalize hW : (((w6.setCell ⟨g, 0, none⟩ (.string nme)).setCell ⟨g, 1, none⟩ (.int .i64 9)).setCell ⟨g, 2, none⟩ (.slice va2 1 vc2)).setCell ⟨g, 3, none⟩ (.string D2) = W7 at HX7 HOW2
          obtain ⟨x0, x1, x2, x3⟩ := HX7.out.four
          clear hown hb6 HXb HO2 hgb HX5
          go_wp2_with fail
          have HT9 : Hid (Tok W7 ⟨nme, 9, [(b.length : Int)], D2⟩ va2) := Lib.hid ⟨by show nme.size ≤ _; omega, by show D2.size ≤ _; omega, show (Lit.int .i64 9).wf = true by decide, SR.of_own HOW2.out, by unfold maxLen; simp, fun n hn => by simp only [List.mem_singleton] at hn; subst hn; unfold I64; omega⟩
          have HC9 := Lib.hid (ck_row (nme := nme) (k := 9) (s := 1) (dims := [(b.length : Int)]) (n := b.length) (d := D2) HN.out (by decide) (by decide) (sz_one (by omega)) (by omega) HE2.out)
          have HI := Lib.hid (tflags_any ⟨nme, 9, [(b.length : Int)], D2⟩ va2 vc2 W7 HT9.out)
          rw [ec_ok HC9.out rfl] at HI
          clear hW f0 hx6 HX6 HT9 HC9 HE2 y0 y1 y2 y3 x0 x1 x2 x3 HOW2
          refine HI.out.mono ?_
          rintro e w8 ⟨v3, ys, rfl, hown3, hb8, he, -⟩
          obtain rfl : b = ys := ((he rfl).trans HF2.out).symm
          obtain ⟨vb3, vd3, rfl, -, -⟩ := own_form hown3
          have HX8 := Lib.hid (HX7.out.below hb8)
          have HV3 := Lib.hid (SR.of_own hown3)
          clear he HF2 HX7 hown3 hb8 HI
          obtain ⟨y0, y1, y2, y3⟩ := HX8.out.four
          go_wp2_with fail
          clear y0 y1 y2 y3
          go_loopw [17, 134] (fun _ i wr => ∃ (k : Nat) (K : Int), i = .int .i64 K ∧ K = (k : Nat) ∧ k ≤ b.length ∧ Below w8.heap.size w8 wr) (fun _ i _ => b.length - (intOf i).toNat)
          case atStart => exact ⟨0, _, rfl, rfl, by omega, Below.refl _ _⟩
          case round =>
            obtain ⟨k, K, rfl, rfl, hk2, hbw⟩ := hrel
            have HBW := Lib.hid hbw
            clear hbw
            by_cases hlt2 : k < b.length
            · obtain ⟨b1, o1, rfl, hb1, x0⟩ := bool_at ((HS2.out.below HX8.out.all).below (HBW.out.mono HX8.out.all.size)) hlt2
              obtain ⟨b2, o2, rfl, hb2, x1⟩ := bool_at (HV3.out.below HBW.out) hlt2
              generalize b[k] = u at *
              go_wp2_with fail
              go_quiet (fail)
              go_wp2_with fail
              go_roundw
              case rel => exact ⟨k + 1, _, rfl, by omega, by omega, below_drewN HBW.out _⟩
              case measure => simp [intOf]; omega
            · obtain rfl : k = b.length := by omega
              have HX9 := Lib.hid (HX8.out.below HBW.out)
              clear HBW HX8 HV3
              go_wp2_with fail
              have hos := HX9.out.all.size
              generalize hD3 : (⟨#[]⟩ : ByteArray) = E at *
              have hE : E = tx (flat zb8 8 (z.take 0)) := hD3.symm
              clear hD3
              subst hE
              go_loopw [9, 18, 20, 21, 22, 149] (fun s v _ _ _ i wx => ∃ (k : Nat) (K : Int), i = .int .i64 K ∧ K = (k : Nat) ∧ k ≤ z.length ∧ s = .string (tx (flat zb8 8 (z.take k))) ∧ wx.ownsRow w.heap.size 50 1 v k ((z.take k).map cz) ∧ Mays (z.take k) ∧ Bx w g #[.string nme, .int .i64 9, .slice va2 1 vc2, .string D2] 25 wx) (fun _ _ _ _ _ i _ => z.length - (intOf i).toNat)
              case atStart => exact ⟨0, _, rfl, rfl, by omega, rfl, ⟨by simp, .inl ⟨rfl, rfl⟩⟩, by intro p hp; simp at hp, HX9.out⟩
              case round =>
                obtain ⟨k, K, rfl, rfl, hk3, rfl, hown, hal, hbx⟩ := hrel
                have HX := Lib.hid hbx
                have HA := Lib.hid hal
                clear hbx hal HX9
                by_cases hlt3 : k < z.length
                · have hbw := HX.out.all
                  obtain ⟨b1, o1, rfl, hb1, x0, x1⟩ := pair_at (HS3.out.below hbw) hlt3
                  have hsn := flat_snoc zb8 8 hlt3
                  have htk : (zb8 z[k]).take 8 = zb8 z[k] := rfl
                  rw [htk] at hsn
                  have hz3 : (tx (flat zb8 8 (z.take k))).size ≤ 1000 := by
                    rw [tx_size, flat_len zb8 8 (fun _ _ => rfl) (by omega), List.length_take]; omega
                  have hz4 : (tx (zb8 z[k])).size = 8 := rfl
                  have hcat : tx (flat zb8 8 (z.take k)) ++ tx (zb8 z[k]) = tx (flat zb8 8 (z.take (k + 1))) := by rw [hsn, tx_append]
                  have hmap : (z.map cz).take k ++ [Value.complex .f64 (fz z[k].1) (fz z[k].2)] = (z.map cz).take (k + 1) := by rw [← List.map_take, ← List.map_take, List.take_succ_eq_append_getElem hlt3, List.map_append]; rfl
                  have hall : z[k].1.natAbs ≤ 1048576 ∧ z[k].2.natAbs ≤ 1048576 → Mays (z.take (k + 1)) := by
                    intro h p hp
                    rw [List.take_succ_eq_append_getElem hlt3, List.mem_append] at hp
                    rcases hp with hp | hp
                    · exact HA.out p hp
                    · simp only [List.mem_singleton] at hp; subst hp; exact h
                  have hbs : bs (sz z[k].1) ++ bs (sz z[k].2) = tx (zb8 z[k]) := ByteArray.ext (by simp [zb8, bs])
                  have HC := Lib.hid hcat
                  have HM := Lib.hid hmap
                  have HL := Lib.hid hall
                  have HBS := Lib.hid hbs
                  have HOW3 := Lib.hid hown
                  have hx3 := hb1
                  clear hcat hsn htk hmap hall hbs hbw hown
                  generalize tx (zb8 z[k]) = T at *
                  generalize z[k] = p at *
                  obtain ⟨pa, pb⟩ := p
                  generalize tx (flat zb8 8 (z.take k)) = S at *
                  simp only at x0 x1
                  have HP := Lib.hid (Bx.start wr #[.int .i64 pa, .int .i64 pb] 52)
                  obtain ⟨q0, q1⟩ := (cells_of2 HP.out.1)
                  by_cases hm : pa.natAbs ≤ 1048576 ∧ pb.natAbs ≤ 1048576
                  · have HR1 := Lib.hid (fun W => rput_yes pa pb W hm.1 hm.2)
                    have HMY := Lib.hid (mayN_yes hm)
                    have HAL := Lib.hid (HL.out hm)
                    rw [HBS.out] at HR1
                    clear hm HL HA HBS
                    go_wp2_with fail
                    refine (rmay_any pa pb _).mono ?_
                    rintro e w9 ⟨rfl, hb9⟩
                    rw [HMY.out]
                    have HP9 := Lib.hid (HP.out.below hb9)
                    clear hb9 HP q0 q1 x0 x1
                    obtain ⟨q0, q1⟩ := cells_of2 HP9.out.1
                    go_wp2_with fail
                    refine (HR1.out _).mono ?_
                    rintro e w10 ⟨rfl, hb10⟩
                    have HP10 := Lib.hid (HP9.out.below hb10)
                    clear hb10 HP9 q0 q1
                    obtain ⟨q0, q1⟩ := cells_of2 HP10.out.1
                    go_wp2_with fail
                    refine (of_any pa pb _).mono ?_
                    rintro e w11 ⟨rfl, hb11⟩
                    have HP11 := Lib.hid (HP10.out.below hb11)
                    clear hb11 HP10 q0 q1
                    have hown := own_keep HOW3.out HP11.out.all
                    have HX11 := Lib.hid ((HX.out.below HP11.out.all).more (.cells #[Value.complex .f64 (fz pa) (fz pb)] 50))
                    have hne := own_far (hown.alloc (.cells #[Value.complex .f64 (fz pa) (fz pb)] 50)) HX11.out.1 (by decide)
                    have hzw := HX11.out.all.size
                    clear HP11 HOW3 HX
                    obtain ⟨i0, hi0, hz0, hz1', hz2'⟩ := info_parts infoNum
                    go_wp2_with (at_builtin; refine wpList_append_own _ rfl _ _ 43 rfl w.heap.size 50 i0 _ 1 16 Try.underlying43 hi0 hz0 hz1' hz2' rfl (by decide) _ _ _ rfl (hown.alloc _) ⟨w11.heap.size, 0, none⟩ 1 1 [Value.complex .f64 (fz pa) (fz pb)] rfl rfl (cells_new _ _ _) ?c2 ?c3 ?c4 ?c5 ?_)
                    case c2 => intro u hu; simp only [List.mem_singleton] at hu; subst hu; rfl
                    case c3 => unfold maxLen; omega
                    case c4 => omega
                    case c5 => exact hzw
                    intro v' w12 hown' hgrow _
                    rw [HM.out] at hown'
                    have HX12 := Lib.hid (HX11.out.grown hgrow hne (fun q hq => (hown.lt q hq).1))
                    have HO12 := Lib.hid hown'
                    clear hown' hgrow hne hown HX11
                    go_wp2_with fail
                    go_roundw
                    case rel => exact ⟨k + 1, _, rfl, by omega, by omega, by rw [HC.out], by first | exact HO12.out | (rw [List.map_take]; exact HO12.out), HAL.out, HX12.out⟩
                    case measure => simp [intOf]; omega
                  · have HMN := Lib.hid (mayN_no hm)
                    clear hm HL HA HBS HM HC HOW3
                    go_wp2_with fail
                    refine (rmay_any pa pb _).mono ?_
                    rintro e w9 ⟨rfl, hb9⟩
                    rw [HMN.out]
                    have HP9 := Lib.hid (HP.out.below hb9)
                    clear hb9 HP q0 q1 x0 x1
                    go_wp2_with fail
                    refine (tawake_any _).mono ?_
                    rintro e w10 ⟨rfl, hb10⟩
                    have HX10 := Lib.hid ((HX.out.below HP9.out.all).below hb10)
                    clear hb10
                    go_wp2_with fail
                    go_ret
                    exact ⟨rfl, HX10.out.all⟩
                · obtain rfl : k = z.length := by omega
                  rw [List.take_length] at *
                  obtain ⟨An, cn, rfl, -, -⟩ := own_form hown
                  have HOWN := Lib.hid hown
                  have hz3 : (tx (flat zb8 8 z)).size = z.length * 8 := by rw [tx_size, flat_len zb8 8 (fun _ _ => rfl) (by omega)]
                  have HE14 := Lib.hid (fun j (hj : j < z.length) => elk_zb HA.out hj)
                  have HNF := Lib.hid (fun ps h1 h2 => nums_flat (l := z) (ps := ps) HA.out h1 h2)
                  have hfl : flat (fq z) 8 (z.map enc) = flat zb8 8 z := flat_congr 8 z (fun p hp => fq_at HA.out hp)
                  generalize hD3 : tx (flat zb8 8 z) = D3 at *
                  have hD3' : (⟨(flat (fq z) 8 (z.map enc)).toArray⟩ : ByteArray) = D3 := by rw [hfl]; exact hD3
                  clear hD3 hfl hown
                  go_wp2_with fail
                  have HXc := Lib.hid (HX.out.more (.cells #[.int .i64 1, .int .i64 (z.length : Int)] 2))
                  have hsn : SR (wr.alloc (.cells #[.int .i64 1, .int .i64 (z.length : Int)] 2)) (wr.alloc (.cells #[.int .i64 1, .int .i64 (z.length : Int)] 2)).heap.size 1 An (z.map enc).length ((z.map enc).map fun p => Value.complex .f64 p.1 p.2) := by
                    rw [List.length_map, List.map_map]
                    exact SR.of_own (HOWN.out.alloc _)
                  have HO3 := Lib.hid (ofNum_any nme (some ⟨wr.heap.size, 0, none⟩) 2 [1, (z.length : Int)] An cn (z.map enc) (fq z) (wr.alloc (.cells #[.int .i64 1, .int .i64 (z.length : Int)] 2)) (by simp) (by rw [List.length_map]; omega) ((SR.lit wr [.int .i64 1, .int .i64 (z.length : Int)] 2 (size := 1) (n := 2) rfl).more (by simp)) hsn (put_num8 HA.out))
                  rw [hD3', List.length_map] at HO3
                  have hgb := HXc.out.2.1
                  clear hD3' hsn
                  refine HO3.out.mono ?_
                  rintro e w20 ⟨v, rfl, hown2, hb20⟩
                  obtain ⟨va3, vc3, rfl, -, -⟩ := own_form hown2
                  simp only [List.length_cons, List.length_nil, Nat.zero_add, Nat.reduceAdd] at hown2
                  have HX20 := Lib.hid (HXc.out.below hb20)
                  have hn20 := own_keep (HOWN.out.alloc (.cells #[.int .i64 1, .int .i64 (z.length : Int)] 2)) hb20
                  have HX21 := Lib.hid (HX20.out.put hgw (.string nme) (.int .i64 14) (.slice va3 2 vc3) (.string D3))
                  have HOW21 := Lib.hid (own_four_set hown2 hgb (.string nme) (.int .i64 14) (.slice va3 2 vc3) (.string D3))
                  have HN21 := Lib.hid (own_far_set hn20 (own_far hn20 HX20.out.1 (by decide)) (.string nme) (.int .i64 14) (.slice va3 2 vc3) (.string D3))
                  have hx20 := HX20.out.2.1
                  have f0 := fun i => frozen_of_row w20 g i _ _ HX20.out.1
                  obtain ⟨y0, y1, y2, y3⟩ := HX20.out.four
                  generalize hW : (((w20.setCell ⟨g, 0, none⟩ (.string nme)).setCell ⟨g, 1, none⟩ (.int .i64 14)).setCell ⟨g, 2, none⟩ (.slice va3 2 vc3)).setCell ⟨g, 3, none⟩ (.string D3) = W21 at HX21 HOW21 HN21
                  obtain ⟨x0, x1, x2, x3⟩ := HX21.out.four
                  clear hown2 hb20 HXc HO3 hgb HX hn20 HOWN
                  go_wp2_with fail
                  have HT14 : Hid (Tok W21 ⟨nme, 14, [1, (z.length : Int)], D3⟩ va3) := Lib.hid ⟨by show nme.size ≤ _; omega, by show D3.size ≤ _; omega, show (Lit.int .i64 14).wf = true by decide, SR.of_own HOW21.out, by unfold maxLen; simp, fun n hn => by simp only [List.mem_cons, List.not_mem_nil, or_false] at hn; unfold I64; omega⟩
                  have HC14 := Lib.hid (ck_row (nme := nme) (k := 14) (s := 8) (dims := [1, (z.length : Int)]) (n := z.length) (d := D3) HN.out (by decide) (by decide) (sz_two (by omega)) (by omega) HE14.out)
                  have HI := Lib.hid (tnums_any ⟨nme, 14, [1, (z.length : Int)], D3⟩ va3 vc3 W21 HT14.out)
                  rw [ec_ok HC14.out rfl] at HI
                  clear hW f0 hx20 HX20 HT14 HC14 HE14 y0 y1 y2 y3 x0 x1 x2 x3 HOW21
                  refine HI.out.mono ?_
                  rintro e w22 ⟨v5, ps, rfl, hown5, hb22, he, -⟩
                  obtain ⟨he1, he2⟩ := he rfl
                  obtain rfl : z = ps := (HNF.out ps he1 he2).symm
                  obtain ⟨vb5, vd5, rfl, -, -⟩ := own_form hown5
                  have HX22 := Lib.hid (HX21.out.below hb22)
                  have HV5 := Lib.hid (SR.of_own hown5)
                  have HN22 := Lib.hid (SR.of_own (own_keep HN21.out hb22))
                  clear he he1 he2 HNF HX21 hown5 hb22 HI HN21
                  obtain ⟨y0, y1, y2, y3⟩ := HX22.out.four
                  go_wp2_with fail
                  clear y0 y1 y2 y3
                  go_loopw [24, 204] (fun _ i wy => ∃ (k : Nat) (K : Int), i = .int .i64 K ∧ K = (k : Nat) ∧ k ≤ z.length ∧ Below w22.heap.size w22 wy) (fun _ i _ => z.length - (intOf i).toNat)
                  case atStart => exact ⟨0, _, rfl, rfl, by omega, Below.refl _ _⟩
                  case round =>
                    obtain ⟨k, K, rfl, rfl, hk4, hbw⟩ := hrel
                    have HBW := Lib.hid hbw
                    clear hbw
                    by_cases hlt4 : k < z.length
                    · obtain ⟨b1, o1, rfl, hb1, x0⟩ := num_at (HV5.out.below HBW.out) hlt4
                      obtain ⟨b2, o2, rfl, hb2, x1⟩ := num_at (HN22.out.below HBW.out) hlt4
                      have hmz := HA.out z[k] (List.getElem_mem _)
                      have hs1 := fz_self (n := z[k].1) (by omega)
                      have hs2 := fz_self (n := z[k].2) (by omega)
                      clear hmz
                      generalize fz z[k].1 = X at *
                      generalize fz z[k].2 = Y at *
                      go_wp2_with fail
                      go_quiet (fail)
                      go_wp2_with fail
                      go_roundw
                      case rel => exact ⟨k + 1, _, rfl, by omega, by omega, below_drewN HBW.out _⟩
                      case measure => simp [intOf]; omega
                    · obtain rfl : k = z.length := by omega
                      have HX23 := Lib.hid (HX22.out.below HBW.out)
                      clear HBW HX22 HV5 HN22
                      have hE8 : (⟨(flat (fun _ : Nat × Nat => z8) 8 [(4602678819172646912, 0)]).toArray⟩ : ByteArray) = ⟨(l8 (us 0)).toArray⟩ := z8_flat
                      have hz0 : (⟨(l8 (us 0)).toArray⟩ : ByteArray) = tx (flat zb8 8 [(0, 0)]) := zero_zb
                      have hc8 := ck_row (nme := nme) (k := 14) (s := 8) (dims := []) (n := 1) (d := ⟨(l8 (us 0)).toArray⟩) HN.out (by decide) (by decide) sz_none rfl (fun j hj => by rw [hz0]; exact elk_zb (l := [(0, 0)]) (by simp) (by simpa using hj))
                      have hs8 : (⟨(l8 (us 0)).toArray⟩ : ByteArray).size = 8 := rfl
                      have HL := Lib.hid (fun W => laid8_any 0 W)
                      clear hz0
                      generalize (⟨(l8 (us 0)).toArray⟩ : ByteArray) = E8 at *
                      have HC8 := Lib.hid hc8
                      have HE8 := Lib.hid hE8
                      clear hc8 hE8
                      go_wp2_with fail
                      have HXd := Lib.hid (HX23.out.more (.cells #[.complex .f64 4602678819172646912 0] 50))
                      have HO4 := Lib.hid (ofNum_any nme none 0 [] (some ⟨wr.heap.size, 0, none⟩) 1 [(4602678819172646912, 0)] (fun _ => z8) (wr.alloc (.cells #[.complex .f64 4602678819172646912 0] 50)) (by simp) (by simp) (SR.empty _ _ _ _) ((SR.lit wr [.complex .f64 4602678819172646912 0] 50 (size := 1) (n := 1) rfl).more (by simp)) put_half)
                      rw [HE8.out] at HO4
                      refine HO4.out.mono ?_
                      rintro e w30 ⟨v, rfl, hown6, hb30⟩
                      obtain ⟨va6, vc6, rfl, -, -⟩ := own_form hown6
                      simp only [List.length_nil] at hown6
                      have HY := Lib.hid ((HXd.out.below hb30).next #[.string nme, .int .i64 14, .slice va6 0 vc6, .string E8] 25)
                      have HT : Hid (Tok (w30.alloc (.cells #[.string nme, .int .i64 14, .slice va6 0 vc6, .string E8] 25)) ⟨nme, 14, [], E8⟩ va6) := Lib.hid ⟨by show nme.size ≤ _; omega, by show E8.size ≤ _; omega, show (Lit.int .i64 14).wf = true by decide, SR.of_own (hown6.alloc _), by unfold maxLen; simp, by simp⟩
                      clear hown6 hb30 HXd HO4 HX23 HE8
                      go_upto_region 47 with fail
                      generalize w30.alloc (.cells #[.string nme, .int .i64 14, .slice va6 0 vc6, .string E8] 25) = w31 at *
                      have HK1 := Lib.hid (fun W => tawake_any W)
                      have HK3 := Lib.hid (fun (W : World) (h : Below w31.heap.size w31 W) => tcheck_any ⟨nme, 14, [], E8⟩ va6 vc6 W (HT.out.below h))
                      rw [HC8.out] at HK3
                      obtain ⟨a0, a1, a2, a3⟩ := HY.out.four
                      have k0 := fun d os => cell_regrown a0 d os
                      have k1 := fun d os => cell_regrown a1 d os
                      have k2 := fun d os => cell_regrown a2 d os
                      have k3 := fun d os => cell_regrown a3 d os
                      refine wp_region_quiet_below (by kernel_rfl) (by kernel_rfl) ?_
                      repeat (go_big_quiet_step ((first
                        | (go_at_call 5; exact Calls.regrown_of (HK1.out _))
                        | (go_at_call 22; exact Calls.regrown_of (HL.out _))
                        | (go_at_call 8; exact Calls.regrown_of (HK3.out _ (below_regrown _ _ _))))))
                      refine wpQuiet_nil ?_
                      rintro w32 ⟨p, rfl⟩
                      have HA2 := Lib.hid (HY.out.below (below_regrown w31 p.d p.os))
                      go_wp2_with fail
                      go_ret
                      exact ⟨rfl, HA2.out.all⟩
  all_goals
    go_enter Try.func4, Try.ntmps4
    go_wp2_with fail
    refine (tawake_any _).mono ?_
    rintro e w1 ⟨rfl, hb1⟩
    have HB := Lib.hid hb1
    clear hb1
    go_wp2_with fail
    go_ret
    exact ⟨rfl, HB.out⟩
end Go.Proofs.Ytngjpgdgipmieaa
