/- The law ModelFinds (agatelaw10): for every input that can be read the call returns true, and its arguments read behind it as before. -/
import Derived.Test.YtpdpimchchfocaaMOf
import Derived.Test.YtpdpimchchfocaaMEach
import Derived.Test.YtpdpimchchfocaaMAwake
import Derived.Deep.CutRange
import Derived.Test.YtpdpimchchfocaaTCheck
import Derived.Test.YtpdpimchchfocaaLift
import Derived.SizedLaws
/- The walk of the law ModelFinds: attributes, rows, numbers and tensors of a name. -/
namespace Go.Proofs.Ytpdpimchchfocaa
open Go.RowKit M7 M10 Go.Sort

theorem at_cases (l : List Att) (s : ByteArray) : (atB l s = false ∧ atA l s = zA ∧ fndI (fun a => decide (a.name = s)) l = -1) ∨
    ∃ (k : Nat) (h : k < l.length), atB l s = true ∧ atA l s = l[k] ∧ fndI (fun a => decide (a.name = s)) l = (k : Int) := by
  unfold atB atA atI fndI
  by_cases h : l.findIdx (fun a => decide (a.name = s)) < l.length
  · right
    exact ⟨_, h, by simpa using h, by rw [List.getElem?_eq_getElem h]; rfl, by rw [if_pos h]⟩
  · left
    exact ⟨by simpa using h, by rw [List.getElem?_eq_none (by omega)]; rfl, by rw [if_neg h]⟩
theorem it_cases (l : List Ten) (s : ByteArray) : (itB l s = false ∧ itT l s = zT ∧ fndI (fun a => decide (a.name = s)) l = -1) ∨
    ∃ (k : Nat) (h : k < l.length), itB l s = true ∧ itT l s = l[k] ∧ fndI (fun a => decide (a.name = s)) l = (k : Int) := by
  unfold itB itT itI fndI
  by_cases h : l.findIdx (fun a => decide (a.name = s)) < l.length
  · right
    exact ⟨_, h, by simpa using h, by rw [List.getElem?_eq_getElem h]; rfl, by rw [if_pos h]⟩
  · left
    exact ⟨by simpa using h, by rw [List.getElem?_eq_none (by omega)]; rfl, by rw [if_neg h]⟩
section
variable {u : Nod} {s : ByteArray} {o : Int}
/-- there is none of the name -/
theorem find_none (hB : atB u.attrs s = false) (hA : atA u.attrs s = zA) (cn : List Value) (W : World) (h : NodAt W.heap.size W u cn) :
    (Calls Try.prog 11 #[.agg cn.toArray, .string s] W fun e w' => ∃ A c, e = .returned (.tuple #[.agg #[.string ⟨#[]⟩, .bool false, .int .i64 0, .slice A 0 c], .bool false]) ∧ Below W.heap.size W w') ∧
    (Calls Try.prog 14 #[.agg cn.toArray, .string s] W fun e w' => ∃ A c, e = .returned (.tuple #[.slice A 0 c, .bool false]) ∧ Below W.heap.size W w') ∧
    (Calls Try.prog 15 #[.agg cn.toArray, .string s, .int .i64 o] W fun e w' => e = .returned (.int .i64 o) ∧ Below W.heap.size W w') := by
  refine ⟨(Attr_any u cn s W h).mono ?_, (Row_any u cn s W h).mono ?_, (One_any u cn s o W h).mono ?_⟩
  · rintro e w' ⟨ca, rfl, ho, hb⟩
    rw [hA] at ho
    obtain ⟨A, c, rfl⟩ := ho.shape
    exact ⟨A, c, by rw [hB]; rfl, hb⟩
  · rintro e w' ⟨v, rfl, ho, hb⟩
    have hr : rowB u.attrs s = false := by unfold rowB; rw [hB]; rfl
    have hl : rowL u.attrs s = [] := by unfold rowL; rw [hr]; rfl
    rw [hl] at ho
    obtain ⟨A, c, rfl, _⟩ := own_form ho
    exact ⟨A, c, by rw [hr]; rfl, hb⟩
  · rintro e w' ⟨rfl, hb⟩
    rw [hA]
    exact ⟨rfl, hb⟩
/-- there is one: a number -/
theorem find_one {a : Att} (hB : atB u.attrs s = true) (hA : atA u.attrs s = a) (h1 : a.one = true) (cn : List Value) (W : World) (h : NodAt W.heap.size W u cn) :
    (Calls Try.prog 11 #[.agg cn.toArray, .string s] W fun e w' => ∃ A c, e = .returned (.tuple #[.agg #[.string a.name, .bool true, .int .i64 a.int, .slice A 0 c], .bool true]) ∧ AttAt w'.heap.size w' (nA a) [.string a.name, .bool true, .int .i64 a.int, .slice A 0 c] ∧ Below W.heap.size W w') ∧
    (Calls Try.prog 14 #[.agg cn.toArray, .string s] W fun e w' => ∃ A c, e = .returned (.tuple #[.slice A 0 c, .bool false]) ∧ Below W.heap.size W w') ∧
    (Calls Try.prog 15 #[.agg cn.toArray, .string s, .int .i64 o] W fun e w' => e = .returned (.int .i64 a.int) ∧ Below W.heap.size W w') := by
  refine ⟨(Attr_any u cn s W h).mono ?_, (Row_any u cn s W h).mono ?_, (One_any u cn s o W h).mono ?_⟩
  · rintro e w' ⟨ca, rfl, ho, hb⟩
    rw [hA] at ho
    have hat := ho.at_
    have e : nA a = ⟨a.name, true, a.int, []⟩ := by unfold nA; rw [h1]; rfl
    obtain ⟨A, c, rfl⟩ := ho.shape
    rw [e] at hat ⊢
    exact ⟨A, c, by rw [hB]; rfl, hat, hb⟩
  · rintro e w' ⟨v, rfl, ho, hb⟩
    have hr : rowB u.attrs s = false := by unfold rowB; rw [hB, hA, h1]; rfl
    have hl : rowL u.attrs s = [] := by unfold rowL; rw [hr]; rfl
    rw [hl] at ho
    obtain ⟨A, c, rfl, _⟩ := own_form ho
    exact ⟨A, c, by rw [hr]; rfl, hb⟩
  · rintro e w' ⟨rfl, hb⟩
    rw [hA, h1]
    exact ⟨rfl, hb⟩
/-- there is one: a row -/
theorem find_row {a : Att} (hB : atB u.attrs s = true) (hA : atA u.attrs s = a) (h1 : a.one = false) (cn : List Value) (W : World) (h : NodAt W.heap.size W u cn) :
    (Calls Try.prog 11 #[.agg cn.toArray, .string s] W fun e w' => ∃ A c, e = .returned (.tuple #[.agg #[.string a.name, .bool false, .int .i64 0, .slice A a.ints.length c], .bool true]) ∧ AttAt w'.heap.size w' (nA a) [.string a.name, .bool false, .int .i64 0, .slice A a.ints.length c] ∧ Below W.heap.size W w') ∧
    (Calls Try.prog 14 #[.agg cn.toArray, .string s] W fun e w' => ∃ A c, e = .returned (.tuple #[.slice A a.ints.length c, .bool true]) ∧ SR w' w'.heap.size 1 A a.ints.length (iv a.ints) ∧ Below W.heap.size W w') ∧
    (Calls Try.prog 15 #[.agg cn.toArray, .string s, .int .i64 o] W fun e w' => e = .returned (.int .i64 o) ∧ Below W.heap.size W w') := by
  refine ⟨(Attr_any u cn s W h).mono ?_, (Row_any u cn s W h).mono ?_, (One_any u cn s o W h).mono ?_⟩
  · rintro e w' ⟨ca, rfl, ho, hb⟩
    rw [hA] at ho
    have hat := ho.at_
    have e : nA a = ⟨a.name, false, 0, a.ints⟩ := by unfold nA; rw [h1]; rfl
    obtain ⟨A, c, rfl⟩ := ho.shape
    rw [e] at hat ⊢
    exact ⟨A, c, by rw [hB], hat, hb⟩
  · rintro e w' ⟨v, rfl, ho, hb⟩
    have hr : rowB u.attrs s = true := by unfold rowB; rw [hB, hA, h1]; rfl
    have hl : rowL u.attrs s = a.ints := by unfold rowL; rw [hr, hA]; rfl
    rw [hl] at ho
    obtain ⟨A, c, rfl, _⟩ := own_form ho
    exact ⟨A, c, by rw [hr], SR.of_own ho, hb⟩
  · rintro e w' ⟨rfl, hb⟩
    rw [hA, h1]
    exact ⟨rfl, hb⟩
theorem rnodeField3 (a b c : Value) (A : Option Addr) (n d : Nat) (w : World) : (Instr.field 55 (.agg #[a, b, c, .slice A n d]) 3).run Try.prog w = .ok (.slice A n d) w := by kernel_rfl
theorem NodAt.attrs_of {B : Nat} {w : World} {n : Nod} {a b c : Value} {D : Option Addr} {d : Nat} (h : NodAt B w n [a, b, c, .slice D n.attrs.length d]) : DR AttAt w B 4 D n.attrs ∧ n.attrs.length * 56 ≤ 140737488351232 := by
  obtain ⟨A, c, D', d', hsh, _, hd, ok⟩ := h
  simp only [List.cons.injEq, and_true, Value.slice.injEq, true_and] at hsh
  obtain ⟨_, _, _, rfl, rfl⟩ := hsh
  exact ⟨hd, ok.alen⟩
/-- the document's place of it -/
theorem find_place (cn : List Value) (W : World) (h : NodAt W.heap.size W u cn) : Calls Try.prog 13 #[.agg cn.toArray] W fun e w' => ∃ Q q A c, e = .returned (.agg #[.string u.op, .slice Q u.ins.length q, .string u.out, .slice A u.attrs.length c]) ∧ DR AttAt w' w'.heap.size 4 A u.attrs ∧ Below W.heap.size W w' := by
  refine (lnode_any W.heap.size u cn W (Nat.le_refl _) h).mono ?_
  rintro e w' ⟨cs, rfl, hr, hb⟩
  obtain ⟨A, c, D, d, rfl, _, hd, _⟩ := hr.at_ hb.size
  exact ⟨A, c, D, d, rfl, hd, hb⟩
end
section
variable {m : Mod} {A1 A2 A3 A4 : Option Addr} {c1 c2 c3 c4 : Nat} {s : ByteArray} {w : World}
theorem init_none (hB : itB m.inits s = false) (hT : itT m.inits s = zT) (hm : ModAt w.heap.size w m A1 A2 A3 A4) :
    Calls Try.prog 18 #[.agg #[.int .i64 m.opset, .slice A1 m.inputs.length c1, .slice A2 m.outputs.length c2, .slice A3 m.inits.length c3, .slice A4 m.nodes.length c4], .string s] w fun e w' => ∃ T1 e1, e = .returned (.tuple #[.agg #[.string ⟨#[]⟩, .int .i64 0, .slice T1 0 e1, .string ⟨#[]⟩], .bool false]) ∧ Below w.heap.size w w' := by
  refine (init_any m A1 A2 A3 A4 c1 c2 c3 c4 s w hm).mono ?_
  rintro e w' ⟨ct, rfl, ho, hb⟩
  rw [hT] at ho
  obtain ⟨T1, e1, rfl⟩ := ho.shape
  exact ⟨T1, e1, by rw [hB]; rfl, hb⟩
theorem init_some {t : Ten} (hB : itB m.inits s = true) (hT : itT m.inits s = t) (hm : ModAt w.heap.size w m A1 A2 A3 A4) :
    Calls Try.prog 18 #[.agg #[.int .i64 m.opset, .slice A1 m.inputs.length c1, .slice A2 m.outputs.length c2, .slice A3 m.inits.length c3, .slice A4 m.nodes.length c4], .string s] w fun e w' => ∃ T1 e1, e = .returned (.tuple #[.agg #[.string t.name, .int .i64 t.kind, .slice T1 t.dims.length e1, .string t.data], .bool true]) ∧ TenAt w'.heap.size w' t [.string t.name, .int .i64 t.kind, .slice T1 t.dims.length e1, .string t.data] ∧ Below w.heap.size w w' := by
  refine (init_any m A1 A2 A3 A4 c1 c2 c3 c4 s w hm).mono ?_
  rintro e w' ⟨ct, rfl, ho, hb⟩
  rw [hT] at ho
  have hat := ho.at_
  obtain ⟨T1, e1, rfl⟩ := ho.shape
  exact ⟨T1, e1, by rw [hB], hat, hb⟩
end
theorem Bx.far_set4 {w W : World} {g : Nat} {cs : Array Value} {T : TypeId} (h : Bx w g cs T W) {b : Nat} (v0 v1 v2 v3 : Value) (hne : g ≠ b) (hb : w.heap.size ≤ b) : Bx w g cs T ((((W.setCell ⟨b, 0, none⟩ v0).setCell ⟨b, 1, none⟩ v1).setCell ⟨b, 2, none⟩ v2).setCell ⟨b, 3, none⟩ v3) :=
  (((h.far_set v0 hne hb).far_set v1 hne hb).far_set v2 hne hb).far_set v3 hne hb
theorem own_two (w : World) (Z1 Z2 : Obj) {B : Nat} {v : Value} {n : Nat} {xs : List Value} {T : TypeId} (h : w.ownsRow B T 1 v n xs) : ((w.alloc Z1).alloc Z2).ownsRow B T 1 v n xs :=
  own_keep h (((Below.refl _ _).alloc (Nat.le_refl _) _).alloc (by simp) _)
theorem attA_at {B : Nat} {w : World} {s : ByteArray} {o : Int} (hs : s.size ≤ 140737488351232) (ho : I64 o) : AttAt B w ⟨s, true, o, []⟩ [.string s, .bool true, .int .i64 o, .slice none 0 0] :=
  ⟨none, 0, rfl, SR.empty _ _ _ _, ⟨hs, by simp, ho, by simp⟩⟩
theorem attB_at {B : Nat} {w : World} {s : ByteArray} {l : List Int} {A : Option Addr} {c : Nat} (hs : s.size ≤ 140737488351232) (hl : l.length * 8 ≤ 140737488351232) (hli : ∀ n ∈ l, I64 n) (h : SR w B 1 A l.length (iv l)) : AttAt B w ⟨s, false, 0, l⟩ [.string s, .bool false, .int .i64 0, .slice A l.length c] :=
  ⟨A, c, rfl, h, ⟨hs, hl, by unfold I64; dsimp only; omega, hli⟩⟩
end Go.Proofs.Ytpdpimchchfocaa
/- The walk of the law ModelFinds, whole. -/
namespace Go.Proofs.Ytpdpimchchfocaa
open Go.RowKit M7 M10 Go.Sort

set_option maxRecDepth 100000 in
set_option maxHeartbeats 8000000 in
theorem finds_walk (m : Mod) (A1 A2 A3 A4 : Option Addr) (c1 c2 c3 c4 : Nat) (s : ByteArray) (o : Int) (AL : Option Addr) (cl : Nat) (l : List Int) (w : World) (hm : ModAt w.heap.size w m A1 A2 A3 A4)
    (hs : s.size ≤ 140737488351232) (ho : I64 o) (hl : l.length * 8 ≤ 140737488351232) (hL : SR w w.heap.size 1 AL l.length (iv l)) (hli : ∀ n ∈ l, I64 n) :
    Calls Try.prog 4 #[.agg (mv m.opset A1 m.inputs.length c1 A2 m.outputs.length c2 A3 m.inits.length c3 A4 m.nodes.length c4), .string s, .int .i64 o, .slice AL l.length cl] w fun e w' => e = .returned (.bool true) ∧ Below w.heap.size w w' := by
  have HM := Lib.hid hm
  have HL := Lib.hid hL
  have HLI := Lib.hid hli
  have HO := Lib.hid ho
  have HX0 := Lib.hid (Bx.start w (mv m.opset A1 m.inputs.length c1 A2 m.outputs.length c2 A3 m.inits.length c3 A4 m.nodes.length c4) 26)
  have HS := Lib.hid (lsmall_any m A1 A2 A3 A4 c1 c2 c3 c4 (w.alloc (.cells (mv m.opset A1 m.inputs.length c1 A2 m.outputs.length c2 A3 m.inits.length c3 A4 m.nodes.length c4) 26)) ((hm.below HX0.out.all).more HX0.out.all.size))
  have hz4 := hm.len4
  clear hm hL hli ho
  unfold mv at *
  obtain ⟨x0, x1, x2, x3, x4⟩ := HX0.out.five
  have hcs : 200 < (s.size : Int) ∨ (¬ 200 < (s.size : Int) ∧ 100 < (l.length : Int)) ∨ (¬ 200 < (s.size : Int) ∧ ¬ 100 < (l.length : Int)) := by omega
  rcases hcs with g1 | ⟨g1, g2⟩ | ⟨g1, g2⟩
  · go_enter Try.func4, Try.ntmps4
    go_wp2_with fail
    refine HS.out.mono ?_
    rintro e w1 ⟨b1, rfl, hb1⟩
    have HX1 := Lib.hid (HX0.out.below hb1)
    clear hb1 HS HX0 x0 x1 x2 x3 x4
    cases b1
    all_goals
      go_wp2_with fail
      refine (mawake_any _).mono ?_
      rintro e w2 ⟨rfl, hb2⟩
      have H2 := Lib.hid (HX1.out.below hb2)
      clear hb2
      go_wp2_with fail
      go_ret
      exact ⟨rfl, H2.out.all⟩
  · go_enter Try.func4, Try.ntmps4
    go_wp2_with fail
    refine HS.out.mono ?_
    rintro e w1 ⟨b1, rfl, hb1⟩
    have HX1 := Lib.hid (HX0.out.below hb1)
    clear hb1 HS HX0 x0 x1 x2 x3 x4
    cases b1
    all_goals
      go_wp2_with fail
      refine (mawake_any _).mono ?_
      rintro e w2 ⟨rfl, hb2⟩
      have H2 := Lib.hid (HX1.out.below hb2)
      clear hb2
      go_wp2_with fail
      go_ret
      exact ⟨rfl, H2.out.all⟩
  · go_enter Try.func4, Try.ntmps4
    go_wp2_with fail
    refine HS.out.mono ?_
    rintro e w1 ⟨b1, rfl, hb1⟩
    have HX1 := Lib.hid (HX0.out.below hb1)
    clear hb1 HS HX0 x0 x1 x2 x3 x4
    cases b1
    · go_wp2_with fail
      refine (mawake_any _).mono ?_
      rintro e w2 ⟨rfl, hb2⟩
      have H2 := Lib.hid (HX1.out.below hb2)
      clear hb2
      go_wp2_with fail
      go_ret
      exact ⟨rfl, H2.out.all⟩
    · obtain ⟨x0, x1, x2, x3, x4⟩ := HX1.out.five
      go_wp2_with fail
      clear x0 x1 x2 x3 x4
      obtain ⟨BC, HXV, HF⟩ : ∃ BC, Hid (Bx w w.heap.size BC 26 w1) ∧ Hid (∀ W, Bx w w.heap.size BC 26 W → W.cell? ⟨w.heap.size, 0, none⟩ = some (.int .i64 m.opset) ∧ W.cell? ⟨w.heap.size, 1, none⟩ = some (.slice A1 m.inputs.length c1) ∧ W.cell? ⟨w.heap.size, 2, none⟩ = some (.slice A2 m.outputs.length c2) ∧ W.cell? ⟨w.heap.size, 3, none⟩ = some (.slice A3 m.inits.length c3) ∧ W.cell? ⟨w.heap.size, 4, none⟩ = some (.slice A4 m.nodes.length c4)) :=
        ⟨#[.int .i64 m.opset, .slice A1 m.inputs.length c1, .slice A2 m.outputs.length c2, .slice A3 m.inits.length c3, .slice A4 m.nodes.length c4], HX1, Lib.hid fun _ h => h.five⟩
      clear HX1
      go_loopw [10, 11, 12, 13, 14, 15, 16, 17, 41] (fun _ _ _ _ _ _ _ _ i wr => ∃ (k : Nat) (K : Int), i = .int .i64 K ∧ K = (k : Nat) ∧ k ≤ m.nodes.length ∧ Bx w w.heap.size BC 26 wr) (fun _ _ _ _ _ _ _ _ i _ => m.nodes.length - (intOf i).toNat)
      case atStart => exact ⟨0, _, rfl, rfl, by omega, HXV.out⟩
      case round =>
        obtain ⟨k, K, rfl, rfl, hk, hxr⟩ := hrel
        have HXR := Lib.hid hxr
        clear hxr
        by_cases hlt : k < m.nodes.length
        · obtain ⟨b, bo, cs, rfl, hbb, hp, hcx⟩ := (HM.out.nodes.below ek_nod HXR.out.all).at_ ek_nod hlt
          have HP := Lib.hid hp
          obtain ⟨U1, e1, X1, f1, rfl⟩ := NodAt.shape hp
          have HDA := Lib.hid (NodAt.attrs_of hp)
          have hz8 := HDA.out.2
          clear hp
          generalize m.nodes[k] = u at *
          have p0 := hcx 0 _ rfl
          have p1 := hcx 1 _ rfl
          have p2 := hcx 2 _ rfl
          have p3 := hcx 3 _ rfl
          simp only [Nat.add_zero] at p0
          clear hcx
          have HN1 := Lib.hid (And.intro ((Below.refl wr.heap.size wr).alloc (Nat.le_refl _) (.cells #[.string u.op, .slice U1 u.ins.length e1, .string u.out, .slice X1 u.attrs.length f1] 46)) (HXR.out.next #[.string u.op, .slice U1 u.ins.length e1, .string u.out, .slice X1 u.attrs.length f1] 46))
          rcases at_cases u.attrs s with ⟨hB, hA, hF⟩ | ⟨kk, hkk, hB, hA, hF⟩
          · have HFN := Lib.hid hF
            clear hF
            have HFA := Lib.hid (fun cn W (h : NodAt W.heap.size W u cn) => (find_none hB hA cn W h (o := o)).1)
            have HFR := Lib.hid (fun cn W (h : NodAt W.heap.size W u cn) => (find_none hB hA cn W h (o := o)).2.1)
            have HFO := Lib.hid (fun cn W (h : NodAt W.heap.size W u cn) => (find_none hB hA cn W h (o := o)).2.2)
            skip
            clear hB hA
            go_wp2_with fail
            refine (HFA.out _ _ (ek_nod.more (ek_nod.below HP.out (HN1.out.1.mono HXR.out.all.size)) (Nat.le_trans HXR.out.all.size HN1.out.1.size))).mono ?_
            rintro e w2 ⟨A, c, rfl, hb2⟩
            have HN2 := Lib.hid (HN1.out.2.below hb2)
            have HB2' := Lib.hid (HN1.out.1.trans (hb2.mono HN1.out.1.size))
            have HA2 := Lib.hid (HN2.out.next #[.string ⟨#[]⟩, .bool false, .int .i64 0, .slice A 0 c] 48)
            have HN3 := Lib.hid (HN2.out.more (.cells #[.string ⟨#[]⟩, .bool false, .int .i64 0, .slice A 0 c] 48))
            have HB3 := Lib.hid (HB2'.out.alloc HB2'.out.size (.cells #[.string ⟨#[]⟩, .bool false, .int .i64 0, .slice A 0 c] 48))
            have HC3 := Lib.hid (show RowKit.Below w2.heap.size w2 (w2.alloc (.cells #[.string ⟨#[]⟩, .bool false, .int .i64 0, .slice A 0 c] 48)) from (Below.refl _ _).alloc (Nat.le_refl _) _)
            clear hb2 HFA
            obtain ⟨x0, x1, x2, x3⟩ := HN3.out.four
            go_wp2_with fail
            refine (find_place (u := u) _ _ (ek_nod.more (ek_nod.below HP.out (HB3.out.mono HXR.out.all.size)) (Nat.le_trans HXR.out.all.size HB3.out.size))).mono ?_
            rintro e w3 ⟨q1, q2, PA, pc, rfl, hdr, hb3⟩
            have HFD := fun (W : World) => rnodeField3 (.string u.op) (.slice q1 u.ins.length q2) (.string u.out) PA u.attrs.length pc W
            have HDR := Lib.hid hdr
            have HN4 := Lib.hid (HN3.out.below hb3)
            have HA4 := Lib.hid (HA2.out.below hb3)
            have HB4 := Lib.hid (HB3.out.trans (hb3.mono HB3.out.size))
            have HC4 := Lib.hid (HC3.out.trans (hb3.mono HC3.out.size))
            have HFI := Lib.hid (rfind_any PA pc u.attrs s w3 (by unfold maxLen; omega) HDR.out)
            rw [HFN.out] at HFI
            clear hdr hb3 x0 x1 x2 x3
            go_wp2_with fail
            refine HFI.out.mono ?_
            rintro e w4 ⟨rfl, hb4⟩
            have HN5 := Lib.hid (HN4.out.below hb4)
            have HA5 := Lib.hid (HA4.out.below hb4)
            have HB5 := Lib.hid (HB4.out.trans (hb4.mono HB4.out.size))
            have HC5 := Lib.hid (HC4.out.trans (hb4.mono HC4.out.size))
            clear hb4 HFI HDR HFD
            obtain ⟨x0, x1, x2, x3⟩ := HN5.out.four
            go_wp2_with fail
            refine (HFR.out _ _ (ek_nod.more (ek_nod.below HP.out (HB5.out.mono HXR.out.all.size)) (Nat.le_trans HXR.out.all.size HB5.out.size))).mono ?_
            rintro e w5 ⟨R, rc, rfl, hb4⟩
            have HN6 := Lib.hid (HN5.out.below hb4)
            have HA6 := Lib.hid (HA5.out.below hb4)
            have HB6 := Lib.hid (HB5.out.trans (hb4.mono HB5.out.size))
            have HC6 := Lib.hid (HC5.out.trans (hb4.mono HC5.out.size))
            clear hb4 HFR x0 x1 x2 x3
            obtain ⟨x0, x1, x2, x3⟩ := HN6.out.four
            go_wp2_with fail
            refine (HFO.out _ _ (ek_nod.more (ek_nod.below HP.out (HB6.out.mono HXR.out.all.size)) (Nat.le_trans HXR.out.all.size HB6.out.size))).mono ?_
            rintro e w6 ⟨rfl, hb5⟩
            have HN7 := Lib.hid (HN6.out.below hb5)
            have HA7 := Lib.hid (HA6.out.below hb5)
            have HB7 := Lib.hid (HB6.out.trans (hb5.mono HB6.out.size))
            have HC7 := Lib.hid (HC6.out.trans (hb5.mono HC6.out.size))
            have HX7 := Lib.hid (HXR.out.below HB7.out)
            skip
            clear hb5 HFO x0 x1 x2 x3
            obtain ⟨x0, x1, x2, x3⟩ := HN7.out.four
            obtain ⟨y0, y1, y2, y3⟩ := HA7.out.four
            go_wp2_with fail
            go_roundw
            case rel => exact ⟨k + 1, _, rfl, by omega, by omega, HX7.out⟩
            case measure => simp [intOf]; omega

          · have HFN := Lib.hid hF
            clear hF
            obtain ⟨a, hae⟩ : ∃ a, a = u.attrs[kk] := ⟨_, rfl⟩
            have HAE := Lib.hid hae.symm
            rw [← hae] at hA
            clear hae
            obtain ⟨an, ao, ai, al⟩ := a
            cases ao
            · have HFA := Lib.hid (fun cn W (h : NodAt W.heap.size W u cn) => (find_row (a := (⟨an, false, ai, al⟩ : Att)) hB hA rfl cn W h (o := o)).1)
              have HFR := Lib.hid (fun cn W (h : NodAt W.heap.size W u cn) => (find_row (a := (⟨an, false, ai, al⟩ : Att)) hB hA rfl cn W h (o := o)).2.1)
              have HFO := Lib.hid (fun cn W (h : NodAt W.heap.size W u cn) => (find_row (a := (⟨an, false, ai, al⟩ : Att)) hB hA rfl cn W h (o := o)).2.2)
              dsimp only at HFA HFR HFO
              clear hB hA
              go_wp2_with fail
              refine (HFA.out _ _ (ek_nod.more (ek_nod.below HP.out (HN1.out.1.mono HXR.out.all.size)) (Nat.le_trans HXR.out.all.size HN1.out.1.size))).mono ?_
              rintro e w2 ⟨A, c, rfl, hat, hb2⟩
              have HAT := Lib.hid hat
              have HN2 := Lib.hid (HN1.out.2.below hb2)
              have HB2' := Lib.hid (HN1.out.1.trans (hb2.mono HN1.out.1.size))
              have HA2 := Lib.hid (HN2.out.next #[.string an, .bool false, .int .i64 0, .slice A al.length c] 48)
              have HN3 := Lib.hid (HN2.out.more (.cells #[.string an, .bool false, .int .i64 0, .slice A al.length c] 48))
              have HB3 := Lib.hid (HB2'.out.alloc HB2'.out.size (.cells #[.string an, .bool false, .int .i64 0, .slice A al.length c] 48))
              have HC3 := Lib.hid (show RowKit.Below w2.heap.size w2 (w2.alloc (.cells #[.string an, .bool false, .int .i64 0, .slice A al.length c] 48)) from (Below.refl _ _).alloc (Nat.le_refl _) _)
              clear hb2 HFA hat
              obtain ⟨x0, x1, x2, x3⟩ := HN3.out.four
              go_wp2_with fail
              refine (find_place (u := u) _ _ (ek_nod.more (ek_nod.below HP.out (HB3.out.mono HXR.out.all.size)) (Nat.le_trans HXR.out.all.size HB3.out.size))).mono ?_
              rintro e w3 ⟨q1, q2, PA, pc, rfl, hdr, hb3⟩
              have HFD := fun (W : World) => rnodeField3 (.string u.op) (.slice q1 u.ins.length q2) (.string u.out) PA u.attrs.length pc W
              have HDR := Lib.hid hdr
              have HN4 := Lib.hid (HN3.out.below hb3)
              have HA4 := Lib.hid (HA2.out.below hb3)
              have HB4 := Lib.hid (HB3.out.trans (hb3.mono HB3.out.size))
              have HC4 := Lib.hid (HC3.out.trans (hb3.mono HC3.out.size))
              have HFI := Lib.hid (rfind_any PA pc u.attrs s w3 (by unfold maxLen; omega) HDR.out)
              rw [HFN.out] at HFI
              clear hdr hb3 x0 x1 x2 x3
              go_wp2_with fail
              refine HFI.out.mono ?_
              rintro e w4 ⟨rfl, hb4⟩
              have HN5 := Lib.hid (HN4.out.below hb4)
              have HA5 := Lib.hid (HA4.out.below hb4)
              have HB5 := Lib.hid (HB4.out.trans (hb4.mono HB4.out.size))
              have HC5 := Lib.hid (HC4.out.trans (hb4.mono HC4.out.size))
              clear hb4 HFI HDR HFD
              obtain ⟨x0, x1, x2, x3⟩ := HN5.out.four
              go_wp2_with fail
              refine (HFR.out _ _ (ek_nod.more (ek_nod.below HP.out (HB5.out.mono HXR.out.all.size)) (Nat.le_trans HXR.out.all.size HB5.out.size))).mono ?_
              rintro e w5 ⟨R, rc, rfl, hrow, hb4⟩
              have HROW := Lib.hid hrow
              have HN6 := Lib.hid (HN5.out.below hb4)
              have HA6 := Lib.hid (HA5.out.below hb4)
              have HB6 := Lib.hid (HB5.out.trans (hb4.mono HB5.out.size))
              have HC6 := Lib.hid (HC5.out.trans (hb4.mono HC5.out.size))
              clear hb4 HFR x0 x1 x2 x3 hrow
              obtain ⟨x0, x1, x2, x3⟩ := HN6.out.four
              go_wp2_with fail
              refine (HFO.out _ _ (ek_nod.more (ek_nod.below HP.out (HB6.out.mono HXR.out.all.size)) (Nat.le_trans HXR.out.all.size HB6.out.size))).mono ?_
              rintro e w6 ⟨rfl, hb5⟩
              have HN7 := Lib.hid (HN6.out.below hb5)
              have HA7 := Lib.hid (HA6.out.below hb5)
              have HB7 := Lib.hid (HB6.out.trans (hb5.mono HB6.out.size))
              have HC7 := Lib.hid (HC6.out.trans (hb5.mono HC6.out.size))
              have HX7 := Lib.hid (HXR.out.below HB7.out)
              have HR7 := Lib.hid ((HROW.out.below hb5).more hb5.size)
              clear hb5 HFO x0 x1 x2 x3
              obtain ⟨x0, x1, x2, x3⟩ := HN7.out.four
              obtain ⟨y0, y1, y2, y3⟩ := HA7.out.four
              obtain ⟨YB, yo, ycs, rfl, hyb, hyp, hyx⟩ := (HDA.out.1.below ek_att (HB7.out.mono HXR.out.all.size)).at_ ek_att hkk
              rw [HAE.out] at hyp
              have HYP := Lib.hid hyp
              obtain ⟨Y1, yc, rfl⟩ := AttAt.shape hyp
              have v0 := hyx 0 _ rfl
              have v1 := hyx 1 _ rfl
              have v2 := hyx 2 _ rfl
              have v3 := hyx 3 _ rfl
              dsimp only at v0 v1 v2 v3 HYP
              simp only [Nat.add_zero] at v0
              clear hyp hyx
              have HAL := Lib.hid (show RowKit.Below w6.heap.size w6 (w6.alloc (.cells #[.string an, .bool false, .int .i64 ai, .slice Y1 al.length yc] 48)) from (Below.refl _ _).alloc (Nat.le_refl _) _)
              have HW8 := Lib.hid (HN7.out.next #[.string an, .bool false, .int .i64 ai, .slice Y1 al.length yc] 48)
              have HA8 := Lib.hid (HA7.out.below HAL.out)
              have HX8 := Lib.hid (HX7.out.below HAL.out)
              have HB8 := Lib.hid (HB7.out.trans (HAL.out.mono HB7.out.size))
              have HR8 := Lib.hid ((HR7.out.below HAL.out).more HAL.out.size)
              have HCA := Lib.hid (rattr_any (nA (⟨an, false, ai, al⟩ : Att)) (⟨an, false, ai, al⟩ : Att) [.string an, .bool false, .int .i64 0, .slice A al.length c] [.string an, .bool false, .int .i64 ai, .slice Y1 al.length yc] (w6.alloc (.cells #[.string an, .bool false, .int .i64 ai, .slice Y1 al.length yc] 48)) (ek_att.more (ek_att.below HAT.out (HC7.out.trans (HAL.out.mono HC7.out.size))) (Nat.le_trans HC7.out.size HAL.out.size)) (ek_att.more (ek_att.below HYP.out (HAL.out.mono (Nat.le_trans HXR.out.all.size HB7.out.size))) (Nat.le_trans HXR.out.all.size (Nat.le_trans HB7.out.size HAL.out.size))))
              rw [sameA_nA] at HCA
              clear y0 y1 y2 y3
              obtain ⟨y0, y1, y2, y3⟩ := HA8.out.four
              obtain ⟨t0, t1, t2, t3⟩ := HW8.out.four
              go_wp2_with fail
              refine HCA.out.mono ?_
              rintro e w7 ⟨rfl, hb7⟩
              have HW9 := Lib.hid (HW8.out.below hb7)
              have HX9 := Lib.hid (HX8.out.below hb7)
              have HR9 := Lib.hid ((HR8.out.below hb7).more hb7.size)
              have HL7 := Lib.hid hb7
              clear hb7 HCA x0 x1 x2 x3 y0 y1 y2 y3 t0 t1 t2 t3 v0 v1 v2 v3
              obtain ⟨t0, t1, t2, t3⟩ := HW9.out.four
              have hse : (o != o) = false := by simp
              have HWI := Lib.hid (AttAt.ok (a := (⟨an, false, ai, al⟩ : Att)) (ek_att.below (ek_att.below HYP.out (HAL.out.mono (Nat.le_trans HXR.out.all.size HB7.out.size))) (HL7.out.mono (Nat.le_trans HXR.out.all.size HB8.out.size))))
              have HCI := Lib.hid (isInts_any R Y1 rc yc al al w7 (by have := HWI.out.2.len; dsimp only at this; unfold maxLen; omega) HR9.out (HWI.out.1.more HX9.out.all.size))
              rw [decide_eq_true rfl] at HCI
              go_wp2_with fail
              refine HCI.out.mono ?_
              rintro e w8 ⟨rfl, hb8⟩
              have HW10 := Lib.hid (HW9.out.below hb8)
              have HX10 := Lib.hid (HX9.out.below hb8)
              clear hb8 HCI t0 t1 t2 t3
              obtain ⟨t0, t1, t2, t3⟩ := HW10.out.four
              go_wp2_with fail
              go_roundw
              case rel => exact ⟨k + 1, _, rfl, by omega, by omega, HX10.out⟩
              case measure => simp [intOf]; omega

            · have HFA := Lib.hid (fun cn W (h : NodAt W.heap.size W u cn) => (find_one (a := (⟨an, true, ai, al⟩ : Att)) hB hA rfl cn W h (o := o)).1)
              have HFR := Lib.hid (fun cn W (h : NodAt W.heap.size W u cn) => (find_one (a := (⟨an, true, ai, al⟩ : Att)) hB hA rfl cn W h (o := o)).2.1)
              have HFO := Lib.hid (fun cn W (h : NodAt W.heap.size W u cn) => (find_one (a := (⟨an, true, ai, al⟩ : Att)) hB hA rfl cn W h (o := o)).2.2)
              dsimp only at HFA HFR HFO
              clear hB hA
              go_wp2_with fail
              refine (HFA.out _ _ (ek_nod.more (ek_nod.below HP.out (HN1.out.1.mono HXR.out.all.size)) (Nat.le_trans HXR.out.all.size HN1.out.1.size))).mono ?_
              rintro e w2 ⟨A, c, rfl, hat, hb2⟩
              have HAT := Lib.hid hat
              have HN2 := Lib.hid (HN1.out.2.below hb2)
              have HB2' := Lib.hid (HN1.out.1.trans (hb2.mono HN1.out.1.size))
              have HA2 := Lib.hid (HN2.out.next #[.string an, .bool true, .int .i64 ai, .slice A 0 c] 48)
              have HN3 := Lib.hid (HN2.out.more (.cells #[.string an, .bool true, .int .i64 ai, .slice A 0 c] 48))
              have HB3 := Lib.hid (HB2'.out.alloc HB2'.out.size (.cells #[.string an, .bool true, .int .i64 ai, .slice A 0 c] 48))
              have HC3 := Lib.hid (show RowKit.Below w2.heap.size w2 (w2.alloc (.cells #[.string an, .bool true, .int .i64 ai, .slice A 0 c] 48)) from (Below.refl _ _).alloc (Nat.le_refl _) _)
              clear hb2 HFA hat
              obtain ⟨x0, x1, x2, x3⟩ := HN3.out.four
              go_wp2_with fail
              refine (find_place (u := u) _ _ (ek_nod.more (ek_nod.below HP.out (HB3.out.mono HXR.out.all.size)) (Nat.le_trans HXR.out.all.size HB3.out.size))).mono ?_
              rintro e w3 ⟨q1, q2, PA, pc, rfl, hdr, hb3⟩
              have HFD := fun (W : World) => rnodeField3 (.string u.op) (.slice q1 u.ins.length q2) (.string u.out) PA u.attrs.length pc W
              have HDR := Lib.hid hdr
              have HN4 := Lib.hid (HN3.out.below hb3)
              have HA4 := Lib.hid (HA2.out.below hb3)
              have HB4 := Lib.hid (HB3.out.trans (hb3.mono HB3.out.size))
              have HC4 := Lib.hid (HC3.out.trans (hb3.mono HC3.out.size))
              have HFI := Lib.hid (rfind_any PA pc u.attrs s w3 (by unfold maxLen; omega) HDR.out)
              rw [HFN.out] at HFI
              clear hdr hb3 x0 x1 x2 x3
              go_wp2_with fail
              refine HFI.out.mono ?_
              rintro e w4 ⟨rfl, hb4⟩
              have HN5 := Lib.hid (HN4.out.below hb4)
              have HA5 := Lib.hid (HA4.out.below hb4)
              have HB5 := Lib.hid (HB4.out.trans (hb4.mono HB4.out.size))
              have HC5 := Lib.hid (HC4.out.trans (hb4.mono HC4.out.size))
              clear hb4 HFI HDR HFD
              obtain ⟨x0, x1, x2, x3⟩ := HN5.out.four
              go_wp2_with fail
              refine (HFR.out _ _ (ek_nod.more (ek_nod.below HP.out (HB5.out.mono HXR.out.all.size)) (Nat.le_trans HXR.out.all.size HB5.out.size))).mono ?_
              rintro e w5 ⟨R, rc, rfl, hb4⟩
              have HN6 := Lib.hid (HN5.out.below hb4)
              have HA6 := Lib.hid (HA5.out.below hb4)
              have HB6 := Lib.hid (HB5.out.trans (hb4.mono HB5.out.size))
              have HC6 := Lib.hid (HC5.out.trans (hb4.mono HC5.out.size))
              clear hb4 HFR x0 x1 x2 x3
              obtain ⟨x0, x1, x2, x3⟩ := HN6.out.four
              go_wp2_with fail
              refine (HFO.out _ _ (ek_nod.more (ek_nod.below HP.out (HB6.out.mono HXR.out.all.size)) (Nat.le_trans HXR.out.all.size HB6.out.size))).mono ?_
              rintro e w6 ⟨rfl, hb5⟩
              have HN7 := Lib.hid (HN6.out.below hb5)
              have HA7 := Lib.hid (HA6.out.below hb5)
              have HB7 := Lib.hid (HB6.out.trans (hb5.mono HB6.out.size))
              have HC7 := Lib.hid (HC6.out.trans (hb5.mono HC6.out.size))
              have HX7 := Lib.hid (HXR.out.below HB7.out)
              skip
              clear hb5 HFO x0 x1 x2 x3
              obtain ⟨x0, x1, x2, x3⟩ := HN7.out.four
              obtain ⟨y0, y1, y2, y3⟩ := HA7.out.four
              obtain ⟨YB, yo, ycs, rfl, hyb, hyp, hyx⟩ := (HDA.out.1.below ek_att (HB7.out.mono HXR.out.all.size)).at_ ek_att hkk
              rw [HAE.out] at hyp
              have HYP := Lib.hid hyp
              obtain ⟨Y1, yc, rfl⟩ := AttAt.shape hyp
              have v0 := hyx 0 _ rfl
              have v1 := hyx 1 _ rfl
              have v2 := hyx 2 _ rfl
              have v3 := hyx 3 _ rfl
              dsimp only at v0 v1 v2 v3 HYP
              simp only [Nat.add_zero] at v0
              clear hyp hyx
              have HAL := Lib.hid (show RowKit.Below w6.heap.size w6 (w6.alloc (.cells #[.string an, .bool true, .int .i64 ai, .slice Y1 al.length yc] 48)) from (Below.refl _ _).alloc (Nat.le_refl _) _)
              have HW8 := Lib.hid (HN7.out.next #[.string an, .bool true, .int .i64 ai, .slice Y1 al.length yc] 48)
              have HA8 := Lib.hid (HA7.out.below HAL.out)
              have HX8 := Lib.hid (HX7.out.below HAL.out)
              have HB8 := Lib.hid (HB7.out.trans (HAL.out.mono HB7.out.size))
              skip
              have HCA := Lib.hid (rattr_any (nA (⟨an, true, ai, al⟩ : Att)) (⟨an, true, ai, al⟩ : Att) [.string an, .bool true, .int .i64 ai, .slice A 0 c] [.string an, .bool true, .int .i64 ai, .slice Y1 al.length yc] (w6.alloc (.cells #[.string an, .bool true, .int .i64 ai, .slice Y1 al.length yc] 48)) (ek_att.more (ek_att.below HAT.out (HC7.out.trans (HAL.out.mono HC7.out.size))) (Nat.le_trans HC7.out.size HAL.out.size)) (ek_att.more (ek_att.below HYP.out (HAL.out.mono (Nat.le_trans HXR.out.all.size HB7.out.size))) (Nat.le_trans HXR.out.all.size (Nat.le_trans HB7.out.size HAL.out.size))))
              rw [sameA_nA] at HCA
              clear y0 y1 y2 y3
              obtain ⟨y0, y1, y2, y3⟩ := HA8.out.four
              obtain ⟨t0, t1, t2, t3⟩ := HW8.out.four
              go_wp2_with fail
              refine HCA.out.mono ?_
              rintro e w7 ⟨rfl, hb7⟩
              have HW9 := Lib.hid (HW8.out.below hb7)
              have HX9 := Lib.hid (HX8.out.below hb7)
              skip
              skip
              clear hb7 HCA x0 x1 x2 x3 y0 y1 y2 y3 t0 t1 t2 t3 v0 v1 v2 v3
              obtain ⟨t0, t1, t2, t3⟩ := HW9.out.four
              have hse : (ai != ai) = false := by simp
              go_wp2_with fail
              go_roundw
              case rel => exact ⟨k + 1, _, rfl, by omega, by omega, HX9.out⟩
              case measure => simp [intOf]; omega

        · obtain rfl : k = m.nodes.length := by omega
          have HXE := Lib.hid HXR.out
          clear HXR hlt hk
          obtain ⟨x0, x1, x2, x3, x4⟩ := HF.out _ HXE.out
          have HOF := Lib.hid (fun W (h : RowKit.Below w.heap.size w W) => lof_any m A1 A2 A3 A4 c1 c2 c3 c4 W ((HM.out.below h).more h.size))
          have hl3 := HM.out.len3
          unfold mv at HOF
          rcases it_cases m.inits s with ⟨hB, hT, hF⟩ | ⟨kk, hkk, hB, hT, hF⟩
          · have HFN := Lib.hid hF
            have HIN := Lib.hid (fun W (h : RowKit.Below w.heap.size w W) => init_none (c1 := c1) (c2 := c2) (c3 := c3) (c4 := c4) hB hT ((HM.out.below h).more h.size))
            clear hB hT hF
            go_wp2_with fail
            refine (HIN.out _ HXE.out.all).mono ?_
            rintro e w2 ⟨T1, e1, rfl, hb2⟩
            skip
            have HX2 := Lib.hid ((HXE.out.below hb2).more (.cells #[.string ⟨#[]⟩, .int .i64 0, .slice T1 0 e1, .string ⟨#[]⟩] 42))
            have HT2 := Lib.hid ((HXE.out.below hb2).next #[.string ⟨#[]⟩, .int .i64 0, .slice T1 0 e1, .string ⟨#[]⟩] 42)
            have HS2 := Lib.hid (show RowKit.Below w2.heap.size w2 (w2.alloc (.cells #[.string ⟨#[]⟩, .int .i64 0, .slice T1 0 e1, .string ⟨#[]⟩] 42)) from (Below.refl _ _).alloc (Nat.le_refl _) _)
            clear hb2 HIN x0 x1 x2 x3 x4
            obtain ⟨x0, x1, x2, x3, x4⟩ := HF.out _ HX2.out
            go_wp2_with fail
            refine (HOF.out _ HX2.out.all).mono ?_
            rintro e w3 ⟨Q1, Q2, Q3, Q4, r1, r2, r3, r4, rfl, hmd, hb3⟩
            have HMD := Lib.hid hmd
            have HT3 := Lib.hid ((HT2.out.below hb3).more (.cells #[.int .i64 m.opset, .slice Q1 m.inputs.length r1, .slice Q2 m.outputs.length r2, .slice Q3 m.inits.length r3, .slice Q4 m.nodes.length r4] 33))
            have HX3 := Lib.hid ((HX2.out.below hb3).more (.cells #[.int .i64 m.opset, .slice Q1 m.inputs.length r1, .slice Q2 m.outputs.length r2, .slice Q3 m.inits.length r3, .slice Q4 m.nodes.length r4] 33))
            have HR3 := Lib.hid ((HX2.out.below hb3).next #[.int .i64 m.opset, .slice Q1 m.inputs.length r1, .slice Q2 m.outputs.length r2, .slice Q3 m.inits.length r3, .slice Q4 m.nodes.length r4] 33)
            have HS3 := Lib.hid (HS2.out.trans ((hb3.alloc hb3.size (.cells #[.int .i64 m.opset, .slice Q1 m.inputs.length r1, .slice Q2 m.outputs.length r2, .slice Q3 m.inits.length r3, .slice Q4 m.nodes.length r4] 33)).mono HS2.out.size))
            have HA3 := Lib.hid (show RowKit.Below w3.heap.size w3 (w3.alloc (.cells #[.int .i64 m.opset, .slice Q1 m.inputs.length r1, .slice Q2 m.outputs.length r2, .slice Q3 m.inits.length r3, .slice Q4 m.nodes.length r4] 33)) from (Below.refl _ _).alloc (Nat.le_refl _) _)
            have HFI := Lib.hid (rinit_any Q3 r3 m.inits s (w3.alloc (.cells #[.int .i64 m.opset, .slice Q1 m.inputs.length r1, .slice Q2 m.outputs.length r2, .slice Q3 m.inits.length r3, .slice Q4 m.nodes.length r4] 33)) (by unfold maxLen; omega) ((HMD.out.below HA3.out).more HA3.out.size).inits)
            rw [HFN.out] at HFI
            clear hmd hb3 HOF x0 x1 x2 x3 x4
            obtain ⟨z0, z1, z2, z3, z4⟩ := HR3.out.five
            go_wp2_with fail
            refine HFI.out.mono ?_
            rintro e w4 ⟨rfl, hb4⟩
            have HT4 := Lib.hid (HT3.out.below hb4)
            have HX4 := Lib.hid (HX3.out.below hb4)
            have HR4 := Lib.hid (HR3.out.below hb4)
            have HS4 := Lib.hid (HS3.out.trans (hb4.mono HS3.out.size))
            have HA4 := Lib.hid (HA3.out.trans (hb4.mono HA3.out.size))
            clear hb4 HFI z0 z1 z2 z3 z4
            obtain ⟨z0, z1, z2, z3, z4⟩ := HR4.out.five
            obtain ⟨t0, t1, t2, t3⟩ := HT4.out.four
            have qz := fun d os => cell_regrown z3 d os
            have qt0 := fun d os => cell_regrown t0 d os
            have qt1 := fun d os => cell_regrown t1 d os
            have qt2 := fun d os => cell_regrown t2 d os
            have qt3 := fun d os => cell_regrown t3 d os
            have hee := teq_yes (rfl : (⟨#[]⟩ : ByteArray) = ⟨#[]⟩)
            clear z0 z1 z2 z3 z4 t0 t1 t2 t3
            go_wp2_with fail
            refine wp_region_quiet_below (by kernel_rfl) (by kernel_rfl) ?_
            repeat (go_big_quiet_step (fail))
            refine wpQuiet_nil ?_
            rintro w5 ⟨p, rfl⟩
            have HX5 := Lib.hid (HX4.out.below (below_regrown w4 p.d p.os))
            clear qz qt0 qt1 qt2 qt3 hee
            generalize grow (redrawn w4 p.d) p.os = w5 at HX5 ⊢
            go_wp2_with fail
            refine (m_number_any s o _).mono ?_
            rintro e w6 ⟨rfl, hb6⟩
            have HX6 := Lib.hid (HX5.out.below hb6)
            clear hb6
            have HRW := Lib.hid (row_any s AL cl l w6 hl ((HL.out.below HX6.out.all).more HX6.out.all.size))
            go_wp2_with fail
            refine HRW.out.mono ?_
            rintro e w7 ⟨v, rfl, hown, hb7⟩
            obtain ⟨R, rc, rfl, -, -⟩ := own_form hown
            have HX7 := Lib.hid (HX6.out.below hb7)
            have HZ1 := Lib.hid ((HX7.out.next #[.string s, .bool true, .int .i64 o, .slice none 0 0] 48).more (.cells #[.string s, .bool false, .int .i64 0, .slice R l.length rc] 48))
            have HZ2 := Lib.hid ((HX7.out.next #[.string s, .bool true, .int .i64 o, .slice none 0 0] 48).next #[.string s, .bool false, .int .i64 0, .slice R l.length rc] 48)
            rw [show (w7.alloc (.cells #[.string s, .bool true, .int .i64 o, .slice none 0 0] 48)).heap.size = w7.heap.size + 1 by simp] at HZ2
            have HG := Lib.hid (And.intro HZ1.out (And.intro HZ2.out (SR.of_own (own_two w7 (.cells #[.string s, .bool true, .int .i64 o, .slice none 0 0] 48) (.cells #[.string s, .bool false, .int .i64 0, .slice R l.length rc] 48) hown))))
            clear hown hb7 HRW HZ1 HZ2
            go_wp2_with fail
            refine (mawake_any _).mono ?_
            rintro e w8 ⟨rfl, hb8⟩
            have HG8 := Lib.hid (And.intro (HG.out.1.below hb8) (And.intro (HG.out.2.1.below hb8) ((HG.out.2.2.below hb8).more hb8.size)))
            clear hb8 HG
            obtain ⟨a0, a1, a2, a3⟩ := HG8.out.1.four
            obtain ⟨b0, b1, b2, b3⟩ := HG8.out.2.1.four
            have heo : (o == o) = true := by simp
            have hes := teq_yes (rfl : s = s)
            have HCI := Lib.hid (isInts_any R AL rc cl l l w8 (by unfold maxLen; omega) HG8.out.2.2 ((HL.out.below HG8.out.1.all).more HG8.out.1.all.size))
            rw [decide_eq_true rfl] at HCI
            go_wp2_with fail
            refine HCI.out.mono ?_
            rintro e w9 ⟨rfl, hb9⟩
            have HG9 := Lib.hid (And.intro (HG8.out.1.below hb9) (And.intro (HG8.out.2.1.below hb9) ((HG8.out.2.2.below hb9).more hb9.size)))
            clear hb9 HCI a0 a1 a2 a3 b0 b1 b2 b3
            obtain ⟨a0, a1, a2, a3⟩ := HG9.out.1.four
            obtain ⟨b0, b1, b2, b3⟩ := HG9.out.2.1.four
            have HC1 := Lib.hid (m_attr_any ⟨s, true, o, []⟩ ⟨s, false, 0, l⟩ [.string s, .bool true, .int .i64 o, .slice none 0 0] [.string s, .bool false, .int .i64 0, .slice R l.length rc] w9 (attA_at hs HO.out) (attB_at hs hl HLI.out HG9.out.2.2))
            rw [show sameA ⟨s, true, o, []⟩ ⟨s, false, 0, l⟩ = false by unfold sameA; simp] at HC1
            go_wp2_with fail
            refine HC1.out.mono ?_
            rintro e w10 ⟨rfl, hb10⟩
            have HG10 := Lib.hid (And.intro (HG9.out.1.below hb10) (And.intro (HG9.out.2.1.below hb10) ((HG9.out.2.2.below hb10).more hb10.size)))
            clear hb10 HC1 a0 a1 a2 a3 b0 b1 b2 b3
            obtain ⟨a0, a1, a2, a3⟩ := HG10.out.1.four
            obtain ⟨b0, b1, b2, b3⟩ := HG10.out.2.1.four
            have HC2 := Lib.hid (m_attr_any ⟨s, true, o, []⟩ ⟨s, true, o, []⟩ [.string s, .bool true, .int .i64 o, .slice none 0 0] [.string s, .bool true, .int .i64 o, .slice none 0 0] w10 (attA_at hs HO.out) (attA_at hs HO.out))
            rw [sameA_refl] at HC2
            go_wp2_with fail
            refine HC2.out.mono ?_
            rintro e w11 ⟨rfl, hb11⟩
            have HG11 := Lib.hid (And.intro (HG10.out.1.below hb11) (And.intro (HG10.out.2.1.below hb11) ((HG10.out.2.2.below hb11).more hb11.size)))
            clear hb11 HC2 a0 a1 a2 a3 b0 b1 b2 b3
            obtain ⟨b0, b1, b2, b3⟩ := HG11.out.2.1.four
            have HC3 := Lib.hid (m_attr_any ⟨s, false, 0, l⟩ ⟨s, false, 0, l⟩ [.string s, .bool false, .int .i64 0, .slice R l.length rc] [.string s, .bool false, .int .i64 0, .slice R l.length rc] w11 (attB_at hs hl HLI.out HG11.out.2.2) (attB_at hs hl HLI.out HG11.out.2.2))
            rw [sameA_refl] at HC3
            go_wp2_with fail
            refine HC3.out.mono ?_
            rintro e w12 ⟨rfl, hb12⟩
            have HG12 := Lib.hid (HG11.out.1.below hb12)
            clear hb12 HC3 b0 b1 b2 b3
            go_wp2_with fail
            go_ret
            exact ⟨rfl, HG12.out.all⟩
          · have HFN := Lib.hid hF
            obtain ⟨t, hte⟩ : ∃ t, t = m.inits[kk] := ⟨_, rfl⟩
            have HTE := Lib.hid hte.symm
            rw [← hte] at hT
            clear hte hF
            obtain ⟨tn, tk, tl, td⟩ := t
            have HIN := Lib.hid (fun W (h : RowKit.Below w.heap.size w W) => init_some (t := (⟨tn, tk, tl, td⟩ : Ten)) (c1 := c1) (c2 := c2) (c3 := c3) (c4 := c4) hB hT ((HM.out.below h).more h.size))
            dsimp only at HIN
            clear hB hT
            go_wp2_with fail
            refine (HIN.out _ HXE.out.all).mono ?_
            rintro e w2 ⟨T1, e1, rfl, hat, hb2⟩
            have HAT := Lib.hid hat
            have HX2 := Lib.hid ((HXE.out.below hb2).more (.cells #[.string tn, .int .i64 tk, .slice T1 tl.length e1, .string td] 42))
            have HT2 := Lib.hid ((HXE.out.below hb2).next #[.string tn, .int .i64 tk, .slice T1 tl.length e1, .string td] 42)
            have HS2 := Lib.hid (show RowKit.Below w2.heap.size w2 (w2.alloc (.cells #[.string tn, .int .i64 tk, .slice T1 tl.length e1, .string td] 42)) from (Below.refl _ _).alloc (Nat.le_refl _) _)
            clear hb2 HIN x0 x1 x2 x3 x4 hat
            obtain ⟨x0, x1, x2, x3, x4⟩ := HF.out _ HX2.out
            go_wp2_with fail
            refine (HOF.out _ HX2.out.all).mono ?_
            rintro e w3 ⟨Q1, Q2, Q3, Q4, r1, r2, r3, r4, rfl, hmd, hb3⟩
            have HMD := Lib.hid hmd
            have HT3 := Lib.hid ((HT2.out.below hb3).more (.cells #[.int .i64 m.opset, .slice Q1 m.inputs.length r1, .slice Q2 m.outputs.length r2, .slice Q3 m.inits.length r3, .slice Q4 m.nodes.length r4] 33))
            have HX3 := Lib.hid ((HX2.out.below hb3).more (.cells #[.int .i64 m.opset, .slice Q1 m.inputs.length r1, .slice Q2 m.outputs.length r2, .slice Q3 m.inits.length r3, .slice Q4 m.nodes.length r4] 33))
            have HR3 := Lib.hid ((HX2.out.below hb3).next #[.int .i64 m.opset, .slice Q1 m.inputs.length r1, .slice Q2 m.outputs.length r2, .slice Q3 m.inits.length r3, .slice Q4 m.nodes.length r4] 33)
            have HS3 := Lib.hid (HS2.out.trans ((hb3.alloc hb3.size (.cells #[.int .i64 m.opset, .slice Q1 m.inputs.length r1, .slice Q2 m.outputs.length r2, .slice Q3 m.inits.length r3, .slice Q4 m.nodes.length r4] 33)).mono HS2.out.size))
            have HA3 := Lib.hid (show RowKit.Below w3.heap.size w3 (w3.alloc (.cells #[.int .i64 m.opset, .slice Q1 m.inputs.length r1, .slice Q2 m.outputs.length r2, .slice Q3 m.inits.length r3, .slice Q4 m.nodes.length r4] 33)) from (Below.refl _ _).alloc (Nat.le_refl _) _)
            have HFI := Lib.hid (rinit_any Q3 r3 m.inits s (w3.alloc (.cells #[.int .i64 m.opset, .slice Q1 m.inputs.length r1, .slice Q2 m.outputs.length r2, .slice Q3 m.inits.length r3, .slice Q4 m.nodes.length r4] 33)) (by unfold maxLen; omega) ((HMD.out.below HA3.out).more HA3.out.size).inits)
            rw [HFN.out] at HFI
            clear hmd hb3 HOF x0 x1 x2 x3 x4
            obtain ⟨z0, z1, z2, z3, z4⟩ := HR3.out.five
            go_wp2_with fail
            refine HFI.out.mono ?_
            rintro e w4 ⟨rfl, hb4⟩
            have HT4 := Lib.hid (HT3.out.below hb4)
            have HX4 := Lib.hid (HX3.out.below hb4)
            have HR4 := Lib.hid (HR3.out.below hb4)
            have HS4 := Lib.hid (HS3.out.trans (hb4.mono HS3.out.size))
            have HA4 := Lib.hid (HA3.out.trans (hb4.mono HA3.out.size))
            clear hb4 HFI z0 z1 z2 z3 z4
            obtain ⟨z0, z1, z2, z3, z4⟩ := HR4.out.five
            obtain ⟨t0, t1, t2, t3⟩ := HT4.out.four
            have qz := fun d os => cell_regrown z3 d os
            have qt0 := fun d os => cell_regrown t0 d os
            have qt1 := fun d os => cell_regrown t1 d os
            have qt2 := fun d os => cell_regrown t2 d os
            have qt3 := fun d os => cell_regrown t3 d os
            obtain ⟨YB, yo, ycs, rfl, hyb, hyp, hyx⟩ := (HMD.out.inits.below ek_ten HA4.out).at_ ek_ten hkk
            rw [HTE.out] at hyp
            have HYP := Lib.hid hyp
            obtain ⟨Y1, yc, rfl⟩ := TenAt.shape hyp
            have v0 := hyx 0 _ rfl
            have v1 := hyx 1 _ rfl
            have v2 := hyx 2 _ rfl
            have v3 := hyx 3 _ rfl
            dsimp only at v0 v1 v2 v3 HYP
            simp only [Nat.add_zero] at v0
            have qv0 := fun d os => cell_regrown v0 d os
            have qv1 := fun d os => cell_regrown v1 d os
            have qv2 := fun d os => cell_regrown v2 d os
            have qv3 := fun d os => cell_regrown v3 d os
            have HCO := Lib.hid (fun W => lten_any (⟨tn, tk, tl, td⟩ : Ten) T1 e1 W)
            have HCS := Lib.hid (fun dd os => rten_any (⟨tn, tk, tl, td⟩ : Ten) (⟨tn, tk, tl, td⟩ : Ten) [.string tn, .int .i64 tk, .slice T1 tl.length e1, .string td] [.string tn, .int .i64 tk, .slice Y1 tl.length yc, .string td] (grow (redrawn w4 dd) os) (ek_ten.more (ek_ten.below HAT.out (HS4.out.trans ((below_regrown w4 dd os).mono HS4.out.size))) (Nat.le_trans HS4.out.size (below_regrown w4 dd os).size)) (ek_ten.more (ek_ten.below HYP.out ((below_regrown w4 dd os).mono HA4.out.size)) (Nat.le_trans HA4.out.size (below_regrown w4 dd os).size)))
            rw [sameT_refl] at HCS
            dsimp only at HCO HCS
            clear hyp hyx v0 v1 v2 v3 z0 z1 z2 z3 z4 t0 t1 t2 t3
            go_wp2_with fail
            refine wp_region_quiet_below (by kernel_rfl) (by kernel_rfl) ?_
            repeat (go_big_quiet_step ((first
              | (go_at_call 21; exact Calls.regrown_of (HCO.out _))
              | (go_at_call 20; exact Calls.regrown_of (HCS.out _ _)))))
            refine wpQuiet_nil ?_
            rintro w5 ⟨p, rfl⟩
            have HX5 := Lib.hid (HX4.out.below (below_regrown w4 p.d p.os))
            clear qz qt0 qt1 qt2 qt3 qv0 qv1 qv2 qv3 HCO HCS
            generalize grow (redrawn w4 p.d) p.os = w5 at HX5 ⊢
            go_wp2_with fail
            refine (m_number_any s o _).mono ?_
            rintro e w6 ⟨rfl, hb6⟩
            have HX6 := Lib.hid (HX5.out.below hb6)
            clear hb6
            have HRW := Lib.hid (row_any s AL cl l w6 hl ((HL.out.below HX6.out.all).more HX6.out.all.size))
            go_wp2_with fail
            refine HRW.out.mono ?_
            rintro e w7 ⟨v, rfl, hown, hb7⟩
            obtain ⟨R, rc, rfl, -, -⟩ := own_form hown
            have HX7 := Lib.hid (HX6.out.below hb7)
            have HZ1 := Lib.hid ((HX7.out.next #[.string s, .bool true, .int .i64 o, .slice none 0 0] 48).more (.cells #[.string s, .bool false, .int .i64 0, .slice R l.length rc] 48))
            have HZ2 := Lib.hid ((HX7.out.next #[.string s, .bool true, .int .i64 o, .slice none 0 0] 48).next #[.string s, .bool false, .int .i64 0, .slice R l.length rc] 48)
            rw [show (w7.alloc (.cells #[.string s, .bool true, .int .i64 o, .slice none 0 0] 48)).heap.size = w7.heap.size + 1 by simp] at HZ2
            have HG := Lib.hid (And.intro HZ1.out (And.intro HZ2.out (SR.of_own (own_two w7 (.cells #[.string s, .bool true, .int .i64 o, .slice none 0 0] 48) (.cells #[.string s, .bool false, .int .i64 0, .slice R l.length rc] 48) hown))))
            clear hown hb7 HRW HZ1 HZ2
            go_wp2_with fail
            refine (mawake_any _).mono ?_
            rintro e w8 ⟨rfl, hb8⟩
            have HG8 := Lib.hid (And.intro (HG.out.1.below hb8) (And.intro (HG.out.2.1.below hb8) ((HG.out.2.2.below hb8).more hb8.size)))
            clear hb8 HG
            obtain ⟨a0, a1, a2, a3⟩ := HG8.out.1.four
            obtain ⟨b0, b1, b2, b3⟩ := HG8.out.2.1.four
            have heo : (o == o) = true := by simp
            have hes := teq_yes (rfl : s = s)
            have HCI := Lib.hid (isInts_any R AL rc cl l l w8 (by unfold maxLen; omega) HG8.out.2.2 ((HL.out.below HG8.out.1.all).more HG8.out.1.all.size))
            rw [decide_eq_true rfl] at HCI
            go_wp2_with fail
            refine HCI.out.mono ?_
            rintro e w9 ⟨rfl, hb9⟩
            have HG9 := Lib.hid (And.intro (HG8.out.1.below hb9) (And.intro (HG8.out.2.1.below hb9) ((HG8.out.2.2.below hb9).more hb9.size)))
            clear hb9 HCI a0 a1 a2 a3 b0 b1 b2 b3
            obtain ⟨a0, a1, a2, a3⟩ := HG9.out.1.four
            obtain ⟨b0, b1, b2, b3⟩ := HG9.out.2.1.four
            have HC1 := Lib.hid (m_attr_any ⟨s, true, o, []⟩ ⟨s, false, 0, l⟩ [.string s, .bool true, .int .i64 o, .slice none 0 0] [.string s, .bool false, .int .i64 0, .slice R l.length rc] w9 (attA_at hs HO.out) (attB_at hs hl HLI.out HG9.out.2.2))
            rw [show sameA ⟨s, true, o, []⟩ ⟨s, false, 0, l⟩ = false by unfold sameA; simp] at HC1
            go_wp2_with fail
            refine HC1.out.mono ?_
            rintro e w10 ⟨rfl, hb10⟩
            have HG10 := Lib.hid (And.intro (HG9.out.1.below hb10) (And.intro (HG9.out.2.1.below hb10) ((HG9.out.2.2.below hb10).more hb10.size)))
            clear hb10 HC1 a0 a1 a2 a3 b0 b1 b2 b3
            obtain ⟨a0, a1, a2, a3⟩ := HG10.out.1.four
            obtain ⟨b0, b1, b2, b3⟩ := HG10.out.2.1.four
            have HC2 := Lib.hid (m_attr_any ⟨s, true, o, []⟩ ⟨s, true, o, []⟩ [.string s, .bool true, .int .i64 o, .slice none 0 0] [.string s, .bool true, .int .i64 o, .slice none 0 0] w10 (attA_at hs HO.out) (attA_at hs HO.out))
            rw [sameA_refl] at HC2
            go_wp2_with fail
            refine HC2.out.mono ?_
            rintro e w11 ⟨rfl, hb11⟩
            have HG11 := Lib.hid (And.intro (HG10.out.1.below hb11) (And.intro (HG10.out.2.1.below hb11) ((HG10.out.2.2.below hb11).more hb11.size)))
            clear hb11 HC2 a0 a1 a2 a3 b0 b1 b2 b3
            obtain ⟨b0, b1, b2, b3⟩ := HG11.out.2.1.four
            have HC3 := Lib.hid (m_attr_any ⟨s, false, 0, l⟩ ⟨s, false, 0, l⟩ [.string s, .bool false, .int .i64 0, .slice R l.length rc] [.string s, .bool false, .int .i64 0, .slice R l.length rc] w11 (attB_at hs hl HLI.out HG11.out.2.2) (attB_at hs hl HLI.out HG11.out.2.2))
            rw [sameA_refl] at HC3
            go_wp2_with fail
            refine HC3.out.mono ?_
            rintro e w12 ⟨rfl, hb12⟩
            have HG12 := Lib.hid (HG11.out.1.below hb12)
            clear hb12 HC3 b0 b1 b2 b3
            go_wp2_with fail
            go_ret
            exact ⟨rfl, HG12.out.all⟩
end Go.Proofs.Ytpdpimchchfocaa
/- The law ModelFinds (agatelaw10): for every input that can be read the call returns true, and its arguments read behind it as before. -/
namespace Go.Proofs.Ytpdpimchchfocaa.modelFinds
open Go.ChangeShapes Go.WideShapes Go.ChangeAt Go.RowKit
open Go.ChangeMaps (open_string shut_string)
set_option linter.unusedVariables false
theorem own : ownKnob Try.prog.godebug = none := by kernel_rfl
theorem laidOut : laidOutB Try.prog = true := by kernel_rfl
theorem readable : ([26, 9, 2, 38].all fun t => Try.prog.readableRec t && decide (t < Try.prog.types.size)) = true := by kernel_rfl
set_option maxRecDepth 100000 in
theorem lifted (os : Os) (started : os.Started) (H : Type) (enc : TypeId × Value → H) :
    ReturnsInHanded {} Try.checked os 4 .any (Rows.modelFindsSpec.pre6 enc Try.prog Try.f4 Rows.modelFindsRow.domain false) (Rows.modelFindsSpec.post enc Try.prog Try.f4 false true false false) := by
  refine returnsInHanded_of_change_sized (C := Try.checked) own started (by kernel_rfl) Try.func4
    (ChangeSpec.witness6 (enc := enc) (C := Try.checked) false ⟨#[], #[.agg #[.int .i64 0, .slice none 0 0, .slice none 0 0, .slice none 0 0, .slice none 0 0], .string ByteArray.empty, .int .i64 0, .slice none 0 0], []⟩ 8 (by kernel_rfl) (by kernel_rfl) (by kernel_rfl) (by kernel_rfl)) ?_
  intro W base args ds gs before hval0 hW hcnd hsz _
  have hval : ∀ (j : Nat) t v, Try.f4.params[j]? = some t → args[j]? = some v → Value.okWide Try.prog W .any base t v := hval0
  have hW' := hW
  obtain ⟨p, q, hA0, hV, rfl, hfz, hnd⟩ := hW
  have hA : DataW.TrodAll enc Try.prog W 0 (fun _ => true) true Try.f4.params.toList args.toList ds p := hA0
  rw [Try.params4] at hA hval
  obtain ⟨rfl, rfl⟩ := trodVars_none hV
  have hkeep := hA
  have hcalls : Calls Try.prog 4 args W fun e W' => e = .returned (.bool true) ∧ Below W.heap.size W W' := by
    clear hW' hA0 hval0 hfz hnd hV hkeep
    obtain ⟨v0, vs0, d0, ds0, p0, q0, hargs, rfl, rfl, h0, r0⟩ := trodAll_cons hA
    obtain ⟨v1, vs1, d1, ds1, p1, q1, rfl, rfl, rfl, h1, r1⟩ := trodAll_cons r0
    obtain ⟨v2, vs2, d2, ds2, p2, q2, rfl, rfl, rfl, h2, r2⟩ := trodAll_cons r1
    obtain ⟨v3, vs3, d3, ds3, p3, q3, rfl, rfl, rfl, h3, r3⟩ := trodAll_cons r2
    obtain ⟨rfl, rfl, rfl⟩ := trodAll_nil r3
    obtain rfl : args = #[v0, v1, v2, v3] := by cases args; simp_all
    obtain ⟨fs, hfs⟩ := modelStruct
    have hv0 := okWide_struct hfs (hval 0 26 v0 rfl rfl)
    have hv3 := okWide_slice Try.underlying38 (hval 3 38 v3 rfl rfl)
    have hz0 : ∀ n ∈ d0.weights Try.prog 26, n ≤ reachBytes := fun n hn => by
      have := List.all_eq_true.1 hsz n (DataW.weights_mem_each (j := 0) (t := 26) (d := d0) rfl rfl n hn)
      simpa using this
    have hz1 : ∀ n ∈ d1.weights Try.prog 9, n ≤ reachBytes := fun n hn => by
      have := List.all_eq_true.1 hsz n (DataW.weights_mem_each (j := 1) (t := 9) (d := d1) rfl rfl n hn)
      simpa using this
    have hz3 : ∀ n ∈ d3.weights Try.prog 38, n ≤ reachBytes := fun n hn => by
      have := List.all_eq_true.1 hsz n (DataW.weights_mem_each (j := 3) (t := 38) (d := d3) rfl rfl n hn)
      simpa using this
    obtain ⟨m, A1, A2, A3, A4, c1, c2, c3, c4, rfl, hm⟩ := open_model h0 hv0 hz0
    obtain ⟨s1, rfl, rfl, rfl, w1⟩ := open_string Try.underlying9 (hval 1 9 v1 rfl rfl) h1
    obtain ⟨a2, rfl, rfl, rfl, w2⟩ := open_int Try.underlying2 (hval 2 2 v2 rfl rfl) h2
    obtain ⟨AL, cl, l, rfl, hL, hl, hli⟩ := open_ints10 h3 hv3 hz3
    have hk : s1.size ≤ 140737488351232 := by
      have := hz1 s1.data.toList.length (by simp [DataW.weights])
      rw [reach10] at this
      simpa using this
    exact finds_walk m A1 A2 A3 A4 c1 c2 c3 c4 s1 a2 AL cl l W hm hk (bounds_i64 w2) hl hL hli
  refine hcalls.mono fun e W' ⟨he, bel⟩ => ?_
  subst he
  have hargs := below_trodAll laidOut bel readable hkeep
  have hlen := trodAll_length hkeep
  match ds, hlen, hargs, hW' with
  | [e0, e1, e2, e3], _, hargs, hW' => exact ⟨_, rfl, _, _, _, [], _, [], hW', trodAll_mk1 (shut_bool Try.underlying4 _), hargs, rfl, bel.frame _, fun h => by cases h⟩

theorem over : Rows.modelFindsRow.holds Try.pinned (OpenSpec.ofChange Rows.modelFindsSpec) :=
  OpenClaim.holds_of_wide 4 Try.f4 rfl rfl rfl rfl rfl rfl rfl ⟨rfl, rfl, rfl, rfl, rfl⟩ rfl rfl rfl rfl rfl (by kernel_rfl) Try.func4 (by kernel_rfl)
    (of_decide_eq_true (by kernel_rfl)) (by unfold Func.isWrapper; first | (rw [if_pos (by decide +kernel)]; kernel_rfl) | (rw [if_neg (by decide +kernel)]; exact ⟨rfl, rfl⟩))
    (fun os started H enc _ => lifted os started H enc)
theorem proved : Rows.ModelFindsSaid := over
#print axioms proved
end Go.Proofs.Ytpdpimchchfocaa.modelFinds
