import Derived.Test.YtjjfdlgoacockaaGreatTMade
import Derived.Test.YtjjfdlgoacockaaGreatMath
import Derived.Test.YtjjfdlgoacockaaGreatBMsg
import Derived.Test.YtjjfdlgoacockaaGreatBRows
import Derived.Test.YtjjfdlgoacockaaGreatNMath
import Derived.Test.YtjjfdlgoacockaaGreatPWith
import Derived.Test.YtjjfdlgoacockaaGreatPAt
import Derived.Test.YtjjfdlgoacockaaGreatGRefTwo
import Derived.Test.YtjjfdlgoacockaaGreatWHigh
import Derived.Test.YtjjfdlgoacockaaGreatBuild
namespace Go.Proofs.YtjjfdlgoacockaaGreat
open Go.RowKit M1 M2 M9

end Go.Proofs.YtjjfdlgoacockaaGreat
namespace Go.Proofs.YtjjfdlgoacockaaGreat
open Go.RowKit M1 M2 M3 M9 M10 M11
open M7 (nm)

theorem n_name {P : World → Prop} {W : World} (h : P W) : ∃ W', W = W' ∧ P W' := ⟨W, rfl, h⟩
def AttRes (B : Nat) (r : Att × Nat) (w : World) (e : Ending) (w' : World) : Prop :=
  ∃ v, e = .returned (.tuple #[.agg #[.string r.1.name, .bool r.1.one, .int .i64 r.1.int, v], .int .i64 (r.2 : Int)]) ∧ w'.ownsRow B 2 1 v r.1.ints.length (iv r.1.ints) ∧ Below B w w'
theorem attrL_wire {l : List WFd} (h : (okF l 1 2 && okF l 3 0 && okF l 20 0) = false) : attrL l = (zA11, 3) := by unfold attrL; rw [if_pos h]
theorem attrL_rows {l : List WFd} {R : List Int} {C : Nat} (h : (okF l 1 2 && okF l 3 0 && okF l 20 0) = true) (hr : ints (ofNum l 8) [] = (R, C)) (hC : C ≠ 0) : attrL l = (zA11, C) := by
  unfold attrL; rw [if_neg (by simp [h]), hr, if_pos hC]
theorem attrL_name {l : List WFd} {R : List Int} (h : (okF l 1 2 && okF l 3 0 && okF l 20 0) = true) (hr : ints (ofNum l 8) [] = (R, 0)) (hn : nm (lastF l 1).data = false) : attrL l = (zA11, 8) := by
  unfold attrL; rw [if_neg (by simp [h]), hr, if_neg (by simp), if_pos hn]
theorem attrL_two {l : List WFd} {R : List Int} (h : (okF l 1 2 && okF l 3 0 && okF l 20 0) = true) (hr : ints (ofNum l 8) [] = (R, 0)) (hn : nm (lastF l 1).data = true) (h2 : (lastF l 20).n = 2) : attrL l = (⟨(lastF l 1).data, true, sg (lastF l 3).n, []⟩, 0) := by
  unfold attrL; rw [if_neg (by simp [h]), hr, if_neg (by simp), if_neg (by simp [hn]), if_pos h2]
theorem attrL_seven {l : List WFd} {R : List Int} (h : (okF l 1 2 && okF l 3 0 && okF l 20 0) = true) (hr : ints (ofNum l 8) [] = (R, 0)) (hn : nm (lastF l 1).data = true) (h7 : (lastF l 20).n = 7) : attrL l = (⟨(lastF l 1).data, false, 0, R⟩, 0) := by
  unfold attrL; rw [if_neg (by simp [h]), hr, if_neg (by simp), if_neg (by simp [hn]), if_neg (by omega), if_pos h7]
theorem attrL_other {l : List WFd} {R : List Int} (h : (okF l 1 2 && okF l 3 0 && okF l 20 0) = true) (hr : ints (ofNum l 8) [] = (R, 0)) (hn : nm (lastF l 1).data = true) (h2 : (lastF l 20).n ≠ 2) (h7 : (lastF l 20).n ≠ 7) : attrL l = (zA11, 12) := by
  unfold attrL; rw [if_neg (by simp [h]), hr, if_neg (by simp), if_neg (by simp [hn]), if_neg h2, if_neg h7]
end Go.Proofs.YtjjfdlgoacockaaGreat
namespace Go.Proofs.YtjjfdlgoacockaaGreat
open Go.RowKit M1 M2 M3 M9 M10 M11
open M7 (nm)

def orC (F c : Nat) : Nat := if F = 0 then c else F
def nt (h : Bool) (e : Nat) : Nat := if h then 0 else e
theorem orC_no {F : Nat} (c : Nat) (h : F ≠ 0) : orC F c = F := by unfold orC; rw [if_neg h]
theorem orC_yes (c : Nat) : orC 0 c = c := rfl
theorem orC_iff {F c : Nat} : orC F c = 0 ↔ F = 0 ∧ c = 0 := by unfold orC; split <;> omega
theorem nt_iff {h : Bool} {e : Nat} (he : e ≠ 0) : nt h e = 0 ↔ h = true := by unfold nt; cases h <;> simp [he]
theorem orC_zero (F : Nat) : orC F 0 = F := by unfold orC; split <;> omega
def n_Msg (g : Nat) (v : Value) (F : Nat) (W : World) : Prop := W.heap[g]? = some (.cells #[v, .int .i64 (F : Int)] 209 (0, 0))
def Stp (g : Nat) (W W' : World) : Prop := W.grownBy W' (some g)
theorem Stp.refl (g : Nat) (W : World) : Stp g W W := World.grownBy.refl W _
theorem Stp.trans {g : Nat} {a b c : World} (h : Stp g a b) (k : Stp g b c) : Stp g a c :=
  ⟨k.os.trans h.os, k.tape.trans h.tape, k.output.trans h.output, Nat.le_trans h.size k.size, fun i hi hr => (k.block i (Nat.lt_of_lt_of_le hi h.size) hr).trans (h.block i hi hr)⟩
theorem Stp.of {g : Nat} {a b : World} (h : Below a.heap.size a b) : Stp g a b := ⟨h.os, h.tape, h.output, h.size, fun i hi _ => h.block i hi⟩
theorem Stp.put {g b : Nat} {a W : World} (h : Stp g a W) (hb : a.heap.size ≤ b) (i : Nat) (u : Value) : Stp g a (W.setCell ⟨b, i, none⟩ u) :=
  ⟨h.os, h.tape, h.output, by have := h.size; simpa [World.setCell] using this, fun k hk hr => (heap_setCell_other W ⟨b, i, none⟩ k u (by show k ≠ b; omega)).trans (h.block k hk hr)⟩
theorem own_stp {g B size n : Nat} {e : TypeId} {v u : Value} {F : Nat} {xs : List Value} {W W' : World} (h : W.ownsRow B e size v n xs) (hm : n_Msg g u F W) (he : 209 ≠ e) (hs : Stp g W W') : W'.ownsRow B e size v n xs :=
  h.kept hs (.inr (own_far h hm he))
theorem n_Msg.lt {g : Nat} {v : Value} {F : Nat} {W : World} (h : n_Msg g v F W) : g < W.heap.size := blk_lt h
theorem n_Msg.below {g : Nat} {v : Value} {F : Nat} {W W' : World} (h : n_Msg g v F W) (hb : Below W.heap.size W W') : n_Msg g v F W' := (hb.block g h.lt).trans h
theorem n_Msg.far {g b : Nat} {v : Value} {F : Nat} {W : World} (h : n_Msg g v F W) (hb : g ≠ b) (i : Nat) (u : Value) : n_Msg g v F (W.setCell ⟨b, i, none⟩ u) := heap_far h u hb
theorem n_Msg.start (w : World) (v : Value) (F : Nat) : n_Msg w.heap.size v F (w.alloc (.cells #[v, .int .i64 (F : Int)] 209)) := heap_alloc_new w _
theorem n_Msg.c0 {g : Nat} {v : Value} {F : Nat} {W : World} (h : n_Msg g v F W) : W.cell? ⟨g, 0, none⟩ = some v := cell_of_row _ _ 0 _ _ _ h
theorem n_Msg.c1 {g : Nat} {v : Value} {F : Nat} {W : World} (h : n_Msg g v F W) : W.cell? ⟨g, 1, none⟩ = some (.int .i64 (F : Int)) := cell_of_row _ _ 1 _ _ _ h
theorem n_Msg.free {g : Nat} {v : Value} {F : Nat} {W : World} (h : n_Msg g v F W) (i : Nat) : W.frozen? ⟨g, i, none⟩ = false := frozen_of_row _ _ _ _ _ h
structure Ms (g B : Nat) (A : Option Addr) (c : Nat) (L : List WFd) (F : Nat) (W : World) : Prop where
  msg : n_Msg g (.slice A L.length c) F W
  own : W.ownsRow B 184 4 (.slice A L.length c) L.length (fcs L)
section
variable {g B c : Nat} {A : Option Addr} {L : List WFd} {F F' : Nat} {W W' : World}
theorem Ms.sr (h : Ms g B A c L F W) : SR W W.heap.size 4 A L.length (fcs L) := SR.of_own h.own
theorem Ms.below (h : Ms g B A c L F W) (hb : Below W.heap.size W W') : Ms g B A c L F W' := ⟨h.msg.below hb, own_keep h.own hb⟩
theorem Ms.step (h : Ms g B A c L F W) (hm : n_Msg g (.slice A L.length c) F' W') (hs : Stp g W W') : Ms g B A c L F' W' := ⟨hm, own_stp h.own h.msg (by decide) hs⟩
end

set_option maxRecDepth 100000 in
theorem open_any (b : ByteArray) (w : World) (hb : b.size ≤ maxLen) :
    Calls Tryz.prog 112 #[.string b] w fun e w' => ∃ A c, e = .returned (.agg #[.slice A (fields b).1.length c, .int .i64 ((fields b).2 : Int)]) ∧ w'.ownsRow w.heap.size 184 4 (.slice A (fields b).1.length c) (fields b).1.length (fcs (fields b).1) ∧ Below w.heap.size w w' := by
  have HX0 := Lib.hid (Bx.start w #[.slice none 0 0, .int .i64 0] 209)
  have HF := Lib.hid (fun W => fields_any b W hb)
  generalize fields b = FF at *
  obtain ⟨L, C⟩ := FF
  dsimp only at *
  go_enter Tryz.func112, Tryz.ntmps112
  go_wp2_with fail
  refine (HF.out _).mono ?_
  rintro e w1 ⟨v1, rfl, hown, hb1⟩
  obtain ⟨a1, c1, rfl, -, -⟩ := own_form hown
  have HX1 := Lib.hid (HX0.out.below hb1)
  have HO := Lib.hid (own_base hown HX0.out.all.size)
  clear hb1 hown HF HX0
  obtain ⟨z0, z1⟩ : w1.cell? ⟨w.heap.size, 0, none⟩ = some (.slice none 0 0) ∧ w1.cell? ⟨w.heap.size, 1, none⟩ = some (.int .i64 0) := ⟨HX1.out.cell 0, HX1.out.cell 1⟩
  have zf := fun i => HX1.out.free i
  obtain ⟨wE, hE, hxE⟩ := n_name (P := fun W => Bx w w.heap.size #[.slice a1 L.length c1, .int .i64 (C : Int)] 209 W ∧ W.ownsRow w.heap.size 184 4 (.slice a1 L.length c1) L.length (fcs L)) (W := (w1.setCell ⟨w.heap.size, 0, none⟩ (.slice a1 L.length c1)).setCell ⟨w.heap.size, 1, none⟩ (.int .i64 (C : Int)))
    ⟨(HX1.out.set (Nat.le_refl _) 0 (.slice a1 L.length c1)).set (Nat.le_refl _) 1 (.int .i64 (C : Int)), own_set (own_set HO.out (own_far HO.out HX1.out.1 (by decide)) 0 _) (own_far (own_set HO.out (own_far HO.out HX1.out.1 (by decide)) 0 (.slice a1 L.length c1)) (HX1.out.set (Nat.le_refl _) 0 (.slice a1 L.length c1)).1 (by decide)) 1 _⟩
  have HXE := Lib.hid hxE
  clear hxE
  go_wp2_with fail
  have e0 := HXE.out.1.cell 0
  have e1 := HXE.out.1.cell 1
  exact bodyPost_ret (v := .agg #[.slice a1 L.length c1, .int .i64 (C : Int)]) (by simp [results, Tryz.results112, go_sem, e0, e1]) rfl ⟨a1, c1, rfl, HXE.out.2, HXE.out.1.all⟩

theorem msg_put {g : Nat} {v : Value} {F : Nat} {W : World} (h : n_Msg g v F W) (e : Nat) : n_Msg g v e (W.setCell ⟨g, 1, none⟩ (.int .i64 (e : Int))) ∧ Stp g W (W.setCell ⟨g, 1, none⟩ (.int .i64 (e : Int))) :=
  ⟨heap_setCell_same W g 1 _ _ _ h, ⟨rfl, rfl, rfl, by simp [World.setCell], fun k _ hk => Below.heap_setCell _ _ _ _ (fun e => hk (by simp [e]))⟩⟩

set_option maxRecDepth 100000 in
theorem must_any (g : Nat) (v : Value) (F : Nat) (h : Bool) (e : Nat) (w : World) (hm : n_Msg g v F w) :
    Calls Tryz.prog 115 #[.pointer (some ⟨g, 0, none⟩), .bool h, .int .i64 (e : Int)] w fun en w' => en = .returned (.tuple #[]) ∧ n_Msg g v (orC F (nt h e)) w' ∧ Stp g w w' := by
  have c1 := hm.c1
  have cf := fun i => hm.free i
  by_cases hF : F = 0
  · subst hF
    cases h
    · have HP := Lib.hid (msg_put hm e)
      clear hm
      rw [Int.natCast_zero] at c1
      go_enter Tryz.func115, Tryz.ntmps115
      go_wp2_with fail
      go_end0
      exact ⟨rfl, HP.out.1, HP.out.2⟩
    · have HP := Lib.hid hm
      clear hm
      rw [Int.natCast_zero] at c1
      go_enter Tryz.func115, Tryz.ntmps115
      go_wp2_with fail
      go_end0
      exact ⟨rfl, HP.out, Stp.refl _ _⟩
  · have hFb : ((F : Int) == 0) = false := by rw [beq_eq_false_iff_ne]; omega
    have HP := Lib.hid hm
    have HE := Lib.hid (orC_no (nt h e) hF)
    clear hm hF
    go_enter Tryz.func115, Tryz.ntmps115
    go_wp2_with fail
    go_end0
    rw [HE.out]
    exact ⟨rfl, HP.out, Stp.refl _ _⟩
end Go.Proofs.YtjjfdlgoacockaaGreat
namespace Go.Proofs.YtjjfdlgoacockaaGreat
open Go.RowKit M1 M2 M3 M9 M10 M11
open M7 (nm)

theorem stp_put4 {g b : Nat} {a W : World} (h : Stp g a W) (hb : a.heap.size ≤ b) (v0 v1 v2 v3 : Value) : Stp g a ((((W.setCell ⟨b, 0, none⟩ v0).setCell ⟨b, 1, none⟩ v1).setCell ⟨b, 2, none⟩ v2).setCell ⟨b, 3, none⟩ v3) :=
  (((h.put hb 0 v0).put hb 1 v1).put hb 2 v2).put hb 3 v3
theorem msg_far4 {g b : Nat} {v : Value} {F : Nat} {W : World} (h : n_Msg g v F W) (hb : g ≠ b) (v0 v1 v2 v3 : Value) : n_Msg g v F ((((W.setCell ⟨b, 0, none⟩ v0).setCell ⟨b, 1, none⟩ v1).setCell ⟨b, 2, none⟩ v2).setCell ⟨b, 3, none⟩ v3) :=
  (((h.far hb 0 v0).far hb 1 v1).far hb 2 v2).far hb 3 v3

set_option maxRecDepth 100000 in
set_option maxHeartbeats 1000000 in
theorem n_last_any (g B : Nat) (A : Option Addr) (c : Nat) (L : List WFd) (num typ : Int) (F : Nat) (w : World) (hm : Ms g B A c L F w) (hl : L.length ≤ 1048576) :
    Calls Tryz.prog 156 #[.pointer (some ⟨g, 0, none⟩), .int .i64 num, .int .i64 typ] w fun e w' => e = .returned (.agg #[.int .i64 (lastF L num).num, .int .i64 (lastF L num).typ, .int .u64 ((lastF L num).n : Int), .string (lastF L num).data]) ∧ n_Msg g (.slice A L.length c) (orC F (nt (okF L num typ) 3)) w' ∧ Stp g w w' := by
  have HX0 := Lib.hid (Bx.start w #[.int .i64 0, .int .i64 0, .int .u64 0, .string ⟨#[]⟩] 184)
  have HL := Lib.hid (last_any A c L num (w.alloc (.cells #[.int .i64 0, .int .i64 0, .int .u64 0, .string ⟨#[]⟩] 184)) (by omega) (hm.below ((Below.refl _ _).alloc (Nat.le_refl _) _)).sr)
  have hmsg0 := hm.msg.below ((Below.refl w.heap.size w).alloc (Nat.le_refl _) (.cells #[.int .i64 0, .int .i64 0, .int .u64 0, .string ⟨#[]⟩] 184))
  have HM0 := Lib.hid hmsg0
  have HGL := Lib.hid hm.msg.lt
  have c0 := hmsg0.c0
  have c1 := hmsg0.c1
  have hyes := okF_yes (l := L) (num := num) (typ := typ)
  have hno := okF_no (l := L) (num := num) (typ := typ)
  clear hm hmsg0
  generalize lastF L num = f at *
  obtain ⟨fnum, ftyp, fn, fdata⟩ := f
  simp only [fc] at HL
  go_enter Tryz.func156, Tryz.ntmps156
  go_wp2_with fail
  clear c0 c1
  refine HL.out.mono ?_
  rintro e w1 ⟨rfl, hb1⟩
  have HX1 := Lib.hid ((HX0.out.below hb1).more (.cells #[.int .i64 fnum, .int .i64 ftyp, .int .u64 (fn : Int), .string fdata] 184))
  have HG1 := Lib.hid ((HX0.out.below hb1).next #[.int .i64 fnum, .int .i64 ftyp, .int .u64 (fn : Int), .string fdata] 184)
  have HM1 := Lib.hid ((HM0.out.below hb1).below ((Below.refl w1.heap.size w1).alloc (Nat.le_refl _) (.cells #[.int .i64 fnum, .int .i64 ftyp, .int .u64 (fn : Int), .string fdata] 184)))
  have HZ1 : Hid (w.heap.size < w1.heap.size) := Lib.hid (by have := hb1.size; have : (w.alloc (.cells #[.int .i64 0, .int .i64 0, .int .u64 0, .string ⟨#[]⟩] 184)).heap.size = w.heap.size + 1 := by simp
                                                             omega)
  clear hb1 HL HX0 HM0
  have fin : ∀ (W : World) (F' : Nat), n_Msg g (.slice A L.length c) F' W → Stp g (w1.alloc (.cells #[.int .i64 fnum, .int .i64 ftyp, .int .u64 (fn : Int), .string fdata] 184)) W →
      (W.heap[w1.heap.size]? = some (.cells #[.int .i64 fnum, .int .i64 ftyp, .int .u64 (fn : Int), .string fdata] 184 (0, 0)) ∧ W.heap[w.heap.size]? = some (.cells #[.int .i64 0, .int .i64 0, .int .u64 0, .string ⟨#[]⟩] 184 (0, 0)) ∧ Stp g w W ∧ n_Msg g (.slice A L.length c) F' W) := by
    intro W F' h1 h2
    have hg := HGL.out
    have hz := HZ1.out
    exact ⟨blk_grown HG1.out.1 h2 (by intro e; cases e; omega), blk_grown HX1.out.1 h2 (by intro e; cases e; omega), (Stp.of HX1.out.all).trans h2, h1⟩
  have FIN := Lib.hid fin
  clear fin
  have HMU := Lib.hid (fun h => must_any g (.slice A L.length c) F h 3 _ HM1.out)
  have key : ∀ (W : World) (F' : Nat), (W.heap[w1.heap.size]? = some (.cells #[.int .i64 fnum, .int .i64 ftyp, .int .u64 (fn : Int), .string fdata] 184 (0, 0)) ∧ W.heap[w.heap.size]? = some (.cells #[.int .i64 0, .int .i64 0, .int .u64 0, .string ⟨#[]⟩] 184 (0, 0)) ∧ Stp g w W ∧ n_Msg g (.slice A L.length c) F' W) →
      (((((W.setCell ⟨w.heap.size, 0, none⟩ (.int .i64 fnum)).setCell ⟨w.heap.size, 1, none⟩ (.int .i64 ftyp)).setCell ⟨w.heap.size, 2, none⟩ (.int .u64 (fn : Int))).setCell ⟨w.heap.size, 3, none⟩ (.string fdata)).heap[w.heap.size]? = some (.cells #[.int .i64 fnum, .int .i64 ftyp, .int .u64 (fn : Int), .string fdata] 184 (0, 0))
        ∧ n_Msg g (.slice A L.length c) F' ((((W.setCell ⟨w.heap.size, 0, none⟩ (.int .i64 fnum)).setCell ⟨w.heap.size, 1, none⟩ (.int .i64 ftyp)).setCell ⟨w.heap.size, 2, none⟩ (.int .u64 (fn : Int))).setCell ⟨w.heap.size, 3, none⟩ (.string fdata))
        ∧ Stp g w ((((W.setCell ⟨w.heap.size, 0, none⟩ (.int .i64 fnum)).setCell ⟨w.heap.size, 1, none⟩ (.int .i64 ftyp)).setCell ⟨w.heap.size, 2, none⟩ (.int .u64 (fn : Int))).setCell ⟨w.heap.size, 3, none⟩ (.string fdata))) := by
    intro W F' ⟨_, h2, h3, h4⟩
    exact ⟨set4 h2 _ _ _ _, msg_far4 h4 (by have := HGL.out; omega) _ _ _ _, stp_put4 h3 (Nat.le_refl _) _ _ _ _⟩
  have KEY := Lib.hid key
  clear key HX1 HG1 HM1
  by_cases hn : ofNum L num = []
  · have hd : decide (ofNum L num ≠ []) = false := by simp [hn]
    rw [hd]
    have HO := Lib.hid (hno hn)
    clear hn hd hyes hno
    go_wp2_with fail
    refine (HMU.out _).mono ?_
    rintro e w3 ⟨rfl, hmsg3, hstp3⟩
    have h4 := FIN.out w3 _ hmsg3 hstp3
    obtain ⟨c0, c1, c2, c3⟩ := cells_of4 h4.1
    obtain ⟨z0, z1, z2, z3⟩ := cells_of4 h4.2.1
    have zf := fun i => frozen_of_row _ _ i _ _ h4.2.1
    obtain ⟨w4, hw4, h5⟩ := n_name (P := fun W => W.heap[w.heap.size]? = some (.cells #[.int .i64 fnum, .int .i64 ftyp, .int .u64 (fn : Int), .string fdata] 184 (0, 0)) ∧ n_Msg g (.slice A L.length c) (orC F (nt true 3)) W ∧ Stp g w W) (KEY.out w3 _ h4)
    have H5 := Lib.hid h5
    clear hmsg3 hstp3 h4 h5 KEY HMU FIN
    go_wp2_with fail
    obtain ⟨q0, q1, q2, q3⟩ := cells_of4 H5.out.1
    rw [HO.out]
    exact bodyPost_ret (v := .agg #[.int .i64 fnum, .int .i64 ftyp, .int .u64 fn, .string fdata]) (by simp [results, Tryz.results156, go_sem, q0, q1, q2, q3]) rfl ⟨rfl, H5.out.2.1, H5.out.2.2⟩
  · have hd : decide (ofNum L num ≠ []) = true := by simp [hn]
    rw [hd]
    have HO := Lib.hid (show okF L num typ = (ftyp == typ) by rw [hyes hn, Bool.eq_iff_iff]; simp)
    clear hn hd hyes hno
    go_wp2_with fail
    refine (HMU.out _).mono ?_
    rintro e w3 ⟨rfl, hmsg3, hstp3⟩
    have h4 := FIN.out w3 _ hmsg3 hstp3
    obtain ⟨c0, c1, c2, c3⟩ := cells_of4 h4.1
    obtain ⟨z0, z1, z2, z3⟩ := cells_of4 h4.2.1
    have zf := fun i => frozen_of_row _ _ i _ _ h4.2.1
    obtain ⟨w4, hw4, h5⟩ := n_name (P := fun W => W.heap[w.heap.size]? = some (.cells #[.int .i64 fnum, .int .i64 ftyp, .int .u64 (fn : Int), .string fdata] 184 (0, 0)) ∧ n_Msg g (.slice A L.length c) (orC F (nt (ftyp == typ) 3)) W ∧ Stp g w W) (KEY.out w3 _ h4)
    have H5 := Lib.hid h5
    clear hmsg3 hstp3 h4 h5 KEY HMU FIN
    go_wp2_with fail
    obtain ⟨q0, q1, q2, q3⟩ := cells_of4 H5.out.1
    rw [HO.out]
    exact bodyPost_ret (v := .agg #[.int .i64 fnum, .int .i64 ftyp, .int .u64 fn, .string fdata]) (by simp [results, Tryz.results156, go_sem, q0, q1, q2, q3]) rfl ⟨rfl, H5.out.2.1, H5.out.2.2⟩

theorem fldField2 (a b d : Value) (n : Nat) (w : World) : (Instr.field 184 (.agg #[a, b, .int .u64 (n : Int), d]) 2).run Tryz.prog w = .ok (.int .u64 (n : Int)) w := by kernel_rfl
theorem fldField3 (a b c : Value) (s : ByteArray) (w : World) : (Instr.field 184 (.agg #[a, b, c, .string s]) 3).run Tryz.prog w = .ok (.string s) w := by kernel_rfl
set_option maxRecDepth 100000 in
theorem n_numberOf_any (g B : Nat) (A : Option Addr) (c : Nat) (L : List WFd) (num : Int) (F : Nat) (w : World) (hm : Ms g B A c L F w) (hl : L.length ≤ 1048576) :
    Calls Tryz.prog 122 #[.pointer (some ⟨g, 0, none⟩), .int .i64 num] w fun e w' => e = .returned (.int .u64 ((lastF L num).n : Int)) ∧ n_Msg g (.slice A L.length c) (orC F (nt (okF L num 0) 3)) w' ∧ Stp g w w' := by
  have HL := Lib.hid (n_last_any g B A c L num 0 F w hm hl)
  clear hm
  generalize lastF L num = f at *
  obtain ⟨fnum, ftyp, fn, fdata⟩ := f
  go_enter Tryz.func122, Tryz.ntmps122
  go_wp2_with fail
  refine HL.out.mono ?_
  rintro e w1 ⟨rfl, h1, h2⟩
  have HO := Lib.hid (And.intro h1 h2)
  have hfd := fldField2 (.int .i64 fnum) (.int .i64 ftyp) (.string fdata) fn w1
  clear h1 h2 HL
  go_wp2_with fail
  go_ret
  exact ⟨rfl, HO.out.1, HO.out.2⟩
set_option maxRecDepth 100000 in
theorem textOf_any (g B : Nat) (A : Option Addr) (c : Nat) (L : List WFd) (num : Int) (F : Nat) (w : World) (hm : Ms g B A c L F w) (hl : L.length ≤ 1048576) :
    Calls Tryz.prog 114 #[.pointer (some ⟨g, 0, none⟩), .int .i64 num] w fun e w' => e = .returned (.string (lastF L num).data) ∧ n_Msg g (.slice A L.length c) (orC F (nt (okF L num 2) 3)) w' ∧ Stp g w w' := by
  have HL := Lib.hid (n_last_any g B A c L num 2 F w hm hl)
  clear hm
  generalize lastF L num = f at *
  obtain ⟨fnum, ftyp, fn, fdata⟩ := f
  go_enter Tryz.func114, Tryz.ntmps114
  go_wp2_with fail
  refine HL.out.mono ?_
  rintro e w1 ⟨rfl, h1, h2⟩
  have HO := Lib.hid (And.intro h1 h2)
  have hfd := fldField3 (.int .i64 fnum) (.int .i64 ftyp) (.int .u64 (fn : Int)) fdata w1
  clear h1 h2 HL
  go_wp2_with fail
  go_ret
  exact ⟨rfl, HO.out.1, HO.out.2⟩
theorem nt_code (C : Nat) : nt (((C : Nat) : Int) == 0) C = C := by
  unfold nt
  by_cases h : C = 0
  · subst h; rfl
  · rw [if_neg (by simpa using h)]
set_option maxRecDepth 100000 in
theorem textsOf_any (g B : Nat) (A : Option Addr) (c : Nat) (L : List WFd) (num : Int) (F : Nat) (w : World) (hm : Ms g B A c L F w) (hl : L.length ≤ 1048576) :
    Calls Tryz.prog 113 #[.pointer (some ⟨g, 0, none⟩), .int .i64 num] w fun e w' => ∃ U k, e = .returned (.slice U (txts (ofNum L num) []).1.length k) ∧ w'.ownsRow w.heap.size 9 1 (.slice U (txts (ofNum L num) []).1.length k) (txts (ofNum L num) []).1.length (p_tv (txts (ofNum L num) []).1) ∧ n_Msg g (.slice A L.length c) (orC F (txts (ofNum L num) []).2) w' ∧ Stp g w w' := by
  have HT := Lib.hid (texts_any A c L num w (by omega) hm.sr)
  have c0 := hm.msg.c0
  have HM := Lib.hid hm.msg
  clear hm
  generalize txts (ofNum L num) [] = R at *
  obtain ⟨ts, C⟩ := R
  dsimp only at *
  have HC := Lib.hid (nt_code C)
  go_enter Tryz.func113, Tryz.ntmps113
  go_wp2_with fail
  refine HT.out.mono ?_
  rintro e w1 ⟨v, rfl, hown, hb1⟩
  obtain ⟨va, vc, rfl, -, -⟩ := own_form hown
  have HU := Lib.hid (fun h => must_any g (.slice A L.length c) F h C w1 (HM.out.below hb1))
  have HO := Lib.hid (And.intro hown (And.intro (HM.out.below hb1) hb1))
  clear hown hb1 HT c0
  go_wp2_with fail
  refine (HU.out _).mono ?_
  rintro e w2 ⟨rfl, h1, h2⟩
  rw [HC.out] at h1
  have HR := Lib.hid (And.intro (own_stp HO.out.1 HO.out.2.1 (by decide) h2) (And.intro h1 ((Stp.of HO.out.2.2).trans h2)))
  clear h1 h2 HU
  go_wp2_with fail
  go_ret
  exact ⟨va, vc, rfl, HR.out.1, HR.out.2.1, HR.out.2.2⟩
set_option maxRecDepth 100000 in
theorem rowOf_any (g B : Nat) (A : Option Addr) (c : Nat) (L : List WFd) (num : Int) (F : Nat) (w : World) (hm : Ms g B A c L F w) (hl : L.length ≤ 1048576) (hok : ∀ f ∈ L, FOk f) :
    Calls Tryz.prog 177 #[.pointer (some ⟨g, 0, none⟩), .int .i64 num] w fun e w' => ∃ U k, e = .returned (.slice U (ints (ofNum L num) []).1.length k) ∧ w'.ownsRow w.heap.size 2 1 (.slice U (ints (ofNum L num) []).1.length k) (ints (ofNum L num) []).1.length (iv (ints (ofNum L num) []).1) ∧ n_Msg g (.slice A L.length c) (orC F (ints (ofNum L num) []).2) w' ∧ Stp g w w' := by
  have HT := Lib.hid (ints_any A c L num w (by omega) hm.sr hok)
  have c0 := hm.msg.c0
  have HM := Lib.hid hm.msg
  clear hm
  generalize ints (ofNum L num) [] = R at *
  obtain ⟨ts, C⟩ := R
  dsimp only at *
  have HC := Lib.hid (nt_code C)
  go_enter Tryz.func177, Tryz.ntmps177
  go_wp2_with fail
  refine HT.out.mono ?_
  rintro e w1 ⟨v, rfl, hown, hb1⟩
  obtain ⟨va, vc, rfl, -, -⟩ := own_form hown
  have HU := Lib.hid (fun h => must_any g (.slice A L.length c) F h C w1 (HM.out.below hb1))
  have HO := Lib.hid (And.intro hown (And.intro (HM.out.below hb1) hb1))
  clear hown hb1 HT c0
  go_wp2_with fail
  refine (HU.out _).mono ?_
  rintro e w2 ⟨rfl, h1, h2⟩
  rw [HC.out] at h1
  have HR := Lib.hid (And.intro (own_stp HO.out.1 HO.out.2.1 (by decide) h2) (And.intro h1 ((Stp.of HO.out.2.2).trans h2)))
  clear h1 h2 HU
  go_wp2_with fail
  go_ret
  exact ⟨va, vc, rfl, HR.out.1, HR.out.2.1, HR.out.2.2⟩
end Go.Proofs.YtjjfdlgoacockaaGreat
namespace Go.Proofs.YtjjfdlgoacockaaGreat
open Go.RowKit M1 M2 M3 M9 M10 M11
open M7 (nm)

theorem joined_snoc (l : List ByteArray) (s : ByteArray) : joined (l ++ [s]) = joined l ++ s := by unfold joined; rw [List.foldl_append]; rfl
theorem fold_size : ∀ (l : List ByteArray) (t : ByteArray), (∀ s ∈ l, s.size ≤ 1048576) → (l.foldl (fun s t => s ++ t) t).size ≤ t.size + l.length * 1048576
  | [], t, _ => by simp
  | s :: l, t, h => by
    have h1 := fold_size l (t ++ s) fun x hx => h x (List.mem_cons_of_mem _ hx)
    have h2 := h s List.mem_cons_self
    rw [ByteArray.size_append] at h1
    rw [List.foldl_cons, List.length_cons]
    omega
theorem joined_size {l : List ByteArray} (h : ∀ s ∈ l, s.size ≤ 1048576) : (joined l).size ≤ l.length * 1048576 := by
  have h1 := fold_size l ⟨#[]⟩ h
  have e : (⟨#[]⟩ : ByteArray).size = 0 := rfl
  unfold joined
  omega
theorem n_txt_at {w : World} {B : Nat} {A : Option Addr} {l : List ByteArray} (h : SR w B 1 A l.length (p_tv l)) {k : Nat} (hk : k < l.length) :
    ∃ b o, A = some ⟨b, o, none⟩ ∧ b < B ∧ w.cell? ⟨b, o + k, none⟩ = some (.string l[k]) := cell_at h hk (by simp [p_tv, hk])
theorem txts_mem : ∀ (l : List WFd) (acc : List ByteArray), (∀ f ∈ l, f.data.size ≤ 1048576) → (∀ s ∈ acc, s.size ≤ 1048576) → ∀ s ∈ (txts l acc).1, s.size ≤ 1048576
  | [], acc, _, ha, s, hs => ha s hs
  | f :: l, acc, hl, ha, s, hs => by
    rw [txts] at hs
    split at hs
    · simp at hs
    · refine txts_mem l _ (fun g hg => hl g (List.mem_cons_of_mem _ hg)) (fun t ht => ?_) s hs
      rcases List.mem_append.1 ht with h1 | h1
      · exact ha t h1
      · simp at h1; rw [h1]; exact hl f List.mem_cons_self

end Go.Proofs.YtjjfdlgoacockaaGreat
namespace Go.Proofs.YtjjfdlgoacockaaGreat
open Go.RowKit M1 M2 M3 M9 M10 M11
open M7 (nm)

theorem n_joined_one (s : ByteArray) : joined [s] = s := by
  show (⟨#[]⟩ : ByteArray) ++ s = s
  exact ByteArray.ext (by simp)
theorem joined_list (l : List ByteArray) (s : ByteArray) : (joined (l ++ [s])).data.toList = (joined l).data.toList ++ s.data.toList := by
  rw [joined_snoc]; simp [ByteArray.data_append]
theorem joined_take {l : List ByteArray} {k : Nat} (h : k < l.length) : (joined (l.take k)).data.toList ++ l[k].data.toList = (joined (l.take (k + 1))).data.toList := by
  rw [List.take_succ_eq_append_getElem h, joined_list]
theorem joined_len (b : ByteArray) : b.data.toList.length = b.size := by rw [Array.length_toList]; rfl
theorem joined_back (b : ByteArray) : (⟨b.data.toList.toArray⟩ : ByteArray) = b := ByteArray.ext (by simp)

set_option maxRecDepth 100000 in
set_option maxHeartbeats 2000000 in
theorem join_any (A : Option Addr) (c : Nat) (l : List ByteArray) (w : World) (hl : l.length ≤ 1048576) (hc : l.length ≤ c) (hs : ∀ s ∈ l, s.size ≤ 1048576) (ha : SR w w.heap.size 1 A l.length (p_tv l)) :
    Calls Tryz.prog 23 #[.slice A l.length c, .string ⟨#[]⟩] w fun e w' => e = .returned (.string (joined l)) ∧ Below w.heap.size w w' := by
  by_cases h0 : l.length = 0
  · have : l = [] := by simpa using h0
    subst this
    clear h0 ha hs hc
    go_enter Tryz.func23, Tryz.ntmps23
    go_wp2_with fail
    go_ret
    exact ⟨rfl, Below.refl _ _⟩
  by_cases h1 : l.length = 1
  · obtain ⟨s, rfl⟩ := List.length_eq_one_iff.1 h1
    obtain ⟨b, o, rfl, hb, x0⟩ := n_txt_at ha (k := 0) (by simp)
    have HJ := Lib.hid (n_joined_one s)
    clear h0 h1 ha hs hl
    simp only [List.getElem_cons_zero, List.length_singleton, Nat.add_zero] at *
    go_enter Tryz.func23, Tryz.ntmps23
    go_wp2_with fail
    go_ret
    rw [HJ.out]
    exact ⟨rfl, Below.refl _ _⟩
  have h0' : ((l.length : Int) == 0) = false := by rw [beq_eq_false_iff_ne]; omega
  have h1' : ((l.length : Int) == 1) = false := by rw [beq_eq_false_iff_ne]; omega
  have HL2 := Lib.hid (show 2 ≤ l.length by omega)
  have HA := Lib.hid ha
  have HS := Lib.hid hs
  have HC := Lib.hid hc
  have HZ : Hid (∀ k, (joined (l.take k)).size ≤ 1099511627776) := Lib.hid fun k => by
    have h1 := joined_size (l := l.take k) fun s h => hs s (List.mem_of_mem_take h)
    have h2 : (l.take k).length ≤ 1048576 := by simp; omega
    omega
  clear h0 h1 ha hs hc
  go_enter Tryz.func23, Tryz.ntmps23
  go_wp2_with fail
  go_loopw [5, 41] (fun n i wr => ∃ (k : Nat) (K N : Int), i = .int .i64 K ∧ n = .int .i64 N ∧ K = (k : Nat) ∧ N = ((joined (l.take k)).size : Nat) ∧ k ≤ l.length ∧ w = wr) (fun _ i _ => l.length - (intOf i).toNat)
  case atStart => exact ⟨0, _, _, rfl, rfl, rfl, rfl, by omega, rfl⟩
  case round =>
    obtain ⟨k, K, N, rfl, rfl, rfl, hN, hk, rfl⟩ := hrel
    have HN := Lib.hid hN
    have hNz := HZ.out k
    have hN0 : 0 ≤ N := by omega
    have hN1 : N ≤ 1099511627776 := by omega
    clear hN hNz
    by_cases hlt : k < l.length
    · obtain ⟨b, o, rfl, hb, x0⟩ := n_txt_at HA.out hlt
      have hsz := HS.out _ (List.getElem_mem hlt)
      have HN2 := Lib.hid (show N + (l[k].size : Int) = ((joined (l.take (k + 1))).size : Nat) by rw [List.take_succ_eq_append_getElem hlt, joined_snoc, ByteArray.size_append, HN.out]; omega)
      generalize l[k] = s at *
      have hd : decide ((9223372036854775807 : Int) - N < (s.size : Int)) = false := by simp; omega
      go_wp2_with fail
      go_roundw
      case rel => exact ⟨k + 1, _, _, rfl, rfl, by omega, HN2.out, by omega, trivial⟩
      case measure => simp [intOf]; omega
    · obtain rfl : k = l.length := by omega
      obtain ⟨M, rfl⟩ : ∃ M : Nat, N = (M : Int) := ⟨N.toNat, by omega⟩
      have HM : Hid (M ≤ 281474976710656) := Lib.hid (by omega)
      have HX := Lib.hid (Bx.start w #[.pointer none, .slice none 0 0] 115)
      have HG := Lib.hid (buildGrow_any w.heap.size w.heap.size M (w.alloc (.cells #[.pointer none, .slice none 0 0] 115)) (Nat.le_refl _) HX.out.1 HX.out.all.size HM.out)
      have h2 := HL2.out
      obtain ⟨b, o, rfl, hb, x0⟩ := n_txt_at HA.out (k := 0) (by omega)
      have HX0 := Lib.hid x0
      have hs0 := HS.out _ (List.getElem_mem (show 0 < l.length by omega))
      have HJ0 := Lib.hid (show (l[0]'(by omega)).data.toList = (joined (l.take 1)).data.toList by
        have := joined_take (l := l) (k := 0) (by omega)
        rw [← this]; simp [joined])
      clear x0 hN0 hN1 HN hlt hk
      generalize l[0]'(by omega) = s0 at *
      go_wp2_with fail
      refine HG.out.mono ?_
      rintro e w1 ⟨rfl, hbf, hb1⟩
      have HB1 := Lib.hid (HX.out.all.trans hb1)
      have x0 : w1.cell? ⟨b, o + 0, none⟩ = some (.string s0) := (HB1.out.cell (p := ⟨b, o + 0, none⟩) hb).trans HX0.out
      rw [Nat.add_zero] at x0
      have HW0 := Lib.hid (writeString_any w.heap.size w.heap.size [] s0 w1 hbf.f (by simp; omega) HB1.out.size)
      clear hbf hb1 HG
      go_wp2_with fail
      refine HW0.out.mono ?_
      rintro e w2 ⟨rfl, hbf, hb2⟩
      rw [List.nil_append, HJ0.out] at hbf
      have HBF := Lib.hid hbf
      have HB2 := Lib.hid (HB1.out.trans hb2)
      have hcc := HC.out
      clear hbf hb2 HW0 x0
      go_wp2_with fail
      go_loopw [65] (fun i wr => ∃ (k : Nat) (K : Int), i = .int .i64 K ∧ K = (k : Nat) ∧ k + 1 ≤ l.length ∧ BuildF w.heap.size w.heap.size (joined (l.take (k + 1))).data.toList wr ∧ Below w.heap.size w wr) (fun i _ => l.length - (intOf i).toNat)
      case atStart => exact ⟨0, _, rfl, rfl, by omega, HBF.out, HB2.out⟩
      case round =>
        obtain ⟨k, K, rfl, rfl, hk, hbf, hbw⟩ := hrel
        have HBW := Lib.hid hbw
        have HBF2 := Lib.hid hbf
        clear hbf
        by_cases hlt : k + 1 < l.length
        · obtain ⟨b2, o2, he, -, x1⟩ := n_txt_at (HA.out.below hbw) hlt
          simp only [Option.some.injEq, Addr.mk.injEq, and_true] at he
          obtain ⟨rfl, rfl⟩ := he
          rw [show o + (k + 1) = o + 1 + k by omega] at x1
          have hsk := HS.out _ (List.getElem_mem hlt)
          have HJ := Lib.hid (joined_take hlt)
          have hq := HZ.out (k + 1)
          rw [← joined_len] at hq
          clear hbw
          generalize l[k + 1] = s at *
          have hkl : (k : Int) < (l.length : Int) - 1 := by omega
          have HW1 := Lib.hid (writeString_any w.heap.size w.heap.size _ ⟨#[]⟩ wr HBF2.out (by have : (⟨#[]⟩ : ByteArray).size = 0 := rfl; omega) HBW.out.size)
          go_wp2_with fail
          refine HW1.out.mono ?_
          rintro e w3 ⟨rfl, hbf3, hb3⟩
          rw [List.append_nil] at hbf3
          have HB3 := Lib.hid (HBW.out.trans hb3)
          have HW2 := Lib.hid (writeString_any w.heap.size w.heap.size _ s w3 hbf3 (by omega) HB3.out.size)
          clear hbf3 hb3 HW1
          go_wp2_with fail
          refine HW2.out.mono ?_
          rintro e w4 ⟨rfl, hbf4, hb4⟩
          rw [HJ.out] at hbf4
          have HO := Lib.hid (And.intro hbf4 (HB3.out.trans hb4))
          clear hbf4 hb4 HW2
          go_wp2_with fail
          go_roundw
          case rel => exact ⟨k + 1, _, rfl, by omega, by omega, HO.out.1, HO.out.2⟩
          case measure => simp [intOf]; omega
        · have hk2 : k + 1 = l.length := by omega
          have hkl : ¬ (k : Int) < (l.length : Int) - 1 := by omega
          have HE := Lib.hid (show joined (l.take (k + 1)) = joined l by rw [hk2, List.take_length])
          have HS2 := Lib.hid (buildString_any w.heap.size w.heap.size _ wr HBF2.out HBW.out.size)
          clear hbw hk2
          go_wp2_with fail
          refine HS2.out.mono ?_
          rintro e w3 ⟨rfl, -, hb3⟩
          have HB3 := Lib.hid (HBW.out.trans hb3)
          clear hb3 HS2
          rw [joined_back, HE.out]
          go_wp2_with fail
          go_ret
          exact ⟨rfl, HB3.out⟩
end Go.Proofs.YtjjfdlgoacockaaGreat
namespace Go.Proofs.YtjjfdlgoacockaaGreat
open Go.RowKit M1 M2 M3 M9 M10 M11
open M7 (nm)

def innM (F : Nat) (L : List WFd) (num : Int) : List WFd × Nat :=
  if orC F (txts (ofNum L num) []).2 ≠ 0 then ([], orC F (txts (ofNum L num) []).2) else fields (joined (txts (ofNum L num) []).1)

set_option maxRecDepth 100000 in
set_option maxHeartbeats 1000000 in
theorem inner_any (g B : Nat) (A : Option Addr) (c : Nat) (L : List WFd) (num : Int) (F : Nat) (w : World) (hm : Ms g B A c L F w) (hl : L.length ≤ 1048576) (hok : ∀ f ∈ L, f.data.size ≤ 1048576) :
    Calls Tryz.prog 120 #[.pointer (some ⟨g, 0, none⟩), .int .i64 num] w fun e w' => ∃ U k, e = .returned (.agg #[.slice U (innM F L num).1.length k, .int .i64 ((innM F L num).2 : Int)]) ∧ w'.ownsRow w.heap.size 184 4 (.slice U (innM F L num).1.length k) (innM F L num).1.length (fcs (innM F L num).1) ∧ Stp g w w' := by
  have HX0 := Lib.hid (Bx.start w #[.slice none 0 0, .int .i64 0] 209)
  have HT := Lib.hid (textsOf_any g B A c L num F (w.alloc (.cells #[.slice none 0 0, .int .i64 0] 209)) (hm.below ((Below.refl _ _).alloc (Nat.le_refl _) _)) hl)
  have HGL := Lib.hid hm.msg.lt
  have hle := txts_le (ofNum L num) []
  have hofl : (ofNum L num).length ≤ L.length := List.length_filter_le _ _
  have HMEM := Lib.hid (txts_mem (ofNum L num) [] (fun f hf => hok f (List.mem_filter.1 hf).1) (by simp))
  have HW1 := Lib.hid (show ∀ C, orC F (txts (ofNum L num) []).2 = C → C ≠ 0 → innM F L num = ([], C) from fun C h hC => by unfold innM; rw [h, if_pos hC])
  have HW2 := Lib.hid (show orC F (txts (ofNum L num) []).2 = 0 → innM F L num = fields (joined (txts (ofNum L num) []).1) from fun h => by unfold innM; rw [if_neg (by simp [h])])
  generalize innM F L num = R at *
  generalize txts (ofNum L num) [] = TT at *
  obtain ⟨ts, C⟩ := TT
  dsimp only at *
  simp only [List.length_nil, Nat.zero_add] at hle
  clear hm hok
  go_enter Tryz.func120, Tryz.ntmps120
  go_wp2_with fail
  refine HT.out.mono ?_
  rintro e w1 ⟨U, k, rfl, hown, hmsg, hstp⟩
  obtain ⟨va, vc, hv, hcap, -⟩ := own_form hown
  simp only [Value.slice.injEq] at hv
  obtain ⟨rfl, -, rfl⟩ := hv
  have hz0 : (w.alloc (.cells #[.slice none 0 0, .int .i64 0] 209)).heap.size = w.heap.size + 1 := by simp
  have HZ := Lib.hid hz0
  have HS1 := Lib.hid ((Stp.of HX0.out.all).trans hstp)
  have HB0 := Lib.hid (blk_grown HX0.out.1 hstp (by intro e; cases e; have := HGL.out; omega))
  have HJ := Lib.hid (join_any U k ts w1 (by omega) hcap HMEM.out (SR.of_own hown))
  have HM := Lib.hid hmsg
  clear hown hmsg hstp HT hcap hz0
  go_wp2_with fail
  refine HJ.out.mono ?_
  rintro e w2 ⟨rfl, hb2⟩
  have hz1 := HS1.out.size
  have HM2 := Lib.hid (HM.out.below hb2)
  have HS2 := Lib.hid (HS1.out.trans (Stp.of hb2))
  have hlt : w.heap.size < w1.heap.size := blk_lt HB0.out
  have HB2 := Lib.hid ((hb2.block _ hlt).trans HB0.out)
  have hjs := joined_size (l := ts) HMEM.out
  clear hb2 HJ hlt hz1
  have m1 := HM2.out.c1
  generalize orC F C = F2 at *
  have hzc0 : w2.cell? ⟨w.heap.size, 0, none⟩ = some (.slice none 0 0) := cell_of_row _ _ 0 _ _ _ HB2.out
  have hzc1 : w2.cell? ⟨w.heap.size, 1, none⟩ = some (.int .i64 0) := cell_of_row _ _ 1 _ _ _ HB2.out
  have zf := fun i => frozen_of_row _ _ i _ _ HB2.out
  by_cases hF : F2 ≠ 0
  · have hfb : ((F2 : Int) != 0) = true := by simpa using hF
    have HE := Lib.hid (HW1.out F2 rfl hF)
    obtain ⟨w3, hw3, h3⟩ := n_name (P := fun W => W.heap[w.heap.size]? = some (.cells #[.slice none 0 0, .int .i64 (F2 : Int)] 209 (0, 0)) ∧ Stp g w W) (W := (w2.setCell ⟨w.heap.size, 0, none⟩ (.slice none 0 0)).setCell ⟨w.heap.size, 1, none⟩ (.int .i64 (F2 : Int)))
      ⟨heap_setCell_same _ _ 1 _ _ _ (heap_setCell_same _ _ 0 _ _ _ HB2.out), (HS2.out.put (Nat.le_refl _) 0 _).put (Nat.le_refl _) 1 _⟩
    have H3 := Lib.hid h3
    clear hF h3 HW1 HW2
    go_wp2_with fail
    have e0 := cell_of_row _ _ 0 _ _ _ H3.out.1
    have e1 := cell_of_row _ _ 1 _ _ _ H3.out.1
    rw [HE.out]
    exact bodyPost_ret (v := .agg #[.slice none 0 0, .int .i64 (F2 : Int)]) (by simp [results, Tryz.results120, go_sem, e0, e1]) rfl ⟨none, 0, rfl, own_nothing _ _ _ _, H3.out.2⟩
  · obtain rfl : F2 = 0 := by omega
    have HE := Lib.hid (HW2.out rfl)
    have HO := Lib.hid (open_any (joined ts) w2 (by unfold maxLen; omega))
    clear hF HW1 HW2 hzc0 hzc1 zf
    go_wp2_with fail
    refine HO.out.mono ?_
    rintro e w3 ⟨a3, c3, rfl, hown, hb3⟩
    rw [← HE.out] at hown ⊢
    obtain ⟨RL, RC⟩ := R
    dsimp only at hown ⊢
    have hlt : w.heap.size < w2.heap.size := blk_lt HB2.out
    have hB3 := (hb3.block _ hlt).trans HB2.out
    have hzc0 : w3.cell? ⟨w.heap.size, 0, none⟩ = some (.slice none 0 0) := cell_of_row _ _ 0 _ _ _ hB3
    have hzc1 : w3.cell? ⟨w.heap.size, 1, none⟩ = some (.int .i64 0) := cell_of_row _ _ 1 _ _ _ hB3
    have zf := fun i => frozen_of_row _ _ i _ _ hB3
    have hown0 := own_set hown (own_far hown hB3 (by decide)) 0 (.slice a3 RL.length c3)
    have hB4 := heap_setCell_same w3 w.heap.size 0 _ _ (.slice a3 RL.length c3) hB3
    obtain ⟨w4, hw4, h4⟩ := n_name (P := fun W => W.heap[w.heap.size]? = some (.cells #[.slice a3 RL.length c3, .int .i64 (RC : Int)] 209 (0, 0)) ∧ Stp g w W ∧ W.ownsRow w.heap.size 184 4 (.slice a3 RL.length c3) RL.length (fcs RL)) (W := (w3.setCell ⟨w.heap.size, 0, none⟩ (.slice a3 RL.length c3)).setCell ⟨w.heap.size, 1, none⟩ (.int .i64 (RC : Int)))
      ⟨heap_setCell_same _ _ 1 _ _ _ hB4, ((HS2.out.trans (Stp.of hb3)).put (Nat.le_refl _) 0 _).put (Nat.le_refl _) 1 _, own_base (own_set hown0 (own_far hown0 hB4 (by decide)) 1 _) (Nat.le_of_lt hlt)⟩
    have H4 := Lib.hid h4
    clear h4 hown hown0 hB3 hB4 hb3 HO hlt
    go_wp2_with fail
    have e0 := cell_of_row _ _ 0 _ _ _ H4.out.1
    have e1 := cell_of_row _ _ 1 _ _ _ H4.out.1
    exact bodyPost_ret (v := .agg #[.slice a3 RL.length c3, .int .i64 (RC : Int)]) (by simp [results, Tryz.results120, go_sem, e0, e1]) rfl ⟨a3, c3, rfl, H4.out.2.2, H4.out.2.1⟩
end Go.Proofs.YtjjfdlgoacockaaGreat
