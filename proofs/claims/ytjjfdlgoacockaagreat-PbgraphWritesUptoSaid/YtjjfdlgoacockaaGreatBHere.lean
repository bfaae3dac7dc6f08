import Derived.Test.YtjjfdlgoacockaaGreatBSmall
import Derived.Test.YtjjfdlgoacockaaGreatBRows
import Derived.Test.YtjjfdlgoacockaaGreatTAwake
import Derived.Test.YtjjfdlgoacockaaGreatTMade
import Derived.Test.YtjjfdlgoacockaaGreatWHigh
import Derived.Deep.RegionWith
import Derived.Deep.CutRange
namespace Go.Proofs.YtjjfdlgoacockaaGreat
open Go.RowKit M2 M9 Go.Sort
open M7 (nm)

theorem len_ne {α : Type} {l : List α} (h : 0 < l.length) : l ≠ [] := List.length_pos_iff.1 h
theorem len_nil {α : Type} {l : List α} (h : ¬ 0 < l.length) : l = [] := List.length_eq_zero_iff.1 (by omega)
theorem here_19 {k : Int} {d : ByteArray} {s i : List Int} (h : hasN s i = true) : here k d true s i = (⟨#[]⟩, 19) := by
  unfold hasN at h; unfold here; rw [if_pos rfl, if_pos (by simpa using h)]
theorem here_raw {k : Int} {d : ByteArray} {s i : List Int} (h : hasN s i = false) : here k d true s i = (d, 0) := by
  unfold hasN at h; unfold here; rw [if_pos rfl, if_neg (by simpa using h)]
theorem here_s5 {k : Int} {d : ByteArray} {s i : List Int} (h : 0 < s.length) (h2 : k ≠ 2) (h9 : k ≠ 9) : here k d false s i = (⟨#[]⟩, 5) := by
  unfold here; rw [if_neg (by simp), if_pos ⟨len_ne h, h2, h9⟩]
theorem here_i5 {k : Int} {d : ByteArray} {s i : List Int} (h : ¬ 0 < s.length ∨ k = 2 ∨ k = 9) (hi : 0 < i.length) (h7 : k ≠ 7) : here k d false s i = (⟨#[]⟩, 5) := by
  unfold here
  rw [if_neg (by simp), if_neg, if_pos ⟨len_ne hi, h7⟩]
  rintro ⟨a, b, c⟩
  rcases h with h | h | h
  · exact a (len_nil h)
  · exact b h
  · exact c h
theorem here_int {k : Int} {d : ByteArray} {s i : List Int} (h : ¬ 0 < s.length) (h7 : k = 7) : here k d false s i = (⟨(flat (fun n => l8 (M7.us n)) 8 i).toArray⟩, 0) := by
  unfold here
  rw [if_neg (by simp), if_neg (fun a => a.1 (len_nil h)), if_neg (fun a => a.2 h7), if_pos h7]
theorem here_small {k : Int} {d : ByteArray} {s i : List Int} (h : ¬ 0 < s.length ∨ k = 2 ∨ k = 9) (hi : ¬ 0 < i.length) (h7 : k ≠ 7) : here k d false s i = smallD s (great k) := by
  unfold here
  rw [if_neg (by simp), if_neg, if_neg (fun a => a.1 (len_nil hi)), if_neg h7]
  rintro ⟨a, b, c⟩
  rcases h with h | h | h
  · exact a (len_nil h)
  · exact b h
  · exact c h
theorem great_in (k : Int) : 0 ≤ great k ∧ great k ≤ 255 := by unfold great; split <;> omega
set_option maxRecDepth 100000 in
theorem tenField3 (n : ByteArray) (k : Int) (v : Value) (d : ByteArray) (w : World) : (Instr.field 98 (t_tv n k v d) 3).run Tryz.prog w = .ok (.string d) w := by kernel_rfl

set_option maxRecDepth 100000 in
set_option maxHeartbeats 2000000 in
theorem dataHere_any (nme : ByteArray) (k : Int) (dv : Value) (d0 : ByteArray) (sz wh : Int) (d : ByteArray) (hs : Bool) (A B : Option Addr) (p q : Nat) (s i : List Int) (bv : Value) (w : World)
    (hsl : s.length ≤ 65536) (hil : i.length ≤ 65536) (ha : SR w w.heap.size 1 A s.length (iv s)) (hb : SR w w.heap.size 1 B i.length (iv i)) :
    Calls Tryz.prog 119 #[wa nme k dv d0 sz wh d hs (.slice A s.length p) (.slice B i.length q) bv] w fun e w' => e = .returned (.tuple #[.string (here k d hs s i).1, .int .i64 (here k d hs s i).2]) ∧ Below w.heap.size w w' := by
  have HBX := Lib.hid (Bx.start w (wc nme k dv d0 sz wh d hs (.slice A s.length p) (.slice B i.length q) bv) 217)
  cases hs
  · have HG := Lib.hid (fun W => greatest_any k W)
    have HS := Lib.hid (fun W (h : Below w.heap.size w W) => smallData_any A p s (great k) W (by omega) (great_in k).1 (great_in k).2 ((ha.below h).more h.size))
    have HO := Lib.hid (fun W (h : Below w.heap.size w W) => ofInt_any ⟨#[]⟩ none 0 [] B q i (fun n => l8 (M7.us n)) W (by simp) (by omega) (SR.empty _ _ _ _) ((hb.below h).more h.size) (fun p _ => t_put_int p))
    clear ha hb
    by_cases h0 : 0 < s.length
    · have h0' : (0 : Int) < (s.length : Int) := by omega
      by_cases h2 : k = 2
      · subst h2
        by_cases h1 : 0 < i.length
        · have h1' : (0 : Int) < (i.length : Int) := by omega
          have HE := Lib.hid (here_i5 (d := d) (s := s) (k := 2) (.inr (by omega)) h1 (by omega))
          clear h0 h1
          go_enter Tryz.func119, Tryz.ntmps119
          go_wp2_with fail
          go_ret2
          rw [HE.out]
          exact ⟨rfl, HBX.out.all⟩
        · have h1' : ¬ (0 : Int) < (i.length : Int) := by omega
          have HE := Lib.hid (here_small (d := d) (s := s) (k := 2) (.inr (by omega)) h1 (by omega))
          clear h0 h1
          clear HO
          go_enter Tryz.func119, Tryz.ntmps119
          go_wp2_with fail
          have HX := Lib.hid HBX.out
          generalize (w.alloc (Obj.cells (wc nme 2 dv d0 sz wh d false (.slice A s.length p) (.slice B i.length q) bv) 217)) = W at HX ⊢
          obtain ⟨c0, c1, c2, c3, c4, c5, c6, c7, c8, c9, c10⟩ := HX.out.eleven
          have qc := fun d os => cell_regrown c8 d os
          have HS2 := Lib.hid (fun d os => HS.out _ (HX.out.all.trans ((below_regrown W d os).mono HX.out.all.size)))
          clear c0 c1 c2 c3 c4 c5 c6 c7 c9 c10
          refine wp_region_quiet_below (by kernel_rfl) (by kernel_rfl) ?_
          repeat (go_big_quiet_step ((first | (go_at_call 167; exact Calls.regrown_of ((HG.out _).mono fun e w' h => ⟨h.1, by rw [← h.2]; exact Below.refl _ _⟩)) | (go_at_call 166; exact Calls.regrown_of (HS2.out _ _)))))
          refine wpQuiet_nil ?_
          rintro w3 ⟨p3, rfl⟩
          have hbp := below_regrown W p3.d p3.os
          generalize grow (redrawn W p3.d) p3.os = w3 at hbp ⊢
          have HB3 := Lib.hid (HX.out.all.trans (hbp.mono HX.out.all.size))
          clear hbp qc c8
          go_wp2_with fail
          go_ret2
          rw [HE.out]
          exact ⟨rfl, HB3.out⟩
      by_cases h9 : k = 9
      · subst h9
        by_cases h1 : 0 < i.length
        · have h1' : (0 : Int) < (i.length : Int) := by omega
          have HE := Lib.hid (here_i5 (d := d) (s := s) (k := 9) (.inr (by omega)) h1 (by omega))
          clear h0 h1
          go_enter Tryz.func119, Tryz.ntmps119
          go_wp2_with fail
          go_ret2
          rw [HE.out]
          exact ⟨rfl, HBX.out.all⟩
        · have h1' : ¬ (0 : Int) < (i.length : Int) := by omega
          have HE := Lib.hid (here_small (d := d) (s := s) (k := 9) (.inr (by omega)) h1 (by omega))
          clear h0 h1
          clear HO
          go_enter Tryz.func119, Tryz.ntmps119
          go_wp2_with fail
          have HX := Lib.hid HBX.out
          generalize (w.alloc (Obj.cells (wc nme 9 dv d0 sz wh d false (.slice A s.length p) (.slice B i.length q) bv) 217)) = W at HX ⊢
          obtain ⟨c0, c1, c2, c3, c4, c5, c6, c7, c8, c9, c10⟩ := HX.out.eleven
          have qc := fun d os => cell_regrown c8 d os
          have HS2 := Lib.hid (fun d os => HS.out _ (HX.out.all.trans ((below_regrown W d os).mono HX.out.all.size)))
          clear c0 c1 c2 c3 c4 c5 c6 c7 c9 c10
          refine wp_region_quiet_below (by kernel_rfl) (by kernel_rfl) ?_
          repeat (go_big_quiet_step ((first | (go_at_call 167; exact Calls.regrown_of ((HG.out _).mono fun e w' h => ⟨h.1, by rw [← h.2]; exact Below.refl _ _⟩)) | (go_at_call 166; exact Calls.regrown_of (HS2.out _ _)))))
          refine wpQuiet_nil ?_
          rintro w3 ⟨p3, rfl⟩
          have hbp := below_regrown W p3.d p3.os
          generalize grow (redrawn W p3.d) p3.os = w3 at hbp ⊢
          have HB3 := Lib.hid (HX.out.all.trans (hbp.mono HX.out.all.size))
          clear hbp qc c8
          go_wp2_with fail
          go_ret2
          rw [HE.out]
          exact ⟨rfl, HB3.out⟩
      have h2' : (k != 2) = true := by simpa using h2
      have h9' : (k != 9) = true := by simpa using h9
      have HE := Lib.hid (here_s5 (d := d) (i := i) h0 h2 h9)
      clear h0 h2 h9
      go_enter Tryz.func119, Tryz.ntmps119
      go_wp2_with fail
      go_ret2
      rw [HE.out]
      exact ⟨rfl, HBX.out.all⟩
    · have h0' : ¬ (0 : Int) < (s.length : Int) := by omega
      by_cases h7 : k = 7
      · have HE := Lib.hid (here_int (d := d) (i := i) h0 h7)
        subst h7
        clear h0 HS HG
        have h3 := fun n v d w => tenField3 n 7 v d w
        by_cases h1' : (0 : Int) < (i.length : Int)
        all_goals
          go_enter Tryz.func119, Tryz.ntmps119
          go_wp2_with fail
          refine (HO.out _ HBX.out.all).mono ?_
          rintro e w1 ⟨v1, rfl, -, hb1⟩
          have H1 := Lib.hid (HBX.out.below hb1)
          clear hb1 HO HBX
          generalize (⟨(flat (fun n => l8 (M7.us n)) 8 i).toArray⟩ : ByteArray) = D at *
          go_wp2_with fail
          go_ret2
          rw [HE.out]
          exact ⟨rfl, H1.out.all⟩
      · have h7' : (k == 7) = false := by simpa using h7
        have h7n : (k != 7) = true := by simpa using h7
        by_cases h1 : 0 < i.length
        · have h1' : (0 : Int) < (i.length : Int) := by omega
          have HE := Lib.hid (here_i5 (d := d) (s := s) (.inl h0) h1 h7)
          clear h0 h1 h7
          go_enter Tryz.func119, Tryz.ntmps119
          go_wp2_with fail
          go_ret2
          rw [HE.out]
          exact ⟨rfl, HBX.out.all⟩
        · have h1' : ¬ (0 : Int) < (i.length : Int) := by omega
          have HE := Lib.hid (here_small (d := d) (s := s) (.inl h0) h1 h7)
          clear h0 h1 h7
          clear HO
          go_enter Tryz.func119, Tryz.ntmps119
          go_wp2_with fail
          have HX := Lib.hid HBX.out
          generalize (w.alloc (Obj.cells (wc nme k dv d0 sz wh d false (.slice A s.length p) (.slice B i.length q) bv) 217)) = W at HX ⊢
          obtain ⟨c0, c1, c2, c3, c4, c5, c6, c7, c8, c9, c10⟩ := HX.out.eleven
          have qc := fun d os => cell_regrown c8 d os
          have HS2 := Lib.hid (fun d os => HS.out _ (HX.out.all.trans ((below_regrown W d os).mono HX.out.all.size)))
          clear c0 c1 c2 c3 c4 c5 c6 c7 c9 c10
          refine wp_region_quiet_below (by kernel_rfl) (by kernel_rfl) ?_
          repeat (go_big_quiet_step ((first | (go_at_call 167; exact Calls.regrown_of ((HG.out _).mono fun e w' h => ⟨h.1, by rw [← h.2]; exact Below.refl _ _⟩)) | (go_at_call 166; exact Calls.regrown_of (HS2.out _ _)))))
          refine wpQuiet_nil ?_
          rintro w3 ⟨p3, rfl⟩
          have hbp := below_regrown W p3.d p3.os
          generalize grow (redrawn W p3.d) p3.os = w3 at hbp ⊢
          have HB3 := Lib.hid (HX.out.all.trans (hbp.mono HX.out.all.size))
          clear hbp qc c8
          go_wp2_with fail
          go_ret2
          rw [HE.out]
          exact ⟨rfl, HB3.out⟩
  · have HN := Lib.hid (fun W => hasNumbers_any nme k dv d0 sz wh d true A B p q s i bv W)
    clear ha hb
    cases hn : hasN s i
    · rw [hn] at HN
      have HE := Lib.hid (here_raw (k := k) (d := d) hn)
      clear hn
      go_enter Tryz.func119, Tryz.ntmps119
      go_wp2_with fail
      refine (HN.out _).mono ?_
      rintro e w1 ⟨rfl, hb1⟩
      have H1 := Lib.hid (HBX.out.below hb1)
      clear hb1 HBX
      obtain ⟨c0, c1, c2, c3, c4, c5, c6, c7, c8, c9, c10⟩ := H1.out.eleven
      go_wp2_with fail
      go_ret2
      rw [HE.out]
      exact ⟨rfl, H1.out.all⟩
    · rw [hn] at HN
      have HE := Lib.hid (here_19 (k := k) (d := d) hn)
      clear hn
      go_enter Tryz.func119, Tryz.ntmps119
      go_wp2_with fail
      refine (HN.out _).mono ?_
      rintro e w1 ⟨rfl, hb1⟩
      have H1 := Lib.hid (HBX.out.below hb1)
      clear hb1 HBX
      go_wp2_with fail
      go_ret2
      rw [HE.out]
      exact ⟨rfl, H1.out.all⟩
end Go.Proofs.YtjjfdlgoacockaaGreat
namespace Go.Proofs.YtjjfdlgoacockaaGreat
open Go.RowKit M1 M2 M3 M9

def MsgRes (m : Msg × Int) (w : World) (e : Ending) (w' : World) : Prop :=
  ∃ dv sv nv bv, e = .returned (.tuple #[wa m.1.t.name m.1.t.kind dv m.1.t.data m.1.size (m.1.wh : Int) m.1.d m.1.hs sv nv bv, .int .i64 m.2]) ∧ Own4 w.heap.size ⟨m.1.t.dims, m.1.s, m.1.i, m.1.b⟩ dv sv nv bv w' ∧ Below w.heap.size w w'
theorem msgRes_no {m : Msg × Int} {c : Int} {w W : World} (h : m = (zm, c)) (hb : Below w.heap.size w W) : MsgRes m w (.returned (.tuple #[wa ⟨#[]⟩ 0 (.slice none 0 0) ⟨#[]⟩ 0 0 ⟨#[]⟩ false (.slice none 0 0) (.slice none 0 0) (.slice none 0 0), .int .i64 c])) W := by
  subst h; exact ⟨.slice none 0 0, .slice none 0 0, .slice none 0 0, .slice none 0 0, rfl, Own4.nothing _ _, hb⟩
theorem msgRes_yes {m : Msg × Int} {nme d : ByteArray} {k sz : Int} {wh : Nat} {hs : Bool} {r : Rws9} {dv sv nv bv : Value} {w W : World} (h : m = (⟨⟨nme, k, r.d, ⟨#[]⟩⟩, sz, wh, d, hs, r.s, r.i, r.t⟩, 0)) (ho : Own4 w.heap.size r dv sv nv bv W) (hb : Below w.heap.size w W) :
    MsgRes m w (.returned (.tuple #[wa nme k dv ⟨#[]⟩ sz (wh : Int) d hs sv nv bv, .int .i64 0])) W := by
  subst h; exact ⟨dv, sv, nv, bv, rfl, ho, hb⟩
theorem msg_err {b : ByteArray} {L : List WFd} {C : Nat} (h : fields b = (L, C)) (hC : C ≠ 0) : msg b = (zm, (C : Int)) := by unfold msg; rw [h]; exact if_pos hC
theorem msg_go {b : ByteArray} {L : List WFd} (h : fields b = (L, 0)) : msg b = msgL L := by unfold msg; rw [h]; exact if_neg (by simp)
theorem msgL_wire {L : List WFd} (h : okFs L = false) : msgL L = (zm, 3) := if_pos h
theorem msgL_rows {L : List WFd} {r : Rws9} {C : Nat} (h : okFs L = true) (hr : rows L = (r, C)) (hC : C ≠ 0) : msgL L = (zm, (C : Int)) := by unfold msgL; rw [if_neg (by simp [h]), hr]; exact if_pos hC
theorem msgL_chk {L : List WFd} {r : Rws9} {n c : Int} (h : okFs L = true) (hr : rows L = (r, 0)) (hc : chkL L r = (n, c)) (h0 : c ≠ 0) : msgL L = (zm, c) := by
  unfold msgL; rw [if_neg (by simp [h]), hr, if_neg (by simp)]; simp only [hc]; exact if_pos h0
theorem msgL_ok {L : List WFd} {r : Rws9} {n : Int} (h : okFs L = true) (hr : rows L = (r, 0)) (hc : chkL L r = (n, 0)) : msgL L = (mk L r n, 0) := by
  unfold msgL; rw [if_neg (by simp [h]), hr, if_neg (by simp)]; simp only [hc]; exact if_neg (by simp)

def Pair (w : World) (g7 : Nat) (nme : ByteArray) (k : Int) (sz : Int) (wh : Int) (d : ByteArray) (hs : Bool) (r : Rws9) (dv sv nv bv : Value) (W : World) : Prop :=
  WX w w.heap.size w.heap.size ⟨#[]⟩ 0 ⟨#[]⟩ 0 0 ⟨#[]⟩ false zr (.slice none 0 0) (.slice none 0 0) (.slice none 0 0) (.slice none 0 0) W ∧ WX w g7 w.heap.size nme k ⟨#[]⟩ sz wh d hs r dv sv nv bv W
theorem Pair.below {w W W' : World} {g7 : Nat} {nme : ByteArray} {k sz wh : Int} {d : ByteArray} {hs : Bool} {r : Rws9} {dv sv nv bv : Value} (h : Pair w g7 nme k sz wh d hs r dv sv nv bv W) (hb : Below W.heap.size W W') : Pair w g7 nme k sz wh d hs r dv sv nv bv W' := ⟨h.1.below hb, h.2.below hb⟩
def Six (w : World) (g7 g8 g10 g12 g14 : Nat) (nme : ByteArray) (k : Int) (sz : Int) (wh : Int) (d : ByteArray) (hs : Bool) (r : Rws9) (dv sv nv bv : Value) (f14 f8 f2 f9 : WFd) (W : World) : Prop :=
  Pair w g7 nme k sz wh d hs r dv sv nv bv W ∧ Bx w g8 #[.int .i64 f14.num, .int .i64 f14.typ, .int .u64 (f14.n : Int), .string f14.data] 184 W ∧ Bx w g10 #[.int .i64 f8.num, .int .i64 f8.typ, .int .u64 (f8.n : Int), .string f8.data] 184 W ∧
    Bx w g12 #[.int .i64 f2.num, .int .i64 f2.typ, .int .u64 (f2.n : Int), .string f2.data] 184 W ∧ Bx w g14 #[.int .i64 f9.num, .int .i64 f9.typ, .int .u64 (f9.n : Int), .string f9.data] 184 W ∧ w.heap.size < g7 ∧ g7 < g8 ∧ g7 < g10 ∧ g7 < g12 ∧ g7 < g14
theorem WX.drew {w W : World} {g B : Nat} {nme d0 d : ByteArray} {k sz wh : Int} {hs : Bool} {r : Rws9} {dv sv nv bv : Value} (h : WX w g B nme k d0 sz wh d hs r dv sv nv bv W) : WX w g B nme k d0 sz wh d hs r dv sv nv bv W.drew :=
  ⟨⟨h.1.1, h.1.2.1, below_drewN h.1.2.2 1⟩, h.2⟩
theorem Bx.drew {w W : World} {g : Nat} {cs : Array Value} {T : TypeId} (h : Bx w g cs T W) : Bx w g cs T W.drew := ⟨h.1, h.2.1, below_drewN h.2.2 1⟩
section
variable {w W W' : World} {g7 g8 g10 g12 g14 : Nat} {nme d nme' d' : ByteArray} {k sz wh k' sz' wh' : Int} {hs hs' : Bool} {r : Rws9} {dv sv nv bv : Value} {f14 f8 f2 f9 : WFd}
theorem Six.below (h : Six w g7 g8 g10 g12 g14 nme k sz wh d hs r dv sv nv bv f14 f8 f2 f9 W) (hb : Below W.heap.size W W') : Six w g7 g8 g10 g12 g14 nme k sz wh d hs r dv sv nv bv f14 f8 f2 f9 W' :=
  ⟨h.1.below hb, h.2.1.below hb, h.2.2.1.below hb, h.2.2.2.1.below hb, h.2.2.2.2.1.below hb, h.2.2.2.2.2⟩
theorem Six.drew (h : Six w g7 g8 g10 g12 g14 nme k sz wh d hs r dv sv nv bv f14 f8 f2 f9 W) : Six w g7 g8 g10 g12 g14 nme k sz wh d hs r dv sv nv bv f14 f8 f2 f9 W.drew :=
  ⟨⟨h.1.1.drew, h.1.2.drew⟩, h.2.1.drew, h.2.2.1.drew, h.2.2.2.1.drew, h.2.2.2.2.1.drew, h.2.2.2.2.2⟩
theorem Six.to (h : Six w g7 g8 g10 g12 g14 nme k sz wh d hs r dv sv nv bv f14 f8 f2 f9 W) (i : Nat) (v : Value) (he : (wc nme k dv ⟨#[]⟩ sz wh d hs sv nv bv).setIfInBounds i v = wc nme' k' dv ⟨#[]⟩ sz' wh' d' hs' sv nv bv) :
    Six w g7 g8 g10 g12 g14 nme' k' sz' wh' d' hs' r dv sv nv bv f14 f8 f2 f9 (W.setCell ⟨g7, i, none⟩ v) := by
  obtain ⟨⟨h1, h2⟩, h3, h4, h5, h6, q1, q2, q3, q4, q5⟩ := h
  have hb := h2.1.set (by omega) i v
  rw [he] at hb
  exact ⟨⟨⟨h1.1.far_set v (by omega) (by omega), h1.2.set h2.1.1 (by decide) (by decide) i v⟩, ⟨hb, h2.2.set h2.1.1 (by decide) (by decide) i v⟩⟩, h3.far_set v (by omega) (by omega), h4.far_set v (by omega) (by omega), h5.far_set v (by omega) (by omega), h6.far_set v (by omega) (by omega), q1, q2, q3, q4, q5⟩
end
set_option maxRecDepth 100000 in
set_option maxHeartbeats 4000000 in
theorem read_any9 (b : ByteArray) (w : World) (hbs : b.size ≤ maxLen) : Calls Tryz.prog 117 #[.string b] w (MsgRes (msg b) w) := by
  have HX0 := Lib.hid (WX.start w)
  have HF := Lib.hid (fun W => fields_any b W hbs)
  have HFL := Lib.hid (fields_len b)
  have HFO := Lib.hid (fields_ok (s := b))
  have HE1 := Lib.hid (fun L C h hC => msg_err (b := b) (L := L) (C := C) h hC)
  have HE2 := Lib.hid (fun L h => msg_go (b := b) (L := L) h)
  generalize msg b = M at *
  generalize fields b = F at *
  obtain ⟨L, C⟩ := F
  go_enter Tryz.func117, Tryz.ntmps117
  go_wp2_with fail
  refine (HF.out _).mono ?_
  rintro e w1 ⟨v1, rfl, hown, hb1⟩
  obtain ⟨a1, c1, rfl, -, -⟩ := own_form hown
  have HX1 := Lib.hid (HX0.out.below hb1)
  have HS1 := Lib.hid (SR.of_own hown)
  clear hb1 hown HF HX0
  by_cases hC : C ≠ 0
  · have hcb : ((C : Int) != 0) = true := by simpa using hC
    have HE := Lib.hid (HE1.out L C rfl hC)
    obtain ⟨wB, hB, hxB⟩ := name_world (P := fun W => WX w w.heap.size w.heap.size ⟨#[]⟩ 0 ⟨#[]⟩ 0 0 ⟨#[]⟩ false zr (.slice none 0 0) (.slice none 0 0) (.slice none 0 0) (.slice none 0 0) W) (HX1.out.put (Nat.le_refl _) (Own4.nothing _ _))
    have HB := Lib.hid hxB
    obtain ⟨d0, d1, d2, d3, d4, d5, d6, d7, d8, d9, d10⟩ := HX1.out.cells
    have g0 := fun i => HX1.out.1.free i
    clear hC hxB
    go_wp2_with fail
    obtain ⟨e0, e1, e2, e3, e4, e5, e6, e7, e8, e9, e10⟩ := HB.out.cells
    exact bodyPost_ret (v := .tuple #[wa ⟨#[]⟩ 0 (.slice none 0 0) ⟨#[]⟩ 0 0 ⟨#[]⟩ false (.slice none 0 0) (.slice none 0 0) (.slice none 0 0), .int .i64 (C : Int)]) (by simp [results, Tryz.results117, go_sem, e0, e1, e2, e3, e4, e5, e6, e7, e8, e9, e10]) rfl (msgRes_no HE.out HB.out.1.all)
  · obtain rfl : C = 0 := by omega
    have HM := Lib.hid (HE2.out L rfl)
    clear hC HE1 HE2
    go_wp2_with fail
    refine (asker_any a1 L.length c1 w1).mono ?_
    rintro e w2 ⟨rfl, hx2⟩
    have HKA := Lib.hid (fun W (h : Below w2.heap.size w2 W) num typ => ask_any w1.heap.size a1 c1 L num typ W (by have := HFL.out; omega) ((h.block _ hx2.2.1).trans hx2.1) ((((HS1.out.below hx2.all).below (h.mono hx2.all.size)).more (Nat.le_trans hx2.all.size h.size))))
    have HS2 := Lib.hid (fun W (h : Below w2.heap.size w2 W) => ((((HS1.out.below hx2.all).below (h.mono hx2.all.size)).more (Nat.le_trans hx2.all.size h.size))))
    have HK1 := Lib.hid (fun W h => HKA.out W h 2 0)
    have HK2 := Lib.hid (fun W h => HKA.out W h 8 2)
    have HK3 := Lib.hid (fun W h => HKA.out W h 9 2)
    have HK4 := Lib.hid (fun W h => HKA.out W h 14 0)
    have HX2 := Lib.hid (HX1.out.below hx2.all)
    have HN2 := Lib.hid (Below.refl w2.heap.size w2)
    have HMW := Lib.hid (fun h => HM.out.trans (msgL_wire (L := L) h))
    have HOK := Lib.hid (show okFs L = (okF L 2 0 && okF L 8 2 && okF L 9 2 && okF L 14 0) from rfl)
    clear hx2 HKA HX1 HS1
    unfold askF
    generalize okF L 2 0 = O1 at *
    generalize okF L 8 2 = O2 at *
    generalize okF L 9 2 = O3 at *
    generalize okF L 14 0 = O4 at *
    cases O1
    · have HE := Lib.hid (HMW.out (by rw [HOK.out]; rfl))
      go_wp2_with fail
      refine (HK1.out _ HN2.out).mono ?_
      rintro e wk1 ⟨rfl, hb3⟩
      have HXk1 := Lib.hid (HX2.out.below hb3)
      have HNk1 := Lib.hid (step_below HN2.out hb3)
      clear hb3
      obtain ⟨wB, hB, hxB⟩ := name_world (P := fun W => WX w w.heap.size w.heap.size ⟨#[]⟩ 0 ⟨#[]⟩ 0 0 ⟨#[]⟩ false zr (.slice none 0 0) (.slice none 0 0) (.slice none 0 0) (.slice none 0 0) W) (HXk1.out.put (Nat.le_refl _) (Own4.nothing _ _))
      have HB := Lib.hid hxB
      obtain ⟨d0, d1, d2, d3, d4, d5, d6, d7, d8, d9, d10⟩ := HXk1.out.cells
      have g0 := fun i => HXk1.out.1.free i
      clear hxB
      go_wp2_with fail
      obtain ⟨e0, e1, e2, e3, e4, e5, e6, e7, e8, e9, e10⟩ := HB.out.cells
      exact bodyPost_ret (v := .tuple #[wa ⟨#[]⟩ 0 (.slice none 0 0) ⟨#[]⟩ 0 0 ⟨#[]⟩ false (.slice none 0 0) (.slice none 0 0) (.slice none 0 0), .int .i64 3]) (by simp [results, Tryz.results117, go_sem, e0, e1, e2, e3, e4, e5, e6, e7, e8, e9, e10]) rfl (msgRes_no HE.out HB.out.1.all)
    · go_wp2_with fail
      refine (HK1.out _ HN2.out).mono ?_
      rintro e wk1 ⟨rfl, hb3⟩
      have HXk1 := Lib.hid (HX2.out.below hb3)
      have HNk1 := Lib.hid (step_below HN2.out hb3)
      clear hb3
      cases O2
      · have HE := Lib.hid (HMW.out (by rw [HOK.out]; rfl))
        go_wp2_with fail
        refine (HK2.out _ HNk1.out).mono ?_
        rintro e wk2 ⟨rfl, hb3⟩
        have HXk2 := Lib.hid (HXk1.out.below hb3)
        have HNk2 := Lib.hid (step_below HNk1.out hb3)
        clear hb3
        obtain ⟨wB, hB, hxB⟩ := name_world (P := fun W => WX w w.heap.size w.heap.size ⟨#[]⟩ 0 ⟨#[]⟩ 0 0 ⟨#[]⟩ false zr (.slice none 0 0) (.slice none 0 0) (.slice none 0 0) (.slice none 0 0) W) (HXk2.out.put (Nat.le_refl _) (Own4.nothing _ _))
        have HB := Lib.hid hxB
        obtain ⟨d0, d1, d2, d3, d4, d5, d6, d7, d8, d9, d10⟩ := HXk2.out.cells
        have g0 := fun i => HXk2.out.1.free i
        clear hxB
        go_wp2_with fail
        obtain ⟨e0, e1, e2, e3, e4, e5, e6, e7, e8, e9, e10⟩ := HB.out.cells
        exact bodyPost_ret (v := .tuple #[wa ⟨#[]⟩ 0 (.slice none 0 0) ⟨#[]⟩ 0 0 ⟨#[]⟩ false (.slice none 0 0) (.slice none 0 0) (.slice none 0 0), .int .i64 3]) (by simp [results, Tryz.results117, go_sem, e0, e1, e2, e3, e4, e5, e6, e7, e8, e9, e10]) rfl (msgRes_no HE.out HB.out.1.all)
      · go_wp2_with fail
        refine (HK2.out _ HNk1.out).mono ?_
        rintro e wk2 ⟨rfl, hb3⟩
        have HXk2 := Lib.hid (HXk1.out.below hb3)
        have HNk2 := Lib.hid (step_below HNk1.out hb3)
        clear hb3
        cases O3
        · have HE := Lib.hid (HMW.out (by rw [HOK.out]; rfl))
          go_wp2_with fail
          refine (HK3.out _ HNk2.out).mono ?_
          rintro e wk3 ⟨rfl, hb3⟩
          have HXk3 := Lib.hid (HXk2.out.below hb3)
          have HNk3 := Lib.hid (step_below HNk2.out hb3)
          clear hb3
          obtain ⟨wB, hB, hxB⟩ := name_world (P := fun W => WX w w.heap.size w.heap.size ⟨#[]⟩ 0 ⟨#[]⟩ 0 0 ⟨#[]⟩ false zr (.slice none 0 0) (.slice none 0 0) (.slice none 0 0) (.slice none 0 0) W) (HXk3.out.put (Nat.le_refl _) (Own4.nothing _ _))
          have HB := Lib.hid hxB
          obtain ⟨d0, d1, d2, d3, d4, d5, d6, d7, d8, d9, d10⟩ := HXk3.out.cells
          have g0 := fun i => HXk3.out.1.free i
          clear hxB
          go_wp2_with fail
          obtain ⟨e0, e1, e2, e3, e4, e5, e6, e7, e8, e9, e10⟩ := HB.out.cells
          exact bodyPost_ret (v := .tuple #[wa ⟨#[]⟩ 0 (.slice none 0 0) ⟨#[]⟩ 0 0 ⟨#[]⟩ false (.slice none 0 0) (.slice none 0 0) (.slice none 0 0), .int .i64 3]) (by simp [results, Tryz.results117, go_sem, e0, e1, e2, e3, e4, e5, e6, e7, e8, e9, e10]) rfl (msgRes_no HE.out HB.out.1.all)
        · go_wp2_with fail
          refine (HK3.out _ HNk2.out).mono ?_
          rintro e wk3 ⟨rfl, hb3⟩
          have HXk3 := Lib.hid (HXk2.out.below hb3)
          have HNk3 := Lib.hid (step_below HNk2.out hb3)
          clear hb3
          cases O4
          · have HE := Lib.hid (HMW.out (by rw [HOK.out]; rfl))
            go_wp2_with fail
            refine (HK4.out _ HNk3.out).mono ?_
            rintro e wk4 ⟨rfl, hb3⟩
            have HXk4 := Lib.hid (HXk3.out.below hb3)
            have HNk4 := Lib.hid (step_below HNk3.out hb3)
            clear hb3
            obtain ⟨wB, hB, hxB⟩ := name_world (P := fun W => WX w w.heap.size w.heap.size ⟨#[]⟩ 0 ⟨#[]⟩ 0 0 ⟨#[]⟩ false zr (.slice none 0 0) (.slice none 0 0) (.slice none 0 0) (.slice none 0 0) W) (HXk4.out.put (Nat.le_refl _) (Own4.nothing _ _))
            have HB := Lib.hid hxB
            obtain ⟨d0, d1, d2, d3, d4, d5, d6, d7, d8, d9, d10⟩ := HXk4.out.cells
            have g0 := fun i => HXk4.out.1.free i
            clear hxB
            go_wp2_with fail
            obtain ⟨e0, e1, e2, e3, e4, e5, e6, e7, e8, e9, e10⟩ := HB.out.cells
            exact bodyPost_ret (v := .tuple #[wa ⟨#[]⟩ 0 (.slice none 0 0) ⟨#[]⟩ 0 0 ⟨#[]⟩ false (.slice none 0 0) (.slice none 0 0) (.slice none 0 0), .int .i64 3]) (by simp [results, Tryz.results117, go_sem, e0, e1, e2, e3, e4, e5, e6, e7, e8, e9, e10]) rfl (msgRes_no HE.out HB.out.1.all)
          · go_wp2_with fail
            refine (HK4.out _ HNk3.out).mono ?_
            rintro e wk4 ⟨rfl, hb3⟩
            have HXk4 := Lib.hid (HXk3.out.below hb3)
            have HNk4 := Lib.hid (step_below HNk3.out hb3)
            clear hb3
            have HOT := Lib.hid (show okFs L = true by rw [HOK.out]; rfl)
            have HMR := Lib.hid (fun r C hr hC => HM.out.trans (msgL_rows (L := L) (r := r) (C := C) HOT.out hr hC))
            have HMC := Lib.hid (fun r n c hr hc h0 => HM.out.trans (msgL_chk (L := L) (r := r) (n := n) (c := c) HOT.out hr hc h0))
            have HMO := Lib.hid (fun r n hr hc => HM.out.trans (msgL_ok (L := L) (r := r) (n := n) HOT.out hr hc))
            have HRW := Lib.hid (readRows_any a1 c1 L wk4 (by have := HFL.out; omega) (HS2.out wk4 HNk4.out) (fun f hf => (HFO.out f hf).1))
            have HRO := Lib.hid (rows_ok (l := L) HFL.out HFO.out)
            clear HK1 HK2 HK3 HK4 HMW HOK HM HOT HX2 HN2 HXk1 HXk2 HXk3 HNk1 HNk2 HNk3
            generalize rows L = R at *
            obtain ⟨r, C⟩ := R
            go_wp2_with fail
            refine HRW.out.mono ?_
            rintro e w5 ⟨dv, sv, nv, bv, rfl, hown5, hb5⟩
            obtain ⟨x1, x2, x3, x4⟩ := hown5
            obtain ⟨da, dc, rfl, -, -⟩ := own_form x1
            obtain ⟨sa, sc, rfl, -, -⟩ := own_form x2
            obtain ⟨na, nc, rfl, -, -⟩ := own_form x3
            obtain ⟨ba, bc, rfl, -, -⟩ := own_form x4
            have HX5 := Lib.hid (HXk4.out.below hb5)
            have HN5 := Lib.hid (step_below HNk4.out hb5)
            have HO5 : Hid (Own4 w.heap.size r (.slice da r.d.length dc) (.slice sa r.s.length sc) (.slice na r.i.length nc) (.slice ba r.t.length bc) w5) := Lib.hid (by have h : w.heap.size ≤ wk4.heap.size := HXk4.out.1.all.size; exact ⟨own_base x1 h, own_base x2 h, own_base x3 h, own_base x4 h⟩)
            have HZ5 := Lib.hid (show wk4.heap.size ≤ w5.heap.size from hb5.size)
            clear hb5 x1 x2 x3 x4 HRW HXk4
            by_cases hC : C ≠ 0
            · have hcb : ((C : Int) != 0) = true := by simpa using hC
              have HE := Lib.hid (HMR.out r C rfl hC)
              have HX6 := Lib.hid (show WX w w.heap.size w.heap.size ⟨#[]⟩ 0 ⟨#[]⟩ 0 0 ⟨#[]⟩ false zr (.slice none 0 0) (.slice none 0 0) (.slice none 0 0) (.slice none 0 0) (w5.alloc (.cells (wc ⟨#[]⟩ 0 (.slice da r.d.length dc) ⟨#[]⟩ 0 0 ⟨#[]⟩ false (.slice sa r.s.length sc) (.slice na r.i.length nc) (.slice ba r.t.length bc)) 217)) from HX5.out.below ((Below.refl _ _).alloc (Nat.le_refl _) _))
              clear hC
              obtain ⟨wB, hB, hxB⟩ := name_world (P := fun W => WX w w.heap.size w.heap.size ⟨#[]⟩ 0 ⟨#[]⟩ 0 0 ⟨#[]⟩ false zr (.slice none 0 0) (.slice none 0 0) (.slice none 0 0) (.slice none 0 0) W) (HX6.out.put (Nat.le_refl _) (Own4.nothing _ _))
              have HB := Lib.hid hxB
              obtain ⟨d0, d1, d2, d3, d4, d5, d6, d7, d8, d9, d10⟩ := HX6.out.cells
              have g0 := fun i => HX6.out.1.free i
              clear hxB
              go_wp2_with fail
              obtain ⟨e0, e1, e2, e3, e4, e5, e6, e7, e8, e9, e10⟩ := HB.out.cells
              exact bodyPost_ret (v := .tuple #[wa ⟨#[]⟩ 0 (.slice none 0 0) ⟨#[]⟩ 0 0 ⟨#[]⟩ false (.slice none 0 0) (.slice none 0 0) (.slice none 0 0), .int .i64 (C : Int)]) (by simp [results, Tryz.results117, go_sem, e0, e1, e2, e3, e4, e5, e6, e7, e8, e9, e10]) rfl (msgRes_no HE.out HB.out.1.all)
            · obtain rfl : C = 0 := by omega
              have hx6 := HX5.out.below ((Below.refl _ _).alloc (Nat.le_refl _) (.cells (wc ⟨#[]⟩ 0 (.slice da r.d.length dc) ⟨#[]⟩ 0 0 ⟨#[]⟩ false (.slice sa r.s.length sc) (.slice na r.i.length nc) (.slice ba r.t.length bc)) 217))
              have hg6 : WX w w5.heap.size w.heap.size ⟨#[]⟩ 0 ⟨#[]⟩ 0 0 ⟨#[]⟩ false r (.slice da r.d.length dc) (.slice sa r.s.length sc) (.slice na r.i.length nc) (.slice ba r.t.length bc) (w5.alloc (.cells (wc ⟨#[]⟩ 0 (.slice da r.d.length dc) ⟨#[]⟩ 0 0 ⟨#[]⟩ false (.slice sa r.s.length sc) (.slice na r.i.length nc) (.slice ba r.t.length bc)) 217)) :=
                ⟨HX5.out.1.next _ _, HO5.out.below ((Below.refl _ _).alloc (Nat.le_refl _) _)⟩
              obtain ⟨w6, hw6, h6⟩ := name_world (P := fun W => (WX w w.heap.size w.heap.size ⟨#[]⟩ 0 ⟨#[]⟩ 0 0 ⟨#[]⟩ false zr (.slice none 0 0) (.slice none 0 0) (.slice none 0 0) (.slice none 0 0) W ∧ WX w w5.heap.size w.heap.size ⟨#[]⟩ 0 ⟨#[]⟩ 0 0 ⟨#[]⟩ false r (.slice da r.d.length dc) (.slice sa r.s.length sc) (.slice na r.i.length nc) (.slice ba r.t.length bc) W) ∧ Below w5.heap.size w5 W) ⟨⟨hx6, hg6⟩, (Below.refl _ _).alloc (Nat.le_refl _) _⟩
              have H6 := Lib.hid h6.1
              have HN6 := Lib.hid (step_below HN5.out h6.2)
              have HMC2 := Lib.hid (fun n c (hc : chk (lastF L 14).n (lastF L 8).data (kindN (lastF L 2).n) r.d = (n, c)) h0 => HMC.out r n c rfl hc h0)
              have HMO2 := Lib.hid (fun n (hc : chk (lastF L 14).n (lastF L 8).data (kindN (lastF L 2).n) r.d = (n, 0)) => show M = (⟨⟨(lastF L 8).data, kindN (lastF L 2).n, r.d, ⟨#[]⟩⟩, n, (lastF L 14).n, (lastF L 9).data, has L 9, r.s, r.i, r.t⟩, 0) from HMO.out r n rfl hc)
              have HLA := Lib.hid (fun W (h : Below w2.heap.size w2 W) num => show Calls Tryz.prog 111 #[.slice a1 L.length c1, .int .i64 num] W fun e w' => e = .returned (.tuple #[.agg #[.int .i64 (lastF L num).num, .int .i64 (lastF L num).typ, .int .u64 ((lastF L num).n : Int), .string (lastF L num).data], .bool (has L num)]) ∧ Below W.heap.size W w' from last_any a1 c1 L num W (by have := HFL.out; omega) (HS2.out W h))
              have HL1 := Lib.hid (fun W h => HLA.out W h 14)
              have HL2 := Lib.hid (fun W h => HLA.out W h 8)
              have HL3 := Lib.hid (fun W h => HLA.out W h 2)
              have HL4 := Lib.hid (fun W h => HLA.out W h 9)
              have HF8 := Lib.hid (lastF_ok HFO.out 8)
              have HF2 := Lib.hid (lastF_ok HFO.out 2)
              have HZ6 := Lib.hid (show w.heap.size < w5.heap.size from HX5.out.1.2.1)
              clear HMR HMC HMO hC hx6 hg6 h6 HLA HX5 HO5 HFO
              generalize lastF L 14 = f14 at *
              generalize lastF L 8 = f8 at *
              generalize lastF L 2 = f2 at *
              generalize lastF L 9 = f9 at *
              generalize has L 14 = h14 at *
              generalize has L 8 = h8 at *
              generalize has L 2 = h2 at *
              generalize has L 9 = h9 at *
              obtain ⟨u14, y14, n14, d14⟩ := f14
              obtain ⟨u8, y8, n8, d8⟩ := f8
              obtain ⟨u2, y2, n2, d2⟩ := f2
              obtain ⟨u9, y9, n9, d9⟩ := f9
              go_wp2_with fail
              clear hw6
              refine (HL1.out _ HN6.out).mono ?_
              rintro e w7 ⟨rfl, hb7⟩
              have HP7 := Lib.hid (Pair.below H6.out (hb7.alloc hb7.size (.cells #[.int .i64 u14, .int .i64 y14, .int .u64 (n14 : Int), .string d14] 184)))
              have HX7 := Lib.hid ((H6.out.1.1.below hb7).next #[.int .i64 u14, .int .i64 y14, .int .u64 (n14 : Int), .string d14] 184)
              have HN7 := Lib.hid (step_below HN6.out (hb7.alloc hb7.size (.cells #[.int .i64 u14, .int .i64 y14, .int .u64 (n14 : Int), .string d14] 184)))
              have HG7 := Lib.hid (show w5.heap.size < w7.heap.size by have := H6.out.2.1.2.1; have := hb7.size; omega)
              clear hb7
              go_wp2_with fail
              refine (HL2.out _ HN7.out).mono ?_
              rintro e w8 ⟨rfl, hb8⟩
              have HP8 := Lib.hid (Pair.below HP7.out (hb8.alloc hb8.size (.cells #[.int .i64 u8, .int .i64 y8, .int .u64 (n8 : Int), .string d8] 184)))
              have HX78 := Lib.hid (HX7.out.below (hb8.alloc hb8.size (.cells #[.int .i64 u8, .int .i64 y8, .int .u64 (n8 : Int), .string d8] 184)))
              have HX8 := Lib.hid ((HX7.out.below hb8).next #[.int .i64 u8, .int .i64 y8, .int .u64 (n8 : Int), .string d8] 184)
              have HN8 := Lib.hid (step_below HN7.out (hb8.alloc hb8.size (.cells #[.int .i64 u8, .int .i64 y8, .int .u64 (n8 : Int), .string d8] 184)))
              have HG8 := Lib.hid (show w5.heap.size < w8.heap.size by have := HX7.out.2.1; have := hb8.size; have := HG7.out; omega)
              clear hb8
              go_wp2_with fail
              refine (HL3.out _ HN8.out).mono ?_
              rintro e w9 ⟨rfl, hb9⟩
              have HP9 := Lib.hid (Pair.below HP8.out (hb9.alloc hb9.size (.cells #[.int .i64 u2, .int .i64 y2, .int .u64 (n2 : Int), .string d2] 184)))
              have HX79 := Lib.hid (HX78.out.below (hb9.alloc hb9.size (.cells #[.int .i64 u2, .int .i64 y2, .int .u64 (n2 : Int), .string d2] 184)))
              have HX89 := Lib.hid (HX8.out.below (hb9.alloc hb9.size (.cells #[.int .i64 u2, .int .i64 y2, .int .u64 (n2 : Int), .string d2] 184)))
              have HX9 := Lib.hid ((HX8.out.below hb9).next #[.int .i64 u2, .int .i64 y2, .int .u64 (n2 : Int), .string d2] 184)
              have HN9 := Lib.hid (step_below HN8.out (hb9.alloc hb9.size (.cells #[.int .i64 u2, .int .i64 y2, .int .u64 (n2 : Int), .string d2] 184)))
              have HG9 := Lib.hid (show w5.heap.size < w9.heap.size by have := HX8.out.2.1; have := hb9.size; have := HG8.out; omega)
              clear hb9
              go_wp2_with fail
              refine (HL4.out _ HN9.out).mono ?_
              rintro e w10 ⟨rfl, hb10⟩
              have hall := hb10.alloc hb10.size (.cells #[.int .i64 u9, .int .i64 y9, .int .u64 (n9 : Int), .string d9] 184)
              have HG10 := Lib.hid (show w5.heap.size < w10.heap.size by have := HX9.out.2.1; have := hb10.size; have := HG9.out; omega)
              obtain ⟨wA, hA, hpA⟩ := name_world (P := fun W => Six w w5.heap.size w7.heap.size w8.heap.size w9.heap.size w10.heap.size ⟨#[]⟩ 0 0 0 ⟨#[]⟩ false r (.slice da r.d.length dc) (.slice sa r.s.length sc) (.slice na r.i.length nc) (.slice ba r.t.length bc) ⟨u14, y14, n14, d14⟩ ⟨u8, y8, n8, d8⟩ ⟨u2, y2, n2, d2⟩ ⟨u9, y9, n9, d9⟩ W) ⟨Pair.below HP9.out hall, HX79.out.below hall, HX89.out.below hall, HX9.out.below hall, (HX9.out.below hb10).next _ _, HZ6.out, HG7.out, HG8.out, HG9.out, HG10.out⟩
              have HS := Lib.hid hpA
              clear hb10 hall hpA HP7 HP8 HP9 HX7 HX78 HX79 HX8 HX89 HX9 HN6 HN7 HN8 HN9 HG7 HG8 HG9 HG10 H6 HL1 HL2 HL3 HL4 HZ6 HS2
              generalize w5.heap.size = g7 at *
              generalize w7.heap.size = g8 at *
              generalize w8.heap.size = g10 at *
              generalize w9.heap.size = g12 at *
              have c5 := HS.out.1.2.1.cell 5
              have c6 := HS.out.1.2.1.cell 6
              have c7 := HS.out.1.2.1.cell 7
              have q2 := HS.out.2.1.cell 2
              have q3 := HS.out.2.2.2.2.1.cell 3
              have g0 := fun i => HS.out.1.2.1.free i
              change _ = some _ at c5 c6 c7 q2 q3
              go_upto_region 14 with fail
              clear hA
              generalize w10.heap.size = g14 at *
              go_region
              obtain ⟨wB, hB, hpB⟩ := name_world (P := fun W => Six w g7 g8 g10 g12 g14 ⟨#[]⟩ 0 0 n14 d9 h9 r (.slice da r.d.length dc) (.slice sa r.s.length sc) (.slice na r.i.length nc) (.slice ba r.t.length bc) ⟨u14, y14, n14, d14⟩ ⟨u8, y8, n8, d8⟩ ⟨u2, y2, n2, d2⟩ ⟨u9, y9, n9, d9⟩ W) (Six.drew (Six.to (Six.to (Six.to HS.out 5 (.int .u64 (n14 : Int)) (nme' := ⟨#[]⟩) (k' := 0) (sz' := 0) (wh' := n14) (d' := ⟨#[]⟩) (hs' := false) rfl) 6 (.string d9) (nme' := ⟨#[]⟩) (k' := 0) (sz' := 0) (wh' := n14) (d' := d9) (hs' := false) rfl) 7 (.bool h9) (nme' := ⟨#[]⟩) (k' := 0) (sz' := 0) (wh' := n14) (d' := d9) (hs' := h9) rfl))
              rw [hB]
              have HS2 := Lib.hid hpB
              clear hB hpB HS c5 c6 c7 q2 q3 g0
              have q2 := HS2.out.2.2.2.1.cell 2
              have q3 := HS2.out.2.2.1.cell 3
              change _ = some _ at q2 q3
              go_upto_region 15 with fail
              go_cut [7] from 83 to 91 (fun s7 wx => s7 = .pointer (some ⟨g7, 0, none⟩) ∧ Six w g7 g8 g10 g12 g14 d8 (kindN n2) 0 n14 d9 h9 r (.slice da r.d.length dc) (.slice sa r.s.length sc) (.slice na r.i.length nc) (.slice ba r.t.length bc) ⟨u14, y14, n14, d14⟩ ⟨u8, y8, n8, d8⟩ ⟨u2, y2, n2, d2⟩ ⟨u9, y9, n9, d9⟩ wx)
              case first =>
                go_region_with (go_at_call 160; refine (kindOf_any n2 _).mono ?_; rintro e w11 ⟨rfl, hb11⟩; have hs11 := Six.below HS2.out.drew hb11; have k0 := hs11.1.2.1.cell 0; have k1 := hs11.1.2.1.cell 1; have k3 := hs11.2.2.1.cell 3; have g0 := fun i => hs11.1.2.1.free i; change _ = some _ at k0 k1 k3)
                all_goals
                  have hfin := Six.to (Six.to hs11 0 (.string d8) (nme' := d8) (k' := 0) (sz' := 0) (wh' := n14) (d' := d9) (hs' := h9) rfl) 1 (.int .i64 (kindN n2)) (nme' := d8) (k' := kindN n2) (sz' := 0) (wh' := n14) (d' := d9) (hs' := h9) rfl
                  clear k0 k1 k3 g0 hs11 hb11
                  go_wp2_with fail
                  go_meet
                  exact ⟨rfl, hfin⟩
              case rest =>
                obtain ⟨rfl, hs3⟩ := hcut
                obtain ⟨c0, c1', c2, c3, c4, c5, c6, c7, c8, c9, c10⟩ := hs3.1.2.cells
                have hkin := kindN_in n2
                have HCK := Lib.hid (check_any9 d8 (kindN n2) da dc r.d ⟨#[]⟩ 0 n14 d9 h9 (.slice sa r.s.length sc) (.slice na r.i.length nc) (.slice ba r.t.length bc) wc (by have := HF8.out.2; unfold maxLen; (try dsimp only at this); omega) (WalkArith.wf_i64 (by omega)) (SR.of_own hs3.1.2.2.1) (by have := HRO.out.dl; unfold maxLen; (try dsimp only at this); omega) HRO.out.di)
                have HS3 := Lib.hid hs3
                clear hs3 q2 q3 hkin HS2
                have HCE := Lib.hid (rfl : chk n14 d8 (kindN n2) r.d = chk n14 d8 (kindN n2) r.d)
                generalize hCK : chk n14 d8 (kindN n2) r.d = CK at HCK
                have HCQ := Lib.hid hCK
                clear hCK HCE
                obtain ⟨nn, cc⟩ := CK
                go_wp2_with fail
                refine HCK.out.mono ?_
                rintro e w12 ⟨rfl, hb12⟩
                have hs4 := Six.below HS3.out hb12
                have hs5 := Six.to hs4 4 (.int .i64 nn) (nme' := d8) (k' := kindN n2) (sz' := nn) (wh' := n14) (d' := d9) (hs' := h9) rfl
                clear c0 c1' c2 c3 c4 c5 c6 c7 c8 c9 c10
                have c4 := hs4.1.2.1.cell 4
                have gf := fun i => hs4.1.2.1.free i
                change _ = some _ at c4
                obtain ⟨wC, hwC, hs6⟩ := name_world (P := fun W => Six w g7 g8 g10 g12 g14 d8 (kindN n2) nn n14 d9 h9 r (.slice da r.d.length dc) (.slice sa r.s.length sc) (.slice na r.i.length nc) (.slice ba r.t.length bc) ⟨u14, y14, n14, d14⟩ ⟨u8, y8, n8, d8⟩ ⟨u2, y2, n2, d2⟩ ⟨u9, y9, n9, d9⟩ W) hs5
                have HS6 := Lib.hid hs6
                clear hs4 hs5 hs6 hb12 HS3 HCK
                by_cases hcc : cc ≠ 0
                · have hcb : (cc != 0) = true := by simpa using hcc
                  have HE := Lib.hid (HMC2.out nn cc HCQ.out hcc)
                  obtain ⟨wB2, hB, hxB⟩ := name_world (P := fun W => WX w w.heap.size w.heap.size ⟨#[]⟩ 0 ⟨#[]⟩ 0 0 ⟨#[]⟩ false zr (.slice none 0 0) (.slice none 0 0) (.slice none 0 0) (.slice none 0 0) W) (HS6.out.1.1.put (Nat.le_refl _) (Own4.nothing _ _))
                  have HB := Lib.hid hxB
                  obtain ⟨d0, d1, d2', d3, d4, d5, d6, d7, d8', d9', d10⟩ := HS6.out.1.1.cells
                  have g0 := fun i => HS6.out.1.1.1.free i
                  clear hcc hxB
                  go_wp2_with fail
                  obtain ⟨e0, e1, e2, e3, e4, e5, e6, e7, e8, e9, e10⟩ := HB.out.cells
                  exact bodyPost_ret (v := .tuple #[wa ⟨#[]⟩ 0 (.slice none 0 0) ⟨#[]⟩ 0 0 ⟨#[]⟩ false (.slice none 0 0) (.slice none 0 0) (.slice none 0 0), .int .i64 cc]) (by simp [results, Tryz.results117, go_sem, e0, e1, e2, e3, e4, e5, e6, e7, e8, e9, e10]) rfl (msgRes_no HE.out HB.out.1.all)
                · obtain rfl : cc = 0 := by omega
                  have HE := Lib.hid (HMO2.out nn HCQ.out)
                  obtain ⟨wB2, hB, hxB⟩ := name_world (P := fun W => WX w w.heap.size w.heap.size d8 (kindN n2) ⟨#[]⟩ nn n14 d9 h9 r (.slice da r.d.length dc) (.slice sa r.s.length sc) (.slice na r.i.length nc) (.slice ba r.t.length bc) W) (HS6.out.1.1.put (Nat.le_refl _) HS6.out.1.2.2)
                  have HB := Lib.hid hxB
                  obtain ⟨d0, d1, d2', d3, d4, d5, d6, d7, d8', d9', d10⟩ := HS6.out.1.1.cells
                  obtain ⟨x0, x1, x2, x3, x4, x5, x6, x7, x8, x9, x10⟩ := HS6.out.1.2.cells
                  have g0 := fun i => HS6.out.1.1.1.free i
                  clear hcc hxB
                  go_wp2_with fail
                  obtain ⟨e0, e1, e2, e3, e4, e5, e6, e7, e8, e9, e10⟩ := HB.out.cells
                  exact bodyPost_ret (v := .tuple #[wa d8 (kindN n2) (.slice da r.d.length dc) ⟨#[]⟩ nn n14 d9 h9 (.slice sa r.s.length sc) (.slice na r.i.length nc) (.slice ba r.t.length bc), .int .i64 0]) (by simp [results, Tryz.results117, go_sem, e0, e1, e2, e3, e4, e5, e6, e7, e8, e9, e10]) rfl (msgRes_yes HE.out HB.out.2 HB.out.1.all)
end Go.Proofs.YtjjfdlgoacockaaGreat
