/- The walk of layer 2: the fields of a message, by contract. -/
import Derived.Test.YtmojabdobjfdoaaWFirst
namespace Go.Proofs.Ytmojabdobjfdoaa
open Go.RowKit M1 M2

set_option maxRecDepth 100000 in
theorem fields_any (s : ByteArray) (w : World) (hs : s.size ≤ maxLen) :
    Calls Try.prog 16 #[.string s] w fun e w' => ∃ v, e = .returned (.tuple #[v, .int .i64 (fields s).2]) ∧ w'.ownsRow w.heap.size 27 4 v (fields s).1.length (fcs (fields s).1) ∧ Below w.heap.size w w' := by
  have hs' := hs
  unfold maxLen at hs'
  by_cases hlong : 1048576 < s.size
  · have e : fields s = ([], 2) := by unfold fields; rw [if_pos hlong]
    rw [e]
    have hl : (1048576 : Int) < (s.size : Int) := by omega
    clear e hlong
    go_enter Try.func16, Try.ntmps16
    go_wp2
    go_ret2
    exact ⟨_, rfl, World.ownsRow_nil _ _ _ _, Below.refl _ _⟩
  · have e : fields s = flw s := by unfold fields; rw [if_neg hlong]
    rw [e]
    have hl : (s.size : Int) ≤ 1048576 := by omega
    obtain ⟨i0, hi0, hz0, hz1, hz2⟩ := info_parts infoField
    clear e hlong
    go_enter Try.func16, Try.ntmps16
    go_wp2
    go_loopw [0, 4] (fun b v wr => ∃ (t : ByteArray) (acc : List WFd), b = .string t ∧ wr.ownsRow w.heap.size 27 4 v acc.length (fcs acc) ∧ Below w.heap.size w wr ∧ flw s = jn acc (flw t) ∧ acc.length + t.size ≤ s.size) (fun b _ _ => match b with | .string t => t.size | _ => 0)
    case atStart => exact ⟨s, [], rfl, World.ownsRow_nil _ _ _ _, Below.refl _ _, (jn_nil s).symm, by simp⟩
    case round =>
      obtain ⟨t, acc, rfl, hown, hb, hfl, hsz⟩ := hrel
      have HF := Lib.hid hfl; clear hfl
      obtain ⟨A, c0, rfl, hn1, hn2⟩ := own_form hown
      by_cases h0 : t.size = 0
      · have h0' : ¬ (0 : Int) < (t.size : Int) := by omega
        have HO := Lib.hid hown
        have HB := Lib.hid hb
        have he := HF.out
        rw [flw_end h0] at he
        have HE : Hid (flw s = (acc, 0)) := Lib.hid (by rw [he]; simp [jn])
        clear hown hb he
        go_wp2
        go_ret2
        rw [HE.out]
        exact ⟨_, rfl, HO.out, HB.out⟩
      · have h0' : (0 : Int) < (t.size : Int) := by omega
        have hts : t.size ≤ maxLen := by unfold maxLen; omega
        go_wp2_with fail
        refine (first_any t _ hts).mono ?_
        rintro e w1 ⟨rfl, hb1⟩
        have hstep := flw_step (s := t) h0
        have herr := flw_err (s := t) h0
        have hfit := one_fit (s := t)
        obtain ⟨⟨num, typ, N, D⟩, m, c, ho⟩ : ∃ F m c, one t = (F, m, c) := ⟨_, _, _, rfl⟩
        rw [ho] at hstep herr hfit
        rw [ho]
        simp only [fc] at hstep herr hfit ⊢
        have HS := Lib.hid hstep
        have HR := Lib.hid herr
        have HFit := Lib.hid hfit
        clear hstep herr hfit ho
        by_cases he : c = 0
        · subst he
          obtain ⟨hm0, hm⟩ := HFit.out rfl
          have hown1 := own_keep hown hb1
          have hb2 : Below w.heap.size w w1 := hb.trans (hb1.mono hb.size)
          have hz := hb2.size
          have HB2 := Lib.hid hb2
          clear hown hb hb2 hb1
          have hmi : (m : Int) ≤ (t.size : Int) := by omega
          go_wp2_with (at_builtin; refine wpList_append_own _ rfl _ _ 22 rfl w.heap.size 27 i0 _ 4 40 Try.underlying22 hi0 hz0 hz1 hz2 rfl (by decide) _ _ _ rfl ((hown1.alloc _).alloc _) ⟨w1.heap.size + 1, 0, none⟩ 1 1 (fc ⟨num, typ, N, D⟩) rfl rfl (cells_new2 _ _ _ _) ?c2 ?c3 ?c4 ?c5 ?_)
          case c2 => intro u hu; exact fcs_one_cell (l := [⟨num, typ, N, D⟩]) u (by rw [fcs_one]; exact hu)
          case c3 => unfold maxLen; omega
          case c4 => omega
          case c5 => first | omega | (simp; omega)
          intro v' w2 hown' hgrow _
          have e1 : fcs acc ++ fc ⟨num, typ, N, D⟩ = fcs (acc ++ [⟨num, typ, N, D⟩]) := by rw [fcs_append, fcs_one]
          have e2 : acc.length + 1 = (acc ++ [(⟨num, typ, N, D⟩ : WFd)]).length := by simp
          rw [e1, e2] at hown'
          have hb3 := ((HB2.out.alloc hz _).alloc (by simp; omega) _).grown hgrow (by simp; omega) (fun q hq => (hown1.lt q hq).1)
          have HO := Lib.hid (And.intro hown' hb3)
          clear hgrow hown' hown1 hb3 e1 e2
          go_wp2_with fail
          go_roundw
          case rel =>
            refine ⟨rest t m, acc ++ [⟨num, typ, N, D⟩], rfl, HO.out.1, HO.out.2, ?_, by rw [rest_size]; simp; omega⟩
            rw [HF.out]
            exact HS.out (by simp) acc
          case measure => show (rest t m).size < t.size; rw [rest_size]; omega
        · have hc : ((c : Int) != 0) = true := by simp; omega
          have hx := HF.out
          rw [HR.out he] at hx
          have HE : Hid (flw s = ([], c)) := Lib.hid (by rw [hx]; simp [jn, he])
          have HB := Lib.hid ((hb.trans (hb1.mono hb.size)).alloc (Nat.le_trans hb.size hb1.size) (.cells #[.int .i64 num, .int .i64 typ, .int .u64 N, .string D] 27))
          clear hown hb hb1 hx
          go_wp2_with fail
          go_ret2
          rw [HE.out]
          exact ⟨_, rfl, World.ownsRow_nil _ _ _ _, HB.out⟩
end Go.Proofs.Ytmojabdobjfdoaa
