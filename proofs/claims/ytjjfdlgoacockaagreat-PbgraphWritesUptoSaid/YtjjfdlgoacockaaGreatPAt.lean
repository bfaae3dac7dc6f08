import Derived.Test.YtjjfdlgoacockaaGreatMath
import Derived.Test.YtjjfdlgoacockaaGreatOpenRow
import Derived.Test.YtjjfdlgoacockaaGreatWOpen
import Derived.ScopeJumps
import Derived.WalkKit
import Derived.Lib.Hide
import Derived.Below
namespace Go.Proofs.YtjjfdlgoacockaaGreat
open Go.RowKit M1 M2 M3

def p_tv (l : List ByteArray) : List Value := l.map Value.string
theorem tv_append (a b : List ByteArray) : p_tv (a ++ b) = p_tv a ++ p_tv b := by simp [p_tv]
theorem txt_at {w : World} {B : Nat} {A : Option Addr} {l : List ByteArray} (h : SR w B 1 A l.length (p_tv l)) {k : Nat} (hk : k < l.length) :
    ∃ b o, A = some ⟨b, o, none⟩ ∧ b < B ∧ w.cell? ⟨b, o + k, none⟩ = some (.string l[k]) := cell_at h hk (by simp [p_tv, hk])
theorem infoString : (Tryz.prog.info? 9).map (fun i => (i.zero, i.size, i.bytes)) = some (some (.string ⟨#[]⟩), 1, 16) := by kernel_rfl

def TxtRes (B : Nat) (r : List ByteArray × Nat) (w : World) (e : Ending) (w' : World) : Prop :=
  ∃ v, e = .returned (.tuple #[v, .int .i64 (r.2 : Int)]) ∧ w'.ownsRow B 9 1 v r.1.length (p_tv r.1) ∧ Below B w w'
end Go.Proofs.YtjjfdlgoacockaaGreat
namespace Go.Proofs.YtjjfdlgoacockaaGreat
open Go.RowKit M1 M2 M3

set_option maxRecDepth 100000 in
theorem texts_any (A : Option Addr) (c : Nat) (l : List WFd) (num : Int) (w : World) (hl : l.length ≤ 3000000) (ha : SR w w.heap.size 4 A l.length (fcs l)) :
    Calls Tryz.prog 66 #[.slice A l.length c, .int .i64 num] w (TxtRes w.heap.size (txts (ofNum l num) []) w) := by
  have hFl := ofNum_le l num
  have HA := Lib.hid (fun W h => w_all_any A c l num W hl h)
  obtain ⟨i0, hi0, hz0, hz1, hz2⟩ := info_parts infoString
  go_enter Tryz.func66, Tryz.ntmps66
  go_wp2_with fail
  refine (HA.out _ ha).mono ?_
  rintro e w1 ⟨v1, rfl, hown1, hb1⟩
  obtain ⟨A1, c1, rfl, -, -⟩ := own_form hown1
  have hs1 := SR.of_own hown1
  have HB1 := Lib.hid hb1
  clear hown1 hb1 ha HA
  generalize hFF : ofNum l num = F at *
  clear hFF
  go_wp2_with fail
  go_loopw [6, 13] (fun v i wr => ∃ (k : Nat) (K : Int) (r : List ByteArray), i = .int .i64 K ∧ K = (k : Nat) ∧ k ≤ F.length ∧ wr.ownsRow w1.heap.size 9 1 v r.length (p_tv r) ∧ Below w1.heap.size w1 wr ∧ txts F [] = txts (F.drop k) r ∧ r.length ≤ k) (fun _ i _ => F.length - (intOf i).toNat)
  case atStart => exact ⟨0, _, [], rfl, rfl, by omega, World.ownsRow_nil _ _ _ _, Below.refl _ _, rfl, by simp⟩
  case round =>
    obtain ⟨k, K, r, rfl, rfl, hk, hown, hb, hr, hrl⟩ := hrel
    have HR := Lib.hid hr; clear hr
    obtain ⟨V, vc, rfl, -, -⟩ := own_form hown
    by_cases hlt : k < F.length
    · obtain ⟨b1, o1, rfl, hlt1, x0, x1, x2, x3⟩ := field_at (hs1.below hb) hlt
      have hz := hb.size
      have hd := List.drop_eq_getElem_cons hlt
      generalize F[k] = f at *
      obtain ⟨fnum, ftyp, fn, fdata⟩ := f
      simp only at x0 x1 x2 x3
      have hown' := (hown.alloc (.cells #[.int .i64 fnum, .int .i64 ftyp, .int .u64 (fn : Int), .string fdata] 184)).alloc (.cells #[.string fdata] 9)
      have HBa := Lib.hid (hb.alloc hz (.cells #[.int .i64 fnum, .int .i64 ftyp, .int .u64 (fn : Int), .string fdata] 184))
      have HD := Lib.hid hd
      clear hd hown hb hs1
      by_cases h2 : ftyp = 2
      · have h2' : (ftyp != 2) = false := by simpa using h2
        subst h2
        have HE : Hid (txts F [] = txts (F.drop (k + 1)) (r ++ [fdata])) := Lib.hid (by rw [HR.out, HD.out, txts]; simp)
        go_wp2_with (at_builtin; refine wpList_append_own _ rfl _ _ 64 rfl w1.heap.size 9 i0 _ 1 16 Tryz.underlying64 hi0 hz0 hz1 hz2 rfl (by decide) _ _ _ rfl hown' ⟨wr.heap.size + 1, 0, none⟩ 1 1 [.string fdata] rfl rfl (cells_new2 _ _ _ _) ?c2 ?c3 ?c4 ?c5 ?_)
        case c2 => intro u hu; simp at hu; subst hu; rfl
        case c3 => unfold maxLen; omega
        case c4 => omega
        case c5 => simp; omega
        intro v' w2 hown2 hgrow _
        have e1 : p_tv r ++ [.string fdata] = p_tv (r ++ [fdata]) := by rw [tv_append]; rfl
        have e2 : r.length + 1 = (r ++ [fdata]).length := by simp
        rw [e1, e2] at hown2
        have hb2 := (HBa.out.alloc (by simp; omega) (.cells #[.string fdata] 9)).grown hgrow (by simp; omega) (fun q hq => (hown'.lt q hq).1)
        have HO2 := Lib.hid (And.intro hown2 hb2)
        clear hown2 hgrow hown' e1 e2 hb2
        go_wp2_with fail
        go_roundw
        case rel => exact ⟨k + 1, _, r ++ [fdata], rfl, by omega, by omega, HO2.out.1, HO2.out.2, HE.out, by simp; omega⟩
        case measure => simp [intOf]; omega
      · have h2' : (ftyp != 2) = true := by simpa using h2
        have HE : Hid (txts F [] = ([], 3)) := Lib.hid (by rw [HR.out, HD.out, txts]; simp [h2])
        clear hown' h2
        go_wp2_with fail
        go_ret2
        rw [HE.out]
        exact ⟨_, rfl, World.ownsRow_nil _ _ _ _, HB1.out.trans (HBa.out.mono HB1.out.size)⟩
    · obtain rfl : k = F.length := by omega
      have HE : Hid (txts F [] = (r, 0)) := Lib.hid (by rw [HR.out, List.drop_length]; rfl)
      have HO := Lib.hid (And.intro hown hb)
      clear hown hb
      go_wp2
      go_ret2
      rw [HE.out]
      exact ⟨_, rfl, own_base HO.out.1 HB1.out.size, HB1.out.trans (HO.out.2.mono HB1.out.size)⟩

end Go.Proofs.YtjjfdlgoacockaaGreat
namespace Go.Proofs.YtjjfdlgoacockaaGreat
open Go.RowKit
section
variable {P : Program} {a : Act} {w : World} {Q : Exit → Act → World → Prop}

theorem wp_scope_back {c body : Code} (l : Nat) (J : Act → World → Prop) (μ : Act → World → Nat) (hf : findLabel c l = some (.seq .skip body))
    (start : Hid (∀ a w, J a w → body.wp P (Exit.jump l J Q) a w) → c.wp P (Exit.jump l J Q) a w)
    (pass : ∀ a w, J a w → body.wp P (Exit.jump l (fun a' w' => J a' w' ∧ μ a' w' < μ a w) Q) a w) : (Code.scope c).wp P Q a w := by
  refine wp_scope_jumps (rest := .seq .skip body) l J μ hf (start (Lib.hid ?_)) ?_
  · intro a w hJ
    refine wp_mono (pass a w hJ) ?_
    intro e a' w' h
    cases e <;> first | exact h | exact ⟨h.1, h.2.1⟩
  · intro a w hJ
    exact wp_seq (wp_skip (pass a w hJ))
end
end Go.Proofs.YtjjfdlgoacockaaGreat
