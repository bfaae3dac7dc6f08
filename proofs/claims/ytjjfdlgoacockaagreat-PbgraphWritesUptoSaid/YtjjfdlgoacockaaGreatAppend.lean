import Derived.Test.YtjjfdlgoacockaaGreatMath
import Derived.Laws.AppendOwnNone
import Derived.OwnWalk
import Derived.Test.YtjjfdlgoacockaaGreatOpenRow
import Derived.Lib.LazyBuf
import Derived.Outline
import Derived.WalkSpells
import Derived.WalkMore
namespace Go.Proofs.YtjjfdlgoacockaaGreat
open Go.RowKit
theorem SR.cells {w : World} {B size n : Nat} {A : Option Addr} {xs : List Value} (h : SR w B size A n xs) : ∀ ad, A = some ad → ∀ j u, xs[j]? = some u → w.cell? (ad.add j) = some u := by
  intro ad hA j u hj
  have hpos : 0 < n := by
    have h1 := (List.getElem?_eq_some_iff.1 hj).1
    have h2 := h.1
    cases n with
    | zero => simp at h2; rw [h2] at h1; simp at h1
    | succ n => omega
  obtain ⟨b, o, hB, _, hc⟩ := h.2 hpos
  rw [hA] at hB
  injection hB with hB
  subst hB
  rw [Addr.add_mid]
  exact hc j u hj
end Go.Proofs.YtjjfdlgoacockaaGreat
namespace Go.Proofs.YtjjfdlgoacockaaGreat
open Go.RowKit

set_option maxRecDepth 100000 in
theorem clone_any (A : Option Addr) (c : Nat) (l : List Int) (w : World) (hl : l.length ≤ 1000000) (ha : SR w w.heap.size 1 A l.length (iv l)) :
    Calls Tryz.prog 144 #[.slice A l.length c] w (IntsRes w.heap.size l w) := by
  obtain ⟨i0, hi0, hz0, hz1, hz2⟩ := info_parts infoInt64
  cases A with
  | none =>
    have h0 : l.length = 0 := by
      rcases Nat.eq_zero_or_pos l.length with h | h
      · exact h
      · obtain ⟨b, o, hA, _⟩ := ha.2 h
        cases hA
    obtain rfl : l = [] := List.eq_nil_of_length_eq_zero h0
    clear ha h0 hl
    have hq := _root_.Go.run_eql_slice_nil (P := Tryz.prog) w 83 2 none 0 c Tryz.underlying83
    go_enter Tryz.func144, Tryz.ntmps144
    go_wp2_with fail
    go_ret
    exact ⟨_, rfl, World.ownsRow_nil _ _ _ _, Below.refl _ _⟩
  | some ad =>
    have HS := Lib.hid ha
    have hls := (HS.out.below ((Below.refl w.heap.size w).alloc (Nat.le_refl _) (.cells #[] 2))).cells
    clear ha
    have hq := _root_.Go.run_eql_slice_nil (P := Tryz.prog) w 83 2 (some ad) l.length c Tryz.underlying83
    go_enter Tryz.func144, Tryz.ntmps144
    go_wp2_with (at_builtin; refine wpList_append_own _ rfl _ _ 83 rfl w.heap.size 2 i0 _ 1 8 Tryz.underlying83 hi0 hz0 hz1 hz2 rfl (by decide) _ 0 [] rfl (World.ownsRow_lit (size := 1) w #[] 0 (Nat.le_refl _) (by unfold maxLen; omega) rfl) ad l.length c (iv l) rfl (by rw [iv_len, Nat.mul_one]) ?c1 iv_oneCell ?c3 ?c4 ?c5 ?_)
    case c1 =>
      exact fun j u hj => hls ad rfl j u hj
    case c3 => unfold maxLen; omega
    case c4 => omega
    case c5 => simp
    intro v' w2 hown' hgrow _
    have HR : Hid (w2.ownsRow w.heap.size 2 1 v' l.length (iv l) ∧ Below w.heap.size w w2) := Lib.hid ⟨by simpa using hown', ((Below.refl w.heap.size w).alloc (Nat.le_refl _) _).grown hgrow (by simp) (fun q hq => by simp [Value.ownBlock] at hq; omega)⟩
    clear hown' hgrow
    go_wp2_with fail
    go_ret
    exact ⟨_, rfl, HR.out.1, HR.out.2⟩
end Go.Proofs.YtjjfdlgoacockaaGreat
