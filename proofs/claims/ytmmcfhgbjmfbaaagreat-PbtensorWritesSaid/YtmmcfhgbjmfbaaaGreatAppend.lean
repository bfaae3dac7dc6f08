/- Appending a slice, nil or not, to a row of the call's own. No program is imported. -/
import Derived.Test.YtmmcfhgbjmfbaaaGreatMath
import Derived.Laws.AppendOwnNone
import Derived.OwnWalk
import Derived.Test.YtmmcfhgbjmfbaaaGreatOpenRow
import Derived.Lib.LazyBuf
import Derived.Outline
import Derived.WalkSpells
import Derived.WalkMore
namespace Go.Proofs.YtmmcfhgbjmfbaaaGreat
open Go.RowKit
theorem SR.cells {w : World} {B size n : Nat} {A : Option Addr} {xs : List Value} (h : SR w B size A n xs) : ∀ ad, A = some ad → ∀ j u, xs[j]? = some u → w.cell? (ad.add j) = some u := by
  intro ad hA j u hj
  have hpos : 0 < n := by
    have h1 := (List.getElem?_eq_some_iff.1 hj).1
    have h2 := h.1
    cases n with
    | zero => simp at h2; rw [h2] at h1; simp at h1
    | succ n => omega
  obtain ⟨b, o, hB, _, hc⟩ := h.2 hpos
  rw [hA] at hB
  injection hB with hB
  subst hB
  rw [Addr.add_mid]
  exact hc j u hj
theorem own_nil {w : World} {B size n c : Nat} {e : TypeId} {A : Option Addr} {xs : List Value} (h : w.ownsRow B e size (.slice A n c) n xs) : A = none → n = 0 ∧ c = 0 := by
  rintro rfl
  rcases h.2 with ⟨h1, h2⟩ | ⟨g, cap, cur, h1, _⟩
  · injection h1 with _ h3 h4; exact ⟨h2, h4⟩
  · simp at h1
theorem own_len1 {w : World} {B size n : Nat} {e : TypeId} {v : Value} {xs : List Value} (h : w.ownsRow B e size v n xs) : xs.length = n * size := h.1
theorem wpList_append_any {P : Program} {w : World} {ops : Array Oper} {rest : List Oper} {o : Oper} {a : Act} {Q : Exit → Act → World → Prop} (hgd : o.guard = none) (s x : Operand) (t : TypeId)
    (ho : o.op = .call { callee := .builtin .append, args := #[s, x], argTypes := #[t, t] })
    (base : Nat) (e : TypeId) (i : TypeInfo) (z : Value) (size bytes : Nat) (ht : P.underlying t = some (.slice e)) (hi : P.info? e = some i) (hz : i.zero = some z)
    (hsize : i.size = size) (hby : i.bytes = bytes) (hzs : z.cells.size = size) (hsz : 0 < size)
    (v : Value) (n : Nat) (xs : List Value) (hs : a.eval s = v) (hown : w.ownsRow base e size v n xs)
    (ao : Option Addr) (m c : Nat) (news : List Value) (hx : a.eval x = .slice ao m c) (hl : news.length = m * size) (hnone : ao = none → m = 0 ∧ c = 0)
    (hnews : ∀ ad, ao = some ad → ∀ j u, news[j]? = some u → w.cell? (ad.add j) = some u) (h1 : ∀ u ∈ news, u.oneCell' = true)
    (h63 : n + m ≤ maxLen) (hbytes : (n + m) * bytes ≤ 140737488355328) (hbase : base ≤ w.heap.size)
    (h : ∀ v' w', w'.ownsRow base e size v' (n + m) (xs ++ news) → w.grownBy w' v.ownBlock → wpList P ops Q rest (a.put o.dst v') w') : wpList P ops Q (o :: rest) a w := by
  cases ao with
  | some ad => exact wpList_append_own _ hgd s x t ho base e i z size bytes ht hi hz hsize hby hzs hsz v n xs hs hown ad m c news hx hl (hnews ad rfl) h1 h63 hbytes hbase fun v' w' h2 h3 _ => h v' w' h2 h3
  | none =>
    obtain ⟨rfl, rfl⟩ := hnone rfl
    have hn : news = [] := List.eq_nil_of_length_eq_zero (by simpa using hl)
    subst hn
    exact wpList_append_own_none hgd s x t ho base e i size ht hi v n xs hs hown hx (h v w (by simpa using hown) (World.grownBy.refl _ _))
end Go.Proofs.YtmmcfhgbjmfbaaaGreat
/- The walk of slices.Clone of a row of numbers. -/
namespace Go.Proofs.YtmmcfhgbjmfbaaaGreat
open Go.RowKit

set_option maxRecDepth 100000 in
theorem clone_any (A : Option Addr) (c : Nat) (l : List Int) (w : World) (hl : l.length ≤ 1000000) (ha : SR w w.heap.size 1 A l.length (iv l)) :
    Calls Tryz.prog 87 #[.slice A l.length c] w (IntsRes w.heap.size l w) := by
  obtain ⟨i0, hi0, hz0, hz1, hz2⟩ := info_parts infoInt64
  cases A with
  | none =>
    have h0 : l.length = 0 := by
      rcases Nat.eq_zero_or_pos l.length with h | h
      · exact h
      · obtain ⟨b, o, hA, _⟩ := ha.2 h
        cases hA
    obtain rfl : l = [] := List.eq_nil_of_length_eq_zero h0
    clear ha h0 hl
    have hq := _root_.Go.run_eql_slice_nil (P := Tryz.prog) w 31 2 none 0 c Tryz.underlying31
    go_enter Tryz.func87, Tryz.ntmps87
    go_wp2_with fail
    go_ret
    exact ⟨_, rfl, World.ownsRow_nil _ _ _ _, Below.refl _ _⟩
  | some ad =>
    have HS := Lib.hid ha
    have hls := (HS.out.below ((Below.refl w.heap.size w).alloc (Nat.le_refl _) (.cells #[] 2))).cells
    clear ha
    have hq := _root_.Go.run_eql_slice_nil (P := Tryz.prog) w 31 2 (some ad) l.length c Tryz.underlying31
    go_enter Tryz.func87, Tryz.ntmps87
    go_wp2_with (at_builtin; refine wpList_append_own _ rfl _ _ 31 rfl w.heap.size 2 i0 _ 1 8 Tryz.underlying31 hi0 hz0 hz1 hz2 rfl (by decide) _ 0 [] rfl (World.ownsRow_lit (size := 1) w #[] 0 (Nat.le_refl _) (by unfold maxLen; omega) rfl) ad l.length c (iv l) rfl (by rw [iv_len, Nat.mul_one]) ?c1 iv_oneCell ?c3 ?c4 ?c5 ?_)
    case c1 =>
      exact fun j u hj => hls ad rfl j u hj
    case c3 => unfold maxLen; omega
    case c4 => omega
    case c5 => simp
    intro v' w2 hown' hgrow _
    have HR : Hid (w2.ownsRow w.heap.size 2 1 v' l.length (iv l) ∧ Below w.heap.size w w2) := Lib.hid ⟨by simpa using hown', ((Below.refl w.heap.size w).alloc (Nat.le_refl _) _).grown hgrow (by simp) (fun q hq => by simp [Value.ownBlock] at hq; omega)⟩
    clear hown' hgrow
    go_wp2_with fail
    go_ret
    exact ⟨_, rfl, HR.out.1, HR.out.2⟩
end Go.Proofs.YtmmcfhgbjmfbaaaGreat
