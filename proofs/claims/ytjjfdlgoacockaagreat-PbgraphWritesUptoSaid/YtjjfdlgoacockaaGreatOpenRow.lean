import Derived.Test.YtjjfdlgoacockaaGreatMath
import Derived.Deep.Slices
import Derived.ChangeSame
import Derived.SizedLaws
import Derived.OpenShut
import Derived.Test.YtjjfdlgoacockaaGreatRows
import Derived.Test.YtjjfdlgoacockaaGreatWOpen
namespace Go.Proofs.YtjjfdlgoacockaaGreat
open Go.RowKit Go.ChangeShapes Go.WideShapes Go.Deep
section
variable {H : Type} {enc : TypeId × Value → H} {P : Program} {w : World} {base : Nat} {spare : Nat → Bool} {held : Bool}
theorem plain_cell {a : Addr} {v : Value} (h : w.cell? a = some v) : a = ⟨a.block, a.off, none⟩ ∧ a.block < w.heap.size := by
  refine ⟨?_, block_lt_of_cell h⟩
  obtain ⟨b, o, s⟩ := a
  cases s with
  | none => rfl
  | some x =>
    unfold World.cell? at h
    split at h <;> simp at h
end
end Go.Proofs.YtjjfdlgoacockaaGreat
namespace Go.Proofs.YtjjfdlgoacockaaGreat
open Go.RowKit Go.ChangeShapes Go.WideShapes Go.Deep
section
variable {H : Type} {enc : TypeId × Value → H} {P : Program} {w : World} {base : Nat} {spare : Nat → Bool} {held : Bool}
theorem weights_deep {e : TypeId} {d : DataW H} : ∀ {ds : List (DataW H)}, d ∈ ds → ∀ n ∈ d.weights P e, n ∈ DataW.weightsAll P e ds
  | d0 :: ds, hd, n, hn => by
    simp only [DataW.weightsAll, List.mem_append]
    rcases List.mem_cons.1 hd with rfl | hd
    · exact .inl hn
    · exact .inr (weights_deep hd n hn)
theorem flat_len_deep {size : Nat} : ∀ {css : List (List Value)}, (∀ c ∈ css, c.length = size) → css.flatten.length = css.length * size
  | [], _ => by simp
  | c :: css, h => by
    rw [List.flatten_cons, List.length_append, flat_len_deep (fun x hx => h x (List.mem_cons_of_mem _ hx)), h c List.mem_cons_self, List.length_cons, Nat.succ_mul]
    omega
theorem flat_at_deep {size : Nat} : ∀ {css : List (List Value)} {k : Nat}, (∀ c ∈ css, c.length = size) → ∀ (hk : k < css.length) (j : Nat), j < size → css.flatten[k * size + j]? = css[k][j]?
  | [], _, _, hk, _, _ => absurd hk (by simp)
  | c :: css, 0, h, _, j, hj => by
    have hc := h c List.mem_cons_self
    rw [List.flatten_cons, Nat.zero_mul, Nat.zero_add, List.getElem?_append_left (by omega)]
    rfl
  | c :: css, k + 1, h, hk, j, hj => by
    have hc := h c List.mem_cons_self
    rw [List.flatten_cons, List.getElem?_append_right (by rw [Nat.succ_mul]; omega), hc, show (k + 1) * size + j - size = k * size + j by rw [Nat.succ_mul]; omega]
    simpa using flat_at_deep (css := css) (k := k) (fun x hx => h x (List.mem_cons_of_mem _ hx)) (by simpa using hk) j hj
end
end Go.Proofs.YtjjfdlgoacockaaGreat
namespace Go.Proofs.YtjjfdlgoacockaaGreat
open Go.RowKit Go.ChangeShapes Go.WideShapes

def iv (l : List Int) : List Value := l.map (Value.int .i64)
theorem iv_len (l : List Int) : (iv l).length = l.length := by simp [iv]
theorem iv_append (a b : List Int) : iv (a ++ b) = iv a ++ iv b := by simp [iv]
theorem iv_oneCell {l : List Int} : ∀ u ∈ iv l, u.oneCell' = true := by
  intro u hu; simp only [iv, List.mem_map] at hu; obtain ⟨b, _, rfl⟩ := hu; rfl
theorem cell_at {w : World} {B : Nat} {A : Option Addr} {n : Nat} {xs : List Value} (h : SR w B 1 A n xs) {k : Nat} (hk : k < n) {u : Value} (hu : xs[k]? = some u) :
    ∃ b o, A = some ⟨b, o, none⟩ ∧ b < B ∧ w.cell? ⟨b, o + k, none⟩ = some u := by
  obtain ⟨b, o, hA, hb, hc⟩ := h.at_ hk
  refine ⟨b, o, hA, hb, ?_⟩
  have := hc 0 (by omega) u (by simpa using hu)
  simpa using this
theorem int_at {w : World} {B : Nat} {A : Option Addr} {l : List Int} (h : SR w B 1 A l.length (iv l)) {k : Nat} (hk : k < l.length) :
    ∃ b o, A = some ⟨b, o, none⟩ ∧ b < B ∧ w.cell? ⟨b, o + k, none⟩ = some (.int .i64 l[k]) := cell_at h hk (by simp [iv, hk])
theorem infoInt64 : (Tryz.prog.info? 2).map (fun i => (i.zero, i.size, i.bytes)) = some (some (.int .i64 0), 1, 8) := by kernel_rfl
def RowRes (B : Nat) (r : List Int × Nat) (w : World) (e : Ending) (w' : World) : Prop :=
  ∃ v, e = .returned (.tuple #[v, .int .i64 (r.2 : Int)]) ∧ w'.ownsRow B 2 1 v r.1.length (iv r.1) ∧ Below B w w'
def IntsRes (B : Nat) (r : List Int) (w : World) (e : Ending) (w' : World) : Prop :=
  ∃ v, e = .returned v ∧ w'.ownsRow B 2 1 v r.length (iv r) ∧ Below B w w'
def I64 (n : Int) : Prop := -9223372036854775808 ≤ n ∧ n ≤ 9223372036854775807
section
variable {H : Type} {enc : TypeId × Value → H} {w : World} {base : Nat} {spare : Nat → Bool} {held : Bool}
end
end Go.Proofs.YtjjfdlgoacockaaGreat
namespace Go.Proofs.YtjjfdlgoacockaaGreat
open Go.RowKit M5

def boV (x y : Int) : Int := if okd x y then bo x y else 0
def boB (x y : Int) : Bool := decide (okd x y)

theorem both_any (x y : Int) (w : World) :
    Calls Tryz.prog 174 #[.int .i64 x, .int .i64 y] w fun e w' => e = .returned (.tuple #[.int .i64 (boV x y), .bool (boB x y)]) ∧ w = w' := by
  by_cases h1 : x = y
  · subst h1
    have HE : Hid (boV x x = x ∧ boB x x = true) := Lib.hid ⟨by unfold boV; rw [if_pos (.inl rfl)]; unfold bo; split <;> rfl, decide_eq_true (.inl rfl)⟩
    go_enter Tryz.func174, Tryz.ntmps174
    go_wp2_with fail
    go_ret2
    rw [HE.out.1, HE.out.2]
    exact ⟨rfl, rfl⟩
  · have h1' : (x == y) = false := by simpa using h1
    by_cases h2 : y = 1
    · subst h2
      have HE : Hid (boV x 1 = x ∧ boB x 1 = true) := Lib.hid ⟨by unfold boV; rw [if_pos (.inr (.inr rfl))]; unfold bo; split <;> omega, decide_eq_true (.inr (.inr rfl))⟩
      clear h1
      go_enter Tryz.func174, Tryz.ntmps174
      go_wp2_with fail
      go_ret2
      rw [HE.out.1, HE.out.2]
      exact ⟨rfl, rfl⟩
    · have h2' : (y == 1) = false := by simpa using h2
      by_cases h3 : x = 1
      · subst h3
        have HE : Hid (boV 1 y = y ∧ boB 1 y = true) := Lib.hid ⟨by unfold boV; rw [if_pos (.inr (.inl rfl))]; rfl, decide_eq_true (.inr (.inl rfl))⟩
        clear h1 h2
        go_enter Tryz.func174, Tryz.ntmps174
        go_wp2_with fail
        go_ret2
        rw [HE.out.1, HE.out.2]
        exact ⟨rfl, rfl⟩
      · have h3' : (x == 1) = false := by simpa using h3
        have hno : ¬ okd x y := by unfold okd; omega
        have HE : Hid (boV x y = 0 ∧ boB x y = false) := Lib.hid ⟨by unfold boV; exact if_neg hno, decide_eq_false hno⟩
        clear h1 h2 h3 hno
        go_enter Tryz.func174, Tryz.ntmps174
        go_wp2_with fail
        go_ret2
        rw [HE.out.1, HE.out.2]
        exact ⟨rfl, rfl⟩

set_option maxRecDepth 100000 in
theorem dim_any (A : Option Addr) (c : Nat) (l : List Int) (i r : Nat) (w : World) {B : Nat} (hl : l.length ≤ r) (hr : r ≤ 8) (hi : i < r) (ha : SR w B 1 A l.length (iv l)) :
    Calls Tryz.prog 175 #[.slice A l.length c, .int .i64 (i : Int), .int .i64 (r : Int)] w fun en w' => en = .returned (.int .i64 (e l (r - 1 - i))) ∧ w = w' := by
  by_cases h : i < r - l.length
  · have HE := Lib.hid (e_ge (l := l) (i := r - 1 - i) (by omega))
    have h' : (i : Int) < (r : Int) - (l.length : Int) := by omega
    clear ha h
    go_enter Tryz.func175, Tryz.ntmps175
    go_wp2_with fail
    go_ret
    rw [HE.out]
    exact ⟨rfl, rfl⟩
  · have h' : ¬ (i : Int) < (r : Int) - (l.length : Int) := by omega
    have he := e_lt (l := l) (i := r - 1 - i) (by omega)
    have hj : l.length - 1 - (r - 1 - i) < l.length := by omega
    obtain ⟨b1, o1, rfl, hb1, x0⟩ := int_at ha hj
    rw [← he] at x0
    have hji : l.length - 1 - (r - 1 - i) = i - (r - l.length) := by omega
    rw [hji] at x0
    generalize e l (r - 1 - i) = u at *
    clear he ha h hj hji
    have hlen : (l.length : Int) ≤ (r : Int) := by omega
    go_enter Tryz.func175, Tryz.ntmps175
    go_wp2_with fail
    go_ret
    exact ⟨rfl, rfl⟩

end Go.Proofs.YtjjfdlgoacockaaGreat
