/- Own texts, put together: Ints, GOut, GMul, GAwake, GRef, GRefTwo, GOf, GBytes, GSame, TMath, Text, TCut, Cells, TPut, Append, TClone, Build, BuildTwo, MapLit. -/
import Derived.Test.YtngjpgdgipmieaaPartA
import Derived.Test.YtngjpgdgipmieaaRows
import Derived.Lib.QuietBelow
import Derived.WalkKit
import Derived.OwnWalk
import Derived.Lib.BufferWrite
import Derived.Laws.CopyOwn
import Derived.Laws.AppendOwnNone
import Derived.Lib.LazyBuf
import Derived.Outline
import Derived.WalkSpells
import Derived.WalkMore
import Derived.Shelf.Strings.BuilderF
import Derived.Lib.MakeNoZero
import Derived.Maps.RangeWalk
/- Rows of int64 numbers: as cells, element by element, as a result beside a code. -/
namespace Go.Proofs.Ytngjpgdgipmieaa
open Go.RowKit Go.ChangeShapes Go.WideShapes

def iv (l : List Int) : List Value := l.map (Value.int .i64)
theorem iv_len (l : List Int) : (iv l).length = l.length := by simp [iv]
theorem iv_append (a b : List Int) : iv (a ++ b) = iv a ++ iv b := by simp [iv]
theorem iv_oneCell {l : List Int} : ∀ u ∈ iv l, u.oneCell' = true := by
  intro u hu; simp only [iv, List.mem_map] at hu; obtain ⟨b, _, rfl⟩ := hu; rfl
theorem cell_at {w : World} {B : Nat} {A : Option Addr} {n : Nat} {xs : List Value} (h : SR w B 1 A n xs) {k : Nat} (hk : k < n) {u : Value} (hu : xs[k]? = some u) :
    ∃ b o, A = some ⟨b, o, none⟩ ∧ b < B ∧ w.cell? ⟨b, o + k, none⟩ = some u := by
  obtain ⟨b, o, hA, hb, hc⟩ := h.at_ hk
  refine ⟨b, o, hA, hb, ?_⟩
  have := hc 0 (by omega) u (by simpa using hu)
  simpa using this
theorem int_at {w : World} {B : Nat} {A : Option Addr} {l : List Int} (h : SR w B 1 A l.length (iv l)) {k : Nat} (hk : k < l.length) :
    ∃ b o, A = some ⟨b, o, none⟩ ∧ b < B ∧ w.cell? ⟨b, o + k, none⟩ = some (.int .i64 l[k]) := cell_at h hk (by simp [iv, hk])
theorem infoInt64 : (Try.prog.info? 2).map (fun i => (i.zero, i.size, i.bytes)) = some (some (.int .i64 0), 1, 8) := by kernel_rfl
/-- what a call gives that ends a row, or an error: a slice of its own, and a code -/
def RowRes (B : Nat) (r : List Int × Nat) (w : World) (e : Ending) (w' : World) : Prop :=
  ∃ v, e = .returned (.tuple #[v, .int .i64 (r.2 : Int)]) ∧ w'.ownsRow B 2 1 v r.1.length (iv r.1) ∧ Below B w w'
/-- .. and without a code -/
def IntsRes (B : Nat) (r : List Int) (w : World) (e : Ending) (w' : World) : Prop :=
  ∃ v, e = .returned v ∧ w'.ownsRow B 2 1 v r.length (iv r) ∧ Below B w w'
/-- a number of 64 bits -/
def I64 (n : Int) : Prop := -9223372036854775808 ≤ n ∧ n ≤ 9223372036854775807
section
variable {H : Type} {enc : TypeId × Value → H} {w : World} {base : Nat} {spare : Nat → Bool} {held : Bool}
theorem open_ints64 {t : TypeId} {v : Value} {d : DataW H} {p : List MemPlace} (ht : Try.prog.underlying t = some (.slice 2)) (h : DataW.Trod enc Try.prog w base spare held t v d p) (hv : ∃ a l c, v = .slice a l c) :
    ∃ (A : Option Addr) (c : Nat) (l : List Int), v = .slice A l.length c ∧ SR w w.heap.size 1 A l.length (iv l) ∧ l.length ≤ maxLen ∧ ∀ n ∈ l, I64 n :=
  open_row1 (Value.int .i64) I64 ht (by kernel_rfl) (fun n v x hx => by
    obtain ⟨a, e, -, hw⟩ := DataW.trod_int Try.underlying2 hx
    simp only [List.cons.injEq, and_true] at e
    exact ⟨a, e, bounds_i64 hw⟩) h hv
theorem open_ints64c {t : TypeId} {v : Value} {d : DataW H} {p : List MemPlace} (ht : Try.prog.underlying t = some (.slice 2)) (h : DataW.Trod enc Try.prog w base spare held t v d p) (hv : ∃ a l c, v = .slice a l c) :
    ∃ (A : Option Addr) (c : Nat) (l : List Int), v = .slice A l.length c ∧ SR w w.heap.size 1 A l.length (iv l) ∧ l.length ≤ c ∧ c ≤ maxLen ∧ (A = none → l.length = 0 ∧ c = 0) ∧ ∀ n ∈ l, I64 n :=
  open_row1c (Value.int .i64) I64 ht (by kernel_rfl) (fun n v x hx => by
    obtain ⟨a, e, -, hw⟩ := DataW.trod_int Try.underlying2 hx
    simp only [List.cons.injEq, and_true] at e
    exact ⟨a, e, bounds_i64 hw⟩) h hv
end
end Go.Proofs.Ytngjpgdgipmieaa
/- The walks of plainZero, outcome, Add, Sub, Mul, Neg. -/
namespace Go.Proofs.Ytngjpgdgipmieaa
open Go.RowKit M6

theorem d_zero {x : Nat} (h : D x 0) : FloatKind.f64.format.order x 0 = some .eq := by
  have := D_order h zero_num (by decide) (by decide)
  exact this
theorem d_not_zero {x : Nat} {n : Int} (h : D x n) (h0 : n ≠ 0) (hn : n.natAbs < 9007199254740992) : ¬ FloatKind.f64.format.order x 0 = some .eq := by
  have h2 : FloatKind.f64.format.order x 0 = some (compare n 0) := D_order h zero_num hn (by decide)
  rw [h2, Int.compare_eq_ite_lt]
  split
  · simp
  · split
    · simp
    · omega
set_option maxRecDepth 100000 in
theorem plain_any (x : Nat) (n : Int) (w : World) (h : D x n) (hn : n.natAbs < 9007199254740992) :
    Calls Try.prog 74 #[.float .f64 x] w fun e w' => e = .returned (.float .f64 (fz n)) ∧ w = w' := by
  by_cases h0 : n = 0
  · subst h0
    rw [fz_zero]
    have hz := d_zero h
    go_enter Try.func74, Try.ntmps74
    go_wp2_with fail
    go_ret
    exact ⟨rfl, rfl⟩
  · have hz := d_not_zero h h0 hn
    obtain rfl := D_fz h h0 hn
    generalize fz n = x at *
    have hz2 : (FloatKind.f64.format.order x 0 == some .eq) = false := by rw [beq_eq_false_iff_ne]; exact hz
    clear h hn h0
    go_enter Try.func74, Try.ntmps74
    go_wp2_with fail
    go_ret
    exact ⟨rfl, rfl⟩

/-- complex numbers as cells -/
def cv (l : List (Nat × Nat)) : List Value := l.map fun p => .complex .f64 p.1 p.2
def wp2 (p : Nat × Nat) : Bool := wb p.1 && wb p.2
def fit (l : List (Nat × Nat)) : Prop := ∀ p ∈ l, p.1 < 18446744073709551616 ∧ p.2 < 18446744073709551616
theorem fit_at {l : List (Nat × Nat)} (h : fit l) {k : Nat} (hk : k < l.length) : l[k].1 < 18446744073709551616 ∧ l[k].2 < 18446744073709551616 := h _ (List.getElem_mem hk)

set_option maxRecDepth 100000 in
/-- one of what it came of is no number -/
theorem out_no (x y : Nat) (A : Option Addr) (c : Nat) (l : List (Nat × Nat)) (w : World) (hl : l.length ≤ maxLen) (hf : fit l) (hs : SR w w.heap.size 1 A l.length (cv l)) (hno : ∃ p ∈ l, wp2 p = false) :
    Calls Try.prog 68 #[.complex .f64 x y, .slice A l.length c] w fun e w' => e = .returned (.tuple #[.complex .f64 0 0, .int .i64 17]) ∧ w = w' := by
  have HNO := Lib.hid hno
  have HF := Lib.hid hf
  clear hno hf
  unfold maxLen at hl
  go_enter Try.func68, Try.ntmps68
  go_wp2_with fail
  go_loop [12] (fun i => ∃ (k : Nat) (K : Int), i = .int .i64 K ∧ K = k ∧ k ≤ l.length ∧ Hid (∀ j, (h : j < k) → (h2 : j < l.length) → wp2 l[j] = true)) (fun i => l.length - (intOf i).toNat)
  case atStart => exact ⟨0, _, rfl, rfl, by omega, Lib.hid (fun j h => absurd h (by omega))⟩
  case round =>
    obtain ⟨k, K, rfl, rfl, hk, HY⟩ := hrel
    by_cases hlt : k < l.length
    · obtain ⟨b, o, rfl, hb, hc⟩ := cell_at hs hlt (u := .complex .f64 l[k].1 l[k].2) (by simp [cv, hlt])
      by_cases hw : wp2 l[k] = true
      · have HC := Lib.hid (checked_yes l[k].1 l[k].2 w (fit_at HF.out hlt).1 (fit_at HF.out hlt).2 (by unfold wp2 at hw; simp at hw; exact hw.1) (by unfold wp2 at hw; simp at hw; exact hw.2))
        have HYY : Hid (∀ j, (h : j < k + 1) → (h2 : j < l.length) → wp2 l[j] = true) := Lib.hid (fun j h h2 => by
          by_cases e : j < k
          · exact HY.out j e h2
          · obtain rfl : j = k := by omega
            exact hw)
        clear hw
        go_wp2_with fail
        refine HC.out.mono ?_; rintro e w1 ⟨rfl, rfl⟩; go_wp2_with fail
        go_round
        case rel => exact ⟨k + 1, _, rfl, by omega, by omega, HYY⟩
        case measure => simp [intOf]; omega
      · have HC := Lib.hid (checked_no l[k].1 l[k].2 w (fit_at HF.out hlt).1 (fit_at HF.out hlt).2 (by unfold wp2 at hw; simp at hw; cases h1 : wb l[k].1 <;> simp [h1] at hw ⊢; exact hw))
        clear hw
        go_wp2_with fail
        refine HC.out.mono ?_; rintro e w1 ⟨rfl, rfl⟩; go_wp2_with fail
        go_ret2
        exact ⟨rfl, rfl⟩
    · exfalso
      obtain ⟨p, hp, hpf⟩ := HNO.out
      obtain ⟨j, hj, rfl⟩ := List.getElem_of_mem hp
      have := HY.out j (by omega) hj
      rw [hpf] at this
      cases this

/-- what came of numbers -/
def oc (n m : Int) : Int × Int × Int := if n.natAbs ≤ 1048576 ∧ m.natAbs ≤ 1048576 then (n, m, 0) else (0, 0, 17)
set_option maxRecDepth 100000 in
theorem out_yes (x y : Nat) (n m : Int) (A : Option Addr) (c : Nat) (l : List (Nat × Nat)) (w : World) (hl : l.length ≤ maxLen) (hf : fit l) (hs : SR w w.heap.size 1 A l.length (cv l)) (hall : ∀ p ∈ l, wp2 p = true)
    (hx : D x n) (hy : D y m) (hn : n.natAbs < 9007199254740992) (hm : m.natAbs < 9007199254740992) :
    Calls Try.prog 68 #[.complex .f64 x y, .slice A l.length c] w fun e w' => e = .returned (.tuple #[.complex .f64 (fz (oc n m).1) (fz (oc n m).2.1), .int .i64 (oc n m).2.2]) ∧ w = w' := by
  have HNO := Lib.hid hall
  have HF := Lib.hid hf
  have HX := Lib.hid (plain_any x n w hx hn)
  have HY := Lib.hid (plain_any y m w hy hm)
  have HC : Hid (Calls Try.prog 69 #[.complex .f64 (fz n) (fz m)] w fun e w' => e = .returned (.tuple #[.complex .f64 (fz (oc n m).1) (fz (oc n m).2.1), .int .i64 (oc n m).2.2]) ∧ w = w') := Lib.hid (by
    by_cases h : n.natAbs ≤ 1048576 ∧ m.natAbs ≤ 1048576
    · have e : oc n m = (n, m, 0) := if_pos h
      rw [e]
      exact checked_yes _ _ w (fz_lt n) (fz_lt m) (whole_fz h.1) (whole_fz h.2)
    · have e : oc n m = (0, 0, 17) := if_neg h
      rw [e, fz_zero]
      refine checked_no _ _ w (fz_lt n) (fz_lt m) ?_
      have inj : ∀ a : Int, a.natAbs < 9007199254740992 → wb (fz a) = true → a.natAbs ≤ 1048576 := by
        intro a ha hw
        obtain ⟨i, hi, e⟩ := (wb_iff (fz_lt a)).1 hw
        have := fz_inj ha (by omega) e
        omega
      cases h1 : wb (fz n)
      · exact .inl rfl
      · cases h2 : wb (fz m)
        · exact .inr rfl
        · exact absurd ⟨inj n hn h1, inj m hm h2⟩ h)
  generalize oc n m = r at *
  generalize fz n = xn at *
  generalize fz m = ym at *
  generalize fz r.1 = r1 at *
  generalize fz r.2.1 = r2 at *
  generalize r.2.2 = r3 at *
  clear hall hf hx hy hn hm
  unfold maxLen at hl
  go_enter Try.func68, Try.ntmps68
  go_wp2_with fail
  go_loop [12] (fun i => ∃ (k : Nat) (K : Int), i = .int .i64 K ∧ K = k ∧ k ≤ l.length) (fun i => l.length - (intOf i).toNat)
  case atStart => exact ⟨0, _, rfl, rfl, by omega⟩
  case round =>
    obtain ⟨k, K, rfl, rfl, hk⟩ := hrel
    by_cases hlt : k < l.length
    · obtain ⟨b, o, rfl, hb, hc⟩ := cell_at hs hlt (u := .complex .f64 l[k].1 l[k].2) (by simp [cv, hlt])
      have hw := HNO.out _ (List.getElem_mem hlt)
      have HC1 := Lib.hid (checked_yes l[k].1 l[k].2 w (fit_at HF.out hlt).1 (fit_at HF.out hlt).2 (by unfold wp2 at hw; simp at hw; exact hw.1) (by unfold wp2 at hw; simp at hw; exact hw.2))
      clear hw
      go_wp2_with fail
      refine HC1.out.mono ?_; rintro e w1 ⟨rfl, rfl⟩; go_wp2_with fail
      go_round
      case rel => exact ⟨k + 1, _, rfl, by omega, by omega⟩
      case measure => simp [intOf]; omega
    · obtain rfl : k = l.length := by omega
      go_wp2_with fail
      refine HX.out.mono ?_; rintro e w1 ⟨rfl, rfl⟩; go_wp2_with fail
      refine HY.out.mono ?_; rintro e w1 ⟨rfl, rfl⟩; go_wp2_with fail
      refine HC.out.mono ?_; rintro e w1 ⟨rfl, rfl⟩; go_wp2_with fail
      go_ret2
      exact ⟨rfl, rfl⟩
end Go.Proofs.Ytngjpgdgipmieaa
/- The walk of Mul. -/
namespace Go.Proofs.Ytngjpgdgipmieaa
open Go.RowKit M6
/-- what of whole numbers' sums, differences, products comes -/
def res (ok : Bool) (n m : Int) : Int × Int × Int := if ok then oc n m else (0, 0, 17)
/-- a call's answer: a number and a code -/
def NRes (r : Int × Int × Int) (w : World) (e : Ending) (w' : World) : Prop := e = .returned (.tuple #[.complex .f64 (fz r.1) (fz r.2.1), .int .i64 r.2.2]) ∧ Below w.heap.size w w'
theorem whole_small {n : Int} (hn : n.natAbs < 9007199254740992) : wb (fz n) = decide (n.natAbs ≤ 1048576) := by
  by_cases h : n.natAbs ≤ 1048576
  · rw [whole_fz h, decide_eq_true h]
  · rw [decide_eq_false h, Bool.eq_false_iff]
    intro hw
    obtain ⟨i, hi, e⟩ := (wb_iff (fz_lt n)).1 hw
    have := fz_inj hn (by omega) e
    omega
theorem lit_two (w : World) (a b : Nat × Nat) (T : TypeId) : SR (w.alloc (.cells #[.complex .f64 a.1 a.2, .complex .f64 b.1 b.2] T)) (w.alloc (.cells #[.complex .f64 a.1 a.2, .complex .f64 b.1 b.2] T)).heap.size 1 (some ⟨w.heap.size, 0, none⟩) [a, b].length (cv [a, b]) := by
  have h := SR.lit w (cv [a, b]) T (size := 1) (n := 2) rfl
  rw [show (cv [a, b]).toArray = #[.complex .f64 a.1 a.2, .complex .f64 b.1 b.2] from rfl] at h
  simpa using h
theorem lit_one (w : World) (a : Nat × Nat) (T : TypeId) : SR (w.alloc (.cells #[.complex .f64 a.1 a.2] T)) (w.alloc (.cells #[.complex .f64 a.1 a.2] T)).heap.size 1 (some ⟨w.heap.size, 0, none⟩) [a].length (cv [a]) := by
  have h := SR.lit w (cv [a]) T (size := 1) (n := 1) rfl
  rw [show (cv [a]).toArray = #[.complex .f64 a.1 a.2] from rfl] at h
  simpa using h
theorem fit_two {a b : Nat × Nat} (h1 : a.1 < 18446744073709551616 ∧ a.2 < 18446744073709551616) (h2 : b.1 < 18446744073709551616 ∧ b.2 < 18446744073709551616) : fit [a, b] := by
  intro p hp
  simp only [List.mem_cons, List.not_mem_nil, or_false] at hp
  rcases hp with rfl | rfl
  · exact h1
  · exact h2
theorem fz_pair (a b : Int) : ((fz a, fz b) : Nat × Nat).1 < 18446744073709551616 ∧ ((fz a, fz b) : Nat × Nat).2 < 18446744073709551616 := ⟨fz_lt a, fz_lt b⟩
def ok2 (a b c d : Int) : Bool := decide (a.natAbs ≤ 1048576) && decide (b.natAbs ≤ 1048576) && (decide (c.natAbs ≤ 1048576) && decide (d.natAbs ≤ 1048576))
set_option maxRecDepth 100000 in
theorem gmul_no (a b : Nat × Nat) (w : World) (ha : a.1 < 18446744073709551616 ∧ a.2 < 18446744073709551616) (hb : b.1 < 18446744073709551616 ∧ b.2 < 18446744073709551616) (h : wp2 a = false ∨ wp2 b = false) :
    Calls Try.prog 57 #[.complex .f64 a.1 a.2, .complex .f64 b.1 b.2] w (NRes (0, 0, 17) w) := by
  obtain ⟨re, im, n, hop⟩ := run_complex_any (P := Try.prog) w .mul (.inr (.inr rfl)) 50 a.1 a.2 b.1 b.2
  have HC := Lib.hid (out_no re im _ 2 [a, b] _ (by unfold maxLen; simp) (fit_two ha hb) (lit_two (w.drewN n) a b 50) (by rcases h with h | h; exact ⟨a, by simp, h⟩; exact ⟨b, by simp, h⟩))
  clear ha hb h
  go_enter Try.func57, Try.ntmps57
  go_wp2_with fail
  refine HC.out.mono ?_; rintro e w1 ⟨rfl, rfl⟩; go_wp2_with fail
  go_ret2
  unfold NRes
  rw [fz_zero]
  exact ⟨rfl, (below_drewN (Below.refl _ _) n).alloc (Nat.le_refl _) _⟩
set_option maxRecDepth 100000 in
theorem gmul_any (a b c d : Int) (w : World) (ha : a.natAbs < 9007199254740992) (hb : b.natAbs < 9007199254740992) (hc : c.natAbs < 9007199254740992) (hd : d.natAbs < 9007199254740992) :
    Calls Try.prog 57 #[.complex .f64 (fz a) (fz b), .complex .f64 (fz c) (fz d)] w (NRes (res (ok2 a b c d) (a * c - b * d) (a * d + b * c)) w) := by
  by_cases h : ok2 a b c d = true
  · have e : res (ok2 a b c d) (a * c - b * d) (a * d + b * c) = oc (a * c - b * d) (a * d + b * c) := by rw [res, if_pos h]
    rw [e]
    unfold ok2 at h
    simp only [Bool.and_eq_true, decide_eq_true_iff] at h
    obtain ⟨⟨h1, h2⟩, h3, h4⟩ := h
    obtain ⟨x, y, hop, hx, hy⟩ := run_mul_D (P := Try.prog) w 50 (fz_num ha) (fz_num hb) (fz_num hc) (fz_num hd) h1 h2 h3 h4
    have m1 := small_mul h1 h3
    have m2 := small_mul h2 h4
    have m3 := small_mul h1 h4
    have m4 := small_mul h2 h3
    have HC := Lib.hid (out_yes x y (a * c - b * d) (a * d + b * c) _ 2 [(fz a, fz b), (fz c, fz d)] _ (by unfold maxLen; simp) (fit_two (fz_pair a b) (fz_pair c d)) (lit_two w (fz a, fz b) (fz c, fz d) 50)
      (by intro p hp; simp only [List.mem_cons, List.not_mem_nil, or_false] at hp; rcases hp with rfl | rfl; (simp only [wp2, whole_fz h1, whole_fz h2]; rfl); (simp only [wp2, whole_fz h3, whole_fz h4]; rfl)) hx hy (by omega) (by omega))
    generalize oc (a * c - b * d) (a * d + b * c) = r at *
    clear m1 m2 m3 m4 h1 h2 h3 h4 ha hb hc hd hx hy
    generalize fz a = xa at *
    generalize fz b = xb at *
    generalize fz c = xc at *
    generalize fz d = xd at *
    go_enter Try.func57, Try.ntmps57
    go_wp2_with fail
    refine HC.out.mono ?_; rintro e w1 ⟨rfl, rfl⟩; go_wp2_with fail
    go_ret2
    exact ⟨rfl, (Below.refl _ _).alloc (Nat.le_refl _) _⟩
  · have e : res (ok2 a b c d) (a * c - b * d) (a * d + b * c) = (0, 0, 17) := by rw [res, if_neg h]
    rw [e]
    refine gmul_no (fz a, fz b) (fz c, fz d) w (fz_pair a b) (fz_pair c d) ?_
    unfold wp2
    rw [whole_small ha, whole_small hb, whole_small hc, whole_small hd]
    unfold ok2 at h
    cases h1 : (decide (a.natAbs ≤ 1048576) && decide (b.natAbs ≤ 1048576))
    · exact .inl rfl
    · rw [h1] at h
      refine .inr ?_
      simpa using h
end Go.Proofs.Ytngjpgdgipmieaa
/- The walk of the example of layer 6. -/
namespace Go.Proofs.Ytngjpgdgipmieaa
open Go.RowKit M6
theorem fz_self {n : Int} (h : n.natAbs < 9007199254740992) : FloatKind.f64.format.order (fz n) (fz n) = some .eq := by
  have h2 : FloatKind.f64.format.order (fz n) (fz n) = some (compare n n) := D_order (fz_num h) (fz_num h) h h
  rw [h2, Int.compare_eq_ite_lt, if_neg (by omega), if_neg (by omega)]
theorem fz_other {n m : Int} (h : n.natAbs < 9007199254740992) (hm : m.natAbs < 9007199254740992) (hne : n ≠ m) : ¬ FloatKind.f64.format.order (fz n) (fz m) = some .eq := by
  have h2 : FloatKind.f64.format.order (fz n) (fz m) = some (compare n m) := D_order (fz_num h) (fz_num hm) h hm
  rw [h2, Int.compare_eq_ite_lt]
  split
  · simp
  · split
    · simp
    · omega
set_option maxRecDepth 100000 in
theorem gawake_any (w : World) : Calls Try.prog 30 #[] w fun e w' => e = .returned (.bool true) ∧ Below w.heap.size w w' := by
  have HM := Lib.hid (fun W => gmul_any 1 2 3 4 W (by decide) (by decide) (by decide) (by decide))
  have e1 : fz 1 = 4607182418800017408 := by decide +kernel
  have e2 : fz 2 = 4611686018427387904 := by decide +kernel
  have e3 : fz 3 = 4613937818241073152 := by decide +kernel
  have e4 : fz 4 = 4616189618054758400 := by decide +kernel
  have e5 : fz (-5) = 13840687554816376832 := by decide +kernel
  have e6 : fz 10 = 4621819117588971520 := by decide +kernel
  have hr : res (ok2 1 2 3 4) (1 * 3 - 2 * 4) (1 * 4 + 2 * 3) = (-5, 10, 0) := by decide
  have s5 := fz_self (n := -5) (by decide)
  have s6 := fz_self (n := 10) (by decide)
  unfold NRes at HM
  rw [hr, e1, e2, e3, e4] at HM
  simp only at HM
  rw [e5, e6] at HM
  rw [e5] at s5
  rw [e6] at s6
  clear e1 e2 e3 e4 e5 e6 hr
  go_enter Try.func30, Try.ntmps30
  go_wp2_with fail
  refine (HM.out _).mono ?_
  rintro e w1 ⟨rfl, hb⟩
  have HB := Lib.hid hb
  clear hb
  go_wp2_with fail
  go_ret
  exact ⟨rfl, HB.out⟩
end Go.Proofs.Ytngjpgdgipmieaa
/- The walks of the document's own answers: bits and whole, of the lesser format's words. -/
namespace Go.Proofs.Ytngjpgdgipmieaa
open Go.RowKit M6

/-- the word of a whole number that isn't 0, from its digits -/
theorem sz_bits {n : Int} {k : Nat} (h : n.natAbs ≤ 1048576) (h1 : 8388608 ≤ n.natAbs * 2 ^ k) (h2 : n.natAbs * 2 ^ k < 16777216) :
    k ≤ 23 ∧ 3 ≤ k ∧ sz n = (if n < 0 then 2147483648 else 0) + (150 - k) * 8388608 + (n.natAbs * 2 ^ k - 8388608) := by
  have h0 : n.natAbs ≠ 0 := fun e => by rw [e] at h1; simp at h1
  have hN : n.natAbs * 2 ^ k ≠ 0 := by omega
  have hl : (n.natAbs * 2 ^ k).log2 = 23 := (Nat.log2_eq_iff hN).2 ⟨h1, h2⟩
  have hlog := log2_mul_pow h0 (n := n.natAbs * 2 ^ k) rfl
  have hsmall : n.natAbs.log2 ≤ 20 := by
    have : n.natAbs < 2 ^ 21 := by omega
    have := (Nat.log2_lt h0).2 this
    omega
  refine ⟨by omega, by omega, ?_⟩
  rw [sz_word n h]
  have hk : k = 23 - n.natAbs.log2 := by omega
  have hr : rg Ieee.single 149 n.natAbs = (n.natAbs.log2 + 126) * 8388608 + n.natAbs * 2 ^ k := by
    unfold rg
    rw [if_neg h0, hk, show Ieee.single.fractionBits = 23 from rfl, show Ieee.single.binade = 8388608 from by decide]
    congr 2
  have e : (n.natAbs.log2 + 126) = 149 - k := by omega
  rw [hr, e]
  unfold Ieee.Format.word
  rw [show Ieee.single.signWeight = 2147483648 from by decide]
  have e2 : (149 - k) * 8388608 + 8388608 = (150 - k) * 8388608 := by omega
  by_cases hn : n < 0
  · rw [decide_eq_true hn, if_pos rfl, if_pos hn]; omega
  · rw [decide_eq_false hn, if_neg (by simp), if_neg hn]; omega
theorem sz_digits {n : Int} (h0 : n ≠ 0) (h : n.natAbs ≤ 1048576) : ∃ k, 8388608 ≤ n.natAbs * 2 ^ k ∧ n.natAbs * 2 ^ k < 16777216 := by
  have h0' : n.natAbs ≠ 0 := by omega
  have hsmall : n.natAbs.log2 ≤ 20 := by
    have : n.natAbs < 2 ^ 21 := by omega
    have := (Nat.log2_lt h0').2 this
    omega
  refine ⟨23 - n.natAbs.log2, ?_, ?_⟩
  · have h1 := Nat.mul_le_mul_right (2 ^ (23 - n.natAbs.log2)) (Nat.log2_self_le h0')
    rw [← Nat.pow_add, show n.natAbs.log2 + (23 - n.natAbs.log2) = 23 from by omega] at h1
    exact h1
  · have h1 := Nat.mul_lt_mul_of_pos_right (@Nat.lt_log2_self n.natAbs) (Nat.two_pow_pos (23 - n.natAbs.log2))
    rw [← Nat.pow_add, show n.natAbs.log2 + 1 + (23 - n.natAbs.log2) = 24 from by omega] at h1
    exact h1
/-- which words are whole numbers, by their fields -/
theorem sz_fields {n : Int} (h0 : n ≠ 0) (h : n.natAbs ≤ 1048576) : ∃ k, sz n / 8388608 % 256 + k = 150 ∧ 3 ≤ k ∧ k ≤ 23 ∧ sz n % 8388608 + 8388608 = n.natAbs * 2 ^ k := by
  obtain ⟨k, h1, h2⟩ := sz_digits h0 h
  obtain ⟨h3, h4, e⟩ := sz_bits h h1 h2
  refine ⟨k, ?_, h4, h3, ?_⟩
  · rw [e]; split <;> omega
  · rw [e]; split <;> omega

set_option maxRecDepth 100000 in
theorem bits_any (n : Int) (w : World) (hn : n.natAbs ≤ 1048576) :
    Calls Try.prog 51 #[.int .i64 n] w fun e w' => e = .returned (.int .u32 ((sz n : Nat) : Int)) ∧ w = w' := by
  by_cases h0 : n = 0
  · subst h0
    rw [sz_zero]
    go_enter Try.func51, Try.ntmps51
    go_wp2_with fail
    go_ret
    exact ⟨rfl, rfl⟩
  · by_cases hneg : n < 0
    · have hne : (n == 0) = false := by simp; omega
      go_enter Try.func51, Try.ntmps51
      go_wp2_with fail
      go_loop [0, 4] (fun v u => ∃ (k : Nat) (N E : Int), v = .int .i64 N ∧ u = .int .u32 E ∧ Hid (N = ((n.natAbs * 2 ^ k : Nat) : Int)) ∧ E = 150 - (k : Int) ∧ 0 < N ∧ N < 16777216 ∧ k ≤ 23) (fun _ u => (intOf u).toNat)
      case atStart => exact ⟨0, _, _, rfl, rfl, Lib.hid (by simp; omega), by omega, by omega, by omega, by omega⟩
      case round =>
        obtain ⟨k, N, E, rfl, rfl, HN, rfl, hN0, hN, hk⟩ := hrel
        by_cases hlt : N < 8388608
        · have hk23 : k < 23 := by
            refine Nat.lt_of_not_le fun hge => ?_
            have h1 : 2 ^ 23 ≤ 2 ^ k := Nat.pow_le_pow_right (by decide) hge
            have h2 : 1 * 2 ^ 23 ≤ n.natAbs * 2 ^ k := Nat.mul_le_mul (by omega) h1
            have := HN.out
            omega
          go_wp2_with fail
          go_round
          case rel => exact ⟨k + 1, _, _, rfl, rfl, Lib.hid (by rw [HN.out, Nat.pow_succ, ← Nat.mul_assoc]; omega), by omega, by omega, by omega, by omega⟩
          case measure => simp [intOf]; omega
        · have HE := Lib.hid (sz_bits hn (n := n) (k := k) (by have := HN.out; omega) (by have := HN.out; omega))
          go_wp2_with fail
          go_ret
          refine ⟨ret_eq (int_eq ?_), rfl⟩
          obtain ⟨e1, e2, e3⟩ := HE.out
          rw [e3, if_pos hneg]
          have := HN.out
          omega
    · have hne : (n == 0) = false := by simp; omega
      go_enter Try.func51, Try.ntmps51
      go_wp2_with fail
      go_loop [0, 4] (fun v u => ∃ (k : Nat) (N E : Int), v = .int .i64 N ∧ u = .int .u32 E ∧ Hid (N = ((n.natAbs * 2 ^ k : Nat) : Int)) ∧ E = 150 - (k : Int) ∧ 0 < N ∧ N < 16777216 ∧ k ≤ 23) (fun _ u => (intOf u).toNat)
      case atStart => exact ⟨0, _, _, rfl, rfl, Lib.hid (by simp; omega), by omega, by omega, by omega, by omega⟩
      case round =>
        obtain ⟨k, N, E, rfl, rfl, HN, rfl, hN0, hN, hk⟩ := hrel
        by_cases hlt : N < 8388608
        · have hk23 : k < 23 := by
            refine Nat.lt_of_not_le fun hge => ?_
            have h1 : 2 ^ 23 ≤ 2 ^ k := Nat.pow_le_pow_right (by decide) hge
            have h2 : 1 * 2 ^ 23 ≤ n.natAbs * 2 ^ k := Nat.mul_le_mul (by omega) h1
            have := HN.out
            omega
          go_wp2_with fail
          go_round
          case rel => exact ⟨k + 1, _, _, rfl, rfl, Lib.hid (by rw [HN.out, Nat.pow_succ, ← Nat.mul_assoc]; omega), by omega, by omega, by omega, by omega⟩
          case measure => simp [intOf]; omega
        · have HE := Lib.hid (sz_bits hn (n := n) (k := k) (by have := HN.out; omega) (by have := HN.out; omega))
          go_wp2_with fail
          go_ret
          refine ⟨ret_eq (int_eq ?_), rfl⟩
          obtain ⟨e1, e2, e3⟩ := HE.out
          rw [e3, if_neg (by omega)]
          have := HN.out
          omega

theorem sz_is {v : Nat} {n : Int} {k : Nat} (h : n.natAbs ≤ 1048576) (hv : v < 4294967296) (h1 : n.natAbs * 2 ^ k = v % 8388608 + 8388608) (h2 : v / 8388608 % 256 + k = 150) (h3 : n < 0 ↔ 2147483648 ≤ v) : v = sz n := by
  obtain ⟨e1, e2, e3⟩ := sz_bits h (k := k) (by omega) (by omega)
  rw [e3, h1]
  split <;> omega

/-- what the document's whole gives -/
def WhRes (v : Nat) (w : World) (e : Ending) (w' : World) : Prop := ∃ (k : Int) (b : Bool), e = .returned (.tuple #[.int .i64 k, .bool b]) ∧ w = w' ∧ (b = true → k.natAbs ≤ 1048576 ∧ v = sz k) ∧ (∀ n : Int, n.natAbs ≤ 1048576 → v = sz n → b = true)
theorem WhRes.no {v : Nat} (w : World) (h : ∀ n : Int, n.natAbs ≤ 1048576 → v ≠ sz n) : WhRes v w (.returned (.tuple #[.int .i64 0, .bool false])) w :=
  ⟨0, false, rfl, rfl, fun h => by simp at h, fun n hn e => absurd e (h n hn)⟩
set_option maxRecDepth 100000 in
theorem rwhole_any (v : Nat) (w : World) (hv : v < 4294967296) :
    Calls Try.prog 44 #[.int .u32 (v : Int)] w (WhRes v w) := by
  by_cases h0 : v = 0
  · subst h0
    go_enter Try.func44, Try.ntmps44
    go_wp2_with fail
    go_ret2
    exact ⟨0, true, rfl, rfl, fun _ => ⟨by decide, sz_zero.symm⟩, fun _ _ _ => rfl⟩
  · have hne : ((v : Int) == 0) = false := by simp; omega
    have HZ : Hid (∀ n : Int, n.natAbs ≤ 1048576 → v = sz n → n ≠ 0 ∧ ∃ k, v / 8388608 % 256 + k = 150 ∧ 3 ≤ k ∧ k ≤ 23 ∧ v % 8388608 + 8388608 = n.natAbs * 2 ^ k) := Lib.hid (by
      intro n hn e
      have hn0 : n ≠ 0 := by
        intro e0; subst e0; rw [sz_zero] at e; exact h0 e
      refine ⟨hn0, ?_⟩
      rw [e]; exact sz_fields hn0 hn)
    by_cases hE : v / 8388608 % 256 < 127 ∨ 147 < v / 8388608 % 256
    · have HN : Hid (∀ n : Int, n.natAbs ≤ 1048576 → v ≠ sz n) := Lib.hid (by
        intro n hn e
        obtain ⟨-, k, h1, h2, h3, -⟩ := HZ.out n hn e
        omega)
      have hE' : ((v : Int) / 8388608 % 256 < 127) ∨ (¬ (v : Int) / 8388608 % 256 < 127 ∧ 147 < (v : Int) / 8388608 % 256) := by omega
      clear hE HZ
      rcases hE' with h | ⟨h, h'⟩
      all_goals
        go_enter Try.func44, Try.ntmps44
        go_wp2_with fail
        go_ret2
        exact WhRes.no _ HN.out
    · have h1 : ¬ (v : Int) / 8388608 % 256 < 127 := by omega
      have h2 : ¬ 147 < (v : Int) / 8388608 % 256 := by omega
      go_enter Try.func44, Try.ntmps44
      go_wp2_with fail
      go_loop [4, 5] (fun x m => ∃ (j M : Nat) (E X : Int), x = .int .i64 E ∧ m = .int .i64 X ∧ E = (v : Int) / 8388608 % 256 + (j : Int) ∧ X = M ∧ E ≤ 150 ∧ M < 16777216 ∧ Hid (v % 8388608 + 8388608 = M * 2 ^ j)) (fun x _ => 150 - (intOf x).toNat)
      case atStart => exact ⟨0, v % 8388608 + 8388608, _, _, rfl, rfl, by omega, by omega, by omega, by omega, Lib.hid (by simp)⟩
      case round =>
        obtain ⟨j, M, E, X, rfl, rfl, hEj, rfl, hE150, hM, HM⟩ := hrel
        by_cases hlt : E < 150
        · by_cases hodd : M % 2 = 0
          · have hodd' : (M : Int) % 2 = 0 := by omega
            go_wp2_with fail
            go_round
            case rel => exact ⟨j + 1, M / 2, _, _, rfl, rfl, by omega, by omega, by omega, by omega, Lib.hid (by rw [HM.out, Nat.pow_succ]; obtain ⟨q, rfl⟩ : ∃ q, M = 2 * q := ⟨M / 2, by omega⟩; rw [Nat.mul_div_cancel_left q (by decide)]; rw [Nat.mul_comm (2 ^ j) 2, ← Nat.mul_assoc, Nat.mul_comm q 2])⟩
            case measure => simp [intOf]; omega
          · have hodd' : (M : Int) % 2 = 1 := by omega
            have HN : Hid (∀ n : Int, n.natAbs ≤ 1048576 → v ≠ sz n) := Lib.hid (by
              intro n hn e
              obtain ⟨-, k, k1, k2, k3, k4⟩ := HZ.out n hn e
              rw [HM.out] at k4
              obtain ⟨d, hd⟩ : ∃ d, k = j + (d + 1) := ⟨k - j - 1, by omega⟩
              rw [hd, Nat.pow_add, Nat.mul_comm (2 ^ j), ← Nat.mul_assoc] at k4
              have k5 := Nat.eq_of_mul_eq_mul_right (Nat.two_pow_pos j) k4
              rw [Nat.pow_succ, ← Nat.mul_assoc] at k5
              omega)
            go_wp2_with fail
            go_ret2
            exact WhRes.no _ HN.out
        · obtain rfl : E = 150 := by omega
          have HY : Hid (∀ n : Int, n.natAbs ≤ 1048576 → v = sz n → n.natAbs = M) := Lib.hid (by
            intro n hn e
            obtain ⟨-, k, k1, k2, k3, k4⟩ := HZ.out n hn e
            obtain rfl : k = j := by omega
            rw [HM.out] at k4
            exact (Nat.eq_of_mul_eq_mul_right (Nat.two_pow_pos k) k4).symm)
          have HI : Hid (∀ n : Int, n.natAbs = M → n.natAbs ≤ 1048576 → (n < 0 ↔ 2147483648 ≤ v) → v = sz n) := Lib.hid (by
            intro n hn1 hn2 hn3
            exact sz_is (k := j) hn2 hv (by rw [hn1]; exact HM.out.symm) (by omega) hn3)
          clear hEj h1 h2
          have hM2 : (M : Int) < 16777216 := by omega
          have hM3 : M ≠ 0 := fun e => by have := HM.out; rw [e] at this; simp at this
          clear hM HM HZ hne
          obtain ⟨X, HX⟩ : ∃ X : Int, Hid (X = (M : Int)) := ⟨_, Lib.hid rfl⟩
          have hx0 : 0 < X := by have := HX.out; omega
          clear hM3
          have hx1 : X < 16777216 := by have := HX.out; omega
          rw [← HX.out]
          clear hM2
          by_cases hs : 2147483648 ≤ v
          · have hs' : 2147483648 ≤ (v : Int) := by omega
            have HS := Lib.hid hs
            clear hs
            have h1 : (-1048576 ≤ -X ∧ X ≤ 1048576) ∨ (¬ -1048576 ≤ -X ∧ ¬ X ≤ 1048576) := by omega
            rcases h1 with ⟨h1, h2⟩ | ⟨h1, h2⟩
            · have h3 : -X ≤ 1048576 := by omega
              go_wp2_with fail
              go_ret2
              refine ⟨-X, true, rfl, rfl, fun _ => ⟨by omega, HI.out _ (by have := HX.out; omega) (by omega) ?_⟩, fun _ _ _ => rfl⟩
              have := HS.out
              omega
            · go_wp2_with fail
              go_ret2
              refine ⟨-X, false, rfl, rfl, fun h => by simp at h, fun n hn e => ?_⟩
              have := HY.out n hn e
              have := HX.out
              omega
          · have hs' : ¬ 2147483648 ≤ (v : Int) := by omega
            have HS := Lib.hid hs
            clear hs
            by_cases h1 : X ≤ 1048576
            · go_wp2_with fail
              go_ret2
              refine ⟨X, true, rfl, rfl, fun _ => ⟨by omega, HI.out _ (by have := HX.out; omega) (by omega) ?_⟩, fun _ _ _ => rfl⟩
              have := HS.out
              omega
            · go_wp2_with fail
              go_ret2
              refine ⟨X, false, rfl, rfl, fun h => by simp at h, fun n hn e => ?_⟩
              have := HY.out n hn e
              have := HX.out
              omega
end Go.Proofs.Ytngjpgdgipmieaa
/- The walks of the document's own answers: May, Read, Put. -/
namespace Go.Proofs.Ytngjpgdgipmieaa
open Go.RowKit M6 Go.Sort

theorem set2 {w : World} {g : Nat} {t : TypeId} {a0 a1 : Value} (h : w.heap[g]? = some (.cells #[a0, a1] t (0, 0))) (v0 v1 : Value) :
    ((w.setCell ⟨g, 0, none⟩ v0).setCell ⟨g, 1, none⟩ v1).heap[g]? = some (.cells #[v0, v1] t (0, 0)) :=
  heap_setCell_same _ g 1 _ t v1 (heap_setCell_same _ g 0 _ t v0 h)
theorem cells_of2 {w : World} {g : Nat} {t : TypeId} {a0 a1 : Value} (h : w.heap[g]? = some (.cells #[a0, a1] t (0, 0))) :
    w.cell? ⟨g, 0, none⟩ = some a0 ∧ w.cell? ⟨g, 1, none⟩ = some a1 :=
  ⟨cell_of_row w g 0 _ t _ h, cell_of_row w g 1 _ t _ h⟩
/-- two cells of the call's own block, stored -/
theorem put2 {w w3 : World} {t : TypeId} {a0 a1 : Value} (hk : w3.heap[w.heap.size]? = some (.cells #[a0, a1] t (0, 0))) (hb : Below w.heap.size w w3) (v0 v1 : Value) :
    ((w3.setCell ⟨w.heap.size, 0, none⟩ v0).setCell ⟨w.heap.size, 1, none⟩ v1).cell? ⟨w.heap.size, 0, none⟩ = some v0 ∧ ((w3.setCell ⟨w.heap.size, 0, none⟩ v0).setCell ⟨w.heap.size, 1, none⟩ v1).cell? ⟨w.heap.size, 1, none⟩ = some v1 ∧ Below w.heap.size w ((w3.setCell ⟨w.heap.size, 0, none⟩ v0).setCell ⟨w.heap.size, 1, none⟩ v1) := by
  obtain ⟨c0, c1⟩ := cells_of2 (set2 hk v0 v1)
  exact ⟨c0, c1, (hb.setCell (p := ⟨w.heap.size, 0, none⟩) (Nat.le_refl _) v0).setCell (p := ⟨w.heap.size, 1, none⟩) (Nat.le_refl _) v1⟩
/-- both parts may be -/
def mayN (a b : Int) : Bool := decide (a.natAbs ≤ 1048576 ∧ b.natAbs ≤ 1048576)
theorem mayN_yes {a b : Int} (h : a.natAbs ≤ 1048576 ∧ b.natAbs ≤ 1048576) : mayN a b = true := decide_eq_true h
theorem mayN_no {a b : Int} (h : ¬ (a.natAbs ≤ 1048576 ∧ b.natAbs ≤ 1048576)) : mayN a b = false := decide_eq_false h

set_option maxRecDepth 100000 in
theorem rmay_any (a b : Int) (w : World) :
    Calls Try.prog 25 #[.agg #[.int .i64 a, .int .i64 b]] w fun e w' => e = .returned (.bool (mayN a b)) ∧ Below w.heap.size w w' := by
  by_cases h1 : -1048576 ≤ a
  · by_cases h2 : a ≤ 1048576
    · by_cases h3 : -1048576 ≤ b
      · by_cases h4 : b ≤ 1048576
        · rw [mayN_yes (by omega)]
          go_enter Try.func25, Try.ntmps25
          go_wp2_with fail
          go_ret
          exact ⟨rfl, (Below.refl _ _).alloc (Nat.le_refl _) _⟩
        · rw [mayN_no (by omega)]
          go_enter Try.func25, Try.ntmps25
          go_wp2_with fail
          go_ret
          exact ⟨rfl, (Below.refl _ _).alloc (Nat.le_refl _) _⟩
      · rw [mayN_no (by omega)]
        go_enter Try.func25, Try.ntmps25
        go_wp2_with fail
        go_ret
        exact ⟨rfl, (Below.refl _ _).alloc (Nat.le_refl _) _⟩
    · rw [mayN_no (by omega)]
      go_enter Try.func25, Try.ntmps25
      go_wp2_with fail
      go_ret
      exact ⟨rfl, (Below.refl _ _).alloc (Nat.le_refl _) _⟩
  · rw [mayN_no (by omega)]
    go_enter Try.func25, Try.ntmps25
    go_wp2_with fail
    go_ret
    exact ⟨rfl, (Below.refl _ _).alloc (Nat.le_refl _) _⟩

set_option maxRecDepth 100000 in
theorem rput_yes (a b : Int) (w : World) (ha : a.natAbs ≤ 1048576) (hb : b.natAbs ≤ 1048576) :
    Calls Try.prog 26 #[.agg #[.int .i64 a, .int .i64 b]] w fun e w' => e = .returned (.tuple #[.string (bs (sz a) ++ bs (sz b)), .int .i64 0]) ∧ Below w.heap.size w w' := by
  have HM := Lib.hid (mayN_yes ⟨ha, hb⟩)
  have HA1 := Lib.hid (fun W => (bits_any a W ha).mono (R' := fun e w' => e = .returned (.int .u32 ((sz a : Nat) : Int)) ∧ Below W.heap.size W w') (by rintro e w2 ⟨rfl, rfl⟩; exact ⟨rfl, Below.refl _ _⟩))
  have HA2 := Lib.hid (fun W => laid_any (sz a) W (sz_lt a))
  have HB1 := Lib.hid (fun W => (bits_any b W hb).mono (R' := fun e w' => e = .returned (.int .u32 ((sz b : Nat) : Int)) ∧ Below W.heap.size W w') (by rintro e w2 ⟨rfl, rfl⟩; exact ⟨rfl, Below.refl _ _⟩))
  have HB2 := Lib.hid (fun W => laid_any (sz b) W (sz_lt b))
  generalize sz a = va at *
  generalize sz b = vb at *
  have z1 : (bs va).size ≤ 4 := Nat.le_refl 4
  have z2 : (bs vb).size ≤ 4 := Nat.le_refl 4
  clear ha hb
  go_enter Try.func26, Try.ntmps26
  go_wp2_with fail
  refine (rmay_any a b _).mono ?_
  rintro e w1 ⟨rfl, hb⟩
  rw [HM.out]
  have hblk := (hb.block w.heap.size (by simp)).trans (heap_alloc_new w _)
  have hz := hb.size
  simp at hz
  have HB := Lib.hid (below_one hb)
  obtain ⟨c0, c1⟩ := cells_of2 hblk
  clear hb hblk
  go_wp2_with fail
  have q0 := fun d os => cell_regrown c0 d os
  have q1 := fun d os => cell_regrown c1 d os
  clear c0 c1
  refine wp_region_quiet_below (by kernel_rfl) (by kernel_rfl) ?_
  repeat (go_big_quiet_step ((first
    | (go_at_call 51; with_reducible exact Calls.regrown_of (HA1.out _))
    | (go_at_call 51; with_reducible exact Calls.regrown_of (HB1.out _))
    | (go_at_call 50; with_reducible exact Calls.regrown_of (HA2.out _))
    | (go_at_call 50; with_reducible exact Calls.regrown_of (HB2.out _)))))
  refine wpQuiet_nil ?_
  rintro w3 ⟨p, rfl⟩
  have hbp := below_regrown w1 p.d p.os
  clear q0 q1
  generalize grow (redrawn w1 p.d) p.os = w3 at hbp ⊢
  have HB3 := Lib.hid (HB.out.trans (hbp.mono (by omega)))
  clear hbp
  go_wp2_with fail
  go_ret2
  exact ⟨rfl, HB3.out⟩
set_option maxRecDepth 100000 in
theorem rput_no (a b : Int) (w : World) (h : ¬ (a.natAbs ≤ 1048576 ∧ b.natAbs ≤ 1048576)) :
    Calls Try.prog 26 #[.agg #[.int .i64 a, .int .i64 b]] w fun e w' => e = .returned (.tuple #[.string ⟨#[]⟩, .int .i64 17]) ∧ Below w.heap.size w w' := by
  have HM := Lib.hid (mayN_no h)
  clear h
  go_enter Try.func26, Try.ntmps26
  go_wp2_with fail
  refine (rmay_any a b _).mono ?_
  rintro e w1 ⟨rfl, hb⟩
  rw [HM.out]
  have HB := Lib.hid (below_one hb)
  clear hb
  go_wp2_with fail
  go_ret2
  exact ⟨rfl, HB.out⟩

/-- what the document's Read gives: a struct of two numbers, in memory -/
theorem rdSpec_no {b : ByteArray} (h : b.size = 8) (hno : ∀ i j : Int, i.natAbs ≤ 1048576 → j.natAbs ≤ 1048576 → pr (b.extract 0 4) 4 = sz i → pr (b.extract 4 8) 4 ≠ sz j) : RdSpec b 0 0 17 :=
  .inr (.inr (.inr ⟨h, rfl, rfl, rfl, hno⟩))
def RRes (b : ByteArray) (w : World) (e : Ending) (w' : World) : Prop := ∃ n m c : Int, e = .returned (.tuple #[.agg #[.int .i64 n, .int .i64 m], .int .i64 c]) ∧ RdSpec b n m c ∧ Below w.heap.size w w'
set_option maxRecDepth 100000 in
theorem rread_any (b : ByteArray) (w : World) (hb : b.size ≤ maxLen) :
    Calls Try.prog 20 #[.string b] w (RRes b w) := by
  unfold maxLen at hb
  have hblk := heap_alloc_new w (.cells #[.int .i64 0, .int .i64 0] 52)
  have hz : (w.alloc (.cells #[.int .i64 0, .int .i64 0] 52)).heap.size = w.heap.size + 1 := by simp
  obtain ⟨c0, c1⟩ := cells_of2 hblk
  have f0 := fun i => frozen_of_row _ w.heap.size i _ _ hblk
  have HB := Lib.hid (((Below.refl w.heap.size w).alloc (Nat.le_refl _) (.cells #[.int .i64 0, .int .i64 0] 52)))
  have HK := Lib.hid hblk
  clear hblk
  generalize hW : w.alloc (.cells #[.int .i64 0, .int .i64 0] 52) = w1 at *
  have HW := Lib.hid hW
  clear hW
  rcases Nat.lt_trichotomy b.size 8 with h | h | h
  · have h' : (b.size : Int) < 8 := by omega
    go_enter Try.func20, Try.ntmps20
    go_wp2_with fail
    rw [HW.out]
    go_wp2_with fail
    exact bodyPost_ret (v := .tuple #[.agg #[.int .i64 0, .int .i64 0], .int .i64 1]) (by simp [results, Try.results20, go_sem, c0, c1]) rfl ⟨0, 0, 1, rfl, .inl ⟨h, rfl, rfl, rfl⟩, HB.out⟩
  · have h1 : ¬ (b.size : Int) < 8 := by omega
    have h2 : ¬ 8 < (b.size : Int) := by omega
    have HP := Lib.hid (fun W => word_any (b.extract 0 4) W (by simp; omega))
    have HQ := Lib.hid (fun W => word_any (b.extract 4 8) W (by simp; omega))
    have HP2 := Lib.hid (fun W => rwhole_any (pr (b.extract 0 4) 4) W (pr_lt _ 4))
    have HQ2 := Lib.hid (fun W => rwhole_any (pr (b.extract 4 8) 4) W (pr_lt _ 4))
    have HS : Hid (∀ (n m : Int), n.natAbs ≤ 1048576 → m.natAbs ≤ 1048576 → pr (b.extract 0 4) 4 = sz n → pr (b.extract 4 8) 4 = sz m → RdSpec b n m 0) := Lib.hid fun n m hn hm e1 e2 => .inr (.inr (.inl ⟨h, rfl, hn, hm, e1, e2⟩))
    have HN := Lib.hid (rdSpec_no h)
    generalize pr (b.extract 0 4) 4 = v1 at *
    generalize pr (b.extract 4 8) 4 = v2 at *
    clear c0 c1 f0
    go_enter Try.func20, Try.ntmps20
    go_wp2_with fail
    rw [HW.out]
    refine (HP.out _).mono ?_
    rintro e w2 ⟨rfl, hb2⟩
    have hz2 := hb2.size
    have HB2 := Lib.hid (HB.out.trans (hb2.mono HB.out.size))
    have HK2 := Lib.hid ((hb2.block w.heap.size (by omega)).trans HK.out)
    clear hb2
    go_wp2_with fail
    refine (HP2.out _).mono ?_
    rintro e w2' ⟨n, bn, rfl, rfl, hn1, hn2⟩
    have HN1 := Lib.hid hn1
    have HN2 := Lib.hid hn2
    clear hn1 hn2
    go_wp2_with fail
    refine (HQ.out _).mono ?_
    rintro e w3 ⟨rfl, hb3⟩
    have hz3 := hb3.size
    have HB3 := Lib.hid (HB2.out.trans (hb3.mono HB2.out.size))
    have hblk := (hb3.block w.heap.size (by omega)).trans HK2.out
    obtain ⟨c0, c1⟩ := cells_of2 hblk
    have f0 := fun i => frozen_of_row _ w.heap.size i _ _ hblk
    have HK3 := Lib.hid hblk
    clear hb3 hblk
    go_wp2_with fail
    refine (HQ2.out _).mono ?_
    rintro e w3' ⟨m, bm, rfl, rfl, hm1, hm2⟩
    have HM1 := Lib.hid hm1
    have HM2 := Lib.hid hm2
    clear hm1 hm2 HB HB2 HK HK2
    cases hbn : bn
    · subst hbn
      go_wp2_with fail
      obtain ⟨c0, c1, hbb⟩ := put2 HK3.out HB3.out (.int .i64 0) (.int .i64 0)
      exact bodyPost_ret (v := .tuple #[.agg #[.int .i64 0, .int .i64 0], .int .i64 17]) (by simp [results, Try.results20, go_sem, c0, c1]) rfl ⟨0, 0, 17, rfl, HN.out (fun i j hi hj e1 e2 => by have := HN2.out i hi e1; simp at this), hbb⟩
    · subst hbn
      cases hbm : bm
      · subst hbm
        go_wp2_with fail
        obtain ⟨c0, c1, hbb⟩ := put2 HK3.out HB3.out (.int .i64 0) (.int .i64 0)
        exact bodyPost_ret (v := .tuple #[.agg #[.int .i64 0, .int .i64 0], .int .i64 17]) (by simp [results, Try.results20, go_sem, c0, c1]) rfl ⟨0, 0, 17, rfl, HN.out (fun i j hi hj e1 e2 => by have := HM2.out j hj e2; simp at this), hbb⟩
      · subst hbm
        go_wp2_with fail
        obtain ⟨c0, c1, hbb⟩ := put2 HK3.out HB3.out (.int .i64 n) (.int .i64 m)
        exact bodyPost_ret (v := .tuple #[.agg #[.int .i64 n, .int .i64 m], .int .i64 0]) (by simp [results, Try.results20, go_sem, c0, c1]) rfl ⟨n, m, 0, rfl, HS.out n m (HN1.out trivial).1 (HM1.out trivial).1 (HN1.out trivial).2 (HM1.out trivial).2, hbb⟩
  · have h1 : ¬ (b.size : Int) < 8 := by omega
    have h2 : 8 < (b.size : Int) := by omega
    go_enter Try.func20, Try.ntmps20
    go_wp2_with fail
    rw [HW.out]
    go_wp2_with fail
    exact bodyPost_ret (v := .tuple #[.agg #[.int .i64 0, .int .i64 0], .int .i64 2]) (by simp [results, Try.results20, go_sem, c0, c1]) rfl ⟨0, 0, 2, rfl, .inr (.inl ⟨h, rfl, rfl, rfl⟩), HB.out⟩
end Go.Proofs.Ytngjpgdgipmieaa
/- The walk of the document's Of. -/
namespace Go.Proofs.Ytngjpgdgipmieaa
open Go.RowKit M6
set_option maxRecDepth 100000 in
theorem of_any (a b : Int) (w : World) :
    Calls Try.prog 21 #[.agg #[.int .i64 a, .int .i64 b]] w fun e w' => e = .returned (.complex .f64 (fz a) (fz b)) ∧ Below w.heap.size w w' := by
  have hs : (Try.prog.underlying 2).isSome = true := by kernel_rfl
  have hd : Try.prog.underlying 82 = some (.float .f64) := by kernel_rfl
  have hc : ∀ (n : Int) (W : World), (convert 2 82 (.int .i64 n)).run Try.prog W = .ok (.float .f64 (fz n)) W := fun n W => run_convert_int_float W _ _ _ _ n hs hd
  clear hs hd
  go_enter Try.func21, Try.ntmps21
  go_wp2_with fail
  go_ret
  exact ⟨rfl, (Below.refl _ _).alloc (Nat.le_refl _) _⟩
end Go.Proofs.Ytngjpgdgipmieaa
/- Eight bytes, and the two numbers in them. No walk. -/
namespace Go.Proofs.Ytngjpgdgipmieaa
open Go.RowKit M6

theorem four_of {s : ByteArray} (h : s.size = 4) : ∃ a b c d : UInt8, s = ⟨#[a, b, c, d]⟩ := by
  obtain ⟨⟨l⟩⟩ := s
  have h' : l.length = 4 := h
  match l, h' with
  | [a, b, c, d], _ => exact ⟨a, b, c, d, rfl⟩
theorem pr_lit (a b c d : UInt8) : pr ⟨#[a, b, c, d]⟩ 4 = a.toNat + b.toNat * 256 + c.toNat * 65536 + d.toNat * 16777216 := pr_four rfl
theorem bt_lit (a b c d : UInt8) : ls (pr ⟨#[a, b, c, d]⟩ 4) = [a, b, c, d] := by
  have h0 := UInt8.toNat_lt a
  have h1 := UInt8.toNat_lt b
  have h2 := UInt8.toNat_lt c
  have h3 := UInt8.toNat_lt d
  rw [pr_lit]
  unfold ls bt
  have e0 : (a.toNat + b.toNat * 256 + c.toNat * 65536 + d.toNat * 16777216) / 256 ^ 0 % 256 = a.toNat := by simp; omega
  have e1 : (a.toNat + b.toNat * 256 + c.toNat * 65536 + d.toNat * 16777216) / 256 ^ 1 % 256 = b.toNat := by simp; omega
  have e2 : (a.toNat + b.toNat * 256 + c.toNat * 65536 + d.toNat * 16777216) / 256 ^ 2 % 256 = c.toNat := by simp; omega
  have e3 : (a.toNat + b.toNat * 256 + c.toNat * 65536 + d.toNat * 16777216) / 256 ^ 3 % 256 = d.toNat := by simp; omega
  rw [e0, e1, e2, e3]
  simp
theorem bs_pr {s : ByteArray} (h : s.size = 4) : bs (pr s 4) = s := by
  obtain ⟨a, b, c, d, rfl⟩ := four_of h
  unfold bs
  rw [bt_lit]
theorem bs_size (v : Nat) : (bs v).size = 4 := rfl
theorem pr_bs {v : Nat} (h : v < 4294967296) : pr (bs v) 4 = v := by
  have h0 := bt_lt v 0
  have h1 := bt_lt v 1
  have h2 := bt_lt v 2
  have h3 := bt_lt v 3
  have e := pr_lit (UInt8.ofNat (bt v 0)) (UInt8.ofNat (bt v 1)) (UInt8.ofNat (bt v 2)) (UInt8.ofNat (bt v 3))
  have ht : ∀ k, (UInt8.ofNat (bt v k)).toNat = bt v k := fun k => by have := bt_lt v k; simp; omega
  rw [ht, ht, ht, ht] at e
  show pr ⟨#[UInt8.ofNat (bt v 0), UInt8.ofNat (bt v 1), UInt8.ofNat (bt v 2), UInt8.ofNat (bt v 3)]⟩ 4 = v
  rw [e]
  unfold bt
  simp only [show (256 : Nat) ^ 0 = 1 from rfl, show (256 : Nat) ^ 1 = 256 from rfl, show (256 : Nat) ^ 2 = 65536 from rfl, show (256 : Nat) ^ 3 = 16777216 from rfl]
  omega
theorem cat_first (a b : ByteArray) (ha : a.size = 4) : (a ++ b).extract 0 4 = a := by
  refine ByteArray.ext ?_
  rw [ByteArray.data_extract, ByteArray.data_append]
  have : a.data.size = 4 := ha
  simp [this]
theorem cat_second (a b : ByteArray) (ha : a.size = 4) (hb : b.size = 4) : (a ++ b).extract 4 8 = b := by
  refine ByteArray.ext ?_
  rw [ByteArray.data_extract, ByteArray.data_append]
  have h1 : a.data.size = 4 := ha
  have h2 : b.data.size = 4 := hb
  have e1 : a.data.extract 4 4 = #[] := by simp; omega
  have e2 : b.data.extract 0 4 = b.data := by rw [← h2]; simp
  simp [h1, e1, e2]
theorem halves {s : ByteArray} (h : s.size = 8) : s.extract 0 4 ++ s.extract 4 8 = s := by
  refine ByteArray.ext ?_
  rw [ByteArray.data_append, ByteArray.data_extract, ByteArray.data_extract]
  have h1 : s.data.size = 8 := h
  simp
  omega
theorem sz_inj {a b : Int} (ha : a.natAbs ≤ 1048576) (hb : b.natAbs ≤ 1048576) (h : sz a = sz b) : a = b := by
  have h1 := Num.V goodS (sz_num' ha) (by rw [two24]; omega)
  have h2 := Num.V goodS (sz_num' hb) (by rw [two24]; omega)
  rw [h, h2] at h1
  have hp : (2 : Int) ^ 149 ≠ 0 := by decide +kernel
  exact (Int.mul_eq_mul_right_iff hp).1 h1.symm
end Go.Proofs.Ytngjpgdgipmieaa
/- What both readings and both writings of numbers give; blocks of two cells. -/
namespace Go.Proofs.Ytngjpgdgipmieaa
open Go.RowKit M6
theorem rdSpec_one {b : ByteArray} {n m c n' m' c' : Int} (h : RdSpec b n m c) (h' : RdSpec b n' m' c') : n = n' ∧ m = m' ∧ c = c' ∧ n.natAbs ≤ 1048576 ∧ m.natAbs ≤ 1048576 := by
  rcases h with ⟨s, rfl, rfl, rfl⟩ | ⟨s, rfl, rfl, rfl⟩ | ⟨s, rfl, hn, hm, e1, e2⟩ | ⟨s, rfl, rfl, rfl, hno⟩ <;>
    rcases h' with ⟨s', rfl, rfl, rfl⟩ | ⟨s', rfl, rfl, rfl⟩ | ⟨s', rfl, hn', hm', e1', e2'⟩ | ⟨s', rfl, rfl, rfl, hno'⟩
  all_goals first
    | (exfalso; omega)
    | exact ⟨rfl, rfl, rfl, by decide, by decide⟩
    | exact absurd e2 (hno' _ _ hn hm e1)
    | exact absurd e2' (hno _ _ hn' hm' e1')
    | exact ⟨sz_inj hn hn' (e1.symm.trans e1'), sz_inj hm hm' (e2.symm.trans e2'), rfl, hn, hm⟩
/-- what Put gives -/
def pt (a c : Int) : ByteArray × Int := if a.natAbs ≤ 1048576 ∧ c.natAbs ≤ 1048576 then (bs (sz a) ++ bs (sz c), 0) else (⟨#[]⟩, 17)
theorem gput_any (a c : Int) (w : World) (ha : a.natAbs < 9007199254740992) (hc : c.natAbs < 9007199254740992) :
    Calls Try.prog 65 #[.complex .f64 (fz a) (fz c)] w fun e w' => e = .returned (.tuple #[.string (pt a c).1, .int .i64 (pt a c).2]) ∧ Below w.heap.size w w' := by
  by_cases h : a.natAbs ≤ 1048576 ∧ c.natAbs ≤ 1048576
  · have e : pt a c = (bs (sz a) ++ bs (sz c), 0) := if_pos h
    rw [e]
    exact gput_yes a c w h.1 h.2
  · have e : pt a c = (⟨#[]⟩, 17) := if_neg h
    rw [e]
    refine (gput_no (fz a) (fz c) w (fz_lt a) (fz_lt c) ?_).mono ?_
    · rw [whole_small ha, whole_small hc, decide_eq_false_iff_not, decide_eq_false_iff_not]; omega
    · rintro e w1 ⟨rfl, rfl⟩; exact ⟨rfl, Below.refl _ _⟩
theorem rput_any (a c : Int) (w : World) :
    Calls Try.prog 26 #[.agg #[.int .i64 a, .int .i64 c]] w fun e w' => e = .returned (.tuple #[.string (pt a c).1, .int .i64 (pt a c).2]) ∧ Below w.heap.size w w' := by
  by_cases h : a.natAbs ≤ 1048576 ∧ c.natAbs ≤ 1048576
  · have e : pt a c = (bs (sz a) ++ bs (sz c), 0) := if_pos h
    rw [e]
    exact rput_yes a c w h.1 h.2
  · have e : pt a c = (⟨#[]⟩, 17) := if_neg h
    rw [e]
    exact rput_no a c w h
/-- a block of two cells that the call has made, and what has come since -/
def Two (w : World) (g : Nat) (p q : Value) (W : World) : Prop := W.heap[g]? = some (.cells #[p, q] 52 (0, 0)) ∧ g < W.heap.size ∧ Below w.heap.size w W
theorem Two.start (w : World) (p q : Value) : Two w w.heap.size p q (w.alloc (.cells #[p, q] 52)) := ⟨heap_alloc_new w _, by simp, (Below.refl _ _).alloc (Nat.le_refl _) _⟩
theorem Two.below {w W W' : World} {g : Nat} {p q : Value} (h : Two w g p q W) (hb : Below W.heap.size W W') : Two w g p q W' := ⟨(hb.block g h.2.1).trans h.1, Nat.lt_of_lt_of_le h.2.1 hb.size, step_below h.2.2 hb⟩
theorem Two.alloc {w W : World} {g : Nat} {p q : Value} (h : Two w g p q W) (p2 q2 : Value) : Two w W.heap.size p2 q2 (W.alloc (.cells #[p2, q2] 52)) := ⟨heap_alloc_new W _, by simp, step_below h.2.2 ((Below.refl _ _).alloc (Nat.le_refl _) _)⟩
theorem Two.more {w W : World} {g : Nat} {p q : Value} (h : Two w g p q W) (o : Obj) : Two w g p q (W.alloc o) := h.below ((Below.refl _ _).alloc (Nat.le_refl _) _)
end Go.Proofs.Ytngjpgdgipmieaa
/- Layer 7 in plain words: names, elements, what is wrong with a tensor, whole numbers of eight bytes. No walk. -/
namespace Go.Proofs.Ytngjpgdgipmieaa
namespace M7
open M6 Go.RowKit Go.Sort

structure Ten where
  name : ByteArray
  kind : Int
  dims : List Int
  data : ByteArray

theorem all_range {n : Nat} {f : Nat → Bool} : (List.range n).all f = true ↔ ∀ i, i < n → f i = true := by
  simp [List.all_eq_true, List.mem_range]
/-- the i-th byte may stand in a name -/
def nmc (s : ByteArray) (i : Nat) : Bool := if h : i < s.size then decide (33 ≤ s[i].toNat) && decide (s[i].toNat ≤ 126) else true
def nm (s : ByteArray) : Bool := decide (1 ≤ s.size) && decide (s.size ≤ 64) && (List.range s.size).all (nmc s)
theorem nmc_at {s : ByteArray} {i : Nat} (h : i < s.size) : nmc s i = (decide (33 ≤ s[i].toNat) && decide (s[i].toNat ≤ 126)) := dif_pos h
theorem nm_ok {s : ByteArray} (h1 : 1 ≤ s.size) (h2 : s.size ≤ 64) (h : ∀ i, i < s.size → nmc s i = true) : nm s = true := by
  unfold nm; rw [decide_eq_true h1, decide_eq_true h2, all_range.2 h]; rfl
theorem nm_bad {s : ByteArray} {i : Nat} (hi : i < s.size) (h : nmc s i = false) : nm s = false := by
  cases hn : nm s
  · rfl
  · unfold nm at hn
    simp only [Bool.and_eq_true] at hn
    have := all_range.1 hn.2 i hi
    rw [h] at this; cases this
theorem nm_short {s : ByteArray} (h : s.size < 1) : nm s = false := by
  unfold nm; rw [decide_eq_false (by omega)]; rfl
theorem nm_long {s : ByteArray} (h : 64 < s.size) : nm s = false := by
  unfold nm; rw [decide_eq_false (show ¬ s.size ≤ 64 by omega), Bool.and_false]; rfl
theorem nm_size {s : ByteArray} (h : nm s = true) : 1 ≤ s.size ∧ s.size ≤ 64 := by
  unfold nm at h
  simp only [Bool.and_eq_true, decide_eq_true_iff] at h
  exact h.1
theorem nm_of {s : ByteArray} (h : ∀ i, i < s.size → nmc s i = true) : nm s = (decide (1 ≤ s.size) && decide (s.size ≤ 64)) := by
  unfold nm; rw [all_range.2 h, Bool.and_true]

/-- the word of a part of a number -/
def part (v : Nat) : Bool := (List.range 2097153).any fun k => v == sz ((k : Int) - 1048576)
theorem part_iff {v : Nat} : part v = true ↔ ∃ n : Int, n.natAbs ≤ 1048576 ∧ v = sz n := by
  unfold part
  rw [List.any_eq_true]
  constructor
  · rintro ⟨k, hk, h⟩
    rw [List.mem_range] at hk
    exact ⟨(k : Int) - 1048576, by omega, by simpa using h⟩
  · rintro ⟨n, hn, rfl⟩
    refine ⟨(n + 1048576).toNat, ?_, ?_⟩
    · rw [List.mem_range]; omega
    · rw [show (((n + 1048576).toNat : Nat) : Int) - 1048576 = n by omega]; exact beq_self_eq_true _
/-- eight bytes that are a number -/
def gok (b : ByteArray) : Bool := part (pr (b.extract 0 4) 4) && part (pr (b.extract 4 8) 4)
theorem rd8 {b : ByteArray} {n m c : Int} (h : RdSpec b n m c) (hb : b.size = 8) : (c = 0 ∧ gok b = true) ∨ (c = 17 ∧ gok b = false) := by
  rcases h with ⟨s, _⟩ | ⟨s, _⟩ | ⟨s, rfl, hn, hm, e1, e2⟩ | ⟨s, rfl, rfl, rfl, hno⟩
  · omega
  · omega
  · refine .inl ⟨rfl, ?_⟩
    unfold gok
    rw [part_iff.2 ⟨n, hn, e1⟩, part_iff.2 ⟨m, hm, e2⟩]; rfl
  · refine .inr ⟨rfl, ?_⟩
    cases hg : gok b
    · rfl
    · unfold gok at hg
      rw [Bool.and_eq_true, part_iff, part_iff] at hg
      obtain ⟨⟨i, hi, e1⟩, j, hj, e2⟩ := hg
      exact absurd e2 (hno i j hi hj e1)
/-- an element is what one of its kind may be -/
def elk (k : Int) (d : ByteArray) (j : Nat) : Bool :=
  if k = 9 then (if h : j < d.size then decide (d[j].toNat ≤ 1) else true) else if k = 14 then gok (d.extract (j * 8) ((j + 1) * 8)) else true
theorem elk_flag {d : ByteArray} {j : Nat} (h : j < d.size) : elk 9 d j = decide (d[j].toNat ≤ 1) := by unfold elk; rw [if_pos rfl, dif_pos h]
theorem elk_gauss (d : ByteArray) (j : Nat) : elk 14 d j = gok (d.extract (j * 8) ((j + 1) * 8)) := by unfold elk; rw [if_neg (by decide), if_pos rfl]
theorem elk_other {k : Int} (h1 : k ≠ 9) (h2 : k ≠ 14) (d : ByteArray) (j : Nat) : elk k d j = true := by unfold elk; rw [if_neg h1, if_neg h2]

/-- what is wrong with a tensor -/
def ck (t : Ten) : Int :=
  if nm t.name = false then 8 else if kSize t.kind = 0 then 5 else if (M5.sz t.dims).2 ≠ 0 then ((M5.sz t.dims).2 : Int) else if (t.data.size : Int) ≠ (M5.sz t.dims).1 * kSize t.kind then 19
  else if (List.range (M5.sz t.dims).1.toNat).all (elk t.kind t.data) then 0 else 17
theorem ck_name {t : Ten} (h : nm t.name = false) : ck t = 8 := by unfold ck; rw [if_pos h]
theorem ck_kind {t : Ten} (h : nm t.name = true) (h2 : kSize t.kind = 0) : ck t = 5 := by unfold ck; rw [if_neg (by rw [h]; decide), if_pos h2]
theorem ck_shape {t : Ten} (h : nm t.name = true) (h2 : kSize t.kind ≠ 0) (h3 : (M5.sz t.dims).2 ≠ 0) : ck t = ((M5.sz t.dims).2 : Int) := by
  unfold ck; rw [if_neg (by rw [h]; decide), if_neg h2, if_pos h3]
theorem ck_form {t : Ten} (h : nm t.name = true) (h2 : kSize t.kind ≠ 0) (h3 : (M5.sz t.dims).2 = 0) (h4 : (t.data.size : Int) ≠ (M5.sz t.dims).1 * kSize t.kind) : ck t = 19 := by
  unfold ck; rw [if_neg (by rw [h]; decide), if_neg h2, if_neg (by rw [h3]; decide), if_pos h4]
theorem ck_bad {t : Ten} (h : nm t.name = true) (h2 : kSize t.kind ≠ 0) (h3 : (M5.sz t.dims).2 = 0) (h4 : (t.data.size : Int) = (M5.sz t.dims).1 * kSize t.kind) {j : Nat} (hj : (j : Int) < (M5.sz t.dims).1)
    (h5 : elk t.kind t.data j = false) : ck t = 17 := by
  unfold ck; rw [if_neg (by rw [h]; decide), if_neg h2, if_neg (by rw [h3]; decide), if_neg (by rw [h4]; simp)]
  rw [if_neg]
  intro ha
  have := all_range.1 ha j (by omega)
  rw [h5] at this; cases this
theorem ck_ok {t : Ten} (h : nm t.name = true) (h2 : kSize t.kind ≠ 0) (h3 : (M5.sz t.dims).2 = 0) (h4 : (t.data.size : Int) = (M5.sz t.dims).1 * kSize t.kind) (h5 : ∀ j : Nat, (j : Int) < (M5.sz t.dims).1 → elk t.kind t.data j = true) : ck t = 0 := by
  unfold ck; rw [if_neg (by rw [h]; decide), if_neg h2, if_neg (by rw [h3]; decide), if_neg (by rw [h4]; simp)]
  rw [if_pos (all_range.2 fun i hi => h5 i (by omega))]
theorem ck_zero {t : Ten} (h : ck t = 0) : nm t.name = true ∧ kSize t.kind ≠ 0 ∧ (M5.sz t.dims).2 = 0 ∧ (t.data.size : Int) = (M5.sz t.dims).1 * kSize t.kind ∧ ∀ j : Nat, (j : Int) < (M5.sz t.dims).1 → elk t.kind t.data j = true := by
  cases hn : nm t.name
  · rw [ck_name hn] at h; cases h
  · by_cases h2 : kSize t.kind = 0
    · rw [ck_kind hn h2] at h; cases h
    · by_cases h3 : (M5.sz t.dims).2 = 0
      · by_cases h4 : (t.data.size : Int) = (M5.sz t.dims).1 * kSize t.kind
        · refine ⟨rfl, h2, h3, h4, fun j hj => ?_⟩
          cases h5 : elk t.kind t.data j
          · rw [ck_bad hn h2 h3 h4 hj h5] at h; cases h
          · rfl
        · rw [ck_form hn h2 h3 h4] at h; cases h
      · rw [ck_shape hn h2 h3] at h; omega
theorem kSize_is (k : Int) : kSize k = 0 ∨ kSize k = 1 ∨ kSize k = 4 ∨ kSize k = 8 := by
  unfold kSize
  split; · omega
  split; · omega
  split; · omega
  split; · omega
  split <;> omega
theorem kSize_flag {k : Int} (h : k = 9) : kSize k = 1 := by subst h; decide
theorem kSize_gauss {k : Int} (h : k = 14) : kSize k = 8 := by subst h; decide

/-! whole numbers of eight bytes -/
def sg (v : Nat) : Int := wrap64 (v : Int)
def us (n : Int) : Nat := (IntKind.u64.wrap n).toNat
def in8 (b : ByteArray) : Int := sg (pr b 8)
def i8s (d : ByteArray) : List Int := (List.range (d.size / 8)).map fun j => in8 (d.extract (j * 8) ((j + 1) * 8))
theorem i8s_len (d : ByteArray) : (i8s d).length = d.size / 8 := by simp [i8s]
theorem i8s_at {d : ByteArray} {j : Nat} (h : j < (i8s d).length) : (i8s d)[j] = in8 (d.extract (j * 8) ((j + 1) * 8)) := by simp [i8s]
theorem us_eq (n : Int) : IntKind.u64.wrap n = ((us n : Nat) : Int) := by
  unfold us; rw [IntKind.wrap_u64]; omega
theorem us_lt (n : Int) : us n < 18446744073709551616 := by
  unfold us; rw [IntKind.wrap_u64]; omega
theorem sg_us {n : Int} (h : I64 n) : sg (us n) = n := by
  unfold I64 at h; unfold sg us wrap64; rw [IntKind.wrap_u64]; omega
theorem sg_in (v : Nat) : I64 (sg v) := by unfold sg wrap64 I64; omega
theorem p8 : (256 : Nat) ^ 8 = 18446744073709551616 := by decide
theorem pr8_lt (s : ByteArray) : pr s 8 < 18446744073709551616 := by have := pr_lt s 8; rwa [p8] at this
theorem pr_or8 {s : ByteArray} {k : Nat} (hk : k < 8) (h : k < s.size) :
    bits .or .u64 (pr s k : Int) ((s[k].toNat : Int) % 18446744073709551616 * 2 ^ (8 * k) % 18446744073709551616) = ((pr s (k + 1) : Nat) : Int) := by
  have h1 := pr_lt s k
  have h2 := pr_lt s (k + 1)
  have hb := UInt8.toNat_lt s[k]
  have hp : (256 : Nat) ^ (k + 1) ≤ 256 ^ 8 := Nat.pow_le_pow_right (by decide) (by omega)
  have h4 := p8
  have e : pr s (k + 1) = pr s k + s[k].toNat * 256 ^ k := by rw [pr, dif_pos h]
  have e8 : (256 : Nat) ^ k = 2 ^ (8 * k) := by rw [show (256 : Nat) = 2 ^ 8 from rfl, ← Nat.pow_mul]
  have hm : s[k].toNat * 256 ^ k < 18446744073709551616 := by omega
  have e3 : ((s[k].toNat : Int) % 18446744073709551616 * 2 ^ (8 * k) % 18446744073709551616) = ((s[k].toNat * 256 ^ k : Nat) : Int) := by
    have e5 : (2 : Int) ^ (8 * k) = ((256 ^ k : Nat) : Int) := by rw [e8, Int.natCast_pow]; rfl
    have e6 : (s[k].toNat : Int) % 18446744073709551616 = (s[k].toNat : Int) := by omega
    rw [e5, e6, ← Int.natCast_mul]
    generalize s[k].toNat * 256 ^ k = z at *
    omega
  rw [e3, u64_or_nat _ _ (by omega) hm, e]
  congr 1
  rw [Nat.or_comm]
  have hv' : pr s k < 2 ^ (8 * k) := by rw [← e8]; exact h1
  have := Nat.shiftLeft_add_eq_or_of_lt hv' s[k].toNat
  rw [Nat.shiftLeft_eq, ← e8] at this
  omega
/-- the number of the bytes from the k-th on -/
def hp (s : ByteArray) (k : Nat) : Nat := pr s 8 / 256 ^ k
theorem hp_eight (s : ByteArray) : hp s 8 = 0 := Nat.div_eq_of_lt (pr_lt s 8)
theorem hp_zero (s : ByteArray) : hp s 0 = pr s 8 := by unfold hp; simp
theorem pr_mod {s : ByteArray} : ∀ {i k : Nat}, i ≤ k → pr s k % 256 ^ i = pr s i
  | i, 0, h => by obtain rfl : i = 0 := by omega
                  simp [pr]
  | i, k + 1, h => by
    by_cases hik : i = k + 1
    · subst hik; exact Nat.mod_eq_of_lt (pr_lt s _)
    · rw [pr, Nat.add_mod, pr_mod (by omega : i ≤ k)]
      have e : (256 : Nat) ^ k = 256 ^ (k - i) * 256 ^ i := by rw [← Nat.pow_add]; congr 1; omega
      rw [e, ← Nat.mul_assoc, Nat.mul_mod_left, Nat.add_zero]
      exact Nat.mod_eq_of_lt (pr_lt s i)
theorem hp_step {s : ByteArray} {k : Nat} (hk : k < 8) (h : k < s.size) : hp s k = hp s (k + 1) * 256 + s[k].toNat := by
  have h1 := Nat.div_add_mod (pr s 8) (256 ^ (k + 1))
  rw [pr_mod (by omega : k + 1 ≤ 8)] at h1
  have h2 := pr_lt s k
  have e : pr s (k + 1) = pr s k + s[k].toNat * 256 ^ k := by rw [pr, dif_pos h]
  have hpos : 0 < 256 ^ k := Nat.pow_pos (by decide)
  unfold hp
  have e2 : pr s 8 = pr s k + 256 ^ k * (pr s 8 / 256 ^ (k + 1) * 256 + s[k].toNat) := by
    have e3 : (256 : Nat) ^ (k + 1) = 256 ^ k * 256 := Nat.pow_succ _ _
    generalize pr s 8 / 256 ^ (k + 1) = Q at *
    rw [e3, Nat.mul_assoc, Nat.mul_comm 256 Q] at h1
    rw [Nat.mul_add, Nat.mul_comm (256 ^ k) s[k].toNat]
    omega
  conv => lhs; rw [e2]
  rw [Nat.add_mul_div_left _ _ hpos, Nat.div_eq_of_lt h2, Nat.zero_add]
theorem hp_lt (s : ByteArray) (k : Nat) : hp s k < 18446744073709551616 := Nat.lt_of_le_of_lt (Nat.div_le_self _ _) (pr8_lt s)
end M7
end Go.Proofs.Ytngjpgdgipmieaa
/- Texts compared: the form in which a walk tests them. No program is imported. -/
namespace Go.Proofs.Ytngjpgdgipmieaa
theorem text_ext {a b : ByteArray} (h : a.toList = b.toList) : a = b := by
  rw [ByteArray.toList_eq, ByteArray.toList_eq] at h
  exact ByteArray.ext (Array.ext' h)
theorem teq_yes {a b : ByteArray} (h : a = b) : (a.toList == b.toList) = true := by rw [h]; exact beq_self_eq_true _
theorem teq_no {a b : ByteArray} (h : a ≠ b) : (a.toList == b.toList) = false := by
  rw [beq_eq_false_iff_ne]
  exact fun e => h (text_ext e)
theorem teq_is {a b : ByteArray} (h : (a.toList == b.toList) = true) : a = b := text_ext (by simpa using h)
theorem teq_not {a b : ByteArray} (h : (a.toList == b.toList) = false) : a ≠ b := fun e => by rw [e] at h; simp at h
end Go.Proofs.Ytngjpgdgipmieaa
/- The walks of cut and may. -/
namespace Go.Proofs.Ytngjpgdgipmieaa
open Go.RowKit M6 M7

/-- a tensor's value -/
abbrev tv (nme : ByteArray) (k : Int) (v : Value) (d : ByteArray) : Value := .agg #[.string nme, .int .i64 k, v, .string d]
theorem cut_prod {i k n : Nat} (h : (i + 1) * k ≤ n) : 0 ≤ (i : Int) * (k : Int) ∧ (i : Int) * (k : Int) ≤ ((i : Int) + 1) * (k : Int) ∧ ((i : Int) + 1) * (k : Int) ≤ (n : Int) ∧ (((i : Int) + 1) * (k : Int)).toNat = (i + 1) * k ∧ ((i : Int) * (k : Int)).toNat = i * k := by
  have h0 : i * k ≤ (i + 1) * k := Nat.mul_le_mul_right _ (by omega)
  have e1 : (i : Int) * (k : Int) = ((i * k : Nat) : Int) := by rw [Int.natCast_mul]
  have e2 : ((i : Int) + 1) * (k : Int) = (((i + 1) * k : Nat) : Int) := by rw [Int.natCast_mul]; rfl
  rw [e1, e2]
  omega

set_option maxRecDepth 100000 in
theorem cut_any (nme : ByteArray) (kd : Int) (A : Option Addr) (l c : Nat) (d : ByteArray) (i k : Nat) (w : World) (hd : d.size ≤ maxLen) (h : (i + 1) * k ≤ d.size) (hi : i ≤ 140737488355328) :
    Calls Try.prog 35 #[tv nme kd (.slice A l c) d, .int .i64 i, .int .i64 k] w fun e w' => e = .returned (.string (d.extract (i * k) ((i + 1) * k))) ∧ Below w.heap.size w w' := by
  unfold maxLen at hd
  obtain ⟨p0, p1, p2, p3, p4⟩ := cut_prod h
  clear h
  go_enter Try.func35, Try.ntmps35
  go_wp2_with fail
  go_ret
  exact ⟨rfl, (Below.refl _ _).alloc (Nat.le_refl _) _⟩

/-- what may says -/
def mayB (k : Int) (b : ByteArray) : Bool := if k = 9 then (decide (b = ⟨#[0]⟩) || decide (b = ⟨#[1]⟩)) else if k = 14 then gok b else true
theorem one_byte {d : ByteArray} {j : Nat} (h : j < d.size) : d.extract j (j + 1) = ⟨#[d[j]]⟩ := by
  refine ByteArray.ext ?_
  rw [ByteArray.data_extract]
  have h' : j < d.data.size := h
  refine Array.ext (by simp; omega) ?_
  intro i h1 h2
  obtain rfl : i = 0 := by simp at h2; omega
  simp
  rfl
theorem l0 : (⟨#[0]⟩ : ByteArray).toList = [0] := by decide +kernel
theorem l1 : (⟨#[1]⟩ : ByteArray).toList = [1] := by decide +kernel
theorem byte_is {x y : UInt8} : (⟨#[x]⟩ : ByteArray) = ⟨#[y]⟩ ↔ x = y := by
  constructor
  · intro h; injection h with h; simpa using h
  · rintro rfl; rfl
theorem may_elk {k : Int} {d : ByteArray} {j : Nat} (h : (j + 1) * (kSize k).toNat ≤ d.size) : mayB k (d.extract (j * (kSize k).toNat) ((j + 1) * (kSize k).toNat)) = elk k d j := by
  unfold mayB
  by_cases h9 : k = 9
  · subst h9
    rw [show (kSize 9).toNat = 1 by decide] at h ⊢
    have hj : j < d.size := by omega
    rw [if_pos rfl, elk_flag hj, Nat.mul_one, Nat.mul_one, one_byte hj]
    have hx := UInt8.toNat_lt d[j]
    generalize d[j] = x at *
    rw [Bool.eq_iff_iff]
    simp only [Bool.or_eq_true, decide_eq_true_iff, byte_is]
    constructor
    · rintro (rfl | rfl) <;> decide
    · intro hle
      rcases (by omega : x.toNat = 0 ∨ x.toNat = 1) with e | e
      · exact .inl (UInt8.toNat_inj.1 e)
      · exact .inr (UInt8.toNat_inj.1 e)
  · by_cases h14 : k = 14
    · subst h14
      rw [if_neg h9, if_pos rfl, elk_gauss, show (kSize 14).toNat = 8 by decide]
    · rw [if_neg h9, if_neg h14, elk_other h9 h14]

set_option maxRecDepth 100000 in
theorem may_any (k : Int) (b : ByteArray) (w : World) (hb : k = 14 → b.size = 8) :
    Calls Try.prog 34 #[.int .i64 k, .string b] w fun e w' => e = .returned (.bool (mayB k b)) ∧ Below w.heap.size w w' := by
  by_cases h9 : k = 9
  · subst h9
    by_cases h0 : b = ⟨#[0]⟩
    · have HE : Hid (mayB 9 b = true) := Lib.hid (by unfold mayB; rw [if_pos rfl, decide_eq_true h0]; rfl)
      have ht : (b.toList == [0]) = true := l0 ▸ teq_yes h0
      clear hb h0
      go_enter Try.func34, Try.ntmps34
      go_wp2_with fail
      go_ret
      rw [HE.out]
      exact ⟨rfl, Below.refl _ _⟩
    · have ht : (b.toList == [0]) = false := l0 ▸ teq_no h0
      by_cases h1 : b = ⟨#[1]⟩
      · have HE : Hid (mayB 9 b = true) := Lib.hid (by unfold mayB; rw [if_pos rfl, decide_eq_true h1, Bool.or_true])
        have ht : (b.toList == [1]) = true := l1 ▸ teq_yes h1
        clear hb h0 h1
        go_enter Try.func34, Try.ntmps34
        go_wp2_with fail
        go_ret
        rw [HE.out]
        exact ⟨rfl, Below.refl _ _⟩
      · have HE : Hid (mayB 9 b = false) := Lib.hid (by unfold mayB; rw [if_pos rfl, decide_eq_false h0, decide_eq_false h1]; rfl)
        have ht : (b.toList == [1]) = false := l1 ▸ teq_no h1
        clear hb h0 h1
        go_enter Try.func34, Try.ntmps34
        go_wp2_with fail
        go_ret
        rw [HE.out]
        exact ⟨rfl, Below.refl _ _⟩
  · have h9' : (k == 9) = false := by simpa using h9
    by_cases h14 : k = 14
    · subst h14
      have hb8 := hb rfl
      have HR := Lib.hid (fun W => gread_any b W (by unfold maxLen; omega))
      have HE : Hid (∀ n m c, RdSpec b n m c → (c = 0 ∧ mayB 14 b = true) ∨ (c = 17 ∧ mayB 14 b = false)) := Lib.hid (fun n m c h => by unfold mayB; rw [if_neg (by decide), if_pos rfl]; exact rd8 h hb8)
      clear hb hb8 h9
      go_enter Try.func34, Try.ntmps34
      go_wp2_with fail
      refine (HR.out _).mono ?_
      rintro e w1 ⟨n, m, c, rfl, hs, hb1⟩
      have HB := Lib.hid hb1
      have hc := HE.out _ _ _ hs
      clear hs hb1 HE
      rcases hc with ⟨rfl, hm⟩ | ⟨rfl, hm⟩
      · have HM := Lib.hid hm
        clear hm
        go_wp2_with fail
        go_ret
        rw [HM.out]
        exact ⟨rfl, HB.out⟩
      · have HM := Lib.hid hm
        clear hm
        go_wp2_with fail
        go_ret
        rw [HM.out]
        exact ⟨rfl, HB.out⟩
    · have h14' : (k == 14) = false := by simpa using h14
      have HE : Hid (mayB k b = true) := Lib.hid (by unfold mayB; rw [if_neg h9, if_neg h14])
      clear hb h9 h14
      go_enter Try.func34, Try.ntmps34
      go_wp2_with fail
      go_ret
      rw [HE.out]
      exact ⟨rfl, Below.refl _ _⟩
end Go.Proofs.Ytngjpgdgipmieaa
/- A row of one-cell values made at once and filled from the front. No program is imported. -/
namespace Go.Proofs.Ytngjpgdgipmieaa
open Go.RowKit

theorem made_cells (z : Value) (n : Nat) : (madeCells #[z] n).toList = List.replicate n z := by
  have h : madeCells #[z] n = (Array.range n).map (fun _ => z) := by
    unfold madeCells
    congr 1
    funext i
    show (#[z] : Array Value)[i % 1]! = _
    rw [Nat.mod_one]; rfl
  rw [h]
  apply List.ext_getElem
  · simp
  · intro i h1 h2; simp
theorem patchV_set {α : Type} {t s : List α} {k : Nat} (hs : s.length = t.length) (hk : k < t.length) : (t.take k ++ s.drop k).set k t[k] = t.take (k + 1) ++ s.drop (k + 1) := by
  rw [List.set_append_right _ _ (by simp; omega), List.take_succ_eq_append_getElem hk, List.drop_eq_getElem_cons (by omega : k < s.length)]
  have h2 : k - (t.take k).length = 0 := by simp; omega
  rw [h2, List.set_cons_zero, List.append_assoc, List.singleton_append]
theorem patchV_len {α : Type} {t s : List α} {k : Nat} (hs : s.length = t.length) (hk : k ≤ t.length) : (t.take k ++ s.drop k).length = t.length := by simp; omega
theorem Bx.far {w W : World} {g : Nat} {cs : Array Value} {T : TypeId} (h : Bx w g cs T W) {b i : Nat} (v : Value) (hne : g ≠ b) (hb : w.heap.size ≤ b) : Bx w g cs T (W.setCell ⟨b, i, none⟩ v) :=
  ⟨heap_far h.1 v hne, by simpa using h.2.1, h.2.2.setCell (p := ⟨b, i, none⟩) hb v⟩
/-- a row of the call's own that is filled from the front: k places are filled -/
def Fill (W : World) (B g : Nat) (T : TypeId) (vs zs : List Value) (k : Nat) : Prop := W.ownsRow B T 1 (.slice (some ⟨g, 0, none⟩) vs.length vs.length) vs.length (vs.take k ++ zs.drop k)
theorem Fill.start {W : World} {B g : Nat} {T : TypeId} {vs zs : List Value} (h : W.ownsRow B T 1 (.slice (some ⟨g, 0, none⟩) vs.length vs.length) vs.length zs) : Fill W B g T vs zs 0 := by
  unfold Fill; simpa using h
theorem Fill.keep {W W' : World} {B g k : Nat} {T : TypeId} {vs zs : List Value} (h : Fill W B g T vs zs k) (hb : Below W.heap.size W W') : Fill W' B g T vs zs k := own_keep h hb
theorem Fill.cell {W : World} {B g k : Nat} {T : TypeId} {vs zs : List Value} (h : Fill W B g T vs zs k) (hz : zs.length = vs.length) (hk : k < vs.length) : ∃ u, W.cell? ⟨g, k, none⟩ = some u := by
  have h1 := h.cellAt k (by omega)
  have hl := patchV_len (t := vs) (s := zs) (k := k) hz (by omega)
  rw [List.getElem?_eq_getElem (show k < (vs.take k ++ zs.drop k).length by omega)] at h1
  exact ⟨_, h1⟩
theorem Fill.put {W : World} {B g k : Nat} {T : TypeId} {vs zs : List Value} (h : Fill W B g T vs zs k) (hz : zs.length = vs.length) (hk : k < vs.length) : Fill (W.setCell ⟨g, k, none⟩ vs[k]) B g T vs zs (k + 1) := by
  have h1 := (h.stored k vs[k]).1
  unfold Fill
  rw [← patchV_set hz hk]
  exact h1
theorem Fill.done {W : World} {B g : Nat} {T : TypeId} {vs zs : List Value} (h : Fill W B g T vs zs vs.length) (hz : zs.length = vs.length) : W.ownsRow B T 1 (.slice (some ⟨g, 0, none⟩) vs.length vs.length) vs.length vs := by
  unfold Fill at h
  rw [List.drop_of_length_le (by omega), List.append_nil, List.take_length] at h
  exact h
end Go.Proofs.Ytngjpgdgipmieaa
/- The walks that lay an element's bytes in an array: whole numbers, flags, complex numbers. -/
namespace Go.Proofs.Ytngjpgdgipmieaa
open Go.RowKit M6 M7

/-- the cells of an array of eight bytes, the first k of them laid -/
def c8 (v k : Nat) : Array Value := #[.int .u8 (if 0 < k then bt v 0 else 0 : Nat), .int .u8 (if 1 < k then bt v 1 else 0 : Nat), .int .u8 (if 2 < k then bt v 2 else 0 : Nat), .int .u8 (if 3 < k then bt v 3 else 0 : Nat),
  .int .u8 (if 4 < k then bt v 4 else 0 : Nat), .int .u8 (if 5 < k then bt v 5 else 0 : Nat), .int .u8 (if 6 < k then bt v 6 else 0 : Nat), .int .u8 (if 7 < k then bt v 7 else 0 : Nat)]
theorem c8_next {v k : Nat} (hk : k < 8) : (c8 v k).setIfInBounds k (.int .u8 ((v : Int) / 2 ^ (8 * k) % 256)) = c8 v (k + 1) := by
  rw [bt_shift]
  rcases (by omega : k = 0 ∨ k = 1 ∨ k = 2 ∨ k = 3 ∨ k = 4 ∨ k = 5 ∨ k = 6 ∨ k = 7) with rfl | rfl | rfl | rfl | rfl | rfl | rfl | rfl <;> rfl
theorem cells_of8 {w : World} {g : Nat} {t : TypeId} {a0 a1 a2 a3 a4 a5 a6 a7 : Value} (h : w.heap[g]? = some (.cells #[a0, a1, a2, a3, a4, a5, a6, a7] t (0, 0))) :
    w.cell? ⟨g, 0, none⟩ = some a0 ∧ w.cell? ⟨g, 1, none⟩ = some a1 ∧ w.cell? ⟨g, 2, none⟩ = some a2 ∧ w.cell? ⟨g, 3, none⟩ = some a3 ∧ w.cell? ⟨g, 4, none⟩ = some a4 ∧ w.cell? ⟨g, 5, none⟩ = some a5 ∧ w.cell? ⟨g, 6, none⟩ = some a6 ∧ w.cell? ⟨g, 7, none⟩ = some a7 :=
  ⟨cell_of_row w g 0 _ t _ h, cell_of_row w g 1 _ t _ h, cell_of_row w g 2 _ t _ h, cell_of_row w g 3 _ t _ h, cell_of_row w g 4 _ t _ h, cell_of_row w g 5 _ t _ h, cell_of_row w g 6 _ t _ h, cell_of_row w g 7 _ t _ h⟩
theorem set8 {w : World} {g : Nat} {t : TypeId} {a0 a1 a2 a3 a4 a5 a6 a7 : Value} (h : w.heap[g]? = some (.cells #[a0, a1, a2, a3, a4, a5, a6, a7] t (0, 0))) (v0 v1 v2 v3 v4 v5 v6 v7 : Value) :
    ((((((((w.setCell ⟨g, 0, none⟩ v0).setCell ⟨g, 1, none⟩ v1).setCell ⟨g, 2, none⟩ v2).setCell ⟨g, 3, none⟩ v3).setCell ⟨g, 4, none⟩ v4).setCell ⟨g, 5, none⟩ v5).setCell ⟨g, 6, none⟩ v6).setCell ⟨g, 7, none⟩ v7).heap[g]? = some (.cells #[v0, v1, v2, v3, v4, v5, v6, v7] t (0, 0)) := by
  have h0 : (w.setCell ⟨g, 0, none⟩ v0).heap[g]? = some (.cells #[v0, a1, a2, a3, a4, a5, a6, a7] t (0, 0)) := heap_setCell_same _ g 0 _ t v0 h
  have h1 : ((w.setCell ⟨g, 0, none⟩ v0).setCell ⟨g, 1, none⟩ v1).heap[g]? = some (.cells #[v0, v1, a2, a3, a4, a5, a6, a7] t (0, 0)) := heap_setCell_same _ g 1 _ t v1 h0
  have h2 : (((w.setCell ⟨g, 0, none⟩ v0).setCell ⟨g, 1, none⟩ v1).setCell ⟨g, 2, none⟩ v2).heap[g]? = some (.cells #[v0, v1, v2, a3, a4, a5, a6, a7] t (0, 0)) := heap_setCell_same _ g 2 _ t v2 h1
  have h3 : ((((w.setCell ⟨g, 0, none⟩ v0).setCell ⟨g, 1, none⟩ v1).setCell ⟨g, 2, none⟩ v2).setCell ⟨g, 3, none⟩ v3).heap[g]? = some (.cells #[v0, v1, v2, v3, a4, a5, a6, a7] t (0, 0)) := heap_setCell_same _ g 3 _ t v3 h2
  have h4 : (((((w.setCell ⟨g, 0, none⟩ v0).setCell ⟨g, 1, none⟩ v1).setCell ⟨g, 2, none⟩ v2).setCell ⟨g, 3, none⟩ v3).setCell ⟨g, 4, none⟩ v4).heap[g]? = some (.cells #[v0, v1, v2, v3, v4, a5, a6, a7] t (0, 0)) := heap_setCell_same _ g 4 _ t v4 h3
  have h5 : ((((((w.setCell ⟨g, 0, none⟩ v0).setCell ⟨g, 1, none⟩ v1).setCell ⟨g, 2, none⟩ v2).setCell ⟨g, 3, none⟩ v3).setCell ⟨g, 4, none⟩ v4).setCell ⟨g, 5, none⟩ v5).heap[g]? = some (.cells #[v0, v1, v2, v3, v4, v5, a6, a7] t (0, 0)) := heap_setCell_same _ g 5 _ t v5 h4
  have h6 : (((((((w.setCell ⟨g, 0, none⟩ v0).setCell ⟨g, 1, none⟩ v1).setCell ⟨g, 2, none⟩ v2).setCell ⟨g, 3, none⟩ v3).setCell ⟨g, 4, none⟩ v4).setCell ⟨g, 5, none⟩ v5).setCell ⟨g, 6, none⟩ v6).heap[g]? = some (.cells #[v0, v1, v2, v3, v4, v5, v6, a7] t (0, 0)) := heap_setCell_same _ g 6 _ t v6 h5
  have h7 : ((((((((w.setCell ⟨g, 0, none⟩ v0).setCell ⟨g, 1, none⟩ v1).setCell ⟨g, 2, none⟩ v2).setCell ⟨g, 3, none⟩ v3).setCell ⟨g, 4, none⟩ v4).setCell ⟨g, 5, none⟩ v5).setCell ⟨g, 6, none⟩ v6).setCell ⟨g, 7, none⟩ v7).heap[g]? = some (.cells #[v0, v1, v2, v3, v4, v5, v6, v7] t (0, 0)) := heap_setCell_same _ g 7 _ t v7 h6
  exact h7
theorem below8 {B g : Nat} {w0 w : World} (h : Below B w0 w) (hg : B ≤ g) (v0 v1 v2 v3 v4 v5 v6 v7 : Value) :
    Below B w0 ((((((((w.setCell ⟨g, 0, none⟩ v0).setCell ⟨g, 1, none⟩ v1).setCell ⟨g, 2, none⟩ v2).setCell ⟨g, 3, none⟩ v3).setCell ⟨g, 4, none⟩ v4).setCell ⟨g, 5, none⟩ v5).setCell ⟨g, 6, none⟩ v6).setCell ⟨g, 7, none⟩ v7) :=
  (((((((h.setCell (p := ⟨g, 0, none⟩) hg v0).setCell (p := ⟨g, 1, none⟩) hg v1).setCell (p := ⟨g, 2, none⟩) hg v2).setCell (p := ⟨g, 3, none⟩) hg v3).setCell (p := ⟨g, 4, none⟩) hg v4).setCell (p := ⟨g, 5, none⟩) hg v5).setCell (p := ⟨g, 6, none⟩) hg v6).setCell (p := ⟨g, 7, none⟩) hg v7
/-- eight bytes -/
def a8 (b0 b1 b2 b3 b4 b5 b6 b7 : Nat) : Value := .agg #[.int .u8 b0, .int .u8 b1, .int .u8 b2, .int .u8 b3, .int .u8 b4, .int .u8 b5, .int .u8 b6, .int .u8 b7]

set_option maxRecDepth 100000 in
theorem putInt_any (n : Int) (w : World) :
    Calls Try.prog 47 #[.int .i64 n] w fun e w' => e = .returned (a8 (bt (us n) 0) (bt (us n) 1) (bt (us n) 2) (bt (us n) 3) (bt (us n) 4) (bt (us n) 5) (bt (us n) 6) (bt (us n) 7)) ∧ Below w.heap.size w w' := by
  have hus := us_eq n
  have hlt := us_lt n
  generalize us n = v at *
  go_enter Try.func47, Try.ntmps47
  go_wp2_with fail
  have hblk := heap_alloc_new w (Obj.cells #[Value.int IntKind.u8 0, Value.int IntKind.u8 0, Value.int IntKind.u8 0, Value.int IntKind.u8 0, Value.int IntKind.u8 0, Value.int IntKind.u8 0, Value.int IntKind.u8 0, Value.int IntKind.u8 0] 107)
  have HBK := Lib.hid hblk
  clear hblk
  go_loopw [3, 4] (fun _ i wr => ∃ (k : Nat) (K : Int), i = .int .i64 K ∧ K = k ∧ k ≤ 8 ∧ wr.heap[w.heap.size]? = some (.cells (c8 v k) 107 (0, 0)) ∧ Below w.heap.size w wr) (fun _ i _ => 8 - (intOf i).toNat)
  case atStart => exact ⟨0, _, rfl, rfl, by omega, HBK.out, (Below.refl _ _).alloc (Nat.le_refl _) _⟩
  case round =>
    obtain ⟨k, K, rfl, rfl, hk, hb, hbl⟩ := hrel
    have HBL := Lib.hid hbl
    have hsz := hbl.size
    clear hbl
    by_cases hlt8 : k < 8
    · have hsz4 : (c8 v k).size = 8 := rfl
      have hkc : ∃ u, (c8 v k)[k]? = some u := ⟨_, Array.getElem?_eq_getElem (by omega)⟩
      obtain ⟨u, hu⟩ := hkc
      have hc1 := cell_of_row wr w.heap.size k _ _ _ hb
      rw [hu] at hc1
      have HH := Lib.hid hb
      have hfz : wr.frozen? ⟨w.heap.size, k, none⟩ = false := by
        unfold World.frozen?; dsimp only; rw [hb]; simp
      clear hb
      go_wp2_with fail
      go_round
      case rel => exact ⟨k + 1, _, rfl, by omega, by omega, by rw [← c8_next hlt8]; exact heap_setCell_same _ _ _ _ _ _ HH.out, HBL.out.setCell (Nat.le_refl _) _⟩
      case measure => simp [intOf]; omega
    · obtain rfl : k = 8 := by omega
      have hb8 : wr.heap[w.heap.size]? = some (.cells #[(Value.int .u8 (bt v 0 : Nat)), (Value.int .u8 (bt v 1 : Nat)), (Value.int .u8 (bt v 2 : Nat)), (Value.int .u8 (bt v 3 : Nat)), (Value.int .u8 (bt v 4 : Nat)), (Value.int .u8 (bt v 5 : Nat)), (Value.int .u8 (bt v 6 : Nat)), (Value.int .u8 (bt v 7 : Nat))] 107 (0, 0)) := hb
      obtain ⟨q0, q1, q2, q3, q4, q5, q6, q7⟩ := cells_of8 hb8
      have hf0 := fun i => frozen_of_row wr w.heap.size i _ _ hb
      have HK := Lib.hid (And.intro (cells_of8 (set8 hb8 (Value.int .u8 (bt v 0 : Nat)) (Value.int .u8 (bt v 1 : Nat)) (Value.int .u8 (bt v 2 : Nat)) (Value.int .u8 (bt v 3 : Nat)) (Value.int .u8 (bt v 4 : Nat)) (Value.int .u8 (bt v 5 : Nat)) (Value.int .u8 (bt v 6 : Nat)) (Value.int .u8 (bt v 7 : Nat)))) (below8 HBL.out (Nat.le_refl _) (Value.int .u8 (bt v 0 : Nat)) (Value.int .u8 (bt v 1 : Nat)) (Value.int .u8 (bt v 2 : Nat)) (Value.int .u8 (bt v 3 : Nat)) (Value.int .u8 (bt v 4 : Nat)) (Value.int .u8 (bt v 5 : Nat)) (Value.int .u8 (bt v 6 : Nat)) (Value.int .u8 (bt v 7 : Nat))))
      clear hb hb8
      go_wp2_with fail
      obtain ⟨⟨c0, c1, c2, c3, c4, c5, c6, c7⟩, hbb⟩ := HK.out
      clear HK hf0 q0 q1 q2 q3 q4 q5 q6 q7
      generalize ((((((((wr.setCell ⟨w.heap.size, 0, none⟩ (Value.int .u8 (bt v 0 : Nat))).setCell ⟨w.heap.size, 1, none⟩ (Value.int .u8 (bt v 1 : Nat))).setCell ⟨w.heap.size, 2, none⟩ (Value.int .u8 (bt v 2 : Nat))).setCell ⟨w.heap.size, 3, none⟩ (Value.int .u8 (bt v 3 : Nat))).setCell ⟨w.heap.size, 4, none⟩ (Value.int .u8 (bt v 4 : Nat))).setCell ⟨w.heap.size, 5, none⟩ (Value.int .u8 (bt v 5 : Nat))).setCell ⟨w.heap.size, 6, none⟩ (Value.int .u8 (bt v 6 : Nat))).setCell ⟨w.heap.size, 7, none⟩ (Value.int .u8 (bt v 7 : Nat))) = w2 at *
      exact bodyPost_ret (v := a8 (bt v 0) (bt v 1) (bt v 2) (bt v 3) (bt v 4) (bt v 5) (bt v 6) (bt v 7)) (by simp [results, Try.results47, go_sem, c0, c1, c2, c3, c4, c5, c6, c7, a8]) rfl ⟨rfl, hbb⟩

/-- an array of eight bytes -/
def av (l : List UInt8) : Value := .agg (bv l).toArray
/-- the eight bytes of a whole number -/
def l8 (v : Nat) : List UInt8 := [UInt8.ofNat (bt v 0), UInt8.ofNat (bt v 1), UInt8.ofNat (bt v 2), UInt8.ofNat (bt v 3), UInt8.ofNat (bt v 4), UInt8.ofNat (bt v 5), UInt8.ofNat (bt v 6), UInt8.ofNat (bt v 7)]
theorem a8_av (v : Nat) : a8 (bt v 0) (bt v 1) (bt v 2) (bt v 3) (bt v 4) (bt v 5) (bt v 6) (bt v 7) = av (l8 v) := by
  have hb : ∀ k, ((UInt8.ofNat (bt v k)).toNat) = bt v k := fun k => by
    have := bt_lt v k
    simp; omega
  simp [a8, av, bv, l8, hb]
theorem putInt_av (n : Int) (w : World) : Calls Try.prog 47 #[.int .i64 n] w fun e w' => e = .returned (av (l8 (us n))) ∧ Below w.heap.size w w' := by
  rw [← a8_av]
  exact putInt_any n w

/-- a copy of a text into a new array of eight bytes -/
theorem copy8 {w W0 : World} {B g : Nat} (s : ByteArray) (l : List UInt8) (hs : s.size ≤ 8) (hl : s.data.toList ++ List.replicate (8 - s.size) 0 = l) (hblk : W0.heap[g]? = some (.cells #[Value.int IntKind.u8 0, Value.int IntKind.u8 0, Value.int IntKind.u8 0, Value.int IntKind.u8 0, Value.int IntKind.u8 0, Value.int IntKind.u8 0, Value.int IntKind.u8 0, Value.int IntKind.u8 0] 107 (0, 0))) (hb : Below B w W0) (hg : B ≤ g) :
    ∃ W, (Builtin.copy_ #[84, 9] 3 #[.slice (some ⟨g, 0, none⟩) 8 8, .string s]).run Try.prog W0 = .ok (goInt s.size) W ∧
      W.heap[g]? = some (.cells (bv l).toArray 107 (0, 0)) ∧ Below B w W := by
  have hcp := Lib.run_copy_row_string (P := Try.prog) W0 84 9 3 5 g 0 8 8 s _ _ Try.underlying84 (by kernel_rfl) hblk hs (by simpa using hs)
  refine ⟨_, hcp, ?_, ?_⟩
  · rw [setRow_heap _ _ _ _ _ _ hblk]
    have e1 : bv (List.replicate (8 - s.size) 0) = List.replicate (8 - s.size) (Value.int .u8 0) := by simp [bv]
    have e : ∀ z : List Value, z = List.replicate 8 (Value.int .u8 0) → (z.take 0 ++ Lib.byteCells s.data.toList ++ z.drop (0 + s.size)) = bv l := by
      rintro z rfl
      rw [← hl, bv_append, e1, List.take_zero, List.nil_append, Nat.zero_add, List.drop_replicate]
      rfl
    rw [← e _ rfl]
    rfl
  · exact below_setRow hb hg _

/-- loads and stores of an array's cells -/
theorem back8 {W : World} {g : Nat} {T : TypeId} {b0 b1 b2 b3 b4 b5 b6 b7 : UInt8} (h : W.heap[g]? = some (.cells (bv [b0, b1, b2, b3, b4, b5, b6, b7]).toArray T (0, 0))) :
    W.heap[g]? = some (.cells #[.int .u8 (b0.toNat : Nat), .int .u8 (b1.toNat : Nat), .int .u8 (b2.toNat : Nat), .int .u8 (b3.toNat : Nat), .int .u8 (b4.toNat : Nat), .int .u8 (b5.toNat : Nat), .int .u8 (b6.toNat : Nat), .int .u8 (b7.toNat : Nat)] T (0, 0)) := h

set_option maxRecDepth 100000 in
theorem putFlag_any (f : Bool) (w : World) :
    Calls Try.prog 49 #[.bool f] w fun e w' => e = .returned (av [if f then 1 else 0, 0, 0, 0, 0, 0, 0, 0]) ∧ Below w.heap.size w w' := by
  cases f
  · have hblk := heap_alloc_new w (Obj.cells #[Value.int IntKind.u8 0, Value.int IntKind.u8 0, Value.int IntKind.u8 0, Value.int IntKind.u8 0, Value.int IntKind.u8 0, Value.int IntKind.u8 0, Value.int IntKind.u8 0, Value.int IntKind.u8 0] 107)
    have HB : Hid (Below w.heap.size w (w.alloc (Obj.cells #[Value.int IntKind.u8 0, Value.int IntKind.u8 0, Value.int IntKind.u8 0, Value.int IntKind.u8 0, Value.int IntKind.u8 0, Value.int IntKind.u8 0, Value.int IntKind.u8 0, Value.int IntKind.u8 0] 107))) := Lib.hid ((Below.refl _ _).alloc (Nat.le_refl _) _)
    have HK := Lib.hid (cells_of8 hblk)
    clear hblk
    go_enter Try.func49, Try.ntmps49
    go_wp2_with fail
    obtain ⟨c0, c1, c2, c3, c4, c5, c6, c7⟩ := HK.out
    exact bodyPost_ret (v := av [0, 0, 0, 0, 0, 0, 0, 0]) (by simp [results, Try.results49, go_sem, c0, c1, c2, c3, c4, c5, c6, c7, av, bv]) rfl ⟨rfl, HB.out⟩
  · obtain ⟨W, hcp, hblk, hbb⟩ := copy8 (w := w) ⟨#[1]⟩ [1, 0, 0, 0, 0, 0, 0, 0] (by decide) rfl (heap_alloc_new w (Obj.cells #[Value.int IntKind.u8 0, Value.int IntKind.u8 0, Value.int IntKind.u8 0, Value.int IntKind.u8 0, Value.int IntKind.u8 0, Value.int IntKind.u8 0, Value.int IntKind.u8 0, Value.int IntKind.u8 0] 107)) ((Below.refl _ _).alloc (Nat.le_refl _) _) (Nat.le_refl _)
    have hblk' : W.heap[w.heap.size]? = some (.cells #[.int .u8 1, .int .u8 0, .int .u8 0, .int .u8 0, .int .u8 0, .int .u8 0, .int .u8 0, .int .u8 0] 107 (0, 0)) := hblk
    obtain ⟨c0, c1, c2, c3, c4, c5, c6, c7⟩ := cells_of8 hblk'
    have hf0 := fun i => frozen_of_row W w.heap.size i _ _ hblk'
    have HK := Lib.hid (And.intro (cells_of8 (set8 hblk' (.int .u8 1) (.int .u8 0) (.int .u8 0) (.int .u8 0) (.int .u8 0) (.int .u8 0) (.int .u8 0) (.int .u8 0))) (below8 hbb (Nat.le_refl _) (.int .u8 1) (.int .u8 0) (.int .u8 0) (.int .u8 0) (.int .u8 0) (.int .u8 0) (.int .u8 0) (.int .u8 0)))
    clear hblk hblk' hbb
    go_enter Try.func49, Try.ntmps49
    go_wp2_with fail
    clear c0 c1 c2 c3 c4 c5 c6 c7
    obtain ⟨⟨c0, c1, c2, c3, c4, c5, c6, c7⟩, hbb⟩ := HK.out
    clear HK hf0 hcp
    exact bodyPost_ret (v := av [1, 0, 0, 0, 0, 0, 0, 0]) (by simp [results, Try.results49, go_sem, c0, c1, c2, c3, c4, c5, c6, c7, av, bv]) rfl ⟨rfl, hbb⟩

theorem eight_of {l : List UInt8} (h : l.length = 8) : ∃ b0 b1 b2 b3 b4 b5 b6 b7, l = [b0, b1, b2, b3, b4, b5, b6, b7] := by
  match l, h with
  | [b0, b1, b2, b3, b4, b5, b6, b7], _ => exact ⟨b0, b1, b2, b3, b4, b5, b6, b7, rfl⟩

set_option maxRecDepth 100000 in
theorem putNum_any (x y : Nat) (s : ByteArray) (c : Int) (l : List UInt8) (w : World) (hs : s.size ≤ 8) (hl : s.data.toList ++ List.replicate (8 - s.size) 0 = l)
    (hp : ∀ W : World, Calls Try.prog 65 #[.complex .f64 x y] W fun e w' => e = .returned (.tuple #[.string s, .int .i64 c]) ∧ Below W.heap.size W w') :
    Calls Try.prog 53 #[.complex .f64 x y] w fun e w' => e = .returned (av l) ∧ Below w.heap.size w w' := by
  have HP := Lib.hid hp
  have hl8 : l.length = 8 := by
    rw [← hl, List.length_append, List.length_replicate]
    have : s.data.toList.length = s.size := by simp
    omega
  obtain ⟨b0, b1, b2, b3, b4, b5, b6, b7, rfl⟩ := eight_of hl8
  have HL := Lib.hid hl
  have HBX := Lib.hid (Bx.start w #[Value.int IntKind.u8 0, Value.int IntKind.u8 0, Value.int IntKind.u8 0, Value.int IntKind.u8 0, Value.int IntKind.u8 0, Value.int IntKind.u8 0, Value.int IntKind.u8 0, Value.int IntKind.u8 0] 107)
  clear hp hl hl8
  go_enter Try.func53, Try.ntmps53
  go_wp2_with fail
  refine (HP.out _).mono ?_
  rintro e w1 ⟨rfl, hb1⟩
  obtain ⟨hbk1, hlt1, hbl1⟩ := HBX.out.below hb1
  obtain ⟨W, hcp, hblk, hbb⟩ := copy8 s _ hs HL.out hbk1 hbl1 (Nat.le_refl _)
  have hblk' := back8 hblk
  obtain ⟨c0, c1, c2, c3, c4, c5, c6, c7⟩ := cells_of8 hblk'
  have hf0 := fun i => frozen_of_row W w.heap.size i _ _ hblk'
  have HK := Lib.hid (And.intro (cells_of8 (set8 hblk' (.int .u8 (b0.toNat : Nat)) (.int .u8 (b1.toNat : Nat)) (.int .u8 (b2.toNat : Nat)) (.int .u8 (b3.toNat : Nat)) (.int .u8 (b4.toNat : Nat)) (.int .u8 (b5.toNat : Nat)) (.int .u8 (b6.toNat : Nat)) (.int .u8 (b7.toNat : Nat)))) (below8 hbb (Nat.le_refl _) (.int .u8 (b0.toNat : Nat)) (.int .u8 (b1.toNat : Nat)) (.int .u8 (b2.toNat : Nat)) (.int .u8 (b3.toNat : Nat)) (.int .u8 (b4.toNat : Nat)) (.int .u8 (b5.toNat : Nat)) (.int .u8 (b6.toNat : Nat)) (.int .u8 (b7.toNat : Nat))))
  clear hblk hblk' hbb hb1 hbk1 hlt1 hbl1 HBX HL HP
  go_wp2_with fail
  clear c0 c1 c2 c3 c4 c5 c6 c7
  obtain ⟨⟨c0, c1, c2, c3, c4, c5, c6, c7⟩, hbb⟩ := HK.out
  clear HK hf0 hcp
  exact bodyPost_ret (v := av [b0, b1, b2, b3, b4, b5, b6, b7]) (by simp [results, Try.results53, go_sem, c0, c1, c2, c3, c4, c5, c6, c7, av, bv]) rfl ⟨rfl, hbb⟩
end Go.Proofs.Ytngjpgdgipmieaa
/- Appending a slice, nil or not, to a row of the call's own. No program is imported. -/
namespace Go.Proofs.Ytngjpgdgipmieaa
open Go.RowKit
theorem SR.cells {w : World} {B size n : Nat} {A : Option Addr} {xs : List Value} (h : SR w B size A n xs) : ∀ ad, A = some ad → ∀ j u, xs[j]? = some u → w.cell? (ad.add j) = some u := by
  intro ad hA j u hj
  have hpos : 0 < n := by
    have h1 := (List.getElem?_eq_some_iff.1 hj).1
    have h2 := h.1
    cases n with
    | zero => simp at h2; rw [h2] at h1; simp at h1
    | succ n => omega
  obtain ⟨b, o, hB, _, hc⟩ := h.2 hpos
  rw [hA] at hB
  injection hB with hB
  subst hB
  rw [Addr.add_mid]
  exact hc j u hj
theorem own_nil {w : World} {B size n c : Nat} {e : TypeId} {A : Option Addr} {xs : List Value} (h : w.ownsRow B e size (.slice A n c) n xs) : A = none → n = 0 ∧ c = 0 := by
  rintro rfl
  rcases h.2 with ⟨h1, h2⟩ | ⟨g, cap, cur, h1, _⟩
  · injection h1 with _ h3 h4; exact ⟨h2, h4⟩
  · simp at h1
theorem own_len1 {w : World} {B size n : Nat} {e : TypeId} {v : Value} {xs : List Value} (h : w.ownsRow B e size v n xs) : xs.length = n * size := h.1
theorem wpList_append_any {P : Program} {w : World} {ops : Array Oper} {rest : List Oper} {o : Oper} {a : Act} {Q : Exit → Act → World → Prop} (hgd : o.guard = none) (s x : Operand) (t : TypeId)
    (ho : o.op = .call { callee := .builtin .append, args := #[s, x], argTypes := #[t, t] })
    (base : Nat) (e : TypeId) (i : TypeInfo) (z : Value) (size bytes : Nat) (ht : P.underlying t = some (.slice e)) (hi : P.info? e = some i) (hz : i.zero = some z)
    (hsize : i.size = size) (hby : i.bytes = bytes) (hzs : z.cells.size = size) (hsz : 0 < size)
    (v : Value) (n : Nat) (xs : List Value) (hs : a.eval s = v) (hown : w.ownsRow base e size v n xs)
    (ao : Option Addr) (m c : Nat) (news : List Value) (hx : a.eval x = .slice ao m c) (hl : news.length = m * size) (hnone : ao = none → m = 0 ∧ c = 0)
    (hnews : ∀ ad, ao = some ad → ∀ j u, news[j]? = some u → w.cell? (ad.add j) = some u) (h1 : ∀ u ∈ news, u.oneCell' = true)
    (h63 : n + m ≤ maxLen) (hbytes : (n + m) * bytes ≤ 140737488355328) (hbase : base ≤ w.heap.size)
    (h : ∀ v' w', w'.ownsRow base e size v' (n + m) (xs ++ news) → w.grownBy w' v.ownBlock → wpList P ops Q rest (a.put o.dst v') w') : wpList P ops Q (o :: rest) a w := by
  cases ao with
  | some ad => exact wpList_append_own _ hgd s x t ho base e i z size bytes ht hi hz hsize hby hzs hsz v n xs hs hown ad m c news hx hl (hnews ad rfl) h1 h63 hbytes hbase fun v' w' h2 h3 _ => h v' w' h2 h3
  | none =>
    obtain ⟨rfl, rfl⟩ := hnone rfl
    have hn : news = [] := List.eq_nil_of_length_eq_zero (by simpa using hl)
    subst hn
    exact wpList_append_own_none hgd s x t ho base e i size ht hi v n xs hs hown hx (h v w (by simpa using hown) (World.grownBy.refl _ _))
end Go.Proofs.Ytngjpgdgipmieaa
/- The walk of slices.Clone of a row of numbers. -/
namespace Go.Proofs.Ytngjpgdgipmieaa
open Go.RowKit

set_option maxRecDepth 100000 in
theorem clone_any (A : Option Addr) (c : Nat) (l : List Int) (w : World) (hl : l.length ≤ 1000000) (ha : SR w w.heap.size 1 A l.length (iv l)) :
    Calls Try.prog 63 #[.slice A l.length c] w (IntsRes w.heap.size l w) := by
  obtain ⟨i0, hi0, hz0, hz1, hz2⟩ := info_parts infoInt64
  cases A with
  | none =>
    have h0 : l.length = 0 := by
      rcases Nat.eq_zero_or_pos l.length with h | h
      · exact h
      · obtain ⟨b, o, hA, _⟩ := ha.2 h
        cases hA
    obtain rfl : l = [] := List.eq_nil_of_length_eq_zero h0
    clear ha h0 hl
    have hq := _root_.Go.run_eql_slice_nil (P := Try.prog) w 23 2 none 0 c Try.underlying23
    go_enter Try.func63, Try.ntmps63
    go_wp2_with fail
    go_ret
    exact ⟨_, rfl, World.ownsRow_nil _ _ _ _, Below.refl _ _⟩
  | some ad =>
    have HS := Lib.hid ha
    have hls := (HS.out.below ((Below.refl w.heap.size w).alloc (Nat.le_refl _) (.cells #[] 2))).cells
    clear ha
    have hq := _root_.Go.run_eql_slice_nil (P := Try.prog) w 23 2 (some ad) l.length c Try.underlying23
    go_enter Try.func63, Try.ntmps63
    go_wp2_with (at_builtin; refine wpList_append_own _ rfl _ _ 23 rfl w.heap.size 2 i0 _ 1 8 Try.underlying23 hi0 hz0 hz1 hz2 rfl (by decide) _ 0 [] rfl (World.ownsRow_lit (size := 1) w #[] 0 (Nat.le_refl _) (by unfold maxLen; omega) rfl) ad l.length c (iv l) rfl (by rw [iv_len, Nat.mul_one]) ?c1 iv_oneCell ?c3 ?c4 ?c5 ?_)
    case c1 =>
      exact fun j u hj => hls ad rfl j u hj
    case c3 => unfold maxLen; omega
    case c4 => omega
    case c5 => simp
    intro v' w2 hown' hgrow _
    have HR : Hid (w2.ownsRow w.heap.size 2 1 v' l.length (iv l) ∧ Below w.heap.size w w2) := Lib.hid ⟨by simpa using hown', ((Below.refl w.heap.size w).alloc (Nat.le_refl _) _).grown hgrow (by simp) (fun q hq => by simp [Value.ownBlock] at hq; omega)⟩
    clear hown' hgrow
    go_wp2_with fail
    go_ret
    exact ⟨_, rfl, HR.out.1, HR.out.2⟩
end Go.Proofs.Ytngjpgdgipmieaa
/- A strings.Builder that the call has made: copyCheck walked, String's contract laid. -/
namespace Go.Proofs.Ytngjpgdgipmieaa
open Go.RowKit Go.Shelf
theorem sizeBuilder : (Try.prog.info? 105).map (·.size) = some 2 := by kernel_rfl
theorem liesBuilder : liesAt Try.prog Try.prog.depth 105 (2 / Try.prog.cellsOf 105) 0 105 1 = true := by kernel_rfl
theorem byteInfo : (Try.prog.info? 5).map (fun i => (i.zero, i.size, i.bytes)) = some (some (.int .u8 0), 1, 1) := by kernel_rfl
/-- a builder of the call's own, which holds these bytes -/
def BuildF (B b : Nat) (l : List UInt8) (w : World) : Prop := Lib.IsBuilderF 105 5 B b (Lib.byteCells l) w
set_option maxRecDepth 100000 in
theorem check_used (b : Nat) (w : World) (h0 : w.cell? ⟨b, 0, none⟩ = some (.pointer (some ⟨b, 0, none⟩))) :
    Calls Try.prog 71 #[.pointer (some ⟨b, 0, none⟩)] w fun e w' => e = .returned (.tuple #[]) ∧ w' = w := by
  obtain ⟨j, hj, _⟩ := Option.map_eq_some_iff.1 sizeBuilder
  go_enter Try.func71, Try.ntmps71
  go_wp2
  rw [Lib.run_neq_ptr_same w _ Try.underlying103 hj]
  go_wp2
  go_end0
  exact ⟨rfl, rfl⟩
set_option maxRecDepth 100000 in
theorem check_fresh (b : Nat) (w : World) (h0 : w.cell? ⟨b, 0, none⟩ = some (.pointer none)) (hsh : w.shape? b = some (105, 2)) (hfz : w.frozen? ⟨b, 0, none⟩ = false) :
    Calls Try.prog 71 #[.pointer (some ⟨b, 0, none⟩)] w fun e w' => e = .returned (.tuple #[]) ∧ w' = w.setCell ⟨b, 0, none⟩ (.pointer (some ⟨b, 0, none⟩)) := by
  obtain ⟨j, hj, hjs⟩ := Option.map_eq_some_iff.1 sizeBuilder
  go_enter Try.func71, Try.ntmps71
  go_wp2
  rw [Lib.run_to_unsafe w ⟨b, 0, none⟩ Try.underlying103 Try.underlying127 hj (by rw [hjs]; decide) hsh (Nat.zero_lt_succ 1)]
  simp only [Result.andThen]
  rw [Oper.upon_value]
  go_wp2
  rw [run_callFunc_extern Try.func77 (by kernel_rfl) (by kernel_rfl) (by kernel_rfl) (e := Extern.AbiNoEscape.same) (by kernel_rfl)]
  rw [Lib.run_noEscape]
  simp only [Result.andThen]
  rw [Oper.upon_value]
  go_wp2
  rw [Lib.run_from_unsafe w ⟨b, 0, none⟩ Try.underlying127 Try.underlying103 hj hsh liesBuilder]
  simp only [Result.andThen]
  rw [Oper.upon_value]
  go_wp2
  go_end0
  exact ⟨rfl, rfl⟩
theorem check_any (B b : Nat) (bs : List Value) (w : World) (h : Lib.IsBuilderF 105 5 B b bs w) :
    Calls Try.prog 71 #[.pointer (some ⟨b, 0, none⟩)] w fun e w' => e = .returned (.tuple #[]) ∧ (Lib.BuilderAtF 105 5 B b (.pointer (some ⟨b, 0, none⟩)) bs w' ∧ Below B w w') := by
  rcases h with h | h
  · refine (check_fresh b w h.cell0 h.shape h.frozen0).mono ?_
    rintro e w' ⟨rfl, rfl⟩
    exact ⟨rfl, h.used _, (Below.refl B w).setCell (p := ⟨b, 0, none⟩) h.1 _⟩
  · refine (check_used b w h.cell0).mono ?_
    rintro e w' ⟨rfl, rfl⟩
    exact ⟨rfl, h, Below.refl B _⟩
/-- String, laid: the library's numbers and this dump's -/
def strRen : Go.Shelf.Ren := ⟨fun | 169 => 64 | n => n, fun | 70 => 103 | 9 => 9 | 0 => 0 | 72 => 105 | 37 => 84 | 127 => 121 | 3 => 3 | 5 => 5 | n => n, fun | n => n⟩
theorem strLays : Go.Proofs.Lays.n169 Try.prog strRen := {
  mixed := by kernel_rfl
  f169 := Try.func64.trans (congrArg some (by kernel_rfl))
  t0 := Try.underlying0
  a0 := Try.isAgg0
  z0 := Try.sizeOf0
  v0 := Try.zeroValue0
  t3 := Try.underlying3
  a3 := Try.isAgg3
  z3 := Try.sizeOf3
  v3 := Try.zeroValue3
  t9 := Try.underlying9
  a9 := Try.isAgg9
  z9 := Try.sizeOf9
  v9 := Try.zeroValue9
  t37 := Try.underlying84
  a37 := Try.isAgg84
  z37 := Try.sizeOf84
  v37 := Try.zeroValue84
  t70 := Try.underlying103
  a70 := Try.isAgg103
  z70 := Try.sizeOf103
  v70 := Try.zeroValue103
  t72 := Try.underlying105
  a72 := Try.isAgg105
  z72 := Try.sizeOf105
  v72 := Try.zeroValue105
  t127 := Try.underlying121
  a127 := Try.isAgg121
  z127 := Try.sizeOf121
  v127 := Try.zeroValue121 }
theorem strExtra : Go.Proofs.Builder.Extra Try.prog strRen := {
  sizeBuilder := by kernel_rfl
  liesBuilder := by kernel_rfl
  t5 := Try.underlying5
  a5 := Try.isAgg5
  z5 := Try.sizeOf5
  v5 := Try.zeroValue5
  infoByte := by kernel_rfl
  cellsByte := by kernel_rfl
  sizeByte := by kernel_rfl
  neB5 := by decide }
theorem buildString_any (B b : Nat) (l : List UInt8) (w : World) (h : BuildF B b l w) (hBw : B ≤ w.heap.size) :
    Calls Try.prog 64 #[.pointer (some ⟨b, 0, none⟩)] w fun e w' => e = .returned (.string ⟨l.toArray⟩) ∧ BuildF B b l w' ∧ Below B w w' :=
  Go.Proofs.Any.Builder_String_any_f strLays strExtra B b l w h hBw
/-- a builder just made -/
theorem build_new (w : World) : BuildF w.heap.size w.heap.size [] (w.alloc (.cells #[.pointer none, .slice none 0 0] 105)) :=
  Lib.IsBuilderF.of (Lib.fresh_isBuilder _ _ w)
/-- a builder stays one while other blocks are made -/
theorem build_keep {B b : Nat} {l : List UInt8} {w w' : World} (h : BuildF B b l w) (hb : Below w.heap.size w w') : BuildF B b l w' := by
  have key : ∀ p, Lib.BuilderAtF 105 5 B b p (Lib.byteCells l) w → Lib.BuilderAtF 105 5 B b p (Lib.byteCells l) w' := by
    intro p ⟨hB, v, hbk, hown, hne⟩
    refine ⟨hB, v, blk_below hbk hb (blk_lt hbk), ⟨hown.1, ?_⟩, hne⟩
    rcases hown.2 with hn | ⟨g, cap, cur, fz, hv, hbg, hg, rest⟩
    · exact .inl hn
    · exact .inr ⟨g, cap, cur, fz, hv, hbg, blk_below hg hb (blk_lt hg), rest⟩
  exact h.elim (fun x => .inl (key _ x)) (fun x => .inr (key _ x))
end Go.Proofs.Ytngjpgdgipmieaa
/- The walks of strings.Builder's Grow, at a builder that is new, and of Write. -/
namespace Go.Proofs.Ytngjpgdgipmieaa
open Go.RowKit

/-- a builder of the call's own that has been written or grown and not yet been read, which holds these bytes -/
def BuildG (B b : Nat) (l : List UInt8) (w : World) : Prop := Lib.BuilderAt 105 5 B b (.pointer (some ⟨b, 0, none⟩)) (Lib.byteCells l) w
theorem BuildG.f {B b : Nat} {l : List UInt8} {w : World} (h : BuildG B b l w) : BuildF B b l w := Lib.IsBuilderF.of (.inr h)
theorem BuildG.keep {B b : Nat} {l : List UInt8} {w w' : World} (h : BuildG B b l w) (hb : Below w.heap.size w w') : BuildG B b l w' := by
  obtain ⟨hB, v, hbk, hown, hne⟩ := h
  exact ⟨hB, v, blk_below hbk hb (blk_lt hbk), own_keep hown hb, hne⟩

set_option maxRecDepth 100000 in
set_option maxHeartbeats 2000000 in
theorem grow_fresh (B b n : Nat) (w : World) (hB : B ≤ b) (hbk : w.heap[b]? = some (.cells #[.pointer (some ⟨b, 0, none⟩), .slice none 0 0] 105 (0, 0))) (hBw : B ≤ w.heap.size) (hn : n ≤ 281474976710656) :
    Calls Try.prog 72 #[.pointer (some ⟨b, 0, none⟩), .int .i64 n] w fun e w' => e = .returned (.tuple #[]) ∧ (Lib.BuilderAt 105 5 B b (.pointer (some ⟨b, 0, none⟩)) [] w' ∧ Below B w w') := by
  obtain ⟨cs, hrun, hle, hmax⟩ := Lib.run_makeNoZero (P := Try.prog) w.drew #[3] 84 5 Try.underlying84 n hn
  have hcall : (callFunc 78 #[.int .i64 (n : Int)]).run Try.prog w.drew = .ok (.value (.slice (some ⟨w.drew.heap.size, 0, none⟩) n cs.size)) (w.drew.drew.drew.alloc (.cells cs 5)) := by
    rw [run_callFunc_extern Try.func78 (by kernel_rfl) (by kernel_rfl) (by kernel_rfl) (e := Extern.BytealgMakeNoZero.makeNoZero #[3] #[84]) (by kernel_rfl), hrun]
    rfl
  have hlt : b < w.heap.size := by
    rcases Nat.lt_or_ge b w.heap.size with h' | h'
    · exact h'
    · simp [Array.getElem?_eq_none h'] at hbk
  have c1 : w.drew.cell? ⟨b, 1, none⟩ = some (.slice none 0 0) := by
    have : w.drew.heap[b]? = _ := hbk
    rw [Lib.cell_of_heap this]; rfl
  have c2 : (w.alloc (.cells cs 5)).cell? ⟨b, 1, none⟩ = some (.slice none 0 0) := by
    have : (w.alloc (.cells cs 5)).heap[b]? = _ := (Lib.alloc_old w _ b hlt).trans hbk
    rw [Lib.cell_of_heap this]; rfl
  have f2 : (w.alloc (.cells cs 5)).frozen? ⟨b, 1, none⟩ = false := Lib.frozen_of_heap ((Lib.alloc_old w _ b hlt).trans hbk) 1
  have hcopy : ∀ W : World, (Builtin.copy_ #[84, 84] 3 #[.slice (some ⟨w.heap.size, 0, none⟩) 0 cs.size, .slice none 0 0]).run Try.prog W = .ok (goInt 0) W :=
    fun W => run_copy_none W 84 84 3 5 _ _ 0 cs.size 0 0 Try.underlying84 (by kernel_rfl) rfl
  have hn' : (n : Int) ≤ 281474976710656 := by omega
  have hfin := Lib.grown_fresh (T := 105) (e := 5) (cs := cs) hB hbk hBw (hmax (by unfold maxLen; omega)) (by decide)
  rw [World.setCell_alloc_past _ b 1 _ hlt] at hfin
  have HF := Lib.hid hfin
  clear hfin hrun hle hmax hbk
  go_enter Try.func72, Try.ntmps72
  go_wp2_with fail
  go_region
  all_goals (go_wp2_with fail; go_end0; exact ⟨rfl, HF.out⟩)

set_option maxRecDepth 100000 in
set_option maxHeartbeats 2000000 in
theorem buildGrow_any (B b n : Nat) (w : World) (hB : B ≤ b) (hbk : w.heap[b]? = some (.cells #[.pointer none, .slice none 0 0] 105 (0, 0))) (hBw : B ≤ w.heap.size) (hn : n ≤ 281474976710656) :
    Calls Try.prog 61 #[.pointer (some ⟨b, 0, none⟩), .int .i64 n] w fun e w' => e = .returned (.tuple #[]) ∧ BuildG B b [] w' ∧ Below B w w' := by
  have hbk1 : (w.setCell ⟨b, 0, none⟩ (.pointer (some ⟨b, 0, none⟩))).heap[b]? = some (.cells #[.pointer (some ⟨b, 0, none⟩), .slice none 0 0] 105 (0, 0)) := by
    simp [World.setCell, Array.getElem?_modify, hbk]
  have HC := Lib.hid (check_fresh b w (by rw [Lib.cell_of_heap hbk]; rfl) (by simp [World.shape?, hbk]) (Lib.frozen_of_heap hbk 0))
  have hb1 : Below B w (w.setCell ⟨b, 0, none⟩ (.pointer (some ⟨b, 0, none⟩))) := (Below.refl B w).setCell (p := ⟨b, 0, none⟩) hB _
  have c1 : (w.setCell ⟨b, 0, none⟩ (.pointer (some ⟨b, 0, none⟩))).cell? ⟨b, 1, none⟩ = some (.slice none 0 0) := by rw [Lib.cell_of_heap hbk1]; rfl
  have hU : Lib.BuilderAt 105 5 B b (.pointer (some ⟨b, 0, none⟩)) [] (w.setCell ⟨b, 0, none⟩ (.pointer (some ⟨b, 0, none⟩))) := ⟨hB, .slice none 0 0, hbk1, World.ownsRow_nil _ _ _ _, by simp [Value.ownBlock]⟩
  have HZ := hb1.size
  have HU := Lib.hid (And.intro hU hb1)
  have HK := Lib.hid hbk1
  clear hb1 hU hbk hbk1
  go_enter Try.func61, Try.ntmps61
  go_wp2_with fail
  refine HC.out.mono ?_
  rintro e w1 ⟨rfl, hw1⟩
  rw [← hw1] at c1 HU HZ HK
  clear hw1 HC
  have c2 : w1.drew.cell? ⟨b, 1, none⟩ = some (.slice none 0 0) := c1
  have hn' : (n : Int) ≤ 281474976710656 := by omega
  have HG := Lib.hid (grow_fresh B b n w1.drew hB HK.out (by have : w1.drew.heap.size = w1.heap.size := rfl; omega) hn)
  have HE : Hid (BuildG B b [] w1.drew ∧ Below B w w1.drew) := Lib.hid ⟨HU.out.1.drew, HU.out.2.drew⟩
  by_cases h0 : 0 < n
  · have h0' : (0 : Int) < (n : Int) := by omega
    go_wp2_with fail
    go_region
    all_goals
      go_wp2_with fail
      refine HG.out.mono ?_
      rintro e w2 ⟨rfl, h1, h2⟩
      have HR : Hid (BuildG B b [] w2 ∧ Below B w w2) := Lib.hid ⟨h1, HE.out.2.trans h2⟩
      clear h1 h2
      go_wp2_with fail
      go_end0
      exact ⟨rfl, HR.out⟩
  · have h0' : ¬ (0 : Int) < (n : Int) := by omega
    go_wp2_with fail
    go_region
    all_goals
      go_wp2_with fail
      go_end0
      exact ⟨rfl, HE.out⟩

set_option maxRecDepth 100000 in
set_option maxHeartbeats 1000000 in
theorem buildWrite_any (B b : Nat) (l m : List UInt8) (A : Addr) (c : Nat) (w : World) (h : BuildG B b l w) (hm : ∀ j u, (bv m)[j]? = some u → w.cell? (A.add j) = some u) (hlen : l.length + m.length ≤ 140737488355328) (hBw : B ≤ w.heap.size) :
    Calls Try.prog 62 #[.pointer (some ⟨b, 0, none⟩), .slice (some A) m.length c] w fun e w' => e = .returned (.tuple #[.int .i64 m.length, .nilIface]) ∧ BuildG B b (l ++ m) w' ∧ Below B w w' := by
  obtain ⟨i0, hi, hz0, hz1, hz2⟩ := info_parts byteInfo
  have HC := Lib.hid (check_used b w h.cell0)
  obtain ⟨hB, v, hbk, hown, hne⟩ := h
  have c0 : w.cell? ⟨b, 0, none⟩ = some (.pointer (some ⟨b, 0, none⟩)) := by rw [Lib.cell_of_heap hbk]; rfl
  have c1 : w.cell? ⟨b, 1, none⟩ = some v := by rw [Lib.cell_of_heap hbk]; rfl
  obtain ⟨av, nv, cv, rfl⟩ : ∃ av nv cv, v = .slice av nv cv := by
    obtain ⟨a', c', e, -, -⟩ := own_form hown
    exact ⟨_, _, _, e⟩
  have HO := Lib.hid hown
  have HM := Lib.hid hm
  have HK := Lib.hid hbk
  clear hown hm hbk
  go_enter Try.func62, Try.ntmps62
  go_wp2_with fail
  refine HC.out.mono ?_
  rintro e w1 ⟨rfl, rfl⟩
  clear HC
  go_wp2_with (at_builtin; refine wpList_append_own _ rfl _ _ 84 rfl B 5 i0 _ 1 1 Try.underlying84 hi hz0 hz1 hz2 rfl (by decide) _ _ _ rfl HO.out A m.length c (bv m) rfl (by rw [bv_len, Nat.mul_one]) HM.out ?c2 ?c3 ?c4 ?c5 ?_)
  case c2 => exact bv_oneCell
  case c3 => rw [Lib.byteCells_length]; unfold maxLen; omega
  case c4 => rw [Lib.byteCells_length]; omega
  case c5 => omega
  intro v' w2 hown' hgrow _
  have hb2 : w2.heap[b]? = some (.cells #[.pointer (some ⟨b, 0, none⟩), .slice av nv cv] 105 (0, 0)) := blk_grown HK.out hgrow hne
  have d0 : w2.cell? ⟨b, 0, none⟩ = some (.pointer (some ⟨b, 0, none⟩)) := by rw [Lib.cell_of_heap hb2]; rfl
  have d1 : w2.cell? ⟨b, 1, none⟩ = some (.slice av nv cv) := by rw [Lib.cell_of_heap hb2]; rfl
  have f1 : w2.frozen? ⟨b, 1, none⟩ = false := Lib.frozen_of_heap hb2 1
  obtain ⟨ao, n', cap, rfl⟩ : ∃ ao n' cap, v' = .slice ao n' cap := by
    obtain ⟨a', c', e, -, -⟩ := own_form hown'
    exact ⟨_, _, _, e⟩
  have e : Lib.byteCells l ++ bv m = Lib.byteCells (l ++ m) := by rw [Lib.byteCells_append]; rfl
  have e2 : (Lib.byteCells l).length + m.length = (Lib.byteCells (l ++ m)).length := by rw [Lib.byteCells_length, Lib.byteCells_length]; simp
  rw [e, e2] at hown'
  have hput := Lib.BuilderAt.put (T := 105) (e := 5) hB hb2 hown' (by decide)
  have hbb := ((Below.refl B _).grown hgrow hBw (fun k hk => (HO.out.lt k hk).1)).setCell (p := ⟨b, 1, none⟩) hB (.slice ao n' cap)
  have HP := Lib.hid (And.intro hput hbb)
  clear hput hbb hown' hgrow hb2 HO HK HM
  go_wp2_with fail
  go_ret2
  exact ⟨rfl, HP.out.1, HP.out.2⟩

/-- what String does to the world: nothing but to a block of bytes, and new blocks -/
def Read (B : Nat) (w w' : World) : Prop := ∃ row, w.grownBy w' row ∧ ∀ q, row = some q → B ≤ q ∧ ∃ cs fz, w.heap[q]? = some (.cells cs 5 fz)
theorem Read.below {B : Nat} {w w' : World} (h : Read B w w') (hB : B ≤ w.heap.size) : Below B w w' := by
  obtain ⟨row, hg, hr⟩ := h
  exact (Below.refl B w).grown hg hB (fun q hq => (hr q hq).1)
theorem Read.own {B B' size n : Nat} {e : TypeId} {v : Value} {xs : List Value} {w w' : World} (h : Read B w w') (ho : w.ownsRow B' e size v n xs) (he : 5 ≠ e) : w'.ownsRow B' e size v n xs := by
  obtain ⟨row, hg, hr⟩ := h
  refine ho.kept hg ?_
  cases hv : v.ownBlock with
  | none => exact .inl rfl
  | some q =>
    refine .inr fun hq => ?_
    obtain ⟨-, cs, fz, hb⟩ := hr q hq.symm
    exact own_far ho hb he hv
theorem grown_drew {w w' : World} {row : Option Nat} (h : w.drew.grownBy w' row) : w.grownBy w' row := ⟨h.os, h.tape, h.output, h.size, h.block⟩
theorem grown_freeze (w : World) (g n : Nat) : w.grownBy (w.freeze ⟨g, 0, none⟩ n) (some g) := by
  unfold World.freeze
  split
  · exact World.grownBy.refl _ _
  · refine ⟨rfl, rfl, rfl, by simp, fun k _ hk => ?_⟩
    simp only [Array.getElem?_modify]
    rw [if_neg (fun e => hk (by rw [e]))]

set_option maxRecDepth 100000 in
set_option maxHeartbeats 1000000 in
theorem string_row (B b : Nat) (l : List UInt8) (w : World) (h : BuildG B b l w) (h0 : l ≠ []) :
    Calls Try.prog 64 #[.pointer (some ⟨b, 0, none⟩)] w fun e w' => e = .returned (.string ⟨l.toArray⟩) ∧ Read B w w' := by
  obtain ⟨hB, v, hbk, hown, hne⟩ := h
  have hl0 : l.length ≠ 0 := by simpa using h0
  rw [Lib.byteCells_length] at hown
  obtain ⟨g, cap, cur, rfl, hbg, hg, hnc, hcm, hcs, htake⟩ : ∃ g cap cur, v = .slice (some ⟨g, 0, none⟩) l.length cap ∧ B ≤ g ∧ w.heap[g]? = some (.cells cur 5 (0, 0)) ∧ l.length ≤ cap ∧ cap ≤ maxLen ∧ cur.size = cap * 1 ∧ cur.toList.take (l.length * 1) = Lib.byteCells l := by
    rcases hown.2 with ⟨_, hz⟩ | ⟨g, cap, cur, hv, r⟩
    · exact absurd hz hl0
    · exact ⟨g, cap, cur, hv, r⟩
  have c1 : w.drew.cell? ⟨b, 1, none⟩ = some (.slice (some ⟨g, 0, none⟩) l.length cap) := by
    have : w.drew.heap[b]? = some (.cells #[.pointer (some ⟨b, 0, none⟩), .slice (some ⟨g, 0, none⟩) l.length cap] 105 (0, 0)) := hbk
    rw [Lib.cell_of_heap this]; rfl
  have c0 : w.cell? ⟨b, 1, none⟩ = some (.slice (some ⟨g, 0, none⟩) l.length cap) := c1
  have hSD : (Builtin.unsafeSliceData_ #[84] 121 #[.slice (some ⟨g, 0, none⟩) l.length cap]).run Try.prog w.drew = .ok (.pointer (some ⟨g, 0, none⟩)) w.drew :=
    Lib.run_unsafeSliceData_row _ _ _ _ _ _ (by omega)
  have hUS : (Builtin.unsafeString_ #[121, 3] 9 #[.pointer (some ⟨g, 0, none⟩), .int .i64 l.length]).run Try.prog w.drew = .ok (.string ⟨l.toArray⟩) (w.drew.freeze ⟨g, 0, none⟩ l.length) := by
    refine Lib.run_unsafeString_row w.drew 121 3 9 5 Try.underlying121 (by kernel_rfl) g cur.size (by have hg' : w.drew.heap[g]? = some (.cells cur 5 (0, 0)) := hg; simp [World.shape?, hg']) l h0 (by omega) (by unfold maxLen at hcm; omega) ?_
    intro j x hx
    exact hown.cells (g := g) rfl j (.int .u8 x.toNat) (by simp [Lib.byteCells, hx])
  have HR : Hid (Read B w (w.drew.freeze ⟨g, 0, none⟩ l.length)) := Lib.hid ⟨some g, grown_drew (grown_freeze w.drew g l.length), fun q hq => by cases hq; exact ⟨hbg, cur, (0, 0), hg⟩⟩
  clear hg hbk hown htake
  go_enter Try.func64, Try.ntmps64
  go_wp2_with fail
  go_region
  all_goals (go_wp2_with fail; go_ret; exact ⟨rfl, HR.out⟩)

set_option maxRecDepth 100000 in
set_option maxHeartbeats 1000000 in
theorem string_nil (B b : Nat) (p : Value) (w : World) (hbk : w.heap[b]? = some (.cells #[p, .slice none 0 0] 105 (0, 0))) :
    Calls Try.prog 64 #[.pointer (some ⟨b, 0, none⟩)] w fun e w' => e = .returned (.string ⟨#[]⟩) ∧ Read B w w' := by
  have hUS : ∀ (W : World) q, (Builtin.unsafeString_ #[121, 3] 9 #[.pointer q, .int .i64 0]).run Try.prog W = .ok (.string .empty) W := fun W q => Lib.run_unsafeString_none W _ _ _ q
  have c1 : w.drew.cell? ⟨b, 1, none⟩ = some (.slice none 0 0) := by
    have : w.drew.heap[b]? = some (.cells #[p, .slice none 0 0] 105 (0, 0)) := hbk
    rw [Lib.cell_of_heap this]; rfl
  have c0 : w.cell? ⟨b, 1, none⟩ = some (.slice none 0 0) := c1
  have hSD : (Builtin.unsafeSliceData_ #[84] 121 #[.slice none 0 0]).run Try.prog w.drew = .ok (.pointer none) w.drew := rfl
  have HR : Hid (Read B w w.drew) := Lib.hid ⟨none, grown_drew (World.grownBy.refl _ _), fun q hq => by cases hq⟩
  clear hbk
  go_enter Try.func64, Try.ntmps64
  go_wp2_with fail
  go_region
  all_goals (go_wp2_with fail; go_ret; exact ⟨rfl, HR.out⟩)

set_option maxRecDepth 100000 in
set_option maxHeartbeats 1000000 in
theorem string_noroom (B b g : Nat) (p : Value) (cur : Array Value) (w : World) (hbk : w.heap[b]? = some (.cells #[p, .slice (some ⟨g, 0, none⟩) 0 0] 105 (0, 0))) (hg : w.heap[g]? = some (.cells cur 5 (0, 0))) :
    Calls Try.prog 64 #[.pointer (some ⟨b, 0, none⟩)] w fun e w' => e = .returned (.string ⟨#[]⟩) ∧ Read B w w' := by
  have hUS : ∀ (W : World) q, (Builtin.unsafeString_ #[121, 3] 9 #[.pointer q, .int .i64 0]).run Try.prog W = .ok (.string .empty) W := fun W q => Lib.run_unsafeString_none W _ _ _ q
  have hlt : b < w.heap.size := blk_lt hbk
  have c1 : w.drew.cell? ⟨b, 1, none⟩ = some (.slice (some ⟨g, 0, none⟩) 0 0) := by
    have : w.drew.heap[b]? = some (.cells #[p, .slice (some ⟨g, 0, none⟩) 0 0] 105 (0, 0)) := hbk
    rw [Lib.cell_of_heap this]; rfl
  have hSD : (Builtin.unsafeSliceData_ #[84] 121 #[.slice (some ⟨g, 0, none⟩) 0 0]).run Try.prog w.drew = .ok (.pointer (some ⟨w.drew.heap.size, 0, none⟩)) (w.drew.alloc (.view ⟨g, 0, none⟩ 5)) :=
    Lib.run_unsafeSliceData_zero w.drew _ _ 5 Try.underlying121 ⟨g, 0, none⟩ 0 (5, cur.size) (by have hg' : w.drew.heap[g]? = some (.cells cur 5 (0, 0)) := hg; simp [World.shape?, hg'])
  have c2 : (w.drew.alloc (.view ⟨g, 0, none⟩ 5)).cell? ⟨b, 1, none⟩ = some (.slice (some ⟨g, 0, none⟩) 0 0) := by
    have : (w.drew.alloc (.view ⟨g, 0, none⟩ 5)).heap[b]? = _ := (Lib.alloc_old w.drew _ b hlt).trans hbk
    rw [Lib.cell_of_heap this]; rfl
  have c3 : (w.alloc (.view ⟨g, 0, none⟩ 5)).drew.cell? ⟨b, 1, none⟩ = some (.slice (some ⟨g, 0, none⟩) 0 0) := c2
  have c0 : w.cell? ⟨b, 1, none⟩ = some (.slice (some ⟨g, 0, none⟩) 0 0) := c1
  have HR : Hid (Read B w (w.alloc (.view ⟨g, 0, none⟩ 5)).drew) := Lib.hid ⟨none, ⟨rfl, rfl, rfl, by simp, fun k hk _ => Lib.alloc_old w _ k hk⟩, fun q hq => by cases hq⟩
  clear hg hbk
  go_enter Try.func64, Try.ntmps64
  go_wp2_with fail
  go_region
  all_goals (go_wp2_with fail; go_ret; exact ⟨rfl, HR.out⟩)

set_option maxRecDepth 100000 in
set_option maxHeartbeats 1000000 in
theorem string_room (B b g cap : Nat) (p : Value) (w : World) (hc0 : cap ≠ 0) (hbk : w.heap[b]? = some (.cells #[p, .slice (some ⟨g, 0, none⟩) 0 cap] 105 (0, 0))) :
    Calls Try.prog 64 #[.pointer (some ⟨b, 0, none⟩)] w fun e w' => e = .returned (.string ⟨#[]⟩) ∧ Read B w w' := by
  have hUS : ∀ (W : World) q, (Builtin.unsafeString_ #[121, 3] 9 #[.pointer q, .int .i64 0]).run Try.prog W = .ok (.string .empty) W := fun W q => Lib.run_unsafeString_none W _ _ _ q
  have c1 : w.drew.cell? ⟨b, 1, none⟩ = some (.slice (some ⟨g, 0, none⟩) 0 cap) := by
    have : w.drew.heap[b]? = some (.cells #[p, .slice (some ⟨g, 0, none⟩) 0 cap] 105 (0, 0)) := hbk
    rw [Lib.cell_of_heap this]; rfl
  have c0 : w.cell? ⟨b, 1, none⟩ = some (.slice (some ⟨g, 0, none⟩) 0 cap) := c1
  have hSD : (Builtin.unsafeSliceData_ #[84] 121 #[.slice (some ⟨g, 0, none⟩) 0 cap]).run Try.prog w.drew = .ok (.pointer (some ⟨g, 0, none⟩)) w.drew :=
    Lib.run_unsafeSliceData_row _ _ _ _ _ _ hc0
  have HR : Hid (Read B w w.drew) := Lib.hid ⟨none, grown_drew (World.grownBy.refl _ _), fun q hq => by cases hq⟩
  clear hc0 hbk
  go_enter Try.func64, Try.ntmps64
  go_wp2_with fail
  go_region
  all_goals (go_wp2_with fail; go_ret; exact ⟨rfl, HR.out⟩)

/-- String, with what it does to the world -/
theorem stringRead_any (B b : Nat) (l : List UInt8) (w : World) (h : BuildG B b l w) :
    Calls Try.prog 64 #[.pointer (some ⟨b, 0, none⟩)] w fun e w' => e = .returned (.string ⟨l.toArray⟩) ∧ Read B w w' := by
  cases l with
  | cons x r => exact string_row B b (x :: r) w h (by simp)
  | nil =>
    obtain ⟨hB, v, hbk, hown, hne⟩ := h
    rcases hown.2 with ⟨rfl, _⟩ | ⟨g, cap, cur, rfl, hbg, hg, _, _, _, _⟩
    · exact string_nil B b _ w hbk
    · by_cases hc0 : cap = 0
      · subst hc0
        exact string_noroom B b g _ cur w hbk hg
      · exact string_room B b g cap _ w hc0 hbk
end Go.Proofs.Ytngjpgdgipmieaa
/- Maps of the call's own, whatever their elements: the law of a literal's store, a lookup with its second result, what a kept heap keeps. No program is imported. -/
namespace Go.Proofs.Ytngjpgdgipmieaa
open Go.ChangeMaps Go.MapKept Go.RowKit
open Go.WideElems (Fit rd rg pl)
open Go.Maps (Keyed)

/-- a store of a map literal -/
theorem lit_insert {H : Type} {P : Program} (w : World) {ops : Array Oper} {rest : List Oper} {o : Oper} {a : Act} {Q : Exit → Act → World → Prop}
    (hg : o.guard = none) (m x v : Operand) (t : TypeId) (hop : o.op = Op.insert t m x v)
    (k e : TypeId) (K : Keyed P k) (ht : P.underlying t = some (.map k e)) (R : Value → Option (DataW H × List MemPlace)) (b n : Nat) (D : DataW H)
    (hm : a.eval m = .map (some b)) (hown : w.ownsMap P k R b n D) (hn : n < maxLen) (key val : Value) (kl : Lit) (hx : a.eval x = key) (hv : a.eval v = val) (hkey : keyOf P k key = some kl)
    (d : DataW H) (ps : List MemPlace) (hval : R val = some (d, ps))
    (hK : ∀ w', w'.ownsMap P k R b (n + 1) (D.put kl d) → w.grownBy w' (some b) → wpList P ops Q rest (a.put o.dst undef) w') :
    wpList P ops Q (o :: rest) a w := by
  refine wpList_plain hg fun K' hK' => ?_
  obtain ⟨w', hrun, r1, r2⟩ := hown.update K ht hn hkey hval
  unfold Oper.wp
  simp [execOp, hop, hm, hx, hv, hrun, Result.andThen]
  exact hK' _ _ (hK w' r1 r2)

section
variable {H : Type} {P : Program} {k : TypeId} {R : Value → Option (DataW H × List MemPlace)} {w : World} {b n : Nat} {D : DataW H}
theorem own_look_ok {t e : TypeId} (h : w.ownsMap P k R b n D) (K : Keyed P k) (ht : P.underlying t = some (.map k e)) {z : Value} (hz : (zeroValue e).run P w = .ok z w)
    {key : Value} {kl : Lit} (hkey : keyOf P k key = some kl) :
    (Maps.has D kl = false ∧ (Instr.lookup t (.map (some b)) key true).run P w = .ok (.tuple #[z, .bool false]) w) ∨
    ∃ v y, Maps.has D kl = true ∧ (Instr.lookup t (.map (some b)) key true).run P w = .ok (.tuple #[v, .bool true]) w ∧ R v = some y ∧ ∀ zd, D.atKey kl zd = y.1 := by
  obtain ⟨es, clock, hb, F, _, rfl⟩ := h
  rcases Maps.fit_look true K ht hz hb F hkey with ⟨hrun, _, hat⟩ | ⟨e0, y, _, _, hrun, hRv, hat, _⟩
  · exact .inl ⟨Maps.has_false_of_atKey hat, hrun⟩
  · exact .inr ⟨e0.val, y, Maps.has_true_of_atKey hat, hrun, hRv, hat⟩
theorem own_map_keep {w' : World} (h : w.ownsMap P k R b n D) (hk : w'.heap[b]? = w.heap[b]?) : w'.ownsMap P k R b n D := by
  obtain ⟨es, clock, hb, rest⟩ := h
  exact ⟨es, clock, hk.trans hb, rest⟩
theorem own_map_below {w' : World} {B : Nat} (h : w.ownsMap P k R b n D) (hb : Below B w w') (hB : b < B) : w'.ownsMap P k R b n D :=
  own_map_keep h (hb.block b hB)
end
end Go.Proofs.Ytngjpgdgipmieaa
