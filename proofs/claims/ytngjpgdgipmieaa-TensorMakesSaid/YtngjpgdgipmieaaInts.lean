/- Rows of int64 numbers: as cells, element by element, as a result beside a code. -/
import Derived.Test.YtngjpgdgipmieaaRow
import Derived.Test.YtngjpgdgipmieaaOpenRow
import Derived.Test.YtngjpgdgipmieaaRows
namespace Go.Proofs.Ytngjpgdgipmieaa
open Go.RowKit Go.ChangeShapes Go.WideShapes

def iv (l : List Int) : List Value := l.map (Value.int .i64)
theorem iv_len (l : List Int) : (iv l).length = l.length := by simp [iv]
theorem iv_append (a b : List Int) : iv (a ++ b) = iv a ++ iv b := by simp [iv]
theorem iv_oneCell {l : List Int} : ∀ u ∈ iv l, u.oneCell' = true := by
  intro u hu; simp only [iv, List.mem_map] at hu; obtain ⟨b, _, rfl⟩ := hu; rfl
theorem cell_at {w : World} {B : Nat} {A : Option Addr} {n : Nat} {xs : List Value} (h : SR w B 1 A n xs) {k : Nat} (hk : k < n) {u : Value} (hu : xs[k]? = some u) :
    ∃ b o, A = some ⟨b, o, none⟩ ∧ b < B ∧ w.cell? ⟨b, o + k, none⟩ = some u := by
  obtain ⟨b, o, hA, hb, hc⟩ := h.at_ hk
  refine ⟨b, o, hA, hb, ?_⟩
  have := hc 0 (by omega) u (by simpa using hu)
  simpa using this
theorem int_at {w : World} {B : Nat} {A : Option Addr} {l : List Int} (h : SR w B 1 A l.length (iv l)) {k : Nat} (hk : k < l.length) :
    ∃ b o, A = some ⟨b, o, none⟩ ∧ b < B ∧ w.cell? ⟨b, o + k, none⟩ = some (.int .i64 l[k]) := cell_at h hk (by simp [iv, hk])
theorem infoInt64 : (Try.prog.info? 2).map (fun i => (i.zero, i.size, i.bytes)) = some (some (.int .i64 0), 1, 8) := by kernel_rfl
/-- what a call gives that ends a row, or an error: a slice of its own, and a code -/
def RowRes (B : Nat) (r : List Int × Nat) (w : World) (e : Ending) (w' : World) : Prop :=
  ∃ v, e = .returned (.tuple #[v, .int .i64 (r.2 : Int)]) ∧ w'.ownsRow B 2 1 v r.1.length (iv r.1) ∧ Below B w w'
/-- .. and without a code -/
def IntsRes (B : Nat) (r : List Int) (w : World) (e : Ending) (w' : World) : Prop :=
  ∃ v, e = .returned v ∧ w'.ownsRow B 2 1 v r.length (iv r) ∧ Below B w w'
/-- a number of 64 bits -/
def I64 (n : Int) : Prop := -9223372036854775808 ≤ n ∧ n ≤ 9223372036854775807
section
variable {H : Type} {enc : TypeId × Value → H} {w : World} {base : Nat} {spare : Nat → Bool} {held : Bool}
theorem open_ints64 {t : TypeId} {v : Value} {d : DataW H} {p : List MemPlace} (ht : Try.prog.underlying t = some (.slice 2)) (h : DataW.Trod enc Try.prog w base spare held t v d p) (hv : ∃ a l c, v = .slice a l c) :
    ∃ (A : Option Addr) (c : Nat) (l : List Int), v = .slice A l.length c ∧ SR w w.heap.size 1 A l.length (iv l) ∧ l.length ≤ maxLen ∧ ∀ n ∈ l, I64 n :=
  open_row1 (Value.int .i64) I64 ht (by kernel_rfl) (fun n v x hx => by
    obtain ⟨a, e, -, hw⟩ := DataW.trod_int Try.underlying2 hx
    simp only [List.cons.injEq, and_true] at e
    exact ⟨a, e, bounds_i64 hw⟩) h hv
theorem open_ints64c {t : TypeId} {v : Value} {d : DataW H} {p : List MemPlace} (ht : Try.prog.underlying t = some (.slice 2)) (h : DataW.Trod enc Try.prog w base spare held t v d p) (hv : ∃ a l c, v = .slice a l c) :
    ∃ (A : Option Addr) (c : Nat) (l : List Int), v = .slice A l.length c ∧ SR w w.heap.size 1 A l.length (iv l) ∧ l.length ≤ c ∧ c ≤ maxLen ∧ (A = none → l.length = 0 ∧ c = 0) ∧ ∀ n ∈ l, I64 n :=
  open_row1c (Value.int .i64) I64 ht (by kernel_rfl) (fun n v x hx => by
    obtain ⟨a, e, -, hw⟩ := DataW.trod_int Try.underlying2 hx
    simp only [List.cons.injEq, and_true] at e
    exact ⟨a, e, bounds_i64 hw⟩) h hv
end
end Go.Proofs.Ytngjpgdgipmieaa
