/- Layer 3: slices of int64 and of texts, element by element; the fields of a number behind a place. -/
import Derived.Test.YtmojabdobjfdoaaWAt
import Derived.Test.YtmojabdobjfdoaaPMath
namespace Go.Proofs.Ytmojabdobjfdoaa
open Go.RowKit M1 M2 M3

def iv (l : List Int) : List Value := l.map (Value.int .i64)
def tv (l : List ByteArray) : List Value := l.map Value.string
theorem iv_len (l : List Int) : (iv l).length = l.length := by simp [iv]
theorem tv_len (l : List ByteArray) : (tv l).length = l.length := by simp [tv]
theorem iv_append (a b : List Int) : iv (a ++ b) = iv a ++ iv b := by simp [iv]
theorem tv_append (a b : List ByteArray) : tv (a ++ b) = tv a ++ tv b := by simp [tv]
theorem iv_oneCell {l : List Int} : ∀ u ∈ iv l, u.oneCell' = true := by
  intro u hu; simp only [iv, List.mem_map] at hu; obtain ⟨b, _, rfl⟩ := hu; rfl
theorem tv_oneCell {l : List ByteArray} : ∀ u ∈ tv l, u.oneCell' = true := by
  intro u hu; simp only [tv, List.mem_map] at hu; obtain ⟨b, _, rfl⟩ := hu; rfl
theorem cell_at {w : World} {B : Nat} {A : Option Addr} {n : Nat} {xs : List Value} (h : SR w B 1 A n xs) {k : Nat} (hk : k < n) {u : Value} (hu : xs[k]? = some u) :
    ∃ b o, A = some ⟨b, o, none⟩ ∧ b < B ∧ w.cell? ⟨b, o + k, none⟩ = some u := by
  obtain ⟨b, o, hA, hb, hc⟩ := h.at_ hk
  refine ⟨b, o, hA, hb, ?_⟩
  have := hc 0 (by omega) u (by simpa using hu)
  simpa using this
theorem int_at {w : World} {B : Nat} {A : Option Addr} {l : List Int} (h : SR w B 1 A l.length (iv l)) {k : Nat} (hk : k < l.length) :
    ∃ b o, A = some ⟨b, o, none⟩ ∧ b < B ∧ w.cell? ⟨b, o + k, none⟩ = some (.int .i64 l[k]) := cell_at h hk (by simp [iv, hk])
theorem txt_at {w : World} {B : Nat} {A : Option Addr} {l : List ByteArray} (h : SR w B 1 A l.length (tv l)) {k : Nat} (hk : k < l.length) :
    ∃ b o, A = some ⟨b, o, none⟩ ∧ b < B ∧ w.cell? ⟨b, o + k, none⟩ = some (.string l[k]) := cell_at h hk (by simp [tv, hk])
theorem infoInt64 : (Try.prog.info? 2).map (fun i => (i.zero, i.size, i.bytes)) = some (some (.int .i64 0), 1, 8) := by kernel_rfl
theorem infoString : (Try.prog.info? 9).map (fun i => (i.zero, i.size, i.bytes)) = some (some (.string ⟨#[]⟩), 1, 16) := by kernel_rfl

theorem drop_yes {l : List WFd} {k : Nat} (h : k < l.length) {num : Int} (hn : l[k].num = num) : ofNum (l.drop k) num = l[k] :: ofNum (l.drop (k + 1)) num := by
  unfold ofNum; rw [List.drop_eq_getElem_cons h, List.filter_cons, if_pos (by simpa using hn)]
theorem drop_no {l : List WFd} {k : Nat} (h : k < l.length) {num : Int} (hn : l[k].num ≠ num) : ofNum (l.drop k) num = ofNum (l.drop (k + 1)) num := by
  unfold ofNum; rw [List.drop_eq_getElem_cons h, List.filter_cons, if_neg (by simpa using hn)]
theorem drop_end (l : List WFd) (num : Int) : ofNum (l.drop l.length) num = [] := by simp [ofNum]
/-- what a call gives that ends a row, or an error: a slice of its own, and a code -/
def RowRes (B : Nat) (r : List Int × Nat) (w : World) (e : Ending) (w' : World) : Prop :=
  ∃ v, e = .returned (.tuple #[v, .int .i64 (r.2 : Int)]) ∧ w'.ownsRow B 2 1 v r.1.length (iv r.1) ∧ Below B w w'
def TxtRes (B : Nat) (r : List ByteArray × Nat) (w : World) (e : Ending) (w' : World) : Prop :=
  ∃ v, e = .returned (.tuple #[v, .int .i64 (r.2 : Int)]) ∧ w'.ownsRow B 9 1 v r.1.length (tv r.1) ∧ Below B w w'
end Go.Proofs.Ytmojabdobjfdoaa
