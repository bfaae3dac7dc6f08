/- The walks of the law's Awake and same. -/
import Derived.Test.YtiniicehfjgpgaaGreatNPutP
import Derived.Test.YtiniicehfjgpgaaGreatMEach
import Derived.Test.YtiniicehfjgpgaaGreatMAwake
import Derived.Test.YtiniicehfjgpgaaGreatPSame
namespace Go.Proofs.YtiniicehfjgpgaaGreat
open Go.RowKit M1 M2 M3 M9 M10 M11 Go.Sort
open M7 (nm)

/-- the node of the example -/
def exN11 : Nod := ⟨⟨#[78, 101, 103]⟩, [⟨#[120]⟩], ⟨#[121]⟩, []⟩
theorem exN11_put : wrN exN11 = ⟨#[10, 1, 120, 18, 1, 121, 34, 3, 78, 101, 103]⟩ := by decide +kernel
theorem exN11_at (w : World) : NodAt (w.heap.size + 1) (w.alloc (.cells #[.string ⟨#[120]⟩] 9)) exN11 [.string ⟨#[78, 101, 103]⟩, .slice (some ⟨w.heap.size, 0, none⟩) 1 1, .string ⟨#[121]⟩, .slice none 0 0] :=
  ⟨some ⟨w.heap.size, 0, none⟩, 1, none, 0, rfl, SR.lit w [.string ⟨#[120]⟩] 9 rfl, DR.empty _ _ _, ⟨by decide, by decide, by simp [exN11]; decide, by simp [exN11], by simp [exN11]⟩⟩
theorem exN11_sm : NSm exN11 := ⟨by decide, by decide, by decide, by decide, by simp [exN11]; decide, by simp [exN11]⟩

set_option maxRecDepth 100000 in
theorem nawake_any (w : World) : Calls Tryz.prog 5 #[] w fun e w' => e = .returned (.bool true) ∧ Below w.heap.size w w' := by
  go_enter Tryz.func5, Tryz.ntmps5
  go_wp2_with fail
  refine (pawake_any _).mono ?_
  rintro e w1 ⟨rfl, hb1⟩
  have HB1 := Lib.hid hb1
  clear hb1
  go_wp2_with fail
  refine (mawake_any _).mono ?_
  rintro e w2 ⟨rfl, hb2⟩
  have HB2 := Lib.hid (HB1.out.trans (hb2.mono HB1.out.size))
  clear hb2 HB1
  have hz : (w2.alloc (.cells #[.string ⟨#[120]⟩] 9)).heap.size = w2.heap.size + 1 := by simp
  have HP := Lib.hid (putNode_any exN11 _ (w2.alloc (.cells #[.string ⟨#[120]⟩] 9)) (by rw [hz]; exact exN11_at w2) exN11_sm)
  rw [exN11_put] at HP
  clear hz
  go_wp2_with fail
  refine HP.out.mono ?_
  rintro e w3 ⟨rfl, hb3⟩
  have HB3 := Lib.hid (HB2.out.trans ((step_below ((Below.refl w2.heap.size w2).alloc (Nat.le_refl _) (.cells #[.string ⟨#[120]⟩] 9)) hb3).mono HB2.out.size))
  clear hb3 HP
  go_wp2_with fail
  go_ret
  exact ⟨rfl, HB3.out⟩

set_option maxRecDepth 100000 in
theorem same11_any (i : Inf) (ci cj : List Value) (w : World) (hi : InfAt w.heap.size w i ci) (hj : InfAt w.heap.size w i cj) :
    Calls Tryz.prog 12 #[.agg ci.toArray, .agg cj.toArray] w fun e w' => e = .returned (.bool true) ∧ Below w.heap.size w w' := by
  obtain ⟨A, c, rfl, hs, ok⟩ := hi
  obtain ⟨B, d, rfl, hs2, -⟩ := hj
  have HX1 := Lib.hid ((Bx.start w #[.string i.name, .int .i64 i.kind, .slice A i.dims.length c] 42).more (.cells #[.string i.name, .int .i64 i.kind, .slice B i.dims.length d] 42))
  have HX2 := Lib.hid (Bx.two w (.cells #[.string i.name, .int .i64 i.kind, .slice A i.dims.length c] 42) #[.string i.name, .int .i64 i.kind, .slice B i.dims.length d] 42)
  have HC := Lib.hid (fun W (h : Below w.heap.size w W) => (by have q := rints10_any A B c d i.dims i.dims W (by have := ok.len; unfold maxLen; omega) ((hs.below h).more h.size) ((hs2.below h).more h.size); rwa [show decide (i.dims = i.dims) = true from decide_eq_true rfl] at q : Calls Tryz.prog 40 #[.slice A i.dims.length c, .slice B i.dims.length d] W fun e w' => e = .returned (.bool true) ∧ Below W.heap.size W w'))
  obtain ⟨x0, x1, x2⟩ := HX1.out.three
  obtain ⟨y0, y1, y2⟩ := HX2.out.three
  have e1 := teq_yes (rfl : i.name = i.name)
  clear hs hs2 ok
  go_enter Tryz.func12, Tryz.ntmps12
  go_wp2_with fail
  refine (HC.out _ HX1.out.all).mono ?_
  rintro e w1 ⟨rfl, hb1⟩
  have HX3 := Lib.hid (HX1.out.below hb1)
  clear hb1 x0 x1 x2 y0 y1 y2
  go_wp2_with fail
  go_ret
  exact ⟨rfl, HX3.out.all⟩
/-- the infos of one info: its one element -/
theorem rr_one {w : World} {B : Nat} {v : Value} {i : Inf} (h : RR InfAt w B 42 3 v [i]) :
    ∃ g c A k, v = .slice (some ⟨g, 0, none⟩) 1 c ∧ w.cell? ⟨g, 0, none⟩ = some (.string i.name) ∧ w.cell? ⟨g, 1, none⟩ = some (.int .i64 i.kind) ∧ w.cell? ⟨g, 2, none⟩ = some (.slice A i.dims.length k) ∧ InfAt B w i [.string i.name, .int .i64 i.kind, .slice A i.dims.length k] := by
  obtain ⟨css, hal, hcl, hown⟩ := h
  obtain ⟨g, c, cur, rfl, -, -⟩ := own_addr hown (by simp)
  match css, hal with
  | [cs], hal =>
    obtain ⟨A, k, rfl⟩ := InfAt.shape hal.1
    exact ⟨g, c, A, k, rfl, hown.cellAt 0 (by simp), hown.cellAt 1 (by simp), hown.cellAt 2 (by simp), hal.1⟩
/-- a literal of one info -/
theorem dr_lit (w : World) (i : Inf) (A : Option Addr) (k : Nat) (T : TypeId) (h : InfAt w.heap.size w i [.string i.name, .int .i64 i.kind, .slice A i.dims.length k]) :
    DR InfAt (w.alloc (.cells #[.string i.name, .int .i64 i.kind, .slice A i.dims.length k] T)) (w.heap.size + 1) 3 (some ⟨w.heap.size, 0, none⟩) [i] :=
  ⟨[[.string i.name, .int .i64 i.kind, .slice A i.dims.length k]], ⟨ek_inf.more (ek_inf.below h ((Below.refl _ _).alloc (Nat.le_refl _) _)) (Nat.le_succ _), trivial⟩, SR.lit w _ T rfl⟩
end Go.Proofs.YtiniicehfjgpgaaGreat
