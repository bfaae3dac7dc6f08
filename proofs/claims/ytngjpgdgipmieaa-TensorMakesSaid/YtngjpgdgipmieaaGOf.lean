/- The walk of the document's Of. -/
import Derived.Test.YtngjpgdgipmieaaGRefTwo
namespace Go.Proofs.Ytngjpgdgipmieaa
open Go.RowKit M6
set_option maxRecDepth 100000 in
theorem of_any (a b : Int) (w : World) :
    Calls Try.prog 21 #[.agg #[.int .i64 a, .int .i64 b]] w fun e w' => e = .returned (.complex .f64 (fz a) (fz b)) ∧ Below w.heap.size w w' := by
  have hs : (Try.prog.underlying 2).isSome = true := by kernel_rfl
  have hd : Try.prog.underlying 82 = some (.float .f64) := by kernel_rfl
  have hc : ∀ (n : Int) (W : World), (convert 2 82 (.int .i64 n)).run Try.prog W = .ok (.float .f64 (fz n)) W := fun n W => run_convert_int_float W _ _ _ _ n hs hd
  clear hs hd
  go_enter Try.func21, Try.ntmps21
  go_wp2_with fail
  go_ret
  exact ⟨rfl, (Below.refl _ _).alloc (Nat.le_refl _) _⟩
end Go.Proofs.Ytngjpgdgipmieaa
