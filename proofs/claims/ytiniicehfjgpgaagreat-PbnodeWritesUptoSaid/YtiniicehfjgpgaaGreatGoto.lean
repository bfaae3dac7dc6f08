/- A body with a label to which it jumps back: what holds at every pass, and a measure. No program is imported. -/
import Derived.ScopeJumps
import Derived.WalkKit
import Derived.Lib.Hide
import Derived.Below
namespace Go.Proofs.YtiniicehfjgpgaaGreat
open Go.RowKit
section
variable {P : Program} {a : Act} {w : World} {Q : Exit → Act → World → Prop}

theorem wp_scope_back {c body : Code} (l : Nat) (J : Act → World → Prop) (μ : Act → World → Nat) (hf : findLabel c l = some (.seq .skip body))
    (start : Hid (∀ a w, J a w → body.wp P (Exit.jump l J Q) a w) → c.wp P (Exit.jump l J Q) a w)
    (pass : ∀ a w, J a w → body.wp P (Exit.jump l (fun a' w' => J a' w' ∧ μ a' w' < μ a w) Q) a w) : (Code.scope c).wp P Q a w := by
  refine wp_scope_jumps (rest := .seq .skip body) l J μ hf (start (Lib.hid ?_)) ?_
  · intro a w hJ
    refine wp_mono (pass a w hJ) ?_
    intro e a' w' h
    cases e <;> first | exact h | exact ⟨h.1, h.2.1⟩
  · intro a w hJ
    exact wp_seq (wp_skip (pass a w hJ))
end
end Go.Proofs.YtiniicehfjgpgaaGreat
