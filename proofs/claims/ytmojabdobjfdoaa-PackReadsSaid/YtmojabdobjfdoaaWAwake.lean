/- The walk of the example of layer 2. -/
import Derived.Test.YtmojabdobjfdoaaWAt
import Derived.Test.YtmojabdobjfdoaaWFields
import Derived.Test.YtmojabdobjfdoaaWMathTwo
import Derived.Test.YtmojabdobjfdoaaAwake
namespace Go.Proofs.Ytmojabdobjfdoaa
open Go.RowKit M1 M2

theorem ex_fields : fields ⟨#[8, 150, 1]⟩ = ([⟨1, 0, 150, ⟨#[]⟩⟩], 0) := by
  have h1 := flw_cat [⟨1, 0, 150, ⟨#[]⟩⟩] (fun f hf => by simp at hf; subst hf; exact ⟨by unfold Fits64; simp, by unfold Fits64; show (0 : Nat) < 18446744073709551616; omega⟩)
  have e1 : cat [⟨1, 0, 150, ⟨#[]⟩⟩] = ⟨#[8, 150, 1]⟩ := by decide +kernel
  have e2 : wanted [⟨1, 0, 150, ⟨#[]⟩⟩] = [⟨1, 0, 150, ⟨#[]⟩⟩] := by
    have hb : hasB ⟨1, 0, 150, ⟨#[]⟩⟩ = true := by decide +kernel
    simp [wanted, hb, norm]
  rw [e1, e2] at h1
  unfold fields
  rw [if_neg (by decide +kernel), h1]

set_option maxRecDepth 100000 in
theorem wawake_any (w : World) : Calls Try.prog 17 #[] w fun e w' => e = .returned (.bool true) ∧ Below w.heap.size w w' := by
  have hs : ByteArray.size ⟨#[8, 150, 1]⟩ = 3 := rfl
  have h1 := fields_any ⟨#[8, 150, 1]⟩ w (by rw [hs]; unfold maxLen; omega)
  rw [ex_fields] at h1
  have H1 := Lib.hid h1
  clear h1 hs
  go_enter Try.func17, Try.ntmps17
  go_wp2_with fail
  refine H1.out.mono ?_
  rintro e w1 ⟨v, rfl, hown, hb⟩
  obtain ⟨A, c, rfl, -, -⟩ := own_form hown
  have hsr := SR.of_own hown
  have HB := Lib.hid hb
  clear hown hb
  go_wp2_with fail
  refine (awake_any _).mono ?_
  rintro e w2 ⟨rfl, hb⟩
  obtain ⟨b, o, rfl, hlt, x0, x1, x2, x3⟩ := field_at (hsr.below hb) (k := 0) (by simp)
  simp at x0 x1 x2 x3
  have HB2 := Lib.hid (HB.out.trans (hb.mono HB.out.size))
  clear hsr hb
  go_wp2_with fail
  go_ret
  exact ⟨rfl, HB2.out⟩
end Go.Proofs.Ytmojabdobjfdoaa
