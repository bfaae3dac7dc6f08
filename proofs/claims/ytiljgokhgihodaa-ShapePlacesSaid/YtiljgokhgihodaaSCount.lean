/- The walks of layer 5: a place's number, by contract, for what is a place. -/
import Derived.Test.YtiljgokhgihodaaSPlace
import Derived.BigQuiet
namespace Go.Proofs.Ytiljgokhgihodaa
open Go.RowKit M5

theorem cn_step {l p : List Int} {k : Nat} (hk : k < l.length) (hk2 : k < p.length) (n : Int) : cn n (l.drop k) (p.drop k) = cn (n * l[k] + p[k]) (l.drop (k + 1)) (p.drop (k + 1)) := by
  rw [List.drop_eq_getElem_cons hk, List.drop_eq_getElem_cons hk2, cn]
theorem win_drop : ∀ {l p : List Int} (k : Nat), Win l p → Win (l.drop k) (p.drop k)
  | [], [], k, h => by simp [Win]
  | d :: l, x :: p, 0, h => h
  | d :: l, x :: p, k + 1, h => by simpa using win_drop k h.2
  | [], _ :: _, _, h => h.elim
  | _ :: _, [], _, h => h.elim

set_option maxRecDepth 100000 in
theorem within_any (A B : Option Addr) (c d : Nat) (l p : List Int) (w : World) (hs : Shp l) (hw : Win l p) (ha : SR w w.heap.size 1 A l.length (iv l)) (hp : SR w w.heap.size 1 B p.length (iv p)) :
    Calls Try.prog 22 #[.slice A l.length c, .slice B p.length d] w fun e w' => e = .returned (.bool true) ∧ Below w.heap.size w w' := by
  have hl8 := hs.len
  have HS := Lib.hid (shSize_any A c l w (by unfold maxLen; omega) ha (fun x hx => by have := hs.lo x hx; have := hs.hi x hx; unfold I64; omega))
  rw [sz_ok hs] at HS
  have hpl := win_len hw
  have HW := Lib.hid (win_at hw)
  have hl8' : (l.length : Int) ≤ 8 := by omega
  have hne : ((p.length : Int) != (l.length : Int)) = false := by simp; omega
  clear hs hw
  go_enter Try.func22, Try.ntmps22
  go_wp2_with fail
  refine HS.out.mono ?_
  rintro en w1 ⟨rfl, rfl⟩
  go_wp2_with fail
  clear HS
  go_loopw [7, 24] (fun _ i wr => ∃ (k : Nat) (K : Int), i = .int .i64 K ∧ K = (k : Nat) ∧ k ≤ l.length ∧ Below w.heap.size w wr) (fun _ i _ => l.length - (intOf i).toNat)
  case atStart => exact ⟨0, _, rfl, rfl, by omega, Below.refl _ _⟩
  case round =>
    obtain ⟨k, K, rfl, rfl, hk, hbw⟩ := hrel
    by_cases hlt : k < l.length
    · have hlt2 : k < p.length := by omega
      obtain ⟨b1, o1, rfl, hb1, x0⟩ := int_at (ha.below hbw) hlt
      obtain ⟨b2, o2, rfl, hb2, y0⟩ := int_at (hp.below hbw) hlt2
      obtain ⟨hv0, hv1⟩ := HW.out k hlt hlt2
      have HB := Lib.hid hbw
      clear ha hp hbw HW
      generalize l[k] = u at *
      generalize p[k] = v at *
      have h1 : decide (v < 0) = false := decide_eq_false (by omega)
      have h2 : decide (u ≤ v) = false := decide_eq_false (by omega)
      go_wp2_with fail
      go_quiet (fail)
      go_wp2_with fail
      go_roundw
      case rel => exact ⟨k + 1, _, rfl, by omega, by omega, below_drewN HB.out _⟩
      case measure => simp [intOf]; omega
    · obtain rfl : k = l.length := by omega
      go_wp2_with fail
      go_ret
      exact ⟨rfl, hbw⟩

set_option maxRecDepth 100000 in
theorem shCount_any (A B : Option Addr) (c d : Nat) (l p : List Int) (w : World) (hs : Shp l) (hw : Win l p) (hmax : cn 0 l p ≤ 65536) (ha : SR w w.heap.size 1 A l.length (iv l)) (hp : SR w w.heap.size 1 B p.length (iv p)) :
    Calls Try.prog 15 #[.slice A l.length c, .slice B p.length d] w fun e w' => e = .returned (.int .i64 (cn 0 l p)) ∧ Below w.heap.size w w' := by
  have hl8 := hs.len
  have HS := Lib.hid (within_any A B c d l p w hs hw ha hp)
  have HPL := Lib.hid (win_len hw)
  have HW := Lib.hid (win_at hw)
  have HWD := Lib.hid (fun k => win_drop k hw)
  have HU := Lib.hid (fun x hx => hs.hi x hx)
  have hl8' : (l.length : Int) ≤ 8 := by omega
  have HX := Lib.hid hmax
  clear hs hw hmax
  go_enter Try.func15, Try.ntmps15
  go_wp2_with fail
  refine HS.out.mono ?_
  rintro en w1 ⟨rfl, hb1⟩
  have HB1 := Lib.hid hb1
  clear hb1 HS
  go_wp2_with fail
  go_loopw [5, 6, 13] (fun s _ i wr => ∃ (k : Nat) (K S : Int), i = .int .i64 K ∧ K = (k : Nat) ∧ k ≤ l.length ∧ s = .int .i64 S ∧ 0 ≤ S ∧ cn 0 l p = cn S (l.drop k) (p.drop k) ∧ Below w.heap.size w wr) (fun _ _ i _ => l.length - (intOf i).toNat)
  case atStart => exact ⟨0, _, _, rfl, rfl, by omega, rfl, by omega, by simp, HB1.out⟩
  case round =>
    obtain ⟨k, K, S, rfl, rfl, hk, rfl, hS, hcn, hbw⟩ := hrel
    have hge := cn_ge (HWD.out k) hS
    rw [← hcn] at hge
    have hmax := HX.out
    by_cases hlt : k < l.length
    · have hlt2 : k < p.length := by rw [HPL.out]; exact hlt
      obtain ⟨b1, o1, rfl, hb1, x0⟩ := int_at (ha.below hbw) hlt
      obtain ⟨b2, o2, rfl, hb2, y0⟩ := int_at (hp.below hbw) hlt2
      obtain ⟨hv0, hv1⟩ := HW.out k hlt hlt2
      have hu1 := HU.out l[k] (List.getElem_mem hlt)
      rw [cn_step hlt hlt2] at hcn
      have HB := Lib.hid hbw
      have HC := Lib.hid hcn
      clear ha hp hbw HW hcn HB1 HU HWD
      generalize l[k] = u at *
      generalize p[k] = v at *
      generalize cn 0 l p = N at *
      have hm0 : 0 ≤ S * u := Int.mul_nonneg hS (by omega)
      have hm1 : S * u ≤ 65536 * 65536 := Int.mul_le_mul (by omega) (by omega) (by omega) (by omega)
      go_wp2_with fail
      go_quiet (fail)
      go_wp2_with fail
      go_roundw
      case rel => exact ⟨k + 1, _, _, rfl, by omega, by omega, rfl, by omega, HC.out, below_drewN HB.out _⟩
      case measure => simp [intOf]; omega
    · obtain rfl : k = l.length := by omega
      rw [List.drop_length, ← HPL.out, List.drop_length] at hcn
      have hcn : cn 0 l p = S := hcn
      have HC := Lib.hid hcn
      clear hcn hge hmax
      go_wp2_with fail
      go_ret
      rw [HC.out]
      exact ⟨rfl, hbw⟩
end Go.Proofs.Ytiljgokhgihodaa
