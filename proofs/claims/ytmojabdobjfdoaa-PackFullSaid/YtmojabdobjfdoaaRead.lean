/- The walks of layer 1: both readings of a varint, by contract. -/
import Derived.Test.YtmojabdobjfdoaaRows
import Derived.Test.YtmojabdobjfdoaaMath
import Derived.Test.YtmojabdobjfdoaaKit
import Derived.Outline
import Derived.WalkSpells
import Derived.Test.YtmojabdobjfdoaaGoto
import Derived.ScopeJumps
import Derived.WalkMore
namespace Go.Proofs.Ytmojabdobjfdoaa
open Go.RowKit M1

set_option maxRecDepth 100000 in
theorem read_any (s : ByteArray) (w : World) (hs : s.size ≤ maxLen) :
    Calls Try.prog 31 #[.string s] w fun e w' => e = .returned (.tuple #[.int .u64 (rd s).1, .int .i64 (rd s).2.1, .int .i64 (rd s).2.2]) ∧ w = w' := by
  unfold maxLen at hs
  rw [rd_start]
  go_enter Try.func31, Try.ntmps31
  go_wp2
  refine wp_scope_back 0 (fun a' w' => w = w' ∧ ∃ (k x : Nat) (K X : Int) (u7 u8 u9 u10 u11 u12 u13 u14 u15 u16 u17 u18 u19 u20 u21 u22 u23 u24 u25 u26 u27 u28 u29 u30 u31 u32 u33 u34 u35 : Value), a' = { tmps := #[.string s, undef, .int .u64 0, .int .i64 0, .int .i64 0, .int .u64 X, .int .i64 K, u7, u8, u9, u10, u11, u12, u13, u14, u15, u16, u17, u18, u19, u20, u21, u22, u23, u24, u25, u26, u27, u28, u29, u30, u31, u32, u33, u34, u35], defers := [] } ∧ X = x ∧ K = k ∧ k ≤ s.size ∧ k < 10 ∧ x < pw k ∧ rdS s 0 0 = rdS s k x) (fun a' _ => 10 - (intOf (a'.tmps.getD 6 undef)).toNat) rfl ?_ ?_
  · intro hK
    go_wp2
    go_step3
    rename_i hKK
    refine hKK _ _ (hK.out _ _ ?_)
    exact ⟨rfl, 0, 0, _, _, _, _, _, _, _, _, _, _, _, _, _, _, _, _, _, _, _, _, _, _, _, _, _, _, _, _, _, _, _, rfl, rfl, rfl, by omega, by omega, by decide, rfl⟩
  · rintro a' w' ⟨rfl, k, x, K, X, u7, u8, u9, u10, u11, u12, u13, u14, u15, u16, u17, u18, u19, u20, u21, u22, u23, u24, u25, u26, u27, u28, u29, u30, u31, u32, u33, u34, u35, rfl, rfl, rfl, hk, hk10, hx, hr⟩
    have HR := Lib.hid hr; clear hr
    have HX := Lib.hid hx; clear hx
    by_cases hlt : k < s.size
    · have hne : ((k : Int) == (s.size : Int)) = false := by simp; omega
      have hor : ¬ (k = 9 ∧ 1 < s[k].toNat) → _ := or_step (i := k) (v := x) (c := s[k].toNat) hk10 HX.out
      have HO := Lib.hid hor; clear hor
      go_wp2
      · -- too long
        have h9 : (k : Int) = 9 := by assumption
        have hc : 1 < (s[k].toNat : Int) := by assumption
        simp only [Exit.jump]
        go_ret3
        have e := rdS_long (v := x) hlt (by omega) (by omega)
        exact ⟨by rw [HR.out, e]; rfl, rfl⟩
      · have h9 : (k : Int) = 9 := by assumption
        have hc1 : (s[k].toNat : Int) ≤ 1 := by assumption
        simp only [Exit.jump]
        go_ret3
        have hno : ¬ (k = 9 ∧ 1 < s[k].toNat) := by omega
        have e := rdS_last (v := x) hk10 hlt hno (by omega)
        obtain rfl : k = 9 := by omega
        exact ⟨by rw [HR.out, e, or_step9 HX.out (by omega)]; rfl, rfl⟩
      · have h9 : ¬ (k : Int) = 9 := by assumption
        have hc1 : (s[k].toNat : Int) < 128 := by assumption
        simp only [Exit.jump]
        go_ret3
        have hno : ¬ (k = 9 ∧ 1 < s[k].toNat) := by omega
        have e := rdS_last (v := x) hk10 hlt hno (by omega)
        exact ⟨by rw [HR.out, e, HO.out hno]; rfl, rfl⟩
      · have h9 : ¬ (k : Int) = 9 := by assumption
        have hc1 : 128 ≤ (s[k].toNat : Int) := by assumption
        have hno : ¬ (k = 9 ∧ 1 < s[k].toNat) := by omega
        obtain ⟨e, hk1⟩ := rdS_more (v := x) hk10 hlt hno (by omega)
        go_step3
        refine ⟨rfl, ⟨rfl, k + 1, x + s[k].toNat % 128 * 128 ^ k, _, _, _, _, _, _, _, _, _, _, _, _, _, _, _, _, _, _, _, _, _, _, _, _, _, _, _, _, _, _, _, rfl, HO.out hno, by omega, by omega, hk1, step_lt HX.out, ?_⟩, by simp [intOf]; omega⟩
        rw [HR.out, e]
    · have hne : ((k : Int) == (s.size : Int)) = true := by simp; omega
      go_wp2
      simp only [Exit.jump]
      go_ret3
      exact ⟨by rw [HR.out, rdS_end hk10 (by omega)]; rfl, rfl⟩

set_option maxRecDepth 100000 in
theorem rread_any (s : ByteArray) (w : World) (hs : s.size ≤ maxLen) :
    Calls Try.prog 21 #[.string s] w fun e w' => e = .returned (.tuple #[.int .u64 (rd s).1, .int .i64 (rd s).2.1, .int .i64 (rd s).2.2]) ∧ w = w' := by
  unfold maxLen at hs
  rw [rd_start]
  go_enter Try.func21, Try.ntmps21
  go_wp2
  go_loop [5, 6, 7] (fun v u i => ∃ (k x : Nat) (X Y K : Int), v = .int .u64 X ∧ u = .int .u64 Y ∧ i = .int .i64 K ∧ X = x ∧ Y = pw k ∧ K = k ∧ k ≤ s.size ∧ k < 10 ∧ x < pw k ∧ rdS s 0 0 = rdS s k x) (fun _ _ i => 10 - (intOf i).toNat)
  case atStart => exact ⟨0, 0, _, _, _, rfl, rfl, rfl, rfl, rfl, rfl, by omega, by omega, by decide, rfl⟩
  case round =>
    obtain ⟨k, x, X, Y, K, rfl, rfl, rfl, rfl, rfl, rfl, hk, hk10, hx, hr⟩ := hrel
    have HR := Lib.hid hr; clear hr
    have HX := Lib.hid hx; clear hx
    by_cases hlt : k < s.size
    · have hne : ((k : Int) == (s.size : Int)) = false := by simp; omega
      have hor : ¬ (k = 9 ∧ 1 < s[k].toNat) → _ := add_step (i := k) (v := x) (c := s[k].toNat) hk10 HX.out
      have HO := Lib.hid hor; clear hor
      by_cases h9 : k = 9
      · have HU : True := trivial
        by_cases hc : 1 < s[k].toNat
        · have hc' : (1 : Int) < (s[k].toNat : Int) := by omega
          have e := rdS_long (v := x) hlt h9 hc
          subst h9
          go_wp2
          go_ret3
          exact ⟨by rw [HR.out, e]; rfl, rfl⟩
        · have hno : ¬ (k = 9 ∧ 1 < s[k].toNat) := by omega
          have hc' : (s[k].toNat : Int) ≤ 1 := by omega
          have e := rdS_last (v := x) hk10 hlt hno (by omega)
          have ho := HO.out hno
          subst h9
          go_wp2
          go_ret3
          exact ⟨by rw [HR.out, e]; rfl, rfl⟩
      · have hno : ¬ (k = 9 ∧ 1 < s[k].toNat) := by omega
        have h9' : ((k : Int) == 9) = false := by simp; omega
        have hu := unit_step (i := k) (by omega)
        have HU := Lib.hid hu; clear hu
        go_wp2
        · go_ret3
          have e := rdS_last (v := x) hk10 hlt hno (by omega)
          exact ⟨by rw [HR.out, e, HO.out hno]; rfl, rfl⟩
        · have hc1 : 128 ≤ (s[k].toNat : Int) := by assumption
          obtain ⟨e, hk1⟩ := rdS_more (v := x) hk10 hlt hno (by omega)
          go_round
          case rel => exact ⟨k + 1, x + s[k].toNat % 128 * 128 ^ k, _, _, _, rfl, rfl, rfl, HO.out hno, HU.out, by omega, by omega, hk1, step_lt HX.out, by rw [HR.out, e]⟩
          case measure => simp [intOf]; omega
    · have hne : ((k : Int) == (s.size : Int)) = true := by simp; omega
      go_wp2
      go_ret3
      exact ⟨by rw [HR.out, rdS_end hk10 (by omega)]; rfl, rfl⟩
end Go.Proofs.Ytmojabdobjfdoaa
