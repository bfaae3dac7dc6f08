import Derived.Test.YtjjfdlgoacockaaGreatRows
import Derived.Test.YtjjfdlgoacockaaGreatMath
import Derived.Test.YtjjfdlgoacockaaGreatPAt
import Derived.Outline
import Derived.WalkSpells
import Derived.WalkMore
import Derived.ScopeJumps
namespace Go.Proofs.YtjjfdlgoacockaaGreat
open Go.RowKit M1
theorem infoByte : (Tryz.prog.info? 5).map (fun i => (i.zero, i.size, i.bytes)) = some (some (.int .u8 0), 1, 1) := by kernel_rfl

set_option maxRecDepth 100000 in
theorem put_any (v : Nat) (w : World) (hv : Fits 10 v) :
    Calls Tryz.prog 133 #[.int .u64 v] w fun e w' => e = .returned (.string (ps v)) ∧ Below w.heap.size w w' := by
  obtain ⟨i0, hi, hz0, hz1, hz2⟩ := info_parts infoByte
  go_enter Tryz.func133, Tryz.ntmps133
  go_wp2
  refine wp_scope_back 0 (fun a' w' => ∃ (k x : Nat) (acc : List UInt8) (X : Int) (sv u4 u5 u6 u7 u8 u9 u10 u11 u12 u13 u14 u15 u16 u17 u18 u19 u20 : Value), a' = { tmps := #[.int .u64 X, undef, .string ⟨#[]⟩, sv, u4, u5, u6, u7, u8, u9, u10, u11, u12, u13, u14, u15, u16, u17, u18, u19, u20], defers := [] } ∧ X = x ∧ w'.ownsRow w.heap.size 5 1 sv acc.length (bv acc) ∧ Below w.heap.size w w' ∧ Fits k x ∧ putN 10 v = acc ++ putN k x ∧ k + acc.length = 10 ∧ 0 < k) (fun a' _ => (intOf (a'.tmps.getD 0 undef)).toNat) rfl ?_ ?_
  · intro hK
    go_wp2
    go_step3
    rename_i hKK
    refine hKK _ _ (hK.out _ _ ?_)
    exact ⟨10, v, [], _, _, _, _, _, _, _, _, _, _, _, _, _, _, _, _, _, _, _, rfl, rfl, World.ownsRow_nil _ _ _ _, Below.refl _ _, hv, rfl, rfl, by omega⟩
  · rintro a' wr ⟨k, x, acc, X, sv, u4, u5, u6, u7, u8, u9, u10, u11, u12, u13, u14, u15, u16, u17, u18, u19, u20, rfl, rfl, hown, hb, hf, hs, hk, hk0⟩
    have hd := wrap_div (x := x) (fits_le hf (by omega))
    have HF := Lib.hid hf; clear hf
    have HS := Lib.hid hs; clear hs
    have hsz := hb.size
    have hlen : acc.length < 10 := by omega
    have HK := Lib.hid hk; clear hk
    by_cases h : x < 128
    · have h' : (x : Int) < 128 := by omega
      go_wp2_with (at_builtin; refine wpList_append_own _ rfl _ _ 113 rfl w.heap.size 5 i0 (.int .u8 0) 1 1 Tryz.underlying113 hi hz0 hz1 hz2 rfl (by decide) _ _ _ rfl (hown.alloc _) ⟨wr.heap.size, 0, none⟩ 1 1 [.int .u8 x] rfl rfl (cell_one_new _ _ _) ?c2 ?c3 ?c4 ?c5 ?_)
      case c2 => intro u hu; simp at hu; subst hu; rfl
      case c3 => unfold maxLen; omega
      case c4 => omega
      case c5 => simp; omega
      intro v' w1 hown' hgrow _
      rw [bv_one (by omega), ← bv_append] at hown'
      have hconv := run_bytes_own w1 113 9 5 Tryz.underlying113 Tryz.underlying5 Tryz.underlying9 hown'
      have e : putN 10 v = acc ++ [UInt8.ofNat x] := by rw [HS.out, putN_lo hk0 h]
      have hb' : Below w.heap.size w w1 := (hb.alloc hsz _).grown hgrow (by simp; omega) (fun q hq => (hown.lt q hq).1)
      clear hown' hgrow hown hb
      go_wp2
      simp only [Exit.jump]
      go_ret
      exact ⟨ret_eq (str_eq (by rw [ps, e])), hb'⟩
    · have h' : 128 ≤ (x : Int) := by omega
      go_wp2_with (at_builtin; refine wpList_append_own _ rfl _ _ 113 rfl w.heap.size 5 i0 (.int .u8 0) 1 1 Tryz.underlying113 hi hz0 hz1 hz2 rfl (by decide) _ _ _ rfl (hown.alloc _) ⟨wr.heap.size, 0, none⟩ 1 1 [.int .u8 (x % 128 + 128)] rfl rfl (cell_one_new _ _ _) ?c2 ?c3 ?c4 ?c5 ?_)
      case c2 => intro u hu; simp at hu; subst hu; rfl
      case c3 => unfold maxLen; omega
      case c4 => omega
      case c5 => simp; omega
      intro v' w1 hown' hgrow _
      have ex : ((x : Int) % 128 + 128) = ((x % 128 + 128 : Nat) : Int) := by omega
      rw [ex, bv_one (by omega), ← bv_append] at hown'
      obtain ⟨j, hj, hj0, hp, hf⟩ := putN_hi hk0 (by omega) HF.out
      have e : putN 10 v = (acc ++ [UInt8.ofNat (x % 128 + 128)]) ++ putN j (x / 128) := by rw [HS.out, hp]; simp
      have hb' : Below w.heap.size w w1 := (hb.alloc hsz _).grown hgrow (by simp; omega) (fun q hq => (hown.lt q hq).1)
      have HE := Lib.hid e; clear e
      have HP := Lib.hid hp; clear hp
      have HJ := Lib.hid hj; clear hj
      clear hgrow hown hb ex
      go_wp2
      go_step3
      have hk := HK.out
      have hj := HJ.out
      exact ⟨rfl, ⟨j, x / 128, _, _, _, _, _, _, _, _, _, _, _, _, _, _, _, _, _, _, _, _, rfl, by omega, by simpa using hown', hb', hf, HE.out, by simp; omega, hj0⟩, by simp [intOf]; omega⟩
set_option maxRecDepth 100000 in
theorem v_rput_any (k : Nat) : ∀ (v : Nat) (w : World), Fits k v → 0 < k → k ≤ 10 →
    Calls Tryz.prog 136 #[.int .u64 v] w fun e w' => ∃ g cap, e = .returned (.slice (some ⟨g, 0, none⟩) (sizeN k v) cap) ∧ w'.ownsRow w.heap.size 5 1 (.slice (some ⟨g, 0, none⟩) (sizeN k v) cap) (sizeN k v) (bv (putN k v)) ∧ Below w.heap.size w w' := by
  obtain ⟨i0, hi, hz0, hz1, hz2⟩ := info_parts infoByte
  induction k with
  | zero => intro v w _ h; omega
  | succ k ih =>
    intro v w hf _ hk
    by_cases h : v < 128
    · have h' : (v : Int) < 128 := by omega
      have e1 : sizeN (k + 1) v = 1 := sizeN_lo (by omega) h
      have e2 : putN (k + 1) v = [UInt8.ofNat v] := putN_lo (by omega) h
      rw [e1, e2]
      go_enter Tryz.func136, Tryz.ntmps136
      go_wp2_with fail
      go_ret
      refine ⟨_, _, rfl, ?_, (Below.refl _ _).alloc (Nat.le_refl _) _⟩
      rw [← bv_one (by omega)]
      exact World.ownsRow_lit (size := 1) w #[.int .u8 v] 1 (Nat.le_refl _) (by unfold maxLen; omega) rfl
    · have h' : 128 ≤ (v : Int) := by omega
      have hd := wrap_div (x := v) (fits_le hf hk)
      obtain ⟨hj0, hp, hs2, hf'⟩ := put_hi (by omega) hf
      rw [hp, hs2]
      clear hp hs2
      have hle := sizeN_le k (v / 128)
      have IH := Lib.hid ih; clear ih
      have ec : ((v : Int) / 128) = ((v / 128 : Nat) : Int) := by omega
      have EC := Lib.hid ec; clear ec
      go_enter Tryz.func136, Tryz.ntmps136
      go_wp2_with fail
      rw [EC.out]
      refine (IH.out (v / 128) _ hf' hj0 (by omega)).mono ?_
      rintro e w1 ⟨g, cap, rfl, hown, hb⟩
      have h0 := (World.ownsRow_lit (base := w.heap.size) (e := 5) (size := 1) w #[.int .u8 ((v : Int) % 128 + 128)] 1 (Nat.le_refl _) (by unfold maxLen; omega) rfl)
      have hz : w.heap.size < w1.heap.size := by have := hb.size; simp at this; omega
      have h1 : w1.ownsRow w.heap.size 5 1 (.slice (some ⟨w.heap.size, 0, none⟩) 1 1) 1 [.int .u8 ((v : Int) % 128 + 128)] := by
        obtain ⟨q1, q2⟩ := h0
        refine ⟨q1, ?_⟩
        rcases q2 with ⟨q, _⟩ | ⟨g', cap', cur', q3, q4, q5, q6⟩
        · cases q
        · refine .inr ⟨g', cap', cur', q3, q4, ?_, q6⟩
          rw [hb.block g' (by cases q3; simp)]
          exact q5
      go_wp2_with (at_builtin; refine wpList_append_own _ rfl _ _ 113 rfl w.heap.size 5 i0 (.int .u8 0) 1 1 Tryz.underlying113 hi hz0 hz1 hz2 rfl (by decide) _ _ _ rfl h1 ⟨g, 0, none⟩ (sizeN k (v / 128)) cap (bv (putN k (v / 128))) rfl ?c0 ?c1 ?c2 ?c3 ?c4 ?c5 ?_)
      case c0 => rw [bv_len, sizeN_len]; omega
      case c1 => exact hown.cells rfl
      case c2 => exact bv_oneCell
      case c3 => unfold maxLen; omega
      case c4 => omega
      case c5 => omega
      intro v' w2 hown' hgrow hnil
      go_wp2_with fail
      go_ret
      have e1 : 1 + sizeN k (v / 128) = sizeN k (v / 128) + 1 := by omega
      have e2 : Value.int .u8 ((v : Int) % 128 + 128) :: bv (putN k (v / 128)) = bv (UInt8.ofNat (v % 128 + 128) :: putN k (v / 128)) := by
        have : ((v : Int) % 128 + 128) = ((v % 128 + 128 : Nat) : Int) := by omega
        have hb1 := bv_one (n := v % 128 + 128) (by omega)
        have hb2 := congrArg (· ++ bv (putN k (v / 128))) hb1
        rw [this]
        simpa [bv] using hb2
      rw [e1, e2] at hown'
      have hex : ∃ g2 cap2, v' = .slice (some ⟨g2, 0, none⟩) (sizeN k (v / 128) + 1) cap2 := by
        rcases hown'.2 with ⟨_, q⟩ | ⟨g2, cap2, _, q, _⟩
        · omega
        · exact ⟨g2, cap2, q⟩
      obtain ⟨g2, cap2, hv2⟩ := hex
      have hbb : Below w.heap.size w w2 := (((Below.refl _ _).alloc (Nat.le_refl _) _).trans (hb.mono (by simp))).grown hgrow (by omega) (fun q hq => (h1.lt q hq).1)
      refine ⟨g2, cap2, ret_eq hv2, ?_, hbb⟩
      rw [← hv2]
      exact hown'
end Go.Proofs.YtjjfdlgoacockaaGreat
namespace Go.Proofs.YtjjfdlgoacockaaGreat
open Go.RowKit M1 M2

set_option maxRecDepth 100000 in
theorem readLow_any (s : ByteArray) (n : Nat) (w : World) (hs : s.size ≤ maxLen) (hn : n ≤ 8) :
    Calls Tryz.prog 154 #[.string s, .int .i64 n] w fun e w' => e = .returned (.tuple #[.int .u64 (rl s n).1, .int .i64 (rl s n).2.1, .int .i64 (rl s n).2.2]) ∧ w = w' := by
  unfold maxLen at hs
  by_cases h : s.size < n
  · have hr : rl s n = (0, 0, 1) := by unfold rl; rw [if_pos h]
    rw [hr]
    have h' : (s.size : Int) < (n : Int) := by omega
    clear hr
    go_enter Tryz.func154, Tryz.ntmps154
    go_wp2
    go_ret3
    exact ⟨rfl, rfl⟩
  · have hr : rl s n = (low (s.data.toList.take n), n, 0) := by unfold rl; rw [if_neg h]
    rw [hr]
    have h' : (n : Int) ≤ (s.size : Int) := by omega
    clear hr
    go_enter Tryz.func154, Tryz.ntmps154
    go_wp2
    go_loop [7, 14] (fun v i => ∃ (k : Nat) (X K : Int), k ≤ n ∧ v = .int .u64 X ∧ i = .int .i64 K ∧ X = (low (s.data.toList.take k) : Nat) ∧ K = (k : Nat)) (fun _ i => n - (intOf i).toNat)
    case atStart => exact ⟨0, _, _, by omega, rfl, rfl, by simp [low], rfl⟩
    case round =>
      obtain ⟨k, X, K, hk, rfl, rfl, rfl, rfl⟩ := hrel
      by_cases hlt : k < n
      · have hks : k < s.size := by omega
        have hc : (s[k].toNat : Int) ≤ 255 := by have := s[k].toNat_lt; omega
        have ht := take_snoc hks
        have hl := low_lt (s.data.toList.take k)
        have hlen : (s.data.toList.take k).length = k := by simp; omega
        have hsn := low_snoc (s.data.toList.take k) s[k]
        rw [hlen] at hl hsn
        have ho := lor_step (c := s[k]) (by omega) hl
        rw [← hsn, ← ht] at ho
        have HO := Lib.hid ho
        clear ho hsn ht hl hlen
        go_wp2
        go_round
        case rel => exact ⟨k + 1, _, _, by omega, rfl, rfl, HO.out, by omega⟩
        case measure => simp [intOf]; omega
      · obtain rfl : k = n := by omega
        go_wp2
        go_ret3
        exact ⟨rfl, rfl⟩
end Go.Proofs.YtjjfdlgoacockaaGreat
namespace Go.Proofs.YtjjfdlgoacockaaGreat
open Go.RowKit M1

set_option maxRecDepth 100000 in
theorem v_read_any (s : ByteArray) (w : World) (hs : s.size ≤ maxLen) :
    Calls Tryz.prog 153 #[.string s] w fun e w' => e = .returned (.tuple #[.int .u64 (rd s).1, .int .i64 (rd s).2.1, .int .i64 (rd s).2.2]) ∧ w = w' := by
  unfold maxLen at hs
  rw [rd_start]
  go_enter Tryz.func153, Tryz.ntmps153
  go_wp2
  refine wp_scope_back 0 (fun a' w' => w = w' ∧ ∃ (k x : Nat) (K X : Int) (u7 u8 u9 u10 u11 u12 u13 u14 u15 u16 u17 u18 u19 u20 u21 u22 u23 u24 u25 u26 u27 u28 u29 u30 u31 u32 u33 u34 u35 : Value), a' = { tmps := #[.string s, undef, .int .u64 0, .int .i64 0, .int .i64 0, .int .u64 X, .int .i64 K, u7, u8, u9, u10, u11, u12, u13, u14, u15, u16, u17, u18, u19, u20, u21, u22, u23, u24, u25, u26, u27, u28, u29, u30, u31, u32, u33, u34, u35], defers := [] } ∧ X = x ∧ K = k ∧ k ≤ s.size ∧ k < 10 ∧ x < pw k ∧ rdS s 0 0 = rdS s k x) (fun a' _ => 10 - (intOf (a'.tmps.getD 6 undef)).toNat) rfl ?_ ?_
  · intro hK
    go_wp2
    go_step3
    rename_i hKK
    refine hKK _ _ (hK.out _ _ ?_)
    exact ⟨rfl, 0, 0, _, _, _, _, _, _, _, _, _, _, _, _, _, _, _, _, _, _, _, _, _, _, _, _, _, _, _, _, _, _, _, rfl, rfl, rfl, by omega, by omega, by decide, rfl⟩
  · rintro a' w' ⟨rfl, k, x, K, X, u7, u8, u9, u10, u11, u12, u13, u14, u15, u16, u17, u18, u19, u20, u21, u22, u23, u24, u25, u26, u27, u28, u29, u30, u31, u32, u33, u34, u35, rfl, rfl, rfl, hk, hk10, hx, hr⟩
    have HR := Lib.hid hr; clear hr
    have HX := Lib.hid hx; clear hx
    by_cases hlt : k < s.size
    · have hne : ((k : Int) == (s.size : Int)) = false := by simp; omega
      have hor : ¬ (k = 9 ∧ 1 < s[k].toNat) → _ := or_step (i := k) (v := x) (c := s[k].toNat) hk10 HX.out
      have HO := Lib.hid hor; clear hor
      go_wp2
      · -- too long
        have h9 : (k : Int) = 9 := by assumption
        have hc : 1 < (s[k].toNat : Int) := by assumption
        simp only [Exit.jump]
        go_ret3
        have e := rdS_long (v := x) hlt (by omega) (by omega)
        exact ⟨by rw [HR.out, e]; rfl, rfl⟩
      · have h9 : (k : Int) = 9 := by assumption
        have hc1 : (s[k].toNat : Int) ≤ 1 := by assumption
        simp only [Exit.jump]
        go_ret3
        have hno : ¬ (k = 9 ∧ 1 < s[k].toNat) := by omega
        have e := rdS_last (v := x) hk10 hlt hno (by omega)
        obtain rfl : k = 9 := by omega
        exact ⟨by rw [HR.out, e, or_step9 HX.out (by omega)]; rfl, rfl⟩
      · have h9 : ¬ (k : Int) = 9 := by assumption
        have hc1 : (s[k].toNat : Int) < 128 := by assumption
        simp only [Exit.jump]
        go_ret3
        have hno : ¬ (k = 9 ∧ 1 < s[k].toNat) := by omega
        have e := rdS_last (v := x) hk10 hlt hno (by omega)
        exact ⟨by rw [HR.out, e, HO.out hno]; rfl, rfl⟩
      · have h9 : ¬ (k : Int) = 9 := by assumption
        have hc1 : 128 ≤ (s[k].toNat : Int) := by assumption
        have hno : ¬ (k = 9 ∧ 1 < s[k].toNat) := by omega
        obtain ⟨e, hk1⟩ := rdS_more (v := x) hk10 hlt hno (by omega)
        go_step3
        refine ⟨rfl, ⟨rfl, k + 1, x + s[k].toNat % 128 * 128 ^ k, _, _, _, _, _, _, _, _, _, _, _, _, _, _, _, _, _, _, _, _, _, _, _, _, _, _, _, _, _, _, _, rfl, HO.out hno, by omega, by omega, hk1, step_lt HX.out, ?_⟩, by simp [intOf]; omega⟩
        rw [HR.out, e]
    · have hne : ((k : Int) == (s.size : Int)) = true := by simp; omega
      go_wp2
      simp only [Exit.jump]
      go_ret3
      exact ⟨by rw [HR.out, rdS_end hk10 (by omega)]; rfl, rfl⟩

end Go.Proofs.YtjjfdlgoacockaaGreat
namespace Go.Proofs.YtjjfdlgoacockaaGreat
open Go.RowKit M1 M2

end Go.Proofs.YtjjfdlgoacockaaGreat
namespace Go.Proofs.YtjjfdlgoacockaaGreat
open Go.RowKit M1

theorem awake_any (w : World) : Calls Tryz.prog 147 #[] w fun e w' => e = .returned (.bool true) ∧ Below w.heap.size w w' := by
  have hs : ByteArray.size ⟨#[172, 2, 120]⟩ = 3 := rfl
  have h1 := v_read_any ⟨#[172, 2, 120]⟩ w (by rw [hs]; unfold maxLen; omega)
  have e1 : rd ⟨#[172, 2, 120]⟩ = (300, 2, 0) := by decide
  have h2 := put_any 300 w (by unfold Fits; omega)
  have e2 : ps 300 = ⟨#[172, 2]⟩ := by decide
  rw [e1] at h1
  rw [e2] at h2
  have H1 := Lib.hid h1; clear h1
  have H2 := Lib.hid h2; clear h2
  clear e1 e2 hs
  go_enter Tryz.func147, Tryz.ntmps147
  go_wp2_with fail
  refine H1.out.mono ?_
  rintro e w1 ⟨rfl, rfl⟩
  go_wp2_with fail
  refine H2.out.mono ?_
  rintro e w1 ⟨rfl, hb⟩
  have HB := Lib.hid hb; clear hb
  go_wp2_with fail
  go_ret
  exact ⟨rfl, HB.out⟩
end Go.Proofs.YtjjfdlgoacockaaGreat
