/- The walks of layer 5: the place of a number, and the number of a place, by contract. -/
import Derived.Test.YtiljgokhgihodaaSSize
import Derived.Test.YtiljgokhgihodaaSMathTwo
import Derived.Test.YtiljgokhgihodaaSBroad
namespace Go.Proofs.Ytiljgokhgihodaa
open Go.RowKit M5

/-- a row filled from the end -/
theorem fill_end {n k : Nat} {done : List Int} (hk : k < n) (x : Int) : (List.replicate (n - k) 0 ++ done.reverse).set (n - 1 - k) x = List.replicate (n - (k + 1)) 0 ++ (done ++ [x]).reverse := by
  have h1 : n - k = (n - (k + 1)) + 1 := by omega
  rw [h1, List.replicate_succ', List.append_assoc, List.set_append_right _ _ (by simp; omega)]
  have h2 : n - 1 - k - (List.replicate (n - (k + 1)) (0 : Int)).length = 0 := by simp; omega
  rw [h2]
  simp
theorem dgr_step {l : List Int} {k : Nat} (hk : k < l.length) (n : Int) : dgr (l.reverse.drop k) n = n % l[l.length - 1 - k] :: dgr (l.reverse.drop (k + 1)) (n / l[l.length - 1 - k]) := by
  rw [List.drop_eq_getElem_cons (by simpa using hk), dgr, List.getElem_reverse]
theorem mod_le {R u : Int} (h0 : 0 ≤ R) (hu : 0 < u) : R % u ≤ R := by
  have := Int.emod_lt_of_pos R hu
  by_cases h : R < u
  · rw [Int.emod_eq_of_lt h0 h]; exact Int.le_refl _
  · omega
theorem pos_of_prd {l : List Int} (h : Shp l) {n : Int} (h0 : 0 ≤ n) (h1 : n < prd l) : ∀ x ∈ l, 1 ≤ x := by
  intro x hx
  have := h.lo x hx
  by_cases hz : x = 0
  · subst hz; rw [prd_zero hx] at h1; omega
  · omega

set_option maxRecDepth 100000 in
theorem shPlace_any (A : Option Addr) (c : Nat) (l : List Int) (n : Int) (w : World) (hs : Shp l) (hn0 : 0 ≤ n) (hn1 : n < prd l) (ha : SR w w.heap.size 1 A l.length (iv l)) :
    Calls Try.prog 14 #[.slice A l.length c, .int .i64 n] w (IntsRes w.heap.size (plN l n) w) := by
  have hall := hs.all
  have hl8 := hs.len
  have HS := Lib.hid (shSize_any A c l w (by unfold maxLen; omega) ha (fun x hx => by have := hs.lo x hx; have := hs.hi x hx; unfold I64; omega))
  rw [sz_ok hs] at HS
  have HP := Lib.hid (fun x hx => And.intro (pos_of_prd hs hn0 hn1 x hx) (hs.hi x hx))
  obtain ⟨i0, hi0, hz0, hz1, hz2⟩ := info_parts infoInt64
  have hl8' : (l.length : Int) ≤ 8 := by omega
  clear hs
  go_enter Try.func14, Try.ntmps14
  go_wp2_with fail
  refine HS.out.mono ?_
  rintro en w1 ⟨rfl, rfl⟩
  generalize prd l = size at *
  have HPL := Lib.hid (plN_len l n)
  go_wp2_with (at_make; refine wpList_make_full _ rfl _ _ 22 rfl w.heap.size 2 i0 _ 1 Try.underlying22 hi0 hz0 hz1 .i64 .i64 _ _ l.length rfl rfl rfl rfl (by rw [hz2]; omega) (by unfold maxLen; omega) (Nat.le_refl _) ?_)
  intro w1 hown hg
  rw [made_ints] at hown
  have hb1 := (Below.refl w.heap.size w).grown hg (Nat.le_refl _) (fun q hq => by cases hq)
  have HO := Lib.hid hown
  have HB := Lib.hid hb1
  clear hown hg hb1 hi0 hz0 hz1 hz2 HS
  go_wp2_with fail
  go_loopw [8, 9, 10, 33] (fun r _ _ kk wr => ∃ (k : Nat) (K R : Int) (done : List Int), kk = .int .i64 K ∧ K = (k : Nat) ∧ k ≤ l.length ∧ r = .int .i64 R ∧ 0 ≤ R ∧ R ≤ 65536 ∧ done.length = k ∧ dgr l.reverse n = done ++ dgr (l.reverse.drop k) R ∧
    wr.ownsRow w.heap.size 2 1 (.slice (some ⟨w.heap.size, 0, none⟩) l.length l.length) l.length (iv (List.replicate (l.length - k) 0 ++ done.reverse)) ∧ Below w.heap.size w wr) (fun _ _ _ kk _ => l.length - (intOf kk).toNat)
  case atStart => exact ⟨0, _, _, [], rfl, rfl, by omega, rfl, by omega, by omega, rfl, by simp, by simpa using HO.out, HB.out⟩
  case round =>
    obtain ⟨k, K, R, done, rfl, rfl, hk, rfl, hR0, hR1, hdl, hdg, hown, hbl⟩ := hrel
    by_cases hlt : k < l.length
    · have hj : l.length - 1 - k < l.length := by omega
      obtain ⟨b1, o1, rfl, hb1, x0⟩ := int_at (ha.below hbl) hj
      have hu := HP.out l[l.length - 1 - k] (List.getElem_mem hj)
      have hst := dgr_step hlt R
      rw [hst, List.append_cons] at hdg
      have hfe := fun x => fill_end (n := l.length) (done := done) hlt x
      have hcell := hown.cellAt (l.length - 1 - k) (by omega)
      rw [iv_at (show l.length - 1 - k < (List.replicate (l.length - k) 0 ++ done.reverse).length by simp; omega)] at hcell
      have hfz := hown.frozenAt (l.length - 1 - k)
      have HST := Lib.hid (fun u => hown.stored (l.length - 1 - k) u)
      have HFE := Lib.hid hfe
      have HBL := Lib.hid hbl
      have HDG := Lib.hid hdg
      have HDL := Lib.hid hdl
      generalize (List.replicate (l.length - k) 0 ++ done.reverse)[l.length - 1 - k]'(by simp; omega) = old at *
      generalize l[l.length - 1 - k] = u at *
      clear hst hdg hfe hown hbl ha HO HB hdl HP
      obtain ⟨hu0, hu1⟩ := hu
      have hm0 : 0 ≤ R % u := Int.emod_nonneg _ (by omega)
      have hm1 : R % u ≤ R := mod_le hR0 (by omega)
      have hd0 : 0 ≤ R / u := Int.ediv_nonneg hR0 (by omega)
      have hd1 : R / u ≤ R := Int.ediv_le_self _ hR0
      go_wp2_with fail
      go_roundw
      case rel =>
        refine ⟨k + 1, _, _, done ++ [R % u], rfl, by omega, by omega, rfl, hd0, by omega, by simp [HDL.out], HDG.out, ?_, HBL.out.setCell (Nat.le_refl _) _⟩
        have h1 := (HST.out (.int .i64 (R % u))).1
        rw [iv_set, HFE.out] at h1
        exact h1
      case measure => simp [intOf]; omega
    · obtain rfl : k = l.length := by omega
      rw [List.drop_of_length_le (by simp), dgr, List.append_nil] at hdg
      rw [Nat.sub_self, List.replicate_zero, List.nil_append, ← hdg] at hown
      clear hdg hdl
      go_wp2_with fail
      go_ret
      exact ⟨_, rfl, by rw [HPL.out]; exact hown, hbl⟩
end Go.Proofs.Ytiljgokhgihodaa
