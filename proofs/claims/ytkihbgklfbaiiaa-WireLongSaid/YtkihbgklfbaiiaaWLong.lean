/- The walk of the law WireLong. -/
import Derived.Test.YtkihbgklfbaiiaaWAwake
import Derived.Test.YtkihbgklfbaiiaaWBytes
namespace Go.Proofs.Ytkihbgklfbaiiaa
open Go.RowKit M1 M2

theorem made_bv {w : World} {B : Nat} {v : Value} {n : Nat} (h : w.ownsRow B 5 1 v n (madeCells #[.int .u8 0] n).toList) :
    ∃ L : List UInt8, L.length = n ∧ w.ownsRow B 5 1 v n (bv L) := by
  refine ⟨List.replicate n 0, by simp, ?_⟩
  rw [toList_madeCells_one] at h
  have e : bv (List.replicate n 0) = List.replicate n (Value.int .u8 0) := by simp [bv]
  rw [e]
  exact h
theorem sizeLong1 : sizeN 10 1048572 = 3 := by decide +kernel
theorem sizeLong2 : sizeN 10 1048573 = 3 := by decide +kernel
theorem sizeTag : sizeN 10 10 = 1 := by decide +kernel
theorem fb_text (S : ByteArray) : fb ⟨1, 2, 0, S⟩ = ps 10 ++ ps S.size ++ S := by
  have hm : mayB 1 2 = true := by decide
  unfold fb
  simp [hm]
theorem fb_text_size {S : ByteArray} {n : Nat} (h : S.size = n) (h3 : sizeN 10 n = 3) : (fb ⟨1, 2, 0, S⟩).size = n + 4 := by
  rw [fb_text, ByteArray.size_append, ByteArray.size_append, ps_size, ps_size, sizeTag, h, h3]
  omega
theorem fields_text {S : ByteArray} {n : Nat} (h : S.size = n) (h3 : sizeN 10 n = 3) : fields (fb ⟨1, 2, 0, S⟩) = if 1048572 < n then ([], 2) else ([⟨1, 2, 0, S⟩], 0) := by
  have hs := fb_text_size h h3
  unfold fields
  rw [hs]
  by_cases hn : 1048572 < n
  · rw [if_pos (by omega), if_pos hn]
  · rw [if_neg (by omega), if_neg hn]
    have hc := flw_cat [⟨1, 2, 0, S⟩] (fun f hf => by
      simp at hf; subst hf
      exact ⟨by unfold Fits64; simp, by unfold Fits64; simp only; omega⟩)
    have e : cat [⟨1, 2, 0, S⟩] = fb ⟨1, 2, 0, S⟩ := by
      rw [cat, cat]; apply ba_eq; simp
    have hb : hasB ⟨1, 2, 0, S⟩ = true := hasB_yes (by rw [hs]; omega)
    rw [e] at hc
    rw [hc]
    simp [wanted, hb, norm]

set_option maxRecDepth 100000 in
theorem long_no (w : World) :
    Calls Try.prog 5 #[.bool false] w fun e w' => e = .returned (.bool true) ∧ Below w.heap.size w w' := by
  obtain ⟨i0, hi0, hz0, hz1, hz2⟩ := info_parts infoByte
  go_enter Try.func5, Try.ntmps5
  go_wp2_with (at_make; refine wpList_make_full _ rfl (.tmp 10) (.tmp 10) 45 rfl w.heap.size 5 i0 (.int .u8 0) 1 Try.underlying45 hi0 hz0 hz1 .i64 .i64 1048572 1048572 1048572 rfl rfl rfl rfl (by rw [hz2]; omega) (by unfold maxLen; omega) (Nat.le_refl _) ?_)
  intro w1 hown hg
  have HB1 := Lib.hid ((Below.refl w.heap.size w).grown hg (Nat.le_refl _) (by simp))
  obtain ⟨L, hL, hown⟩ := made_bv hown
  have hconv : _ = Result.ok (Value.string ⟨L.toArray⟩) w1 := run_bytes_own w1 45 9 5 Try.underlying45 Try.underlying5 Try.underlying9 hown
  have hS : ByteArray.size ⟨L.toArray⟩ = 1048572 := by show L.toArray.size = 1048572; simp [hL]
  generalize (⟨L.toArray⟩ : ByteArray) = S at hconv hS
  have h1 := fb_text_size hS sizeLong1
  have h2 := fields_text hS sizeLong1
  rw [if_neg (by omega)] at h2
  have HT := Lib.hid (fun W => text_any 1 S W (by omega) (by omega) (by omega))
  have hF := fun W => fields_any (fb ⟨1, 2, 0, S⟩) W (by unfold maxLen; omega)
  rw [h2] at hF
  have HF := Lib.hid hF
  have h1i : ((fb ⟨1, 2, 0, S⟩).size : Int) = 1048576 := by omega
  clear hown hg hL h2 hF
  generalize fb ⟨1, 2, 0, S⟩ = X at *
  have HS := Lib.hid hS
  have HX := Lib.hid (And.intro h1 h1i)
  clear hS h1 h1i
  go_wp2_with fail
  refine (HT.out _).mono ?_
  rintro e w2 ⟨rfl, hb⟩
  have HB2 := Lib.hid (HB1.out.trans (hb.mono HB1.out.size))
  clear hb HB1 hconv
  go_wp2_with fail
  refine (HF.out _).mono ?_
  rintro e w3 ⟨v3, rfl, hown, hb⟩
  obtain ⟨A3, c3, rfl, -, -⟩ := own_form hown
  have hsr := SR.of_own hown
  have HB3 := Lib.hid (HB2.out.trans (hb.mono HB2.out.size))
  clear hb HB2 hown
  go_wp2_with fail
  refine (wawake_any _).mono ?_
  rintro e w4 ⟨rfl, hb⟩
  have HB4 := Lib.hid (HB3.out.trans (hb.mono HB3.out.size))
  obtain ⟨b1, o1, rfl, -, x0, x1, x2, x3⟩ := field_at (hsr.below hb) (k := 0) (by simp)
  simp at x0 x1 x2 x3
  have h1 := HX.out.1
  have h1i := HX.out.2
  have hS := HS.out
  have hSi : (S.size : Int) = 1048572 := by omega
  clear hb HB3 hsr
  go_wp2_with fail
  go_ret
  exact ⟨rfl, HB4.out⟩

set_option maxRecDepth 100000 in
theorem long_yes (w : World) :
    Calls Try.prog 5 #[.bool true] w fun e w' => e = .returned (.bool true) ∧ Below w.heap.size w w' := by
  obtain ⟨i0, hi0, hz0, hz1, hz2⟩ := info_parts infoByte
  go_enter Try.func5, Try.ntmps5
  go_wp2_with (at_make; refine wpList_make_full _ rfl (.tmp 10) (.tmp 10) 45 rfl w.heap.size 5 i0 (.int .u8 0) 1 Try.underlying45 hi0 hz0 hz1 .i64 .i64 1048573 1048573 1048573 rfl rfl rfl rfl (by rw [hz2]; omega) (by unfold maxLen; omega) (Nat.le_refl _) ?_)
  intro w1 hown hg
  have HB1 := Lib.hid ((Below.refl w.heap.size w).grown hg (Nat.le_refl _) (by simp))
  obtain ⟨L, hL, hown⟩ := made_bv hown
  have hconv : _ = Result.ok (Value.string ⟨L.toArray⟩) w1 := run_bytes_own w1 45 9 5 Try.underlying45 Try.underlying5 Try.underlying9 hown
  have hS : ByteArray.size ⟨L.toArray⟩ = 1048573 := by show L.toArray.size = 1048573; simp [hL]
  generalize (⟨L.toArray⟩ : ByteArray) = S at hconv hS
  have h1 := fb_text_size hS sizeLong2
  have h2 := fields_text hS sizeLong2
  rw [if_pos (by omega)] at h2
  have HT := Lib.hid (fun W => text_any 1 S W (by omega) (by omega) (by omega))
  have hF := fun W => fields_any (fb ⟨1, 2, 0, S⟩) W (by unfold maxLen; omega)
  rw [h2] at hF
  have HF := Lib.hid hF
  have h1i : ((fb ⟨1, 2, 0, S⟩).size : Int) = 1048577 := by omega
  clear hown hg hL h2 hF
  generalize fb ⟨1, 2, 0, S⟩ = X at *
  have HS := Lib.hid hS
  have HX := Lib.hid (And.intro h1 h1i)
  clear hS h1 h1i
  go_wp2_with fail
  refine (HT.out _).mono ?_
  rintro e w2 ⟨rfl, hb⟩
  have HB2 := Lib.hid (HB1.out.trans (hb.mono HB1.out.size))
  clear hb HB1 hconv
  go_wp2_with fail
  refine (HF.out _).mono ?_
  rintro e w3 ⟨v3, rfl, hown, hb⟩
  obtain ⟨A3, c3, rfl, -, -⟩ := own_form hown
  have hsr := SR.of_own hown
  have HB3 := Lib.hid (HB2.out.trans (hb.mono HB2.out.size))
  clear hb HB2 hown
  go_wp2_with fail
  refine (wawake_any _).mono ?_
  rintro e w4 ⟨rfl, hb⟩
  have HB4 := Lib.hid (HB3.out.trans (hb.mono HB3.out.size))
  clear hb HB3 hsr
  go_wp2_with fail
  go_ret
  exact ⟨rfl, HB4.out⟩

theorem long_walk (b : Bool) (w : World) :
    Calls Try.prog 5 #[.bool b] w fun e w' => e = .returned (.bool true) ∧ Below w.heap.size w w' := by
  cases b
  · exact long_no w
  · exact long_yes w
end Go.Proofs.Ytkihbgklfbaiiaa
