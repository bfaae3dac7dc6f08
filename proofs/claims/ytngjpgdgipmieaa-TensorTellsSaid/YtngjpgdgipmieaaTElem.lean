/- The walks of Elem and of the law's Of. -/
import Derived.Test.YtngjpgdgipmieaaTCheck
namespace Go.Proofs.Ytngjpgdgipmieaa
open Go.RowKit M7

/-- the i-th element's bytes -/
def el (k : Int) (d : ByteArray) (i : Int) : ByteArray := if kSize k = 0 ∨ i < 0 ∨ (d.size : Int) / kSize k ≤ i then ⟨#[]⟩ else d.extract (i.toNat * (kSize k).toNat) ((i.toNat + 1) * (kSize k).toNat)
theorem el_none {k : Int} {d : ByteArray} {i : Int} (h : kSize k = 0 ∨ i < 0 ∨ (d.size : Int) / kSize k ≤ i) : el k d i = ⟨#[]⟩ := if_pos h
theorem el_some {k : Int} {d : ByteArray} {i : Int} (h : ¬ (kSize k = 0 ∨ i < 0 ∨ (d.size : Int) / kSize k ≤ i)) : el k d i = d.extract (i.toNat * (kSize k).toNat) ((i.toNat + 1) * (kSize k).toNat) := if_neg h
theorem el_fits {n s i : Nat} (hs : s ≠ 0) (h : (i : Int) < (n : Int) / (s : Int)) : (i + 1) * s ≤ n := by
  have h1 : i < n / s := by rw [← Int.natCast_ediv] at h; omega
  have := (Nat.le_div_iff_mul_le (by omega)).1 (show i + 1 ≤ n / s by omega)
  exact this
theorem div_small {n s : Nat} : (0 : Int) ≤ (n : Int) / (s : Int) ∧ (n : Int) / (s : Int) ≤ (n : Int) := by
  rw [← Int.natCast_ediv]
  have := Nat.div_le_self n s
  generalize n / s = q at *
  omega

set_option maxRecDepth 100000 in
theorem elem_any (t : Ten) (A : Option Addr) (c : Nat) (i : Int) (w : World) (ht : Tok w t A) (hi : I64 i) :
    Calls Try.prog 14 #[tv t.name t.kind (.slice A t.dims.length c) t.data, .int .i64 i] w fun e w' => e = .returned (.string (el t.kind t.data i)) ∧ Below w.heap.size w w' := by
  have hd := ht.data
  obtain ⟨s, hs, hs8⟩ := size_nat t.kind
  have HBX := Lib.hid (Bx.start w #[.string t.name, .int .i64 t.kind, .slice A t.dims.length c, .string t.data] 25)
  have HT := Lib.hid ht
  have HS := Lib.hid hs
  unfold I64 at hi
  clear ht hs
  go_enter Try.func14, Try.ntmps14
  go_wp2_with fail
  refine (size_any t.kind _ HT.out.kind).mono ?_
  rintro e w1 ⟨rfl, hb1⟩
  have H1 := Lib.hid (HBX.out.below hb1)
  clear hb1 HBX
  rw [HS.out]
  obtain ⟨x0, x1, x2, x3⟩ := H1.out.four
  by_cases hs0 : s = 0
  · subst hs0
    have HE := Lib.hid (el_none (d := t.data) (i := i) (.inl HS.out))
    go_wp2_with fail
    go_ret
    rw [HE.out]
    exact ⟨rfl, H1.out.all⟩
  · have hs0' : ((s : Int) == 0) = false := by rw [beq_eq_false_iff_ne]; omega
    have hs1 : ¬ (s : Int) = 0 := by omega
    by_cases h0 : i < 0
    · have HE := Lib.hid (el_none (k := t.kind) (d := t.data) (i := i) (.inr (.inl h0)))
      have h0' := decide_eq_true h0
      clear hs0
      go_wp2_with fail
      go_ret
      rw [HE.out]
      exact ⟨rfl, H1.out.all⟩
    · obtain ⟨j, rfl⟩ := Int.eq_ofNat_of_zero_le (show 0 ≤ i by omega)
      have h0' : decide ((j : Int) < 0) = false := decide_eq_false (by omega)
      obtain ⟨d0, d1⟩ := div_small (n := t.data.size) (s := s)
      by_cases h1 : (t.data.size : Int) / (s : Int) ≤ (j : Int)
      · have HE := Lib.hid (el_none (k := t.kind) (d := t.data) (i := (j : Int)) (.inr (.inr (by rw [HS.out]; exact h1))))
        have h1' := decide_eq_true h1
        clear hs0
        go_wp2_with fail
        go_ret
        rw [HE.out]
        exact ⟨rfl, H1.out.all⟩
      · have hf := el_fits hs0 (by omega : (j : Int) < (t.data.size : Int) / (s : Int))
        have HE := Lib.hid (el_some (k := t.kind) (d := t.data) (i := (j : Int)) (by rw [HS.out]; omega))
        have HC := Lib.hid (fun W => cut_any t.name t.kind A t.dims.length c t.data j s W (by unfold maxLen; omega) hf (by have := Nat.le_mul_of_pos_right (j + 1) (show 0 < s by omega); omega))
        have h1' := decide_eq_false h1
        have hst : (kSize t.kind).toNat = s := by rw [HS.out]; omega
        rw [hst, show ((j : Int)).toNat = j by omega] at HE
        clear hs0 hf hst
        go_wp2_with fail
        refine (HC.out _).mono ?_
        rintro e w2 ⟨rfl, hb2⟩
        have H2 := Lib.hid (H1.out.below hb2)
        clear hb2
        rw [← HE.out]
        go_wp2_with fail
        go_ret
        exact ⟨rfl, H2.out.all⟩

set_option maxRecDepth 100000 in
theorem law7of_any (nme : ByteArray) (k : Int) (A : Option Addr) (l c : Nat) (d : ByteArray) (w : World) :
    Calls Try.prog 6 #[tv nme k (.slice A l c) d] w fun e w' => e = .returned (tv nme k (.slice A l c) d) ∧ Below w.heap.size w w' := by
  have hb := Bx.two w (.cells #[.string nme, .int .i64 k, .slice A l c, .string d] 25) #[.string nme, .int .i64 k, .slice A l c, .string d] 28
  have HK := Lib.hid hb
  clear hb
  go_enter Try.func6, Try.ntmps6
  go_wp2_with fail
  obtain ⟨c0, c1, c2, c3⟩ := HK.out.four
  have hbb := HK.out.all
  clear HK
  generalize (w.alloc (.cells #[.string nme, .int .i64 k, .slice A l c, .string d] 25)).alloc (.cells #[.string nme, .int .i64 k, .slice A l c, .string d] 28) = w2 at *
  exact bodyPost_ret (v := .agg #[.string nme, .int .i64 k, .slice A l c, .string d]) (by simp [results, Try.results6, go_sem, c0, c1, c2, c3]) rfl ⟨rfl, hbb⟩
end Go.Proofs.Ytngjpgdgipmieaa
