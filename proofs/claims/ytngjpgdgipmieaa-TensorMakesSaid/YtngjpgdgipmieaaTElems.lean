/- The walks of elements at whole numbers, flags and complex numbers, each out of one text (wip/tools/gen7.py). -/
import Derived.Test.YtngjpgdgipmieaaTCheck
import Derived.Test.YtngjpgdgipmieaaCells
namespace Go.Proofs.Ytngjpgdgipmieaa
open Go.RowKit M6 M7

/-- what is wrong, asked for elements of a kind -/
def ec (k : Int) (t : Ten) : Int := if ck t ≠ 0 then ck t else if t.kind = k then 0 else 13
theorem ec_bad {k : Int} {t : Ten} (h : ck t ≠ 0) : ec k t = ck t := if_pos h
theorem ec_type {k : Int} {t : Ten} (h : ck t = 0) (hk : t.kind ≠ k) : ec k t = 13 := by unfold ec; rw [if_neg (by omega), if_neg hk]
theorem ec_ok {k : Int} {t : Ten} (h : ck t = 0) (hk : t.kind = k) : ec k t = 0 := by unfold ec; rw [if_neg (by omega), if_pos hk]
theorem ec_zero {k : Int} {t : Ten} (h : ec k t = 0) : ck t = 0 ∧ t.kind = k := by
  unfold ec at h
  split at h
  · omega
  · split at h
    · exact ⟨by omega, by assumption⟩
    · omega
/-- how many elements a right tensor of a kind has -/
theorem count_of {t : Ten} {k : Int} {s : Nat} (h : ck t = 0) (hk : t.kind = k) (hs : kSize k = (s : Int)) (hs0 : s ≠ 0) : ∃ n, t.data.size = n * s ∧ t.data.size / s = n ∧ n ≤ 65536 := by
  obtain ⟨-, -, -, h4, -⟩ := ck_zero h
  obtain ⟨n, hn, hn6⟩ := count_nat t.dims
  rw [hn, hk, hs, ← Int.natCast_mul] at h4
  have h5 : t.data.size = n * s := by omega
  exact ⟨n, h5, by rw [h5, Nat.mul_div_cancel _ (by omega)], hn6⟩

theorem infoInt : (Try.prog.info? 2).map (fun i => (i.zero, i.size, i.bytes)) = some (some (Value.int .i64 0), 1, 8) := by kernel_rfl
set_option maxRecDepth 100000 in
set_option maxHeartbeats 1000000 in
theorem elemsInt_any (t : Ten) (A : Option Addr) (c : Nat) (w : World) (ht : Tok w t A) (xs : List (Int)) (hx : ck t = 0 → t.kind = 7 → xs.length = t.data.size / 8)
    (hr : ck t = 0 → t.kind = 7 → ∀ k (h : k < xs.length) (W : World), Calls Try.prog 38 #[.string (t.data.extract (k * 8) ((k + 1) * 8))] W fun e w' => e = .returned (Value.int .i64 xs[k]) ∧ Below W.heap.size W w') :
    Calls Try.prog 37 #[tv t.name t.kind (.slice A t.dims.length c) t.data, .int .i64 7, .func (.func 38) #[] #[]] w fun e w' =>
      ∃ v ys, e = .returned (.tuple #[v, .int .i64 (ec 7 t)]) ∧ w'.ownsRow w.heap.size 2 1 v ys.length (ys.map fun p => Value.int .i64 p) ∧ Below w.heap.size w w' ∧ (ec 7 t = 0 → ys = xs) ∧ (ec 7 t ≠ 0 → ys = []) := by
  have hd := ht.data
  have HT := Lib.hid ht
  have HBX := Lib.hid (Bx.start w #[.string t.name, .int .i64 t.kind, .slice A t.dims.length c, .string t.data] 25)
  clear ht
  have HCK := Lib.hid (tcheck_any t A c _ (HT.out.below HBX.out.all))
  go_enter Try.func37, Try.ntmps37
  go_wp2_with fail
  refine HCK.out.mono ?_
  rintro e w1 ⟨rfl, hb1⟩
  have H1 := Lib.hid (HBX.out.below hb1)
  clear hb1 HBX HCK
  obtain ⟨x0, x1, x2, x3⟩ := H1.out.four
  by_cases hck : ck t = 0
  · have HCK := Lib.hid hck
    rw [hck]
    clear hck
    by_cases hk : t.kind = 7
    · have HE := Lib.hid (ec_ok HCK.out hk)
      obtain ⟨n, hn, hdiv, hn6⟩ := count_of HCK.out hk (s := 8) (by decide) (by decide)
      have hxl := hx HCK.out hk
      have HR := Lib.hid (hr HCK.out hk)
      rw [hdiv] at hxl
      have HX := Lib.hid hxl
      have HN := Lib.hid hn
      have hdiv' : (t.data.size : Int) / 8 = (n : Int) := by omega
      have hk' : (t.kind != 7) = false := by simpa using hk
      clear hx hr hdiv hk hxl
      obtain ⟨i0, hi0, hz0, hz1, hz2⟩ := info_parts infoInt
      go_wp2_with fail
      refine (size_any 7 _ (by decide)).mono ?_
      rintro e w2 ⟨rfl, hb2⟩
      rw [show kSize 7 = 8 by decide]
      have H2 := Lib.hid (H1.out.below hb2)
      clear hb2 H1
      obtain ⟨x0, x1, x2, x3⟩ := H2.out.four
      go_wp2_with (at_make; refine wpList_make_full _ rfl _ _ 23 rfl w2.heap.size 2 i0 _ 1 Try.underlying23 hi0 hz0 hz1 .i64 .i64 _ _ n rfl rfl rfl rfl (by rw [hz2]; omega) (by unfold maxLen; omega) (Nat.le_refl _) ?_)
      intro w3 hown hg
      rw [made_cells] at hown
      have hb3 := (Below.refl w2.heap.size w2).grown hg (Nat.le_refl _) (fun q hq => by cases hq)
      have hf0 : Fill w3 w2.heap.size w2.heap.size 2 (xs.map fun p => Value.int .i64 p) (List.replicate n (Value.int .i64 0)) 0 := Fill.start (by rw [List.length_map, HX.out]; exact hown)
      have hz3 := hb3.size
      have HF0 := Lib.hid hf0
      have HBX3 := Lib.hid (H2.out.below hb3)
      have HL : Hid ((List.replicate n (Value.int .i64 0)).length = (xs.map fun p => Value.int .i64 p).length) := Lib.hid (by rw [List.length_replicate, List.length_map, HX.out])
      have HWZ := Lib.hid H2.out.2.1
      have HWW := Lib.hid H2.out.all.size
      clear hown hg hb3 hf0 hi0 hz0 hz1 hz2 x0 x1 x2 x3 H2
      generalize hgg : w2.heap.size = g at *
      have HGG := Lib.hid hgg
      clear hgg
      go_wp2_with fail
      go_loopw [11, 31] (fun _ i wr => ∃ (k : Nat) (K : Int), i = .int .i64 K ∧ K = (k : Nat) ∧ k ≤ n ∧ Fill wr g g 2 (xs.map fun p => Value.int .i64 p) (List.replicate n (Value.int .i64 0)) k ∧ Bx w w.heap.size #[.string t.name, .int .i64 t.kind, .slice A t.dims.length c, .string t.data] 25 wr) (fun _ i _ => n - (intOf i).toNat)
      case atStart => exact ⟨0, _, rfl, rfl, by omega, HF0.out, HBX3.out⟩
      case round =>
        obtain ⟨k, K, rfl, rfl, hk, hfill, hbx⟩ := hrel
        by_cases hlt : k < n
        · have hkn : (k + 1) * 8 ≤ t.data.size := by rw [HN.out]; exact Nat.mul_le_mul_right _ (by omega)
          have HC := Lib.hid (fun W => cut_any t.name t.kind A t.dims.length c t.data k 8 W (by unfold maxLen; omega) hkn (by omega))
          have hkx : k < xs.length := by rw [HX.out]; exact hlt
          have HRK := Lib.hid (HR.out k hkx)
          have HB := Lib.hid hbx
          have HF := Lib.hid hfill
          obtain ⟨x0, x1, x2, x3⟩ := HB.out.four
          generalize t.data.extract (k * 8) ((k + 1) * 8) = E at *
          clear hkn hbx hfill
          go_wp2_with fail
          refine (HC.out _).mono ?_
          rintro e w4 ⟨rfl, hb4⟩
          have HB4 := Lib.hid (HB.out.below hb4)
          have HF4 := Lib.hid (HF.out.keep hb4)
          clear hb4 HB HF x0 x1 x2 x3
          go_wp2_with fail
          refine (HRK.out _).mono ?_
          rintro e w5 ⟨rfl, hb5⟩
          have HB5 := Lib.hid (HB4.out.below hb5)
          have hf5 := HF4.out.keep hb5
          have hvl : k < (xs.map fun p => Value.int .i64 p).length := by rw [List.length_map]; exact hkx
          obtain ⟨u, hu⟩ := hf5.cell HL.out hvl
          have hfz := hf5.frozenAt k
          have hput := hf5.put HL.out hvl
          rw [List.getElem_map] at hput
          have hbs := HB5.out.far (b := g) (i := k) (Value.int .i64 xs[k]) (by have := HWZ.out; omega) (by have := HWW.out; omega)
          have HP := Lib.hid (And.intro hput hbs)
          clear hput hbs hf5 hb5 HB4 HF4 HB5
          generalize xs[k] = x at *
          go_wp2_with fail
          go_roundw
          case rel => exact ⟨k + 1, _, rfl, by omega, by omega, HP.out.1, HP.out.2⟩
          case measure => simp [intOf]; omega
        · obtain rfl : k = n := by omega
          have hk2 : k = (xs.map fun p => Value.int .i64 p).length := by rw [List.length_map, HX.out]
          rw [hk2] at hfill
          have hdone := hfill.done (by rw [← hk2, List.length_replicate])
          rw [← hk2] at hdone
          have HD := Lib.hid (And.intro hdone hbx.all)
          have HK2 := Lib.hid (show k = xs.length by rw [HX.out])
          clear hfill hdone hbx hk2
          go_wp2_with fail
          go_ret2
          refine ⟨_, xs, by rw [HE.out]; rfl, ?_, HD.out.2, fun _ => rfl, fun h => absurd HE.out h⟩
          rw [← HK2.out]
          exact own_base HD.out.1 (by have := HWW.out; omega)
    · have HE := Lib.hid (ec_type HCK.out hk)
      have hk' : (t.kind != 7) = true := by simpa using hk
      clear hk hx hr
      go_wp2_with fail
      go_ret2
      exact ⟨_, [], by rw [HE.out]; rfl, World.ownsRow_nil _ _ _ _, H1.out.all, (fun h => by rw [HE.out] at h; cases h), fun _ => rfl⟩
  · have HE := Lib.hid (ec_bad (k := 7) hck)
    have HCK := Lib.hid hck
    have hck' : (ck t != 0) = true := by simpa using hck
    generalize ck t = q at *
    clear hck hx hr
    go_wp2_with fail
    go_ret2
    exact ⟨_, [], by rw [HE.out]; rfl, World.ownsRow_nil _ _ _ _, H1.out.all, fun h => absurd (HE.out.symm.trans h) HCK.out, fun _ => rfl⟩

theorem infoFlag : (Try.prog.info? 4).map (fun i => (i.zero, i.size, i.bytes)) = some (some (Value.bool false), 1, 1) := by kernel_rfl
set_option maxRecDepth 100000 in
set_option maxHeartbeats 1000000 in
theorem elemsFlag_any (t : Ten) (A : Option Addr) (c : Nat) (w : World) (ht : Tok w t A) (xs : List (Bool)) (hx : ck t = 0 → t.kind = 9 → xs.length = t.data.size / 1)
    (hr : ck t = 0 → t.kind = 9 → ∀ k (h : k < xs.length) (W : World), Calls Try.prog 40 #[.string (t.data.extract (k * 1) ((k + 1) * 1))] W fun e w' => e = .returned (Value.bool xs[k]) ∧ Below W.heap.size W w') :
    Calls Try.prog 39 #[tv t.name t.kind (.slice A t.dims.length c) t.data, .int .i64 9, .func (.func 40) #[] #[]] w fun e w' =>
      ∃ v ys, e = .returned (.tuple #[v, .int .i64 (ec 9 t)]) ∧ w'.ownsRow w.heap.size 4 1 v ys.length (ys.map fun p => Value.bool p) ∧ Below w.heap.size w w' ∧ (ec 9 t = 0 → ys = xs) ∧ (ec 9 t ≠ 0 → ys = []) := by
  have hd := ht.data
  have HT := Lib.hid ht
  have HBX := Lib.hid (Bx.start w #[.string t.name, .int .i64 t.kind, .slice A t.dims.length c, .string t.data] 25)
  clear ht
  have HCK := Lib.hid (tcheck_any t A c _ (HT.out.below HBX.out.all))
  go_enter Try.func39, Try.ntmps39
  go_wp2_with fail
  refine HCK.out.mono ?_
  rintro e w1 ⟨rfl, hb1⟩
  have H1 := Lib.hid (HBX.out.below hb1)
  clear hb1 HBX HCK
  obtain ⟨x0, x1, x2, x3⟩ := H1.out.four
  by_cases hck : ck t = 0
  · have HCK := Lib.hid hck
    rw [hck]
    clear hck
    by_cases hk : t.kind = 9
    · have HE := Lib.hid (ec_ok HCK.out hk)
      obtain ⟨n, hn, hdiv, hn6⟩ := count_of HCK.out hk (s := 1) (by decide) (by decide)
      have hxl := hx HCK.out hk
      have HR := Lib.hid (hr HCK.out hk)
      rw [hdiv] at hxl
      have HX := Lib.hid hxl
      have HN := Lib.hid hn
      have hdiv' : (t.data.size : Int) / 1 = (n : Int) := by omega
      have hk' : (t.kind != 9) = false := by simpa using hk
      clear hx hr hdiv hk hxl
      obtain ⟨i0, hi0, hz0, hz1, hz2⟩ := info_parts infoFlag
      go_wp2_with fail
      refine (size_any 9 _ (by decide)).mono ?_
      rintro e w2 ⟨rfl, hb2⟩
      rw [show kSize 9 = 1 by decide]
      have H2 := Lib.hid (H1.out.below hb2)
      clear hb2 H1
      obtain ⟨x0, x1, x2, x3⟩ := H2.out.four
      go_wp2_with (at_make; refine wpList_make_full _ rfl _ _ 40 rfl w2.heap.size 4 i0 _ 1 Try.underlying40 hi0 hz0 hz1 .i64 .i64 _ _ n rfl rfl rfl rfl (by rw [hz2]; omega) (by unfold maxLen; omega) (Nat.le_refl _) ?_)
      intro w3 hown hg
      rw [made_cells] at hown
      have hb3 := (Below.refl w2.heap.size w2).grown hg (Nat.le_refl _) (fun q hq => by cases hq)
      have hf0 : Fill w3 w2.heap.size w2.heap.size 4 (xs.map fun p => Value.bool p) (List.replicate n (Value.bool false)) 0 := Fill.start (by rw [List.length_map, HX.out]; exact hown)
      have hz3 := hb3.size
      have HF0 := Lib.hid hf0
      have HBX3 := Lib.hid (H2.out.below hb3)
      have HL : Hid ((List.replicate n (Value.bool false)).length = (xs.map fun p => Value.bool p).length) := Lib.hid (by rw [List.length_replicate, List.length_map, HX.out])
      have HWZ := Lib.hid H2.out.2.1
      have HWW := Lib.hid H2.out.all.size
      clear hown hg hb3 hf0 hi0 hz0 hz1 hz2 x0 x1 x2 x3 H2
      generalize hgg : w2.heap.size = g at *
      have HGG := Lib.hid hgg
      clear hgg
      go_wp2_with fail
      go_loopw [11, 31] (fun _ i wr => ∃ (k : Nat) (K : Int), i = .int .i64 K ∧ K = (k : Nat) ∧ k ≤ n ∧ Fill wr g g 4 (xs.map fun p => Value.bool p) (List.replicate n (Value.bool false)) k ∧ Bx w w.heap.size #[.string t.name, .int .i64 t.kind, .slice A t.dims.length c, .string t.data] 25 wr) (fun _ i _ => n - (intOf i).toNat)
      case atStart => exact ⟨0, _, rfl, rfl, by omega, HF0.out, HBX3.out⟩
      case round =>
        obtain ⟨k, K, rfl, rfl, hk, hfill, hbx⟩ := hrel
        by_cases hlt : k < n
        · have hkn : (k + 1) * 1 ≤ t.data.size := by rw [HN.out]; exact Nat.mul_le_mul_right _ (by omega)
          have HC := Lib.hid (fun W => cut_any t.name t.kind A t.dims.length c t.data k 1 W (by unfold maxLen; omega) hkn (by omega))
          have hkx : k < xs.length := by rw [HX.out]; exact hlt
          have HRK := Lib.hid (HR.out k hkx)
          have HB := Lib.hid hbx
          have HF := Lib.hid hfill
          obtain ⟨x0, x1, x2, x3⟩ := HB.out.four
          generalize t.data.extract (k * 1) ((k + 1) * 1) = E at *
          clear hkn hbx hfill
          go_wp2_with fail
          refine (HC.out _).mono ?_
          rintro e w4 ⟨rfl, hb4⟩
          have HB4 := Lib.hid (HB.out.below hb4)
          have HF4 := Lib.hid (HF.out.keep hb4)
          clear hb4 HB HF x0 x1 x2 x3
          go_wp2_with fail
          refine (HRK.out _).mono ?_
          rintro e w5 ⟨rfl, hb5⟩
          have HB5 := Lib.hid (HB4.out.below hb5)
          have hf5 := HF4.out.keep hb5
          have hvl : k < (xs.map fun p => Value.bool p).length := by rw [List.length_map]; exact hkx
          obtain ⟨u, hu⟩ := hf5.cell HL.out hvl
          have hfz := hf5.frozenAt k
          have hput := hf5.put HL.out hvl
          rw [List.getElem_map] at hput
          have hbs := HB5.out.far (b := g) (i := k) (Value.bool xs[k]) (by have := HWZ.out; omega) (by have := HWW.out; omega)
          have HP := Lib.hid (And.intro hput hbs)
          clear hput hbs hf5 hb5 HB4 HF4 HB5
          generalize xs[k] = x at *
          go_wp2_with fail
          go_roundw
          case rel => exact ⟨k + 1, _, rfl, by omega, by omega, HP.out.1, HP.out.2⟩
          case measure => simp [intOf]; omega
        · obtain rfl : k = n := by omega
          have hk2 : k = (xs.map fun p => Value.bool p).length := by rw [List.length_map, HX.out]
          rw [hk2] at hfill
          have hdone := hfill.done (by rw [← hk2, List.length_replicate])
          rw [← hk2] at hdone
          have HD := Lib.hid (And.intro hdone hbx.all)
          have HK2 := Lib.hid (show k = xs.length by rw [HX.out])
          clear hfill hdone hbx hk2
          go_wp2_with fail
          go_ret2
          refine ⟨_, xs, by rw [HE.out]; rfl, ?_, HD.out.2, fun _ => rfl, fun h => absurd HE.out h⟩
          rw [← HK2.out]
          exact own_base HD.out.1 (by have := HWW.out; omega)
    · have HE := Lib.hid (ec_type HCK.out hk)
      have hk' : (t.kind != 9) = true := by simpa using hk
      clear hk hx hr
      go_wp2_with fail
      go_ret2
      exact ⟨_, [], by rw [HE.out]; rfl, World.ownsRow_nil _ _ _ _, H1.out.all, (fun h => by rw [HE.out] at h; cases h), fun _ => rfl⟩
  · have HE := Lib.hid (ec_bad (k := 9) hck)
    have HCK := Lib.hid hck
    have hck' : (ck t != 0) = true := by simpa using hck
    generalize ck t = q at *
    clear hck hx hr
    go_wp2_with fail
    go_ret2
    exact ⟨_, [], by rw [HE.out]; rfl, World.ownsRow_nil _ _ _ _, H1.out.all, fun h => absurd (HE.out.symm.trans h) HCK.out, fun _ => rfl⟩

theorem infoNum : (Try.prog.info? 50).map (fun i => (i.zero, i.size, i.bytes)) = some (some (Value.complex .f64 0 0), 1, 16) := by kernel_rfl
set_option maxRecDepth 100000 in
set_option maxHeartbeats 1000000 in
theorem elemsNum_any (t : Ten) (A : Option Addr) (c : Nat) (w : World) (ht : Tok w t A) (xs : List (Nat × Nat)) (hx : ck t = 0 → t.kind = 14 → xs.length = t.data.size / 8)
    (hr : ck t = 0 → t.kind = 14 → ∀ k (h : k < xs.length) (W : World), Calls Try.prog 42 #[.string (t.data.extract (k * 8) ((k + 1) * 8))] W fun e w' => e = .returned (Value.complex .f64 xs[k].1 xs[k].2) ∧ Below W.heap.size W w') :
    Calls Try.prog 41 #[tv t.name t.kind (.slice A t.dims.length c) t.data, .int .i64 14, .func (.func 42) #[] #[]] w fun e w' =>
      ∃ v ys, e = .returned (.tuple #[v, .int .i64 (ec 14 t)]) ∧ w'.ownsRow w.heap.size 50 1 v ys.length (ys.map fun p => Value.complex .f64 p.1 p.2) ∧ Below w.heap.size w w' ∧ (ec 14 t = 0 → ys = xs) ∧ (ec 14 t ≠ 0 → ys = []) := by
  have hd := ht.data
  have HT := Lib.hid ht
  have HBX := Lib.hid (Bx.start w #[.string t.name, .int .i64 t.kind, .slice A t.dims.length c, .string t.data] 25)
  clear ht
  have HCK := Lib.hid (tcheck_any t A c _ (HT.out.below HBX.out.all))
  go_enter Try.func41, Try.ntmps41
  go_wp2_with fail
  refine HCK.out.mono ?_
  rintro e w1 ⟨rfl, hb1⟩
  have H1 := Lib.hid (HBX.out.below hb1)
  clear hb1 HBX HCK
  obtain ⟨x0, x1, x2, x3⟩ := H1.out.four
  by_cases hck : ck t = 0
  · have HCK := Lib.hid hck
    rw [hck]
    clear hck
    by_cases hk : t.kind = 14
    · have HE := Lib.hid (ec_ok HCK.out hk)
      obtain ⟨n, hn, hdiv, hn6⟩ := count_of HCK.out hk (s := 8) (by decide) (by decide)
      have hxl := hx HCK.out hk
      have HR := Lib.hid (hr HCK.out hk)
      rw [hdiv] at hxl
      have HX := Lib.hid hxl
      have HN := Lib.hid hn
      have hdiv' : (t.data.size : Int) / 8 = (n : Int) := by omega
      have hk' : (t.kind != 14) = false := by simpa using hk
      clear hx hr hdiv hk hxl
      obtain ⟨i0, hi0, hz0, hz1, hz2⟩ := info_parts infoNum
      go_wp2_with fail
      refine (size_any 14 _ (by decide)).mono ?_
      rintro e w2 ⟨rfl, hb2⟩
      rw [show kSize 14 = 8 by decide]
      have H2 := Lib.hid (H1.out.below hb2)
      clear hb2 H1
      obtain ⟨x0, x1, x2, x3⟩ := H2.out.four
      go_wp2_with (at_make; refine wpList_make_full _ rfl _ _ 43 rfl w2.heap.size 50 i0 _ 1 Try.underlying43 hi0 hz0 hz1 .i64 .i64 _ _ n rfl rfl rfl rfl (by rw [hz2]; omega) (by unfold maxLen; omega) (Nat.le_refl _) ?_)
      intro w3 hown hg
      rw [made_cells] at hown
      have hb3 := (Below.refl w2.heap.size w2).grown hg (Nat.le_refl _) (fun q hq => by cases hq)
      have hf0 : Fill w3 w2.heap.size w2.heap.size 50 (xs.map fun p => Value.complex .f64 p.1 p.2) (List.replicate n (Value.complex .f64 0 0)) 0 := Fill.start (by rw [List.length_map, HX.out]; exact hown)
      have hz3 := hb3.size
      have HF0 := Lib.hid hf0
      have HBX3 := Lib.hid (H2.out.below hb3)
      have HL : Hid ((List.replicate n (Value.complex .f64 0 0)).length = (xs.map fun p => Value.complex .f64 p.1 p.2).length) := Lib.hid (by rw [List.length_replicate, List.length_map, HX.out])
      have HWZ := Lib.hid H2.out.2.1
      have HWW := Lib.hid H2.out.all.size
      clear hown hg hb3 hf0 hi0 hz0 hz1 hz2 x0 x1 x2 x3 H2
      generalize hgg : w2.heap.size = g at *
      have HGG := Lib.hid hgg
      clear hgg
      go_wp2_with fail
      go_loopw [11, 31] (fun _ i wr => ∃ (k : Nat) (K : Int), i = .int .i64 K ∧ K = (k : Nat) ∧ k ≤ n ∧ Fill wr g g 50 (xs.map fun p => Value.complex .f64 p.1 p.2) (List.replicate n (Value.complex .f64 0 0)) k ∧ Bx w w.heap.size #[.string t.name, .int .i64 t.kind, .slice A t.dims.length c, .string t.data] 25 wr) (fun _ i _ => n - (intOf i).toNat)
      case atStart => exact ⟨0, _, rfl, rfl, by omega, HF0.out, HBX3.out⟩
      case round =>
        obtain ⟨k, K, rfl, rfl, hk, hfill, hbx⟩ := hrel
        by_cases hlt : k < n
        · have hkn : (k + 1) * 8 ≤ t.data.size := by rw [HN.out]; exact Nat.mul_le_mul_right _ (by omega)
          have HC := Lib.hid (fun W => cut_any t.name t.kind A t.dims.length c t.data k 8 W (by unfold maxLen; omega) hkn (by omega))
          have hkx : k < xs.length := by rw [HX.out]; exact hlt
          have HRK := Lib.hid (HR.out k hkx)
          have HB := Lib.hid hbx
          have HF := Lib.hid hfill
          obtain ⟨x0, x1, x2, x3⟩ := HB.out.four
          generalize t.data.extract (k * 8) ((k + 1) * 8) = E at *
          clear hkn hbx hfill
          go_wp2_with fail
          refine (HC.out _).mono ?_
          rintro e w4 ⟨rfl, hb4⟩
          have HB4 := Lib.hid (HB.out.below hb4)
          have HF4 := Lib.hid (HF.out.keep hb4)
          clear hb4 HB HF x0 x1 x2 x3
          go_wp2_with fail
          refine (HRK.out _).mono ?_
          rintro e w5 ⟨rfl, hb5⟩
          have HB5 := Lib.hid (HB4.out.below hb5)
          have hf5 := HF4.out.keep hb5
          have hvl : k < (xs.map fun p => Value.complex .f64 p.1 p.2).length := by rw [List.length_map]; exact hkx
          obtain ⟨u, hu⟩ := hf5.cell HL.out hvl
          have hfz := hf5.frozenAt k
          have hput := hf5.put HL.out hvl
          rw [List.getElem_map] at hput
          have hbs := HB5.out.far (b := g) (i := k) (Value.complex .f64 xs[k].1 xs[k].2) (by have := HWZ.out; omega) (by have := HWW.out; omega)
          have HP := Lib.hid (And.intro hput hbs)
          clear hput hbs hf5 hb5 HB4 HF4 HB5
          generalize xs[k] = x at *
          have hst : (store (⟨g, k, none⟩ : Addr) (Value.complex .f64 x.1 x.2)).run Try.prog w5 = .ok () (w5.setCell ⟨g, k, none⟩ (Value.complex .f64 x.1 x.2)) := by rw [run_store _ _ _ _ _ rfl, hu]; simp [hfz]
          go_wp2_with fail
          go_roundw
          case rel => exact ⟨k + 1, _, rfl, by omega, by omega, HP.out.1, HP.out.2⟩
          case measure => simp [intOf]; omega
        · obtain rfl : k = n := by omega
          have hk2 : k = (xs.map fun p => Value.complex .f64 p.1 p.2).length := by rw [List.length_map, HX.out]
          rw [hk2] at hfill
          have hdone := hfill.done (by rw [← hk2, List.length_replicate])
          rw [← hk2] at hdone
          have HD := Lib.hid (And.intro hdone hbx.all)
          have HK2 := Lib.hid (show k = xs.length by rw [HX.out])
          clear hfill hdone hbx hk2
          go_wp2_with fail
          go_ret2
          refine ⟨_, xs, by rw [HE.out]; rfl, ?_, HD.out.2, fun _ => rfl, fun h => absurd HE.out h⟩
          rw [← HK2.out]
          exact own_base HD.out.1 (by have := HWW.out; omega)
    · have HE := Lib.hid (ec_type HCK.out hk)
      have hk' : (t.kind != 14) = true := by simpa using hk
      clear hk hx hr
      go_wp2_with fail
      go_ret2
      exact ⟨_, [], by rw [HE.out]; rfl, World.ownsRow_nil _ _ _ _, H1.out.all, (fun h => by rw [HE.out] at h; cases h), fun _ => rfl⟩
  · have HE := Lib.hid (ec_bad (k := 14) hck)
    have HCK := Lib.hid hck
    have hck' : (ck t != 0) = true := by simpa using hck
    generalize ck t = q at *
    clear hck hx hr
    go_wp2_with fail
    go_ret2
    exact ⟨_, [], by rw [HE.out]; rfl, World.ownsRow_nil _ _ _ _, H1.out.all, fun h => absurd (HE.out.symm.trans h) HCK.out, fun _ => rfl⟩
end Go.Proofs.Ytngjpgdgipmieaa
