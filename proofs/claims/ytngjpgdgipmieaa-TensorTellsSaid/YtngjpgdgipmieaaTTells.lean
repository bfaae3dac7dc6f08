/- The walk of the law TensorTells. -/
import Derived.Test.YtngjpgdgipmieaaTAwake
import Derived.Test.YtngjpgdgipmieaaTSame
import Derived.Test.YtngjpgdgipmieaaTElem
import Derived.Test.YtngjpgdgipmieaaTInts
import Derived.Test.YtngjpgdgipmieaaSSame
import Derived.Test.YtngjpgdgipmieaaTFx
import Derived.Deep.RegionWith
import Derived.Deep.RegionHeld
import Derived.Deep.CutRange
namespace Go.Proofs.Ytngjpgdgipmieaa
open Go.RowKit M6 M7 Go.Sort

abbrev tcs (t : Ten) (A : Option Addr) (c : Nat) : Array Value := #[.string t.name, .int .i64 t.kind, .slice A t.dims.length c, .string t.data]

set_option maxRecDepth 100000 in
set_option maxHeartbeats 40000000 in
theorem tells_walk (t u : Ten) (A B : Option Addr) (c d : Nat) (i : Int) (w : World) (ht : Tok w t A) (hu : Tok w u B) (hi : I64 i) :
    Calls Try.prog 3 #[tv t.name t.kind (.slice A t.dims.length c) t.data, tv u.name u.kind (.slice B u.dims.length d) u.data, .int .i64 i] w fun e w' => e = .returned (.bool true) ∧ Below w.heap.size w w' := by
  have HBT := Lib.hid ((Bx.start w (tcs t A c) 25).more (.cells (tcs u B d) 25))
  have HBU := Lib.hid (Bx.two w (.cells (tcs t A c) 25) (tcs u B d) 25)
  have HT := Lib.hid ht
  have HU := Lib.hid hu
  have hz1 := ht.data
  have hz2 := hu.data
  have hz3 := ht.name
  have hz4 := ht.len
  have hz5 := hu.len
  unfold maxLen at hz4 hz5
  clear ht hu
  have hcs : (4000 < (t.data.size : Int)) ∨ (¬ 4000 < (t.data.size : Int) ∧ 4000 < (u.data.size : Int)) ∨ (¬ 4000 < (t.data.size : Int) ∧ ¬ 4000 < (u.data.size : Int) ∧ 20 < (t.dims.length : Int)) ∨
      (¬ 4000 < (t.data.size : Int) ∧ ¬ 4000 < (u.data.size : Int) ∧ ¬ 20 < (t.dims.length : Int) ∧ 20 < (u.dims.length : Int)) ∨ (¬ 4000 < (t.data.size : Int) ∧ ¬ 4000 < (u.data.size : Int) ∧ ¬ 20 < (t.dims.length : Int) ∧ ¬ 20 < (u.dims.length : Int) ∧ 200 < (t.name.size : Int)) ∨
      (¬ 4000 < (t.data.size : Int) ∧ ¬ 4000 < (u.data.size : Int) ∧ ¬ 20 < (t.dims.length : Int) ∧ ¬ 20 < (u.dims.length : Int) ∧ ¬ 200 < (t.name.size : Int)) := by omega
  rcases hcs with g1 | ⟨g1, g2⟩ | ⟨g1, g2, g3⟩ | ⟨g1, g2, g3, g4⟩ | ⟨g1, g2, g3, g4, g5⟩ | ⟨g1, g2, g3, g4, g5⟩
  rotate_left 5
  · go_enter Try.func3, Try.ntmps3
    go_upto_region 3 with fail
    go_cut [7, 8] from 56 to 60 (fun s7 s8 wx => ∃ g7 g8, s7 = .pointer (some ⟨g7, 0, none⟩) ∧ s8 = .pointer (some ⟨g8, 0, none⟩) ∧ Tx g7 t A c wx ∧ Tx g8 u B d wx ∧ Tx w.heap.size t A c wx ∧ Tx (w.heap.size + 1) u B d wx ∧ Below w.heap.size w wx)
    case first =>
      rename_i Q0 Kr haK J Kp hJ hM
      clear haK
      have HO1 := Lib.hid (fun W => law7of_any t.name t.kind A t.dims.length c t.data W)
      have HO2 := Lib.hid (fun W => law7of_any u.name u.kind B u.dims.length d u.data W)
      obtain ⟨x0, x1, x2, x3⟩ := HBT.out.four
      obtain ⟨y0, y1, y2, y3⟩ := HBU.out.four
      have HX0 := Lib.hid (show Tx w.heap.size t A c _ from ⟨HBT.out.four, HBT.out.2.1⟩)
      have HY0 := Lib.hid (show Tx (w.heap.size + 1) u B d _ from ⟨HBU.out.four, HBU.out.2.1⟩)
      have hdz : ∀ W : World, W.drew.heap.size = W.heap.size := fun _ => rfl
      have hdc : ∀ (W : World) (a : Addr), W.drew.cell? a = W.cell? a := fun _ _ => rfl
      have hdf : ∀ (W : World) (a : Addr), W.drew.frozen? a = W.frozen? a := fun _ _ => rfl
      have HZ2 := HBU.out.2.1
      have HZ1 := HBT.out.2.1
      have HB2 := Lib.hid HBU.out.all
      clear HT HU hi hz1 hz2 hz3 hz4 hz5 g1 g2 g3 g4 g5 HBT HBU
      generalize hw2 : (w.alloc (Obj.cells (tcs t A c) 25)).alloc (Obj.cells (tcs u B d) 25) = w2 at *
      clear hw2
      go_region_held (fun W => (W.cell? ⟨w.heap.size, 0, none⟩ = some (.string t.name) ∧ W.cell? ⟨w.heap.size, 1, none⟩ = some (.int .i64 t.kind) ∧ W.cell? ⟨w.heap.size, 2, none⟩ = some (.slice A t.dims.length c) ∧ W.cell? ⟨w.heap.size, 3, none⟩ = some (.string t.data)) ∧ (W.cell? ⟨w.heap.size + 1, 0, none⟩ = some (.string u.name) ∧ W.cell? ⟨w.heap.size + 1, 1, none⟩ = some (.int .i64 u.kind) ∧ W.cell? ⟨w.heap.size + 1, 2, none⟩ = some (.slice B u.dims.length d) ∧ W.cell? ⟨w.heap.size + 1, 3, none⟩ = some (.string u.data)))
        ((refine ⟨Fx.cells (?_ : Tx w.heap.size t A c _), Fx.cells (?_ : Tx (w.heap.size + 1) u B d _)⟩ <;> (repeat first | with_reducible exact HX0.out | with_reducible exact HY0.out | ((with_reducible refine Fx.new ?hng); case hng => first | rfl | (simp; done)) | with_reducible refine Fx.put ?_ | ((with_reducible refine Fx.far1 ?_ ?hne); case hne => first | omega | (simp; omega)) | with_reducible refine Fx.more ?_ _ | with_reducible refine Fx.drew ?_ | with_reducible refine Fx.below ?_ hb4 | with_reducible refine Fx.below ?_ hb3)))
        (first
          | (go_at_call 6; (with_reducible refine (HO1.out _).mono ?_); rintro e w3 ⟨rfl, hb3⟩; obtain ⟨hkc3, hkf3⟩ := kept_cells hb3; obtain ⟨hl3a, hl3b, hl3c, hl3d, hl3e, hl3f⟩ := kept_lt hb3; have s3 := hb3.size; (try simp [hdz] at s3))
          | (go_at_call 6; (with_reducible refine (HO2.out _).mono ?_); rintro e w4 ⟨rfl, hb4⟩; obtain ⟨hkc4, hkf4⟩ := kept_cells hb4; obtain ⟨hl4a, hl4b, hl4c, hl4d, hl4e, hl4f⟩ := kept_lt hb4; have s4 := hb4.size; (try simp at s4); have hb34 : Below _ _ w4 := (by first | exact hb3.trans (hb4.mono hb3.size) | exact (hb3.alloc hb3.size _).trans (hb4.mono (by simp; omega)) | exact ((hb3.alloc hb3.size _).alloc (by simp; omega) _).trans (hb4.mono (by simp; omega))); obtain ⟨hkc34, hkf34⟩ := kept_cells hb34; obtain ⟨hl34a, hl34b, hl34c, hl34d, hl34e, hl34f⟩ := kept_lt hb34))
      all_goals
        clear hkc3 hkf3 hkc4 hkf4 hkc34 hkf34 hl3a hl3b hl3c hl3d hl3e hl3f hl4a hl4b hl4c hl4d hl4e hl4f hl34a hl34b hl34c hl34d hl34e hl34f hdc hdf x0 x1 x2 x3 y0 y1 y2 y3
        go_wp2_with fail
        go_meet
        refine ⟨_, _, rfl, rfl, ?_, ?_, ?_, ?_, ?_⟩
        · (repeat first | with_reducible exact HX0.out | with_reducible exact HY0.out | ((with_reducible refine Fx.new ?hng); case hng => first | rfl | (simp; done)) | with_reducible refine Fx.put ?_ | ((with_reducible refine Fx.far1 ?_ ?hne); case hne => first | omega | (simp; omega)) | with_reducible refine Fx.more ?_ _ | with_reducible refine Fx.drew ?_ | with_reducible refine Fx.below ?_ hb4 | with_reducible refine Fx.below ?_ hb3)
        · (repeat first | with_reducible exact HX0.out | with_reducible exact HY0.out | ((with_reducible refine Fx.new ?hng); case hng => first | rfl | (simp; done)) | with_reducible refine Fx.put ?_ | ((with_reducible refine Fx.far1 ?_ ?hne); case hne => first | omega | (simp; omega)) | with_reducible refine Fx.more ?_ _ | with_reducible refine Fx.drew ?_ | with_reducible refine Fx.below ?_ hb4 | with_reducible refine Fx.below ?_ hb3)
        · (repeat first | with_reducible exact HX0.out | with_reducible exact HY0.out | ((with_reducible refine Fx.new ?hng); case hng => first | rfl | (simp; done)) | with_reducible refine Fx.put ?_ | ((with_reducible refine Fx.far1 ?_ ?hne); case hne => first | omega | (simp; omega)) | with_reducible refine Fx.more ?_ _ | with_reducible refine Fx.drew ?_ | with_reducible refine Fx.below ?_ hb4 | with_reducible refine Fx.below ?_ hb3)
        · (repeat first | with_reducible exact HX0.out | with_reducible exact HY0.out | ((with_reducible refine Fx.new ?hng); case hng => first | rfl | (simp; done)) | with_reducible refine Fx.put ?_ | ((with_reducible refine Fx.far1 ?_ ?hne); case hne => first | omega | (simp; omega)) | with_reducible refine Fx.more ?_ _ | with_reducible refine Fx.drew ?_ | with_reducible refine Fx.below ?_ hb4 | with_reducible refine Fx.below ?_ hb3)
        · repeat first
            | with_reducible exact HB2.out
            | (with_reducible refine Below.setCell (p := ⟨_, _, none⟩) ?_ ?_ _)
            | (with_reducible refine Below.alloc ?_ ?_ _)
            | (with_reducible refine Below.drew ?_)
            | (with_reducible refine Below.trans ?_ (hb4.mono ?_))
            | (with_reducible refine Below.trans ?_ (hb3.mono ?_))
          all_goals (first | omega | (simp [hdz]; omega))
    case rest =>
      obtain ⟨g7, g8, rfl, rfl, hx7, hx8, hxt, hxu, hbw⟩ := hcut
      have HA0 : Hid (AllT w g7 g8 t u A B c d wc) := Lib.hid ⟨hx7, hx8, hxt, hxu, hbw⟩
      clear hx7 hx8 hxt hxu hbw HBT HBU
      obtain ⟨⟨⟨a0, a1, a2, a3⟩, hg7⟩, ⟨⟨b0, b1, b2, b3⟩, hg8⟩, ⟨⟨p0, p1, p2, p3⟩, hg3⟩, ⟨⟨q0, q1, q2, q3⟩, hg4⟩, -⟩ := HA0.out
      go_wp2_with fail
      refine (rcheck_any t A c _ (HT.out.below HA0.out.all)).mono ?_
      rintro e w1 ⟨rfl, hb1⟩
      have HA1 := Lib.hid (HA0.out.below hb1)
      clear hb1 HA0 a0 a1 a2 a3 hg7 b0 b1 b2 b3 hg8 p0 p1 p2 p3 hg3 q0 q1 q2 q3 hg4
      obtain ⟨⟨⟨a0, a1, a2, a3⟩, hg7⟩, ⟨⟨b0, b1, b2, b3⟩, hg8⟩, ⟨⟨p0, p1, p2, p3⟩, hg3⟩, ⟨⟨q0, q1, q2, q3⟩, hg4⟩, -⟩ := HA1.out
      have HC1 := Lib.hid (fun (W : World) (h : Below w1.heap.size w1 W) => tcheck_any t A c W (HT.out.below (step_below HA1.out.all h)))
      have HC2 := Lib.hid (fun (W : World) (h : Below w1.heap.size w1 W) => same_any t u A B c d W (HT.out.below (step_below HA1.out.all h)) (HU.out.below (step_below HA1.out.all h)))
      have HC3 := Lib.hid (fun (W : World) (h : Below w1.heap.size w1 W) => rsame_any t u A B c d W (HT.out.below (step_below HA1.out.all h)) (HU.out.below (step_below HA1.out.all h)) (by omega))
      have HC4 := Lib.hid (fun (W : World) => (name_any t.name W (by unfold maxLen; omega)).mono (R' := fun e w' => e = .returned (.bool (nm t.name)) ∧ Below W.heap.size W w') (by rintro e w2 ⟨rfl, rfl⟩; exact ⟨rfl, Below.refl _ _⟩))
      have HC5 := Lib.hid (fun (W : World) => (rname_any t.name W (by unfold maxLen; omega)).mono (R' := fun e w' => e = .returned (.bool (nm t.name)) ∧ Below W.heap.size W w') (by rintro e w2 ⟨rfl, rfl⟩; exact ⟨rfl, Below.refl _ _⟩))
      have k0 := fun d os => cell_regrown a0 d os
      have k1 := fun d os => cell_regrown a1 d os
      have k2 := fun d os => cell_regrown a2 d os
      have k3 := fun d os => cell_regrown a3 d os
      have l0 := fun d os => cell_regrown b0 d os
      have l1 := fun d os => cell_regrown b1 d os
      have l2 := fun d os => cell_regrown b2 d os
      have l3 := fun d os => cell_regrown b3 d os
      have m0 := fun d os => cell_regrown p0 d os
      have m1 := fun d os => cell_regrown p1 d os
      have m2 := fun d os => cell_regrown p2 d os
      have m3 := fun d os => cell_regrown p3 d os
      have n0 := fun d os => cell_regrown q0 d os
      have n1 := fun d os => cell_regrown q1 d os
      have n2 := fun d os => cell_regrown q2 d os
      have n3 := fun d os => cell_regrown q3 d os
      clear a0 a1 a2 a3 hg7 b0 b1 b2 b3 hg8 p0 p1 p2 p3 hg3 q0 q1 q2 q3 hg4
      generalize hck : ck t = K at *
      generalize hss : sameT t u = S at *
      generalize hnm : nm t.name = N at *
      have HCK := Lib.hid hck
      clear hck hss hnm
      go_upto_region 5 with fail
      refine wp_region_quiet_below (by kernel_rfl) (by kernel_rfl) ?_
      repeat (go_big_quiet_step ((first
        | (go_at_call 8; exact Calls.regrown_of (HC1.out _ (below_regrown _ _ _)))
        | (go_at_call 9; exact Calls.regrown_of (HC2.out _ (below_regrown _ _ _)))
        | (go_at_call 10; exact Calls.regrown_of (HC3.out _ (below_regrown _ _ _)))
        | (go_at_call 11; exact Calls.regrown_of (HC4.out _))
        | (go_at_call 12; exact Calls.regrown_of (HC5.out _)))))
      refine wpQuiet_nil ?_
      rintro w2 ⟨p, rfl⟩
      have HA2 := Lib.hid (HA1.out.below (below_regrown w1 p.d p.os))
      clear k0 k1 k2 k3 l0 l1 l2 l3 m0 m1 m2 m3 n0 n1 n2 n3 HC1 HC2 HC3 HC4 HC5 HA1
      generalize grow (redrawn w1 p.d) p.os = w2 at HA2 ⊢
      obtain ⟨⟨⟨a0, a1, a2, a3⟩, hg7⟩, ⟨⟨b0, b1, b2, b3⟩, hg8⟩, ⟨⟨p0, p1, p2, p3⟩, hg3⟩, ⟨⟨q0, q1, q2, q3⟩, hg4⟩, -⟩ := HA2.out
      obtain ⟨s, hs, hs8⟩ := size_nat t.kind
      have HS := Lib.hid hs
      unfold I64 at hi
      clear hs
      go_wp2_with fail
      refine (refSize_any t.kind _).mono ?_
      rintro e w3 ⟨rfl, rfl⟩
      rw [HS.out]
      go_upto_region 9 with fail
      have hb4 : (∃ b : Bool, b = false ∧ el t.kind t.data i = ⟨#[]⟩ ∧ (decide ((0 : Int) < (s : Int)) = false ∨ (decide ((0 : Int) < (s : Int)) = true ∧ decide (0 ≤ i) = false) ∨ (decide ((0 : Int) < (s : Int)) = true ∧ decide (0 ≤ i) = true ∧ decide (i < (t.data.size : Int) / (s : Int)) = false))) ∨
          (∃ b : Bool, b = true ∧ decide ((0 : Int) < (s : Int)) = true ∧ decide (0 ≤ i) = true ∧ decide (i < (t.data.size : Int) / (s : Int)) = true) := by
        simp only [decide_eq_true_eq, decide_eq_false_iff_not]
        by_cases h0 : s = 0
        · exact .inl ⟨false, rfl, el_none (.inl (by rw [HS.out, h0]; rfl)), .inl (by omega)⟩
        · by_cases h1 : i < 0
          · exact .inl ⟨false, rfl, el_none (.inr (.inl h1)), .inr (.inl ⟨by omega, by omega⟩)⟩
          · by_cases h2 : (t.data.size : Int) / (s : Int) ≤ i
            · exact .inl ⟨false, rfl, el_none (.inr (.inr (by rw [HS.out]; exact h2))), .inr (.inr ⟨by omega, by omega, by omega⟩)⟩
            · exact .inr ⟨true, rfl, by omega, by omega, by omega⟩
      have HB4 := Lib.hid hb4
      clear hb4
      go_cut [101] from 87 to 102 (fun s101 wx => ∃ b : Bool, s101 = .bool b ∧ AllT w g7 g8 t u A B c d wx ∧ ((b = false ∧ el t.kind t.data i = ⟨#[]⟩) ∨ (b = true ∧ decide ((0 : Int) < (s : Int)) = true ∧ decide (0 ≤ i) = true ∧ decide (i < (t.data.size : Int) / (s : Int)) = true)))
      case first =>
        have hdv := div_small (n := t.data.size) (s := s)
        rcases HB4.out with ⟨b, rfl, he, h | ⟨h1, h2⟩ | ⟨h1, h2, h3⟩⟩ | ⟨b, rfl, h1, h2, h3⟩
        · have HE := Lib.hid he
          have hn : decide (0 < s) = false := by simp only [decide_eq_false_iff_not] at h ⊢; omega
          clear he
          go_wp2_with fail
          go_meet
          exact ⟨false, rfl, HA2.out, .inl ⟨rfl, HE.out⟩⟩
        · have HE := Lib.hid he
          have hn : decide (0 < s) = true := by simp only [decide_eq_true_eq] at h1 ⊢; omega
          clear he
          go_wp2_with fail
          go_meet
          exact ⟨false, rfl, HA2.out, .inl ⟨rfl, HE.out⟩⟩
        · have HE := Lib.hid he
          have hs1 : ¬ (s : Int) = 0 := by simp only [decide_eq_true_eq] at h1; omega
          have hn : decide (0 < s) = true := by simp only [decide_eq_true_eq] at h1 ⊢; omega
          have H3 := Lib.hid h3
          clear he h3
          go_wp2_with fail
          go_meet
          exact ⟨_, rfl, HA2.out, .inl ⟨H3.out, HE.out⟩⟩
        · have hs1 : ¬ (s : Int) = 0 := by simp only [decide_eq_true_eq] at h1; omega
          have hn : decide (0 < s) = true := by simp only [decide_eq_true_eq] at h1 ⊢; omega
          have H3 := Lib.hid h3
          have H12 := Lib.hid (And.intro h1 h2)
          clear h3
          go_wp2_with fail
          go_meet
          exact ⟨_, rfl, HA2.out, .inr ⟨H3.out, H12.out.1, H12.out.2, H3.out⟩⟩
      case rest =>
        obtain ⟨b, rfl, hal, hbb⟩ := hcut
        have HBB := Lib.hid hbb
        have HA3 := Lib.hid hal
        clear hbb hal HB4 a0 a1 a2 a3 hg7 b0 b1 b2 b3 hg8 p0 p1 p2 p3 hg3 q0 q1 q2 q3 hg4 HA2
        obtain ⟨⟨⟨a0, a1, a2, a3⟩, hg7⟩, ⟨⟨b0, b1, b2, b3⟩, hg8⟩, ⟨⟨p0, p1, p2, p3⟩, hg3⟩, ⟨⟨q0, q1, q2, q3⟩, hg4⟩, -⟩ := HA3.out
        go_upto_if 101 with fail
        go_cut [11] from 102 to 113 (fun s11 wx => s11 = .string (el t.kind t.data i) ∧ AllT w g7 g8 t u A B c d wx)
        case first =>
          rcases HBB.out with ⟨rfl, he⟩ | ⟨rfl, h1, h2, h3⟩
          · have HE := Lib.hid he
            clear he
            go_wp2_with fail
            go_meet
            exact ⟨by rw [HE.out], HA3.out⟩
          · simp only [decide_eq_true_eq] at h1 h2 h3
            obtain ⟨j, rfl⟩ := Int.eq_ofNat_of_zero_le h2
            obtain ⟨k0, k1, k2, k3, k4⟩ := cut_prod (el_fits (by omega) h3)
            have hst : (kSize t.kind).toNat = s := by rw [HS.out]; omega
            have he := el_some (k := t.kind) (d := t.data) (i := (j : Int)) (by rw [HS.out]; omega)
            rw [hst, show ((j : Int)).toNat = j by omega] at he
            have hjk : (j : Int) * (s : Int) + (s : Int) = ((j : Int) + 1) * (s : Int) := by rw [Int.add_mul, Int.one_mul]
            have HE := Lib.hid he
            clear he hst
            go_wp2_with fail
            go_meet
            refine ⟨?_, HA3.out⟩
            rw [HE.out]
        case rest =>
          obtain ⟨rfl, hal⟩ := hcut
          have HA4 := Lib.hid hal
          clear hal HA3 HBB a0 a1 a2 a3 hg7 b0 b1 b2 b3 hg8 p0 p1 p2 p3 hg3 q0 q1 q2 q3 hg4
          obtain ⟨⟨⟨a0, a1, a2, a3⟩, hg7⟩, ⟨⟨b0, b1, b2, b3⟩, hg8⟩, ⟨⟨p0, p1, p2, p3⟩, hg3⟩, ⟨⟨q0, q1, q2, q3⟩, hg4⟩, -⟩ := HA4.out
          go_wp2_with fail
          refine (elem_any t A c i _ (HT.out.below HA4.out.all) hi).mono ?_
          rintro e w5 ⟨rfl, hb5⟩
          have HA5 := Lib.hid (HA4.out.below hb5)
          clear hb5 HA4 a0 a1 a2 a3 hg7 b0 b1 b2 b3 hg8 p0 p1 p2 p3 hg3 q0 q1 q2 q3 hg4
          obtain ⟨⟨⟨a0, a1, a2, a3⟩, hg7⟩, ⟨⟨b0, b1, b2, b3⟩, hg8⟩, ⟨⟨p0, p1, p2, p3⟩, hg3⟩, ⟨⟨q0, q1, q2, q3⟩, hg4⟩, -⟩ := HA5.out
          generalize el t.kind t.data i = E at *
          go_wp2_with fail
          refine (tints_any t A c _ (HT.out.below HA5.out.all)).mono ?_
          rintro e w6 ⟨v1, ys1, rfl, hown1, hb6, hi1, hi2⟩
          have HA6 := Lib.hid (HA5.out.below hb6)
          have HO1 := Lib.hid (And.intro (own_base hown1 HA5.out.all.size) (And.intro hi1 hi2))
          obtain ⟨A1, c1, rfl, -, -⟩ := own_form hown1
          clear hown1 hi1 hi2 hb6 HA5 a0 a1 a2 a3 hg7 b0 b1 b2 b3 hg8 p0 p1 p2 p3 hg3 q0 q1 q2 q3 hg4
          obtain ⟨⟨⟨a0, a1, a2, a3⟩, hg7⟩, ⟨⟨b0, b1, b2, b3⟩, hg8⟩, ⟨⟨p0, p1, p2, p3⟩, hg3⟩, ⟨⟨q0, q1, q2, q3⟩, hg4⟩, -⟩ := HA6.out
          go_wp2_with fail
          refine (tflags_any t A c _ (HT.out.below HA6.out.all)).mono ?_
          rintro e w7 ⟨v2, ys2, rfl, hown2, hb7, hi1, hi2⟩
          have HA7 := Lib.hid (HA6.out.below hb7)
          have HO2 := Lib.hid (And.intro (own_base hown2 HA6.out.all.size) (And.intro hi1 hi2))
          have HO1b := Lib.hid (own_keep HO1.out.1 hb7)
          obtain ⟨A2, c2, rfl, -, -⟩ := own_form hown2
          clear hown2 hi1 hi2 hb7 HA6 a0 a1 a2 a3 hg7 b0 b1 b2 b3 hg8 p0 p1 p2 p3 hg3 q0 q1 q2 q3 hg4
          obtain ⟨⟨⟨a0, a1, a2, a3⟩, hg7⟩, ⟨⟨b0, b1, b2, b3⟩, hg8⟩, ⟨⟨p0, p1, p2, p3⟩, hg3⟩, ⟨⟨q0, q1, q2, q3⟩, hg4⟩, -⟩ := HA7.out
          go_wp2_with fail
          refine (tnums_any t A c _ (HT.out.below HA7.out.all)).mono ?_
          rintro e w8 ⟨v3, ps, rfl, hown3, hb8, hi1, hi2⟩
          obtain ⟨A3, c3, rfl, -, -⟩ := own_form hown3
          have HS8 : Hid (AllS w g7 g8 t u A B c d (.slice A1 ys1.length c1) (.slice A2 ys2.length c2) (.slice A3 ps.length c3) ys1 ys2 ps w8) := Lib.hid ⟨HA7.out.below hb8, own_keep HO1b.out hb8, own_keep HO2.out.1 hb8, own_base hown3 HA7.out.all.size⟩
          have HF1 := Lib.hid HO1.out.2
          have HF2 := Lib.hid HO2.out.2
          have HF3 := Lib.hid (And.intro hi1 hi2)
          clear hown3 hi1 hi2 hb8 HA7 HO1 HO1b HO2 a0 a1 a2 a3 hg7 b0 b1 b2 b3 hg8 p0 p1 p2 p3 hg3 q0 q1 q2 q3 hg4
          go_wp2_with fail
          have HEC : Hid ((K ≠ 0 ∧ ec 7 t = K ∧ ec 9 t = K ∧ ec 14 t = K) ∨ (K = 0 ∧ ec 7 t = (if t.kind = 7 then 0 else 13) ∧ ec 9 t = (if t.kind = 9 then 0 else 13) ∧ ec 14 t = (if t.kind = 14 then 0 else 13))) := Lib.hid (by
            have h := HCK.out
            unfold ec
            by_cases h0 : K = 0
            · refine .inr ⟨h0, ?_, ?_, ?_⟩ <;> rw [h, if_neg (by omega)]
            · refine .inl ⟨h0, ?_, ?_, ?_⟩ <;> rw [h, if_pos (by omega)])
          generalize ec 7 t = e1 at *
          generalize ec 9 t = e2 at *
          generalize ec 14 t = e3 at *
          have HBC : Hid (Bx w w8.heap.size #[.int .i64 e1, .int .i64 e2, .int .i64 e3] 31 (w8.alloc (.cells #[.int .i64 e1, .int .i64 e2, .int .i64 e3] 31))) := Lib.hid ⟨heap_alloc_new w8 _, by simp, HS8.out.all.alloc HS8.out.all.size _⟩
          have HS9 := Lib.hid (HS8.out.more (.cells #[.int .i64 e1, .int .i64 e2, .int .i64 e3] 31))
          clear HS8
          generalize hgc : w8.heap.size = gc at *
          go_loopw [18, 19, 20, 138] (fun _ _ _ i wr => ∃ (j : Nat) (J : Int), i = .int .i64 J ∧ J = (j : Nat) ∧ j ≤ 3 ∧ AllS w g7 g8 t u A B c d (.slice A1 ys1.length c1) (.slice A2 ys2.length c2) (.slice A3 ps.length c3) ys1 ys2 ps wr ∧ Bx w gc #[.int .i64 e1, .int .i64 e2, .int .i64 e3] 31 wr) (fun _ _ _ i _ => 3 - (intOf i).toNat)
          case atStart => exact ⟨0, _, rfl, rfl, by omega, HS9.out, HBC.out⟩
          case round =>
            obtain ⟨j, J, rfl, rfl, hj, has, hbc⟩ := hrel
            have HSR := Lib.hid has
            have HBR := Lib.hid hbc
            clear has hbc
            obtain ⟨⟨⟨a0, a1, a2, a3⟩, hg7⟩, ⟨⟨b0, b1, b2, b3⟩, hg8⟩, ⟨⟨p0, p1, p2, p3⟩, hg3⟩, ⟨⟨q0, q1, q2, q3⟩, hg4⟩, -⟩ := HSR.out.1
            have z0 : wr.cell? ⟨gc, 0, none⟩ = some (.int .i64 e1) := cell_of_row _ _ _ _ _ _ HBR.out.1
            have z1 : wr.cell? ⟨gc, 1, none⟩ = some (.int .i64 e2) := cell_of_row _ _ _ _ _ _ HBR.out.1
            have z2 : wr.cell? ⟨gc, 2, none⟩ = some (.int .i64 e3) := cell_of_row _ _ _ _ _ _ HBR.out.1
            by_cases hlt : j < 3
            · rcases (by omega : j = 0 ∨ j = 1 ∨ j = 2) with rfl | rfl | rfl
              · go_upto_region 19 with fail
                go_cut [20] from 143 to 150 (fun s20 wx => s20 = .bool (t.kind == 7) ∧ AllS w g7 g8 t u A B c d (.slice A1 ys1.length c1) (.slice A2 ys2.length c2) (.slice A3 ps.length c3) ys1 ys2 ps wx ∧ Bx w gc #[.int .i64 e1, .int .i64 e2, .int .i64 e3] 31 wx)
                case first =>
                  go_region
                  all_goals
                    go_wp2_with fail
                    go_meet
                    exact ⟨rfl, HSR.out.below (((Below.refl _ _).alloc (Nat.le_refl _) _).drew), HBR.out.below (((Below.refl _ _).alloc (Nat.le_refl _) _).drew)⟩
                case rest =>
                  obtain ⟨rfl, has, hbc⟩ := hcut
                  have HSQ := Lib.hid has
                  have HBQ := Lib.hid hbc
                  clear has hbc z0 z1 z2 HSR HBR a0 a1 a2 a3 hg7 b0 b1 b2 b3 hg8 p0 p1 p2 p3 hg3 q0 q1 q2 q3 hg4
                  have hec : (K = 0 ∧ t.kind = 7 ∧ e1 = 0) ∨ (K = 0 ∧ t.kind ≠ 7 ∧ e1 = 13) ∨ (K ≠ 0 ∧ e1 = K) := by
                    rcases HEC.out with ⟨h0, h1, h2, h3⟩ | ⟨h0, h1, h2, h3⟩
                    · exact .inr (.inr ⟨h0, by assumption⟩)
                    · by_cases hk : t.kind = 7
                      · exact .inl ⟨h0, hk, by first | (rw [if_pos hk] at h1; exact h1) | (rw [if_pos hk] at h2; exact h2) | (rw [if_pos hk] at h3; exact h3)⟩
                      · exact .inr (.inl ⟨h0, hk, by first | (rw [if_neg hk] at h1; exact h1) | (rw [if_neg hk] at h2; exact h2) | (rw [if_neg hk] at h3; exact h3)⟩)
                  rcases hec with ⟨h1, h2, h3⟩ | ⟨h1, h2, h3⟩ | ⟨h1, h2⟩
                  · have t1 : (K != 0) = false := by simpa using h1
                    have t2 : (K == 0) = true := by simpa using h1
                    have t3 : (t.kind == 7) = true := by simpa using h2
                    have t4 : (e1 != 0) = false := by simpa using h3
                    clear h1 h2 h3
                    go_wp2_with fail
                    go_roundw
                    case rel => exact ⟨1, _, rfl, by omega, by omega, HSQ.out, HBQ.out⟩
                    case measure => simp [intOf]
                  · have t1 : (K != 0) = false := by simpa using h1
                    have t2 : (K == 0) = true := by simpa using h1
                    have t3 : (t.kind == 7) = false := by simpa using h2
                    have t4 : (e1 != 13) = false := by simpa using h3
                    clear h1 h2 h3
                    go_wp2_with fail
                    go_roundw
                    case rel => exact ⟨1, _, rfl, by omega, by omega, HSQ.out, HBQ.out⟩
                    case measure => simp [intOf]
                  · have t1 : (K != 0) = true := by simpa using h1
                    have t2 : (K == 0) = false := by simpa using h1
                    have t4 : (e1 != K) = false := by simpa using h2
                    clear h1 h2
                    go_wp2_with fail
                    go_roundw
                    case rel => exact ⟨1, _, rfl, by omega, by omega, HSQ.out, HBQ.out⟩
                    case measure => simp [intOf]
              · go_upto_region 19 with fail
                go_cut [20] from 143 to 150 (fun s20 wx => s20 = .bool (t.kind == 9) ∧ AllS w g7 g8 t u A B c d (.slice A1 ys1.length c1) (.slice A2 ys2.length c2) (.slice A3 ps.length c3) ys1 ys2 ps wx ∧ Bx w gc #[.int .i64 e1, .int .i64 e2, .int .i64 e3] 31 wx)
                case first =>
                  go_region
                  all_goals
                    go_wp2_with fail
                    go_meet
                    exact ⟨rfl, HSR.out.below (((Below.refl _ _).alloc (Nat.le_refl _) _).drew), HBR.out.below (((Below.refl _ _).alloc (Nat.le_refl _) _).drew)⟩
                case rest =>
                  obtain ⟨rfl, has, hbc⟩ := hcut
                  have HSQ := Lib.hid has
                  have HBQ := Lib.hid hbc
                  clear has hbc z0 z1 z2 HSR HBR a0 a1 a2 a3 hg7 b0 b1 b2 b3 hg8 p0 p1 p2 p3 hg3 q0 q1 q2 q3 hg4
                  have hec : (K = 0 ∧ t.kind = 9 ∧ e2 = 0) ∨ (K = 0 ∧ t.kind ≠ 9 ∧ e2 = 13) ∨ (K ≠ 0 ∧ e2 = K) := by
                    rcases HEC.out with ⟨h0, h1, h2, h3⟩ | ⟨h0, h1, h2, h3⟩
                    · exact .inr (.inr ⟨h0, by assumption⟩)
                    · by_cases hk : t.kind = 9
                      · exact .inl ⟨h0, hk, by first | (rw [if_pos hk] at h1; exact h1) | (rw [if_pos hk] at h2; exact h2) | (rw [if_pos hk] at h3; exact h3)⟩
                      · exact .inr (.inl ⟨h0, hk, by first | (rw [if_neg hk] at h1; exact h1) | (rw [if_neg hk] at h2; exact h2) | (rw [if_neg hk] at h3; exact h3)⟩)
                  rcases hec with ⟨h1, h2, h3⟩ | ⟨h1, h2, h3⟩ | ⟨h1, h2⟩
                  · have t1 : (K != 0) = false := by simpa using h1
                    have t2 : (K == 0) = true := by simpa using h1
                    have t3 : (t.kind == 9) = true := by simpa using h2
                    have t4 : (e2 != 0) = false := by simpa using h3
                    clear h1 h2 h3
                    go_wp2_with fail
                    go_roundw
                    case rel => exact ⟨2, _, rfl, by omega, by omega, HSQ.out, HBQ.out⟩
                    case measure => simp [intOf]
                  · have t1 : (K != 0) = false := by simpa using h1
                    have t2 : (K == 0) = true := by simpa using h1
                    have t3 : (t.kind == 9) = false := by simpa using h2
                    have t4 : (e2 != 13) = false := by simpa using h3
                    clear h1 h2 h3
                    go_wp2_with fail
                    go_roundw
                    case rel => exact ⟨2, _, rfl, by omega, by omega, HSQ.out, HBQ.out⟩
                    case measure => simp [intOf]
                  · have t1 : (K != 0) = true := by simpa using h1
                    have t2 : (K == 0) = false := by simpa using h1
                    have t4 : (e2 != K) = false := by simpa using h2
                    clear h1 h2
                    go_wp2_with fail
                    go_roundw
                    case rel => exact ⟨2, _, rfl, by omega, by omega, HSQ.out, HBQ.out⟩
                    case measure => simp [intOf]
              · go_upto_region 19 with fail
                go_cut [20] from 143 to 150 (fun s20 wx => s20 = .bool (t.kind == 14) ∧ AllS w g7 g8 t u A B c d (.slice A1 ys1.length c1) (.slice A2 ys2.length c2) (.slice A3 ps.length c3) ys1 ys2 ps wx ∧ Bx w gc #[.int .i64 e1, .int .i64 e2, .int .i64 e3] 31 wx)
                case first =>
                  go_region
                  all_goals
                    go_wp2_with fail
                    go_meet
                    exact ⟨rfl, HSR.out.below (((Below.refl _ _).alloc (Nat.le_refl _) _).drew), HBR.out.below (((Below.refl _ _).alloc (Nat.le_refl _) _).drew)⟩
                case rest =>
                  obtain ⟨rfl, has, hbc⟩ := hcut
                  have HSQ := Lib.hid has
                  have HBQ := Lib.hid hbc
                  clear has hbc z0 z1 z2 HSR HBR a0 a1 a2 a3 hg7 b0 b1 b2 b3 hg8 p0 p1 p2 p3 hg3 q0 q1 q2 q3 hg4
                  have hec : (K = 0 ∧ t.kind = 14 ∧ e3 = 0) ∨ (K = 0 ∧ t.kind ≠ 14 ∧ e3 = 13) ∨ (K ≠ 0 ∧ e3 = K) := by
                    rcases HEC.out with ⟨h0, h1, h2, h3⟩ | ⟨h0, h1, h2, h3⟩
                    · exact .inr (.inr ⟨h0, by assumption⟩)
                    · by_cases hk : t.kind = 14
                      · exact .inl ⟨h0, hk, by first | (rw [if_pos hk] at h1; exact h1) | (rw [if_pos hk] at h2; exact h2) | (rw [if_pos hk] at h3; exact h3)⟩
                      · exact .inr (.inl ⟨h0, hk, by first | (rw [if_neg hk] at h1; exact h1) | (rw [if_neg hk] at h2; exact h2) | (rw [if_neg hk] at h3; exact h3)⟩)
                  rcases hec with ⟨h1, h2, h3⟩ | ⟨h1, h2, h3⟩ | ⟨h1, h2⟩
                  · have t1 : (K != 0) = false := by simpa using h1
                    have t2 : (K == 0) = true := by simpa using h1
                    have t3 : (t.kind == 14) = true := by simpa using h2
                    have t4 : (e3 != 0) = false := by simpa using h3
                    clear h1 h2 h3
                    go_wp2_with fail
                    go_roundw
                    case rel => exact ⟨3, _, rfl, by omega, by omega, HSQ.out, HBQ.out⟩
                    case measure => simp [intOf]
                  · have t1 : (K != 0) = false := by simpa using h1
                    have t2 : (K == 0) = true := by simpa using h1
                    have t3 : (t.kind == 14) = false := by simpa using h2
                    have t4 : (e3 != 13) = false := by simpa using h3
                    clear h1 h2 h3
                    go_wp2_with fail
                    go_roundw
                    case rel => exact ⟨3, _, rfl, by omega, by omega, HSQ.out, HBQ.out⟩
                    case measure => simp [intOf]
                  · have t1 : (K != 0) = true := by simpa using h1
                    have t2 : (K == 0) = false := by simpa using h1
                    have t4 : (e3 != K) = false := by simpa using h2
                    clear h1 h2
                    go_wp2_with fail
                    go_roundw
                    case rel => exact ⟨3, _, rfl, by omega, by omega, HSQ.out, HBQ.out⟩
                    case measure => simp [intOf]
            · obtain rfl : j = 3 := by omega
              rw [show ((3 : Nat) : Int) = 3 from rfl]
              have HE3 : Hid ((e1 = 0 ∧ e2 ≠ 0 ∧ e3 ≠ 0 ∧ ys1 = i8s t.data ∧ ys2.length = 0 ∧ ps.length = 0) ∨ (e1 ≠ 0 ∧ e2 = 0 ∧ e3 ≠ 0 ∧ ys1.length = 0 ∧ ys2.length = t.data.size ∧ ps.length = 0) ∨ (e1 ≠ 0 ∧ e2 ≠ 0 ∧ e3 = 0 ∧ ys1.length = 0 ∧ ys2.length = 0 ∧ 8 * ps.length = t.data.size) ∨ (e1 ≠ 0 ∧ e2 ≠ 0 ∧ e3 ≠ 0 ∧ ys1.length = 0 ∧ ys2.length = 0 ∧ ps.length = 0)) := Lib.hid (by
                have l1 : e1 ≠ 0 → ys1.length = 0 := fun h => by rw [HF1.out.2 h]; rfl
                have l2 : e2 ≠ 0 → ys2.length = 0 := fun h => by rw [HF2.out.2 h]; rfl
                have l3 : e3 ≠ 0 → ps.length = 0 := fun h => by rw [HF3.out.2 h]; rfl
                rcases HEC.out with ⟨h0, h1, h2, h3⟩ | ⟨h0, h1, h2, h3⟩
                · exact .inr (.inr (.inr ⟨by omega, by omega, by omega, l1 (by omega), l2 (by omega), l3 (by omega)⟩))
                · by_cases k7 : t.kind = 7
                  · rw [if_pos k7] at h1; rw [if_neg (by omega)] at h2 h3
                    exact .inl ⟨h1, by omega, by omega, HF1.out.1 h1, l2 (by omega), l3 (by omega)⟩
                  · rw [if_neg k7] at h1
                    by_cases k9 : t.kind = 9
                    · rw [if_pos k9] at h2; rw [if_neg (by omega)] at h3
                      exact .inr (.inl ⟨by omega, h2, by omega, l1 (by omega), by rw [HF2.out.1 h2, fls_len], l3 (by omega)⟩)
                    · rw [if_neg k9] at h2
                      by_cases k14 : t.kind = 14
                      · rw [if_pos k14] at h3
                        obtain ⟨n, hn, hdv, -⟩ := count_of (t := t) (HCK.out.trans h0) k14 (s := 8) (by decide) (by decide)
                        exact .inr (.inr (.inl ⟨by omega, by omega, h3, l1 (by omega), l2 (by omega), by rw [(HF3.out.1 h3).1, hdv, hn]; omega⟩))
                      · rw [if_neg k14] at h3
                        exact .inr (.inr (.inr ⟨by omega, by omega, by omega, l1 (by omega), l2 (by omega), l3 (by omega)⟩)))
              clear z0 z1 z2
              go_upto_region 23 with fail
              go_cut [214] from 181 to 214 (fun s214 wx => s214 = .bool false ∧ AllS w g7 g8 t u A B c d (.slice A1 ys1.length c1) (.slice A2 ys2.length c2) (.slice A3 ps.length c3) ys1 ys2 ps wx)
              case first =>
                rcases HE3.out with ⟨h1, h2, h3, h4, h5, h6⟩ | ⟨h1, h2, h3, h4, h5, h6⟩ | ⟨h1, h2, h3, h4, h5, h6⟩ | ⟨h1, h2, h3, h4, h5, h6⟩
                · have t1 : (e1 == 0) = true := by simpa using h1
                  have t2 : (e2 == 0) = false := by simpa using h2
                  have t3 : (e3 == 0) = false := by simpa using h3
                  have H4 := Lib.hid h4
                  clear h1 h2 h3 h4 h5 h6
                  go_wp2_with fail
                  refine (rints_any t.name t.kind A t.dims.length c t.data _ (by omega)).mono ?_
                  rintro e w10 ⟨vr, rfl, hownr, hbr⟩
                  obtain ⟨Ar, cr, rfl, -, -⟩ := own_form hownr
                  have HSX := Lib.hid (HSR.out.below hbr)
                  have HI := Lib.hid (isInts_any A1 Ar c1 cr ys1 (i8s t.data) w10 (by rw [i8s_len]; unfold maxLen; omega) (SR.of_own HSX.out.2.1) (SR.of_own hownr))
                  rw [decide_eq_true H4.out] at HI
                  clear hownr hbr
                  go_wp2_with fail
                  refine HI.out.mono ?_
                  rintro e w11 ⟨rfl, hb11⟩
                  have HSY := Lib.hid (HSX.out.below hb11)
                  clear hb11 HI HSX
                  go_wp2_with fail
                  go_meet
                  exact ⟨rfl, HSY.out⟩
                · have t1 : (e1 == 0) = false := by simpa using h1
                  have t2 : (e2 == 0) = true := by simpa using h2
                  have t3 : (e3 == 0) = false := by simpa using h3
                  have t4 : ((ys2.length : Int) != (t.data.size : Int)) = false := by rw [h5]; simp
                  clear h1 h2 h3 h4 h5 h6
                  go_wp2_with fail
                  go_meet
                  exact ⟨rfl, HSR.out⟩
                · have t1 : (e1 == 0) = false := by simpa using h1
                  have t2 : (e2 == 0) = false := by simpa using h2
                  have t3 : (e3 == 0) = true := by simpa using h3
                  have t4 : (8 * (ps.length : Int) != (t.data.size : Int)) = false := by rw [← h6]; simp
                  have t5 : 8 * (ps.length : Int) ≤ 140737488351232 := by omega
                  clear h1 h2 h3 h4 h5 h6
                  go_wp2_with fail
                  go_meet
                  exact ⟨rfl, HSR.out⟩
                · have t1 : (e1 == 0) = false := by simpa using h1
                  have t2 : (e2 == 0) = false := by simpa using h2
                  have t3 : (e3 == 0) = false := by simpa using h3
                  clear h1 h2 h3 h4 h5 h6
                  go_wp2_with fail
                  go_meet
                  exact ⟨rfl, HSR.out⟩
              case rest =>
                obtain ⟨rfl, has⟩ := hcut
                have HSA := Lib.hid has
                clear has HSR HBR a0 a1 a2 a3 hg7 b0 b1 b2 b3 hg8 p0 p1 p2 p3 hg3 q0 q1 q2 q3 hg4
                have HB2 : Hid (∀ j (h : j < ys2.length), ∃ h2 : j < t.data.size, ys2[j] = decide (t.data[j].toNat = 1)) := Lib.hid (by
                  intro j h
                  by_cases h0 : e2 = 0
                  · have hy := HF2.out.1 h0
                    subst hy
                    have hj : j < t.data.size := by rw [fls_len] at h; exact h
                    exact ⟨hj, fls_at hj⟩
                  · have hy := HF2.out.2 h0
                    subst hy
                    cases h)
                have HB3 : Hid (∀ j (h : j < ps.length), 8 * j + 8 ≤ t.data.size ∧ RdSpec (t.data.extract (8 * j) (8 * j + 8)) ps[j].1 ps[j].2 0) := Lib.hid (by
                  intro j h
                  by_cases h0 : e3 = 0
                  · obtain ⟨hl, hr⟩ := HF3.out.1 h0
                    have h1 := hr j h
                    rw [show (j + 1) * 8 = 8 * j + 8 by omega, Nat.mul_comm j 8] at h1
                    exact ⟨by omega, h1⟩
                  · have hy := HF3.out.2 h0
                    subst hy
                    cases h)
                clear HEC HF1 HF2 HF3
                go_wp2_with fail
                go_loopw [21, 22, 217] (fun _ _ i wr => ∃ (j : Nat) (J : Int), i = .int .i64 J ∧ J = (j : Nat) ∧ j ≤ ys2.length ∧ AllS w g7 g8 t u A B c d (.slice A1 ys1.length c1) (.slice A2 ys2.length c2) (.slice A3 ps.length c3) ys1 ys2 ps wr) (fun _ _ i _ => ys2.length - (intOf i).toNat)
                case atStart => exact ⟨0, _, rfl, rfl, by omega, HSA.out⟩
                case round =>
                  obtain ⟨j, J, rfl, rfl, hj, has⟩ := hrel
                  have HSR := Lib.hid has
                  clear has HSA
                  obtain ⟨⟨⟨a0, a1, a2, a3⟩, hg7⟩, ⟨⟨b0, b1, b2, b3⟩, hg8⟩, ⟨⟨p0, p1, p2, p3⟩, hg3⟩, ⟨⟨q0, q1, q2, q3⟩, hg4⟩, -⟩ := HSR.out.1
                  by_cases hlt : j < ys2.length
                  · obtain ⟨bb, oo, rfl, hbb, y0⟩ := cell_at (SR.of_own HSR.out.2.2.1) hlt (u := .bool ys2[j]) (by simp)
                    obtain ⟨hjd, hv⟩ := HB2.out j hlt
                    rw [hv] at y0
                    by_cases h1 : t.data[j].toNat = 1
                    · rw [decide_eq_true h1] at y0
                      have h1' : ((t.data[j].toNat : Int) == 1) = true := by rw [beq_iff_eq]; omega
                      have h1n : (t.data[j].toNat == 1) = true := by simpa using h1
                      clear h1 hv
                      go_wp2_with fail
                      go_roundw
                      case rel => exact ⟨j + 1, _, rfl, by omega, by omega, HSR.out⟩
                      case measure => simp [intOf]; omega
                    · rw [decide_eq_false h1] at y0
                      have h1' : ((t.data[j].toNat : Int) == 1) = false := by rw [beq_eq_false_iff_ne]; omega
                      have h1n : (t.data[j].toNat == 1) = false := by simpa using h1
                      clear h1 hv
                      go_wp2_with fail
                      go_roundw
                      case rel => exact ⟨j + 1, _, rfl, by omega, by omega, HSR.out⟩
                      case measure => simp [intOf]; omega
                  · obtain rfl : j = ys2.length := by omega
                    go_wp2_with fail
                    clear a0 a1 a2 a3 hg7 b0 b1 b2 b3 hg8 p0 p1 p2 p3 hg3 q0 q1 q2 q3 hg4
                    go_loopw [23, 24, 25, 26, 232] (fun _ _ _ _ i wr => ∃ (j : Nat) (J : Int), i = .int .i64 J ∧ J = (j : Nat) ∧ j ≤ ps.length ∧ AllS w g7 g8 t u A B c d (.slice A1 ys1.length c1) (.slice A2 ys2.length c2) (.slice A3 ps.length c3) ys1 ys2 ps wr) (fun _ _ _ _ i _ => ps.length - (intOf i).toNat)
                    case atStart => exact ⟨0, _, rfl, rfl, by omega, HSR.out⟩
                    case round =>
                      obtain ⟨j, J, rfl, rfl, hj, has⟩ := hrel
                      have HSQ := Lib.hid has
                      clear has HSR
                      obtain ⟨⟨⟨a0, a1, a2, a3⟩, hg7⟩, ⟨⟨b0, b1, b2, b3⟩, hg8⟩, ⟨⟨p0, p1, p2, p3⟩, hg3⟩, ⟨⟨q0, q1, q2, q3⟩, hg4⟩, -⟩ := HSQ.out.1
                      by_cases hlt : j < ps.length
                      · obtain ⟨bb, oo, rfl, hbb, y0⟩ := cell_at (SR.of_own HSQ.out.2.2.2) hlt (u := .complex .f64 (fz ps[j].1) (fz ps[j].2)) (by rw [List.getElem?_map, List.getElem?_eq_getElem hlt]; rfl)
                        obtain ⟨h8, hrd⟩ := HB3.out j hlt
                        have h8' : 8 * (j : Int) + 8 ≤ (t.data.size : Int) := by omega
                        have HRD := Lib.hid hrd
                        have HR := Lib.hid (fun W => rread_any (t.data.extract (8 * j) (8 * j + 8)) W (by rw [ByteArray.size_extract]; unfold maxLen; omega))
                        have hgz := HSQ.out.1.2.2.2.2.size
                        clear hrd h8
                        generalize ps[j] = pp at *
                        obtain ⟨n, m⟩ := pp
                        dsimp only at y0
                        go_wp2_with fail
                        refine (HR.out _).mono ?_
                        rintro e w12 ⟨n', m', cc, rfl, hrd', hb12⟩
                        obtain ⟨rfl, rfl, rfl, hn1, hm1⟩ := rdSpec_one HRD.out hrd'
                        have HSX := Lib.hid (HSQ.out.below hb12)
                        have HZB := Lib.hid (Bx.start w12 #[.int .i64 n, .int .i64 m] 52)
                        have HSZ := Lib.hid (HSX.out.more (.cells #[.int .i64 n, .int .i64 m] 52))
                        clear hb12 hrd' HR HRD HSX HSQ a0 a1 a2 a3 hg7 b0 b1 b2 b3 hg8 p0 p1 p2 p3 hg3 q0 q1 q2 q3 hg4 y0
                        obtain ⟨z0, z1⟩ := cells_of2 HZB.out.1
                        go_wp2_with fail
                        refine (of_any n m _).mono ?_
                        rintro e w13 ⟨rfl, hb13⟩
                        have HSW := Lib.hid (HSZ.out.below hb13)
                        have o1 := fz_self (n := n) (by omega)
                        have o2 := fz_self (n := m) (by omega)
                        generalize fz n = xn at *
                        generalize fz m = xm at *
                        clear hb13 HSZ HZB z0 z1 hn1 hm1
                        go_wp2_with fail
                        go_roundw
                        case rel => exact ⟨j + 1, _, rfl, by omega, by omega, HSW.out⟩
                        case measure => simp [intOf]; omega
                      · obtain rfl : j = ps.length := by omega
                        go_wp2_with fail
                        refine (tawake_any _).mono ?_
                        rintro e w14 ⟨rfl, hb14⟩
                        have HEND := Lib.hid (HSQ.out.below hb14).all
                        clear hb14 HSQ
                        rcases HE3.out with ⟨h1, h2, h3, h4, h5, h6⟩ | ⟨h1, h2, h3, h4, h5, h6⟩ | ⟨h1, h2, h3, h4, h5, h6⟩ | ⟨h1, h2, h3, h4, h5, h6⟩
                        · have t1 : (e1 == 0) = true := by simpa using h1
                          have t2 : (e2 == 0) = false := by simpa using h2
                          have t3 : (e3 == 0) = false := by simpa using h3
                          have t5 : ((ys2.length : Int) == 0) = true := by rw [beq_iff_eq]; omega
                          have t6 : ((ps.length : Int) == 0) = true := by rw [beq_iff_eq]; omega
                          clear h1 h2 h3 h4 h5 h6
                          go_wp2_with fail
                          go_ret
                          exact ⟨rfl, HEND.out⟩
                        · have t1 : (e1 == 0) = false := by simpa using h1
                          have t2 : (e2 == 0) = true := by simpa using h2
                          have t3 : (e3 == 0) = false := by simpa using h3
                          have t4 : ((ys1.length : Int) == 0) = true := by rw [beq_iff_eq]; omega
                          have t6 : ((ps.length : Int) == 0) = true := by rw [beq_iff_eq]; omega
                          clear h1 h2 h3 h4 h5 h6
                          go_wp2_with fail
                          go_ret
                          exact ⟨rfl, HEND.out⟩
                        · have t1 : (e1 == 0) = false := by simpa using h1
                          have t2 : (e2 == 0) = false := by simpa using h2
                          have t3 : (e3 == 0) = true := by simpa using h3
                          have t4 : ((ys1.length : Int) == 0) = true := by rw [beq_iff_eq]; omega
                          have t5 : ((ys2.length : Int) == 0) = true := by rw [beq_iff_eq]; omega
                          clear h1 h2 h3 h4 h5 h6
                          go_wp2_with fail
                          go_ret
                          exact ⟨rfl, HEND.out⟩
                        · have t1 : (e1 == 0) = false := by simpa using h1
                          have t2 : (e2 == 0) = false := by simpa using h2
                          have t3 : (e3 == 0) = false := by simpa using h3
                          have t4 : ((ys1.length : Int) == 0) = true := by rw [beq_iff_eq]; omega
                          have t5 : ((ys2.length : Int) == 0) = true := by rw [beq_iff_eq]; omega
                          have t6 : ((ps.length : Int) == 0) = true := by rw [beq_iff_eq]; omega
                          clear h1 h2 h3 h4 h5 h6
                          go_wp2_with fail
                          go_ret
                          exact ⟨rfl, HEND.out⟩
  all_goals
    go_enter Try.func3, Try.ntmps3
    go_wp2_with fail
    refine (tawake_any _).mono ?_
    rintro e w1 ⟨rfl, hb1⟩
    have HB := Lib.hid (HBT.out.below hb1)
    clear hb1
    go_wp2_with fail
    go_ret
    exact ⟨rfl, HB.out.all⟩
end Go.Proofs.Ytngjpgdgipmieaa
