/- The walk of the law WireWrites. -/
import Derived.Test.YtkihbgklfbaiiaaWOpen
import Derived.Test.YtkihbgklfbaiiaaWAwake
import Derived.Test.YtkihbgklfbaiiaaWBytes
import Derived.Test.YtkihbgklfbaiiaaWRBytesTwo
namespace Go.Proofs.Ytkihbgklfbaiiaa
open Go.RowKit M1 M2 Go.Sort

/-- how many bytes the texts have -/
def tot : List WFd → Nat
  | [] => 0
  | f :: l => f.data.size + tot l
theorem tot_snoc (l : List WFd) (f : WFd) : tot (l ++ [f]) = tot l + f.data.size := by
  induction l with
  | nil => simp [tot]
  | cons g l ih => simp only [List.cons_append, tot, ih]; omega
theorem cat_le (l : List WFd) : (cat l).size ≤ 20 * l.length + tot l := by
  induction l with
  | nil => exact Nat.zero_le _
  | cons f l ih =>
    have := fb_le f
    rw [cat, ByteArray.size_append, tot, List.length_cons]
    omega
theorem wanted_le (l : List WFd) : (wanted l).length ≤ l.length := by
  unfold wanted
  rw [List.length_map]
  exact List.length_filter_le _ _

set_option maxRecDepth 100000 in
theorem writes_walk (A : Option Addr) (c : Nat) (l : List WFd) (w : World) (hl : l.length ≤ 3518437208780) (ha : SR w w.heap.size 4 A l.length (fcs l)) (hok : ∀ f ∈ l, FOk f) :
    Calls Try.prog 4 #[.slice A l.length c] w fun e w' => e = .returned (.bool true) ∧ Below w.heap.size w w' := by
  by_cases hlong : 60 < l.length
  · have hl' : (60 : Int) < (l.length : Int) := by omega
    go_enter Try.func4, Try.ntmps4
    go_wp2_with fail
    refine (wawake_any _).mono ?_
    rintro e w1 ⟨rfl, hb1⟩
    go_wp2_with fail
    go_ret
    exact ⟨rfl, hb1⟩
  · have hl' : (l.length : Int) ≤ 60 := by omega
    obtain ⟨i0, hi0, hz0, hz1, hz2'⟩ := info_parts infoRField
    have HOK := Lib.hid hok
    clear hlong hok
    go_enter Try.func4, Try.ntmps4
    go_wp2_with fail
    go_loopw [3, 4, 5, 18] (fun b n v i wr => ∃ (k : Nat) (K N : Int), i = .int .i64 K ∧ K = (k : Nat) ∧ k ≤ l.length ∧ b = .string (cat (l.take k)) ∧ n = .int .i64 N ∧ N = (tot (l.take k) : Nat) ∧ tot (l.take k) ≤ 3000 ∧
      wr.ownsRow w.heap.size 38 4 v (wanted (l.take k)).length (fcs (wanted (l.take k))) ∧ Below w.heap.size w wr) (fun _ _ _ i _ => l.length - (intOf i).toNat)
    case atStart => exact ⟨0, _, _, rfl, rfl, by omega, rfl, rfl, rfl, by simp [tot], World.ownsRow_nil _ _ _ _, Below.refl _ _⟩
    case round =>
      obtain ⟨k, K, N, rfl, rfl, hk, rfl, rfl, rfl, htot, hown, hb⟩ := hrel
      obtain ⟨V, vc, rfl, -, -⟩ := own_form hown
      by_cases hlt : k < l.length
      · obtain ⟨b1, o1, rfl, hb1, x0, x1, x2, x3⟩ := field_at (ha.below hb) hlt
        have hf := HOK.out l[k] (List.getElem_mem hlt)
        have hts := take_succ_at hlt
        generalize hfd : l[k] = f at *
        have hwl := wanted_le (l.take k)
        have htl : (l.take k).length ≤ k := List.length_take_le _ _
        have hcl := cat_le (l.take k)
        have hz := hb.size
        have HTS := Lib.hid hts
        have HA := Lib.hid ha
        clear hts hfd ha
        have fd := hf.data
        by_cases hbig : 3000 < tot (l.take k) + f.data.size
        · have hbig' : (3000 : Int) < (tot (l.take k) : Int) + (f.data.size : Int) := by omega
          have HB := Lib.hid hb
          clear hbig hown hf hb
          obtain ⟨num, typ, n, D⟩ := f
          simp only at *
          go_wp2_with fail
          refine (wawake_any _).mono ?_
          rintro e w1 ⟨rfl, hb1⟩
          have HB2 := Lib.hid (HB.out.trans ((below_one hb1).mono hz))
          clear hb1
          go_wp2_with fail
          go_ret
          exact ⟨rfl, HB2.out⟩
        · have hbig' : (tot (l.take k) : Int) + (f.data.size : Int) ≤ 3000 := by omega
          have hfb := fb_le f
          have hcall1 := fun W => rbytes_any f W hf.n (by omega)
          have hcall2 := fun W => bytes_any f W hf.n (by omega) hf.num1 hf.num2 hf.typ1 hf.typ2
          have hcall3 := fun W => number_any f.num f.n W hf.n hf.num1 hf.num2
          have hcall4 := fun W => rnumber_any f.num f.n W hf.n
          have hcall5 := fun W => text_any f.num f.data W (by omega) hf.num1 hf.num2
          have hcall6 := fun W => rtext_any f.num f.data W (by omega)
          have HC1 := Lib.hid hcall1
          have HC2 := Lib.hid hcall2
          have HC3 := Lib.hid hcall3
          have HC4 := Lib.hid hcall4
          have HC5 := Lib.hid hcall5
          have HC6 := Lib.hid hcall6
          have hws := wanted_snoc (l.take k) f
          have hcs := cat_snoc (l.take k) f
          have htsn := tot_snoc (l.take k) f
          rw [← HTS.out] at hws hcs htsn
          have HWS := Lib.hid hws
          have HCS := Lib.hid hcs
          have HTT := Lib.hid htsn
          have HB := Lib.hid hb
          have HO := Lib.hid hown
          clear hcall1 hcall2 hcall3 hcall4 hcall5 hcall6 hws hcs htsn hbig hown hf hb
          obtain ⟨num, typ, n, D⟩ := f
          simp only [fc] at *
          generalize hS : fb ⟨num, typ, n, D⟩ = S at *
          have HS := Lib.hid hS
          clear hS
          go_wp2_with fail
          refine (HC1.out _).mono ?_
          rintro e w1 ⟨rfl, hb1⟩
          have hblk7 := (hb1.block wr.heap.size (by simp; omega)).trans (heap_alloc2_old wr _ _)
          have hblk8 := (hb1.block (wr.heap.size + 1) (by simp)).trans (heap_alloc2_new wr _ _)
          have hz1w := hb1.size
          simp at hz1w
          have HR1 := Lib.hid (below_two hb1)
          have HK7 := Lib.hid hblk7
          have HK8 := Lib.hid hblk8
          obtain ⟨c0, c1, c2, c3⟩ := cells_of4 hblk7
          clear hblk7 hblk8 hb1 x0 x1 x2 x3
          go_wp2_with fail
          have q0 := fun d os => cell_regrown c0 d os
          have q1 := fun d os => cell_regrown c1 d os
          have q2 := fun d os => cell_regrown c2 d os
          have q3 := fun d os => cell_regrown c3 d os
          clear c0 c1 c2 c3
          refine wp_region_quiet_below (by kernel_rfl) (by kernel_rfl) ?_
          repeat (go_big_quiet_step ((first
            | (go_at_call 14; exact Calls.regrown_of (HC2.out _))
            | (go_at_call 15; exact Calls.regrown_of (HC3.out _))
            | (go_at_call 16; exact Calls.regrown_of (HC4.out _))
            | (go_at_call 17; exact Calls.regrown_of (HC5.out _))
            | (go_at_call 18; exact Calls.regrown_of (HC6.out _)))))
          refine wpQuiet_nil ?_
          rintro w2 ⟨p, rfl⟩
          have hbp := below_regrown w1 p.d p.os
          clear q0 q1 q2 q3
          generalize grow (redrawn w1 p.d) p.os = w2 at hbp ⊢
          have hblk7 := (hbp.block wr.heap.size (by omega)).trans HK7.out
          have hblk8 := (hbp.block (wr.heap.size + 1) (by omega)).trans HK8.out
          have HR2 := Lib.hid (HR1.out.trans (hbp.mono HR1.out.size))
          have hz2 := HR2.out.size
          have hz12 := hbp.size
          clear hbp HK7 HK8 HR1
          by_cases hS0 : S.size = 0
          · have hSn : S.toList = [] := by
              rw [ByteArray.toList_eq]
              exact List.eq_nil_of_length_eq_zero (by simpa using hS0)
            have hSe : S.toList.isEmpty = true := by rw [hSn]; rfl
            have hW : wanted (l.take (k + 1)) = wanted (l.take k) := by rw [HWS.out, if_pos hS0]
            have hC : cat (l.take (k + 1)) = cat (l.take k) := by
              rw [HCS.out]
              apply ba_eq
              have : S.data.toList = [] := by rw [← ByteArray.toList_eq]; exact hSn
              simp [this]
            have hown := own_keep HO.out HR2.out
            have hbw := HB.out.trans (HR2.out.mono hz)
            have HZ := Lib.hid (And.intro hown (And.intro hbw hC))
            clear hW hC hown hbw hblk7 hblk8
            go_wp2_with fail
            go_roundw
            case rel =>
              refine ⟨k + 1, _, _, rfl, by omega, by omega, ?_, rfl, by have := HTT.out; omega, by have := HTT.out; omega, ?_, HZ.out.2.1⟩
              · exact str_eq HZ.out.2.2.symm
              · rw [show wanted (l.take (k + 1)) = wanted (l.take k) by rw [HWS.out, if_pos hS0]]
                exact HZ.out.1
            case measure => simp [intOf]; omega
          · have hSe : S.toList.isEmpty = false := by
              rw [ByteArray.toList_eq, List.isEmpty_eq_false_iff]
              intro h
              exact hS0 (by have := congrArg List.length h; simpa using this)
            have hSn : (!S.toList.isEmpty) = true := by rw [hSe]; rfl
            by_cases ht : typ = 2
            · have hT : (typ == 2) = true := by simpa using ht
              have hW : wanted (l.take (k + 1)) = wanted (l.take k) ++ [⟨num, typ, 0, D⟩] := by rw [HWS.out, if_neg hS0]; simp [norm, ht]
              have hblk9 := heap_setCell_same w2 (wr.heap.size + 1) 2 _ _ (.int .u64 0) hblk8
              have hblk10 := heap_far hblk7 (b := wr.heap.size + 1) (i := 2) (.int .u64 0) (by omega)
              obtain ⟨c0, c1, c2, c3⟩ := cells_of4 hblk10
              obtain ⟨d0, d1, d2, d3⟩ := cells_of4 hblk8
              have f0 := fun i => frozen_of_row w2 (wr.heap.size + 1) i _ _ hblk8
              have hbs := HR2.out.setCell (p := ⟨wr.heap.size + 1, 2, none⟩) (by simp) (.int .u64 0)
              have HBS := Lib.hid hbs
              have HK9 := Lib.hid hblk9
              clear hblk7 hblk8 hblk9 hblk10 hbs ht
              go_wp2_with fail
              have hzz : (w2.setCell ⟨wr.heap.size + 1, 2, none⟩ (.int .u64 0)).heap.size = w2.heap.size := by simp
              refine (HC2.out _).mono ?_
              rintro e w4 ⟨rfl, hb4⟩
              have hblk := (hb4.block (wr.heap.size + 1) (by rw [hzz]; omega)).trans HK9.out
              have hr4 := HBS.out.trans (hb4.mono HBS.out.size)
              have hown := own_keep HO.out hr4
              have hz4 := hr4.size
              have HR4 := Lib.hid hr4
              have hb44 := HB.out.trans (hr4.mono hz)
              have HB4 := Lib.hid hb44
              have hz44 := hb44.size
              clear c0 c1 c2 c3 d0 d1 d2 d3 f0 hb4 hr4 HBS HK9 hzz hb44
              obtain ⟨d0, d1, d2, d3⟩ := cells_of4 hblk
              clear hblk
              go_wp2_with (at_builtin; refine wpList_append_own _ rfl _ _ 27 rfl w.heap.size 38 i0 _ 4 40 Try.underlying27 hi0 hz0 hz1 hz2' rfl (by decide) _ _ _ rfl (hown.alloc _) ⟨w4.heap.size, 0, none⟩ 1 1 (fc ⟨num, typ, 0, D⟩) rfl rfl (cells_new _ _ _) ?c2 ?c3 ?c4 ?c5 ?_)
              case c2 => intro u hu; exact fcs_one_cell (l := [⟨num, typ, 0, D⟩]) u (by rw [fcs_one]; exact hu)
              case c3 => unfold maxLen; omega
              case c4 => omega
              case c5 => first | omega | (simp; omega)
              intro v' w5 hown' hgrow _
              have e1 : fcs (wanted (l.take k)) ++ fc ⟨num, typ, 0, D⟩ = fcs (wanted (l.take (k + 1))) := by rw [hW, fcs_append, fcs_one]
              have e2 : (wanted (l.take k)).length + 1 = (wanted (l.take (k + 1))).length := by rw [hW]; simp
              rw [e1, e2] at hown'
              have hb3 := (HB4.out.alloc hz44 _).grown hgrow (by simp; omega) (fun q hq => (hown.lt q hq).1)
              have HO5 := Lib.hid (And.intro hown' hb3)
              have HW := Lib.hid hW
              clear hgrow hown' hown hb3 e1 e2 hW
              go_wp2_with fail
              go_roundw
              case rel =>
                refine ⟨k + 1, _, _, rfl, by omega, by omega, ?_, rfl, by have := HTT.out; omega, by have := HTT.out; omega, HO5.out.1, HO5.out.2⟩
                exact str_eq HCS.out.symm
              case measure => simp [intOf]; omega
            · have hT : (typ == 2) = false := by simpa using ht
              have hW : wanted (l.take (k + 1)) = wanted (l.take k) ++ [⟨num, typ, n, ⟨#[]⟩⟩] := by rw [HWS.out, if_neg hS0]; simp [norm, ht]
              have hblk9 := heap_setCell_same w2 (wr.heap.size + 1) 3 _ _ (.string ⟨#[]⟩) hblk8
              have hblk10 := heap_far hblk7 (b := wr.heap.size + 1) (i := 3) (.string ⟨#[]⟩) (by omega)
              obtain ⟨c0, c1, c2, c3⟩ := cells_of4 hblk10
              obtain ⟨d0, d1, d2, d3⟩ := cells_of4 hblk8
              have f0 := fun i => frozen_of_row w2 (wr.heap.size + 1) i _ _ hblk8
              have hbs := HR2.out.setCell (p := ⟨wr.heap.size + 1, 3, none⟩) (by simp) (.string ⟨#[]⟩)
              have HBS := Lib.hid hbs
              have HK9 := Lib.hid hblk9
              clear hblk7 hblk8 hblk9 hblk10 hbs ht
              go_wp2_with fail
              have hzz : (w2.setCell ⟨wr.heap.size + 1, 3, none⟩ (.string ⟨#[]⟩)).heap.size = w2.heap.size := by simp
              refine (HC2.out _).mono ?_
              rintro e w4 ⟨rfl, hb4⟩
              have hblk := (hb4.block (wr.heap.size + 1) (by rw [hzz]; omega)).trans HK9.out
              have hr4 := HBS.out.trans (hb4.mono HBS.out.size)
              have hown := own_keep HO.out hr4
              have hz4 := hr4.size
              have HR4 := Lib.hid hr4
              have hb44 := HB.out.trans (hr4.mono hz)
              have HB4 := Lib.hid hb44
              have hz44 := hb44.size
              clear c0 c1 c2 c3 d0 d1 d2 d3 f0 hb4 hr4 HBS HK9 hzz hb44
              obtain ⟨d0, d1, d2, d3⟩ := cells_of4 hblk
              clear hblk
              go_wp2_with (at_builtin; refine wpList_append_own _ rfl _ _ 27 rfl w.heap.size 38 i0 _ 4 40 Try.underlying27 hi0 hz0 hz1 hz2' rfl (by decide) _ _ _ rfl (hown.alloc _) ⟨w4.heap.size, 0, none⟩ 1 1 (fc ⟨num, typ, n, ⟨#[]⟩⟩) rfl rfl (cells_new _ _ _) ?c2 ?c3 ?c4 ?c5 ?_)
              case c2 => intro u hu; exact fcs_one_cell (l := [⟨num, typ, n, ⟨#[]⟩⟩]) u (by rw [fcs_one]; exact hu)
              case c3 => unfold maxLen; omega
              case c4 => omega
              case c5 => first | omega | (simp; omega)
              intro v' w5 hown' hgrow _
              have e1 : fcs (wanted (l.take k)) ++ fc ⟨num, typ, n, ⟨#[]⟩⟩ = fcs (wanted (l.take (k + 1))) := by rw [hW, fcs_append, fcs_one]
              have e2 : (wanted (l.take k)).length + 1 = (wanted (l.take (k + 1))).length := by rw [hW]; simp
              rw [e1, e2] at hown'
              have hb3 := (HB4.out.alloc hz44 _).grown hgrow (by simp; omega) (fun q hq => (hown.lt q hq).1)
              have HO5 := Lib.hid (And.intro hown' hb3)
              have HW := Lib.hid hW
              clear hgrow hown' hown hb3 e1 e2 hW
              go_wp2_with fail
              go_roundw
              case rel =>
                refine ⟨k + 1, _, _, rfl, by omega, by omega, ?_, rfl, by have := HTT.out; omega, by have := HTT.out; omega, HO5.out.1, HO5.out.2⟩
                exact str_eq HCS.out.symm
              case measure => simp [intOf]; omega
      · obtain rfl : k = l.length := by omega
        rw [List.take_length] at hown htot ⊢
        have hfl := flw_cat l (fun f hf => ⟨(HOK.out f hf).n, by have := (HOK.out f hf).data; unfold Fits64; omega⟩)
        have hcl := cat_le l
        have hfe : fields (cat l) = (wanted l, 0) := by unfold fields; rw [if_neg (by omega), hfl]
        have hcall := fun W => fields_any (cat l) W (by unfold maxLen; omega)
        rw [hfe] at hcall
        have HCA := Lib.hid hcall
        have hsr := SR.of_own hown
        have hwl := wanted_le l
        have HB := Lib.hid hb
        clear hcall hfe hfl hown hb ha
        go_wp2_with fail
        refine (HCA.out _).mono ?_
        rintro e w1 ⟨v1, rfl, hown1, hb1⟩
        obtain ⟨A1, c1, rfl, -, -⟩ := own_form hown1
        have hs1 := SR.of_own hown1
        have hsr := (hsr.below hb1).more hb1.size
        have HB1 := Lib.hid (HB.out.trans (hb1.mono HB.out.size))
        clear hown1 hb1 HB
        go_wp2_with fail
        refine (wawake_any _).mono ?_
        rintro e w2 ⟨rfl, hb2⟩
        have hs1 := (hs1.below hb2).more hb2.size
        have hsr := (hsr.below hb2).more hb2.size
        have HB2 := Lib.hid (HB1.out.trans (hb2.mono HB1.out.size))
        clear hb2 HB1
        go_wp2_with fail
        refine (same_any A1 V c1 vc (wanted l) _ (by unfold maxLen; omega) hs1 hsr).mono ?_
        rintro e w3 ⟨rfl, hb3⟩
        have HB3 := Lib.hid (HB2.out.trans (hb3.mono HB2.out.size))
        clear hb3 HB2
        go_wp2_with fail
        go_ret
        exact ⟨rfl, HB3.out⟩
end Go.Proofs.Ytkihbgklfbaiiaa
