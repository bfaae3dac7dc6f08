/- The walk of the document's PutInfo. -/
import Derived.Test.YtiniicehfjgpgaaGreatBMath
import Derived.Test.YtiniicehfjgpgaaGreatPPut
import Derived.Test.YtiniicehfjgpgaaGreatWRBytes
import Derived.Test.YtiniicehfjgpgaaGreatRow
import Derived.Lib.QuietBelow
import Derived.BigQuiet
namespace Go.Proofs.YtiniicehfjgpgaaGreat
open Go.RowKit M1 M2 M3 M9 M10 M11 Go.Sort

theorem n_et (a : ByteArray) : a ++ (⟨#[]⟩ : ByteArray) = a := ByteArray.ext (by simp)
theorem n_te (a : ByteArray) : (⟨#[]⟩ : ByteArray) ++ a = a := ByteArray.ext (by simp)
theorem n_assoc (a b c : ByteArray) : a ++ b ++ c = a ++ (b ++ c) := ByteArray.ext (by simp)
theorem cat_one (f : WFd) : cat [f] = fb f := n_et _
theorem cat_two (f g : WFd) : cat [f, g] = fb f ++ fb g := by rw [cat, cat_one]
theorem cat_snoc (l : List WFd) (f : WFd) : cat (l ++ [f]) = cat l ++ fb f := by
  induction l with
  | nil => rw [List.nil_append, cat_one]; exact (n_te _).symm
  | cons g l ih => rw [List.cons_append, cat, ih, cat, n_assoc]
theorem dim_step {l : List Int} {k : Nat} (h : k < l.length) : cat (dimF (l.take k)) ++ fb ⟨1, 2, 0, fb ⟨1, 0, us l[k], ⟨#[]⟩⟩⟩ = cat (dimF (l.take (k + 1))) := by
  rw [List.take_succ_eq_append_getElem h]
  unfold dimF
  rw [List.map_append, List.map_singleton, cat_snoc, cat_one]
  rfl
theorem dim_size (l : List Int) : (cat (dimF l)).size ≤ 60 * l.length := by
  induction l with
  | nil => exact Nat.zero_le _
  | cons n l ih =>
    have e : cat (dimF (n :: l)) = fb (tF 1 (cat [nF 1 (us n)])) ++ cat (dimF l) := rfl
    rw [e, cat_one, ByteArray.size_append, List.length_cons]
    have h1 := fb_le (tF 1 (fb (nF 1 (us n))))
    have h2 := fb_le (nF 1 (us n))
    have h3 : (nF 1 (us n)).data.size = 0 := rfl
    have h4 : (tF 1 (fb (nF 1 (us n)))).data.size = (fb (nF 1 (us n))).size := rfl
    omega
theorem wrI_is (i : Inf) : fb ⟨1, 2, 0, i.name⟩ ++ fb ⟨2, 2, 0, fb ⟨1, 2, 0, fb ⟨1, 0, us i.kind, ⟨#[]⟩⟩ ++ fb ⟨2, 2, 0, cat (dimF i.dims)⟩⟩⟩ = wrI i := by
  unfold wrI infF tenF
  rw [cat_two, cat_one, cat_two]
  rfl

set_option maxRecDepth 100000 in
set_option maxHeartbeats 4000000 in
theorem rputinfo_any (i : Inf) (ci : List Value) (w : World) (hi : InfAt w.heap.size w i ci) (hl : i.dims.length ≤ 1000000) (hn : i.name.size ≤ 2000000) :
    Calls Tryz.prog 18 #[.agg ci.toArray] w fun e w' => e = .returned (.string (wrI i)) ∧ Below w.heap.size w w' := by
  obtain ⟨A, c, rfl, hs, ok⟩ := hi
  have HX := Lib.hid (Bx.start w #[.string i.name, .int .i64 i.kind, .slice A i.dims.length c] 42)
  have HS := Lib.hid hs
  clear hs ok
  go_enter Tryz.func18, Tryz.ntmps18
  go_wp2_with fail
  go_loopw [3, 4] (fun s j wr => ∃ (k : Nat) (K : Int) (t : ByteArray), j = .int .i64 K ∧ s = .string t ∧ K = (k : Nat) ∧ k ≤ i.dims.length ∧ t = cat (dimF (i.dims.take k)) ∧ Bx w w.heap.size #[.string i.name, .int .i64 i.kind, .slice A i.dims.length c] 42 wr) (fun _ j _ => i.dims.length - (intOf j).toNat)
  case atStart => exact ⟨0, _, _, rfl, rfl, rfl, by omega, rfl, HX.out⟩
  case round =>
    obtain ⟨k, K, t, rfl, rfl, rfl, hk, htk, hbx⟩ := hrel
    have HT := Lib.hid htk
    have HB := Lib.hid hbx
    have hts : t.size ≤ 60000000 := by
      rw [htk]
      have h1 := dim_size (i.dims.take k)
      have h2 : (i.dims.take k).length ≤ 1000000 := by simp; omega
      omega
    clear htk hbx
    obtain ⟨x0, x1, x2⟩ : wr.cell? ⟨w.heap.size, 0, none⟩ = some (.string i.name) ∧ wr.cell? ⟨w.heap.size, 1, none⟩ = some (.int .i64 i.kind) ∧ wr.cell? ⟨w.heap.size, 2, none⟩ = some (.slice A i.dims.length c) := ⟨HB.out.cell 0, HB.out.cell 1, HB.out.cell 2⟩
    by_cases hlt : k < i.dims.length
    · obtain ⟨b, o, rfl, hb, y0⟩ := int_at (HS.out.below HB.out.all) hlt
      have HN := Lib.hid (dim_step hlt)
      rw [← HT.out] at HN
      generalize i.dims[k] = n at *
      have hcv := us_eq n
      have HF := Lib.hid (us_fits n)
      have hq1 : (fb ⟨1, 0, us n, ⟨#[]⟩⟩).size ≤ 20 := fb_le ⟨1, 0, us n, ⟨#[]⟩⟩
      have hq2 := fb_le ⟨1, 2, 0, fb ⟨1, 0, us n, ⟨#[]⟩⟩⟩
      dsimp only at hq2
      go_wp2_with fail
      refine (rnumber_any 1 (us n) _ HF.out).mono ?_
      rintro e w2 ⟨rfl, hb2⟩
      have HB2 := Lib.hid (HB.out.below hb2)
      clear hb2
      go_wp2_with fail
      refine (rtext_any 1 _ _ (by omega)).mono ?_
      rintro e w3 ⟨rfl, hb3⟩
      have HB3 := Lib.hid (HB2.out.below hb3)
      clear hb3 x0 x1 x2 y0
      generalize hG : fb ⟨1, 2, 0, fb ⟨1, 0, us n, ⟨#[]⟩⟩⟩ = G at *
      have hgs : G.size ≤ 40 := by omega
      clear hG hq1 hq2 hcv
      go_wp2_with fail
      go_roundw
      case rel => exact ⟨k + 1, _, _, rfl, rfl, by omega, by omega, HN.out, HB3.out⟩
      case measure => simp [intOf]; omega
    · obtain rfl : k = i.dims.length := by omega
      have HE := Lib.hid (show fb ⟨1, 2, 0, i.name⟩ ++ fb ⟨2, 2, 0, fb ⟨1, 2, 0, fb ⟨1, 0, us i.kind, ⟨#[]⟩⟩ ++ fb ⟨2, 2, 0, t⟩⟩⟩ = wrI i by rw [HT.out, List.take_length]; exact wrI_is i)
      have hcv := us_eq i.kind
      have q0 := fun d os => cell_regrown x0 d os
      have q1 := fun d os => cell_regrown x1 d os
      have l1 := fb_le ⟨1, 2, 0, i.name⟩
      have l2 := fb_le ⟨1, 0, us i.kind, ⟨#[]⟩⟩
      have l3 := fb_le ⟨2, 2, 0, t⟩
      have H1 := Lib.hid (fun W => rtext_any 1 i.name W (by omega))
      have H2 := Lib.hid (fun W => rnumber_any 1 (us i.kind) W (us_fits _))
      have H3 := Lib.hid (fun W => rtext_any 2 t W (by omega))
      dsimp only at l1 l2 l3
      rw [show (⟨#[]⟩ : ByteArray).size = 0 from rfl] at l2
      generalize fb ⟨1, 2, 0, i.name⟩ = F1 at *
      generalize fb ⟨1, 0, us i.kind, ⟨#[]⟩⟩ = F2 at *
      generalize fb ⟨2, 2, 0, t⟩ = F3 at *
      have l4 := fb_le ⟨1, 2, 0, F2 ++ F3⟩
      dsimp only at l4
      rw [ByteArray.size_append] at l4
      have H4 := Lib.hid (fun W => rtext_any 1 (F2 ++ F3) W (by rw [ByteArray.size_append]; omega))
      generalize hF4 : fb ⟨1, 2, 0, F2 ++ F3⟩ = F4 at *
      clear hF4
      have l5 := fb_le ⟨2, 2, 0, F4⟩
      dsimp only at l5
      have H5 := Lib.hid (fun W => rtext_any 2 F4 W (by omega))
      generalize hF5 : fb ⟨2, 2, 0, F4⟩ = F5 at *
      clear hF5
      have g1 : F1.size ≤ 100000000 := by omega
      have g2 : F2.size ≤ 100000000 := by omega
      have g3 : F3.size ≤ 100000000 := by omega
      have g5 : F5.size ≤ 200000000 := by omega
      clear l1 l2 l3 l4 l5 hts
      go_wp2_with fail
      clear x0 x1 x2
      refine wp_region_quiet_below (by kernel_rfl) (by kernel_rfl) ?_
      repeat (go_big_quiet_step ((first
        | (go_at_call 46; with_reducible exact Calls.regrown_of (H1.out _))
        | (go_at_call 48; with_reducible exact Calls.regrown_of (H2.out _))
        | (go_at_call 46; with_reducible exact Calls.regrown_of (H3.out _))
        | (go_at_call 46; with_reducible exact Calls.regrown_of (H4.out _))
        | (go_at_call 46; with_reducible exact Calls.regrown_of (H5.out _)))))
      refine wpQuiet_nil ?_
      rintro w2 ⟨p, rfl⟩
      have H9 := Lib.hid (HB.out.below (below_regrown wr p.d p.os))
      clear q0 q1
      generalize grow (redrawn wr p.d) p.os = w2 at H9 ⊢
      go_wp2_with fail
      go_ret
      exact ⟨by rw [← HE.out]; rfl, H9.out.all⟩
end Go.Proofs.YtiniicehfjgpgaaGreat
