import Derived.Test.YtjjfdlgoacockaaGreatTMade
import Derived.Test.YtjjfdlgoacockaaGreatMath
import Derived.Test.YtjjfdlgoacockaaGreatTCheck
import Derived.Test.YtjjfdlgoacockaaGreatBuild
import Derived.Test.YtjjfdlgoacockaaGreatPPut
import Derived.Test.YtjjfdlgoacockaaGreatWBytes
import Derived.Test.YtjjfdlgoacockaaGreatWRBytes
import Derived.Test.YtjjfdlgoacockaaGreatNMath
import Derived.Lib.QuietBelow
import Derived.BigQuiet
namespace Go.Proofs.YtjjfdlgoacockaaGreat
open Go.RowKit M1 M2 M3 M9
open M7 (Ten ck)

def wr9 (t : Ten) : ByteArray := M3.pt 1 t.dims ++ fb ⟨2, 0, us t.kind, ⟨#[]⟩⟩ ++ fb ⟨8, 2, 0, t.name⟩ ++ fb ⟨9, 2, 0, t.data⟩
set_option maxRecDepth 100000 in
set_option maxHeartbeats 2000000 in
theorem b_put_anyX (t : Ten) (A : Option Addr) (c : Nat) (w : World) (ht : Tok w t A) (hd : t.data.size ≤ 1000000) (hn : t.name.size ≤ 1000000) (hl : t.dims.length ≤ 1000000) :
    Calls Tryz.prog 37 #[t_tv t.name t.kind (.slice A t.dims.length c) t.data] w fun e w' => e = .returned (.tuple #[.string (if ck t = 0 then wr9 t else ⟨#[]⟩), .int .i64 (ck t)]) ∧ Below w.heap.size w w' := by
  have HBX := Lib.hid (Bx.start w #[.string t.name, .int .i64 t.kind, .slice A t.dims.length c, .string t.data] 98)
  have HT := Lib.hid ht
  have HC := Lib.hid (fun W (h : Below w.heap.size w W) => tcheck_any t A c W (ht.below h))
  clear ht
  by_cases h0 : ck t = 0
  · have HE := Lib.hid (show (if ck t = 0 then wr9 t else ⟨#[]⟩) = wr9 t from if_pos h0)
    have HP := Lib.hid (fun W (h : Below w.heap.size w W) => packPut_any A c t.dims 1 W (by omega) (HT.out.below h).dims (by omega) (by omega))
    have HN := Lib.hid (fun W => number_any 2 (us t.kind) W (us_fits _) (by omega) (by omega))
    have HX1 := Lib.hid (fun W => text_any 8 t.name W (by omega) (by omega) (by omega))
    have HX2 := Lib.hid (fun W => text_any 9 t.data W (by omega) (by omega) (by omega))
    have hU := us_eq t.kind
    have q1 : (M3.pt 1 t.dims).size ≤ 30000000 := by have := pt_le 1 t.dims; omega
    have q2 := fb_le ⟨2, 0, us t.kind, ⟨#[]⟩⟩
    have q3 := fb_le ⟨8, 2, 0, t.name⟩
    have q4 := fb_le ⟨9, 2, 0, t.data⟩
    have HRR := Lib.hid (show wr9 t = M3.pt 1 t.dims ++ fb ⟨2, 0, us t.kind, ⟨#[]⟩⟩ ++ fb ⟨8, 2, 0, t.name⟩ ++ fb ⟨9, 2, 0, t.data⟩ from rfl)
    rw [HE.out]
    generalize wr9 t = R at *
    have r2 : (fb ⟨2, 0, us t.kind, ⟨#[]⟩⟩).size ≤ 20 := by have : (⟨#[]⟩ : ByteArray).size = 0 := rfl; dsimp only at q2; omega
    have r3 : (fb ⟨8, 2, 0, t.name⟩).size ≤ 1000020 := by dsimp only at q3; omega
    have r4 : (fb ⟨9, 2, 0, t.data⟩).size ≤ 1000020 := by dsimp only at q4; omega
    clear q2 q3 q4 HE
    generalize M3.pt 1 t.dims = a1 at *
    generalize fb ⟨2, 0, us t.kind, ⟨#[]⟩⟩ = a2 at *
    generalize fb ⟨8, 2, 0, t.name⟩ = a3 at *
    generalize fb ⟨9, 2, 0, t.data⟩ = a4 at *
    generalize us t.kind = U at *
    rw [h0] at HC ⊢
    clear h0 hd hn hl
    go_enter Tryz.func37, Tryz.ntmps37
    go_wp2_with fail
    refine (HC.out _ HBX.out.all).mono ?_
    rintro e w1 ⟨rfl, hb1⟩
    have H1 := Lib.hid (HBX.out.below hb1)
    have HBN := Lib.hid (build_new w1)
    have H2 := Lib.hid (H1.out.more (.cells #[.pointer none, .slice none 0 0] 115))
    have HG := Lib.hid H1.out.2.1
    have HGW := Lib.hid H1.out.all.size
    have HGZ := Lib.hid (show w1.heap.size ≤ (w1.alloc (.cells #[.pointer none, .slice none 0 0] 115)).heap.size by simp)
    obtain ⟨c0, c1, c2, c3⟩ := H2.out.four
    clear hb1 HBX H1 HC
    go_wp2_with fail
    generalize hgg : w1.heap.size = g at *
    have HGG := Lib.hid hgg
    clear hgg
    refine (HP.out _ H2.out.all).mono ?_
    rintro e wa0 ⟨rfl, hb⟩
    have HA0 := Lib.hid (H2.out.below hb)
    have HD0 := Lib.hid (build_keep HBN.out hb)
    have HZ0 := Lib.hid (Nat.le_trans HGZ.out hb.size)
    clear hb H2 HBN HGZ c0 c1 c2 c3
    go_wp2_with fail
    refine (writeString_any g g [] a1 _ HD0.out (by simp; omega) HZ0.out).mono ?_
    rintro e wb0 ⟨rfl, hbd, hb⟩
    have HB0 := Lib.hid (HA0.out.low hb HG.out HGW.out)
    have HE0 := Lib.hid hbd
    have HY0 := Lib.hid (Nat.le_trans HZ0.out hb.size)
    obtain ⟨c0, c1, c2, c3⟩ := HB0.out.four
    clear hb hbd HA0 HD0 HZ0
    go_wp2_with fail
    refine (HN.out _).mono ?_
    rintro e wa1 ⟨rfl, hb⟩
    have HA1 := Lib.hid (HB0.out.below hb)
    have HD1 := Lib.hid (build_keep HE0.out hb)
    have HZ1 := Lib.hid (Nat.le_trans HY0.out hb.size)
    clear hb HB0 HE0 HY0 c0 c1 c2 c3
    go_wp2_with fail
    refine (writeString_any g g ([] ++ a1.data.toList) a2 _ HD1.out (by simp; omega) HZ1.out).mono ?_
    rintro e wb1 ⟨rfl, hbd, hb⟩
    have HB1 := Lib.hid (HA1.out.low hb HG.out HGW.out)
    have HE1 := Lib.hid hbd
    have HY1 := Lib.hid (Nat.le_trans HZ1.out hb.size)
    obtain ⟨c0, c1, c2, c3⟩ := HB1.out.four
    clear hb hbd HA1 HD1 HZ1
    go_wp2_with fail
    refine (HX1.out _).mono ?_
    rintro e wa2 ⟨rfl, hb⟩
    have HA2 := Lib.hid (HB1.out.below hb)
    have HD2 := Lib.hid (build_keep HE1.out hb)
    have HZ2 := Lib.hid (Nat.le_trans HY1.out hb.size)
    clear hb HB1 HE1 HY1 c0 c1 c2 c3
    go_wp2_with fail
    refine (writeString_any g g ([] ++ a1.data.toList ++ a2.data.toList) a3 _ HD2.out (by simp; omega) HZ2.out).mono ?_
    rintro e wb2 ⟨rfl, hbd, hb⟩
    have HB2 := Lib.hid (HA2.out.low hb HG.out HGW.out)
    have HE2 := Lib.hid hbd
    have HY2 := Lib.hid (Nat.le_trans HZ2.out hb.size)
    obtain ⟨c0, c1, c2, c3⟩ := HB2.out.four
    clear hb hbd HA2 HD2 HZ2
    go_wp2_with fail
    refine (HX2.out _).mono ?_
    rintro e wa3 ⟨rfl, hb⟩
    have HA3 := Lib.hid (HB2.out.below hb)
    have HD3 := Lib.hid (build_keep HE2.out hb)
    have HZ3 := Lib.hid (Nat.le_trans HY2.out hb.size)
    clear hb HB2 HE2 HY2 c0 c1 c2 c3
    go_wp2_with fail
    refine (writeString_any g g ([] ++ a1.data.toList ++ a2.data.toList ++ a3.data.toList) a4 _ HD3.out (by simp; omega) HZ3.out).mono ?_
    rintro e wb3 ⟨rfl, hbd, hb⟩
    have HB3 := Lib.hid (HA3.out.low hb HG.out HGW.out)
    have HE3 := Lib.hid hbd
    have HY3 := Lib.hid (Nat.le_trans HZ3.out hb.size)
    obtain ⟨c0, c1, c2, c3⟩ := HB3.out.four
    clear hb hbd HA3 HD3 HZ3
    go_wp2_with fail
    refine (buildString_any g g _ _ HE3.out HY3.out).mono ?_
    rintro e wz ⟨rfl, -, hb⟩
    have HF := Lib.hid (HB3.out.low hb HG.out HGW.out)
    clear hb
    go_wp2_with fail
    go_ret2
    have hq : (⟨(a1.data.toList ++ (a2.data.toList ++ (a3.data.toList ++ a4.data.toList))).toArray⟩ : ByteArray) = R := by
      rw [HRR.out]; exact ByteArray.ext (by simp)
    rw [← hq]
    exact ⟨rfl, HF.out.all⟩
  · have HE := Lib.hid (show (if ck t = 0 then wr9 t else ⟨#[]⟩) = ⟨#[]⟩ from if_neg h0)
    have hcb : (ck t != 0) = true := by simpa using h0
    generalize (if ck t = 0 then wr9 t else ⟨#[]⟩) = R at *
    generalize ck t = K at *
    clear h0
    go_enter Tryz.func37, Tryz.ntmps37
    go_wp2_with fail
    refine (HC.out _ HBX.out.all).mono ?_
    rintro e w1 ⟨rfl, hb1⟩
    have H1 := Lib.hid (HBX.out.below hb1)
    clear hb1 HBX
    go_wp2_with fail
    go_ret2
    rw [HE.out]
    exact ⟨rfl, H1.out.all⟩
theorem b_put_any (t : Ten) (A : Option Addr) (c : Nat) (w : World) (ht : Tok w t A) (hd : t.data.size ≤ 4000) (hn : t.name.size ≤ 200) (hl : t.dims.length ≤ 20) :
    Calls Tryz.prog 37 #[t_tv t.name t.kind (.slice A t.dims.length c) t.data] w fun e w' => e = .returned (.tuple #[.string (if ck t = 0 then wr9 t else ⟨#[]⟩), .int .i64 (ck t)]) ∧ Below w.heap.size w w' :=
  b_put_anyX t A c w ht (by omega) (by omega) (by omega)
set_option maxRecDepth 100000 in
set_option maxHeartbeats 2000000 in
theorem b_rput_anyX (t : Ten) (A : Option Addr) (c : Nat) (w : World) (ht : Tok w t A) (hd : t.data.size ≤ 1000000) (hn : t.name.size ≤ 1000000) (hl : t.dims.length ≤ 1000000) :
    Calls Tryz.prog 50 #[t_tv t.name t.kind (.slice A t.dims.length c) t.data] w fun e w' => e = .returned (.string (wr9 t)) ∧ Below w.heap.size w w' := by
  have HBX := Lib.hid (Bx.start w #[.string t.name, .int .i64 t.kind, .slice A t.dims.length c, .string t.data] 85)
  have HP := Lib.hid (fun W (h : Below w.heap.size w W) => packRPut_any A c t.dims 1 W (by omega) (ht.below h).dims)
  have HN := Lib.hid (fun W => rnumber_any 2 (us t.kind) W (us_fits _))
  have HX1 := Lib.hid (fun W => rtext_any 8 t.name W (by omega))
  have HX2 := Lib.hid (fun W => rtext_any 9 t.data W (by omega))
  have hU := us_eq t.kind
  have q1 : (M3.pt 1 t.dims).size ≤ 30000000 := by have := pt_le 1 t.dims; omega
  have q2 := fb_le ⟨2, 0, us t.kind, ⟨#[]⟩⟩
  have q3 := fb_le ⟨8, 2, 0, t.name⟩
  have q4 := fb_le ⟨9, 2, 0, t.data⟩
  have HRR := Lib.hid (show wr9 t = M3.pt 1 t.dims ++ fb ⟨2, 0, us t.kind, ⟨#[]⟩⟩ ++ fb ⟨8, 2, 0, t.name⟩ ++ fb ⟨9, 2, 0, t.data⟩ from rfl)
  generalize wr9 t = R at *
  have r2 : (fb ⟨2, 0, us t.kind, ⟨#[]⟩⟩).size ≤ 20 := by have : (⟨#[]⟩ : ByteArray).size = 0 := rfl; dsimp only at q2; omega
  have r3 : (fb ⟨8, 2, 0, t.name⟩).size ≤ 1000020 := by dsimp only at q3; omega
  have r4 : (fb ⟨9, 2, 0, t.data⟩).size ≤ 1000020 := by dsimp only at q4; omega
  clear q2 q3 q4 ht hd hn hl
  generalize M3.pt 1 t.dims = a1 at *
  generalize fb ⟨2, 0, us t.kind, ⟨#[]⟩⟩ = a2 at *
  generalize fb ⟨8, 2, 0, t.name⟩ = a3 at *
  generalize fb ⟨9, 2, 0, t.data⟩ = a4 at *
  generalize us t.kind = U at *
  go_enter Tryz.func50, Tryz.ntmps50
  go_wp2_with fail
  generalize hW : (w.alloc (Obj.cells #[.string t.name, .int .i64 t.kind, .slice A t.dims.length c, .string t.data] 85)) = W at HBX ⊢
  obtain ⟨c0, c1, c2, c3⟩ := HBX.out.four
  have k0 := fun d os => cell_regrown c0 d os
  have k1 := fun d os => cell_regrown c1 d os
  have k2 := fun d os => cell_regrown c2 d os
  have k3 := fun d os => cell_regrown c3 d os
  have HP2 := Lib.hid (fun d os => HP.out _ (HBX.out.all.trans ((below_regrown W d os).mono HBX.out.all.size)))
  clear c0 c1 c2 c3 hW
  refine wp_region_quiet_below (by kernel_rfl) (by kernel_rfl) ?_
  repeat (go_big_quiet_step ((first | (go_at_call 94; exact Calls.regrown_of (HP2.out _ _)) | (go_at_call 52; exact Calls.regrown_of (HN.out _)) | (go_at_call 47; with_reducible exact Calls.regrown_of (HX1.out _)) | (go_at_call 47; with_reducible exact Calls.regrown_of (HX2.out _)))))
  refine wpQuiet_nil ?_
  rintro w3 ⟨p3, rfl⟩
  have hbp := below_regrown W p3.d p3.os
  generalize Sort.grow (redrawn W p3.d) p3.os = w3 at hbp ⊢
  have HB3 := Lib.hid (HBX.out.all.trans (hbp.mono HBX.out.all.size))
  clear hbp k0 k1 k2 k3
  go_wp2_with fail
  go_ret
  rw [HRR.out]
  exact ⟨rfl, HB3.out⟩
end Go.Proofs.YtjjfdlgoacockaaGreat
namespace Go.Proofs.YtjjfdlgoacockaaGreat
open Go.RowKit M1 M2 M3 M9 M10 M11 Go.Sort

theorem n_et (a : ByteArray) : a ++ (⟨#[]⟩ : ByteArray) = a := ByteArray.ext (by simp)
theorem n_te (a : ByteArray) : (⟨#[]⟩ : ByteArray) ++ a = a := ByteArray.ext (by simp)
theorem n_assoc (a b c : ByteArray) : a ++ b ++ c = a ++ (b ++ c) := ByteArray.ext (by simp)
theorem cat_one (f : WFd) : cat [f] = fb f := n_et _
theorem cat_two (f g : WFd) : cat [f, g] = fb f ++ fb g := by rw [cat, cat_one]
theorem n_cat_snoc (l : List WFd) (f : WFd) : cat (l ++ [f]) = cat l ++ fb f := by
  induction l with
  | nil => rw [List.nil_append, cat_one]; exact (n_te _).symm
  | cons g l ih => rw [List.cons_append, cat, ih, cat, n_assoc]
theorem dim_step {l : List Int} {k : Nat} (h : k < l.length) : cat (dimF (l.take k)) ++ fb ⟨1, 2, 0, fb ⟨1, 0, us l[k], ⟨#[]⟩⟩⟩ = cat (dimF (l.take (k + 1))) := by
  rw [List.take_succ_eq_append_getElem h]
  unfold dimF
  rw [List.map_append, List.map_singleton, n_cat_snoc, cat_one]
  rfl
theorem dim_size (l : List Int) : (cat (dimF l)).size ≤ 60 * l.length := by
  induction l with
  | nil => exact Nat.zero_le _
  | cons n l ih =>
    have e : cat (dimF (n :: l)) = fb (tF 1 (cat [nF 1 (us n)])) ++ cat (dimF l) := rfl
    rw [e, cat_one, ByteArray.size_append, List.length_cons]
    have h1 := fb_le (tF 1 (fb (nF 1 (us n))))
    have h2 := fb_le (nF 1 (us n))
    have h3 : (nF 1 (us n)).data.size = 0 := rfl
    have h4 : (tF 1 (fb (nF 1 (us n)))).data.size = (fb (nF 1 (us n))).size := rfl
    omega
theorem wrI_is (i : Inf) : fb ⟨1, 2, 0, i.name⟩ ++ fb ⟨2, 2, 0, fb ⟨1, 2, 0, fb ⟨1, 0, us i.kind, ⟨#[]⟩⟩ ++ fb ⟨2, 2, 0, cat (dimF i.dims)⟩⟩⟩ = wrI i := by
  unfold wrI infF tenF
  rw [cat_two, cat_one, cat_two]
  rfl

set_option maxRecDepth 100000 in
set_option maxHeartbeats 4000000 in
theorem rputinfo_any (i : Inf) (ci : List Value) (w : World) (hi : InfAt w.heap.size w i ci) (hl : i.dims.length ≤ 1000000) (hn : i.name.size ≤ 2000000) :
    Calls Tryz.prog 51 #[.agg ci.toArray] w fun e w' => e = .returned (.string (wrI i)) ∧ Below w.heap.size w w' := by
  obtain ⟨A, c, rfl, hs, ok⟩ := hi
  have HX := Lib.hid (Bx.start w #[.string i.name, .int .i64 i.kind, .slice A i.dims.length c] 89)
  have HS := Lib.hid hs
  clear hs ok
  go_enter Tryz.func51, Tryz.ntmps51
  go_wp2_with fail
  go_loopw [3, 4] (fun s j wr => ∃ (k : Nat) (K : Int) (t : ByteArray), j = .int .i64 K ∧ s = .string t ∧ K = (k : Nat) ∧ k ≤ i.dims.length ∧ t = cat (dimF (i.dims.take k)) ∧ Bx w w.heap.size #[.string i.name, .int .i64 i.kind, .slice A i.dims.length c] 89 wr) (fun _ j _ => i.dims.length - (intOf j).toNat)
  case atStart => exact ⟨0, _, _, rfl, rfl, rfl, by omega, rfl, HX.out⟩
  case round =>
    obtain ⟨k, K, t, rfl, rfl, rfl, hk, htk, hbx⟩ := hrel
    have HT := Lib.hid htk
    have HB := Lib.hid hbx
    have hts : t.size ≤ 60000000 := by
      rw [htk]
      have h1 := dim_size (i.dims.take k)
      have h2 : (i.dims.take k).length ≤ 1000000 := by simp; omega
      omega
    clear htk hbx
    obtain ⟨x0, x1, x2⟩ : wr.cell? ⟨w.heap.size, 0, none⟩ = some (.string i.name) ∧ wr.cell? ⟨w.heap.size, 1, none⟩ = some (.int .i64 i.kind) ∧ wr.cell? ⟨w.heap.size, 2, none⟩ = some (.slice A i.dims.length c) := ⟨HB.out.cell 0, HB.out.cell 1, HB.out.cell 2⟩
    by_cases hlt : k < i.dims.length
    · obtain ⟨b, o, rfl, hb, y0⟩ := int_at (HS.out.below HB.out.all) hlt
      have HN := Lib.hid (dim_step hlt)
      rw [← HT.out] at HN
      generalize i.dims[k] = n at *
      have hcv := us_eq n
      have HF := Lib.hid (us_fits n)
      have hq1 : (fb ⟨1, 0, us n, ⟨#[]⟩⟩).size ≤ 20 := fb_le ⟨1, 0, us n, ⟨#[]⟩⟩
      have hq2 := fb_le ⟨1, 2, 0, fb ⟨1, 0, us n, ⟨#[]⟩⟩⟩
      dsimp only at hq2
      go_wp2_with fail
      refine (rnumber_any 1 (us n) _ HF.out).mono ?_
      rintro e w2 ⟨rfl, hb2⟩
      have HB2 := Lib.hid (HB.out.below hb2)
      clear hb2
      go_wp2_with fail
      refine (rtext_any 1 _ _ (by omega)).mono ?_
      rintro e w3 ⟨rfl, hb3⟩
      have HB3 := Lib.hid (HB2.out.below hb3)
      clear hb3 x0 x1 x2 y0
      generalize hG : fb ⟨1, 2, 0, fb ⟨1, 0, us n, ⟨#[]⟩⟩⟩ = G at *
      have hgs : G.size ≤ 40 := by omega
      clear hG hq1 hq2 hcv
      go_wp2_with fail
      go_roundw
      case rel => exact ⟨k + 1, _, _, rfl, rfl, by omega, by omega, HN.out, HB3.out⟩
      case measure => simp [intOf]; omega
    · obtain rfl : k = i.dims.length := by omega
      have HE := Lib.hid (show fb ⟨1, 2, 0, i.name⟩ ++ fb ⟨2, 2, 0, fb ⟨1, 2, 0, fb ⟨1, 0, us i.kind, ⟨#[]⟩⟩ ++ fb ⟨2, 2, 0, t⟩⟩⟩ = wrI i by rw [HT.out, List.take_length]; exact wrI_is i)
      have hcv := us_eq i.kind
      have q0 := fun d os => cell_regrown x0 d os
      have q1 := fun d os => cell_regrown x1 d os
      have l1 := fb_le ⟨1, 2, 0, i.name⟩
      have l2 := fb_le ⟨1, 0, us i.kind, ⟨#[]⟩⟩
      have l3 := fb_le ⟨2, 2, 0, t⟩
      have H1 := Lib.hid (fun W => rtext_any 1 i.name W (by omega))
      have H2 := Lib.hid (fun W => rnumber_any 1 (us i.kind) W (us_fits _))
      have H3 := Lib.hid (fun W => rtext_any 2 t W (by omega))
      dsimp only at l1 l2 l3
      rw [show (⟨#[]⟩ : ByteArray).size = 0 from rfl] at l2
      generalize fb ⟨1, 2, 0, i.name⟩ = F1 at *
      generalize fb ⟨1, 0, us i.kind, ⟨#[]⟩⟩ = F2 at *
      generalize fb ⟨2, 2, 0, t⟩ = F3 at *
      have l4 := fb_le ⟨1, 2, 0, F2 ++ F3⟩
      dsimp only at l4
      rw [ByteArray.size_append] at l4
      have H4 := Lib.hid (fun W => rtext_any 1 (F2 ++ F3) W (by rw [ByteArray.size_append]; omega))
      generalize hF4 : fb ⟨1, 2, 0, F2 ++ F3⟩ = F4 at *
      clear hF4
      have l5 := fb_le ⟨2, 2, 0, F4⟩
      dsimp only at l5
      have H5 := Lib.hid (fun W => rtext_any 2 F4 W (by omega))
      generalize hF5 : fb ⟨2, 2, 0, F4⟩ = F5 at *
      clear hF5
      have g1 : F1.size ≤ 100000000 := by omega
      have g2 : F2.size ≤ 100000000 := by omega
      have g3 : F3.size ≤ 100000000 := by omega
      have g5 : F5.size ≤ 200000000 := by omega
      clear l1 l2 l3 l4 l5 hts
      go_wp2_with fail
      clear x0 x1 x2
      refine wp_region_quiet_below (by kernel_rfl) (by kernel_rfl) ?_
      repeat (go_big_quiet_step ((first
        | (go_at_call 47; with_reducible exact Calls.regrown_of (H1.out _))
        | (go_at_call 52; with_reducible exact Calls.regrown_of (H2.out _))
        | (go_at_call 47; with_reducible exact Calls.regrown_of (H3.out _))
        | (go_at_call 47; with_reducible exact Calls.regrown_of (H4.out _))
        | (go_at_call 47; with_reducible exact Calls.regrown_of (H5.out _)))))
      refine wpQuiet_nil ?_
      rintro w2 ⟨p, rfl⟩
      have H9 := Lib.hid (HB.out.below (below_regrown wr p.d p.os))
      clear q0 q1
      generalize grow (redrawn wr p.d) p.os = w2 at H9 ⊢
      go_wp2_with fail
      go_ret
      exact ⟨by rw [← HE.out]; rfl, H9.out.all⟩
end Go.Proofs.YtjjfdlgoacockaaGreat
