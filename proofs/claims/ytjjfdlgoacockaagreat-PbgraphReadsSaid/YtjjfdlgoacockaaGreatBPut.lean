import Derived.Test.YtjjfdlgoacockaaGreatTMade
import Derived.Test.YtjjfdlgoacockaaGreatMath
import Derived.Test.YtjjfdlgoacockaaGreatTCheck
import Derived.Test.YtjjfdlgoacockaaGreatBuild
import Derived.Test.YtjjfdlgoacockaaGreatWRBytes
import Derived.Test.YtjjfdlgoacockaaGreatWBytes
import Derived.Test.YtjjfdlgoacockaaGreatNMath
import Derived.Lib.QuietBelow
import Derived.BigQuiet
namespace Go.Proofs.YtjjfdlgoacockaaGreat
open Go.RowKit M1 M2 M3 M9
open M7 (Ten ck)

def wr9 (t : Ten) : ByteArray := M3.pt 1 t.dims ++ fb ⟨2,0,us t.kind,⟨#[]⟩⟩ ++ fb ⟨8,2,0,t.name⟩ ++ fb ⟨9,2,0,t.data⟩
set_option maxRecDepth 100000 in
set_option maxHeartbeats 2000000 in
theorem b_put_anyX (t : Ten) (A : Option Addr) (c : Nat) (w : World) (ht : Tok w t A) (hd : t.data.size≤1000000) (hn : t.name.size≤1000000) (hl : t.dims.length≤1000000) :
    Calls Tryz.prog 37 #[t_tv t.name t.kind (.slice A t.dims.length c) t.data] w fun e w' => e = .returned (.tuple #[.string (if ck t = 0 then wr9 t else ⟨#[]⟩),.int .i64 (ck t)])∧Below w.heap.size w w' := by
  have HBX := Lib.hid (Bx.start w #[.string t.name,.int .i64 t.kind,.slice A t.dims.length c,.string t.data] 98)
  have HT := Lib.hid ht
  have HC := Lib.hid (fun W (h : Below w.heap.size w W) => tcheck_any t A c W (ht.below h))
  clear ht
  by_cases h0 : ck t = 0
  · have HE := Lib.hid (show (if ck t = 0 then wr9 t else ⟨#[]⟩) = wr9 t from if_pos h0)
    have HP := Lib.hid (fun W (h : Below w.heap.size w W) => packPut_any A c t.dims 1 W (by omega) (HT.out.below h).dims (by omega) (by omega))
    have HN := Lib.hid (fun W => number_any 2 (us t.kind) W (us_fits _) (by omega) (by omega))
    have HX1 := Lib.hid (fun W => text_any 8 t.name W (by omega) (by omega) (by omega))
    have HX2 := Lib.hid (fun W => text_any 9 t.data W (by omega) (by omega) (by omega))
    have hU := us_eq t.kind
    have q1 : (M3.pt 1 t.dims).size≤30000000 := by have := pt_le 1 t.dims; omega
    have q2 := fb_le ⟨2,0,us t.kind,⟨#[]⟩⟩
    have q3 := fb_le ⟨8,2,0,t.name⟩
    have q4 := fb_le ⟨9,2,0,t.data⟩
    have HRR := Lib.hid (show wr9 t = M3.pt 1 t.dims ++ fb ⟨2,0,us t.kind,⟨#[]⟩⟩ ++ fb ⟨8,2,0,t.name⟩ ++ fb ⟨9,2,0,t.data⟩ from rfl)
    rw [HE.out]
    generalize wr9 t = R at *
    have r2 : (fb ⟨2,0,us t.kind,⟨#[]⟩⟩).size≤20 := by have : (⟨#[]⟩ : ByteArray).size = 0 := rfl; dsimp only at q2; omega
    have r3 : (fb ⟨8,2,0,t.name⟩).size≤1000020 := by dsimp only at q3; omega
    have r4 : (fb ⟨9,2,0,t.data⟩).size≤1000020 := by dsimp only at q4; omega
    clear q2 q3 q4 HE
    generalize M3.pt 1 t.dims = a1 at *
    generalize fb ⟨2,0,us t.kind,⟨#[]⟩⟩ = a2 at *
    generalize fb ⟨8,2,0,t.name⟩ = a3 at *
    generalize fb ⟨9,2,0,t.data⟩ = a4 at *
    generalize us t.kind = U at *
    rw [h0] at HC ⊢
    clear h0 hd hn hl
    go_enter Tryz.func37,Tryz.ntmps37
    go_wp2_with fail
    refine (HC.out _ HBX.out.all).mono ?_
    rintro e w1 ⟨rfl,hb1⟩
    have H1 := Lib.hid (HBX.out.below hb1)
    have HBN := Lib.hid (build_new w1)
    have H2 := Lib.hid (H1.out.more (.cells #[.pointer none,.slice none 0 0] 115))
    have HG := Lib.hid H1.out.2.1
    have HGW := Lib.hid H1.out.all.size
    have HGZ := Lib.hid (show w1.heap.size≤(w1.alloc (.cells #[.pointer none,.slice none 0 0] 115)).heap.size by simp)
    obtain ⟨c0,c1,c2,c3⟩ := H2.out.four
    clear hb1 HBX H1 HC
    go_wp2_with fail
    generalize hgg : w1.heap.size = g at *
    have HGG := Lib.hid hgg
    clear hgg
    refine (HP.out _ H2.out.all).mono ?_
    rintro e wa0 ⟨rfl,hb⟩
    have HA0 := Lib.hid (H2.out.below hb)
    have HD0 := Lib.hid (build_keep HBN.out hb)
    have HZ0 := Lib.hid (Nat.le_trans HGZ.out hb.size)
    clear hb H2 HBN HGZ c0 c1 c2 c3
    go_wp2_with fail
    refine (writeString_any g g [] a1 _ HD0.out (by simp; omega) HZ0.out).mono ?_
    rintro e wb0 ⟨rfl,hbd,hb⟩
    have HB0 := Lib.hid (HA0.out.low hb HG.out HGW.out)
    have HE0 := Lib.hid hbd
    have HY0 := Lib.hid (Nat.le_trans HZ0.out hb.size)
    obtain ⟨c0,c1,c2,c3⟩ := HB0.out.four
    clear hb hbd HA0 HD0 HZ0
    go_wp2_with fail
    refine (HN.out _).mono ?_
    rintro e wa1 ⟨rfl,hb⟩
    have HA1 := Lib.hid (HB0.out.below hb)
    have HD1 := Lib.hid (build_keep HE0.out hb)
    have HZ1 := Lib.hid (Nat.le_trans HY0.out hb.size)
    clear hb HB0 HE0 HY0 c0 c1 c2 c3
    go_wp2_with fail
    refine (writeString_any g g ([] ++ a1.data.toList) a2 _ HD1.out (by simp; omega) HZ1.out).mono ?_
    rintro e wb1 ⟨rfl,hbd,hb⟩
    have HB1 := Lib.hid (HA1.out.low hb HG.out HGW.out)
    have HE1 := Lib.hid hbd
    have HY1 := Lib.hid (Nat.le_trans HZ1.out hb.size)
    obtain ⟨c0,c1,c2,c3⟩ := HB1.out.four
    clear hb hbd HA1 HD1 HZ1
    go_wp2_with fail
    refine (HX1.out _).mono ?_
    rintro e wa2 ⟨rfl,hb⟩
    have HA2 := Lib.hid (HB1.out.below hb)
    have HD2 := Lib.hid (build_keep HE1.out hb)
    have HZ2 := Lib.hid (Nat.le_trans HY1.out hb.size)
    clear hb HB1 HE1 HY1 c0 c1 c2 c3
    go_wp2_with fail
    refine (writeString_any g g ([] ++ a1.data.toList ++ a2.data.toList) a3 _ HD2.out (by simp; omega) HZ2.out).mono ?_
    rintro e wb2 ⟨rfl,hbd,hb⟩
    have HB2 := Lib.hid (HA2.out.low hb HG.out HGW.out)
    have HE2 := Lib.hid hbd
    have HY2 := Lib.hid (Nat.le_trans HZ2.out hb.size)
    obtain ⟨c0,c1,c2,c3⟩ := HB2.out.four
    clear hb hbd HA2 HD2 HZ2
    go_wp2_with fail
    refine (HX2.out _).mono ?_
    rintro e wa3 ⟨rfl,hb⟩
    have HA3 := Lib.hid (HB2.out.below hb)
    have HD3 := Lib.hid (build_keep HE2.out hb)
    have HZ3 := Lib.hid (Nat.le_trans HY2.out hb.size)
    clear hb HB2 HE2 HY2 c0 c1 c2 c3
    go_wp2_with fail
    refine (writeString_any g g ([] ++ a1.data.toList ++ a2.data.toList ++ a3.data.toList) a4 _ HD3.out (by simp; omega) HZ3.out).mono ?_
    rintro e wb3 ⟨rfl,hbd,hb⟩
    have HB3 := Lib.hid (HA3.out.low hb HG.out HGW.out)
    have HE3 := Lib.hid hbd
    have HY3 := Lib.hid (Nat.le_trans HZ3.out hb.size)
    obtain ⟨c0,c1,c2,c3⟩ := HB3.out.four
    clear hb hbd HA3 HD3 HZ3
    go_wp2_with fail
    refine (buildString_any g g _ _ HE3.out HY3.out).mono ?_
    rintro e wz ⟨rfl,-,hb⟩
    have HF := Lib.hid (HB3.out.low hb HG.out HGW.out)
    clear hb
    go_wp2_with fail
    go_ret2
    have hq : (⟨(a1.data.toList ++ (a2.data.toList ++ (a3.data.toList ++ a4.data.toList))).toArray⟩ : ByteArray) = R := by
      rw [HRR.out]; exact ByteArray.ext (by simp)
    rw [← hq]
    exact ⟨rfl,HF.out.all⟩
  · have HE := Lib.hid (show (if ck t = 0 then wr9 t else ⟨#[]⟩) = ⟨#[]⟩ from if_neg h0)
    have hcb : (ck t != 0) = true := by simpa using h0
    generalize (if ck t = 0 then wr9 t else ⟨#[]⟩) = R at *
    generalize ck t = K at *
    clear h0
    go_enter Tryz.func37,Tryz.ntmps37
    go_wp2_with fail
    refine (HC.out _ HBX.out.all).mono ?_
    rintro e w1 ⟨rfl,hb1⟩
    have H1 := Lib.hid (HBX.out.below hb1)
    clear hb1 HBX
    go_wp2_with fail
    go_ret2
    rw [HE.out]
    exact ⟨rfl,H1.out.all⟩
theorem b_put_any (t : Ten) (A : Option Addr) (c : Nat) (w : World) (ht : Tok w t A) (hd : t.data.size≤4000) (hn : t.name.size≤200) (hl : t.dims.length≤20) :
    Calls Tryz.prog 37 #[t_tv t.name t.kind (.slice A t.dims.length c) t.data] w fun e w' => e = .returned (.tuple #[.string (if ck t = 0 then wr9 t else ⟨#[]⟩),.int .i64 (ck t)])∧Below w.heap.size w w' :=
  b_put_anyX t A c w ht (by omega) (by omega) (by omega)
end Go.Proofs.YtjjfdlgoacockaaGreat
namespace Go.Proofs.YtjjfdlgoacockaaGreat
open Go.RowKit M1 M2 M3 M9 M10 M11 Go.Sort

theorem n_et (a : ByteArray) : a ++ (⟨#[]⟩ : ByteArray) = a := ByteArray.ext (by simp)
theorem n_te (a : ByteArray) : (⟨#[]⟩ : ByteArray) ++ a = a := ByteArray.ext (by simp)
theorem n_assoc (a b c : ByteArray) : a ++ b ++ c = a ++ (b ++ c) := ByteArray.ext (by simp)
theorem cat_one (f : WFd) : cat [f] = fb f := n_et _
theorem cat_two (f g : WFd) : cat [f,g] = fb f ++ fb g := by rw [cat,cat_one]
theorem n_cat_snoc (l : List WFd) (f : WFd) : cat (l ++ [f]) = cat l ++ fb f := by
  induction l with
  | nil => rw [List.nil_append,cat_one]; exact (n_te _).symm
  | cons g l ih => rw [List.cons_append,cat,ih,cat,n_assoc]
theorem dim_step {l : List Int} {k : Nat} (h : k < l.length) : cat (dimF (l.take k)) ++ fb ⟨1,2,0,fb ⟨1,0,us l[k],⟨#[]⟩⟩⟩ = cat (dimF (l.take (k + 1))) := by
  rw [List.take_succ_eq_append_getElem h]
  unfold dimF
  rw [List.map_append,List.map_singleton,n_cat_snoc,cat_one]
  rfl
theorem dim_size (l : List Int) : (cat (dimF l)).size≤60 * l.length := by
  induction l with
  | nil => exact Nat.zero_le _
  | cons n l ih =>
    have e : cat (dimF (n :: l)) = fb (tF 1 (cat [nF 1 (us n)])) ++ cat (dimF l) := rfl
    rw [e,cat_one,ByteArray.size_append,List.length_cons]
    have h1 := fb_le (tF 1 (fb (nF 1 (us n))))
    have h2 := fb_le (nF 1 (us n))
    have h3 : (nF 1 (us n)).data.size = 0 := rfl
    have h4 : (tF 1 (fb (nF 1 (us n)))).data.size = (fb (nF 1 (us n))).size := rfl
    omega
theorem wrI_is (i : Inf) : fb ⟨1,2,0,i.name⟩ ++ fb ⟨2,2,0,fb ⟨1,2,0,fb ⟨1,0,us i.kind,⟨#[]⟩⟩ ++ fb ⟨2,2,0,cat (dimF i.dims)⟩⟩⟩ = wrI i := by
  unfold wrI infF tenF
  rw [cat_two,cat_one,cat_two]
  rfl

end Go.Proofs.YtjjfdlgoacockaaGreat
