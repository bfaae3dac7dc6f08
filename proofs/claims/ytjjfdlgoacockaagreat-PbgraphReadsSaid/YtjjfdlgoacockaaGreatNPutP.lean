import Derived.Test.YtjjfdlgoacockaaGreatBPut
import Derived.Test.YtjjfdlgoacockaaGreatBLast
import Derived.Test.YtjjfdlgoacockaaGreatMNew
namespace Go.Proofs.YtjjfdlgoacockaaGreat
open Go.RowKit M1 M2 M3 M9 M10 M11 Go.Sort

theorem wrA_one {a : Att} (h : a.one = true) : fb ⟨1,2,0,a.name⟩ ++ fb ⟨3,0,us a.int,⟨#[]⟩⟩ ++ fb ⟨20,0,2,⟨#[]⟩⟩ = wrA a := by
  unfold wrA attF
  rw [h,if_pos rfl,cat,cat_two,n_assoc]
  rfl
theorem wrA_row {a : Att} (h : a.one = false) : fb ⟨1,2,0,a.name⟩ ++ M3.pt 8 a.ints ++ fb ⟨20,0,7,⟨#[]⟩⟩ = wrA a := by
  unfold wrA attF
  rw [h,if_neg (by simp),cat,n_assoc]
  congr 1
  unfold M3.pt
  by_cases hi : a.ints = []
  · rw [if_pos hi,if_pos hi,List.nil_append,cat_one,n_te]; rfl
  · rw [if_neg hi,if_neg hi,List.singleton_append,cat_two]; rfl
theorem n_wrA_le (a : Att) : (wrA a).size≤100 + a.name.size + 30 * a.ints.length := by
  have h1 := fb_le ⟨1,2,0,a.name⟩
  have h2 := fb_le ⟨3,0,us a.int,⟨#[]⟩⟩
  have h3 := fb_le ⟨20,0,2,⟨#[]⟩⟩
  have h4 := fb_le ⟨20,0,7,⟨#[]⟩⟩
  have h5 := pt_le 8 a.ints
  have z : (⟨#[]⟩ : ByteArray).size = 0 := rfl
  dsimp only at h1 h2 h3 h4
  cases h : a.one
  · rw [← wrA_row h,ByteArray.size_append,ByteArray.size_append]; omega
  · rw [← wrA_one h,ByteArray.size_append,ByteArray.size_append]; omega
theorem cat_many {M : Nat} : ∀ {l : List WFd},(∀ f ∈ l,f.data.size≤M)→(cat l).size≤l.length * (M + 20)
  | [],_ => Nat.zero_le _
  | f :: l,h => by
    have h1 := cat_many (l := l) fun g hg => h g (List.mem_cons_of_mem _ hg)
    have h2 := fb_le f
    have h3 := h f List.mem_cons_self
    have e : cat (f :: l) = fb f ++ cat l := rfl
    rw [e,ByteArray.size_append,List.length_cons,Nat.succ_mul]
    omega
theorem n_cat_app (a b : List WFd) : cat (a ++ b) = cat a ++ cat b := by
  induction a with
  | nil => rw [List.nil_append]; exact (n_te _).symm
  | cons f a ih => rw [List.cons_append,cat,ih,cat,n_assoc]
theorem cat_map_take {α : Type} (f : α→WFd) {l : List α} {k : Nat} (h : k < l.length) : cat ((l.take k).map f) ++ fb (f l[k]) = cat ((l.take (k + 1)).map f) := by
  rw [List.take_succ_eq_append_getElem h,List.map_append,List.map_singleton,n_cat_snoc]
theorem n_list (a b : ByteArray) : a.data.toList ++ b.data.toList = (a ++ b).data.toList := by simp [ByteArray.data_append]

set_option maxRecDepth 100000 in
set_option maxHeartbeats 1000000 in
theorem putAttr_any (a : Att) (ca : List Value) (w : World) (ha : AttAt w.heap.size w a ca) (hn : a.name.size≤2000000) (hl : a.ints.length≤2000000) :
    Calls Tryz.prog 91 #[.agg ca.toArray] w fun e w' => e = .returned (.string (wrA a))∧Below w.heap.size w w' := by
  obtain ⟨A,c,rfl,hs,ok⟩ := ha
  have HX := Lib.hid (Bx.start w #[.string a.name,.bool a.one,.int .i64 a.int,.slice A a.ints.length c] 108)
  have HS := Lib.hid hs
  have hg1 : (fb ⟨1,2,0,a.name⟩).size≤100000000 := by have := fb_le ⟨1,2,0,a.name⟩; dsimp only at this; omega
  have hg3 : (fb ⟨3,0,us a.int,⟨#[]⟩⟩).size≤100 := by have h := fb_le ⟨3,0,us a.int,⟨#[]⟩⟩; have z : (⟨#[]⟩ : ByteArray).size = 0 := rfl; dsimp only at h; omega
  have hg2 : (fb ⟨20,0,2,⟨#[]⟩⟩).size≤100 := by have h := fb_le ⟨20,0,2,⟨#[]⟩⟩; have z : (⟨#[]⟩ : ByteArray).size = 0 := rfl; dsimp only at h; omega
  have hg7 : (fb ⟨20,0,7,⟨#[]⟩⟩).size≤100 := by have h := fb_le ⟨20,0,7,⟨#[]⟩⟩; have z : (⟨#[]⟩ : ByteArray).size = 0 := rfl; dsimp only at h; omega
  have hg8 : (M3.pt 8 a.ints).size≤100000000 := by have := pt_le 8 a.ints; omega
  have H1 := Lib.hid (fun W => text_any 1 a.name W (by omega) (by decide) (by decide))
  have H3 := Lib.hid (fun W => number_any 3 (us a.int) W (us_fits _) (by decide) (by decide))
  have H2 := Lib.hid (fun W => number_any 20 2 W (by unfold Fits64; omega) (by decide) (by decide))
  have H7 := Lib.hid (fun W => number_any 20 7 W (by unfold Fits64; omega) (by decide) (by decide))
  have H8 := Lib.hid (fun W (h : Below w.heap.size w W) => packPut_any A c a.ints 8 W (by omega) ((hs.below h).more h.size) (by decide) (by decide))
  have HONE := Lib.hid (wrA_one (a := a))
  have HROW := Lib.hid (wrA_row (a := a))
  have hcv := us_eq a.int
  clear hs ok
  generalize fb ⟨1,2,0,a.name⟩ = G1 at *
  generalize fb ⟨3,0,us a.int,⟨#[]⟩⟩ = G3 at *
  generalize fb ⟨20,0,2,⟨#[]⟩⟩ = G2 at *
  generalize fb ⟨20,0,7,⟨#[]⟩⟩ = G7 at *
  generalize M3.pt 8 a.ints = G8 at *
  generalize wrA a = R at *
  obtain ⟨x0,x1,x2,x3⟩ := HX.out.four
  go_enter Tryz.func91,Tryz.ntmps91
  go_wp2_with fail
  refine (H1.out _).mono ?_
  rintro e w1 ⟨rfl,hb1⟩
  have HX1 := Lib.hid (HX.out.below hb1)
  clear hb1 x0 x1 x2 x3
  obtain ⟨x0,x1,x2,x3⟩ := HX1.out.four
  cases h1 : a.one
  · rw [h1] at x1
    have HE := Lib.hid (HROW.out h1)
    clear h1
    go_wp2_with fail
    refine (H8.out _ HX1.out.all).mono ?_
    rintro e w2 ⟨rfl,hb2⟩
    have HX2 := Lib.hid (HX1.out.below hb2)
    clear hb2 x0 x1 x2 x3
    go_wp2_with fail
    refine (H7.out _).mono ?_
    rintro e w3 ⟨rfl,hb3⟩
    have HX3 := Lib.hid (HX2.out.below hb3)
    clear hb3
    go_wp2_with fail
    go_ret
    rw [← HE.out]
    exact ⟨rfl,HX3.out.all⟩
  · rw [h1] at x1
    have HE := Lib.hid (HONE.out h1)
    clear h1
    go_wp2_with fail
    refine (H3.out _).mono ?_
    rintro e w2 ⟨rfl,hb2⟩
    have HX2 := Lib.hid (HX1.out.below hb2)
    clear hb2 x0 x1 x2 x3
    go_wp2_with fail
    refine (H2.out _).mono ?_
    rintro e w3 ⟨rfl,hb3⟩
    have HX3 := Lib.hid (HX2.out.below hb3)
    clear hb3
    go_wp2_with fail
    go_ret
    rw [← HE.out]
    exact ⟨rfl,HX3.out.all⟩

set_option maxRecDepth 100000 in
set_option maxHeartbeats 1000000 in
theorem putInfo_any (i : Inf) (ci : List Value) (w : World) (hi : InfAt w.heap.size w i ci) (hl : i.dims.length≤2000000) (hn : i.name.size≤2000000) :
    Calls Tryz.prog 43 #[.agg ci.toArray] w fun e w' => e = .returned (.string (wrI i))∧Below w.heap.size w w' := by
  obtain ⟨A,c,rfl,hs,ok⟩ := hi
  have HX := Lib.hid ((Bx.start w #[.string i.name,.int .i64 i.kind,.slice A i.dims.length c] 106).more (.cells #[.pointer none,.slice none 0 0] 115))
  have hbn := build_new (w.alloc (.cells #[.string i.name,.int .i64 i.kind,.slice A i.dims.length c] 106))
  have hz : (w.alloc (.cells #[.string i.name,.int .i64 i.kind,.slice A i.dims.length c] 106)).heap.size = w.heap.size + 1 := by simp
  rw [hz] at hbn
  have HBN := Lib.hid hbn
  have HS := Lib.hid hs
  obtain ⟨x0,x1,x2⟩ := HX.out.three
  clear hs ok hbn hz
  go_enter Tryz.func43,Tryz.ntmps43
  go_wp2_with fail
  clear x0 x1 x2
  go_loopw [10] (fun j wr => ∃ (k : Nat) (K : Int),j = .int .i64 K∧K = (k : Nat)∧k≤i.dims.length∧BuildF (w.heap.size + 1) (w.heap.size + 1) (cat (dimF (i.dims.take k))).data.toList wr∧Bx w w.heap.size #[.string i.name,.int .i64 i.kind,.slice A i.dims.length c] 106 wr∧w.heap.size + 1≤wr.heap.size) (fun j _ => i.dims.length - (intOf j).toNat)
  case atStart => exact ⟨0,_,rfl,rfl,by omega,HBN.out,HX.out,by simp⟩
  case round =>
    obtain ⟨k,K,rfl,rfl,hk,hbf,hbx,hsz⟩ := hrel
    have HBF := Lib.hid hbf
    have HBX := Lib.hid hbx
    have HSZ := Lib.hid hsz
    by_cases hlt : k < i.dims.length
    · obtain ⟨b,o,rfl,hb,y0⟩ := int_at (HS.out.below hbx.all) hlt
      have HN := Lib.hid (dim_step hlt)
      have hds := dim_size (i.dims.take k)
      have hdl : (i.dims.take k).length≤2000000 := by simp; omega
      clear hbf hbx hsz
      generalize i.dims[k] = n at *
      have hcv := us_eq n
      have HF := Lib.hid (us_fits n)
      have hq1 : (fb ⟨1,0,us n,⟨#[]⟩⟩).size≤20 := fb_le ⟨1,0,us n,⟨#[]⟩⟩
      have hq2 := fb_le ⟨1,2,0,fb ⟨1,0,us n,⟨#[]⟩⟩⟩
      dsimp only at hq2
      go_wp2_with fail
      refine (number_any 1 (us n) _ HF.out (by decide) (by decide)).mono ?_
      rintro e w2 ⟨rfl,hb2⟩
      have H2 := Lib.hid (And.intro (build_keep HBF.out hb2) (And.intro (HBX.out.below hb2) (Nat.le_trans HSZ.out hb2.size)))
      clear hb2 y0
      go_wp2_with fail
      refine (text_any 1 _ _ (by omega) (by decide) (by decide)).mono ?_
      rintro e w3 ⟨rfl,hb3⟩
      have H3 := Lib.hid (And.intro (build_keep H2.out.1 hb3) (And.intro (H2.out.2.1.below hb3) (Nat.le_trans H2.out.2.2 hb3.size)))
      have HW := Lib.hid (writeString_any (w.heap.size + 1) (w.heap.size + 1) _ (fb ⟨1,2,0,fb ⟨1,0,us n,⟨#[]⟩⟩⟩) w3 H3.out.1 (by rw [joined_len]; omega) H3.out.2.2)
      clear hb3 H2 hds
      generalize hG : fb ⟨1,2,0,fb ⟨1,0,us n,⟨#[]⟩⟩⟩ = G at *
      clear hG hq1 hq2 hcv
      go_wp2_with fail
      refine HW.out.mono ?_
      rintro e w4 ⟨rfl,hbf4,hb4⟩
      rw [n_list,HN.out] at hbf4
      have H4 := Lib.hid (And.intro hbf4 (And.intro (H3.out.2.1.low hb4 (by omega) (by omega)) (Nat.le_trans H3.out.2.2 hb4.size)))
      clear hbf4 hb4 HW
      go_wp2_with fail
      go_roundw
      case rel => exact ⟨k + 1,_,rfl,by omega,by omega,H4.out.1,H4.out.2.1,H4.out.2.2⟩
      case measure => simp [intOf]; omega
    · obtain rfl : k = i.dims.length := by omega
      rw [List.take_length] at HBF
      have hds := dim_size i.dims
      have HWI := Lib.hid (wrI_is i)
      clear hbf hbx hsz
      have hcv := us_eq i.kind
      have hBS := fun W (h : BuildF (w.heap.size + 1) (w.heap.size + 1) (cat (dimF i.dims)).data.toList W) (h2 : w.heap.size + 1≤W.heap.size) => buildString_any (w.heap.size + 1) (w.heap.size + 1) _ W h h2
      simp only [joined_back] at hBS
      have HBS := Lib.hid hBS
      clear hBS
      generalize cat (dimF i.dims) = t at *
      have l1 := fb_le ⟨1,2,0,i.name⟩
      have l2 := fb_le ⟨1,0,us i.kind,⟨#[]⟩⟩
      have l3 := fb_le ⟨2,2,0,t⟩
      have H1 := Lib.hid (fun W => text_any 1 i.name W (by omega) (by decide) (by decide))
      have H2 := Lib.hid (fun W => number_any 1 (us i.kind) W (us_fits _) (by decide) (by decide))
      have H3 := Lib.hid (fun W => text_any 2 t W (by omega) (by decide) (by decide))
      dsimp only at l1 l2 l3
      rw [show (⟨#[]⟩ : ByteArray).size = 0 from rfl] at l2
      generalize fb ⟨1,2,0,i.name⟩ = F1 at *
      generalize fb ⟨1,0,us i.kind,⟨#[]⟩⟩ = F2 at *
      generalize fb ⟨2,2,0,t⟩ = F3 at *
      have l4 := fb_le ⟨1,2,0,F2 ++ F3⟩
      dsimp only at l4
      rw [ByteArray.size_append] at l4
      have H4 := Lib.hid (fun W => text_any 1 (F2 ++ F3) W (by rw [ByteArray.size_append]; omega) (by decide) (by decide))
      generalize hF4 : fb ⟨1,2,0,F2 ++ F3⟩ = F4 at *
      clear hF4
      have l5 := fb_le ⟨2,2,0,F4⟩
      dsimp only at l5
      have H5 := Lib.hid (fun W => text_any 2 F4 W (by omega) (by decide) (by decide))
      generalize hF5 : fb ⟨2,2,0,F4⟩ = F5 at *
      clear hF5
      have g1 : F1.size≤100000000 := by omega
      have g2 : F2.size≤100000000 := by omega
      have g3 : F3.size≤200000000 := by omega
      have g5 : F5.size≤400000000 := by omega
      clear l1 l2 l3 l4 l5 hds
      obtain ⟨x0,x1,x2⟩ := HBX.out.three
      go_wp2_with fail
      refine (H2.out _).mono ?_
      rintro e w2 ⟨rfl,hb2⟩
      have K2 := Lib.hid (And.intro (build_keep HBF.out hb2) (And.intro (HBX.out.below hb2) (Nat.le_trans HSZ.out hb2.size)))
      clear hb2 x0 x1 x2
      go_wp2_with fail
      refine (HBS.out _ K2.out.1 K2.out.2.2).mono ?_
      rintro e w3 ⟨rfl,-,hb3⟩
      have K3 := Lib.hid (K2.out.2.1.low hb3 (by omega) (by omega))
      clear hb3 K2 HBF
      go_wp2_with fail
      refine (H3.out _).mono ?_
      rintro e w4 ⟨rfl,hb4⟩
      have K4 := Lib.hid (K3.out.below hb4)
      clear hb4 K3
      obtain ⟨x0,x1,x2⟩ := K4.out.three
      go_wp2_with fail
      refine (H1.out _).mono ?_
      rintro e w5 ⟨rfl,hb5⟩
      have K5 := Lib.hid (K4.out.below hb5)
      clear hb5 x0 x1 x2
      go_wp2_with fail
      refine (H4.out _).mono ?_
      rintro e w6 ⟨rfl,hb6⟩
      have K6 := Lib.hid (K5.out.below hb6)
      clear hb6
      go_wp2_with fail
      refine (H5.out _).mono ?_
      rintro e w7 ⟨rfl,hb7⟩
      have K7 := Lib.hid (K6.out.below hb7)
      clear hb7
      go_wp2_with fail
      go_ret
      exact ⟨by rw [← HWI.out]; rfl,K7.out.all⟩
end Go.Proofs.YtjjfdlgoacockaaGreat
namespace Go.Proofs.YtjjfdlgoacockaaGreat
open Go.RowKit M1 M2 M3 M9 M10 M11 Go.Sort

def nwI (n : Nod) (k : Nat) : ByteArray := cat ((n.ins.take k).map (tF 1))
def nwA (n : Nod) (k : Nat) : ByteArray := nwI n n.ins.length ++ fb ⟨2,2,0,n.out⟩ ++ fb ⟨4,2,0,n.op⟩ ++ cat ((n.attrs.take k).map fun a => tF 5 (wrA a))
theorem nwI_step {n : Nod} {k : Nat} (h : k < n.ins.length) : nwI n k ++ fb ⟨1,2,0,n.ins[k]⟩ = nwI n (k + 1) := cat_map_take (tF 1) h
theorem nwA_zero (n : Nod) : nwA n 0 = nwI n n.ins.length ++ fb ⟨2,2,0,n.out⟩ ++ fb ⟨4,2,0,n.op⟩ := by
  unfold nwA; rw [List.take_zero]; exact n_et _
theorem nwA_step {n : Nod} {k : Nat} (h : k < n.attrs.length) : nwA n k ++ fb ⟨5,2,0,wrA n.attrs[k]⟩ = nwA n (k + 1) := by
  unfold nwA
  rw [n_assoc]
  congr 1
  exact cat_map_take (fun a => tF 5 (wrA a)) h
theorem nwA_end (n : Nod) : nwA n n.attrs.length = wrN n := by
  unfold nwA nwI wrN nodF
  rw [List.take_length,List.take_length,n_cat_app,n_cat_app,cat_two,n_assoc,n_assoc,n_assoc]
  rfl
structure NSm (n : Nod) : Prop where
  il : n.ins.length≤2000000
  al : n.attrs.length≤2000000
  op : n.op.size≤2000000
  out : n.out.size≤2000000
  ins : ∀ s ∈ n.ins,s.size≤2000000
  att : ∀ a ∈ n.attrs,a.name.size≤2000000∧a.ints.length≤2000000
theorem nwI_size {n : Nod} (h : NSm n) (k : Nat) : (nwI n k).size≤4100000000000 := by
  have h1 := cat_many (M := 2000000) (l := (n.ins.take k).map (tF 1)) fun f hf => by
    obtain ⟨s,hs,rfl⟩ := List.mem_map.1 hf
    exact h.ins s (List.mem_of_mem_take hs)
  have h2 : ((n.ins.take k).map (tF 1)).length≤2000000 := by have := h.il; simp; omega
  have h3 : ((n.ins.take k).map (tF 1)).length * (2000000 + 20)≤2000000 * (2000000 + 20) := Nat.mul_le_mul_right _ h2
  show (cat _).size≤_
  omega
theorem nwA_size {n : Nod} (h : NSm n) (k : Nat) : (nwA n k).size≤140000000000000 := by
  have h0 := nwI_size h n.ins.length
  have h1 := cat_many (M := 62000100) (l := (n.attrs.take k).map fun a => tF 5 (wrA a)) fun f hf => by
    obtain ⟨a,ha,rfl⟩ := List.mem_map.1 hf
    have h2 := n_wrA_le a
    have h3 := h.att a (List.mem_of_mem_take ha)
    show (wrA a).size≤_
    omega
  have h2 : ((n.attrs.take k).map fun a => tF 5 (wrA a)).length≤2000000 := by have := h.al; simp; omega
  have h3 : ((n.attrs.take k).map fun a => tF 5 (wrA a)).length * (62000100 + 20)≤2000000 * (62000100 + 20) := Nat.mul_le_mul_right _ h2
  have h4 := fb_le ⟨2,2,0,n.out⟩
  have h5 := fb_le ⟨4,2,0,n.op⟩
  have h6 := h.op
  have h7 := h.out
  dsimp only at h4 h5
  unfold nwA
  rw [ByteArray.size_append,ByteArray.size_append,ByteArray.size_append]
  omega
structure PN (w : World) (cs : Array Value) (t : ByteArray) (W : World) : Prop where
  bf : BuildF (w.heap.size + 1) (w.heap.size + 1) t.data.toList W
  bx : Bx w w.heap.size cs 102 W
  sz : w.heap.size + 1≤W.heap.size
theorem PN.below {w W W' : World} {cs : Array Value} {t : ByteArray} (h : PN w cs t W) (hb : Below W.heap.size W W') : PN w cs t W' :=
  ⟨build_keep h.bf hb,h.bx.below hb,Nat.le_trans h.sz hb.size⟩
theorem PN.wrote {w W W' : World} {cs : Array Value} {t u s : ByteArray} (h : PN w cs t W) (he : t ++ s = u) (hbf : BuildF (w.heap.size + 1) (w.heap.size + 1) (t.data.toList ++ s.data.toList) W') (hb : Below (w.heap.size + 1) W W') : PN w cs u W' :=
  ⟨by rw [← he,← n_list]; exact hbf,h.bx.low hb (by omega) (by omega),Nat.le_trans h.sz hb.size⟩
theorem PN.write {w W : World} {cs : Array Value} {t : ByteArray} (h : PN w cs t W) (s : ByteArray) (hs : t.size + s.size≤140737488355328) :
    Calls Tryz.prog 77 #[.pointer (some ⟨w.heap.size + 1,0,none⟩),.string s] W fun e w' => e = .returned (.tuple #[.int .i64 s.size,.nilIface])∧BuildF (w.heap.size + 1) (w.heap.size + 1) (t.data.toList ++ s.data.toList) w'∧Below (w.heap.size + 1) W w' :=
  writeString_any (w.heap.size + 1) (w.heap.size + 1) _ s W h.bf (by rw [joined_len]; exact hs) h.sz

set_option maxRecDepth 100000 in
set_option maxHeartbeats 4000000 in
theorem putNode_any (n : Nod) (cn : List Value) (w : World) (hn : NodAt w.heap.size w n cn) (hsm : NSm n) :
    Calls Tryz.prog 39 #[.agg cn.toArray] w fun e w' => e = .returned (.string (wrN n))∧Below w.heap.size w w' := by
  obtain ⟨A,c,D,d,rfl,hs,hd,ok⟩ := hn
  have HS := Lib.hid (show SR w w.heap.size 1 A n.ins.length (p_tv n.ins) from hs)
  have HD := Lib.hid hd
  have HSM := Lib.hid hsm
  have hz : (w.alloc (.cells #[.string n.op,.slice A n.ins.length c,.string n.out,.slice D n.attrs.length d] 102)).heap.size = w.heap.size + 1 := by simp
  have hbn := build_new (w.alloc (.cells #[.string n.op,.slice A n.ins.length c,.string n.out,.slice D n.attrs.length d] 102))
  rw [hz] at hbn
  have HP0 : Hid (PN w #[.string n.op,.slice A n.ins.length c,.string n.out,.slice D n.attrs.length d] ⟨#[]⟩ ((w.alloc (.cells #[.string n.op,.slice A n.ins.length c,.string n.out,.slice D n.attrs.length d] 102)).alloc (.cells #[.pointer none,.slice none 0 0] 115))) :=
    Lib.hid ⟨hbn,(Bx.start w _ _).more _,by simp⟩
  obtain ⟨x0,x1,x2,x3⟩ := HP0.out.bx.four
  have hil := hsm.il
  have hal := hsm.al
  clear hs hd ok hz hbn hsm
  go_enter Tryz.func39,Tryz.ntmps39
  go_wp2_with fail
  clear x0 x1 x2 x3
  go_loopw [11] (fun j wr => ∃ (k : Nat) (K : Int),j = .int .i64 K∧K = (k : Nat)∧k≤n.ins.length∧PN w #[.string n.op,.slice A n.ins.length c,.string n.out,.slice D n.attrs.length d] (nwI n k) wr) (fun j _ => n.ins.length - (intOf j).toNat)
  case atStart => exact ⟨0,_,rfl,rfl,by omega,HP0.out⟩
  case round =>
    obtain ⟨k,K,rfl,rfl,hk,hp⟩ := hrel
    have HP := Lib.hid hp
    by_cases hlt : k < n.ins.length
    · obtain ⟨b,o,rfl,hb,y0⟩ := n_txt_at (HS.out.below hp.bx.all) hlt
      have hsk := HSM.out.ins _ (List.getElem_mem hlt)
      have HN := Lib.hid (nwI_step hlt)
      have hts := nwI_size HSM.out k
      clear hp
      generalize n.ins[k] = s at *
      have hq := fb_le ⟨1,2,0,s⟩
      dsimp only at hq
      go_wp2_with fail
      refine (text_any 1 s _ (by omega) (by decide) (by decide)).mono ?_
      rintro e w2 ⟨rfl,hb2⟩
      have HP2 := Lib.hid (HP.out.below hb2)
      have HW := Lib.hid (HP2.out.write (fb ⟨1,2,0,s⟩) (by omega))
      clear hb2 y0 hts
      generalize fb ⟨1,2,0,s⟩ = G at *
      clear hq
      go_wp2_with fail
      refine HW.out.mono ?_
      rintro e w3 ⟨rfl,hbf3,hb3⟩
      have HP3 := Lib.hid (HP2.out.wrote HN.out hbf3 hb3)
      clear hbf3 hb3 HW HP2
      go_wp2_with fail
      go_roundw
      case rel => exact ⟨k + 1,_,rfl,by omega,by omega,HP3.out⟩
      case measure => simp [intOf]; omega
    · obtain rfl : k = n.ins.length := by omega
      obtain ⟨x0,x1,x2,x3⟩ := hp.bx.four
      have ho := HSM.out.out
      have hop := HSM.out.op
      have hts := nwI_size HSM.out n.ins.length
      have q2 := fb_le ⟨2,2,0,n.out⟩
      have q4 := fb_le ⟨4,2,0,n.op⟩
      dsimp only at q2 q4
      have T2 := Lib.hid (fun W => text_any 2 n.out W (by omega) (by decide) (by decide))
      have T4 := Lib.hid (fun W => text_any 4 n.op W (by omega) (by decide) (by decide))
      have HZ := Lib.hid (nwA_zero n)
      generalize fb ⟨2,2,0,n.out⟩ = G2 at *
      generalize fb ⟨4,2,0,n.op⟩ = G4 at *
      clear hp hlt hk
      go_wp2_with fail
      refine (T2.out _).mono ?_
      rintro e w2 ⟨rfl,hb2⟩
      have HP2 := Lib.hid (HP.out.below hb2)
      have HW := Lib.hid (HP2.out.write G2 (by omega))
      clear hb2 x0 x1 x2 x3 HP
      go_wp2_with fail
      refine HW.out.mono ?_
      rintro e w3 ⟨rfl,hbf3,hb3⟩
      have HP3 := Lib.hid (HP2.out.wrote rfl hbf3 hb3)
      obtain ⟨x0,x1,x2,x3⟩ := HP3.out.bx.four
      clear hbf3 hb3 HW HP2
      go_wp2_with fail
      refine (T4.out _).mono ?_
      rintro e w4 ⟨rfl,hb4⟩
      have HP4 := Lib.hid (HP3.out.below hb4)
      have HW := Lib.hid (HP4.out.write G4 (by rw [ByteArray.size_append]; omega))
      clear hb4 x0 x1 x2 x3 HP3
      go_wp2_with fail
      refine HW.out.mono ?_
      rintro e w5 ⟨rfl,hbf5,hb5⟩
      have HP5 := Lib.hid (HP4.out.wrote HZ.out.symm hbf5 hb5)
      obtain ⟨x0,x1,x2,x3⟩ := HP5.out.bx.four
      clear hbf5 hb5 HW HP4 q2 q4
      go_wp2_with fail
      clear x0 x1 x2 x3
      go_loopw [30] (fun j wr => ∃ (k : Nat) (K : Int),j = .int .i64 K∧K = (k : Nat)∧k≤n.attrs.length∧PN w #[.string n.op,.slice A n.ins.length c,.string n.out,.slice D n.attrs.length d] (nwA n k) wr) (fun j _ => n.attrs.length - (intOf j).toNat)
      case atStart => exact ⟨0,_,rfl,rfl,by omega,HP5.out⟩
      case round =>
        obtain ⟨k,K,rfl,rfl,hk,hp⟩ := hrel
        have HP := Lib.hid hp
        by_cases hlt : k < n.attrs.length
        · obtain ⟨b,o,ca,rfl,hbb,hpa,hcx⟩ := (HD.out.below ek_att hp.bx.all).at_ ek_att hlt
          have HPA := Lib.hid hpa
          have hak := HSM.out.att _ (List.getElem_mem hlt)
          have HN := Lib.hid (nwA_step hlt)
          have hts := nwA_size HSM.out k
          obtain ⟨A1,c1,rfl⟩ := AttAt.shape hpa
          clear hp hpa
          generalize n.attrs[k] = u at *
          have hwl : (wrA u).size≤63000000 := by have := n_wrA_le u; omega
          have p0 := hcx 0 _ rfl
          have p1 := hcx 1 _ rfl
          have p2 := hcx 2 _ rfl
          have p3 := hcx 3 _ rfl
          simp only [Nat.add_zero] at p0
          clear hcx
          have hbl := (Below.refl wr.heap.size wr).alloc (Nat.le_refl _) (.cells #[.string u.name,.bool u.one,.int .i64 u.int,.slice A1 u.ints.length c1] 108)
          have HPa := Lib.hid (HP.out.below hbl)
          have HAT := Lib.hid (ek_att.more (ek_att.below HPA.out (hbl.mono HP.out.bx.all.size)) (Nat.le_trans HP.out.bx.all.size hbl.size))
          have HU := Lib.hid (putAttr_any u _ _ HAT.out hak.1 hak.2)
          have hq := fb_le ⟨5,2,0,wrA u⟩
          dsimp only at hq
          clear hbl hak
          have T5 := Lib.hid (fun W => text_any 5 (wrA u) W (by omega) (by decide) (by decide))
          generalize fb ⟨5,2,0,wrA u⟩ = G at *
          generalize wrA u = RU at *
          go_wp2_with fail
          refine HU.out.mono ?_
          rintro e w2 ⟨rfl,hb2⟩
          have HP2 := Lib.hid (HPa.out.below hb2)
          clear hb2 HU HPa HAT p0 p1 p2 p3
          go_wp2_with fail
          refine (T5.out _).mono ?_
          rintro e w3 ⟨rfl,hb3⟩
          have HP3 := Lib.hid (HP2.out.below hb3)
          have HW := Lib.hid (HP3.out.write G (by omega))
          clear hb3 HP2 hts hq
          go_wp2_with fail
          refine HW.out.mono ?_
          rintro e w4 ⟨rfl,hbf4,hb4⟩
          have HP4 := Lib.hid (HP3.out.wrote HN.out hbf4 hb4)
          clear hbf4 hb4 HW HP3
          go_wp2_with fail
          go_roundw
          case rel => exact ⟨k + 1,_,rfl,by omega,by omega,HP4.out⟩
          case measure => simp [intOf]; omega
        · obtain rfl : k = n.attrs.length := by omega
          have HST := Lib.hid (buildString_any (w.heap.size + 1) (w.heap.size + 1) _ wr HP.out.bf HP.out.sz)
          rw [joined_back,nwA_end] at HST
          clear hp
          go_wp2_with fail
          refine HST.out.mono ?_
          rintro e w2 ⟨rfl,-,hb2⟩
          have HB := Lib.hid (HP.out.bx.all.trans (hb2.mono (Nat.le_succ _)))
          clear hb2 HST
          go_wp2_with fail
          go_ret
          exact ⟨rfl,HB.out⟩
end Go.Proofs.YtjjfdlgoacockaaGreat
