import Derived.Test.YtjjfdlgoacockaaGreatHRows
import Derived.Test.YtjjfdlgoacockaaGreatNPutP
import Derived.Test.YtjjfdlgoacockaaGreatMOf
import Derived.Test.YtjjfdlgoacockaaGreatBRead
namespace Go.Proofs.YtjjfdlgoacockaaGreat
open Go.RowKit M1 M2 M3 M8 M9 M10 M11 M12 Go.Sort
open M7 (nm Ten ck)

set_option maxRecDepth 100000 in
theorem itself_any (s : ByteArray) (w : World) : Calls Tryz.prog 41 #[.string s] w fun e w' => e = .returned (.string s)∧w' = w := by
  go_enter Tryz.func41,Tryz.ntmps41
  go_wp2_with fail
  go_ret
  exact ⟨rfl,rfl⟩
def ptT {α : Type} (t : ByteArray) (f : α→WFd) (l : List α) (k : Nat) : ByteArray := t ++ cat ((l.take k).map f)
theorem ptT_zero {α : Type} (t : ByteArray) (f : α→WFd) (l : List α) : ptT t f l 0 = t := by unfold ptT; rw [List.take_zero]; exact n_et _
theorem ptT_step {α : Type} (t : ByteArray) (f : α→WFd) {l : List α} {k : Nat} (h : k < l.length) : ptT t f l k ++ fb (f l[k]) = ptT t f l (k + 1) := by
  unfold ptT; rw [n_assoc]; congr 1; exact cat_map_take f h
theorem cat_take_le {α : Type} (f : α→WFd) (l : List α) (k : Nat) : (cat ((l.take k).map f)).size≤(cat (l.map f)).size := by
  have e : l.map f = (l.take k).map f ++ (l.drop k).map f := by rw [← List.map_append,List.take_append_drop]
  rw [e,n_cat_app,ByteArray.size_append]; omega
theorem ptT_size {α : Type} {t : ByteArray} {f : α→WFd} {l : List α} {M : Nat} (h : (t ++ cat (l.map f)).size≤M) (k : Nat) : (ptT t f l k).size≤M := by
  unfold ptT
  rw [ByteArray.size_append] at h ⊢
  have := cat_take_le f l k
  omega
theorem ptT_end {α : Type} (t : ByteArray) (f : α→WFd) (l : List α) : ptT t f l l.length = t ++ cat (l.map f) := by unfold ptT; rw [List.take_length]
theorem pt_fb_le {α : Type} {t : ByteArray} {f : α→WFd} {l : List α} {M : Nat} (h : (t ++ cat (l.map f)).size≤M) {k : Nat} (hk : k < l.length) : (fb (f l[k])).size≤M := by
  rw [ByteArray.size_append] at h
  have h1 := cat_size_mem (l := l.map f) (f := f l[k]) (List.mem_map.2 ⟨_,List.getElem_mem hk,rfl⟩)
  omega
structure PX (w : World) (gb : Nat) (t : ByteArray) (W : World) : Prop where
  bf : BuildF gb gb t.data.toList W
  bl : Below gb w W
  sz : gb≤W.heap.size
theorem PX.below {w W W' : World} {gb : Nat} {t : ByteArray} (h : PX w gb t W) (hb : Below W.heap.size W W') : PX w gb t W' := ⟨build_keep h.bf hb,h.bl.trans (hb.mono h.sz),Nat.le_trans h.sz hb.size⟩
theorem PX.wrote {w W W' : World} {gb : Nat} {t u s : ByteArray} (h : PX w gb t W) (he : t ++ s = u) (hbf : BuildF gb gb (t.data.toList ++ s.data.toList) W') (hb : Below gb W W') : PX w gb u W' := ⟨by rw [← he,← n_list]; exact hbf,h.bl.trans hb,Nat.le_trans h.sz hb.size⟩
theorem PX.write {w W : World} {gb : Nat} {t : ByteArray} (h : PX w gb t W) (s : ByteArray) (hs : t.size + s.size≤140737488355328) :
    Calls Tryz.prog 77 #[.pointer (some ⟨gb,0,none⟩),.string s] W fun e w' => e = .returned (.tuple #[.int .i64 s.size,.nilIface])∧BuildF gb gb (t.data.toList ++ s.data.toList) w'∧Below gb W w' :=
  writeString_any gb gb _ s W h.bf (by rw [joined_len]; exact hs) h.sz

set_option maxRecDepth 100000 in
set_option maxHeartbeats 4000000 in
theorem ptNod12 (gb : Nat) (num : Int) (A : Option Addr) (c : Nat) (l : List Nod) (t : ByteArray) (w : World) (hn1 : 1≤num) (hn2 : num≤100) (hll : l.length≤140737488351232) (hsm : ∀ x ∈ l,NSm x) (hM : (t ++ cat (l.map (fun x => tF num (wrN x)))).size≤100000000) (hbf : BuildF gb gb t.data.toList w) (hz : gb≤w.heap.size) (ha : DR NodAt w gb 4 A l) :
    Calls Tryz.prog 38 #[.pointer (some ⟨gb,0,none⟩),.int .i64 num,.slice A l.length c,.func (.func 39) #[] #[]] w fun e w' => e = .returned (.tuple #[])∧PX w gb (t ++ cat (l.map (fun x => tF num (wrN x)))) w' := by
  have HA := Lib.hid ha
  have HSM := Lib.hid hsm
  have HM := Lib.hid hM
  have HX0 : Hid (PX w gb (ptT t (fun x => tF num (wrN x)) l 0) w) := Lib.hid (by rw [ptT_zero]; exact ⟨hbf,Below.refl _ _,hz⟩)
  clear ha hsm hM hbf hz
  go_enter Tryz.func38,Tryz.ntmps38
  go_wp2_with fail
  go_loopw [12] (fun j wr => ∃ (k : Nat) (K : Int),j = .int .i64 K∧K = (k : Nat)∧k≤l.length∧PX w gb (ptT t (fun x => tF num (wrN x)) l k) wr) (fun j _ => l.length - (intOf j).toNat)
  case atStart => exact ⟨0,_,rfl,rfl,by omega,HX0.out⟩
  case round =>
    obtain ⟨k,K,rfl,rfl,hk,hx⟩ := hrel
    have HX := Lib.hid hx
    clear HX0
    by_cases hlt : k < l.length
    · have hsk := HSM.out _ (List.getElem_mem hlt)
      have HN := Lib.hid (ptT_step t (fun x => tF num (wrN x)) hlt)
      have hz1 := ptT_size HM.out k
      have hz2 := pt_fb_le HM.out hlt
      obtain ⟨bb,oo,cs,rfl,hbb,hp,hcx⟩ := (HA.out.below ek_nod hx.bl).at_ ek_nod hlt
      have HP := Lib.hid hp
      clear hx
      obtain ⟨V1,f1,D1,g1,rfl⟩ := NodAt.shape hp
      clear hp
      generalize l[k] = v at *
      have p0 := hcx 0 _ rfl
      have p1 := hcx 1 _ rfl
      have p2 := hcx 2 _ rfl
      have p3 := hcx 3 _ rfl

      simp only [Nat.add_zero] at p0
      clear hcx
      have hal := (Below.refl wr.heap.size wr).alloc (Nat.le_refl _) (.cells #[.string v.op,.slice V1 v.ins.length f1,.string v.out,.slice D1 v.attrs.length g1] 102)
      have HX2 := Lib.hid (HX.out.below hal)
      have hal2 := hal.mono HX.out.sz
      have HC := Lib.hid (putNode_any v _ _ (ek_nod.more (ek_nod.below HP.out hal2) HX2.out.sz) hsk)
      have hwz : (wrN v).size≤100000000 := Nat.le_trans (fb_data_le (f := tF num (wrN v)) (Pr.text (k := num) (wrN v) hn1 hn2) rfl) hz2
      have T1 := Lib.hid (fun W => text_any num (wrN v) W (by omega) (by omega) (by omega))
      change (fb ⟨num,2,0,wrN v⟩).size≤_ at hz2
      change Hid (_ ++ fb ⟨num,2,0,wrN v⟩ = _) at HN
      clear hal hal2 hsk
      generalize fb ⟨num,2,0,wrN v⟩ = G at *
      generalize wrN v = R at *
      generalize ptT t (fun x => tF num (wrN x)) l k = TK at *
      go_wp2_with fail
      refine HC.out.mono ?_
      rintro e w2 ⟨rfl,hb2⟩
      have HX3 := Lib.hid (HX2.out.below hb2)
      clear hb2 HX2 HC
      go_wp2_with fail
      refine (T1.out _).mono ?_
      rintro e w3 ⟨rfl,hb3⟩
      have HX3 := Lib.hid (HX3.out.below hb3)
      have HW := Lib.hid (HX3.out.write G (by omega))
      clear hb3
      go_wp2_with fail
      refine HW.out.mono ?_
      rintro e w4 ⟨rfl,hbf4,hb4⟩
      have HX4 := Lib.hid (HX3.out.wrote HN.out hbf4 hb4)
      clear hbf4 hb4 HW HX3
      go_wp2_with fail
      go_roundw
      case rel => exact ⟨k + 1,_,rfl,by omega,by omega,HX4.out⟩
      case measure => simp [intOf]; omega
    · obtain rfl : k = l.length := by omega
      have HE := Lib.hid (show PX w gb (t ++ cat (l.map (fun x => tF num (wrN x)))) wr by rw [← ptT_end]; exact HX.out)
      clear hx
      go_wp2_with fail
      go_end0
      exact ⟨rfl,HE.out⟩
set_option maxRecDepth 100000 in
set_option maxHeartbeats 4000000 in
theorem ptInf12 (gb : Nat) (num : Int) (A : Option Addr) (c : Nat) (l : List Inf) (t : ByteArray) (w : World) (hn1 : 1≤num) (hn2 : num≤100) (hll : l.length≤140737488351232) (hsm : ∀ x ∈ l,x.dims.length≤1000000∧x.name.size≤2000000) (hM : (t ++ cat (l.map (fun x => tF num (wrI x)))).size≤100000000) (hbf : BuildF gb gb t.data.toList w) (hz : gb≤w.heap.size) (ha : DR InfAt w gb 3 A l) :
    Calls Tryz.prog 42 #[.pointer (some ⟨gb,0,none⟩),.int .i64 num,.slice A l.length c,.func (.func 43) #[] #[]] w fun e w' => e = .returned (.tuple #[])∧PX w gb (t ++ cat (l.map (fun x => tF num (wrI x)))) w' := by
  have HA := Lib.hid ha
  have HSM := Lib.hid hsm
  have HM := Lib.hid hM
  have HX0 : Hid (PX w gb (ptT t (fun x => tF num (wrI x)) l 0) w) := Lib.hid (by rw [ptT_zero]; exact ⟨hbf,Below.refl _ _,hz⟩)
  clear ha hsm hM hbf hz
  go_enter Tryz.func42,Tryz.ntmps42
  go_wp2_with fail
  go_loopw [12] (fun j wr => ∃ (k : Nat) (K : Int),j = .int .i64 K∧K = (k : Nat)∧k≤l.length∧PX w gb (ptT t (fun x => tF num (wrI x)) l k) wr) (fun j _ => l.length - (intOf j).toNat)
  case atStart => exact ⟨0,_,rfl,rfl,by omega,HX0.out⟩
  case round =>
    obtain ⟨k,K,rfl,rfl,hk,hx⟩ := hrel
    have HX := Lib.hid hx
    clear HX0
    by_cases hlt : k < l.length
    · have hsk := HSM.out _ (List.getElem_mem hlt)
      have HN := Lib.hid (ptT_step t (fun x => tF num (wrI x)) hlt)
      have hz1 := ptT_size HM.out k
      have hz2 := pt_fb_le HM.out hlt
      obtain ⟨bb,oo,cs,rfl,hbb,hp,hcx⟩ := (HA.out.below ek_inf hx.bl).at_ ek_inf hlt
      have HP := Lib.hid hp
      clear hx
      obtain ⟨V1,f1,rfl⟩ := InfAt.shape hp
      clear hp
      generalize l[k] = v at *
      have p0 := hcx 0 _ rfl
      have p1 := hcx 1 _ rfl
      have p2 := hcx 2 _ rfl

      simp only [Nat.add_zero] at p0
      clear hcx
      have hal := (Below.refl wr.heap.size wr).alloc (Nat.le_refl _) (.cells #[.string v.name,.int .i64 v.kind,.slice V1 v.dims.length f1] 106)
      have HX2 := Lib.hid (HX.out.below hal)
      have hal2 := hal.mono HX.out.sz
      have HC := Lib.hid (putInfo_any v _ _ (ek_inf.more (ek_inf.below HP.out hal2) HX2.out.sz) (by omega) hsk.2)
      have hwz : (wrI v).size≤100000000 := Nat.le_trans (fb_data_le (f := tF num (wrI v)) (Pr.text (k := num) (wrI v) hn1 hn2) rfl) hz2
      have T1 := Lib.hid (fun W => text_any num (wrI v) W (by omega) (by omega) (by omega))
      change (fb ⟨num,2,0,wrI v⟩).size≤_ at hz2
      change Hid (_ ++ fb ⟨num,2,0,wrI v⟩ = _) at HN
      clear hal hal2 hsk
      generalize fb ⟨num,2,0,wrI v⟩ = G at *
      generalize wrI v = R at *
      generalize ptT t (fun x => tF num (wrI x)) l k = TK at *
      go_wp2_with fail
      refine HC.out.mono ?_
      rintro e w2 ⟨rfl,hb2⟩
      have HX3 := Lib.hid (HX2.out.below hb2)
      clear hb2 HX2 HC
      go_wp2_with fail
      refine (T1.out _).mono ?_
      rintro e w3 ⟨rfl,hb3⟩
      have HX3 := Lib.hid (HX3.out.below hb3)
      have HW := Lib.hid (HX3.out.write G (by omega))
      clear hb3
      go_wp2_with fail
      refine HW.out.mono ?_
      rintro e w4 ⟨rfl,hbf4,hb4⟩
      have HX4 := Lib.hid (HX3.out.wrote HN.out hbf4 hb4)
      clear hbf4 hb4 HW HX3
      go_wp2_with fail
      go_roundw
      case rel => exact ⟨k + 1,_,rfl,by omega,by omega,HX4.out⟩
      case measure => simp [intOf]; omega
    · obtain rfl : k = l.length := by omega
      have HE := Lib.hid (show PX w gb (t ++ cat (l.map (fun x => tF num (wrI x)))) wr by rw [← ptT_end]; exact HX.out)
      clear hx
      go_wp2_with fail
      go_end0
      exact ⟨rfl,HE.out⟩
set_option maxRecDepth 100000 in
set_option maxHeartbeats 4000000 in
theorem ptTxt12 (gb : Nat) (num : Int) (A : Option Addr) (c : Nat) (l : List ByteArray) (t : ByteArray) (w : World) (hn1 : 1≤num) (hn2 : num≤100) (hll : l.length≤140737488351232) (hsm : ∀ x ∈ l,x.size≤100000000) (hM : (t ++ cat (l.map (fun x => tF num x))).size≤100000000) (hbf : BuildF gb gb t.data.toList w) (hz : gb≤w.heap.size) (ha : SR w gb 1 A l.length (p_tv l)) :
    Calls Tryz.prog 40 #[.pointer (some ⟨gb,0,none⟩),.int .i64 num,.slice A l.length c,.func (.func 41) #[] #[]] w fun e w' => e = .returned (.tuple #[])∧PX w gb (t ++ cat (l.map (fun x => tF num x))) w' := by
  have HA := Lib.hid ha
  have HSM := Lib.hid hsm
  have HM := Lib.hid hM
  have HX0 : Hid (PX w gb (ptT t (fun x => tF num x) l 0) w) := Lib.hid (by rw [ptT_zero]; exact ⟨hbf,Below.refl _ _,hz⟩)
  clear ha hsm hM hbf hz
  go_enter Tryz.func40,Tryz.ntmps40
  go_wp2_with fail
  go_loopw [12] (fun j wr => ∃ (k : Nat) (K : Int),j = .int .i64 K∧K = (k : Nat)∧k≤l.length∧PX w gb (ptT t (fun x => tF num x) l k) wr) (fun j _ => l.length - (intOf j).toNat)
  case atStart => exact ⟨0,_,rfl,rfl,by omega,HX0.out⟩
  case round =>
    obtain ⟨k,K,rfl,rfl,hk,hx⟩ := hrel
    have HX := Lib.hid hx
    clear HX0
    by_cases hlt : k < l.length
    · have hsk := HSM.out _ (List.getElem_mem hlt)
      have HN := Lib.hid (ptT_step t (fun x => tF num x) hlt)
      have hz1 := ptT_size HM.out k
      have hz2 := pt_fb_le HM.out hlt
      obtain ⟨bb,oo,rfl,-,p0⟩ := n_txt_at (HA.out.below hx.bl) hlt
      clear hx
      generalize l[k] = v at *
      have T1 := Lib.hid (fun W => text_any num v W (by omega) (by omega) (by omega))
      change (fb ⟨num,2,0,v⟩).size≤_ at hz2
      change Hid (_ ++ fb ⟨num,2,0,v⟩ = _) at HN
      generalize fb ⟨num,2,0,v⟩ = G at *
      generalize ptT t (fun x => tF num x) l k = TK at *
      go_wp2_with fail
      refine (itself_any v _).mono ?_
      rintro e w2 ⟨rfl,rfl⟩
      go_wp2_with fail
      refine (T1.out _).mono ?_
      rintro e w3 ⟨rfl,hb3⟩
      have HX3 := Lib.hid (HX.out.below hb3)
      have HW := Lib.hid (HX3.out.write G (by omega))
      clear hb3
      go_wp2_with fail
      refine HW.out.mono ?_
      rintro e w4 ⟨rfl,hbf4,hb4⟩
      have HX4 := Lib.hid (HX3.out.wrote HN.out hbf4 hb4)
      clear hbf4 hb4 HW HX3
      go_wp2_with fail
      go_roundw
      case rel => exact ⟨k + 1,_,rfl,by omega,by omega,HX4.out⟩
      case measure => simp [intOf]; omega
    · obtain rfl : k = l.length := by omega
      have HE := Lib.hid (show PX w gb (t ++ cat (l.map (fun x => tF num x))) wr by rw [← ptT_end]; exact HX.out)
      clear hx
      go_wp2_with fail
      go_end0
      exact ⟨rfl,HE.out⟩
end Go.Proofs.YtjjfdlgoacockaaGreat
namespace Go.Proofs.YtjjfdlgoacockaaGreat
namespace M12
open Go.RowKit M1 M2 M3 M8 M9 M10 M11
open M7 (nm Ten ck)

theorem wrM_eq (m : Mod) : wrM m = fb ⟨7,2,0,cat (graF m)⟩ ++ fb ⟨8,2,0,fb ⟨2,0,us m.opset,⟨#[]⟩⟩⟩ := by
  unfold wrM modF opsW
  show fb (tF 7 (cat (graF m))) ++ (fb (tF 8 (fb (nF 2 (us m.opset)) ++ (⟨#[]⟩ : ByteArray))) ++ (⟨#[]⟩ : ByteArray)) = _
  rw [app_et,app_et]
  rfl
structure MSm (m : Mod) : Prop where
  gra : (cat (graF m)).size≤100000000
  nodes : ∀ n ∈ m.nodes,NSm n
  inits : ∀ t ∈ m.inits,t.data.size≤1000000∧t.name.size≤1000000∧t.dims.length≤1000000
  inputs : ∀ i ∈ m.inputs,i.dims.length≤1000000∧i.name.size≤2000000
  outputs : ∀ i ∈ m.outputs,i.dims.length≤1000000∧i.name.size≤2000000
end M12
end Go.Proofs.YtjjfdlgoacockaaGreat
namespace Go.Proofs.YtjjfdlgoacockaaGreat
open Go.RowKit M1 M2 M3 M8 M9 M10 M11 M12 Go.Sort
open M7 (nm Ten ck)

def gP1 (m : Mod) : ByteArray := ⟨#[]⟩ ++ cat (m.nodes.map (fun x => tF 1 (wrN x)))
def gP2 (m : Mod) : ByteArray := gP1 m ++ cat ((m.inits.map wr9).map (fun x => tF 5 x))
def gP3 (m : Mod) : ByteArray := gP2 m ++ cat (m.inputs.map (fun x => tF 11 (wrI x)))
def gP4 (m : Mod) : ByteArray := gP3 m ++ cat (m.outputs.map (fun x => tF 12 (wrI x)))
theorem gP_all (m : Mod) : gP4 m = cat (graF m) := by
  unfold gP4 gP3 gP2 gP1 graF
  rw [n_cat_app,n_cat_app,n_cat_app,List.map_map,List.map_map,List.map_map,List.map_map,n_assoc,n_assoc,n_assoc]
  have e : ∀ b : ByteArray,(⟨#[]⟩ : ByteArray) ++ b = b := fun b => ByteArray.ext (by simp)
  rw [e]
  rfl
theorem gP_le (m : Mod) : (gP1 m).size≤(cat (graF m)).size∧(gP2 m).size≤(cat (graF m)).size∧(gP3 m).size≤(cat (graF m)).size∧(gP4 m).size≤(cat (graF m)).size := by
  rw [← gP_all]
  have h1 : (gP2 m).size = (gP1 m).size + _ := ByteArray.size_append
  have h2 : (gP3 m).size = (gP2 m).size + _ := ByteArray.size_append
  have h3 : (gP4 m).size = (gP3 m).size + _ := ByteArray.size_append
  omega
theorem putM_no {m : Mod} {c : Int} (h : tenErr m.inits = c) (hc : c≠0) : putM m = (⟨#[]⟩,c) := by unfold putM; rw [h,if_pos hc]
theorem putM_yes {m : Mod} (h : tenErr m.inits = 0) : putM m = (fb ⟨7,2,0,gP4 m⟩ ++ fb ⟨8,2,0,fb ⟨2,0,us m.opset,⟨#[]⟩⟩⟩,0) := by
  unfold putM; rw [h,if_neg (by simp),wrM_eq,gP_all]

set_option maxRecDepth 100000 in
set_option maxHeartbeats 4000000 in
theorem put12_any (m : Mod) (A1 A2 A3 A4 : Option Addr) (c1 c2 c3 c4 : Nat) (w : World) (hm : ModAt w.heap.size w m A1 A2 A3 A4) (hsm : MSm m) :
    Calls Tryz.prog 12 #[.agg (mv m.opset A1 m.inputs.length c1 A2 m.outputs.length c2 A3 m.inits.length c3 A4 m.nodes.length c4)] w fun e w' => e = .returned (.tuple #[.string (putM m).1,.int .i64 (putM m).2])∧Below w.heap.size w w' := by
  have HM := Lib.hid hm
  have HSM := Lib.hid hsm
  have HX := Lib.hid (Bx.start w #[.int .i64 m.opset,.slice A1 m.inputs.length c1,.slice A2 m.outputs.length c2,.slice A3 m.inits.length c3,.slice A4 m.nodes.length c4] 34)
  have HL1 := Lib.hid hm.len1
  have HL2 := Lib.hid hm.len2
  have HL3 := Lib.hid hm.len3
  have HL4 := Lib.hid hm.len4
  have hcv := us_eq m.opset
  have HE := Lib.hid (each_put12 A3 c3 m.inits _ hm.len3 hsm.inits ((hm.inits.below ek_ten HX.out.all).more ek_ten HX.out.all.size))
  have HEQ := Lib.hid (eachG_put m.inits [])
  have HN := Lib.hid (fun c => putM_no (m := m) (c := c))
  have HY := Lib.hid (putM_yes (m := m))
  clear hm hsm
  unfold mv
  generalize putM m = R at *
  obtain ⟨x0,x1,x2,x3,x4⟩ := HX.out.five
  go_enter Tryz.func12,Tryz.ntmps12
  go_wp2_with fail
  refine HE.out.mono ?_
  rintro e w1 ⟨v,rfl,hdw,hb⟩
  rw [HEQ.out] at hdw ⊢
  have HX1 := Lib.hid (HX.out.below hb)
  clear hb HE HX HEQ x0 x1 x2 x3 x4
  by_cases ht : tenErr m.inits≠0
  · rw [if_pos ht] at hdw ⊢
    dsimp only at hdw ⊢
    obtain ⟨VA,VC,rfl⟩ := hdw.form
    have HR := Lib.hid (HN.out _ rfl ht)
    have hcb : (tenErr m.inits != 0) = true := by simpa using ht
    clear hdw ht HN HY
    generalize tenErr m.inits = C at *
    go_wp2_with fail
    go_ret2
    rw [HR.out]
    exact ⟨rfl,HX1.out.all⟩
  rw [if_neg ht] at hdw ⊢
  dsimp only at hdw ⊢
  have HR := Lib.hid (HY.out (Decidable.not_not.1 ht))
  obtain ⟨TS,hTS⟩ : ∃ TS,TS = [] ++ m.inits.map wr9 := ⟨_,rfl⟩
  rw [← hTS] at hdw
  have HTS := Lib.hid (show TS = m.inits.map wr9 by rw [hTS]; rfl)
  obtain ⟨VA,VC,rfl⟩ := hdw.form
  have hrow := SR.of_own (dw_t1 hdw)
  have hbn := build_new w1
  have hal : Below w1.heap.size w1 (w1.alloc (.cells #[.pointer none,.slice none 0 0] 115)) := (Below.refl _ _).alloc (Nat.le_refl _) _
  have HROW := Lib.hid (hrow.below hal)
  have HBL2 := Lib.hid (step_below HX1.out.all hal)
  have HX2 := Lib.hid (HX1.out.below hal)
  have HGW := Lib.hid HX1.out.all.size
  have HGB := Lib.hid HX1.out.2.1
  have HSZ := Lib.hid hal.size
  have hle := gP_le m
  have hg := HSM.out.gra
  have hTL : TS.length≤140737488351232 := by rw [HTS.out,List.length_map]; have := HL3.out; omega
  have hTM : ∀ s ∈ TS,s.size≤100000000 := fun s hs => by
    rw [HTS.out] at hs
    obtain ⟨t,htm,rfl⟩ := List.mem_map.1 hs
    have h1 := (cat_size_mem (l := graF m) (f := tF 5 (wr9 t)) (by unfold graF; simp only [List.mem_append,List.mem_map]; exact .inr (.inl ⟨_,⟨t,htm,rfl⟩,rfl⟩)))
    have h2 := fb_data_le (f := tF 5 (wr9 t)) (Pr.text (k := 5) _ (by omega) (by omega)) rfl
    exact Nat.le_trans h2 (Nat.le_trans h1 hg)
  have H1 := Lib.hid (ptNod12 w1.heap.size 1 A4 c4 m.nodes ⟨#[]⟩ (w1.alloc (.cells #[.pointer none,.slice none 0 0] 115)) (by omega) (by omega) (by have := HL4.out; omega) HSM.out.nodes (by show (gP1 m).size≤_; omega) hbn hal.size ((HM.out.nodes.below ek_nod HBL2.out).more ek_nod HX1.out.all.size))
  have H2 := Lib.hid (fun W (h : PX (w1.alloc (.cells #[.pointer none,.slice none 0 0] 115)) w1.heap.size (gP1 m) W) => ptTxt12 w1.heap.size 5 VA VC TS (gP1 m) W (by omega) (by omega) hTL hTM (by rw [HTS.out]; show (gP2 m).size≤_; omega) h.bf h.sz (HROW.out.below h.bl))
  have H3 := Lib.hid (fun W (h : PX (w1.alloc (.cells #[.pointer none,.slice none 0 0] 115)) w1.heap.size (gP2 m) W) => ptInf12 w1.heap.size 11 A1 c1 m.inputs (gP2 m) W (by omega) (by omega) (by have := HL1.out; omega) HSM.out.inputs (by show (gP3 m).size≤_; omega) h.bf h.sz ((HM.out.inputs.below ek_inf (HBL2.out.trans (h.bl.mono HGW.out))).more ek_inf HGW.out))
  have H4 := Lib.hid (fun W (h : PX (w1.alloc (.cells #[.pointer none,.slice none 0 0] 115)) w1.heap.size (gP3 m) W) => ptInf12 w1.heap.size 12 A2 c2 m.outputs (gP3 m) W (by omega) (by omega) (by have := HL2.out; omega) HSM.out.outputs (by show (gP4 m).size≤_; omega) h.bf h.sz ((HM.out.outputs.below ek_inf (HBL2.out.trans (h.bl.mono HGW.out))).more ek_inf HGW.out))
  have hG4 : (gP4 m).size≤100000000 := by omega
  have HS := Lib.hid (fun W (h : PX (w1.alloc (.cells #[.pointer none,.slice none 0 0] 115)) w1.heap.size (gP4 m) W) => buildString_any w1.heap.size w1.heap.size _ W h.bf h.sz)
  have HBW := Lib.hid (fun W t (h : PX (w1.alloc (.cells #[.pointer none,.slice none 0 0] 115)) w1.heap.size t W) => HX2.out.low h.bl HGB.out HGW.out)
  change Hid (Calls _ _ _ _ fun e w' => e = _∧PX _ w1.heap.size (gP1 m) w') at H1
  obtain ⟨x0,x1,x2,x3,x4⟩ := HX2.out.five
  have hq7 := fb_le ⟨7,2,0,gP4 m⟩
  have hq8 := fb_le ⟨8,2,0,fb ⟨2,0,us m.opset,⟨#[]⟩⟩⟩
  have hq2 := fb_le ⟨2,0,us m.opset,⟨#[]⟩⟩
  have hz0 : (⟨#[]⟩ : ByteArray).size = 0 := rfl
  dsimp only at hq7 hq8 hq2
  rw [hz0] at hq2
  have hGV8 : (fb ⟨8,2,0,fb ⟨2,0,us m.opset,⟨#[]⟩⟩⟩).size≤1000 := by omega
  have hGV7 : (fb ⟨7,2,0,gP4 m⟩).size≤200000000 := by omega
  have HNB := Lib.hid (fun W => number_any 2 (us m.opset) W (us_fits _) (by decide) (by decide))
  have HT7 := Lib.hid (fun W => text_any 7 (gP4 m) W (by omega) (by decide) (by decide))
  have HT8 := Lib.hid (fun W => text_any 8 (fb ⟨2,0,us m.opset,⟨#[]⟩⟩) W (by omega) (by decide) (by decide))
  clear hdw ht HN HY hTS hrow hbn hal hle hg hTL hTM HROW hz0 hq7 hq8 hq2
  obtain ⟨G4,hG4e⟩ : ∃ G4,gP4 m = G4 := ⟨_,rfl⟩
  rw [hG4e] at HT7 HS HR hG4 hGV7
  have HG4 := Lib.hid (show gP3 m ++ cat (m.outputs.map (fun x => tF 12 (wrI x))) = G4 from hG4e)
  clear hG4e
  generalize fb ⟨2,0,us m.opset,⟨#[]⟩⟩ = GV at *
  generalize fb ⟨7,2,0,G4⟩ = G7 at *
  generalize fb ⟨8,2,0,GV⟩ = G8 at *
  go_wp2_with fail
  refine H1.out.mono ?_
  rintro e w3 ⟨rfl,h3⟩
  have HP3 := Lib.hid h3
  clear h3 H1 x0 x1 x2 x3 x4
  go_wp2_with fail
  refine (H2.out _ HP3.out).mono ?_
  rintro e w4 ⟨rfl,h4⟩
  have HP4 := Lib.hid (show PX (w1.alloc (.cells #[.pointer none,.slice none 0 0] 115)) w1.heap.size (gP2 m) w4 from by
    have h := h4.bf
    rw [HTS.out] at h
    exact ⟨h,HP3.out.bl.trans h4.bl,h4.sz⟩)
  clear h4 H2 HP3
  obtain ⟨x0,x1,x2,x3,x4⟩ := (HBW.out _ _ HP4.out).five
  go_wp2_with fail
  refine (H3.out _ HP4.out).mono ?_
  rintro e w5 ⟨rfl,h5⟩
  have HP5 := Lib.hid (show PX (w1.alloc (.cells #[.pointer none,.slice none 0 0] 115)) w1.heap.size (gP3 m) w5 from ⟨h5.bf,HP4.out.bl.trans h5.bl,h5.sz⟩)
  clear h5 H3 HP4 x0 x1 x2 x3 x4
  obtain ⟨x0,x1,x2,x3,x4⟩ := (HBW.out _ _ HP5.out).five
  go_wp2_with fail
  refine (H4.out _ HP5.out).mono ?_
  rintro e w6 ⟨rfl,h6⟩
  have HP6 := Lib.hid (show PX (w1.alloc (.cells #[.pointer none,.slice none 0 0] 115)) w1.heap.size G4 w6 from by
    have h := h6.bf
    rw [HG4.out] at h
    exact ⟨h,HP5.out.bl.trans h6.bl,h6.sz⟩)
  clear h6 H4 HP5 x0 x1 x2 x3 x4
  obtain ⟨x0,x1,x2,x3,x4⟩ := (HBW.out _ _ HP6.out).five
  go_wp2_with fail
  refine (HNB.out _).mono ?_
  rintro e w7 ⟨rfl,hb7⟩
  have HP7 := Lib.hid (HP6.out.below hb7)
  clear hb7 HNB x0 x1 x2 x3 x4
  go_wp2_with fail
  refine (HS.out _ HP7.out).mono ?_
  rintro e w8 ⟨rfl,-,hb8⟩
  have HB8 := Lib.hid (HBL2.out.trans ((HP7.out.bl.trans hb8).mono HGW.out))
  rw [joined_back]
  clear hb8 HS HP7
  go_wp2_with fail
  refine (HT7.out _).mono ?_
  rintro e w9 ⟨rfl,hb9⟩
  have HB9 := Lib.hid (HB8.out.trans (hb9.mono HB8.out.size))
  clear hb9 HT7
  go_wp2_with fail
  refine (HT8.out _).mono ?_
  rintro e w10 ⟨rfl,hb10⟩
  have HB10 := Lib.hid (HB9.out.trans (hb10.mono HB9.out.size))
  clear hb10 HT8
  go_wp2_with fail
  go_ret2
  rw [HR.out]
  exact ⟨rfl,HB10.out⟩
end Go.Proofs.YtjjfdlgoacockaaGreat
