import Derived.Test.YtjjfdlgoacockaaGreatHRows
import Derived.Test.YtjjfdlgoacockaaGreatNPutP
import Derived.Test.YtjjfdlgoacockaaGreatMOf
import Derived.Test.YtjjfdlgoacockaaGreatBRead
import Derived.Test.YtjjfdlgoacockaaGreatBPut
import Derived.Test.YtjjfdlgoacockaaGreatTCheck
import Derived.Test.YtjjfdlgoacockaaGreatMNew
import Derived.Test.YtjjfdlgoacockaaGreatGRefTwo
import Derived.Test.YtjjfdlgoacockaaGreatLift
namespace Go.Proofs.YtjjfdlgoacockaaGreat
open Go.RowKit M1 M2 M3 M8 M9 M10 M11 M12 Go.Sort
open M7 (nm Ten ck)

set_option maxRecDepth 100000 in
theorem itself_any (s : ByteArray) (w : World) : Calls Tryz.prog 41 #[.string s] w fun e w' => e = .returned (.string s) ∧ w' = w := by
  go_enter Tryz.func41, Tryz.ntmps41
  go_wp2_with fail
  go_ret
  exact ⟨rfl, rfl⟩
def ptT {α : Type} (t : ByteArray) (f : α → WFd) (l : List α) (k : Nat) : ByteArray := t ++ cat ((l.take k).map f)
theorem ptT_zero {α : Type} (t : ByteArray) (f : α → WFd) (l : List α) : ptT t f l 0 = t := by unfold ptT; rw [List.take_zero]; exact n_et _
theorem ptT_step {α : Type} (t : ByteArray) (f : α → WFd) {l : List α} {k : Nat} (h : k < l.length) : ptT t f l k ++ fb (f l[k]) = ptT t f l (k + 1) := by
  unfold ptT; rw [n_assoc]; congr 1; exact cat_map_take f h
theorem cat_take_le {α : Type} (f : α → WFd) (l : List α) (k : Nat) : (cat ((l.take k).map f)).size ≤ (cat (l.map f)).size := by
  have e : l.map f = (l.take k).map f ++ (l.drop k).map f := by rw [← List.map_append, List.take_append_drop]
  rw [e, n_cat_app, ByteArray.size_append]; omega
theorem ptT_size {α : Type} {t : ByteArray} {f : α → WFd} {l : List α} {M : Nat} (h : (t ++ cat (l.map f)).size ≤ M) (k : Nat) : (ptT t f l k).size ≤ M := by
  unfold ptT
  rw [ByteArray.size_append] at h ⊢
  have := cat_take_le f l k
  omega
theorem ptT_end {α : Type} (t : ByteArray) (f : α → WFd) (l : List α) : ptT t f l l.length = t ++ cat (l.map f) := by unfold ptT; rw [List.take_length]
theorem pt_fb_le {α : Type} {t : ByteArray} {f : α → WFd} {l : List α} {M : Nat} (h : (t ++ cat (l.map f)).size ≤ M) {k : Nat} (hk : k < l.length) : (fb (f l[k])).size ≤ M := by
  rw [ByteArray.size_append] at h
  have h1 := cat_size_mem (l := l.map f) (f := f l[k]) (List.mem_map.2 ⟨_, List.getElem_mem hk, rfl⟩)
  omega
structure PX (w : World) (gb : Nat) (t : ByteArray) (W : World) : Prop where
  bf : BuildF gb gb t.data.toList W
  bl : Below gb w W
  sz : gb ≤ W.heap.size
theorem PX.below {w W W' : World} {gb : Nat} {t : ByteArray} (h : PX w gb t W) (hb : Below W.heap.size W W') : PX w gb t W' := ⟨build_keep h.bf hb, h.bl.trans (hb.mono h.sz), Nat.le_trans h.sz hb.size⟩
theorem PX.wrote {w W W' : World} {gb : Nat} {t u s : ByteArray} (h : PX w gb t W) (he : t ++ s = u) (hbf : BuildF gb gb (t.data.toList ++ s.data.toList) W') (hb : Below gb W W') : PX w gb u W' := ⟨by rw [← he, ← n_list]; exact hbf, h.bl.trans hb, Nat.le_trans h.sz hb.size⟩
theorem PX.write {w W : World} {gb : Nat} {t : ByteArray} (h : PX w gb t W) (s : ByteArray) (hs : t.size + s.size ≤ 140737488355328) :
    Calls Tryz.prog 77 #[.pointer (some ⟨gb, 0, none⟩), .string s] W fun e w' => e = .returned (.tuple #[.int .i64 s.size, .nilIface]) ∧ BuildF gb gb (t.data.toList ++ s.data.toList) w' ∧ Below gb W w' :=
  writeString_any gb gb _ s W h.bf (by rw [joined_len]; exact hs) h.sz

set_option maxRecDepth 100000 in
set_option maxHeartbeats 4000000 in
theorem ptNod12 (gb : Nat) (num : Int) (A : Option Addr) (c : Nat) (l : List Nod) (t : ByteArray) (w : World) (hn1 : 1 ≤ num) (hn2 : num ≤ 100) (hll : l.length ≤ 140737488351232) (hsm : ∀ x ∈ l, NSm x) (hM : (t ++ cat (l.map (fun x => tF num (wrN x)))).size ≤ 100000000) (hbf : BuildF gb gb t.data.toList w) (hz : gb ≤ w.heap.size) (ha : DR NodAt w gb 4 A l) :
    Calls Tryz.prog 38 #[.pointer (some ⟨gb, 0, none⟩), .int .i64 num, .slice A l.length c, .func (.func 39) #[] #[]] w fun e w' => e = .returned (.tuple #[]) ∧ PX w gb (t ++ cat (l.map (fun x => tF num (wrN x)))) w' := by
  have HA := Lib.hid ha
  have HSM := Lib.hid hsm
  have HM := Lib.hid hM
  have HX0 : Hid (PX w gb (ptT t (fun x => tF num (wrN x)) l 0) w) := Lib.hid (by rw [ptT_zero]; exact ⟨hbf, Below.refl _ _, hz⟩)
  clear ha hsm hM hbf hz
  go_enter Tryz.func38, Tryz.ntmps38
  go_wp2_with fail
  go_loopw [12] (fun j wr => ∃ (k : Nat) (K : Int), j = .int .i64 K ∧ K = (k : Nat) ∧ k ≤ l.length ∧ PX w gb (ptT t (fun x => tF num (wrN x)) l k) wr) (fun j _ => l.length - (intOf j).toNat)
  case atStart => exact ⟨0, _, rfl, rfl, by omega, HX0.out⟩
  case round =>
    obtain ⟨k, K, rfl, rfl, hk, hx⟩ := hrel
    have HX := Lib.hid hx
    clear HX0
    by_cases hlt : k < l.length
    · have hsk := HSM.out _ (List.getElem_mem hlt)
      have HN := Lib.hid (ptT_step t (fun x => tF num (wrN x)) hlt)
      have hz1 := ptT_size HM.out k
      have hz2 := pt_fb_le HM.out hlt
      obtain ⟨bb, oo, cs, rfl, hbb, hp, hcx⟩ := (HA.out.below ek_nod hx.bl).at_ ek_nod hlt
      have HP := Lib.hid hp
      clear hx
      obtain ⟨V1, f1, D1, g1, rfl⟩ := NodAt.shape hp
      clear hp
      generalize l[k] = v at *
      have p0 := hcx 0 _ rfl
      have p1 := hcx 1 _ rfl
      have p2 := hcx 2 _ rfl
      have p3 := hcx 3 _ rfl

      simp only [Nat.add_zero] at p0
      clear hcx
      have hal := (Below.refl wr.heap.size wr).alloc (Nat.le_refl _) (.cells #[.string v.op, .slice V1 v.ins.length f1, .string v.out, .slice D1 v.attrs.length g1] 102)
      have HX2 := Lib.hid (HX.out.below hal)
      have hal2 := hal.mono HX.out.sz
      have HC := Lib.hid (putNode_any v _ _ (ek_nod.more (ek_nod.below HP.out hal2) HX2.out.sz) hsk)
      have hwz : (wrN v).size ≤ 100000000 := Nat.le_trans (fb_data_le (f := tF num (wrN v)) (Pr.text (k := num) (wrN v) hn1 hn2) rfl) hz2
      have T1 := Lib.hid (fun W => text_any num (wrN v) W (by omega) (by omega) (by omega))
      change (fb ⟨num, 2, 0, wrN v⟩).size ≤ _ at hz2
      change Hid (_ ++ fb ⟨num, 2, 0, wrN v⟩ = _) at HN
      clear hal hal2 hsk
      generalize fb ⟨num, 2, 0, wrN v⟩ = G at *
      generalize wrN v = R at *
      generalize ptT t (fun x => tF num (wrN x)) l k = TK at *
      go_wp2_with fail
      refine HC.out.mono ?_
      rintro e w2 ⟨rfl, hb2⟩
      have HX3 := Lib.hid (HX2.out.below hb2)
      clear hb2 HX2 HC
      go_wp2_with fail
      refine (T1.out _).mono ?_
      rintro e w3 ⟨rfl, hb3⟩
      have HX3 := Lib.hid (HX3.out.below hb3)
      have HW := Lib.hid (HX3.out.write G (by omega))
      clear hb3
      go_wp2_with fail
      refine HW.out.mono ?_
      rintro e w4 ⟨rfl, hbf4, hb4⟩
      have HX4 := Lib.hid (HX3.out.wrote HN.out hbf4 hb4)
      clear hbf4 hb4 HW HX3
      go_wp2_with fail
      go_roundw
      case rel => exact ⟨k + 1, _, rfl, by omega, by omega, HX4.out⟩
      case measure => simp [intOf]; omega
    · obtain rfl : k = l.length := by omega
      have HE := Lib.hid (show PX w gb (t ++ cat (l.map (fun x => tF num (wrN x)))) wr by rw [← ptT_end]; exact HX.out)
      clear hx
      go_wp2_with fail
      go_end0
      exact ⟨rfl, HE.out⟩
set_option maxRecDepth 100000 in
set_option maxHeartbeats 4000000 in
theorem ptInf12 (gb : Nat) (num : Int) (A : Option Addr) (c : Nat) (l : List Inf) (t : ByteArray) (w : World) (hn1 : 1 ≤ num) (hn2 : num ≤ 100) (hll : l.length ≤ 140737488351232) (hsm : ∀ x ∈ l, x.dims.length ≤ 1000000 ∧ x.name.size ≤ 2000000) (hM : (t ++ cat (l.map (fun x => tF num (wrI x)))).size ≤ 100000000) (hbf : BuildF gb gb t.data.toList w) (hz : gb ≤ w.heap.size) (ha : DR InfAt w gb 3 A l) :
    Calls Tryz.prog 42 #[.pointer (some ⟨gb, 0, none⟩), .int .i64 num, .slice A l.length c, .func (.func 43) #[] #[]] w fun e w' => e = .returned (.tuple #[]) ∧ PX w gb (t ++ cat (l.map (fun x => tF num (wrI x)))) w' := by
  have HA := Lib.hid ha
  have HSM := Lib.hid hsm
  have HM := Lib.hid hM
  have HX0 : Hid (PX w gb (ptT t (fun x => tF num (wrI x)) l 0) w) := Lib.hid (by rw [ptT_zero]; exact ⟨hbf, Below.refl _ _, hz⟩)
  clear ha hsm hM hbf hz
  go_enter Tryz.func42, Tryz.ntmps42
  go_wp2_with fail
  go_loopw [12] (fun j wr => ∃ (k : Nat) (K : Int), j = .int .i64 K ∧ K = (k : Nat) ∧ k ≤ l.length ∧ PX w gb (ptT t (fun x => tF num (wrI x)) l k) wr) (fun j _ => l.length - (intOf j).toNat)
  case atStart => exact ⟨0, _, rfl, rfl, by omega, HX0.out⟩
  case round =>
    obtain ⟨k, K, rfl, rfl, hk, hx⟩ := hrel
    have HX := Lib.hid hx
    clear HX0
    by_cases hlt : k < l.length
    · have hsk := HSM.out _ (List.getElem_mem hlt)
      have HN := Lib.hid (ptT_step t (fun x => tF num (wrI x)) hlt)
      have hz1 := ptT_size HM.out k
      have hz2 := pt_fb_le HM.out hlt
      obtain ⟨bb, oo, cs, rfl, hbb, hp, hcx⟩ := (HA.out.below ek_inf hx.bl).at_ ek_inf hlt
      have HP := Lib.hid hp
      clear hx
      obtain ⟨V1, f1, rfl⟩ := InfAt.shape hp
      clear hp
      generalize l[k] = v at *
      have p0 := hcx 0 _ rfl
      have p1 := hcx 1 _ rfl
      have p2 := hcx 2 _ rfl

      simp only [Nat.add_zero] at p0
      clear hcx
      have hal := (Below.refl wr.heap.size wr).alloc (Nat.le_refl _) (.cells #[.string v.name, .int .i64 v.kind, .slice V1 v.dims.length f1] 106)
      have HX2 := Lib.hid (HX.out.below hal)
      have hal2 := hal.mono HX.out.sz
      have HC := Lib.hid (putInfo_any v _ _ (ek_inf.more (ek_inf.below HP.out hal2) HX2.out.sz) (by omega) hsk.2)
      have hwz : (wrI v).size ≤ 100000000 := Nat.le_trans (fb_data_le (f := tF num (wrI v)) (Pr.text (k := num) (wrI v) hn1 hn2) rfl) hz2
      have T1 := Lib.hid (fun W => text_any num (wrI v) W (by omega) (by omega) (by omega))
      change (fb ⟨num, 2, 0, wrI v⟩).size ≤ _ at hz2
      change Hid (_ ++ fb ⟨num, 2, 0, wrI v⟩ = _) at HN
      clear hal hal2 hsk
      generalize fb ⟨num, 2, 0, wrI v⟩ = G at *
      generalize wrI v = R at *
      generalize ptT t (fun x => tF num (wrI x)) l k = TK at *
      go_wp2_with fail
      refine HC.out.mono ?_
      rintro e w2 ⟨rfl, hb2⟩
      have HX3 := Lib.hid (HX2.out.below hb2)
      clear hb2 HX2 HC
      go_wp2_with fail
      refine (T1.out _).mono ?_
      rintro e w3 ⟨rfl, hb3⟩
      have HX3 := Lib.hid (HX3.out.below hb3)
      have HW := Lib.hid (HX3.out.write G (by omega))
      clear hb3
      go_wp2_with fail
      refine HW.out.mono ?_
      rintro e w4 ⟨rfl, hbf4, hb4⟩
      have HX4 := Lib.hid (HX3.out.wrote HN.out hbf4 hb4)
      clear hbf4 hb4 HW HX3
      go_wp2_with fail
      go_roundw
      case rel => exact ⟨k + 1, _, rfl, by omega, by omega, HX4.out⟩
      case measure => simp [intOf]; omega
    · obtain rfl : k = l.length := by omega
      have HE := Lib.hid (show PX w gb (t ++ cat (l.map (fun x => tF num (wrI x)))) wr by rw [← ptT_end]; exact HX.out)
      clear hx
      go_wp2_with fail
      go_end0
      exact ⟨rfl, HE.out⟩
set_option maxRecDepth 100000 in
set_option maxHeartbeats 4000000 in
theorem ptTxt12 (gb : Nat) (num : Int) (A : Option Addr) (c : Nat) (l : List ByteArray) (t : ByteArray) (w : World) (hn1 : 1 ≤ num) (hn2 : num ≤ 100) (hll : l.length ≤ 140737488351232) (hsm : ∀ x ∈ l, x.size ≤ 100000000) (hM : (t ++ cat (l.map (fun x => tF num x))).size ≤ 100000000) (hbf : BuildF gb gb t.data.toList w) (hz : gb ≤ w.heap.size) (ha : SR w gb 1 A l.length (p_tv l)) :
    Calls Tryz.prog 40 #[.pointer (some ⟨gb, 0, none⟩), .int .i64 num, .slice A l.length c, .func (.func 41) #[] #[]] w fun e w' => e = .returned (.tuple #[]) ∧ PX w gb (t ++ cat (l.map (fun x => tF num x))) w' := by
  have HA := Lib.hid ha
  have HSM := Lib.hid hsm
  have HM := Lib.hid hM
  have HX0 : Hid (PX w gb (ptT t (fun x => tF num x) l 0) w) := Lib.hid (by rw [ptT_zero]; exact ⟨hbf, Below.refl _ _, hz⟩)
  clear ha hsm hM hbf hz
  go_enter Tryz.func40, Tryz.ntmps40
  go_wp2_with fail
  go_loopw [12] (fun j wr => ∃ (k : Nat) (K : Int), j = .int .i64 K ∧ K = (k : Nat) ∧ k ≤ l.length ∧ PX w gb (ptT t (fun x => tF num x) l k) wr) (fun j _ => l.length - (intOf j).toNat)
  case atStart => exact ⟨0, _, rfl, rfl, by omega, HX0.out⟩
  case round =>
    obtain ⟨k, K, rfl, rfl, hk, hx⟩ := hrel
    have HX := Lib.hid hx
    clear HX0
    by_cases hlt : k < l.length
    · have hsk := HSM.out _ (List.getElem_mem hlt)
      have HN := Lib.hid (ptT_step t (fun x => tF num x) hlt)
      have hz1 := ptT_size HM.out k
      have hz2 := pt_fb_le HM.out hlt
      obtain ⟨bb, oo, rfl, -, p0⟩ := n_txt_at (HA.out.below hx.bl) hlt
      clear hx
      generalize l[k] = v at *
      have T1 := Lib.hid (fun W => text_any num v W (by omega) (by omega) (by omega))
      change (fb ⟨num, 2, 0, v⟩).size ≤ _ at hz2
      change Hid (_ ++ fb ⟨num, 2, 0, v⟩ = _) at HN
      generalize fb ⟨num, 2, 0, v⟩ = G at *
      generalize ptT t (fun x => tF num x) l k = TK at *
      go_wp2_with fail
      refine (itself_any v _).mono ?_
      rintro e w2 ⟨rfl, rfl⟩
      go_wp2_with fail
      refine (T1.out _).mono ?_
      rintro e w3 ⟨rfl, hb3⟩
      have HX3 := Lib.hid (HX.out.below hb3)
      have HW := Lib.hid (HX3.out.write G (by omega))
      clear hb3
      go_wp2_with fail
      refine HW.out.mono ?_
      rintro e w4 ⟨rfl, hbf4, hb4⟩
      have HX4 := Lib.hid (HX3.out.wrote HN.out hbf4 hb4)
      clear hbf4 hb4 HW HX3
      go_wp2_with fail
      go_roundw
      case rel => exact ⟨k + 1, _, rfl, by omega, by omega, HX4.out⟩
      case measure => simp [intOf]; omega
    · obtain rfl : k = l.length := by omega
      have HE := Lib.hid (show PX w gb (t ++ cat (l.map (fun x => tF num x))) wr by rw [← ptT_end]; exact HX.out)
      clear hx
      go_wp2_with fail
      go_end0
      exact ⟨rfl, HE.out⟩
end Go.Proofs.YtjjfdlgoacockaaGreat
namespace Go.Proofs.YtjjfdlgoacockaaGreat
namespace M12
open Go.RowKit M1 M2 M3 M8 M9 M10 M11
open M7 (nm Ten ck)

def gT (m : Mod) (p : Nat) : ByteArray := cat ((graF m).take p)
theorem gT_zero (m : Mod) : gT m 0 = ⟨#[]⟩ := by unfold gT; rw [List.take_zero]; rfl
theorem gT_at {m : Mod} {p : Nat} {f : WFd} (h : (graF m)[p]? = some f) : gT m p ++ fb f = gT m (p + 1) := by
  unfold gT
  rw [List.take_add_one, h, b_cat_app]
  show _ = _ ++ (fb f ++ (⟨#[]⟩ : ByteArray))
  rw [app_et]
theorem gT_end {m : Mod} {p : Nat} (h : (graF m).length ≤ p) : gT m p = cat (graF m) := by unfold gT; rw [List.take_of_length_le h]
theorem gT_size (m : Mod) (p : Nat) : (gT m p).size ≤ (cat (graF m)).size := by
  have h : cat (graF m) = cat ((graF m).take p) ++ cat ((graF m).drop p) := by rw [← b_cat_app, List.take_append_drop]
  rw [h, ByteArray.size_append]; unfold gT; omega
theorem gra_len (m : Mod) : (graF m).length = m.nodes.length + m.inits.length + m.inputs.length + m.outputs.length := by unfold graF; simp; omega
theorem gra_at1 {m : Mod} {k : Nat} (h : k < m.nodes.length) : (graF m)[k]? = some (tF 1 (wrN m.nodes[k])) := by
  unfold graF
  rw [List.getElem?_append_left (by simpa using h)]
  simp [List.getElem?_eq_getElem h]
theorem gra_at2 {m : Mod} {k : Nat} (h : k < m.inits.length) : (graF m)[m.nodes.length + k]? = some (tF 5 (wr9 m.inits[k])) := by
  unfold graF
  rw [List.getElem?_append_right (by simp), List.getElem?_append_left (by simp; omega)]
  simp [List.getElem?_eq_getElem h]
theorem gra_at3 {m : Mod} {k : Nat} (h : k < m.inputs.length) : (graF m)[m.nodes.length + m.inits.length + k]? = some (tF 11 (wrI m.inputs[k])) := by
  unfold graF
  rw [List.getElem?_append_right (by simp; omega), List.getElem?_append_right (by simp; omega), List.getElem?_append_left (by simp; omega)]
  simp only [List.length_map]
  rw [show m.nodes.length + m.inits.length + k - m.nodes.length - m.inits.length = k by omega]
  simp [List.getElem?_eq_getElem h]
theorem gra_at4 {m : Mod} {k : Nat} (h : k < m.outputs.length) : (graF m)[m.nodes.length + m.inits.length + m.inputs.length + k]? = some (tF 12 (wrI m.outputs[k])) := by
  unfold graF
  rw [List.getElem?_append_right (by simp; omega), List.getElem?_append_right (by simp; omega), List.getElem?_append_right (by simp; omega)]
  simp only [List.length_map]
  rw [show m.nodes.length + m.inits.length + m.inputs.length + k - m.nodes.length - m.inits.length - m.inputs.length = k by omega]
  simp [List.getElem?_eq_getElem h]
theorem gra_fb {m : Mod} {p : Nat} {f : WFd} (h : (graF m)[p]? = some f) : (fb f).size ≤ (cat (graF m)).size := cat_size_mem (List.mem_of_getElem? h)
theorem gra_data {m : Mod} {p : Nat} {k : Int} {s : ByteArray} (h1 : 1 ≤ k) (h2 : k ≤ 100) (h : (graF m)[p]? = some (tF k s)) : s.size ≤ (cat (graF m)).size :=
  Nat.le_trans (fb_data_le (Pr.text (k := k) s h1 h2) rfl) (gra_fb h)
theorem wrM_eq (m : Mod) : wrM m = fb ⟨7, 2, 0, cat (graF m)⟩ ++ fb ⟨8, 2, 0, fb ⟨2, 0, us m.opset, ⟨#[]⟩⟩⟩ := by
  unfold wrM modF opsW
  show fb (tF 7 (cat (graF m))) ++ (fb (tF 8 (fb (nF 2 (us m.opset)) ++ (⟨#[]⟩ : ByteArray))) ++ (⟨#[]⟩ : ByteArray)) = _
  rw [app_et, app_et]
  rfl
theorem tenErr_at {l : List Ten} {k : Nat} (h : k < l.length) : tenErr (l.drop k) = if ck l[k] ≠ 0 then ck l[k] else tenErr (l.drop (k + 1)) := by
  rw [List.drop_eq_getElem_cons h, tenErr]
structure MSm (m : Mod) : Prop where
  gra : (cat (graF m)).size ≤ 100000000
  nodes : ∀ n ∈ m.nodes, NSm n
  inits : ∀ t ∈ m.inits, t.data.size ≤ 1000000 ∧ t.name.size ≤ 1000000 ∧ t.dims.length ≤ 1000000
  inputs : ∀ i ∈ m.inputs, i.dims.length ≤ 1000000 ∧ i.name.size ≤ 2000000
  outputs : ∀ i ∈ m.outputs, i.dims.length ≤ 1000000 ∧ i.name.size ≤ 2000000
end M12
end Go.Proofs.YtjjfdlgoacockaaGreat
namespace Go.Proofs.YtjjfdlgoacockaaGreat
open Go.RowKit M1 M2 M3 M9 M10 M11 M12 Go.Sort
open M7 (Ten ck)

set_option maxRecDepth 100000 in
set_option maxHeartbeats 8000000 in
theorem rputmod_any (m : Mod) (A1 A2 A3 A4 : Option Addr) (c1 c2 c3 c4 : Nat) (w : World) (hm : ModAt w.heap.size w m A1 A2 A3 A4) (hsm : MSm m) :
    Calls Tryz.prog 13 #[.agg (mv m.opset A1 m.inputs.length c1 A2 m.outputs.length c2 A3 m.inits.length c3 A4 m.nodes.length c4)] w fun e w' => e = .returned (.tuple #[.string (putM m).1, .int .i64 (putM m).2]) ∧ Below w.heap.size w w' := by
  have HM := Lib.hid hm
  have HSM := Lib.hid hsm
  have HX := Lib.hid (Bx.start w #[.int .i64 m.opset, .slice A1 m.inputs.length c1, .slice A2 m.outputs.length c2, .slice A3 m.inits.length c3, .slice A4 m.nodes.length c4] 42)
  have hl1 := hm.len1
  have hl2 := hm.len2
  have hl3 := hm.len3
  have hl4 := hm.len4
  have hcv := us_eq m.opset
  clear hm hsm
  unfold mv
  go_enter Tryz.func13, Tryz.ntmps13
  go_wp2_with fail
  go_loopw [4, 5] (fun s j wr => ∃ (k : Nat) (K : Int) (t : ByteArray), j = .int .i64 K ∧ s = .string t ∧ K = (k : Nat) ∧ k ≤ m.nodes.length ∧ t = gT m (k) ∧ Bx w w.heap.size #[.int .i64 m.opset, .slice A1 m.inputs.length c1, .slice A2 m.outputs.length c2, .slice A3 m.inits.length c3, .slice A4 m.nodes.length c4] 42 wr) (fun _ j _ => m.nodes.length - (intOf j).toNat)
  case atStart => exact ⟨0, _, _, rfl, rfl, rfl, by omega, (gT_zero m).symm, HX.out⟩
  case round =>
    obtain ⟨k, K, t, rfl, rfl, rfl, hk, htk, hbx⟩ := hrel
    have HT1 := Lib.hid htk
    have HB1 := Lib.hid hbx
    have hts : t.size ≤ 100000000 := by rw [htk]; exact Nat.le_trans (gT_size m _) HSM.out.gra
    clear htk
    obtain ⟨x0, x1, x2, x3, x4⟩ := hbx.five
    by_cases hlt : k < m.nodes.length
    · obtain ⟨b, o, cs, rfl, hbb, hp, hcx⟩ := (HM.out.nodes.below ek_nod hbx.all).at_ ek_nod hlt
      have hsk := HSM.out.nodes _ (List.getElem_mem hlt)
      have hat := gra_at1 hlt
      have hz1 := Nat.le_trans (gra_data (by omega) (by omega) hat) HSM.out.gra
      have hz2 := Nat.le_trans (gra_fb hat) HSM.out.gra
      have HN := Lib.hid (gT_at hat)
      rw [← HT1.out] at HN
      clear hbx hat
      obtain ⟨V1, f1, D1, g1, rfl⟩ := NodAt.shape hp
      have HP := Lib.hid hp
      clear hp
      generalize m.nodes[k] = v at *
      have p0 := hcx 0 _ rfl
      have p1 := hcx 1 _ rfl
      have p2 := hcx 2 _ rfl
      have p3 := hcx 3 _ rfl
      simp only [Nat.add_zero] at p0
      clear hcx
      have HC := Lib.hid (rputnode_any v [.string v.op, .slice V1 v.ins.length f1, .string v.out, .slice D1 v.attrs.length g1] wr (ek_nod.more HP.out HB1.out.all.size) hsk)
      have T1 := Lib.hid (fun W => rtext_any 1 (wrN v) W (by omega))
      change (fb ⟨1, 2, 0, wrN v⟩).size ≤ _ at hz2
      change Hid (t ++ fb ⟨1, 2, 0, wrN v⟩ = _) at HN
      clear hsk
      generalize fb ⟨1, 2, 0, wrN v⟩ = G at *
      generalize wrN v = R at *
      go_wp2_with fail
      refine HC.out.mono ?_
      rintro e w2 ⟨rfl, hb2⟩
      have H2 := Lib.hid (HB1.out.below hb2)
      clear hb2 x0 x1 x2 x3 x4 p0 p1 p2 p3 HC HP
      go_wp2_with fail
      refine (T1.out _).mono ?_
      rintro e w3 ⟨rfl, hb3⟩
      have H3 := Lib.hid (H2.out.below hb3)
      clear hb3
      go_wp2_with fail
      go_roundw
      case rel => exact ⟨k + 1, _, _, rfl, rfl, by omega, by omega, HN.out, H3.out⟩
      case measure => simp [intOf]; omega
    · obtain rfl : k = m.nodes.length := by omega
      clear hbx hlt hk
      have hE1 := HT1.out
      clear HX
      go_wp2_with fail
      clear x0 x1 x2 x3 x4
      go_loopw [4, 6] (fun s j wr => ∃ (k : Nat) (K : Int) (t : ByteArray), j = .int .i64 K ∧ s = .string t ∧ K = (k : Nat) ∧ k ≤ m.inits.length ∧ t = gT m (m.nodes.length + k) ∧ tenErr m.inits = tenErr (m.inits.drop k) ∧ Bx w w.heap.size #[.int .i64 m.opset, .slice A1 m.inputs.length c1, .slice A2 m.outputs.length c2, .slice A3 m.inits.length c3, .slice A4 m.nodes.length c4] 42 wr) (fun _ j _ => m.inits.length - (intOf j).toNat)
      case atStart => exact ⟨0, _, _, rfl, rfl, rfl, by omega, HT1.out, rfl, HB1.out⟩
      case round =>
        clear hE1 HT1 hts HB1
        obtain ⟨k, K, t, rfl, rfl, rfl, hk, htk, hte, hbx⟩ := hrel
        have HT2 := Lib.hid htk
        have HE2 := Lib.hid hte
        have HB2 := Lib.hid hbx
        have hts : t.size ≤ 100000000 := by rw [htk]; exact Nat.le_trans (gT_size m _) HSM.out.gra
        clear htk hte
        obtain ⟨x0, x1, x2, x3, x4⟩ := hbx.five
        by_cases hlt : k < m.inits.length
        · obtain ⟨b, o, cs, rfl, hbb, hp, hcx⟩ := (HM.out.inits.below ek_ten hbx.all).at_ ek_ten hlt
          have hsk := HSM.out.inits _ (List.getElem_mem hlt)
          have hat := gra_at2 hlt
          have hz1 := Nat.le_trans (gra_data (by omega) (by omega) hat) HSM.out.gra
          have hz2 := Nat.le_trans (gra_fb hat) HSM.out.gra
          have HN := Lib.hid (gT_at hat)
          rw [← HT2.out] at HN
          have HTE := Lib.hid (HE2.out.trans (tenErr_at hlt))
          clear hbx hat HE2
          obtain ⟨V1, f1, rfl⟩ := TenAt.shape hp
          have HP := Lib.hid hp
          clear hp
          generalize m.inits[k] = v at *
          have p0 := hcx 0 _ rfl
          have p1 := hcx 1 _ rfl
          have p2 := hcx 2 _ rfl
          have p3 := hcx 3 _ rfl
          simp only [Nat.add_zero] at p0
          clear hcx
          have HTK : Hid (∀ W, Below wr.heap.size wr W → Tok W v V1) := Lib.hid fun W hb => by
            obtain ⟨A, c, ee, hs, ok⟩ := ek_ten.more (ek_ten.below HP.out (hb.mono HB2.out.all.size)) (Nat.le_trans HB2.out.all.size hb.size)
            simp only [List.cons.injEq, Value.slice.injEq] at ee
            obtain ⟨-, -, ⟨rfl, -, rfl⟩, -⟩ := ee
            exact ok.tok hs
          have HC := Lib.hid (fun W (hb : Below wr.heap.size wr W) => rcheck_any v V1 f1 W (HTK.out W hb))
          have HR := Lib.hid (fun W (hb : Below wr.heap.size wr W) => b_rput_anyX v V1 f1 W (HTK.out W hb) hsk.1 hsk.2.1 hsk.2.2)
          have T1 := Lib.hid (fun W => rtext_any 5 (wr9 v) W (by omega))
          change (fb ⟨5, 2, 0, wr9 v⟩).size ≤ _ at hz2
          change Hid (t ++ fb ⟨5, 2, 0, wr9 v⟩ = _) at HN
          clear hsk
          generalize fb ⟨5, 2, 0, wr9 v⟩ = G at *
          generalize wr9 v = R at *
          unfold t_tv at HC HR
          go_wp2_with fail
          refine (HC.out _ (Below.refl _ _)).mono ?_
          rintro e w2 ⟨rfl, hb2⟩
          have H2 := Lib.hid (HB2.out.below hb2)
          have HPb := Lib.hid hb2
          have q0 := (hb2.cell (p := ⟨b, o + k * 4, none⟩) (Nat.lt_of_lt_of_le hbb HB2.out.all.size)).trans p0
          have q1 := (hb2.cell (p := ⟨b, o + k * 4 + 1, none⟩) (Nat.lt_of_lt_of_le hbb HB2.out.all.size)).trans p1
          have q2 := (hb2.cell (p := ⟨b, o + k * 4 + 2, none⟩) (Nat.lt_of_lt_of_le hbb HB2.out.all.size)).trans p2
          have q3 := (hb2.cell (p := ⟨b, o + k * 4 + 3, none⟩) (Nat.lt_of_lt_of_le hbb HB2.out.all.size)).trans p3
          clear hb2 x0 x1 x2 x3 x4 p0 p1 p2 p3 HC HP
          obtain ⟨x0, x1, x2, x3, x4⟩ := H2.out.five
          by_cases hck : ck v = 0
          · rw [hck]
            rw [hck, if_neg (by simp)] at HTE
            go_wp2_with fail
            refine (HR.out _ HPb.out).mono ?_
            rintro e w3 ⟨rfl, hb3⟩
            have H3 := Lib.hid (H2.out.below hb3)
            clear hb3 x0 x1 x2 x3 x4 q0 q1 q2 q3 HR HPb HTK
            go_wp2_with fail
            refine (T1.out _).mono ?_
            rintro e w4 ⟨rfl, hb4⟩
            have H4 := Lib.hid (H3.out.below hb4)
            clear hb4
            go_wp2_with fail
            go_roundw
            case rel => exact ⟨k + 1, _, _, rfl, rfl, by omega, by omega, HN.out, HTE.out, H4.out⟩
            case measure => simp [intOf]; omega
          · rw [if_pos hck] at HTE
            have HPU : Hid (putM m = (⟨#[]⟩, ck v)) := Lib.hid (by unfold putM; rw [HTE.out, if_pos hck])
            clear HTE q0 q1 q2 q3 x0 x1 x2 x3 x4 HR HTK
            generalize ck v = C at *
            go_wp2_with fail
            go_ret2
            rw [HPU.out]
            exact ⟨rfl, H2.out.all⟩
        · obtain rfl : k = m.inits.length := by omega
          clear hbx hlt hk
          have HTZ : Hid (tenErr m.inits = 0) := Lib.hid (by rw [HE2.out, List.drop_length]; rfl)
          go_wp2_with fail
          clear x0 x1 x2 x3 x4 HE2
          go_loopw [4, 8] (fun s j wr => ∃ (k : Nat) (K : Int) (t : ByteArray), j = .int .i64 K ∧ s = .string t ∧ K = (k : Nat) ∧ k ≤ m.inputs.length ∧ t = gT m (m.nodes.length + m.inits.length + k) ∧ Bx w w.heap.size #[.int .i64 m.opset, .slice A1 m.inputs.length c1, .slice A2 m.outputs.length c2, .slice A3 m.inits.length c3, .slice A4 m.nodes.length c4] 42 wr) (fun _ j _ => m.inputs.length - (intOf j).toNat)
          case atStart => exact ⟨0, _, _, rfl, rfl, rfl, by omega, HT2.out, HB2.out⟩
          case round =>
            obtain ⟨k, K, t, rfl, rfl, rfl, hk, htk, hbx⟩ := hrel
            have HT3 := Lib.hid htk
            have HB3 := Lib.hid hbx
            have hts : t.size ≤ 100000000 := by rw [htk]; exact Nat.le_trans (gT_size m _) HSM.out.gra
            clear htk
            obtain ⟨x0, x1, x2, x3, x4⟩ := hbx.five
            by_cases hlt : k < m.inputs.length
            · obtain ⟨b, o, cs, rfl, hbb, hp, hcx⟩ := (HM.out.inputs.below ek_inf hbx.all).at_ ek_inf hlt
              have hsk := HSM.out.inputs _ (List.getElem_mem hlt)
              have hat := gra_at3 hlt
              have hz1 := Nat.le_trans (gra_data (by omega) (by omega) hat) HSM.out.gra
              have hz2 := Nat.le_trans (gra_fb hat) HSM.out.gra
              have HN := Lib.hid (gT_at hat)
              rw [← HT3.out] at HN
              clear hbx hat
              obtain ⟨V1, f1, rfl⟩ := InfAt.shape hp
              have HP := Lib.hid hp
              clear hp
              generalize m.inputs[k] = v at *
              have p0 := hcx 0 _ rfl
              have p1 := hcx 1 _ rfl
              have p2 := hcx 2 _ rfl
              simp only [Nat.add_zero] at p0
              clear hcx
              have HC := Lib.hid (rputinfo_any v [.string v.name, .int .i64 v.kind, .slice V1 v.dims.length f1] wr (ek_inf.more HP.out HB3.out.all.size) hsk.1 hsk.2)
              have T1 := Lib.hid (fun W => rtext_any 11 (wrI v) W (by omega))
              change (fb ⟨11, 2, 0, wrI v⟩).size ≤ _ at hz2
              change Hid (t ++ fb ⟨11, 2, 0, wrI v⟩ = _) at HN
              clear hsk
              generalize fb ⟨11, 2, 0, wrI v⟩ = G at *
              generalize wrI v = R at *
              go_wp2_with fail
              refine HC.out.mono ?_
              rintro e w2 ⟨rfl, hb2⟩
              have H2 := Lib.hid (HB3.out.below hb2)
              clear hb2 x0 x1 x2 x3 x4 p0 p1 p2 HC HP
              go_wp2_with fail
              refine (T1.out _).mono ?_
              rintro e w3 ⟨rfl, hb3⟩
              have H3 := Lib.hid (H2.out.below hb3)
              clear hb3
              go_wp2_with fail
              go_roundw
              case rel => exact ⟨k + 1, _, _, rfl, rfl, by omega, by omega, HN.out, H3.out⟩
              case measure => simp [intOf]; omega
            · obtain rfl : k = m.inputs.length := by omega
              clear hbx hlt hk
              go_wp2_with fail
              clear x0 x1 x2 x3 x4 HB2 HT2
              go_loopw [4, 9] (fun s j wr => ∃ (k : Nat) (K : Int) (t : ByteArray), j = .int .i64 K ∧ s = .string t ∧ K = (k : Nat) ∧ k ≤ m.outputs.length ∧ t = gT m (m.nodes.length + m.inits.length + m.inputs.length + k) ∧ Bx w w.heap.size #[.int .i64 m.opset, .slice A1 m.inputs.length c1, .slice A2 m.outputs.length c2, .slice A3 m.inits.length c3, .slice A4 m.nodes.length c4] 42 wr) (fun _ j _ => m.outputs.length - (intOf j).toNat)
              case atStart => exact ⟨0, _, _, rfl, rfl, rfl, by omega, HT3.out, HB3.out⟩
              case round =>
                obtain ⟨k, K, t, rfl, rfl, rfl, hk, htk, hbx⟩ := hrel
                have HT4 := Lib.hid htk
                have HB4 := Lib.hid hbx
                have hts : t.size ≤ 100000000 := by rw [htk]; exact Nat.le_trans (gT_size m _) HSM.out.gra
                clear htk
                obtain ⟨x0, x1, x2, x3, x4⟩ := hbx.five
                by_cases hlt : k < m.outputs.length
                · obtain ⟨b, o, cs, rfl, hbb, hp, hcx⟩ := (HM.out.outputs.below ek_inf hbx.all).at_ ek_inf hlt
                  have hsk := HSM.out.outputs _ (List.getElem_mem hlt)
                  have hat := gra_at4 hlt
                  have hz1 := Nat.le_trans (gra_data (by omega) (by omega) hat) HSM.out.gra
                  have hz2 := Nat.le_trans (gra_fb hat) HSM.out.gra
                  have HN := Lib.hid (gT_at hat)
                  rw [← HT4.out] at HN
                  clear hbx hat
                  obtain ⟨V1, f1, rfl⟩ := InfAt.shape hp
                  have HP := Lib.hid hp
                  clear hp
                  generalize m.outputs[k] = v at *
                  have p0 := hcx 0 _ rfl
                  have p1 := hcx 1 _ rfl
                  have p2 := hcx 2 _ rfl
                  simp only [Nat.add_zero] at p0
                  clear hcx
                  have HC := Lib.hid (rputinfo_any v [.string v.name, .int .i64 v.kind, .slice V1 v.dims.length f1] wr (ek_inf.more HP.out HB4.out.all.size) hsk.1 hsk.2)
                  have T1 := Lib.hid (fun W => rtext_any 12 (wrI v) W (by omega))
                  change (fb ⟨12, 2, 0, wrI v⟩).size ≤ _ at hz2
                  change Hid (t ++ fb ⟨12, 2, 0, wrI v⟩ = _) at HN
                  clear hsk
                  generalize fb ⟨12, 2, 0, wrI v⟩ = G at *
                  generalize wrI v = R at *
                  go_wp2_with fail
                  refine HC.out.mono ?_
                  rintro e w2 ⟨rfl, hb2⟩
                  have H2 := Lib.hid (HB4.out.below hb2)
                  clear hb2 x0 x1 x2 x3 x4 p0 p1 p2 HC HP
                  go_wp2_with fail
                  refine (T1.out _).mono ?_
                  rintro e w3 ⟨rfl, hb3⟩
                  have H3 := Lib.hid (H2.out.below hb3)
                  clear hb3
                  go_wp2_with fail
                  go_roundw
                  case rel => exact ⟨k + 1, _, _, rfl, rfl, by omega, by omega, HN.out, H3.out⟩
                  case measure => simp [intOf]; omega
                · obtain rfl : k = m.outputs.length := by omega
                  clear hbx hlt hk
                  have HG := Lib.hid (HT4.out.trans (gT_end (by rw [gra_len]; exact Nat.le_refl _)))
                  have HW : Hid (putM m = (fb ⟨7, 2, 0, t⟩ ++ fb ⟨8, 2, 0, fb ⟨2, 0, us m.opset, ⟨#[]⟩⟩⟩, 0)) := Lib.hid (by unfold putM; rw [HTZ.out, if_neg (by simp), wrM_eq, ← HG.out])
                  have T7 := Lib.hid (fun W => rtext_any 7 t W (by omega))
                  have TN := Lib.hid (fun W => rnumber_any 2 (us m.opset) W (us_fits _))
                  have qn := fb_le ⟨2, 0, us m.opset, ⟨#[]⟩⟩
                  have q7 := fb_le ⟨7, 2, 0, t⟩
                  have q8 := fb_le ⟨8, 2, 0, fb ⟨2, 0, us m.opset, ⟨#[]⟩⟩⟩
                  dsimp only at qn q7 q8
                  rw [show (⟨#[]⟩ : ByteArray).size = 0 from rfl] at qn
                  have T8 := Lib.hid (fun W => rtext_any 8 (fb ⟨2, 0, us m.opset, ⟨#[]⟩⟩) W (by omega))
                  generalize fb ⟨8, 2, 0, fb ⟨2, 0, us m.opset, ⟨#[]⟩⟩⟩ = G8 at *
                  generalize fb ⟨2, 0, us m.opset, ⟨#[]⟩⟩ = GN at *
                  generalize fb ⟨7, 2, 0, t⟩ = G7 at *
                  have s7 : G7.size ≤ 200000000 := by omega
                  have s8 : G8.size ≤ 200000000 := by omega
                  have r0 := fun d os => cell_regrown x0 d os
                  clear q7 q8 qn HG HTZ
                  go_wp2_with fail
                  clear x0 x1 x2 x3 x4
                  refine wp_region_quiet_below (by kernel_rfl) (by kernel_rfl) ?_
                  repeat (go_big_quiet_step ((first
                    | (go_at_call 47; with_reducible exact Calls.regrown_of (T7.out _))
                    | (go_at_call 47; with_reducible exact Calls.regrown_of (T8.out _))
                    | (go_at_call 52; with_reducible exact Calls.regrown_of (TN.out _)))))
                  refine wpQuiet_nil ?_
                  rintro w2 ⟨p, rfl⟩
                  have H2 := Lib.hid (HB4.out.below (below_regrown wr p.d p.os))
                  clear r0 T7 T8 TN
                  generalize grow (redrawn wr p.d) p.os = w2 at H2 ⊢
                  clear p
                  go_wp2_with fail
                  go_ret2
                  rw [HW.out]
                  exact ⟨rfl, H2.out.all⟩
end Go.Proofs.YtjjfdlgoacockaaGreat
namespace Go.Proofs.YtjjfdlgoacockaaGreat
open Go.RowKit M1 M2 M3 M8 M9 M10 M11 M12 Go.Sort
open M7 (nm Ten ck)

theorem wr9_size (t : Ten) : (wr9 t).size ≤ 120 * cT t := by
  have h1 := pt_le 1 t.dims
  have h2 := fb_le ⟨2, 0, us t.kind, ⟨#[]⟩⟩
  have h3 := fb_le ⟨8, 2, 0, t.name⟩
  have h4 := fb_le ⟨9, 2, 0, t.data⟩
  have z : (⟨#[]⟩ : ByteArray).size = 0 := rfl
  dsimp only at h2 h3 h4
  unfold wr9 cT
  rw [ByteArray.size_append, ByteArray.size_append, ByteArray.size_append]
  omega
theorem gra_cost (m : Mod) : (cat (graF m)).size ≤ 140 * cM m := by
  have h1 := cat_cost (f := fun n => tF 1 (wrN n)) (c := cN) (K := 140) (fun n => by
    have h := fb_le (tF 1 (wrN n))
    have e : (tF 1 (wrN n)).data.size = (wrN n).size := rfl
    have h2 := wrN_size n
    have h3 : 1 ≤ cN n := by unfold cN; omega
    omega) m.nodes
  have h2 := cat_cost (f := fun t => tF 5 (wr9 t)) (c := cT) (K := 140) (fun t => by
    have h := fb_le (tF 5 (wr9 t))
    have e : (tF 5 (wr9 t)).data.size = (wr9 t).size := rfl
    have h2 := wr9_size t
    have h3 : 1 ≤ cT t := by unfold cT; omega
    omega) m.inits
  have hi : ∀ k : Int, ∀ i : Inf, (fb (tF k (wrI i))).size ≤ 140 * cI i := fun k i => by
    have h := fb_le (tF k (wrI i))
    have e : (tF k (wrI i)).data.size = (wrI i).size := rfl
    have h2 := wrI_size i
    have h3 : 1 ≤ cI i := by unfold cI; omega
    omega
  have h3 := cat_cost (f := fun i => tF 11 (wrI i)) (c := cI) (K := 140) (hi 11) m.inputs
  have h4 := cat_cost (f := fun i => tF 12 (wrI i)) (c := cI) (K := 140) (hi 12) m.outputs
  unfold graF cM
  rw [List.map_map, List.map_map, List.map_map, List.map_map, b_cat_app, b_cat_app, b_cat_app, ByteArray.size_append, ByteArray.size_append, ByteArray.size_append]
  have e1 : (cat (List.map (tF 1 ∘ wrN) m.nodes)).size ≤ 140 * sumf cN m.nodes := h1
  have e2 : (cat (List.map (tF 5 ∘ wr9) m.inits)).size ≤ 140 * sumf cT m.inits := h2
  have e3 : (cat (List.map (tF 11 ∘ wrI) m.inputs)).size ≤ 140 * sumf cI m.inputs := h3
  have e4 : (cat (List.map (tF 12 ∘ wrI) m.outputs)).size ≤ 140 * sumf cI m.outputs := h4
  omega
theorem wrM_size {m : Mod} (h : cM m ≤ 6000) : (wrM m).size ≤ 1048576 := by
  have h0 := gra_cost m
  have h1 := fb_le ⟨7, 2, 0, cat (graF m)⟩
  have h2 := fb_le ⟨8, 2, 0, fb ⟨2, 0, us m.opset, ⟨#[]⟩⟩⟩
  have h3 := fb_le ⟨2, 0, us m.opset, ⟨#[]⟩⟩
  have z : (⟨#[]⟩ : ByteArray).size = 0 := rfl
  dsimp only at h1 h2 h3
  rw [wrM_eq, ByteArray.size_append]
  omega
theorem msm_of {m : Mod} (h : cM m ≤ 6000) : MSm m := by
  have h0 := gra_cost m
  have hi : ∀ i : Inf, cI i ≤ 6000 → i.dims.length ≤ 1000000 ∧ i.name.size ≤ 2000000 := fun i hh => by unfold cI at hh; omega
  unfold cM at h
  refine ⟨by unfold cM at h0; omega, fun n hn => nsm_of ?_, fun t ht => ?_, fun i hh => hi i ?_, fun i hh => hi i ?_⟩
  · have := sumf_mem cN hn; omega
  · have := sumf_mem cT ht
    have e : cT t = 1 + t.name.size + t.dims.length + t.data.size := rfl
    omega
  · have := sumf_mem cI hh; omega
  · have := sumf_mem cI hh; omega

/-! ### the law's back -/
def nodMay (n : Nod) : Bool := mayK n n.attrs.length
def infMay (i : Inf) : Bool := nm i.name && decide (kSize i.kind ≠ 0)
def lensOk (m : Mod) : Bool := decide (0 ≤ m.opset) && decide (m.opset ≤ 2147483648) && decide (m.nodes.length ≤ 1024) && decide (m.inits.length ≤ 1024) && decide (m.inputs.length ≤ 64) && decide (m.outputs.length ≤ 64)
def backM (m : Mod) : Bool := lensOk m && m.nodes.all nodMay && (m.inputs.all infMay && m.outputs.all infMay)
theorem mbk_of {m : Mod} (hb : backM m = true) (ht : tenErr m.inits = 0) (hN : ∀ n ∈ m.nodes, ∀ a ∈ n.attrs, AOk a) (hI : ∀ i ∈ m.inputs, IOk i) (hO : ∀ i ∈ m.outputs, IOk i) (hT : ∀ t ∈ m.inits, TOk t) (h6 : cM m ≤ 6000) : MBk m := by
  unfold backM lensOk at hb
  simp only [Bool.and_eq_true, decide_eq_true_eq, List.all_eq_true] at hb
  obtain ⟨⟨⟨⟨⟨⟨⟨o1, o2⟩, l1⟩, l2⟩, l3⟩, l4⟩, bn⟩, bi, bo⟩ := hb
  have hinf : ∀ i, infMay i = true → IOk i → IBk i := fun i hm hk => by
    unfold infMay at hm
    simp only [Bool.and_eq_true, decide_eq_true_eq] at hm
    exact ⟨hm.1, hm.2, hk.ints⟩
  refine ⟨o1, o2, l1, l2, l3, l4, fun n hn => ?_, fun t h => ⟨tenErr_zero ht t h, (hT t h).ints⟩, fun i h => hinf i (bi i h) (hI i h), fun i h => hinf i (bo i h) (hO i h)⟩
  have hm := bn n hn
  have hc : cN n ≤ 6000 := by have := sumf_mem cN hn; unfold cM at h6; omega
  unfold nodMay mayK at hm
  rw [List.take_length] at hm
  simp only [Bool.and_eq_true, decide_eq_true_eq, List.all_eq_true] at hm
  obtain ⟨⟨h1, h2⟩, h3⟩ := hm
  refine ⟨h1, fun a ha => ⟨h2 a ha, (hN n hn a ha).int, (hN n hn a ha).ints, ?_⟩, once_nodup.1 h3⟩
  have := sumf_mem cA ha
  have e : cA a = 1 + a.name.size + a.ints.length := rfl
  unfold cN at hc
  omega
theorem back_model {m : Mod} (fs : List Fl) (hb : backM m = true) (ht : tenErr m.inits = 0) (hN : ∀ n ∈ m.nodes, ∀ a ∈ n.attrs, AOk a) (hI : ∀ i ∈ m.inputs, IOk i) (hO : ∀ i ∈ m.outputs, IOk i) (hT : ∀ t ∈ m.inits, TOk t) (h6 : cM m ≤ 6000) :
    modelM (wrM m) fs = (nM m, 0) := modelM_wrM fs (mbk_of hb ht hN hI hO hT h6) (wrM_size h6)
end Go.Proofs.YtjjfdlgoacockaaGreat
namespace Go.Proofs.YtjjfdlgoacockaaGreat
open Go.RowKit M1 M2 M3 M8 M9 M10 M11 M12 Go.Sort
open M7 (nm Ten ck)

def gP1 (m : Mod) : ByteArray := ⟨#[]⟩ ++ cat (m.nodes.map (fun x => tF 1 (wrN x)))
def gP2 (m : Mod) : ByteArray := gP1 m ++ cat ((m.inits.map wr9).map (fun x => tF 5 x))
def gP3 (m : Mod) : ByteArray := gP2 m ++ cat (m.inputs.map (fun x => tF 11 (wrI x)))
def gP4 (m : Mod) : ByteArray := gP3 m ++ cat (m.outputs.map (fun x => tF 12 (wrI x)))
theorem gP_all (m : Mod) : gP4 m = cat (graF m) := by
  unfold gP4 gP3 gP2 gP1 graF
  rw [n_cat_app, n_cat_app, n_cat_app, List.map_map, List.map_map, List.map_map, List.map_map, n_assoc, n_assoc, n_assoc]
  have e : ∀ b : ByteArray, (⟨#[]⟩ : ByteArray) ++ b = b := fun b => ByteArray.ext (by simp)
  rw [e]
  rfl
theorem gP_le (m : Mod) : (gP1 m).size ≤ (cat (graF m)).size ∧ (gP2 m).size ≤ (cat (graF m)).size ∧ (gP3 m).size ≤ (cat (graF m)).size ∧ (gP4 m).size ≤ (cat (graF m)).size := by
  rw [← gP_all]
  have h1 : (gP2 m).size = (gP1 m).size + _ := ByteArray.size_append
  have h2 : (gP3 m).size = (gP2 m).size + _ := ByteArray.size_append
  have h3 : (gP4 m).size = (gP3 m).size + _ := ByteArray.size_append
  omega
theorem putM_no {m : Mod} {c : Int} (h : tenErr m.inits = c) (hc : c ≠ 0) : putM m = (⟨#[]⟩, c) := by unfold putM; rw [h, if_pos hc]
theorem putM_yes {m : Mod} (h : tenErr m.inits = 0) : putM m = (fb ⟨7, 2, 0, gP4 m⟩ ++ fb ⟨8, 2, 0, fb ⟨2, 0, us m.opset, ⟨#[]⟩⟩⟩, 0) := by
  unfold putM; rw [h, if_neg (by simp), wrM_eq, gP_all]

set_option maxRecDepth 100000 in
set_option maxHeartbeats 4000000 in
theorem put12_any (m : Mod) (A1 A2 A3 A4 : Option Addr) (c1 c2 c3 c4 : Nat) (w : World) (hm : ModAt w.heap.size w m A1 A2 A3 A4) (hsm : MSm m) :
    Calls Tryz.prog 12 #[.agg (mv m.opset A1 m.inputs.length c1 A2 m.outputs.length c2 A3 m.inits.length c3 A4 m.nodes.length c4)] w fun e w' => e = .returned (.tuple #[.string (putM m).1, .int .i64 (putM m).2]) ∧ Below w.heap.size w w' := by
  have HM := Lib.hid hm
  have HSM := Lib.hid hsm
  have HX := Lib.hid (Bx.start w #[.int .i64 m.opset, .slice A1 m.inputs.length c1, .slice A2 m.outputs.length c2, .slice A3 m.inits.length c3, .slice A4 m.nodes.length c4] 34)
  have HL1 := Lib.hid hm.len1
  have HL2 := Lib.hid hm.len2
  have HL3 := Lib.hid hm.len3
  have HL4 := Lib.hid hm.len4
  have hcv := us_eq m.opset
  have HE := Lib.hid (each_put12 A3 c3 m.inits _ hm.len3 hsm.inits ((hm.inits.below ek_ten HX.out.all).more ek_ten HX.out.all.size))
  have HEQ := Lib.hid (eachG_put m.inits [])
  have HN := Lib.hid (fun c => putM_no (m := m) (c := c))
  have HY := Lib.hid (putM_yes (m := m))
  clear hm hsm
  unfold mv
  generalize putM m = R at *
  obtain ⟨x0, x1, x2, x3, x4⟩ := HX.out.five
  go_enter Tryz.func12, Tryz.ntmps12
  go_wp2_with fail
  refine HE.out.mono ?_
  rintro e w1 ⟨v, rfl, hdw, hb⟩
  rw [HEQ.out] at hdw ⊢
  have HX1 := Lib.hid (HX.out.below hb)
  clear hb HE HX HEQ x0 x1 x2 x3 x4
  by_cases ht : tenErr m.inits ≠ 0
  · rw [if_pos ht] at hdw ⊢
    dsimp only at hdw ⊢
    obtain ⟨VA, VC, rfl⟩ := hdw.form
    have HR := Lib.hid (HN.out _ rfl ht)
    have hcb : (tenErr m.inits != 0) = true := by simpa using ht
    clear hdw ht HN HY
    generalize tenErr m.inits = C at *
    go_wp2_with fail
    go_ret2
    rw [HR.out]
    exact ⟨rfl, HX1.out.all⟩
  rw [if_neg ht] at hdw ⊢
  dsimp only at hdw ⊢
  have HR := Lib.hid (HY.out (Decidable.not_not.1 ht))
  obtain ⟨TS, hTS⟩ : ∃ TS, TS = [] ++ m.inits.map wr9 := ⟨_, rfl⟩
  rw [← hTS] at hdw
  have HTS := Lib.hid (show TS = m.inits.map wr9 by rw [hTS]; rfl)
  obtain ⟨VA, VC, rfl⟩ := hdw.form
  have hrow := SR.of_own (dw_t1 hdw)
  have hbn := build_new w1
  have hal : Below w1.heap.size w1 (w1.alloc (.cells #[.pointer none, .slice none 0 0] 115)) := (Below.refl _ _).alloc (Nat.le_refl _) _
  have HROW := Lib.hid (hrow.below hal)
  have HBL2 := Lib.hid (step_below HX1.out.all hal)
  have HX2 := Lib.hid (HX1.out.below hal)
  have HGW := Lib.hid HX1.out.all.size
  have HGB := Lib.hid HX1.out.2.1
  have HSZ := Lib.hid hal.size
  have hle := gP_le m
  have hg := HSM.out.gra
  have hTL : TS.length ≤ 140737488351232 := by rw [HTS.out, List.length_map]; have := HL3.out; omega
  have hTM : ∀ s ∈ TS, s.size ≤ 100000000 := fun s hs => by
    rw [HTS.out] at hs
    obtain ⟨t, htm, rfl⟩ := List.mem_map.1 hs
    have h1 := (cat_size_mem (l := graF m) (f := tF 5 (wr9 t)) (by unfold graF; simp only [List.mem_append, List.mem_map]; exact .inr (.inl ⟨_, ⟨t, htm, rfl⟩, rfl⟩)))
    have h2 := fb_data_le (f := tF 5 (wr9 t)) (Pr.text (k := 5) _ (by omega) (by omega)) rfl
    exact Nat.le_trans h2 (Nat.le_trans h1 hg)
  have H1 := Lib.hid (ptNod12 w1.heap.size 1 A4 c4 m.nodes ⟨#[]⟩ (w1.alloc (.cells #[.pointer none, .slice none 0 0] 115)) (by omega) (by omega) (by have := HL4.out; omega) HSM.out.nodes (by show (gP1 m).size ≤ _; omega) hbn hal.size ((HM.out.nodes.below ek_nod HBL2.out).more ek_nod HX1.out.all.size))
  have H2 := Lib.hid (fun W (h : PX (w1.alloc (.cells #[.pointer none, .slice none 0 0] 115)) w1.heap.size (gP1 m) W) => ptTxt12 w1.heap.size 5 VA VC TS (gP1 m) W (by omega) (by omega) hTL hTM (by rw [HTS.out]; show (gP2 m).size ≤ _; omega) h.bf h.sz (HROW.out.below h.bl))
  have H3 := Lib.hid (fun W (h : PX (w1.alloc (.cells #[.pointer none, .slice none 0 0] 115)) w1.heap.size (gP2 m) W) => ptInf12 w1.heap.size 11 A1 c1 m.inputs (gP2 m) W (by omega) (by omega) (by have := HL1.out; omega) HSM.out.inputs (by show (gP3 m).size ≤ _; omega) h.bf h.sz ((HM.out.inputs.below ek_inf (HBL2.out.trans (h.bl.mono HGW.out))).more ek_inf HGW.out))
  have H4 := Lib.hid (fun W (h : PX (w1.alloc (.cells #[.pointer none, .slice none 0 0] 115)) w1.heap.size (gP3 m) W) => ptInf12 w1.heap.size 12 A2 c2 m.outputs (gP3 m) W (by omega) (by omega) (by have := HL2.out; omega) HSM.out.outputs (by show (gP4 m).size ≤ _; omega) h.bf h.sz ((HM.out.outputs.below ek_inf (HBL2.out.trans (h.bl.mono HGW.out))).more ek_inf HGW.out))
  have hG4 : (gP4 m).size ≤ 100000000 := by omega
  have HS := Lib.hid (fun W (h : PX (w1.alloc (.cells #[.pointer none, .slice none 0 0] 115)) w1.heap.size (gP4 m) W) => buildString_any w1.heap.size w1.heap.size _ W h.bf h.sz)
  have HBW := Lib.hid (fun W t (h : PX (w1.alloc (.cells #[.pointer none, .slice none 0 0] 115)) w1.heap.size t W) => HX2.out.low h.bl HGB.out HGW.out)
  change Hid (Calls _ _ _ _ fun e w' => e = _ ∧ PX _ w1.heap.size (gP1 m) w') at H1
  obtain ⟨x0, x1, x2, x3, x4⟩ := HX2.out.five
  have hq7 := fb_le ⟨7, 2, 0, gP4 m⟩
  have hq8 := fb_le ⟨8, 2, 0, fb ⟨2, 0, us m.opset, ⟨#[]⟩⟩⟩
  have hq2 := fb_le ⟨2, 0, us m.opset, ⟨#[]⟩⟩
  have hz0 : (⟨#[]⟩ : ByteArray).size = 0 := rfl
  dsimp only at hq7 hq8 hq2
  rw [hz0] at hq2
  have hGV8 : (fb ⟨8, 2, 0, fb ⟨2, 0, us m.opset, ⟨#[]⟩⟩⟩).size ≤ 1000 := by omega
  have hGV7 : (fb ⟨7, 2, 0, gP4 m⟩).size ≤ 200000000 := by omega
  have HNB := Lib.hid (fun W => number_any 2 (us m.opset) W (us_fits _) (by decide) (by decide))
  have HT7 := Lib.hid (fun W => text_any 7 (gP4 m) W (by omega) (by decide) (by decide))
  have HT8 := Lib.hid (fun W => text_any 8 (fb ⟨2, 0, us m.opset, ⟨#[]⟩⟩) W (by omega) (by decide) (by decide))
  clear hdw ht HN HY hTS hrow hbn hal hle hg hTL hTM HROW hz0 hq7 hq8 hq2
  obtain ⟨G4, hG4e⟩ : ∃ G4, gP4 m = G4 := ⟨_, rfl⟩
  rw [hG4e] at HT7 HS HR hG4 hGV7
  have HG4 := Lib.hid (show gP3 m ++ cat (m.outputs.map (fun x => tF 12 (wrI x))) = G4 from hG4e)
  clear hG4e
  generalize fb ⟨2, 0, us m.opset, ⟨#[]⟩⟩ = GV at *
  generalize fb ⟨7, 2, 0, G4⟩ = G7 at *
  generalize fb ⟨8, 2, 0, GV⟩ = G8 at *
  go_wp2_with fail
  refine H1.out.mono ?_
  rintro e w3 ⟨rfl, h3⟩
  have HP3 := Lib.hid h3
  clear h3 H1 x0 x1 x2 x3 x4
  go_wp2_with fail
  refine (H2.out _ HP3.out).mono ?_
  rintro e w4 ⟨rfl, h4⟩
  have HP4 := Lib.hid (show PX (w1.alloc (.cells #[.pointer none, .slice none 0 0] 115)) w1.heap.size (gP2 m) w4 from by
    have h := h4.bf
    rw [HTS.out] at h
    exact ⟨h, HP3.out.bl.trans h4.bl, h4.sz⟩)
  clear h4 H2 HP3
  obtain ⟨x0, x1, x2, x3, x4⟩ := (HBW.out _ _ HP4.out).five
  go_wp2_with fail
  refine (H3.out _ HP4.out).mono ?_
  rintro e w5 ⟨rfl, h5⟩
  have HP5 := Lib.hid (show PX (w1.alloc (.cells #[.pointer none, .slice none 0 0] 115)) w1.heap.size (gP3 m) w5 from ⟨h5.bf, HP4.out.bl.trans h5.bl, h5.sz⟩)
  clear h5 H3 HP4 x0 x1 x2 x3 x4
  obtain ⟨x0, x1, x2, x3, x4⟩ := (HBW.out _ _ HP5.out).five
  go_wp2_with fail
  refine (H4.out _ HP5.out).mono ?_
  rintro e w6 ⟨rfl, h6⟩
  have HP6 := Lib.hid (show PX (w1.alloc (.cells #[.pointer none, .slice none 0 0] 115)) w1.heap.size G4 w6 from by
    have h := h6.bf
    rw [HG4.out] at h
    exact ⟨h, HP5.out.bl.trans h6.bl, h6.sz⟩)
  clear h6 H4 HP5 x0 x1 x2 x3 x4
  obtain ⟨x0, x1, x2, x3, x4⟩ := (HBW.out _ _ HP6.out).five
  go_wp2_with fail
  refine (HNB.out _).mono ?_
  rintro e w7 ⟨rfl, hb7⟩
  have HP7 := Lib.hid (HP6.out.below hb7)
  clear hb7 HNB x0 x1 x2 x3 x4
  go_wp2_with fail
  refine (HS.out _ HP7.out).mono ?_
  rintro e w8 ⟨rfl, -, hb8⟩
  have HB8 := Lib.hid (HBL2.out.trans ((HP7.out.bl.trans hb8).mono HGW.out))
  rw [joined_back]
  clear hb8 HS HP7
  go_wp2_with fail
  refine (HT7.out _).mono ?_
  rintro e w9 ⟨rfl, hb9⟩
  have HB9 := Lib.hid (HB8.out.trans (hb9.mono HB8.out.size))
  clear hb9 HT7
  go_wp2_with fail
  refine (HT8.out _).mono ?_
  rintro e w10 ⟨rfl, hb10⟩
  have HB10 := Lib.hid (HB9.out.trans (hb10.mono HB9.out.size))
  clear hb10 HT8
  go_wp2_with fail
  go_ret2
  rw [HR.out]
  exact ⟨rfl, HB10.out⟩
end Go.Proofs.YtjjfdlgoacockaaGreat
namespace Go.Proofs.YtjjfdlgoacockaaGreat
open Go.RowKit M1 M2 M3 M8 M9 M10 M11 M12 Go.Sort
open M7 (nm Ten ck)

theorem mayK_down {n : Nod} {k : Nat} (h : mayK n k = false) : ∀ {j : Nat}, k ≤ j → j ≤ n.attrs.length → mayK n j = false := by
  intro j hkj hj
  induction j with
  | zero => have : k = 0 := by omega
            subst this; exact h
  | succ j ih =>
    by_cases he : k = j + 1
    · subst he; exact h
    · rw [mayK_succ (by omega), ih (by omega) (by omega)]; rfl
theorem back_lens {m : Mod} (h : lensOk m = false) : backM m = false := by unfold backM; rw [h]; rfl
theorem back_nod {m : Mod} {k : Nat} (hk : k < m.nodes.length) (h : nodMay m.nodes[k] = false) : backM m = false := by
  have : m.nodes.all nodMay = false := by
    rw [Bool.eq_false_iff]; intro ha
    rw [List.all_eq_true] at ha
    have := ha _ (List.getElem_mem hk)
    rw [h] at this; cases this
  unfold backM; rw [this]; simp
theorem back_in {m : Mod} (h : m.inputs.all infMay = false) : backM m = false := by unfold backM; rw [h]; simp
theorem back_out {m : Mod} (h : m.outputs.all infMay = false) : backM m = false := by unfold backM; rw [h]; simp
theorem back_yes {m : Mod} (h : lensOk m = true) (h1 : m.nodes.all nodMay = true) (h2 : m.inputs.all infMay = true) (h3 : m.outputs.all infMay = true) : backM m = true := by unfold backM; rw [h, h1, h2, h3]; rfl
theorem all_one {α : Type} {p : α → Bool} {l : List α} {k : Nat} (hk : k < l.length) (h : p l[k] = false) : l.all p = false := by
  rw [Bool.eq_false_iff]; intro ha
  rw [List.all_eq_true] at ha
  have := ha _ (List.getElem_mem hk)
  rw [h] at this; cases this
theorem all_step {α : Type} {p : α → Bool} {l : List α} {k : Nat} (hk : k < l.length) (h : (l.take k).all p = true) (h2 : p l[k] = true) : (l.take (k + 1)).all p = true := by
  rw [List.take_succ_eq_append_getElem hk, List.all_append, h]; simp [h2]
theorem lens_no {m : Mod} (h : ¬ (0 ≤ m.opset ∧ m.opset ≤ 2147483648 ∧ m.nodes.length ≤ 1024 ∧ m.inits.length ≤ 1024 ∧ m.inputs.length ≤ 64 ∧ m.outputs.length ≤ 64)) : lensOk m = false := by
  rw [Bool.eq_false_iff]; intro ha
  unfold lensOk at ha
  simp only [Bool.and_eq_true, decide_eq_true_eq] at ha
  exact h ⟨ha.1.1.1.1.1, ha.1.1.1.1.2, ha.1.1.1.2, ha.1.1.2, ha.1.2, ha.2⟩
theorem lens_yes {m : Mod} (h : 0 ≤ m.opset ∧ m.opset ≤ 2147483648 ∧ m.nodes.length ≤ 1024 ∧ m.inits.length ≤ 1024 ∧ m.inputs.length ≤ 64 ∧ m.outputs.length ≤ 64) : lensOk m = true := by
  unfold lensOk
  simp [h.1, h.2.1, h.2.2.1, h.2.2.2.1, h.2.2.2.2.1, h.2.2.2.2.2]
def twoB (m : Mod) (k : Nat) : Prop := k = 0 ∨ (k = 1 ∧ m.inputs.all infMay = true) ∨ (k = 2 ∧ m.inputs.all infMay = true ∧ m.outputs.all infMay = true)

set_option maxRecDepth 100000 in
set_option maxHeartbeats 8000000 in
theorem back12_any (m : Mod) (A1 A2 A3 A4 : Option Addr) (c1 c2 c3 c4 : Nat) (w : World) (hm : ModAt w.heap.size w m A1 A2 A3 A4) :
    Calls Tryz.prog 14 #[.agg (mv m.opset A1 m.inputs.length c1 A2 m.outputs.length c2 A3 m.inits.length c3 A4 m.nodes.length c4)] w fun e w' => e = .returned (.bool (backM m)) ∧ Below w.heap.size w w' := by
  have HM := Lib.hid hm
  have HX := Lib.hid (Bx.start w #[.int .i64 m.opset, .slice A1 m.inputs.length c1, .slice A2 m.outputs.length c2, .slice A3 m.inits.length c3, .slice A4 m.nodes.length c4] 42)
  have hl1 := hm.len1
  have hl2 := hm.len2
  have hl3 := hm.len3
  have hl4 := hm.len4
  have HNO := Lib.hid (lens_no (m := m))
  obtain ⟨x0, x1, x2, x3, x4⟩ := HX.out.five
  clear hm
  unfold mv
  go_enter Tryz.func14, Tryz.ntmps14
  by_cases q0 : m.opset < 0
  · have HF := Lib.hid (back_lens (HNO.out (by omega)))
    have r0 : m.opset < 0 := by omega
    clear q0
    go_wp2_with fail
    go_ret
    rw [HF.out]
    exact ⟨rfl, HX.out.all⟩
  have r0 : ¬ m.opset < 0 := by omega
  by_cases q1 : 2147483648 < m.opset
  · have HF := Lib.hid (back_lens (HNO.out (by omega)))
    have r1 : (2147483648 : Int) < m.opset := by omega
    clear q1
    go_wp2_with fail
    go_ret
    rw [HF.out]
    exact ⟨rfl, HX.out.all⟩
  have r1 : ¬ (2147483648 : Int) < m.opset := by omega
  by_cases q2 : 1024 < m.nodes.length
  · have HF := Lib.hid (back_lens (HNO.out (by omega)))
    have r2 : (1024 : Int) < (m.nodes.length : Int) := by omega
    clear q2
    go_wp2_with fail
    go_ret
    rw [HF.out]
    exact ⟨rfl, HX.out.all⟩
  have r2 : ¬ (1024 : Int) < (m.nodes.length : Int) := by omega
  by_cases q3 : 1024 < m.inits.length
  · have HF := Lib.hid (back_lens (HNO.out (by omega)))
    have r3 : (1024 : Int) < (m.inits.length : Int) := by omega
    clear q3
    go_wp2_with fail
    go_ret
    rw [HF.out]
    exact ⟨rfl, HX.out.all⟩
  have r3 : ¬ (1024 : Int) < (m.inits.length : Int) := by omega
  by_cases q4 : 64 < m.inputs.length
  · have HF := Lib.hid (back_lens (HNO.out (by omega)))
    have r4 : (64 : Int) < (m.inputs.length : Int) := by omega
    clear q4
    go_wp2_with fail
    go_ret
    rw [HF.out]
    exact ⟨rfl, HX.out.all⟩
  have r4 : ¬ (64 : Int) < (m.inputs.length : Int) := by omega
  by_cases q5 : 64 < m.outputs.length
  · have HF := Lib.hid (back_lens (HNO.out (by omega)))
    have r5 : (64 : Int) < (m.outputs.length : Int) := by omega
    clear q5
    go_wp2_with fail
    go_ret
    rw [HF.out]
    exact ⟨rfl, HX.out.all⟩
  have r5 : ¬ (64 : Int) < (m.outputs.length : Int) := by omega
  have HLO := Lib.hid (lens_yes (m := m) (by omega))
  clear q0 q1 q2 q3 q4 q5
  go_wp2_with fail
  clear x0 x1 x2 x3 x4 r0 r1 r2 r3 r4 r5 HNO
  go_loopw [46] (fun i wr => ∃ (k : Nat) (K : Int), i = .int .i64 K ∧ K = (k : Nat) ∧ k ≤ m.nodes.length ∧ (m.nodes.take k).all nodMay = true ∧ Bx w w.heap.size #[.int .i64 m.opset, .slice A1 m.inputs.length c1, .slice A2 m.outputs.length c2, .slice A3 m.inits.length c3, .slice A4 m.nodes.length c4] 42 wr) (fun i _ => m.nodes.length - (intOf i).toNat)
  case atStart => exact ⟨0, _, rfl, rfl, by omega, rfl, HX.out⟩
  case round =>
    clear HX
    obtain ⟨k, K, rfl, rfl, hk, hall, hbx⟩ := hrel
    have HX := Lib.hid hbx
    have HAL := Lib.hid hall
    clear hall
    by_cases hlt : k < m.nodes.length
    · obtain ⟨bb, oo, cs, hA4, hbb, hp, hcx⟩ := (HM.out.nodes.below ek_nod hbx.all).at_ ek_nod hlt
      subst hA4
      have HP := Lib.hid hp
      have HFN := Lib.hid (fun (h : nodMay m.nodes[k] = false) => back_nod hlt h)
      have HST := Lib.hid (all_step (p := nodMay) hlt HAL.out)
      clear hbx
      obtain ⟨V1, f1, D1, g1, rfl⟩ := NodAt.shape hp
      clear hp
      generalize m.nodes[k] = n at *
      have p0 := hcx 0 _ rfl
      have p1 := hcx 1 _ rfl
      have p2 := hcx 2 _ rfl
      have p3 := hcx 3 _ rfl
      simp only [Nat.add_zero] at p0
      clear hcx
      have hal := (Below.refl wr.heap.size wr).alloc (Nat.le_refl _) (.cells #[.string n.op, .slice V1 n.ins.length f1, .string n.out, .slice D1 n.attrs.length g1] 80)
      have HX2 := Lib.hid (HX.out.below hal)
      have HN2 := Lib.hid (HX.out.next #[.string n.op, .slice V1 n.ins.length f1, .string n.out, .slice D1 n.attrs.length g1] 80)
      have HDR := Lib.hid (show DR AttAt wr w.heap.size 4 D1 n.attrs ∧ NOk n by
        obtain ⟨_, _, _, _, e, _, hd, ok⟩ := HP.out
        simp only [List.cons.injEq, Value.slice.injEq, and_true, true_and] at e
        obtain ⟨-, ⟨rfl, -⟩⟩ := e
        exact ⟨hd, ok⟩)
      have hna := HDR.out.2.alen
      obtain ⟨n0, n1, n2, n3⟩ := HN2.out.four
      by_cases hin : 64 < n.ins.length
      · have hin' : (64 : Int) < (n.ins.length : Int) := by omega
        have HF := Lib.hid (HFN.out (show nodMay n = false from mayK_down (k := 0) (by rw [mayK_zero]; simp; omega) (Nat.zero_le _) (Nat.le_refl _)))
        clear hin
        go_wp2_with fail
        go_ret
        rw [HF.out]
        exact ⟨rfl, HX2.out.all⟩
      have hin' : ¬ (64 : Int) < (n.ins.length : Int) := by omega
      have HM0 := Lib.hid (show mayK n 0 = true by rw [mayK_zero]; simp; omega)
      clear hin HP
      have HGN := Lib.hid (show w.heap.size < wr.heap.size from HX.out.2.1)
      have HDB := Lib.hid (fun W (h : Below w.heap.size w W) (h2 : Below w.heap.size wr W) => HDR.out.1.below ek_att h2)
      have HWR := Lib.hid hal
      go_wp2_with fail
      clear p0 p1 p2 p3 n0 n1 n2 n3 hin'
      obtain ⟨wo, rfl⟩ : ∃ wo : World, wo = wr := ⟨_, rfl⟩
      have HB2 := Lib.hid (show Below w.heap.size wo (wo.alloc (.cells #[.string n.op, .slice V1 n.ins.length f1, .string n.out, .slice D1 n.attrs.length g1] 80)) from hal.mono (Nat.le_of_lt HGN.out))
      clear hal HWR HDB HX
      go_loopw [57] (fun i wr => ∃ (j : Nat) (J : Int), i = .int .i64 J ∧ J = (j : Nat) ∧ j ≤ n.attrs.length ∧ mayK n j = true ∧ Bx w w.heap.size #[.int .i64 m.opset, .slice A1 m.inputs.length c1, .slice A2 m.outputs.length c2, .slice A3 m.inits.length c3, .slice (some ⟨bb, oo, none⟩) m.nodes.length c4] 42 wr ∧ Bx w wo.heap.size #[.string n.op, .slice V1 n.ins.length f1, .string n.out, .slice D1 n.attrs.length g1] 80 wr ∧ Below w.heap.size wo wr) (fun i _ => n.attrs.length - (intOf i).toNat)
      case atStart => exact ⟨0, _, rfl, rfl, by omega, HM0.out, HX2.out, HN2.out, HB2.out⟩
      case round =>
        clear HX2 HN2 HB2 HM0
        obtain ⟨j, J, rfl, rfl, hj, hmj, hbx, hbn, hbo⟩ := hrel
        have HX := Lib.hid hbx
        have HN := Lib.hid hbn
        have HO := Lib.hid hbo
        have HMJ := Lib.hid hmj
        clear hbx hbn hmj
        by_cases hlj : j < n.attrs.length
        · obtain ⟨bb2, oo2, ca, hD1, hbb2, hpa, hca⟩ := (HDR.out.1.below ek_att hbo).at_ ek_att hlj
          subst hD1
          have HPA := Lib.hid hpa
          have HMS := Lib.hid (mayK_succ hlj)
          have HFL := Lib.hid (fnd_le hlj)
          have HMD := Lib.hid (fun (h : mayK n (j + 1) = false) => (show nodMay n = false from mayK_down h (by omega) (Nat.le_refl _)))
          have HFI := Lib.hid (fun s W (h : Below w.heap.size wo W) => rfind_any _ g1 n.attrs s W (by unfold maxLen; omega) ((HDR.out.1.below ek_att h).more ek_att (Nat.le_trans (Nat.le_of_lt HGN.out) h.size)))
          clear hbo
          obtain ⟨U1, h1, rfl⟩ := AttAt.shape hpa
          have hns : n.attrs[j].name.size ≤ maxLen := by obtain ⟨_, _, _, _, ok⟩ := HPA.out; have := ok.name; unfold maxLen; omega
          clear hpa
          rw [HMJ.out] at HMS
          generalize n.attrs[j] = u at *
          have p0 := hca 0 _ rfl
          have p1 := hca 1 _ rfl
          have p2 := hca 2 _ rfl
          have p3 := hca 3 _ rfl
          simp only [Nat.add_zero] at p0
          clear hca HPA
          have hal := (Below.refl wr.heap.size wr).alloc (Nat.le_refl _) (.cells #[.string u.name, .bool u.one, .int .i64 u.int, .slice U1 u.ints.length h1] 129)
          have HX3 := Lib.hid (HX.out.below hal)
          have HN3 := Lib.hid (HN.out.below hal)
          have HU3 := Lib.hid (HX.out.next #[.string u.name, .bool u.one, .int .i64 u.int, .slice U1 u.ints.length h1] 129)
          have HO3 := Lib.hid (HO.out.trans (hal.mono HX.out.all.size))
          have HFW := Lib.hid (HFI.out u.name _ HO3.out)
          clear hal HX HN HO HFI
          obtain ⟨u0, u1, u2, u3⟩ := HU3.out.four
          obtain ⟨n0, n1, n2, n3⟩ := HN3.out.four
          go_wp2_with fail
          refine (rname_any u.name _ hns).mono ?_
          rintro e w8 ⟨rfl, rfl⟩
          cases hnm : nm u.name
          · have HF := Lib.hid (HFN.out (HMD.out (by rw [HMS.out, hnm]; rfl)))
            clear HFW
            go_wp2_with fail
            go_ret
            rw [HF.out]
            exact ⟨rfl, HX3.out.all⟩
          generalize hfd : fndI (fun a => decide (a.name = u.name)) n.attrs = fd at *
          rw [hnm] at HMS
          by_cases hfi : fd < (j : Int)
          · have HF := Lib.hid (HFN.out (HMD.out (by rw [HMS.out]; simp; omega)))
            have hfi' : decide (fd < (j : Int)) = true := decide_eq_true hfi
            clear hfi
            go_wp2_with fail
            refine HFW.out.mono ?_
            rintro e w9 ⟨rfl, hb9⟩
            have HX9 := Lib.hid (HX3.out.below hb9)
            clear hb9 HFW
            go_wp2_with fail
            go_ret
            rw [HF.out]
            exact ⟨rfl, HX9.out.all⟩
          have hfi' : decide (fd < (j : Int)) = false := decide_eq_false hfi
          have hfe : fd = (j : Int) := by
            have := HFL.out
            omega
          have HMN := Lib.hid (show mayK n (j + 1) = true by rw [HMS.out, hfe]; simp)
          clear hfi
          go_wp2_with fail
          refine HFW.out.mono ?_
          rintro e w9 ⟨rfl, hb9⟩
          have HX9 := Lib.hid (HX3.out.below hb9)
          have HN9 := Lib.hid (HN3.out.below hb9)
          have HO9 := Lib.hid (HO3.out.trans (hb9.mono HX3.out.all.size))
          clear hb9 HFW HX3 HN3 HO3 u0 u1 u2 u3 n0 n1 n2 n3 p0 p1 p2 p3 hfe
          go_wp2_with fail
          go_roundw
          case rel => exact ⟨j + 1, _, rfl, by omega, by omega, HMN.out, HX9.out, HN9.out, HO9.out⟩
          case measure => simp [intOf]; omega
        · obtain rfl : j = n.attrs.length := by omega
          have HNX := Lib.hid (HST.out HMJ.out)
          clear hbo hj
          go_wp2_with fail
          go_roundw
          case rel => exact ⟨k + 1, _, rfl, by omega, by omega, HNX.out, HX.out⟩
          case measure => simp [intOf]; omega
    obtain rfl : k = m.nodes.length := by omega
    have HA1 := Lib.hid (show m.nodes.all nodMay = true by have := HAL.out; rwa [List.take_length] at this)
    obtain ⟨x0, x1, x2, x3, x4⟩ := hbx.five
    have hal := (Below.refl wr.heap.size wr).alloc (Nat.le_refl _) (.cells #[.slice A1 m.inputs.length c1, .slice A2 m.outputs.length c2] 38)
    have HX2 := Lib.hid (HX.out.below hal)
    have HL2 := Lib.hid (HX.out.next #[.slice A1 m.inputs.length c1, .slice A2 m.outputs.length c2] 38)
    clear hlt hk HAL hal hbx
    go_wp2_with fail
    obtain ⟨gl, hgl⟩ : ∃ gl, gl = wr.heap.size := ⟨_, rfl⟩
    rw [← hgl] at HL2
    rw [← hgl]
    clear x0 x1 x2 x3 x4 HX
    go_loopw [83] (fun i wr => ∃ (k : Nat) (K : Int), i = .int .i64 K ∧ K = (k : Nat) ∧ twoB m k ∧ Bx w w.heap.size #[.int .i64 m.opset, .slice A1 m.inputs.length c1, .slice A2 m.outputs.length c2, .slice A3 m.inits.length c3, .slice A4 m.nodes.length c4] 42 wr ∧ Bx w gl #[.slice A1 m.inputs.length c1, .slice A2 m.outputs.length c2] 38 wr) (fun i _ => 2 - (intOf i).toNat)
    case atStart => exact ⟨0, _, rfl, rfl, .inl rfl, HX2.out, HL2.out⟩
    case round =>
      clear HX2 HL2 hgl
      obtain ⟨k, K, rfl, rfl, htb, hbx, hbl⟩ := hrel
      have HX := Lib.hid hbx
      have HL := Lib.hid hbl
      by_cases hk2 : k < 2
      · obtain ⟨L, Ax, cx, hcell, hdr, hlen, hno, hyes⟩ : ∃ (L : List Inf) (Ax : Option Addr) (cx : Nat), wr.cell? ⟨gl, k, none⟩ = some (.slice Ax L.length cx) ∧ DR InfAt wr w.heap.size 3 Ax L ∧ L.length * 48 ≤ 140737488351232 ∧ (L.all infMay = false → backM m = false) ∧ (L.all infMay = true → twoB m (k + 1)) := by
          rcases htb with rfl | ⟨rfl, h1⟩ | ⟨rfl, _⟩
          · exact ⟨m.inputs, A1, c1, hbl.cell 0, HM.out.inputs.below ek_inf hbx.all, by omega, back_in, fun h => .inr (.inl ⟨rfl, h⟩)⟩
          · exact ⟨m.outputs, A2, c2, hbl.cell 1, HM.out.outputs.below ek_inf hbx.all, by omega, back_out, fun h => .inr (.inr ⟨rfl, h1, h⟩)⟩
          · omega
        have HNO := Lib.hid hno
        have HYES := Lib.hid hyes
        have HDR := Lib.hid hdr
        have hk2' : (k : Int) < 2 := by omega
        clear htb hbx hbl hno hyes hdr
        go_wp2_with fail
        clear hcell
        obtain ⟨wo, rfl⟩ : ∃ wo : World, wo = wr := ⟨_, rfl⟩
        have HB2 := Lib.hid (Below.refl w.heap.size wo)
        go_loopw [89] (fun i wr => ∃ (j : Nat) (J : Int), i = .int .i64 J ∧ J = (j : Nat) ∧ j ≤ L.length ∧ (L.take j).all infMay = true ∧ Bx w w.heap.size #[.int .i64 m.opset, .slice A1 m.inputs.length c1, .slice A2 m.outputs.length c2, .slice A3 m.inits.length c3, .slice A4 m.nodes.length c4] 42 wr ∧ Bx w gl #[.slice A1 m.inputs.length c1, .slice A2 m.outputs.length c2] 38 wr ∧ Below w.heap.size wo wr) (fun i _ => L.length - (intOf i).toNat)
        case atStart => exact ⟨0, _, rfl, rfl, by omega, rfl, HX.out, HL.out, HB2.out⟩
        case round =>
          clear HX HL HB2
          obtain ⟨j, J, rfl, rfl, hj, hal2, hbx, hbl, hbo⟩ := hrel
          have HX := Lib.hid hbx
          have HL := Lib.hid hbl
          have HO := Lib.hid hbo
          have HAL := Lib.hid hal2
          clear hal2 hbl hbx
          by_cases hlj : j < L.length
          · obtain ⟨bb, oo, cs, hAx, hbb, hp, hcx⟩ := (HDR.out.below ek_inf hbo).at_ ek_inf hlj
            subst hAx
            have HFN := Lib.hid (fun (h : infMay L[j] = false) => HNO.out (all_one hlj h))
            have HST := Lib.hid (all_step (p := infMay) hlj HAL.out)
            have hns : L[j].name.size ≤ maxLen := by obtain ⟨_, _, _, _, ok⟩ := hp; have := ok.name; unfold maxLen; omega
            obtain ⟨V1, f1, rfl⟩ := InfAt.shape hp
            clear hp hbo
            generalize L[j] = u at *
            have p0 := hcx 0 _ rfl
            have p1 := hcx 1 _ rfl
            have p2 := hcx 2 _ rfl
            simp only [Nat.add_zero] at p0
            clear hcx
            have hal := (Below.refl wr.heap.size wr).alloc (Nat.le_refl _) (.cells #[.string u.name, .int .i64 u.kind, .slice V1 u.dims.length f1] 89)
            have HX3 := Lib.hid (HX.out.below hal)
            have HL3 := Lib.hid (HL.out.below hal)
            have HO3 := Lib.hid (HO.out.trans (hal.mono HX.out.all.size))
            have HU3 := Lib.hid (HX.out.next #[.string u.name, .int .i64 u.kind, .slice V1 u.dims.length f1] 89)
            obtain ⟨u0, u1, u2⟩ := HU3.out.three
            clear hal HX HL HO
            go_wp2_with fail
            refine (rname_any u.name _ hns).mono ?_
            rintro e w8 ⟨rfl, rfl⟩
            cases hnm : nm u.name
            · have HF := Lib.hid (HFN.out (show infMay u = false by unfold infMay; rw [hnm]; rfl))
              go_wp2_with fail
              go_ret
              rw [HF.out]
              exact ⟨rfl, HX3.out.all⟩
            by_cases hks : kSize u.kind = 0
            · have HF := Lib.hid (HFN.out (show infMay u = false by unfold infMay; simp [hks]))
              have hkb : (kSize u.kind == 0) = true := by rw [hks]; rfl
              clear hks
              go_wp2_with fail
              refine (refSize_any u.kind _).mono ?_
              rintro e w9 ⟨rfl, rfl⟩
              go_wp2_with fail
              go_ret
              rw [HF.out]
              exact ⟨rfl, HX3.out.all⟩
            have hkb : (kSize u.kind == 0) = false := by rw [beq_eq_false_iff_ne]; exact hks
            have HNX := Lib.hid (HST.out (show infMay u = true by unfold infMay; rw [hnm]; simp [hks]))
            clear hks
            go_wp2_with fail
            refine (refSize_any u.kind _).mono ?_
            rintro e w9 ⟨rfl, rfl⟩
            go_wp2_with fail
            go_roundw
            case rel => exact ⟨j + 1, _, rfl, by omega, by omega, HNX.out, HX3.out, HL3.out, HO3.out⟩
            case measure => simp [intOf]; omega
          · obtain rfl : j = L.length := by omega
            have HNX := Lib.hid (HYES.out (by have := HAL.out; rwa [List.take_length] at this))
            clear hbo hj
            go_wp2_with fail
            go_roundw
            case rel => exact ⟨k + 1, _, rfl, by omega, HNX.out, HX.out, HL.out⟩
            case measure => simp [intOf]; omega
      have htb2 : k = 2 ∧ m.inputs.all infMay = true ∧ m.outputs.all infMay = true := by
        rcases htb with rfl | ⟨rfl, _⟩ | h
        · omega
        · omega
        · exact h
      obtain ⟨rfl, h1, h2⟩ := htb2
      have HF := Lib.hid (back_yes HLO.out HA1.out h1 h2)
      clear htb hbx hbl hk2 h1 h2
      go_wp2_with fail
      go_ret
      rw [HF.out]
      exact ⟨rfl, HX.out.all⟩
end Go.Proofs.YtjjfdlgoacockaaGreat
