/- The walks of made at whole numbers, flags and complex numbers, each out of one text (wip/tools/gen7b.py). -/
import Derived.Test.YtiniicehfjgpgaaGreatGRefTwo
import Derived.Test.YtiniicehfjgpgaaGreatTPut
import Derived.Test.YtiniicehfjgpgaaGreatTClone
import Derived.Test.YtiniicehfjgpgaaGreatBuildTwo
import Derived.Test.YtiniicehfjgpgaaGreatKSize
namespace Go.Proofs.YtiniicehfjgpgaaGreat
open Go.RowKit M6 M7

/-- the bytes of elements, one behind the other -/
def flat {α : Type} (f : α → List UInt8) (s : Nat) (xs : List α) : List UInt8 := xs.flatMap fun x => (f x).take s
theorem flat_snoc {α : Type} (f : α → List UInt8) (s : Nat) {xs : List α} {k : Nat} (h : k < xs.length) : flat f s (xs.take (k + 1)) = flat f s (xs.take k) ++ (f xs[k]).take s := by
  unfold flat
  rw [List.take_succ_eq_append_getElem h, List.flatMap_append]
  simp
theorem flat_len {α : Type} (f : α → List UInt8) (s : Nat) : ∀ {xs : List α}, (∀ x ∈ xs, (f x).length = 8) → s ≤ 8 → (flat f s xs).length = xs.length * s
  | [], _, _ => by simp [flat]
  | x :: l, h, hs => by
    have ih := flat_len f s (xs := l) (fun y hy => h y (List.mem_cons_of_mem _ hy)) hs
    have hx := h x (List.mem_cons_self)
    unfold flat at *
    rw [List.flatMap_cons, List.length_append, ih, List.length_take, hx, List.length_cons, Nat.min_eq_left hs, Nat.succ_mul]
    omega
/-- a row of the call's own stays where four cells of another block are written -/
theorem own_far_set {w : World} {B size n b : Nat} {e : TypeId} {v : Value} {xs : List Value} (h : w.ownsRow B e size v n xs) (hb : v.ownBlock ≠ some b) (v0 v1 v2 v3 : Value) :
    ((((w.setCell ⟨b, 0, none⟩ v0).setCell ⟨b, 1, none⟩ v1).setCell ⟨b, 2, none⟩ v2).setCell ⟨b, 3, none⟩ v3).ownsRow B e size v n xs := by
  have key : ∀ {W : World}, W.ownsRow B e size v n xs → ∀ i u, (W.setCell ⟨b, i, none⟩ u).ownsRow B e size v n xs := fun h i u =>
    h.kept (row := some b) ⟨rfl, rfl, rfl, by simp [World.setCell], fun k _ hk => Below.heap_setCell _ _ _ _ (fun e => hk (by simp [e]))⟩ (Or.inr hb)
  exact key (key (key (key h 0 v0) 1 v1) 2 v2) 3 v3
/-- the zero tensor -/
abbrev zt : Array Value := #[.string ⟨#[]⟩, .int .i64 0, .slice none 0 0, .string ⟨#[]⟩]
theorem take_cells {W : World} {g : Nat} {T : TypeId} {l : List UInt8} {s : Nat} (h : W.heap[g]? = some (.cells (bv l).toArray T (0, 0))) : ∀ j u, (bv (l.take s))[j]? = some u → W.cell? ((⟨g, 0, none⟩ : Addr).add j) = some u := by
  intro j u hj
  rw [Addr.add_mid, cell_of_row _ _ _ _ _ _ h]
  have e : bv (l.take s) = (bv l).take s := by simp [bv, List.map_take]
  rw [e, List.getElem?_take] at hj
  split at hj
  · simpa using hj
  · cases hj

set_option maxRecDepth 100000 in
set_option maxHeartbeats 2000000 in
theorem madeInt_any (nme : ByteArray) (A : Option Addr) (c : Nat) (dims : List Int) (B : Option Addr) (d : Nat) (xs : List (Int)) (f : Int → List UInt8) (w : World) (hdl : dims.length ≤ 1000000) (hxl : xs.length ≤ 1000000)
    (hd : SR w w.heap.size 1 A dims.length (iv dims)) (hx : SR w w.heap.size 1 B xs.length (xs.map fun p => Value.int .i64 p))
    (hf : ∀ p ∈ xs, (f p).length = 8 ∧ ∀ W : World, Calls Tryz.prog 94 #[Value.int .i64 p] W fun e w' => e = .returned (av (f p)) ∧ Below W.heap.size W w') :
    Calls Tryz.prog 93 #[.string nme, .int .i64 7, .slice A dims.length c, .func (.func 94) #[] #[], .slice B xs.length d] w fun e w' =>
      ∃ v, e = .returned (t_tv nme 7 v ⟨(flat f 8 xs).toArray⟩) ∧ w'.ownsRow w.heap.size 2 1 v dims.length (iv dims) ∧ Below w.heap.size w w' := by
  have HD := Lib.hid hd
  have HX := Lib.hid hx
  have HF := Lib.hid hf
  have HBX := Lib.hid (Bx.start w zt 98)
  clear hd hx hf
  go_enter Tryz.func93, Tryz.ntmps93
  go_wp2_with fail
  refine (k_size_any 7 _ (by decide)).mono ?_
  rintro e w1 ⟨rfl, hb1⟩
  rw [show kSize 7 = 8 by decide]
  have H1 := Lib.hid (HBX.out.below hb1)
  clear hb1 HBX
  go_wp2_with fail
  have hbk0 := heap_alloc_new w1 (.cells #[.pointer none, .slice none 0 0] 102)
  have hz1 : (w1.alloc (.cells #[.pointer none, .slice none 0 0] 102)).heap.size = w1.heap.size + 1 := by simp
  have hG : Calls Tryz.prog 84 #[.pointer (some ⟨w1.heap.size, 0, none⟩), .int .i64 ((xs.length : Int) * 8)] (w1.alloc (.cells #[.pointer none, .slice none 0 0] 102)) fun e w' => e = .returned (.tuple #[]) ∧ BuildG w1.heap.size w1.heap.size [] w' ∧ Below w1.heap.size (w1.alloc (.cells #[.pointer none, .slice none 0 0] 102)) w' := by
    rw [show ((xs.length : Int) * 8 : Int) = ((xs.length * 8 : Nat) : Int) by omega]
    exact buildGrow_any _ _ _ _ (Nat.le_refl _) hbk0 (by omega) (by omega)
  have HG := Lib.hid hG
  have HB0 : Hid (Below w1.heap.size w1 (w1.alloc (.cells #[.pointer none, .slice none 0 0] 102))) := Lib.hid ((Below.refl _ _).alloc (Nat.le_refl _) _)
  clear hG hbk0 hz1
  go_wp2_with fail
  refine HG.out.mono ?_
  rintro e w2 ⟨rfl, hbg, hb2⟩
  have H2 := Lib.hid (H1.out.below (HB0.out.trans hb2))
  have HBG := Lib.hid hbg
  have HW := Lib.hid H1.out.2.1
  have HWW := Lib.hid H1.out.2.2.size
  have HS2 := Lib.hid (HB0.out.trans hb2).size
  clear hbg hb2 HB0 HG
  generalize hgg : w1.heap.size = g at *
  have HGG := Lib.hid hgg
  clear hgg
  go_wp2_with fail
  go_loopw [13, 24] (fun _ i wr => ∃ (k : Nat) (K : Int), i = .int .i64 K ∧ K = (k : Nat) ∧ k ≤ xs.length ∧ BuildG g g (flat f 8 (xs.take k)) wr ∧ Bx w w.heap.size zt 98 wr ∧ g ≤ wr.heap.size) (fun _ i _ => xs.length - (intOf i).toNat)
  case atStart => exact ⟨0, _, rfl, rfl, by omega, HBG.out, H2.out, HS2.out⟩
  case round =>
    obtain ⟨k, K, rfl, rfl, hk, hbg, hbx, hgw⟩ := hrel
    have HB := Lib.hid hbx
    have HK := Lib.hid hbg
    by_cases hlt : k < xs.length
    · obtain ⟨b1, o1, rfl, hb1, x0⟩ := cell_at (HX.out.below hbx.all) hlt (u := (fun p => Value.int .i64 p) xs[k]) (by rw [List.getElem?_map, List.getElem?_eq_getElem hlt]; rfl)
      obtain ⟨hfl, hfc⟩ := HF.out xs[k] (List.getElem_mem hlt)
      have HFC := Lib.hid hfc
      have hlen : (flat f 8 (xs.take k)).length ≤ 8000000 := by
        rw [flat_len f 8 (fun x hx => (HF.out x (List.mem_of_mem_take hx)).1) (by omega), List.length_take]
        omega
      have hsn := flat_snoc f 8 hlt
      have hcut : ((f xs[k]).take 8).length = 8 := by rw [List.length_take, hfl]; rfl
      have HSN := Lib.hid hsn
      clear hfc hbx hbg hsn
      generalize xs[k] = x at *
      dsimp only at x0
      generalize hF : f x = F at *
      obtain ⟨y0, y1, y2, y3, y4, y5, y6, y7, rfl⟩ := eight_of hfl
      have HFF := Lib.hid hF
      clear hF hfl
      go_wp2_with fail
      refine (HFC.out _).mono ?_
      rintro e w4 ⟨rfl, hb4⟩
      have HB4 := Lib.hid (HB.out.below hb4)
      have HK4 := Lib.hid (HK.out.keep hb4)
      have hz4 := hb4.size
      unfold av
      clear hb4 x0 HB HK HFC
      have hblk := heap_alloc_new w4 (.cells (bv [y0, y1, y2, y3, y4, y5, y6, y7]).toArray 182)
      have HWR := Lib.hid (buildWrite_any g g _ ([y0, y1, y2, y3, y4, y5, y6, y7].take 8) ⟨w4.heap.size, 0, none⟩ 8 _ (HK4.out.keep ((Below.refl w4.heap.size w4).alloc (Nat.le_refl _) (.cells (bv [y0, y1, y2, y3, y4, y5, y6, y7]).toArray 182))) (take_cells hblk) (by omega) (by simp; omega))
      rw [hcut] at HWR
      have HBA := Lib.hid (HB4.out.more (.cells (bv [y0, y1, y2, y3, y4, y5, y6, y7]).toArray 182))
      have HZA : Hid ((w4.alloc (.cells (bv [y0, y1, y2, y3, y4, y5, y6, y7]).toArray 182)).heap.size = w4.heap.size + 1) := Lib.hid (by simp)
      simp only [bv, List.map_cons, List.map_nil] at *
      clear hblk hlen hcut HK4 HB4
      go_wp2_with fail
      refine HWR.out.mono ?_
      rintro e w5 ⟨rfl, hg5, hb5⟩
      have HB5 := Lib.hid (HBA.out.low hb5 HW.out HWW.out)
      rw [← HSN.out] at hg5
      have HG5 := Lib.hid hg5
      have hz5 := hb5.size
      rw [HZA.out] at hz5
      clear hg5 hb5 HBA HSN HFF HWR HZA
      go_wp2_with fail
      go_roundw
      case rel => exact ⟨k + 1, _, rfl, by omega, by omega, HG5.out, HB5.out, by omega⟩
      case measure => simp [intOf]; omega
    · obtain rfl : k = xs.length := by omega
      rw [List.take_length] at HK
      have HDR := Lib.hid ((HD.out.below hbx.all).more hbx.all.size)
      clear hbx hbg
      go_wp2_with fail
      refine (clone_any A c dims _ hdl HDR.out).mono ?_
      rintro e w6 ⟨v, rfl, hown, hb6⟩
      obtain ⟨va, vc, rfl, -, -⟩ := own_form hown
      have HB6 := Lib.hid (HB.out.below hb6)
      have HK6 := Lib.hid (HK.out.keep hb6)
      have HO6 := Lib.hid (own_base hown HB.out.all.size)
      have hg6 := hb6.size
      clear hown hb6 HB HK
      go_wp2_with fail
      refine (stringRead_any g g _ _ HK6.out).mono ?_
      rintro e w7 ⟨rfl, hrd⟩
      have HB7 := Lib.hid (HB6.out.low (hrd.below (by omega)) HW.out HWW.out)
      have HO7 := Lib.hid (hrd.own HO6.out (by decide))
      clear hrd HB6 HO6 HK6
      have hblk' := set4 HB7.out.1 (.string nme) (.int .i64 7) (.slice va dims.length vc) (.string ⟨(flat f 8 xs).toArray⟩)
      have hk4 := cells_of4 hblk'
      have hbb := (((HB7.out.all.setCell (p := ⟨w.heap.size, 0, none⟩) (Nat.le_refl _) (.string nme)).setCell (p := ⟨w.heap.size, 1, none⟩) (Nat.le_refl _) (.int .i64 7)).setCell (p := ⟨w.heap.size, 2, none⟩) (Nat.le_refl _) (.slice va dims.length vc)).setCell (p := ⟨w.heap.size, 3, none⟩) (Nat.le_refl _) (.string ⟨(flat f 8 xs).toArray⟩)
      have hbo : (Value.slice va dims.length vc).ownBlock ≠ some w.heap.size := own_far HO7.out HB7.out.1 (by decide)
      have hko := own_far_set HO7.out hbo (.string nme) (.int .i64 7) (.slice va dims.length vc) (.string ⟨(flat f 8 xs).toArray⟩)
      have HKK := Lib.hid (And.intro hk4 (And.intro hbb hko))
      obtain ⟨c0, c1, c2, c3⟩ := HB7.out.four
      have f0 := fun i => frozen_of_row w7 w.heap.size i _ _ HB7.out.1
      clear hblk' hk4 hbb hbo hko
      go_wp2_with fail
      clear c0 c1 c2 c3 f0
      obtain ⟨⟨c0, c1, c2, c3⟩, hbb, hko⟩ := HKK.out
      clear HKK
      generalize (((w7.setCell ⟨w.heap.size, 0, none⟩ (.string nme)).setCell ⟨w.heap.size, 1, none⟩ (.int .i64 7)).setCell ⟨w.heap.size, 2, none⟩ (.slice va dims.length vc)).setCell ⟨w.heap.size, 3, none⟩ (.string ⟨(flat f 8 xs).toArray⟩) = w8 at *
      exact bodyPost_ret (v := t_tv nme 7 (.slice va dims.length vc) ⟨(flat f 8 xs).toArray⟩) (by simp [results, Tryz.results93, go_sem, c0, c1, c2, c3]) rfl ⟨_, rfl, hko, hbb⟩

end Go.Proofs.YtiniicehfjgpgaaGreat
/- The walks of OfInts, OfFlags, OfNums, each out of one text (wip/tools/gen7c.py). -/
namespace Go.Proofs.YtiniicehfjgpgaaGreat
open Go.RowKit M6 M7


set_option maxRecDepth 100000 in
set_option maxHeartbeats 1000000 in
theorem ofInt_any (nme : ByteArray) (A : Option Addr) (c : Nat) (dims : List Int) (B : Option Addr) (d : Nat) (xs : List (Int)) (f : Int → List UInt8) (w : World) (hdl : dims.length ≤ 1000000) (hxl : xs.length ≤ 1000000)
    (hd : SR w w.heap.size 1 A dims.length (iv dims)) (hx : SR w w.heap.size 1 B xs.length (xs.map fun p => Value.int .i64 p))
    (hf : ∀ p ∈ xs, (f p).length = 8 ∧ ∀ W : World, Calls Tryz.prog 94 #[Value.int .i64 p] W fun e w' => e = .returned (av (f p)) ∧ Below W.heap.size W w') :
    Calls Tryz.prog 75 #[.string nme, .slice A dims.length c, .slice B xs.length d] w fun e w' =>
      ∃ v, e = .returned (t_tv nme 7 v ⟨(flat f 8 xs).toArray⟩) ∧ w'.ownsRow w.heap.size 2 1 v dims.length (iv dims) ∧ Below w.heap.size w w' := by
  have HBX := Lib.hid (Bx.start w zt 98)
  have HM := Lib.hid (madeInt_any nme A c dims B d xs f _ hdl hxl ((hd.below HBX.out.all).more HBX.out.all.size) ((hx.below HBX.out.all).more HBX.out.all.size) hf)
  clear hd hx hf hdl hxl
  go_enter Tryz.func75, Tryz.ntmps75
  go_wp2_with fail
  refine HM.out.mono ?_
  rintro e w7 ⟨v, rfl, hown, hb⟩
  obtain ⟨va, vc, rfl, -, -⟩ := own_form hown
  have HB7 := Lib.hid (HBX.out.below hb)
  have HO7 := Lib.hid (own_base hown HBX.out.all.size)
  clear hown hb HBX HM
  have hblk' := set4 HB7.out.1 (.string nme) (.int .i64 7) (.slice va dims.length vc) (.string ⟨(flat f 8 xs).toArray⟩)
  have hk4 := cells_of4 hblk'
  have hbb := (((HB7.out.all.setCell (p := ⟨w.heap.size, 0, none⟩) (Nat.le_refl _) (.string nme)).setCell (p := ⟨w.heap.size, 1, none⟩) (Nat.le_refl _) (.int .i64 7)).setCell (p := ⟨w.heap.size, 2, none⟩) (Nat.le_refl _) (.slice va dims.length vc)).setCell (p := ⟨w.heap.size, 3, none⟩) (Nat.le_refl _) (.string ⟨(flat f 8 xs).toArray⟩)
  have hbo : (Value.slice va dims.length vc).ownBlock ≠ some w.heap.size := own_far HO7.out HB7.out.1 (by decide)
  have hko := own_far_set HO7.out hbo (.string nme) (.int .i64 7) (.slice va dims.length vc) (.string ⟨(flat f 8 xs).toArray⟩)
  have HKK := Lib.hid (And.intro hk4 (And.intro hbb hko))
  obtain ⟨c0, c1, c2, c3⟩ := HB7.out.four
  have f0 := fun i => frozen_of_row w7 w.heap.size i _ _ HB7.out.1
  clear hblk' hk4 hbb hbo hko
  go_wp2_with fail
  clear c0 c1 c2 c3 f0
  obtain ⟨⟨c0, c1, c2, c3⟩, hbb, hko⟩ := HKK.out
  clear HKK
  generalize (((w7.setCell ⟨w.heap.size, 0, none⟩ (.string nme)).setCell ⟨w.heap.size, 1, none⟩ (.int .i64 7)).setCell ⟨w.heap.size, 2, none⟩ (.slice va dims.length vc)).setCell ⟨w.heap.size, 3, none⟩ (.string ⟨(flat f 8 xs).toArray⟩) = w8 at *
  exact bodyPost_ret (v := t_tv nme 7 (.slice va dims.length vc) ⟨(flat f 8 xs).toArray⟩) (by simp [results, Tryz.results75, go_sem, c0, c1, c2, c3]) rfl ⟨_, rfl, hko, hbb⟩

end Go.Proofs.YtiniicehfjgpgaaGreat
