import Derived.Test.YtjjfdlgoacockaaGreatGRefTwo
import Derived.Test.YtjjfdlgoacockaaGreatTPut
import Derived.Test.YtjjfdlgoacockaaGreatAppend
import Derived.Test.YtjjfdlgoacockaaGreatBuild
import Derived.Test.YtjjfdlgoacockaaGreatLift
import Derived.Lib.Bytealg
import Derived.Test.YtjjfdlgoacockaaGreatMath
import Derived.Maps.OwnSet
import Derived.Maps.StringElems
import Derived.Sort.KeysCollected
import Derived.Test.YtjjfdlgoacockaaGreatWOpen
namespace Go.Proofs.YtjjfdlgoacockaaGreat
open Go.RowKit M6 M7

def flat {α : Type} (f : α → List UInt8) (s : Nat) (xs : List α) : List UInt8 := xs.flatMap fun x => (f x).take s
theorem flat_snoc {α : Type} (f : α → List UInt8) (s : Nat) {xs : List α} {k : Nat} (h : k < xs.length) : flat f s (xs.take (k + 1)) = flat f s (xs.take k) ++ (f xs[k]).take s := by
  unfold flat
  rw [List.take_succ_eq_append_getElem h, List.flatMap_append]
  simp
theorem flat_len {α : Type} (f : α → List UInt8) (s : Nat) : ∀ {xs : List α}, (∀ x ∈ xs, (f x).length = 8) → s ≤ 8 → (flat f s xs).length = xs.length * s
  | [], _, _ => by simp [flat]
  | x :: l, h, hs => by
    have ih := flat_len f s (xs := l) (fun y hy => h y (List.mem_cons_of_mem _ hy)) hs
    have hx := h x (List.mem_cons_self)
    unfold flat at *
    rw [List.flatMap_cons, List.length_append, ih, List.length_take, hx, List.length_cons, Nat.min_eq_left hs, Nat.succ_mul]
    omega
theorem own_far_set {w : World} {B size n b : Nat} {e : TypeId} {v : Value} {xs : List Value} (h : w.ownsRow B e size v n xs) (hb : v.ownBlock ≠ some b) (v0 v1 v2 v3 : Value) :
    ((((w.setCell ⟨b, 0, none⟩ v0).setCell ⟨b, 1, none⟩ v1).setCell ⟨b, 2, none⟩ v2).setCell ⟨b, 3, none⟩ v3).ownsRow B e size v n xs := by
  have key : ∀ {W : World}, W.ownsRow B e size v n xs → ∀ i u, (W.setCell ⟨b, i, none⟩ u).ownsRow B e size v n xs := fun h i u =>
    h.kept (row := some b) ⟨rfl, rfl, rfl, by simp [World.setCell], fun k _ hk => Below.heap_setCell _ _ _ _ (fun e => hk (by simp [e]))⟩ (Or.inr hb)
  exact key (key (key (key h 0 v0) 1 v1) 2 v2) 3 v3
abbrev zt : Array Value := #[.string ⟨#[]⟩, .int .i64 0, .slice none 0 0, .string ⟨#[]⟩]
theorem take_cells {W : World} {g : Nat} {T : TypeId} {l : List UInt8} {s : Nat} (h : W.heap[g]? = some (.cells (bv l).toArray T (0, 0))) : ∀ j u, (bv (l.take s))[j]? = some u → W.cell? ((⟨g, 0, none⟩ : Addr).add j) = some u := by
  intro j u hj
  rw [Addr.add_mid, cell_of_row _ _ _ _ _ _ h]
  have e : bv (l.take s) = (bv l).take s := by simp [bv, List.map_take]
  rw [e, List.getElem?_take] at hj
  split at hj
  · simpa using hj
  · cases hj

set_option maxRecDepth 100000 in
set_option maxHeartbeats 2000000 in
theorem madeInt_any (nme : ByteArray) (A : Option Addr) (c : Nat) (dims : List Int) (B : Option Addr) (d : Nat) (xs : List (Int)) (f : Int → List UInt8) (w : World) (hdl : dims.length ≤ 1000000) (hxl : xs.length ≤ 1000000)
    (hd : SR w w.heap.size 1 A dims.length (iv dims)) (hx : SR w w.heap.size 1 B xs.length (xs.map fun p => Value.int .i64 p))
    (hf : ∀ p ∈ xs, (f p).length = 8 ∧ ∀ W : World, Calls Tryz.prog 100 #[Value.int .i64 p] W fun e w' => e = .returned (av (f p)) ∧ Below W.heap.size W w') :
    Calls Tryz.prog 99 #[.string nme, .int .i64 7, .slice A dims.length c, .func (.func 100) #[] #[], .slice B xs.length d] w fun e w' =>
      ∃ v, e = .returned (t_tv nme 7 v ⟨(flat f 8 xs).toArray⟩) ∧ w'.ownsRow w.heap.size 2 1 v dims.length (iv dims) ∧ Below w.heap.size w w' := by
  have HD := Lib.hid hd
  have HX := Lib.hid hx
  have HF := Lib.hid hf
  have HBX := Lib.hid (Bx.start w zt 98)
  clear hd hx hf
  go_enter Tryz.func99, Tryz.ntmps99
  go_wp2_with fail
  refine (k_size_any 7 _ (by decide)).mono ?_
  rintro e w1 ⟨rfl, hb1⟩
  rw [show kSize 7 = 8 by decide]
  have H1 := Lib.hid (HBX.out.below hb1)
  clear hb1 HBX
  go_wp2_with fail
  have hbk0 := heap_alloc_new w1 (.cells #[.pointer none, .slice none 0 0] 115)
  have hz1 : (w1.alloc (.cells #[.pointer none, .slice none 0 0] 115)).heap.size = w1.heap.size + 1 := by simp
  have hG : Calls Tryz.prog 76 #[.pointer (some ⟨w1.heap.size, 0, none⟩), .int .i64 ((xs.length : Int) * 8)] (w1.alloc (.cells #[.pointer none, .slice none 0 0] 115)) fun e w' => e = .returned (.tuple #[]) ∧ BuildG w1.heap.size w1.heap.size [] w' ∧ Below w1.heap.size (w1.alloc (.cells #[.pointer none, .slice none 0 0] 115)) w' := by
    rw [show ((xs.length : Int) * 8 : Int) = ((xs.length * 8 : Nat) : Int) by omega]
    exact buildGrow_any _ _ _ _ (Nat.le_refl _) hbk0 (by omega) (by omega)
  have HG := Lib.hid hG
  have HB0 : Hid (Below w1.heap.size w1 (w1.alloc (.cells #[.pointer none, .slice none 0 0] 115))) := Lib.hid ((Below.refl _ _).alloc (Nat.le_refl _) _)
  clear hG hbk0 hz1
  go_wp2_with fail
  refine HG.out.mono ?_
  rintro e w2 ⟨rfl, hbg, hb2⟩
  have H2 := Lib.hid (H1.out.below (HB0.out.trans hb2))
  have HBG := Lib.hid hbg
  have HW := Lib.hid H1.out.2.1
  have HWW := Lib.hid H1.out.2.2.size
  have HS2 := Lib.hid (HB0.out.trans hb2).size
  clear hbg hb2 HB0 HG
  generalize hgg : w1.heap.size = g at *
  have HGG := Lib.hid hgg
  clear hgg
  go_wp2_with fail
  go_loopw [13, 24] (fun _ i wr => ∃ (k : Nat) (K : Int), i = .int .i64 K ∧ K = (k : Nat) ∧ k ≤ xs.length ∧ BuildG g g (flat f 8 (xs.take k)) wr ∧ Bx w w.heap.size zt 98 wr ∧ g ≤ wr.heap.size) (fun _ i _ => xs.length - (intOf i).toNat)
  case atStart => exact ⟨0, _, rfl, rfl, by omega, HBG.out, H2.out, HS2.out⟩
  case round =>
    obtain ⟨k, K, rfl, rfl, hk, hbg, hbx, hgw⟩ := hrel
    have HB := Lib.hid hbx
    have HK := Lib.hid hbg
    by_cases hlt : k < xs.length
    · obtain ⟨b1, o1, rfl, hb1, x0⟩ := cell_at (HX.out.below hbx.all) hlt (u := (fun p => Value.int .i64 p) xs[k]) (by rw [List.getElem?_map, List.getElem?_eq_getElem hlt]; rfl)
      obtain ⟨hfl, hfc⟩ := HF.out xs[k] (List.getElem_mem hlt)
      have HFC := Lib.hid hfc
      have hlen : (flat f 8 (xs.take k)).length ≤ 8000000 := by
        rw [flat_len f 8 (fun x hx => (HF.out x (List.mem_of_mem_take hx)).1) (by omega), List.length_take]
        omega
      have hsn := flat_snoc f 8 hlt
      have hcut : ((f xs[k]).take 8).length = 8 := by rw [List.length_take, hfl]; rfl
      have HSN := Lib.hid hsn
      clear hfc hbx hbg hsn
      generalize xs[k] = x at *
      dsimp only at x0
      generalize hF : f x = F at *
      obtain ⟨y0, y1, y2, y3, y4, y5, y6, y7, rfl⟩ := eight_of hfl
      have HFF := Lib.hid hF
      clear hF hfl
      go_wp2_with fail
      refine (HFC.out _).mono ?_
      rintro e w4 ⟨rfl, hb4⟩
      have HB4 := Lib.hid (HB.out.below hb4)
      have HK4 := Lib.hid (HK.out.keep hb4)
      have hz4 := hb4.size
      unfold av
      clear hb4 x0 HB HK HFC
      have hblk := heap_alloc_new w4 (.cells (bv [y0, y1, y2, y3, y4, y5, y6, y7]).toArray 243)
      have HWR := Lib.hid (buildWrite_any g g _ ([y0, y1, y2, y3, y4, y5, y6, y7].take 8) ⟨w4.heap.size, 0, none⟩ 8 _ (HK4.out.keep ((Below.refl w4.heap.size w4).alloc (Nat.le_refl _) (.cells (bv [y0, y1, y2, y3, y4, y5, y6, y7]).toArray 243))) (take_cells hblk) (by omega) (by simp; omega))
      rw [hcut] at HWR
      have HBA := Lib.hid (HB4.out.more (.cells (bv [y0, y1, y2, y3, y4, y5, y6, y7]).toArray 243))
      have HZA : Hid ((w4.alloc (.cells (bv [y0, y1, y2, y3, y4, y5, y6, y7]).toArray 243)).heap.size = w4.heap.size + 1) := Lib.hid (by simp)
      simp only [bv, List.map_cons, List.map_nil] at *
      clear hblk hlen hcut HK4 HB4
      go_wp2_with fail
      refine HWR.out.mono ?_
      rintro e w5 ⟨rfl, hg5, hb5⟩
      have HB5 := Lib.hid (HBA.out.low hb5 HW.out HWW.out)
      rw [← HSN.out] at hg5
      have HG5 := Lib.hid hg5
      have hz5 := hb5.size
      rw [HZA.out] at hz5
      clear hg5 hb5 HBA HSN HFF HWR HZA
      go_wp2_with fail
      go_roundw
      case rel => exact ⟨k + 1, _, rfl, by omega, by omega, HG5.out, HB5.out, by omega⟩
      case measure => simp [intOf]; omega
    · obtain rfl : k = xs.length := by omega
      rw [List.take_length] at HK
      have HDR := Lib.hid ((HD.out.below hbx.all).more hbx.all.size)
      clear hbx hbg
      go_wp2_with fail
      refine (clone_any A c dims _ hdl HDR.out).mono ?_
      rintro e w6 ⟨v, rfl, hown, hb6⟩
      obtain ⟨va, vc, rfl, -, -⟩ := own_form hown
      have HB6 := Lib.hid (HB.out.below hb6)
      have HK6 := Lib.hid (HK.out.keep hb6)
      have HO6 := Lib.hid (own_base hown HB.out.all.size)
      have hg6 := hb6.size
      clear hown hb6 HB HK
      go_wp2_with fail
      refine (stringRead_any g g _ _ HK6.out).mono ?_
      rintro e w7 ⟨rfl, hrd⟩
      have HB7 := Lib.hid (HB6.out.low (hrd.below (by omega)) HW.out HWW.out)
      have HO7 := Lib.hid (hrd.own HO6.out (by decide))
      clear hrd HB6 HO6 HK6
      have hblk' := set4 HB7.out.1 (.string nme) (.int .i64 7) (.slice va dims.length vc) (.string ⟨(flat f 8 xs).toArray⟩)
      have hk4 := cells_of4 hblk'
      have hbb := (((HB7.out.all.setCell (p := ⟨w.heap.size, 0, none⟩) (Nat.le_refl _) (.string nme)).setCell (p := ⟨w.heap.size, 1, none⟩) (Nat.le_refl _) (.int .i64 7)).setCell (p := ⟨w.heap.size, 2, none⟩) (Nat.le_refl _) (.slice va dims.length vc)).setCell (p := ⟨w.heap.size, 3, none⟩) (Nat.le_refl _) (.string ⟨(flat f 8 xs).toArray⟩)
      have hbo : (Value.slice va dims.length vc).ownBlock ≠ some w.heap.size := own_far HO7.out HB7.out.1 (by decide)
      have hko := own_far_set HO7.out hbo (.string nme) (.int .i64 7) (.slice va dims.length vc) (.string ⟨(flat f 8 xs).toArray⟩)
      have HKK := Lib.hid (And.intro hk4 (And.intro hbb hko))
      obtain ⟨c0, c1, c2, c3⟩ := HB7.out.four
      have f0 := fun i => frozen_of_row w7 w.heap.size i _ _ HB7.out.1
      clear hblk' hk4 hbb hbo hko
      go_wp2_with fail
      clear c0 c1 c2 c3 f0
      obtain ⟨⟨c0, c1, c2, c3⟩, hbb, hko⟩ := HKK.out
      clear HKK
      generalize (((w7.setCell ⟨w.heap.size, 0, none⟩ (.string nme)).setCell ⟨w.heap.size, 1, none⟩ (.int .i64 7)).setCell ⟨w.heap.size, 2, none⟩ (.slice va dims.length vc)).setCell ⟨w.heap.size, 3, none⟩ (.string ⟨(flat f 8 xs).toArray⟩) = w8 at *
      exact bodyPost_ret (v := t_tv nme 7 (.slice va dims.length vc) ⟨(flat f 8 xs).toArray⟩) (by simp [results, Tryz.results99, go_sem, c0, c1, c2, c3]) rfl ⟨_, rfl, hko, hbb⟩

end Go.Proofs.YtjjfdlgoacockaaGreat
namespace Go.Proofs.YtjjfdlgoacockaaGreat
open Go.RowKit M6 M7


set_option maxRecDepth 100000 in
set_option maxHeartbeats 1000000 in
theorem ofInt_any (nme : ByteArray) (A : Option Addr) (c : Nat) (dims : List Int) (B : Option Addr) (d : Nat) (xs : List (Int)) (f : Int → List UInt8) (w : World) (hdl : dims.length ≤ 1000000) (hxl : xs.length ≤ 1000000)
    (hd : SR w w.heap.size 1 A dims.length (iv dims)) (hx : SR w w.heap.size 1 B xs.length (xs.map fun p => Value.int .i64 p))
    (hf : ∀ p ∈ xs, (f p).length = 8 ∧ ∀ W : World, Calls Tryz.prog 100 #[Value.int .i64 p] W fun e w' => e = .returned (av (f p)) ∧ Below W.heap.size W w') :
    Calls Tryz.prog 58 #[.string nme, .slice A dims.length c, .slice B xs.length d] w fun e w' =>
      ∃ v, e = .returned (t_tv nme 7 v ⟨(flat f 8 xs).toArray⟩) ∧ w'.ownsRow w.heap.size 2 1 v dims.length (iv dims) ∧ Below w.heap.size w w' := by
  have HBX := Lib.hid (Bx.start w zt 98)
  have HM := Lib.hid (madeInt_any nme A c dims B d xs f _ hdl hxl ((hd.below HBX.out.all).more HBX.out.all.size) ((hx.below HBX.out.all).more HBX.out.all.size) hf)
  clear hd hx hf hdl hxl
  go_enter Tryz.func58, Tryz.ntmps58
  go_wp2_with fail
  refine HM.out.mono ?_
  rintro e w7 ⟨v, rfl, hown, hb⟩
  obtain ⟨va, vc, rfl, -, -⟩ := own_form hown
  have HB7 := Lib.hid (HBX.out.below hb)
  have HO7 := Lib.hid (own_base hown HBX.out.all.size)
  clear hown hb HBX HM
  have hblk' := set4 HB7.out.1 (.string nme) (.int .i64 7) (.slice va dims.length vc) (.string ⟨(flat f 8 xs).toArray⟩)
  have hk4 := cells_of4 hblk'
  have hbb := (((HB7.out.all.setCell (p := ⟨w.heap.size, 0, none⟩) (Nat.le_refl _) (.string nme)).setCell (p := ⟨w.heap.size, 1, none⟩) (Nat.le_refl _) (.int .i64 7)).setCell (p := ⟨w.heap.size, 2, none⟩) (Nat.le_refl _) (.slice va dims.length vc)).setCell (p := ⟨w.heap.size, 3, none⟩) (Nat.le_refl _) (.string ⟨(flat f 8 xs).toArray⟩)
  have hbo : (Value.slice va dims.length vc).ownBlock ≠ some w.heap.size := own_far HO7.out HB7.out.1 (by decide)
  have hko := own_far_set HO7.out hbo (.string nme) (.int .i64 7) (.slice va dims.length vc) (.string ⟨(flat f 8 xs).toArray⟩)
  have HKK := Lib.hid (And.intro hk4 (And.intro hbb hko))
  obtain ⟨c0, c1, c2, c3⟩ := HB7.out.four
  have f0 := fun i => frozen_of_row w7 w.heap.size i _ _ HB7.out.1
  clear hblk' hk4 hbb hbo hko
  go_wp2_with fail
  clear c0 c1 c2 c3 f0
  obtain ⟨⟨c0, c1, c2, c3⟩, hbb, hko⟩ := HKK.out
  clear HKK
  generalize (((w7.setCell ⟨w.heap.size, 0, none⟩ (.string nme)).setCell ⟨w.heap.size, 1, none⟩ (.int .i64 7)).setCell ⟨w.heap.size, 2, none⟩ (.slice va dims.length vc)).setCell ⟨w.heap.size, 3, none⟩ (.string ⟨(flat f 8 xs).toArray⟩) = w8 at *
  exact bodyPost_ret (v := t_tv nme 7 (.slice va dims.length vc) ⟨(flat f 8 xs).toArray⟩) (by simp [results, Tryz.results58, go_sem, c0, c1, c2, c3]) rfl ⟨_, rfl, hko, hbb⟩

end Go.Proofs.YtjjfdlgoacockaaGreat
namespace Go.Proofs.YtjjfdlgoacockaaGreat
namespace M8
def ltr (n : Int) : Bool := decide ((65 ≤ n ∧ n ≤ 90) ∨ (97 ≤ n ∧ n ≤ 122) ∨ (48 ≤ n ∧ n ≤ 57) ∨ n = 46 ∨ n = 95 ∨ n = 45)
def lt8 (c : UInt8) : Bool := ltr (c.toNat : Int)
def nd (l : List UInt8) : Bool := !(l == [] || l == [46] || l == [46, 46])
def okp (l : List UInt8) : Bool := nd l && l.all lt8
def allp : List UInt8 → List UInt8 → Bool
  | cur, [] => nd cur
  | cur, c :: r => if c = 47 then nd cur && allp [] r else lt8 c && allp (cur ++ [c]) r
def pts : List UInt8 → List UInt8 → List (List UInt8)
  | cur, [] => [cur]
  | cur, c :: r => if c = 47 then cur :: pts [] r else pts (cur ++ [c]) r
def keyB (s : ByteArray) : Bool := decide (s.size ≤ 255) && allp [] s.data.toList

theorem pts_bad : ∀ (l cur : List UInt8), cur.all lt8 = false → (pts cur l).all okp = false
  | [], cur, h => by simp [pts, okp, h]
  | c :: r, cur, h => by
    unfold pts
    split
    · simp [okp, h]
    · exact pts_bad r (cur ++ [c]) (by rw [List.all_append, h]; rfl)
theorem pts_all : ∀ (l cur : List UInt8), cur.all lt8 = true → (pts cur l).all okp = allp cur l
  | [], cur, h => by simp [pts, okp, allp, h]
  | c :: r, cur, h => by
    unfold pts allp
    split
    · have ih := pts_all r [] rfl
      rw [List.all_cons, ih]; simp [okp, h]
    · cases hc : lt8 c
      · rw [Bool.false_and]
        exact pts_bad r (cur ++ [c]) (by rw [List.all_append, h]; simp [hc])
      · rw [Bool.true_and]
        exact pts_all r (cur ++ [c]) (by rw [List.all_append, h]; simp [hc])
theorem keyB_pts (s : ByteArray) : keyB s = (decide (s.size ≤ 255) && (pts [] s.data.toList).all okp) := by unfold keyB; rw [pts_all _ _ rfl]

theorem pts_cons (cur : List UInt8) (c : UInt8) (r : List UInt8) : pts cur (c :: r) = if c = 47 then cur :: pts [] r else pts (cur ++ [c]) r := rfl
theorem pts_miss : ∀ (l cur : List UInt8), Lib.indexByte l 47 = -1 → pts cur l = [cur ++ l]
  | [], cur, _ => by simp [pts]
  | c :: r, cur, h => by
    unfold Lib.indexByte at h
    rw [pts_cons]
    split at h
    · cases h
    · rename_i hc
      have hc' : ¬ c = 47 := by simpa using hc
      rw [if_neg hc']
      split at h
      · rename_i h2
        rw [pts_miss r (cur ++ [c]) (by simpa using h2)]; simp
      · rename_i h2
        have := Lib.indexByte_ge r 47
        simp at h2
        omega
theorem pts_hit : ∀ (l cur : List UInt8) (i : Nat), Lib.indexByte l 47 = (i : Int) → i < l.length ∧ pts cur l = (cur ++ l.take i) :: pts [] (l.drop (i + 1))
  | [], cur, i, h => by unfold Lib.indexByte at h; omega
  | c :: r, cur, i, h => by
    unfold Lib.indexByte at h
    rw [pts_cons]
    split at h
    · rename_i hc
      have hc' : c = 47 := by simpa using hc
      obtain rfl : i = 0 := by omega
      rw [if_pos hc']
      simp
    · rename_i hc
      have hc' : ¬ c = 47 := by simpa using hc
      rw [if_neg hc']
      split at h
      · omega
      · obtain ⟨j, rfl⟩ : ∃ j, i = j + 1 := ⟨i - 1, by have := Lib.indexByte_ge r 47; simp at *; omega⟩
        obtain ⟨h1, h2⟩ := pts_hit r (cur ++ [c]) j (by omega)
        exact ⟨by simp; omega, by rw [h2]; simp⟩
theorem indexByte_cases (l : List UInt8) (c : UInt8) : Lib.indexByte l c = -1 ∨ ∃ i : Nat, Lib.indexByte l c = (i : Int) := by
  have := Lib.indexByte_ge l c
  by_cases h : Lib.indexByte l c = -1
  · exact .inl h
  · exact .inr ⟨(Lib.indexByte l c).toNat, by omega⟩
end M8
end Go.Proofs.YtjjfdlgoacockaaGreat
namespace Go.Proofs.YtjjfdlgoacockaaGreat
open Go.RowKit Go.Maps Go.ChangeMaps
namespace M8
instance memDec (s : ByteArray) (l : List ByteArray) : Decidable (s ∈ l) := decidable_of_iff (l.any (fun x => decide (x = s)) = true) (by simp)
structure Fl where
  key : ByteArray
  data : ByteArray
instance : Inhabited Fl := ⟨⟨⟨#[]⟩, ⟨#[]⟩⟩⟩
def fcl (l : List Fl) : List Value := l.flatMap fun f => [.string f.key, .string f.data]
theorem fcl_len (l : List Fl) : (fcl l).length = l.length * 2 := by
  induction l with
  | nil => rfl
  | cons p l ih => unfold fcl at *; rw [List.flatMap_cons, List.length_append, ih]; simp; omega
theorem fcl_append (a b : List Fl) : fcl (a ++ b) = fcl a ++ fcl b := by unfold fcl; simp
theorem fcl_at : ∀ (l : List Fl) (k : Nat) (h : k < l.length), (fcl l)[k * 2]? = some (.string l[k].key) ∧ (fcl l)[k * 2 + 1]? = some (.string l[k].data)
  | [], k, h => by cases h
  | p :: l, 0, h => by unfold fcl; simp
  | p :: l, k + 1, h => by
    have h' : k < l.length := by simpa using h
    have ih := fcl_at l k h'
    have e : fcl (p :: l) = .string p.key :: .string p.data :: fcl l := by unfold fcl; simp
    rw [e, show (k + 1) * 2 = k * 2 + 1 + 1 by omega]
    simpa using ih
theorem file_at {w : World} {B : Nat} {A : Option Addr} {l : List Fl} (h : SR w B 2 A l.length (fcl l)) {k : Nat} (hk : k < l.length) :
    ∃ b o, A = some ⟨b, o, none⟩ ∧ b < B ∧ w.cell? ⟨b, o + k * 2, none⟩ = some (.string l[k].key) ∧ w.cell? ⟨b, o + k * 2 + 1, none⟩ = some (.string l[k].data) := by
  obtain ⟨b, o, hA, hb, hc⟩ := h.at_ hk
  obtain ⟨h0, h1⟩ := fcl_at l k hk
  exact ⟨b, o, hA, hb, by simpa using hc 0 (by omega) _ (by simpa using h0), hc 1 (by omega) _ h1⟩

/-! what New says -/
def keys (l : List Fl) : List ByteArray := l.map Fl.key
def goN : List ByteArray → List Fl → Int
  | _, [] => 0
  | seen, f :: r => if keyB f.key = false then 9 else if f.key ∈ seen then 14 else goN (seen ++ [f.key]) r
def newC (l : List Fl) : Int := if 64 < l.length then 7 else goN [] l
def kept (l : List Fl) : List Fl := if newC l = 0 then l else []
def Gone (l : List Fl) (k : Nat) : Prop := l.length ≤ 64 ∧ newC l = goN (keys (l.take k)) (l.drop k) ∧ (keys (l.take k)).Nodup
theorem Gone.start {l : List Fl} (h : l.length ≤ 64) : Gone l 0 := ⟨h, by unfold newC; rw [if_neg (by omega)]; rfl, by simp [keys]⟩
theorem keys_snoc {l : List Fl} {k : Nat} (h : k < l.length) : keys (l.take (k + 1)) = keys (l.take k) ++ [l[k].key] := by
  unfold keys; rw [List.take_succ_eq_append_getElem h, List.map_append]; rfl
theorem Gone.cons {l : List Fl} {k : Nat} (h : Gone l k) (hk : k < l.length) : newC l = if keyB l[k].key = false then 9 else if l[k].key ∈ keys (l.take k) then 14 else goN (keys (l.take (k + 1))) (l.drop (k + 1)) := by
  rw [h.2.1, List.drop_eq_getElem_cons hk, keys_snoc hk]; rfl
theorem Gone.path {l : List Fl} {k : Nat} (h : Gone l k) (hk : k < l.length) (h1 : keyB l[k].key = false) : newC l = 9 := by rw [h.cons hk, if_pos h1]
theorem Gone.twice {l : List Fl} {k : Nat} (h : Gone l k) (hk : k < l.length) (h1 : keyB l[k].key = true) (h2 : l[k].key ∈ keys (l.take k)) : newC l = 14 := by
  rw [h.cons hk, if_neg (by rw [h1]; decide), if_pos h2]
theorem Gone.next {l : List Fl} {k : Nat} (h : Gone l k) (hk : k < l.length) (h1 : keyB l[k].key = true) (h2 : ¬ l[k].key ∈ keys (l.take k)) : Gone l (k + 1) := by
  refine ⟨h.1, by rw [h.cons hk, if_neg (by rw [h1]; decide), if_neg h2], ?_⟩
  rw [keys_snoc hk, List.nodup_append]
  exact ⟨h.2.2, by simp, fun a ha b hb => by simp at hb; rw [hb]; exact fun e => h2 (e ▸ ha)⟩
theorem Gone.end_ {l : List Fl} (h : Gone l l.length) : newC l = 0 ∧ (keys l).Nodup := by
  have h1 := h.2.1
  have h2 := h.2.2
  rw [List.drop_length] at h1
  rw [List.take_length] at h2
  exact ⟨h1, h2⟩
theorem newC_size {l : List Fl} (h : 64 < l.length) : newC l = 7 := by unfold newC; rw [if_pos h]
theorem kept_no {l : List Fl} {c : Int} (h : newC l = c) (hc : c ≠ 0) : kept l = [] := by unfold kept; rw [if_neg (by rw [h]; exact hc)]
theorem kept_yes {l : List Fl} (h : newC l = 0) : kept l = l := by unfold kept; rw [if_pos h]
theorem mem_keys_take {l : List Fl} {k : Nat} {s : ByteArray} (hk : k ≤ l.length) : s ∈ keys (l.take k) ↔ ∃ j, ∃ h : j < l.length, j < k ∧ l[j].key = s := by
  unfold keys
  rw [List.mem_map]
  constructor
  · rintro ⟨f, hf, rfl⟩
    obtain ⟨j, hj, rfl⟩ := List.getElem_of_mem hf
    simp at hj
    exact ⟨j, by omega, by omega, by simp⟩
  · rintro ⟨j, h, hj, rfl⟩
    exact ⟨l[j], List.mem_take_iff_getElem.2 ⟨j, by omega, rfl⟩, rfl⟩

/-! the map as a datum -/
abbrev FD := DataW Unit
def fk (s : ByteArray) : Lit := .string s.data.toList
def fv (s : ByteArray) : FD := .lit (.string s.data.toList)
theorem fk_inj {a b : ByteArray} (h : fk a = fk b) : a = b := by
  unfold fk at h
  have h2 : a.data.toList = b.data.toList := by injection h
  exact ByteArray.ext (Array.ext' h2)
theorem fk_ok (s : ByteArray) : WideAt.IsKeyLit (fk s) := trivial
def fdat (l : List Fl) : FD := l.foldl (fun m f => m.put (fk f.key) (fv f.data)) (.map [])
theorem fdat_snoc (l : List Fl) (f : Fl) : fdat (l ++ [f]) = (fdat l).put (fk f.key) (fv f.data) := by unfold fdat; simp
theorem isMap_put {D : FD} (h : IsMap D) (k : Lit) (d : FD) : IsMap (D.put k d) := by
  obtain ⟨es, rfl⟩ := h; exact ⟨_, rfl⟩
theorem fold_has (s : ByteArray) : ∀ (l : List Fl) (m : FD), IsMap m → has (l.foldl (fun m f => m.put (fk f.key) (fv f.data)) m) (fk s) = (has m (fk s) || decide (s ∈ keys l))
  | [], m, _ => by simp [keys]
  | f :: l, m, h => by
    rw [List.foldl_cons, fold_has s l _ (isMap_put h _ _)]
    by_cases e : s = f.key
    · subst e
      rw [has_put_same h (fk_ok _)]
      simp [keys]
    · rw [has_put_other (fun h2 => e (fk_inj h2))]
      simp [keys, e]
theorem fdat_has (l : List Fl) (s : ByteArray) : has (fdat l) (fk s) = decide (s ∈ keys l) := by
  unfold fdat; rw [fold_has s l _ ⟨[], rfl⟩]; rfl
theorem fold_far (s : ByteArray) (z : FD) : ∀ (l : List Fl) (m : FD), IsMap m → s ∉ keys l → (l.foldl (fun m f => m.put (fk f.key) (fv f.data)) m).atKey (fk s) z = m.atKey (fk s) z
  | [], m, _, _ => rfl
  | f :: l, m, h, hs => by
    have h1 : s ≠ f.key := fun e => hs (by simp [keys, e])
    have h2 : s ∉ keys l := fun e => hs (by unfold keys at *; simp [e])
    rw [List.foldl_cons, fold_far s z l _ (isMap_put h _ _) h2, atKey_put_other (fun h2 => h1 (fk_inj h2))]
theorem fold_at (z : FD) : ∀ (l : List Fl) (m : FD), IsMap m → (keys l).Nodup → ∀ f ∈ l, (l.foldl (fun m f => m.put (fk f.key) (fv f.data)) m).atKey (fk f.key) z = fv f.data
  | f :: l, m, h, hn, g, hg => by
    have hn' : f.key ∉ keys l ∧ (keys l).Nodup := by unfold keys at *; simpa using hn
    rw [List.foldl_cons]
    rcases List.mem_cons.1 hg with rfl | hg
    · rw [fold_far _ z l _ (isMap_put h _ _) hn'.1, atKey_put_same h (fk_ok _)]
    · exact fold_at z l _ (isMap_put h _ _) hn'.2 g hg
theorem fdat_at {l : List Fl} (hn : (keys l).Nodup) {f : Fl} (hf : f ∈ l) (z : FD) : (fdat l).atKey (fk f.key) z = fv f.data := fold_at z l _ ⟨[], rfl⟩ hn f hf

/-! what Read says -/
def rdC (l : List Fl) (key : ByteArray) (off len : Int) : ByteArray × Int :=
  if keyB key = false then (⟨#[]⟩, 9) else if off < 0 ∨ len < 0 then (⟨#[]⟩, 17) else
  match l.find? (fun f => decide (f.key = key)) with
  | none => (⟨#[]⟩, 18)
  | some f => if (f.data.size : Int) - off < len then (⟨#[]⟩, 1) else (f.data.extract off.toNat (off + len).toNat, 0)
theorem rdC_path {l : List Fl} {key : ByteArray} {off len : Int} (h : keyB key = false) : rdC l key off len = (⟨#[]⟩, 9) := by unfold rdC; rw [if_pos h]
theorem rdC_value {l : List Fl} {key : ByteArray} {off len : Int} (h : keyB key = true) (h1 : off < 0 ∨ len < 0) : rdC l key off len = (⟨#[]⟩, 17) := by unfold rdC; rw [if_neg (by rw [h]; decide), if_pos h1]
theorem rdC_missing {l : List Fl} {key : ByteArray} {off len : Int} (h : keyB key = true) (h1 : ¬ (off < 0 ∨ len < 0)) (h2 : key ∉ keys l) : rdC l key off len = (⟨#[]⟩, 18) := by
  unfold rdC
  rw [if_neg (by rw [h]; decide), if_neg h1, List.find?_eq_none.2 (fun f hf => by
    rw [decide_eq_true_eq]
    intro e
    exact h2 (List.mem_map.2 ⟨f, hf, e⟩))]
theorem rdC_short {l : List Fl} {key : ByteArray} {off len : Int} {f : Fl} (h : keyB key = true) (h1 : ¬ (off < 0 ∨ len < 0)) (h2 : l.find? (fun f => decide (f.key = key)) = some f) (h3 : (f.data.size : Int) - off < len) : rdC l key off len = (⟨#[]⟩, 1) := by
  unfold rdC; rw [if_neg (by rw [h]; decide), if_neg h1, h2]; simp only [if_pos h3]
theorem rdC_ok {l : List Fl} {key : ByteArray} {off len : Int} {f : Fl} (h : keyB key = true) (h1 : ¬ (off < 0 ∨ len < 0)) (h2 : l.find? (fun f => decide (f.key = key)) = some f) (h3 : ¬ (f.data.size : Int) - off < len) : rdC l key off len = (f.data.extract off.toNat (off + len).toNat, 0) := by
  unfold rdC; rw [if_neg (by rw [h]; decide), if_neg h1, h2]; simp only [if_neg h3]
theorem find_in {l : List Fl} {key : ByteArray} (h : key ∈ keys l) : ∃ f, l.find? (fun f => decide (f.key = key)) = some f ∧ f ∈ l ∧ f.key = key := by
  obtain ⟨g, hg, e⟩ := List.mem_map.1 h
  cases hf : l.find? (fun f => decide (f.key = key)) with
  | none => exact absurd e (by have := List.find?_eq_none.1 hf g hg; simpa using this)
  | some f => exact ⟨f, rfl, List.mem_of_find?_eq_some hf, by simpa using List.find?_some hf⟩
end M8
end Go.Proofs.YtjjfdlgoacockaaGreat
namespace Go.Proofs.YtjjfdlgoacockaaGreat
namespace M9
open Go.RowKit M1 M2 M3 M8
open M7 (Ten ck nm)

def z9 : Ten := ⟨⟨#[]⟩, 0, [], ⟨#[]⟩⟩
def has (l : List WFd) (num : Int) : Bool := decide (ofNum l num ≠ [])
def okF (l : List WFd) (num typ : Int) : Bool := decide (ofNum l num = []) || decide ((lastF l num).typ = typ)
theorem okF_no {l : List WFd} {num typ : Int} (h : ofNum l num = []) : okF l num typ = true := by unfold okF; simp [h]
theorem okF_yes {l : List WFd} {num typ : Int} (h : ofNum l num ≠ []) : okF l num typ = decide ((lastF l num).typ = typ) := by unfold okF; simp [h]

def isd (c : UInt8) : Bool := decide (48 ≤ c.toNat) && decide (c.toNat ≤ 57)
def dgv (l : List UInt8) : Nat := l.foldl (fun n c => n * 10 + (c.toNat - 48)) 0
def lead (s : ByteArray) : Bool := if h : 1 < s.size then decide (s[0].toNat = 48) else false
def dgo (s : ByteArray) : Bool := decide (1 ≤ s.size) && decide (s.size ≤ 18) && !lead s && s.data.toList.all isd
def dg (s : ByteArray) : Int := if dgo s = true then (dgv s.data.toList : Int) else -1
theorem fold_lt : ∀ (l : List UInt8) (n : Nat), l.all isd = true → l.foldl (fun n c => n * 10 + (c.toNat - 48)) n < (n + 1) * 10 ^ l.length
  | [], n, _ => by simp
  | c :: l, n, h => by
    simp only [List.all_cons, Bool.and_eq_true, isd, decide_eq_true_eq] at h
    obtain ⟨⟨h1, h2⟩, h3⟩ := h
    have ih := fold_lt l (n * 10 + (c.toNat - 48)) h3
    rw [List.foldl_cons, List.length_cons, Nat.pow_succ]
    refine Nat.lt_of_lt_of_le ih ?_
    have : n * 10 + (c.toNat - 48) + 1 ≤ (n + 1) * 10 := by omega
    calc (n * 10 + (c.toNat - 48) + 1) * 10 ^ l.length ≤ ((n + 1) * 10) * 10 ^ l.length := Nat.mul_le_mul_right _ this
      _ = (n + 1) * (10 ^ l.length * 10) := by rw [Nat.mul_assoc, Nat.mul_comm 10]
theorem dgv_lt {l : List UInt8} (h : l.all isd = true) : dgv l < 10 ^ l.length := by have := fold_lt l 0 h; simpa [dgv] using this
theorem dgv_snoc {s : ByteArray} {k : Nat} (h : k < s.size) : dgv (s.data.toList.take (k + 1)) = dgv (s.data.toList.take k) * 10 + (s[k].toNat - 48) := by
  rw [take_snoc h]; unfold dgv; rw [List.foldl_append]; rfl
theorem dg_in (s : ByteArray) : -1 ≤ dg s ∧ dg s < 1000000000000000000 := by
  unfold dg
  split
  · rename_i h
    simp only [dgo, Bool.and_eq_true, decide_eq_true_eq] at h
    obtain ⟨⟨⟨h1, h2⟩, h3⟩, h4⟩ := h
    have hl := dgv_lt h4
    have e : s.data.toList.length = s.size := by simp
    rw [e] at hl
    have : 10 ^ s.size ≤ 10 ^ 18 := Nat.pow_le_pow_right (by omega) h2
    omega
  · omega
theorem dg_empty {s : ByteArray} (h : s.size = 0) : dg s = -1 := by unfold dg; rw [if_neg]; simp [dgo, h]
theorem dg_long {s : ByteArray} (h : 18 < s.size) : dg s = -1 := by
  unfold dg; rw [if_neg]; unfold dgo; rw [decide_eq_false (by omega : ¬ s.size ≤ 18)]; simp
theorem dg_lead {s : ByteArray} (h : lead s = true) : dg s = -1 := by unfold dg; rw [if_neg]; simp [dgo, h]
theorem dg_bad {s : ByteArray} {k : Nat} (hk : k < s.size) (h : isd s[k] = false) : dg s = -1 := by
  unfold dg; rw [if_neg]; unfold dgo
  have : s.data.toList.all isd = false := by
    rw [List.all_eq_false]
    exact ⟨s[k], by show s.data[k] ∈ s.data.toList; simp, by simp [h]⟩
  rw [this]; simp
theorem dg_ok {s : ByteArray} (h1 : 1 ≤ s.size) (h2 : s.size ≤ 18) (h3 : lead s = false) (h4 : s.data.toList.all isd = true) : dg s = (dgv s.data.toList : Int) := by
  unfold dg; rw [if_pos]; unfold dgo; rw [decide_eq_true h1, decide_eq_true h2, h3, h4]; rfl
theorem lead_at {s : ByteArray} (h : 1 < s.size) : lead s = decide (s[0].toNat = 48) := dif_pos h
theorem lead_one {s : ByteArray} (h : ¬ 1 < s.size) : lead s = false := dif_neg h

abbrev KV := ByteArray × ByteArray
def kvs : List ByteArray → List KV → List KV × Nat
  | [], acc => (acc, 0)
  | b :: r, acc => if (fields b).2 ≠ 0 then ([], (fields b).2)
    else if (okF (fields b).1 1 2 && okF (fields b).1 2 2) = false then ([], 3)
    else kvs r (acc ++ [((lastF (fields b).1 1).data, (lastF (fields b).1 2).data)])
def val (l : List KV) (k : ByteArray) : Option ByteArray := (l.reverse.find? fun p => decide (p.1 = k)).map (·.2)
theorem val_in {l : List KV} {k v : ByteArray} (h : val l k = some v) : ∃ p ∈ l, p.2 = v := by
  unfold val at h
  simp only [Option.map_eq_some_iff] at h
  obtain ⟨p, hp, rfl⟩ := h
  exact ⟨p, by simpa using List.mem_of_find?_eq_some hp, rfl⟩
def num (l : List KV) (k : ByteArray) (other : Int) : Int := match val l k with | none => other | some s => dg s
theorem num_none {l : List KV} {k : ByteArray} {other : Int} (h : val l k = none) : num l k other = other := by unfold num; rw [h]
theorem num_some {l : List KV} {k s : ByteArray} {other : Int} (h : val l k = some s) : num l k other = dg s := by unfold num; rw [h]
def kLoc : ByteArray := ⟨#[108, 111, 99, 97, 116, 105, 111, 110]⟩
def kOff : ByteArray := ⟨#[111, 102, 102, 115, 101, 116]⟩
def kLen : ByteArray := ⟨#[108, 101, 110, 103, 116, 104]⟩

def smallD (row : List Int) (m : Int) : ByteArray × Int := if row.all (fun n => decide (0 ≤ n) && decide (n ≤ m)) = true then (⟨(row.map fun n => UInt8.ofNat n.toNat).toArray⟩, 0) else (⟨#[]⟩, 17)
def great (k : Int) : Int := if k = 9 then 1 else 255
def here (k : Int) (d : ByteArray) (hs : Bool) (small ints : List Int) : ByteArray × Int :=
  if hs = true then (if small ≠ [] ∨ ints ≠ [] then (⟨#[]⟩, 19) else (d, 0))
  else if small ≠ [] ∧ k ≠ 2 ∧ k ≠ 9 then (⟨#[]⟩, 5) else if ints ≠ [] ∧ k ≠ 7 then (⟨#[]⟩, 5)
  else if k = 7 then (⟨(flat (fun n => l8 (M7.us n)) 8 ints).toArray⟩, 0) else smallD small (great k)
def inFile (size : Int) (hs : Bool) (small ints : List Int) (bs : List ByteArray) (fs : List Fl) : ByteArray × Int :=
  if hs = true ∨ small ≠ [] ∨ ints ≠ [] then (⟨#[]⟩, 19)
  else if (kvs bs []).2 ≠ 0 then (⟨#[]⟩, ((kvs bs []).2 : Int))
  else match val (kvs bs []).1 kLoc with
  | none => (⟨#[]⟩, 18)
  | some key => if num (kvs bs []).1 kOff 0 < 0 then (⟨#[]⟩, 17) else if num (kvs bs []).1 kLen size < 0 then (⟨#[]⟩, 17)
    else if num (kvs bs []).1 kLen size ≠ size then (⟨#[]⟩, 7) else rdC fs key (num (kvs bs []).1 kOff 0) size
def fin (t : Ten) (r : ByteArray × Int) : Ten × Int :=
  if r.2 ≠ 0 then (z9, r.2) else if ck ⟨t.name, t.kind, t.dims, r.1⟩ ≠ 0 then (z9, ck ⟨t.name, t.kind, t.dims, r.1⟩) else (⟨t.name, t.kind, t.dims, r.1⟩, 0)
theorem fin_err {t : Ten} {r : ByteArray × Int} (h : r.2 ≠ 0) : fin t r = (z9, r.2) := if_pos h
theorem fin_ck {t : Ten} {r : ByteArray × Int} (h : r.2 = 0) (h2 : ck ⟨t.name, t.kind, t.dims, r.1⟩ ≠ 0) : fin t r = (z9, ck ⟨t.name, t.kind, t.dims, r.1⟩) := by unfold fin; rw [if_neg (by simp [h]), if_pos h2]
theorem fin_ok {t : Ten} {r : ByteArray × Int} (h : r.2 = 0) (h2 : ck ⟨t.name, t.kind, t.dims, r.1⟩ = 0) : fin t r = (⟨t.name, t.kind, t.dims, r.1⟩, 0) := by unfold fin; rw [if_neg (by simp [h]), if_neg (by simp [h2])]

structure Rws9 where
  d : List Int
  s : List Int
  i : List Int
  t : List ByteArray
def zr : Rws9 := ⟨[], [], [], []⟩
def rowsOf (R1 R5 R7 : List Int × Nat) (RT : List ByteArray × Nat) : Rws9 × Nat :=
  if R1.2 ≠ 0 then (zr, R1.2) else if R5.2 ≠ 0 then (zr, R5.2) else if R7.2 ≠ 0 then (zr, R7.2) else if RT.2 ≠ 0 then (zr, RT.2) else (⟨R1.1, R5.1, R7.1, RT.1⟩, 0)
def rows (l : List WFd) : Rws9 × Nat := rowsOf (ints (ofNum l 1) []) (ints (ofNum l 5) []) (ints (ofNum l 7) []) (txts (ofNum l 13) [])
def kindN (n : Nat) : Int := if isKind (n : Int) = true then (n : Int) else 0
def chk (wh : Nat) (name : ByteArray) (k : Int) (dims : List Int) : Int × Int :=
  if wh ≠ 0 ∧ wh ≠ 1 then (0, 19) else if nm name = false then (0, 8) else if kSize k = 0 then (0, 5) else ((M5.sz dims).1 * kSize k, ((M5.sz dims).2 : Int))
structure Msg where
  t : Ten
  size : Int
  wh : Nat
  d : ByteArray
  hs : Bool
  s : List Int
  i : List Int
  b : List ByteArray
def zm : Msg := ⟨z9, 0, 0, ⟨#[]⟩, false, [], [], []⟩
def okFs (l : List WFd) : Bool := okF l 2 0 && okF l 8 2 && okF l 9 2 && okF l 14 0
def mk (l : List WFd) (r : Rws9) (size : Int) : Msg := ⟨⟨(lastF l 8).data, kindN (lastF l 2).n, r.d, ⟨#[]⟩⟩, size, (lastF l 14).n, (lastF l 9).data, has l 9, r.s, r.i, r.t⟩
def chkL (l : List WFd) (r : Rws9) : Int × Int := chk (lastF l 14).n (lastF l 8).data (kindN (lastF l 2).n) r.d
def msgL (l : List WFd) : Msg × Int :=
  if okFs l = false then (zm, 3) else if (rows l).2 ≠ 0 then (zm, ((rows l).2 : Int))
  else if (chkL l (rows l).1).2 ≠ 0 then (zm, (chkL l (rows l).1).2) else (mk l (rows l).1 (chkL l (rows l).1).1, 0)
def msg (b : ByteArray) : Msg × Int := if (fields b).2 ≠ 0 then (zm, ((fields b).2 : Int)) else msgL (fields b).1
def elems (m : Msg) (fs : List Fl) : ByteArray × Int := if m.wh = 1 then inFile m.size m.hs m.s m.i m.b fs else here m.t.kind m.d m.hs m.s m.i
def rd9 (b : ByteArray) (fs : List Fl) : Ten × Int := if (msg b).2 ≠ 0 then (z9, (msg b).2) else fin (msg b).1.t (elems (msg b).1 fs)
theorem rd9_err {b : ByteArray} {fs : List Fl} (h : (msg b).2 ≠ 0) : rd9 b fs = (z9, (msg b).2) := if_pos h
theorem rd9_ok {b : ByteArray} {fs : List Fl} (h : (msg b).2 = 0) : rd9 b fs = fin (msg b).1.t (elems (msg b).1 fs) := if_neg (by simp [h])
end M9
end Go.Proofs.YtjjfdlgoacockaaGreat
namespace Go.Proofs.YtjjfdlgoacockaaGreat
open Go.RowKit M1 M2 M3 M9

theorem et_le (n : Nat) : (⟨#[]⟩ : ByteArray).size ≤ n := Nat.zero_le n
theorem fd0_ok (n : Nat) : FOk fd0 ∧ fd0.data.size ≤ n := ⟨⟨by decide, by decide, by decide, by decide, by show (0 : Nat) < _; omega, et_le _⟩, et_le _⟩
theorem rest_le (s : ByteArray) (k : Nat) : (rest s k).size ≤ s.size := by rw [rest_size]; omega
theorem rt_le (s : ByteArray) : (rt s).1.size ≤ s.size := by
  unfold rt
  split
  · exact et_le _
  · split
    · exact et_le _
    · rw [ByteArray.size_extract]; omega
theorem pay_data (t : Nat) (s : ByteArray) : (pay t s).2.1.size ≤ s.size := by
  unfold pay
  split
  · exact et_le _
  · split
    · exact et_le _
    · split
      · exact rt_le s
      · exact et_le _
theorem pay_num (t : Nat) (s : ByteArray) : Fits64 (pay t s).1 := by
  unfold pay
  split
  · exact rd_fits s
  · split
    · exact rl_fits s (by omega)
    · split
      · show (0 : Nat) < _; omega
      · exact rl_fits s (by omega)
theorem one_ok (s : ByteArray) (hs : s.size ≤ 140737488351232) : FOk (one s).1 ∧ (one s).1.data.size ≤ s.size := by
  unfold one
  split
  · exact fd0_ok _
  · split
    · exact fd0_ok _
    · split
      · exact fd0_ok _
      · have hx := rd_fits s
        unfold Fits64 at hx
        have hd := Nat.le_trans (pay_data ((rd s).1 % 8) (rest s (rd s).2.1)) (rest_le s _)
        exact ⟨⟨by dsimp only; omega, by dsimp only; omega, by dsimp only; omega, by dsimp only; omega, pay_num _ _, by dsimp only; omega⟩, hd⟩
theorem fl_ok (k : Nat) : ∀ s : ByteArray, s.size ≤ 140737488351232 → ∀ f ∈ (fl k s).1, FOk f ∧ f.data.size ≤ s.size := by
  induction k with
  | zero => intro s _ f hf; simp [fl] at hf
  | succ k ih =>
    intro s hs f hf
    rw [fl] at hf
    split at hf
    · simp at hf
    · split at hf
      · simp at hf
      · split at hf
        · simp at hf
        · rcases List.mem_cons.1 hf with rfl | hf
          · exact one_ok s hs
          · have h := ih _ (Nat.le_trans (rest_le s _) hs) f hf
            exact ⟨h.1, Nat.le_trans h.2 (rest_le s _)⟩
theorem fields_ok {s : ByteArray} : ∀ f ∈ (fields s).1, FOk f ∧ f.data.size ≤ 1048576 := by
  intro f hf
  unfold fields at hf
  split at hf
  · simp at hf
  · have h := fl_ok _ s (by omega) f hf
    exact ⟨h.1, Nat.le_trans h.2 (by omega)⟩
theorem fields_len (s : ByteArray) : (fields s).1.length ≤ 1048576 := by
  unfold fields
  split
  · simp
  · exact Nat.le_trans (fields_list_le s) (by omega)
theorem lastF_ok {l : List WFd} (h : ∀ f ∈ l, FOk f ∧ f.data.size ≤ 1048576) (num : Int) : FOk (lastF l num) ∧ (lastF l num).data.size ≤ 1048576 := by
  unfold lastF
  cases e : (ofNum l num).getLast? with
  | none => exact fd0_ok _
  | some f => exact h f (List.mem_filter.1 (List.mem_of_getLast? e)).1
theorem txts_in (l : List WFd) : ∀ (acc : List ByteArray) (n : Nat), (∀ b ∈ acc, b.size ≤ n) → (∀ f ∈ l, f.data.size ≤ n) → ∀ b ∈ (txts l acc).1, b.size ≤ n := by
  induction l with
  | nil => intro acc n h _ b hb; exact h b hb
  | cons f l ih =>
    intro acc n h hl b hb
    rw [txts] at hb
    split at hb
    · simp at hb
    · refine ih (acc ++ [f.data]) n (fun b hb => ?_) (fun g hg => hl g (List.mem_cons_of_mem _ hg)) b hb
      rcases List.mem_append.1 hb with hb | hb
      · exact h b hb
      · rw [List.mem_singleton.1 hb]; exact hl f List.mem_cons_self
theorem ofNum_mem {l : List WFd} {num : Int} {f : WFd} (h : f ∈ ofNum l num) : f ∈ l := (List.mem_filter.1 h).1
theorem pk_in (k : Nat) : ∀ (s : ByteArray) (acc : List Int), (∀ n ∈ acc, In64 n) → ∀ n ∈ (pk k s acc).1, In64 n := by
  induction k with
  | zero => intro s acc h n hn; exact h n (by simpa [pk] using hn)
  | succ k ih =>
    intro s acc h n hn
    rw [pk] at hn
    split at hn
    · exact h n hn
    · split at hn
      · simp at hn
      · split at hn
        · simp at hn
        · refine ih _ _ (fun m hm => ?_) n hn
          rcases List.mem_append.1 hm with hm | hm
          · exact h m hm
          · rw [List.mem_singleton.1 hm]; exact sg_in _
theorem addF_in (f : WFd) {acc : List Int} (h : ∀ n ∈ acc, In64 n) : ∀ n ∈ (addF f acc).1, In64 n := by
  unfold addF
  split
  · split
    · simp
    · intro n hn
      rcases List.mem_append.1 hn with hn | hn
      · exact h n hn
      · rw [List.mem_singleton.1 hn]; exact sg_in _
  · split
    · exact pk_in _ _ _ h
    · simp
theorem ints_in (l : List WFd) : ∀ (acc : List Int), (∀ n ∈ acc, In64 n) → ∀ n ∈ (ints l acc).1, In64 n := by
  induction l with
  | nil => intro acc h; exact h
  | cons f l ih =>
    intro acc h
    rw [ints]
    split
    · simp
    · exact ih _ (addF_in f h)
structure RwOk (r : Rws9) : Prop where
  dl : r.d.length ≤ 65536
  sl : r.s.length ≤ 65536
  il : r.i.length ≤ 65536
  tl : r.t.length ≤ 1048576
  di : ∀ n ∈ r.d, I64 n
  tb : ∀ b ∈ r.t, b.size ≤ 1048576
theorem zr_ok : RwOk zr := ⟨by simp [zr], by simp [zr], by simp [zr], by simp [zr], by simp [zr], by simp [zr]⟩
theorem rows_ok {l : List WFd} (hl : l.length ≤ 1048576) (h : ∀ f ∈ l, FOk f ∧ f.data.size ≤ 1048576) : RwOk (rows l).1 := by
  unfold rows rowsOf
  split
  · exact zr_ok
  · split
    · exact zr_ok
    · split
      · exact zr_ok
      · split
        · exact zr_ok
        · refine ⟨ints_le _ _ (by simp), ints_le _ _ (by simp), ints_le _ _ (by simp), ?_, ints_in _ _ (by simp), txts_in _ _ _ (by simp) (fun f hf => (h f (ofNum_mem hf)).2)⟩
          have h1 := txts_le (ofNum l 13) []
          have h2 := ofNum_le l 13
          simp at h1
          dsimp only
          omega
end Go.Proofs.YtjjfdlgoacockaaGreat
namespace Go.Proofs.YtjjfdlgoacockaaGreat
open Go.RowKit M2 M9

def askF (g : Nat) : Value := .func (.func 179) #[] #[.pointer (some ⟨g, 0, none⟩)]
set_option maxRecDepth 100000 in
theorem asker_any (A : Option Addr) (n c : Nat) (w : World) :
    Calls Tryz.prog 158 #[.slice A n c] w fun e w' => e = .returned (askF w.heap.size) ∧ Bx w w.heap.size #[.slice A n c] 138 w' := by
  have HB := Lib.hid (Bx.start w #[.slice A n c] 138)
  go_enter Tryz.func158, Tryz.ntmps158
  go_wp2
  go_ret
  exact ⟨rfl, HB.out⟩
set_option maxRecDepth 100000 in
theorem ask_any (g : Nat) (A : Option Addr) (c : Nat) (l : List WFd) (num typ : Int) (w : World) (hl : l.length ≤ 3000000) (hg : w.heap[g]? = some (.cells #[.slice A l.length c] 138 (0, 0))) (ha : SR w w.heap.size 4 A l.length (fcs l)) :
    Calls Tryz.prog 179 #[.int .i64 num, .int .i64 typ, .pointer (some ⟨g, 0, none⟩)] w fun e w' => e = .returned (.bool (okF l num typ)) ∧ Below w.heap.size w w' := by
  have c0 := cell_of_row _ _ 0 _ _ _ hg
  have HL := Lib.hid (last_any A c l num w hl ha)
  clear hg ha hl
  by_cases hn : ofNum l num = []
  · have hd : decide (ofNum l num ≠ []) = false := by simp [hn]
    rw [hd] at HL
    have HO := Lib.hid (okF_no (typ := typ) hn)
    generalize lastF l num = f at *
    obtain ⟨fnum, ftyp, fn, fdata⟩ := f
    clear hn hd
    go_enter Tryz.func179, Tryz.ntmps179
    go_wp2_with fail
    refine HL.out.mono ?_
    rintro e w1 ⟨rfl, hb⟩
    have HB := Lib.hid (hb.alloc hb.size (.cells #[.int .i64 fnum, .int .i64 ftyp, .int .u64 fn, .string fdata] 184))
    clear hb HL
    simp only [fc]
    go_wp2_with fail
    go_ret
    rw [HO.out]
    exact ⟨rfl, HB.out⟩
  · have hd : decide (ofNum l num ≠ []) = true := by simp [hn]
    rw [hd] at HL
    have HO := Lib.hid (okF_yes (typ := typ) hn)
    generalize lastF l num = f at *
    obtain ⟨fnum, ftyp, fn, fdata⟩ := f
    clear hn hd
    go_enter Tryz.func179, Tryz.ntmps179
    go_wp2_with fail
    refine HL.out.mono ?_
    rintro e w1 ⟨rfl, hb⟩
    have HB := Lib.hid (hb.alloc hb.size (.cells #[.int .i64 fnum, .int .i64 ftyp, .int .u64 fn, .string fdata] 184))
    clear hb HL
    simp only [fc]
    go_wp2_with fail
    go_ret
    rw [HO.out]
    refine ⟨?_, HB.out⟩
    rw [show (ftyp == typ) = decide (ftyp = typ) from by rw [Bool.eq_iff_iff]; simp]
    rfl
end Go.Proofs.YtjjfdlgoacockaaGreat
namespace Go.Proofs.YtjjfdlgoacockaaGreat
open Go.RowKit M2 M9

theorem text_nil {s : ByteArray} (h : s.size = 0) : s = ⟨#[]⟩ := ByteArray.ext (Array.eq_empty_of_size_eq_zero h)
theorem text_ne {s : ByteArray} (h : s.size ≠ 0) : s.toList.isEmpty = false := by
  cases e : s.toList.isEmpty
  · rfl
  · rw [List.isEmpty_iff] at e
    have : s = ⟨#[]⟩ := text_ext (e.trans (by decide +kernel))
    subst this
    exact absurd rfl h
theorem all_take_succ {s : ByteArray} {k : Nat} (h : k < s.size) (ha : (s.data.toList.take k).all isd = true) (hc : isd s[k] = true) : (s.data.toList.take (k + 1)).all isd = true := by
  rw [take_snoc h, List.all_append, ha]; simp [hc]
theorem dgv_small17 {s : ByteArray} {k : Nat} (hk : k ≤ 17) (ha : (s.data.toList.take k).all isd = true) : dgv (s.data.toList.take k) < 100000000000000000 := by
  have h := dgv_lt ha
  have : (s.data.toList.take k).length ≤ 17 := by rw [List.length_take]; omega
  have : 10 ^ (s.data.toList.take k).length ≤ 10 ^ 17 := Nat.pow_le_pow_right (by omega) this
  omega
def rdg (s : ByteArray) : Value := .tuple #[.int .i64 (if dg s < 0 then 0 else dg s), .bool (decide (0 ≤ dg s))]
theorem rdg_no {s : ByteArray} (h : dg s = -1) : rdg s = .tuple #[.int .i64 0, .bool false] := by unfold rdg; rw [h]; rfl
theorem rdg_yes {s : ByteArray} {n : Nat} (h : dg s = (n : Int)) : rdg s = .tuple #[.int .i64 (n : Int), .bool true] := by
  unfold rdg; rw [h, if_neg (by omega), decide_eq_true (by omega)]
theorem isd_yes {c : UInt8} (h1 : ¬ (c.toNat : Int) < 48) (h2 : ¬ 57 < (c.toNat : Int)) : isd c = true := by unfold isd; rw [decide_eq_true (by omega), decide_eq_true (by omega)]; rfl
theorem isd_low {c : UInt8} (h1 : (c.toNat : Int) < 48) : isd c = false := by unfold isd; rw [decide_eq_false (by omega)]; rfl
theorem isd_high {c : UInt8} (h2 : 57 < (c.toNat : Int)) : isd c = false := by unfold isd; rw [decide_eq_false (by omega : ¬ c.toNat ≤ 57)]; simp

set_option maxRecDepth 100000 in
set_option maxHeartbeats 1000000 in
theorem readDigits_any (s : ByteArray) (w : World) : Calls Tryz.prog 180 #[.string s] w fun e w' => e = .returned (rdg s) ∧ w = w' := by
  by_cases h0 : s.size = 0
  · have HE := Lib.hid (dg_empty h0)
    obtain rfl := text_nil h0
    clear h0
    go_enter Tryz.func180, Tryz.ntmps180
    go_wp2_with fail
    go_ret2
    rw [rdg_no HE.out]
    exact ⟨rfl, rfl⟩
  · by_cases h18 : 18 < s.size
    · have HE := Lib.hid (dg_long h18)
      have h0' : s.toList.isEmpty = false := text_ne h0
      have h18' : (18 : Int) < (s.size : Int) := by omega
      clear h0 h18
      go_enter Tryz.func180, Tryz.ntmps180
      go_wp2_with fail
      go_ret2
      rw [rdg_no HE.out]
      exact ⟨rfl, rfl⟩
    · have HZ := Lib.hid (And.intro h0 h18)
      cases hld : lead s
      · have HL := Lib.hid hld
        have main : ∀ (hpre : s.toList.isEmpty = false) (hpre2 : ¬ (18 : Int) < (s.size : Int)) (hlead : ¬ (1 : Int) < (s.size : Int) ∨ ((1 : Int) < (s.size : Int) ∧ ∃ h : 0 < s.size, ((s[0].toNat : Int) == 48) = false)),
            Calls Tryz.prog 180 #[.string s] w fun e w' => e = .returned (rdg s) ∧ w = w' := by
          intro hpre hpre2 hlead
          rcases hlead with h1 | ⟨h1, hz, hq⟩
          all_goals
            clear h0 h18 hld
            go_enter Tryz.func180, Tryz.ntmps180
            go_wp2_with fail
            go_loopw [4, 5, 25] (fun n _ i wr => ∃ (k : Nat) (X K : Int), i = .int .i64 K ∧ K = (k : Nat) ∧ k ≤ s.size ∧ n = .int .i64 X ∧ X = (dgv (s.data.toList.take k) : Nat) ∧ (s.data.toList.take k).all isd = true ∧ wr = w) (fun _ _ i _ => s.size - (intOf i).toNat)
            case atStart => exact ⟨0, _, _, rfl, rfl, by omega, rfl, rfl, rfl, rfl⟩
            case round =>
              obtain ⟨k, X, K, rfl, rfl, hk, rfl, hX, hall, rfl⟩ := hrel
              by_cases hlt : k < s.size
              · have hsm := dgv_small17 (by omega) hall
                have HS := Lib.hid (dgv_snoc hlt)
                have HA := Lib.hid hall
                have HB := Lib.hid (dg_bad hlt)
                have HO := Lib.hid (all_take_succ hlt hall)
                have hX0 : 0 ≤ X := by omega
                have hX1 : X < 100000000000000000 := by omega
                have HX := Lib.hid hX
                have hcl := s[k].toNat_lt
                have HN := Lib.hid (isd_yes (c := s[k]))
                have HLo := Lib.hid (isd_low (c := s[k]))
                have HHi := Lib.hid (isd_high (c := s[k]))
                clear hall hX hsm
                by_cases q1 : (s[k].toNat : Int) < 48
                · have HE := Lib.hid (HB.out (HLo.out q1))
                  go_wp2_with fail
                  go_ret2
                  rw [rdg_no HE.out]
                  exact ⟨rfl, rfl⟩
                · by_cases q2 : 57 < (s[k].toNat : Int)
                  · have HE := Lib.hid (HB.out (HHi.out q2))
                    go_wp2_with fail
                    go_ret2
                    rw [rdg_no HE.out]
                    exact ⟨rfl, rfl⟩
                  · have HQ := Lib.hid (HO.out (HN.out q1 q2))
                    go_wp2_with fail
                    go_roundw
                    case rel => exact ⟨k + 1, _, _, rfl, by omega, by omega, rfl, by rw [HS.out, HX.out]; omega, HQ.out, trivial⟩
                    case measure => simp [intOf]; omega
              · obtain rfl : k = s.size := by omega
                have hfull : s.data.toList.take s.size = s.data.toList := List.take_of_length_le (by simp)
                rw [hfull] at hall hX
                have HE := Lib.hid (dg_ok (by have := HZ.out; omega) (by have := HZ.out; omega) HL.out hall)
                have HX := Lib.hid hX
                clear hall hX hfull
                go_wp2_with fail
                go_ret2
                rw [rdg_yes HE.out, HX.out]
                exact ⟨rfl, rfl⟩
        refine main (text_ne h0) (by omega) ?_
        by_cases h1 : 1 < s.size
        · refine .inr ⟨by omega, by omega, ?_⟩
          rw [lead_at h1, decide_eq_false_iff_not] at hld
          rw [beq_eq_false_iff_ne]
          omega
        · exact .inl (by omega)
      · have HE := Lib.hid (dg_lead hld)
        have h1 : 1 < s.size := by
          by_cases h : 1 < s.size
          · exact h
          · rw [lead_one h] at hld; cases hld
        rw [lead_at h1, decide_eq_true_eq] at hld
        have hz : 0 < s.size := by omega
        have hq : (((s[0]'hz).toNat : Int) == 48) = true := by rw [beq_iff_eq]; omega
        have h0' : s.toList.isEmpty = false := text_ne h0
        have h18' : ¬ (18 : Int) < (s.size : Int) := by omega
        have h1' : (1 : Int) < (s.size : Int) := by omega
        clear hld h0 h18
        go_enter Tryz.func180, Tryz.ntmps180
        go_wp2_with fail
        go_ret2
        rw [rdg_no HE.out]
        exact ⟨rfl, rfl⟩
end Go.Proofs.YtjjfdlgoacockaaGreat
