import Derived.Test.YtjjfdlgoacockaaGreatGPut
import Derived.Lib.QuietBelow
import Derived.Test.YtjjfdlgoacockaaGreatGOut
import Derived.Test.YtjjfdlgoacockaaGreatWOpen
import Derived.WalkKit
import Derived.Test.YtjjfdlgoacockaaGreatMath
import Derived.Laws.BitsAllLaws
namespace Go.Proofs.YtjjfdlgoacockaaGreat
open Go.RowKit M6 Go.Sort

theorem set2 {w : World} {g : Nat} {t : TypeId} {a0 a1 : Value} (h : w.heap[g]? = some (.cells #[a0,a1] t (0,0))) (v0 v1 : Value) :
    ((w.setCell ⟨g,0,none⟩ v0).setCell ⟨g,1,none⟩ v1).heap[g]? = some (.cells #[v0,v1] t (0,0)) :=
  heap_setCell_same _ g 1 _ t v1 (heap_setCell_same _ g 0 _ t v0 h)
theorem cells_of2 {w : World} {g : Nat} {t : TypeId} {a0 a1 : Value} (h : w.heap[g]? = some (.cells #[a0,a1] t (0,0))) :
    w.cell? ⟨g,0,none⟩ = some a0∧w.cell? ⟨g,1,none⟩ = some a1 :=
  ⟨cell_of_row w g 0 _ t _ h,cell_of_row w g 1 _ t _ h⟩
theorem put2 {w w3 : World} {t : TypeId} {a0 a1 : Value} (hk : w3.heap[w.heap.size]? = some (.cells #[a0,a1] t (0,0))) (hb : Below w.heap.size w w3) (v0 v1 : Value) :
    ((w3.setCell ⟨w.heap.size,0,none⟩ v0).setCell ⟨w.heap.size,1,none⟩ v1).cell? ⟨w.heap.size,0,none⟩ = some v0∧((w3.setCell ⟨w.heap.size,0,none⟩ v0).setCell ⟨w.heap.size,1,none⟩ v1).cell? ⟨w.heap.size,1,none⟩ = some v1∧Below w.heap.size w ((w3.setCell ⟨w.heap.size,0,none⟩ v0).setCell ⟨w.heap.size,1,none⟩ v1) := by
  obtain ⟨c0,c1⟩ := cells_of2 (set2 hk v0 v1)
  exact ⟨c0,c1,(hb.setCell (p := ⟨w.heap.size,0,none⟩) (Nat.le_refl _) v0).setCell (p := ⟨w.heap.size,1,none⟩) (Nat.le_refl _) v1⟩
theorem rdSpec_no {b : ByteArray} (h : b.size = 8) (hno : ∀ i j : Int,i.natAbs≤1048576→j.natAbs≤1048576→pr (b.extract 0 4) 4 = sz i→pr (b.extract 4 8) 4≠sz j) : RdSpec b 0 0 17 :=
  .inr (.inr (.inr ⟨h,rfl,rfl,rfl,hno⟩))
def RRes (b : ByteArray) (w : World) (e : Ending) (w' : World) : Prop := ∃ n m c : Int,e = .returned (.tuple #[.agg #[.int .i64 n,.int .i64 m],.int .i64 c])∧RdSpec b n m c∧Below w.heap.size w w'
set_option maxRecDepth 100000 in
theorem g_rread_any (b : ByteArray) (w : World) (hb : b.size ≤ maxLen) :
    Calls Tryz.prog 95 #[.string b] w (RRes b w) := by
  unfold maxLen at hb
  have hblk := heap_alloc_new w (.cells #[.int .i64 0,.int .i64 0] 188)
  have hz : (w.alloc (.cells #[.int .i64 0,.int .i64 0] 188)).heap.size = w.heap.size + 1 := by simp
  obtain ⟨c0,c1⟩ := cells_of2 hblk
  have f0 := fun i => frozen_of_row _ w.heap.size i _ _ hblk
  have HB := Lib.hid (((Below.refl w.heap.size w).alloc (Nat.le_refl _) (.cells #[.int .i64 0,.int .i64 0] 188)))
  have HK := Lib.hid hblk
  clear hblk
  generalize hW : w.alloc (.cells #[.int .i64 0,.int .i64 0] 188) = w1 at *
  have HW := Lib.hid hW
  clear hW
  rcases Nat.lt_trichotomy b.size 8 with h | h | h
  · have h' : (b.size : Int) < 8 := by omega
    go_enter Tryz.func95,Tryz.ntmps95
    go_wp2_with fail
    rw [HW.out]
    go_wp2_with fail
    exact bodyPost_ret (v := .tuple #[.agg #[.int .i64 0,.int .i64 0],.int .i64 1]) (by simp [results,Tryz.results95,go_sem,c0,c1]) rfl ⟨0,0,1,rfl,.inl ⟨h,rfl,rfl,rfl⟩,HB.out⟩
  · have h1 : ¬ (b.size : Int) < 8 := by omega
    have h2 : ¬ 8 < (b.size : Int) := by omega
    have HP := Lib.hid (fun W => word_any (b.extract 0 4) W (by simp; omega))
    have HQ := Lib.hid (fun W => word_any (b.extract 4 8) W (by simp; omega))
    have HP2 := Lib.hid (fun W => rwhole_any (pr (b.extract 0 4) 4) W (pr_lt _ 4))
    have HQ2 := Lib.hid (fun W => rwhole_any (pr (b.extract 4 8) 4) W (pr_lt _ 4))
    have HS : Hid (∀ (n m : Int),n.natAbs≤1048576→m.natAbs≤1048576→pr (b.extract 0 4) 4 = sz n→pr (b.extract 4 8) 4 = sz m→RdSpec b n m 0) := Lib.hid fun n m hn hm e1 e2 => .inr (.inr (.inl ⟨h,rfl,hn,hm,e1,e2⟩))
    have HN := Lib.hid (rdSpec_no h)
    generalize pr (b.extract 0 4) 4 = v1 at *
    generalize pr (b.extract 4 8) 4 = v2 at *
    clear c0 c1 f0
    go_enter Tryz.func95,Tryz.ntmps95
    go_wp2_with fail
    rw [HW.out]
    refine (HP.out _).mono ?_
    rintro e w2 ⟨rfl,hb2⟩
    have hz2 := hb2.size
    have HB2 := Lib.hid (HB.out.trans (hb2.mono HB.out.size))
    have HK2 := Lib.hid ((hb2.block w.heap.size (by omega)).trans HK.out)
    clear hb2
    go_wp2_with fail
    refine (HP2.out _).mono ?_
    rintro e w2' ⟨n,bn,rfl,rfl,hn1,hn2⟩
    have HN1 := Lib.hid hn1
    have HN2 := Lib.hid hn2
    clear hn1 hn2
    go_wp2_with fail
    refine (HQ.out _).mono ?_
    rintro e w3 ⟨rfl,hb3⟩
    have hz3 := hb3.size
    have HB3 := Lib.hid (HB2.out.trans (hb3.mono HB2.out.size))
    have hblk := (hb3.block w.heap.size (by omega)).trans HK2.out
    obtain ⟨c0,c1⟩ := cells_of2 hblk
    have f0 := fun i => frozen_of_row _ w.heap.size i _ _ hblk
    have HK3 := Lib.hid hblk
    clear hb3 hblk
    go_wp2_with fail
    refine (HQ2.out _).mono ?_
    rintro e w3' ⟨m,bm,rfl,rfl,hm1,hm2⟩
    have HM1 := Lib.hid hm1
    have HM2 := Lib.hid hm2
    clear hm1 hm2 HB HB2 HK HK2
    cases hbn : bn
    · subst hbn
      go_wp2_with fail
      obtain ⟨c0,c1,hbb⟩ := put2 HK3.out HB3.out (.int .i64 0) (.int .i64 0)
      exact bodyPost_ret (v := .tuple #[.agg #[.int .i64 0,.int .i64 0],.int .i64 17]) (by simp [results,Tryz.results95,go_sem,c0,c1]) rfl ⟨0,0,17,rfl,HN.out (fun i j hi hj e1 e2 => by have := HN2.out i hi e1; simp at this),hbb⟩
    · subst hbn
      cases hbm : bm
      · subst hbm
        go_wp2_with fail
        obtain ⟨c0,c1,hbb⟩ := put2 HK3.out HB3.out (.int .i64 0) (.int .i64 0)
        exact bodyPost_ret (v := .tuple #[.agg #[.int .i64 0,.int .i64 0],.int .i64 17]) (by simp [results,Tryz.results95,go_sem,c0,c1]) rfl ⟨0,0,17,rfl,HN.out (fun i j hi hj e1 e2 => by have := HM2.out j hj e2; simp at this),hbb⟩
      · subst hbm
        go_wp2_with fail
        obtain ⟨c0,c1,hbb⟩ := put2 HK3.out HB3.out (.int .i64 n) (.int .i64 m)
        exact bodyPost_ret (v := .tuple #[.agg #[.int .i64 n,.int .i64 m],.int .i64 0]) (by simp [results,Tryz.results95,go_sem,c0,c1]) rfl ⟨n,m,0,rfl,HS.out n m (HN1.out trivial).1 (HM1.out trivial).1 (HN1.out trivial).2 (HM1.out trivial).2,hbb⟩
  · have h1 : ¬ (b.size : Int) < 8 := by omega
    have h2 : 8 < (b.size : Int) := by omega
    go_enter Tryz.func95,Tryz.ntmps95
    go_wp2_with fail
    rw [HW.out]
    go_wp2_with fail
    exact bodyPost_ret (v := .tuple #[.agg #[.int .i64 0,.int .i64 0],.int .i64 2]) (by simp [results,Tryz.results95,go_sem,c0,c1]) rfl ⟨0,0,2,rfl,.inr (.inl ⟨h,rfl,rfl,rfl⟩),HB.out⟩
end Go.Proofs.YtjjfdlgoacockaaGreat
namespace Go.Proofs.YtjjfdlgoacockaaGreat
open Go.RowKit M6
end Go.Proofs.YtjjfdlgoacockaaGreat
namespace Go.Proofs.YtjjfdlgoacockaaGreat
namespace M7
open M6 Go.RowKit Go.Sort

structure Ten where
  name : ByteArray
  kind : Int
  dims : List Int
  data : ByteArray

theorem all_range {n : Nat} {f : Nat→Bool} : (List.range n).all f = true ↔ ∀ i,i < n→f i = true := by
  simp [List.all_eq_true,List.mem_range]
def nmc (s : ByteArray) (i : Nat) : Bool := if h : i < s.size then decide (33≤s[i].toNat) && decide (s[i].toNat≤126) else true
def nm (s : ByteArray) : Bool := decide (1≤s.size) && decide (s.size≤64) && (List.range s.size).all (nmc s)
theorem nmc_at {s : ByteArray} {i : Nat} (h : i < s.size) : nmc s i = (decide (33≤s[i].toNat) && decide (s[i].toNat≤126)) := dif_pos h
theorem nm_ok {s : ByteArray} (h1 : 1≤s.size) (h2 : s.size≤64) (h : ∀ i,i < s.size→nmc s i = true) : nm s = true := by
  unfold nm; rw [decide_eq_true h1,decide_eq_true h2,all_range.2 h]; rfl
theorem nm_bad {s : ByteArray} {i : Nat} (hi : i < s.size) (h : nmc s i = false) : nm s = false := by
  cases hn : nm s
  · rfl
  · unfold nm at hn
    simp only [Bool.and_eq_true] at hn
    have := all_range.1 hn.2 i hi
    rw [h] at this; cases this
theorem nm_short {s : ByteArray} (h : s.size < 1) : nm s = false := by
  unfold nm; rw [decide_eq_false (by omega)]; rfl
theorem nm_long {s : ByteArray} (h : 64 < s.size) : nm s = false := by
  unfold nm; rw [decide_eq_false (show ¬ s.size≤64 by omega),Bool.and_false]; rfl
theorem nm_of {s : ByteArray} (h : ∀ i,i < s.size→nmc s i = true) : nm s = (decide (1≤s.size) && decide (s.size≤64)) := by
  unfold nm; rw [all_range.2 h,Bool.and_true]

def part (v : Nat) : Bool := (List.range 2097153).any fun k => v == sz ((k : Int) - 1048576)
theorem part_iff {v : Nat} : part v = true ↔ ∃ n : Int,n.natAbs≤1048576∧v = sz n := by
  unfold part
  rw [List.any_eq_true]
  constructor
  · rintro ⟨k,hk,h⟩
    rw [List.mem_range] at hk
    exact ⟨(k : Int) - 1048576,by omega,by simpa using h⟩
  · rintro ⟨n,hn,rfl⟩
    refine ⟨(n + 1048576).toNat,?_,?_⟩
    · rw [List.mem_range]; omega
    · rw [show (((n + 1048576).toNat : Nat) : Int) - 1048576 = n by omega]; exact beq_self_eq_true _
def gok (b : ByteArray) : Bool := part (pr (b.extract 0 4) 4) && part (pr (b.extract 4 8) 4)
theorem rd8 {b : ByteArray} {n m c : Int} (h : RdSpec b n m c) (hb : b.size = 8) : (c = 0∧gok b = true)∨(c = 17∧gok b = false) := by
  rcases h with ⟨s,_⟩ | ⟨s,_⟩ | ⟨s,rfl,hn,hm,e1,e2⟩ | ⟨s,rfl,rfl,rfl,hno⟩
  · omega
  · omega
  · refine .inl ⟨rfl,?_⟩
    unfold gok
    rw [part_iff.2 ⟨n,hn,e1⟩,part_iff.2 ⟨m,hm,e2⟩]; rfl
  · refine .inr ⟨rfl,?_⟩
    cases hg : gok b
    · rfl
    · unfold gok at hg
      rw [Bool.and_eq_true,part_iff,part_iff] at hg
      obtain ⟨⟨i,hi,e1⟩,j,hj,e2⟩ := hg
      exact absurd e2 (hno i j hi hj e1)
def elk (k : Int) (d : ByteArray) (j : Nat) : Bool :=
  if k = 9 then (if h : j < d.size then decide (d[j].toNat≤1) else true) else if k = 14 then gok (d.extract (j * 8) ((j + 1) * 8)) else true
theorem elk_flag {d : ByteArray} {j : Nat} (h : j < d.size) : elk 9 d j = decide (d[j].toNat≤1) := by unfold elk; rw [if_pos rfl,dif_pos h]
theorem elk_gauss (d : ByteArray) (j : Nat) : elk 14 d j = gok (d.extract (j * 8) ((j + 1) * 8)) := by unfold elk; rw [if_neg (by decide),if_pos rfl]
theorem elk_other {k : Int} (h1 : k≠9) (h2 : k≠14) (d : ByteArray) (j : Nat) : elk k d j = true := by unfold elk; rw [if_neg h1,if_neg h2]

def ck (t : Ten) : Int :=
  if nm t.name = false then 8 else if kSize t.kind = 0 then 5 else if (M5.sz t.dims).2≠0 then ((M5.sz t.dims).2 : Int) else if (t.data.size : Int)≠(M5.sz t.dims).1 * kSize t.kind then 19
  else if (List.range (M5.sz t.dims).1.toNat).all (elk t.kind t.data) then 0 else 17
theorem ck_name {t : Ten} (h : nm t.name = false) : ck t = 8 := by unfold ck; rw [if_pos h]
theorem ck_kind {t : Ten} (h : nm t.name = true) (h2 : kSize t.kind = 0) : ck t = 5 := by unfold ck; rw [if_neg (by rw [h]; decide),if_pos h2]
theorem ck_shape {t : Ten} (h : nm t.name = true) (h2 : kSize t.kind≠0) (h3 : (M5.sz t.dims).2≠0) : ck t = ((M5.sz t.dims).2 : Int) := by
  unfold ck; rw [if_neg (by rw [h]; decide),if_neg h2,if_pos h3]
theorem ck_form {t : Ten} (h : nm t.name = true) (h2 : kSize t.kind≠0) (h3 : (M5.sz t.dims).2 = 0) (h4 : (t.data.size : Int)≠(M5.sz t.dims).1 * kSize t.kind) : ck t = 19 := by
  unfold ck; rw [if_neg (by rw [h]; decide),if_neg h2,if_neg (by rw [h3]; decide),if_pos h4]
theorem ck_bad {t : Ten} (h : nm t.name = true) (h2 : kSize t.kind≠0) (h3 : (M5.sz t.dims).2 = 0) (h4 : (t.data.size : Int) = (M5.sz t.dims).1 * kSize t.kind) {j : Nat} (hj : (j : Int) < (M5.sz t.dims).1)
    (h5 : elk t.kind t.data j = false) : ck t = 17 := by
  unfold ck; rw [if_neg (by rw [h]; decide),if_neg h2,if_neg (by rw [h3]; decide),if_neg (by rw [h4]; simp)]
  rw [if_neg]
  intro ha
  have := all_range.1 ha j (by omega)
  rw [h5] at this; cases this
theorem ck_ok {t : Ten} (h : nm t.name = true) (h2 : kSize t.kind≠0) (h3 : (M5.sz t.dims).2 = 0) (h4 : (t.data.size : Int) = (M5.sz t.dims).1 * kSize t.kind) (h5 : ∀ j : Nat,(j : Int) < (M5.sz t.dims).1→elk t.kind t.data j = true) : ck t = 0 := by
  unfold ck; rw [if_neg (by rw [h]; decide),if_neg h2,if_neg (by rw [h3]; decide),if_neg (by rw [h4]; simp)]
  rw [if_pos (all_range.2 fun i hi => h5 i (by omega))]
theorem ck_zero {t : Ten} (h : ck t = 0) : nm t.name = true ∧ kSize t.kind ≠ 0 ∧ (M5.sz t.dims).2 = 0 ∧ (t.data.size : Int) = (M5.sz t.dims).1 * kSize t.kind ∧ ∀ j : Nat, (j : Int) < (M5.sz t.dims).1 → elk t.kind t.data j = true := by
  cases hn : nm t.name
  · rw [ck_name hn] at h; cases h
  · by_cases h2 : kSize t.kind = 0
    · rw [ck_kind hn h2] at h; cases h
    · by_cases h3 : (M5.sz t.dims).2 = 0
      · by_cases h4 : (t.data.size : Int) = (M5.sz t.dims).1 * kSize t.kind
        · refine ⟨rfl,h2,h3,h4,fun j hj => ?_⟩
          cases h5 : elk t.kind t.data j
          · rw [ck_bad hn h2 h3 h4 hj h5] at h; cases h
          · rfl
        · rw [ck_form hn h2 h3 h4] at h; cases h
      · rw [ck_shape hn h2 h3] at h; omega
theorem kSize_is (k : Int) : kSize k = 0∨kSize k = 1∨kSize k = 4∨kSize k = 8 := by
  unfold kSize
  split; · omega
  split; · omega
  split; · omega
  split; · omega
  split <;> omega
theorem kSize_flag {k : Int} (h : k = 9) : kSize k = 1 := by subst h; decide
theorem kSize_gauss {k : Int} (h : k = 14) : kSize k = 8 := by subst h; decide

/-! whole numbers of eight bytes -/
def sg (v : Nat) : Int := wrap64 (v : Int)
def us (n : Int) : Nat := (IntKind.u64.wrap n).toNat
theorem us_eq (n : Int) : IntKind.u64.wrap n = ((us n : Nat) : Int) := by
  unfold us; rw [IntKind.wrap_u64]; omega
theorem us_lt (n : Int) : us n < 18446744073709551616 := by
  unfold us; rw [IntKind.wrap_u64]; omega
theorem sg_in (v : Nat) : I64 (sg v) := by unfold sg wrap64 I64; omega
def hp (s : ByteArray) (k : Nat) : Nat := pr s 8 / 256 ^ k
end M7
end Go.Proofs.YtjjfdlgoacockaaGreat
namespace Go.Proofs.YtjjfdlgoacockaaGreat
open Go.RowKit M7

theorem nmc_yes {s : ByteArray} {k : Nat} (h : k < s.size) (h1 : ¬ (s[k].toNat : Int) < 33) (h2 : ¬ 126 < (s[k].toNat : Int)) : nmc s k = true := by
  rw [nmc_at h,decide_eq_true (by omega),decide_eq_true (by omega)]; rfl
theorem nmc_low {s : ByteArray} {k : Nat} (h : k < s.size) (h1 : (s[k].toNat : Int) < 33) : nmc s k = false := by
  rw [nmc_at h,decide_eq_false (by omega)]; rfl
theorem nmc_high {s : ByteArray} {k : Nat} (h : k < s.size) (h2 : 126 < (s[k].toNat : Int)) : nmc s k = false := by
  rw [nmc_at h,decide_eq_false (p := s[k].toNat≤126) (by omega),Bool.and_false]
theorem succ_all {Q : Nat→Prop} {k : Nat} (h : ∀ i,i < k→Q i) (hk : Q k) : ∀ i,i < k + 1→Q i := by
  intro i hi
  by_cases he : i = k
  · rw [he]; exact hk
  · exact h i (by omega)

set_option maxRecDepth 100000 in
theorem name_any (s : ByteArray) (w : World) (hs : s.size ≤ maxLen) :
    Calls Tryz.prog 124 #[.string s] w fun e w' => e = .returned (.bool (nm s))∧w = w' := by
  unfold maxLen at hs
  by_cases h1 : s.size < 1
  · have HE := Lib.hid (nm_short h1)
    have h1' : (s.size : Int) < 1 := by omega
    clear h1
    go_enter Tryz.func124,Tryz.ntmps124
    go_wp2_with fail
    go_ret
    rw [HE.out]
    exact ⟨rfl,rfl⟩
  · have h1' : ¬ (s.size : Int) < 1 := by omega
    by_cases h2 : 64 < s.size
    · have HE := Lib.hid (nm_long h2)
      have h2' : 64 < (s.size : Int) := by omega
      clear h1 h2
      go_enter Tryz.func124,Tryz.ntmps124
      go_wp2_with fail
      go_ret
      rw [HE.out]
      exact ⟨rfl,rfl⟩
    · have h2' : ¬ 64 < (s.size : Int) := by omega
      go_enter Tryz.func124,Tryz.ntmps124
      go_wp2_with fail
      go_loop [3,14] (fun _ i => ∃ (k : Nat) (K : Int),i = .int .i64 K∧K = (k : Nat)∧k≤s.size∧∀ i,i < k→nmc s i = true) (fun _ i => s.size - (intOf i).toNat)
      case atStart => exact ⟨0,_,rfl,rfl,by omega,by intro i hi; omega⟩
      case round =>
        obtain ⟨k,K,rfl,rfl,hk,hall⟩ := hrel
        by_cases hlt : k < s.size
        · have HY := Lib.hid (fun h1 h2 => succ_all hall (nmc_yes hlt h1 h2))
          have HL := Lib.hid (fun h => nm_bad hlt (nmc_low hlt h))
          have HH := Lib.hid (fun h => nm_bad hlt (nmc_high hlt h))
          clear hall
          by_cases ha : (s[k].toNat : Int) < 33
          · have HE := Lib.hid (HL.out ha)
            clear HL HY HH
            go_wp2_with fail
            go_ret
            rw [HE.out]
            exact ⟨rfl,rfl⟩
          · by_cases hb : 126 < (s[k].toNat : Int)
            · have HE := Lib.hid (HH.out hb)
              clear HL HY HH
              go_wp2_with fail
              go_ret
              rw [HE.out]
              exact ⟨rfl,rfl⟩
            · have HE := Lib.hid (HY.out ha hb)
              clear HL HY HH
              go_wp2_with fail
              go_round
              case rel => exact ⟨k + 1,_,rfl,by omega,by omega,HE.out⟩
              case measure => simp [intOf]; omega
        · obtain rfl : k = s.size := by omega
          have HE := Lib.hid (nm_ok (by omega) (by omega) hall)
          clear hall
          go_wp2_with fail
          go_ret
          rw [HE.out]
          exact ⟨rfl,rfl⟩

set_option maxRecDepth 100000 in
theorem rname_any (s : ByteArray) (w : World) (hs : s.size ≤ maxLen) :
    Calls Tryz.prog 53 #[.string s] w fun e w' => e = .returned (.bool (nm s))∧w = w' := by
  unfold maxLen at hs
  go_enter Tryz.func53,Tryz.ntmps53
  go_wp2_with fail
  go_loop [3] (fun i => ∃ (k : Nat) (K : Int),i = .int .i64 K∧K = (k : Nat)∧k≤s.size∧∀ i,i < k→nmc s i = true) (fun i => s.size - (intOf i).toNat)
  case atStart => exact ⟨0,_,rfl,rfl,by omega,by intro i hi; omega⟩
  case round =>
    obtain ⟨k,K,rfl,rfl,hk,hall⟩ := hrel
    by_cases hlt : k < s.size
    · have HY := Lib.hid (fun h1 h2 => succ_all hall (nmc_yes hlt h1 h2))
      have HL := Lib.hid (fun h => nm_bad hlt (nmc_low hlt h))
      have HH := Lib.hid (fun h => nm_bad hlt (nmc_high hlt h))
      clear hall
      by_cases ha : (s[k].toNat : Int) < 33
      · have HE := Lib.hid (HL.out ha)
        clear HL HY HH
        go_wp2_with fail
        go_ret
        rw [HE.out]
        exact ⟨rfl,rfl⟩
      · by_cases hb : 126 < (s[k].toNat : Int)
        · have HE := Lib.hid (HH.out hb)
          clear HL HY HH
          go_wp2_with fail
          go_ret
          rw [HE.out]
          exact ⟨rfl,rfl⟩
        · have HE := Lib.hid (HY.out ha hb)
          clear HL HY HH
          go_wp2_with fail
          go_round
          case rel => exact ⟨k + 1,_,rfl,by omega,by omega,HE.out⟩
          case measure => simp [intOf]; omega
    · obtain rfl : k = s.size := by omega
      have HE := Lib.hid (nm_of hall)
      clear hall
      by_cases h1 : 1≤s.size
      · have h1' : (1 : Int)≤(s.size : Int) := by omega
        by_cases h2 : s.size≤64
        · have h2' : (s.size : Int)≤64 := by omega
          have HF : Hid (nm s = true) := Lib.hid (by rw [HE.out,decide_eq_true h1,decide_eq_true h2]; rfl)
          go_wp2_with fail
          go_ret
          rw [HF.out]
          exact ⟨rfl,rfl⟩
        · have h2' : ¬ (s.size : Int)≤64 := by omega
          have HF : Hid (nm s = false) := Lib.hid (by rw [HE.out,decide_eq_true h1,decide_eq_false h2]; rfl)
          go_wp2_with fail
          go_ret
          rw [HF.out]
          exact ⟨rfl,rfl⟩
      · have h1' : ¬ (1 : Int)≤(s.size : Int) := by omega
        have HF : Hid (nm s = false) := Lib.hid (by rw [HE.out,decide_eq_false h1]; rfl)
        go_wp2_with fail
        go_ret
        rw [HF.out]
        exact ⟨rfl,rfl⟩
end Go.Proofs.YtjjfdlgoacockaaGreat
namespace Go.Proofs.YtjjfdlgoacockaaGreat
theorem text_ext {a b : ByteArray} (h : a.toList = b.toList) : a = b := by
  rw [ByteArray.toList_eq,ByteArray.toList_eq] at h
  exact ByteArray.ext (Array.ext' h)
theorem teq_yes {a b : ByteArray} (h : a = b) : (a.toList == b.toList) = true := by rw [h]; exact beq_self_eq_true _
theorem teq_no {a b : ByteArray} (h : a≠b) : (a.toList == b.toList) = false := by
  rw [beq_eq_false_iff_ne]
  exact fun e => h (text_ext e)
end Go.Proofs.YtjjfdlgoacockaaGreat
namespace Go.Proofs.YtjjfdlgoacockaaGreat
open Go.RowKit M6 M7

abbrev t_tv (nme : ByteArray) (k : Int) (v : Value) (d : ByteArray) : Value := .agg #[.string nme,.int .i64 k,v,.string d]
theorem cut_prod {i k n : Nat} (h : (i + 1) * k≤n) : 0≤(i : Int) * (k : Int)∧(i : Int) * (k : Int)≤((i : Int) + 1) * (k : Int)∧((i : Int) + 1) * (k : Int)≤(n : Int)∧(((i : Int) + 1) * (k : Int)).toNat = (i + 1) * k∧((i : Int) * (k : Int)).toNat = i * k := by
  have h0 : i * k≤(i + 1) * k := Nat.mul_le_mul_right _ (by omega)
  have e1 : (i : Int) * (k : Int) = ((i * k : Nat) : Int) := by rw [Int.natCast_mul]
  have e2 : ((i : Int) + 1) * (k : Int) = (((i + 1) * k : Nat) : Int) := by rw [Int.natCast_mul]; rfl
  rw [e1,e2]
  omega

set_option maxRecDepth 100000 in
theorem t_cut_any (nme : ByteArray) (kd : Int) (A : Option Addr) (l c : Nat) (d : ByteArray) (i k : Nat) (w : World) (hd : d.size≤maxLen) (h : (i + 1) * k≤d.size) (hi : i≤140737488355328) :
    Calls Tryz.prog 132 #[t_tv nme kd (.slice A l c) d,.int .i64 i,.int .i64 k] w fun e w' => e = .returned (.string (d.extract (i * k) ((i + 1) * k)))∧Below w.heap.size w w' := by
  unfold maxLen at hd
  obtain ⟨p0,p1,p2,p3,p4⟩ := cut_prod h
  clear h
  go_enter Tryz.func132,Tryz.ntmps132
  go_wp2_with fail
  go_ret
  exact ⟨rfl,(Below.refl _ _).alloc (Nat.le_refl _) _⟩

def t_mayB (k : Int) (b : ByteArray) : Bool := if k = 9 then (decide (b = ⟨#[0]⟩) || decide (b = ⟨#[1]⟩)) else if k = 14 then gok b else true
theorem one_byte {d : ByteArray} {j : Nat} (h : j < d.size) : d.extract j (j + 1) = ⟨#[d[j]]⟩ := by
  refine ByteArray.ext ?_
  rw [ByteArray.data_extract]
  have h' : j < d.data.size := h
  refine Array.ext (by simp; omega) ?_
  intro i h1 h2
  obtain rfl : i = 0 := by simp at h2; omega
  simp
  rfl
theorem l0 : (⟨#[0]⟩ : ByteArray).toList = [0] := by decide +kernel
theorem l1 : (⟨#[1]⟩ : ByteArray).toList = [1] := by decide +kernel
theorem byte_is {x y : UInt8} : (⟨#[x]⟩ : ByteArray) = ⟨#[y]⟩ ↔ x = y := by
  constructor
  · intro h; injection h with h; simpa using h
  · rintro rfl; rfl
theorem may_elk {k : Int} {d : ByteArray} {j : Nat} (h : (j + 1) * (kSize k).toNat≤d.size) : t_mayB k (d.extract (j * (kSize k).toNat) ((j + 1) * (kSize k).toNat)) = elk k d j := by
  unfold t_mayB
  by_cases h9 : k = 9
  · subst h9
    rw [show (kSize 9).toNat = 1 by decide] at h ⊢
    have hj : j < d.size := by omega
    rw [if_pos rfl,elk_flag hj,Nat.mul_one,Nat.mul_one,one_byte hj]
    have hx := UInt8.toNat_lt d[j]
    generalize d[j] = x at *
    rw [Bool.eq_iff_iff]
    simp only [Bool.or_eq_true,decide_eq_true_iff,byte_is]
    constructor
    · rintro (rfl | rfl) <;> decide
    · intro hle
      rcases (by omega : x.toNat = 0∨x.toNat = 1) with e | e
      · exact .inl (UInt8.toNat_inj.1 e)
      · exact .inr (UInt8.toNat_inj.1 e)
  · by_cases h14 : k = 14
    · subst h14
      rw [if_neg h9,if_pos rfl,elk_gauss,show (kSize 14).toNat = 8 by decide]
    · rw [if_neg h9,if_neg h14,elk_other h9 h14]

set_option maxRecDepth 100000 in
theorem t_may_any (k : Int) (b : ByteArray) (w : World) (hb : k = 14 → b.size = 8) :
    Calls Tryz.prog 131 #[.int .i64 k,.string b] w fun e w' => e = .returned (.bool (t_mayB k b))∧Below w.heap.size w w' := by
  by_cases h9 : k = 9
  · subst h9
    by_cases h0 : b = ⟨#[0]⟩
    · have HE : Hid (t_mayB 9 b = true) := Lib.hid (by unfold t_mayB; rw [if_pos rfl,decide_eq_true h0]; rfl)
      have ht : (b.toList == [0]) = true := l0 ▸ teq_yes h0
      clear hb h0
      go_enter Tryz.func131,Tryz.ntmps131
      go_wp2_with fail
      go_ret
      rw [HE.out]
      exact ⟨rfl,Below.refl _ _⟩
    · have ht : (b.toList == [0]) = false := l0 ▸ teq_no h0
      by_cases h1 : b = ⟨#[1]⟩
      · have HE : Hid (t_mayB 9 b = true) := Lib.hid (by unfold t_mayB; rw [if_pos rfl,decide_eq_true h1,Bool.or_true])
        have ht : (b.toList == [1]) = true := l1 ▸ teq_yes h1
        clear hb h0 h1
        go_enter Tryz.func131,Tryz.ntmps131
        go_wp2_with fail
        go_ret
        rw [HE.out]
        exact ⟨rfl,Below.refl _ _⟩
      · have HE : Hid (t_mayB 9 b = false) := Lib.hid (by unfold t_mayB; rw [if_pos rfl,decide_eq_false h0,decide_eq_false h1]; rfl)
        have ht : (b.toList == [1]) = false := l1 ▸ teq_no h1
        clear hb h0 h1
        go_enter Tryz.func131,Tryz.ntmps131
        go_wp2_with fail
        go_ret
        rw [HE.out]
        exact ⟨rfl,Below.refl _ _⟩
  · have h9' : (k == 9) = false := by simpa using h9
    by_cases h14 : k = 14
    · subst h14
      have hb8 := hb rfl
      have HR := Lib.hid (fun W => gread_any b W (by unfold maxLen; omega))
      have HE : Hid (∀ n m c,RdSpec b n m c→(c = 0∧t_mayB 14 b = true)∨(c = 17∧t_mayB 14 b = false)) := Lib.hid (fun n m c h => by unfold t_mayB; rw [if_neg (by decide),if_pos rfl]; exact rd8 h hb8)
      clear hb hb8 h9
      go_enter Tryz.func131,Tryz.ntmps131
      go_wp2_with fail
      refine (HR.out _).mono ?_
      rintro e w1 ⟨n,m,c,rfl,hs,hb1⟩
      have HB := Lib.hid hb1
      have hc := HE.out _ _ _ hs
      clear hs hb1 HE
      rcases hc with ⟨rfl,hm⟩ | ⟨rfl,hm⟩
      · have HM := Lib.hid hm
        clear hm
        go_wp2_with fail
        go_ret
        rw [HM.out]
        exact ⟨rfl,HB.out⟩
      · have HM := Lib.hid hm
        clear hm
        go_wp2_with fail
        go_ret
        rw [HM.out]
        exact ⟨rfl,HB.out⟩
    · have h14' : (k == 14) = false := by simpa using h14
      have HE : Hid (t_mayB k b = true) := Lib.hid (by unfold t_mayB; rw [if_neg h9,if_neg h14])
      clear hb h9 h14
      go_enter Tryz.func131,Tryz.ntmps131
      go_wp2_with fail
      go_ret
      rw [HE.out]
      exact ⟨rfl,Below.refl _ _⟩
end Go.Proofs.YtjjfdlgoacockaaGreat
namespace Go.Proofs.YtjjfdlgoacockaaGreat
open Go.RowKit M6 M7

end Go.Proofs.YtjjfdlgoacockaaGreat
