/- The walks of check and hasNumbers: what is wrong ahead of the elements. -/
import Derived.Test.YtmmcfhgbjmfbaaaGreatBRows
import Derived.Test.YtmmcfhgbjmfbaaaGreatTCheck
import Derived.Test.YtmmcfhgbjmfbaaaGreatLift
import Derived.Test.YtmmcfhgbjmfbaaaGreatSSize
namespace Go.Proofs.YtmmcfhgbjmfbaaaGreat
open Go.RowKit M2 M3 M9
open M7 (nm)

theorem Bx.eleven {w W : World} {g : Nat} {a0 a1 a2 a3 a4 a5 a6 a7 a8 a9 a10 : Value} {T : TypeId} (h : Bx w g #[a0, a1, a2, a3, a4, a5, a6, a7, a8, a9, a10] T W) :
    W.cell? ⟨g, 0, none⟩ = some a0 ∧ W.cell? ⟨g, 1, none⟩ = some a1 ∧ W.cell? ⟨g, 2, none⟩ = some a2 ∧ W.cell? ⟨g, 3, none⟩ = some a3 ∧ W.cell? ⟨g, 4, none⟩ = some a4 ∧ W.cell? ⟨g, 5, none⟩ = some a5 ∧ W.cell? ⟨g, 6, none⟩ = some a6 ∧
      W.cell? ⟨g, 7, none⟩ = some a7 ∧ W.cell? ⟨g, 8, none⟩ = some a8 ∧ W.cell? ⟨g, 9, none⟩ = some a9 ∧ W.cell? ⟨g, 10, none⟩ = some a10 :=
  ⟨h.cell 0, h.cell 1, h.cell 2, h.cell 3, h.cell 4, h.cell 5, h.cell 6, h.cell 7, h.cell 8, h.cell 9, h.cell 10⟩
theorem chk_form {wh : Nat} {s : ByteArray} {k : Int} {l : List Int} (h0 : wh ≠ 0) (h1 : wh ≠ 1) : chk wh s k l = (0, 19) := by unfold chk; rw [if_pos ⟨h0, h1⟩]
theorem chk_name {wh : Nat} {s : ByteArray} {k : Int} {l : List Int} (h0 : wh = 0 ∨ wh = 1) (h1 : nm s = false) : chk wh s k l = (0, 8) := by unfold chk; rw [if_neg (by omega), if_pos h1]
theorem chk_kind {wh : Nat} {s : ByteArray} {k : Int} {l : List Int} (h0 : wh = 0 ∨ wh = 1) (h1 : nm s = true) (h2 : kSize k = 0) : chk wh s k l = (0, 5) := by unfold chk; rw [if_neg (by omega), if_neg (by simp [h1]), if_pos h2]
theorem chk_size {wh : Nat} {s : ByteArray} {k : Int} {l : List Int} (h0 : wh = 0 ∨ wh = 1) (h1 : nm s = true) (h2 : kSize k ≠ 0) : chk wh s k l = ((M5.sz l).1 * kSize k, ((M5.sz l).2 : Int)) := by unfold chk; rw [if_neg (by omega), if_neg (by simp [h1]), if_neg h2]

set_option maxRecDepth 100000 in
set_option maxHeartbeats 1000000 in
theorem check_any9 (nme : ByteArray) (k : Int) (A : Option Addr) (c : Nat) (dims : List Int) (d0 : ByteArray) (sz : Int) (wh : Nat) (d : ByteArray) (hs : Bool) (sv nv bv : Value) (w : World)
    (hn : nme.size ≤ maxLen) (hk : (Lit.int .i64 k).wf = true) (hd : SR w w.heap.size 1 A dims.length (iv dims)) (hl : dims.length ≤ maxLen) (hi : ∀ n ∈ dims, I64 n) :
    Calls Tryz.prog 58 #[wa nme k (.slice A dims.length c) d0 sz (wh : Int) d hs sv nv bv] w fun e w' => e = .returned (.tuple #[.int .i64 (chk wh nme k dims).1, .int .i64 (chk wh nme k dims).2]) ∧ Below w.heap.size w w' := by
  have HBX := Lib.hid (Bx.start w (wc nme k (.slice A dims.length c) d0 sz (wh : Int) d hs sv nv bv) 59)
  have HNM := Lib.hid (fun W => name_any nme W hn)
  have HD := Lib.hid (fun W (h : Below w.heap.size w W) => shSize_any A c dims W hl ((hd.below h).more h.size) hi)
  clear hd hi hn
  by_cases h01 : wh = 0 ∨ wh = 1
  · have H01 := Lib.hid h01
    cases hnm : nm nme
    · rw [hnm] at HNM
      have HE := Lib.hid (chk_name (k := k) (l := dims) h01 hnm)
      clear hnm
      rcases h01 with rfl | rfl
      all_goals
        go_enter Tryz.func58, Tryz.ntmps58
        go_wp2_with fail
        refine (HNM.out _).mono ?_
        rintro e w1 ⟨rfl, rfl⟩
        go_wp2_with fail
        go_ret2
        rw [HE.out]
        exact ⟨rfl, HBX.out.all⟩
    · rw [hnm] at HNM
      have HN := Lib.hid hnm
      obtain ⟨s, hsz, hs8⟩ := size_nat k
      obtain ⟨n, hcn, hn6⟩ := count_nat dims
      by_cases hs0 : s = 0
      · subst hs0
        have HE := Lib.hid (chk_kind (l := dims) h01 hnm hsz)
        have HK := Lib.hid (fun W => k_size_any k W hk)
        rw [hsz] at HK
        clear hnm hsz hcn
        rcases h01 with rfl | rfl
        all_goals
          go_enter Tryz.func58, Tryz.ntmps58
          go_wp2_with fail
          refine (HNM.out _).mono ?_
          rintro e w1 ⟨rfl, rfl⟩
          go_wp2_with fail
          refine (HK.out _).mono ?_
          rintro e w1 ⟨rfl, hb1⟩
          have H1 := Lib.hid (HBX.out.below hb1)
          clear hb1 HBX
          go_wp2_with fail
          go_ret2
          rw [HE.out]
          exact ⟨rfl, H1.out.all⟩
      · have hs0' : ¬ (s : Int) = 0 := by omega
        have HE := Lib.hid (chk_size (l := dims) h01 hnm (by rw [hsz]; exact hs0'))
        have HK := Lib.hid (fun W => k_size_any k W hk)
        rw [hsz] at HK HE
        rw [hcn] at HD HE
        have hpp := small_prod hn6 hs8
        clear hnm hsz hcn
        generalize (M5.sz dims).2 = C at *
        rcases h01 with rfl | rfl
        all_goals
          go_enter Tryz.func58, Tryz.ntmps58
          go_wp2_with fail
          refine (HNM.out _).mono ?_
          rintro e w1 ⟨rfl, rfl⟩
          go_wp2_with fail
          refine (HK.out _).mono ?_
          rintro e w1 ⟨rfl, hb1⟩
          have H1 := Lib.hid (HBX.out.below hb1)
          clear hb1 HBX
          obtain ⟨c0, c1, c2, c3, c4, c5, c6, c7, c8, c9, c10⟩ := H1.out.eleven
          go_wp2_with fail
          refine (HD.out _ H1.out.all).mono ?_
          rintro e w2 ⟨rfl, rfl⟩
          go_wp2_with fail
          go_ret2
          rw [HE.out]
          exact ⟨rfl, H1.out.all⟩
  · have hw0 : ((wh : Int) != 0) = true := by simp; omega
    have hw1 : ((wh : Int) != 1) = true := by simp; omega
    have HE := Lib.hid (chk_form (s := nme) (k := k) (l := dims) (wh := wh) (by omega) (by omega))
    clear h01
    go_enter Tryz.func58, Tryz.ntmps58
    go_wp2_with fail
    go_ret2
    rw [HE.out]
    exact ⟨rfl, HBX.out.all⟩

/-- is there a number among the elements -/
def hasN (s i : List Int) : Bool := decide (s ≠ []) || decide (i ≠ [])
theorem hasN_len (s i : List Int) : hasN s i = (decide (0 < s.length) || decide (0 < i.length)) := by
  unfold hasN
  congr 1 <;> (rw [Bool.eq_iff_iff]; simp [List.length_pos_iff])
set_option maxRecDepth 100000 in
theorem hasNumbers_any (nme : ByteArray) (k : Int) (dv : Value) (d0 : ByteArray) (sz : Int) (wh : Int) (d : ByteArray) (hs : Bool) (A B : Option Addr) (p q : Nat) (s i : List Int) (bv : Value) (w : World) :
    Calls Tryz.prog 59 #[wa nme k dv d0 sz wh d hs (.slice A s.length p) (.slice B i.length q) bv] w fun e w' => e = .returned (.bool (hasN s i)) ∧ Below w.heap.size w w' := by
  rw [hasN_len]
  generalize s.length = n
  generalize i.length = m
  by_cases h1 : 0 < n
  · have HBX := Lib.hid (Bx.start w (wc nme k dv d0 sz wh d hs (.slice A n p) (.slice B m q) bv) 59)
    have hx : (0 : Int) < (n : Int) := by omega
    have HE := Lib.hid (show (decide (0 < n) || decide (0 < m)) = true from by simp [h1])
    generalize (decide (0 < n) || decide (0 < m)) = R at *
    clear h1
    go_enter Tryz.func59, Tryz.ntmps59
    go_wp2_with fail
    go_ret
    rw [HE.out]
    exact ⟨rfl, HBX.out.all⟩
  · obtain rfl : n = 0 := by omega
    have HBX := Lib.hid (Bx.start w (wc nme k dv d0 sz wh d hs (.slice A 0 p) (.slice B m q) bv) 59)
    have HE := Lib.hid (show (decide (0 < 0) || decide (0 < m)) = decide (0 < m) from by simp)
    generalize (decide (0 < 0) || decide (0 < m)) = R at *
    by_cases h2 : 0 < m
    · have hy : (0 : Int) < (m : Int) := by omega
      have HQ := Lib.hid (decide_eq_true h2)
      clear h1 h2
      go_enter Tryz.func59, Tryz.ntmps59
      go_wp2_with fail
      go_ret
      rw [HE.out, HQ.out]
      exact ⟨rfl, HBX.out.all⟩
    · obtain rfl : m = 0 := by omega
      clear h1 h2
      go_enter Tryz.func59, Tryz.ntmps59
      go_wp2_with fail
      go_ret
      rw [HE.out]
      exact ⟨rfl, HBX.out.all⟩
end Go.Proofs.YtmmcfhgbjmfbaaaGreat
