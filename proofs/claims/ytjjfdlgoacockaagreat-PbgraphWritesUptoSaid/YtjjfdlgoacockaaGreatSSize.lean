import Derived.Test.YtjjfdlgoacockaaGreatOpenRow
import Derived.Test.YtjjfdlgoacockaaGreatWOpen
import Derived.BigQuiet
import Derived.OwnWalk
namespace Go.Proofs.YtjjfdlgoacockaaGreat
open Go.RowKit M5

theorem take_succ_nn {l : List Int} {k : Nat} {Q : Int → Prop} (h : ∀ x ∈ l.take k, Q x) (hlt : k < l.length) (hq : Q l[k]) : ∀ x ∈ l.take (k + 1), Q x := by
  intro x hx
  rw [List.take_succ_eq_append_getElem hlt] at hx
  rcases List.mem_append.1 hx with hx | hx
  · exact h x hx
  · simp at hx; rw [hx]; exact hq
theorem one_le_of {u : Int} (h0 : ¬ u < 0) (h : (u == 0) = false) : 1 ≤ u := by
  have : ¬ u = 0 := by simpa using h
  omega

set_option maxRecDepth 100000 in
theorem shSize_any (A : Option Addr) (c : Nat) (l : List Int) (w : World) (hl : l.length ≤ maxLen) (ha : SR w w.heap.size 1 A l.length (iv l)) (hin : ∀ n ∈ l, I64 n) :
    Calls Tryz.prog 130 #[.slice A l.length c] w fun e w' => e = .returned (.tuple #[.int .i64 (sz l).1, .int .i64 ((sz l).2 : Int)]) ∧ w = w' := by
  unfold maxLen at hl
  have HI := Lib.hid hin
  clear hin
  by_cases h8 : 8 < l.length
  · have h8' : (8 : Int) < (l.length : Int) := by omega
    have HE := Lib.hid (sz_long h8)
    clear h8 ha
    go_enter Tryz.func130, Tryz.ntmps130
    go_wp2_with fail
    go_ret2
    rw [HE.out]
    exact ⟨rfl, rfl⟩
  · have h8' : (l.length : Int) ≤ 8 := by omega
    go_enter Tryz.func130, Tryz.ntmps130
    go_wp2_with fail
    go_loop [4, 12] (fun _ i => ∃ (k : Nat) (K : Int), i = .int .i64 K ∧ K = (k : Nat) ∧ k ≤ l.length ∧ ∀ x ∈ l.take k, 0 ≤ x) (fun _ i => l.length - (intOf i).toNat)
    case atStart => exact ⟨0, _, rfl, rfl, by omega, by simp⟩
    case round =>
      obtain ⟨k, K, rfl, rfl, hk, hnn⟩ := hrel
      by_cases hlt : k < l.length
      · obtain ⟨b1, o1, rfl, hb1, x0⟩ := int_at ha hlt
        have HN := Lib.hid (take_succ_nn hnn hlt)
        have HM := Lib.hid (List.getElem_mem hlt)
        have HG := Lib.hid (fun h => sz_neg (List.getElem_mem hlt) h)
        generalize l[k] = u at *
        by_cases hu : u < 0
        · have HE := Lib.hid (HG.out hu)
          clear ha hnn
          go_wp2_with fail
          go_ret2
          rw [HE.out]
          exact ⟨rfl, rfl⟩
        · have HE := Lib.hid (HN.out (by omega))
          clear hnn
          go_wp2_with fail
          go_round
          case rel => exact ⟨k + 1, _, rfl, by omega, by omega, HE.out⟩
          case measure => simp [intOf]; omega
      · obtain rfl : k = l.length := by omega
        rw [List.take_length] at hnn
        have HN := Lib.hid hnn
        clear hnn
        go_wp2_with fail
        go_loop [5, 6, 23] (fun s _ i => ∃ (k : Nat) (K S : Int), i = .int .i64 K ∧ K = (k : Nat) ∧ k ≤ l.length ∧ s = .int .i64 S ∧ S = cap (l.take k) ∧ 0 ≤ S ∧ S ≤ 65537 ∧ ∀ x ∈ l.take k, x ≤ 65536) (fun _ _ i => l.length - (intOf i).toNat)
        case atStart => exact ⟨0, _, _, rfl, rfl, by omega, rfl, (by rw [List.take_zero]; decide), by omega, by omega, by simp⟩
        case round =>
          obtain ⟨k, K, S, rfl, rfl, hk, rfl, hS, hS0, hS1, hgr⟩ := hrel
          have HS := Lib.hid hS
          clear hS
          by_cases hlt : k < l.length
          · obtain ⟨b1, o1, rfl, hb1, x0⟩ := int_at ha hlt
            have hu0 := HN.out l[k] (List.getElem_mem hlt)
            have HG := Lib.hid (take_succ_nn hgr hlt)
            have HT := Lib.hid (fun h => sz_great (by omega) HN.out (List.getElem_mem hlt) h)
            have hcs := cap_snoc (l := l.take k) (fun x hx => HN.out x (List.mem_of_mem_take hx)) hu0
            rw [← List.take_succ_eq_append_getElem hlt, ← HS.out] at hcs
            have HC := Lib.hid hcs
            clear hcs hgr
            generalize l[k] = u at *
            by_cases hu : 65536 < u
            · have HE := Lib.hid (HT.out hu)
              clear ha
              go_wp2_with fail
              go_ret2
              rw [HE.out]
              exact ⟨rfl, rfl⟩
            · have HE := Lib.hid (HG.out (by omega))
              have hm0 : 0 ≤ S * u := Int.mul_nonneg hS0 hu0
              have hm1 : S * u ≤ 65537 * 65536 := Int.mul_le_mul hS1 (by omega) hu0 (by omega)
              go_wp2_with fail
              go_round
              case rel => exact ⟨k + 1, _, _, rfl, by omega, by omega, rfl, (by rw [HC.out]; split <;> omega), by split <;> omega, by split <;> omega, HE.out⟩
              case measure => simp [intOf]; omega
          · obtain rfl : k = l.length := by omega
            rw [List.take_length] at hgr HS
            have hp := prd_nonneg HN.out
            have hcp : cap l = min (prd l) 65537 := rfl
            have hS := HS.out
            by_cases hm : 65536 < prd l
            · obtain rfl : S = 65537 := by omega
              have HE := Lib.hid (sz_much (by omega) HN.out hm)
              clear hgr ha hcp hS
              go_wp2_with fail
              go_ret2
              rw [HE.out]
              exact ⟨rfl, rfl⟩
            · obtain rfl : S = prd l := by omega
              have HE := Lib.hid (sz_ok ⟨by omega, HN.out, hgr, by omega⟩)
              clear hgr ha hcp hS
              generalize prd l = S at *
              go_wp2_with fail
              go_ret2
              rw [HE.out]
              exact ⟨rfl, rfl⟩

set_option maxRecDepth 100000 in
theorem shRefSize_any (A : Option Addr) (c : Nat) (l : List Int) (w : World) (hl : l.length ≤ maxLen) (ha : SR w w.heap.size 1 A l.length (iv l)) (hin : ∀ n ∈ l, I64 n) :
    Calls Tryz.prog 83 #[.slice A l.length c] w fun e w' => e = .returned (.tuple #[.int .i64 (sz l).1, .int .i64 ((sz l).2 : Int)]) ∧ w = w' := by
  unfold maxLen at hl
  have HI := Lib.hid hin
  clear hin
  by_cases h8 : 8 < l.length
  · have h8' : (8 : Int) < (l.length : Int) := by omega
    have HE := Lib.hid (sz_long h8)
    clear h8 ha
    go_enter Tryz.func83, Tryz.ntmps83
    go_wp2_with fail
    go_ret2
    rw [HE.out]
    exact ⟨rfl, rfl⟩
  · have h8' : (l.length : Int) ≤ 8 := by omega
    go_enter Tryz.func83, Tryz.ntmps83
    go_wp2_with fail
    go_loop [4, 5, 6] (fun g z i => ∃ (k : Nat) (K : Int) (G Z : Bool), i = .int .i64 K ∧ K = (k : Nat) ∧ k ≤ l.length ∧ g = .bool G ∧ z = .bool Z ∧ (∀ x ∈ l.take k, 0 ≤ x) ∧ (G = true → ∃ x ∈ l, 65536 < x) ∧ (G = false → ∀ x ∈ l.take k, x ≤ 65536) ∧ (Z = true → (0 : Int) ∈ l) ∧ (Z = false → ∀ x ∈ l.take k, 1 ≤ x)) (fun _ _ i => l.length - (intOf i).toNat)
    case atStart => exact ⟨0, _, _, _, rfl, rfl, by omega, rfl, rfl, by simp, by simp, by simp, by simp, by simp⟩
    case round =>
      obtain ⟨k, K, G, Z, rfl, rfl, hk, rfl, rfl, hnn, hG1, hG0, hZ1, hZ0⟩ := hrel
      by_cases hlt : k < l.length
      · obtain ⟨b1, o1, rfl, hb1, x0⟩ := int_at ha hlt
        have HN := Lib.hid (take_succ_nn hnn hlt)
        have HM := Lib.hid (List.getElem_mem hlt)
        have HG := Lib.hid (fun h => sz_neg (List.getElem_mem hlt) h)
        have HG1 := Lib.hid hG1
        have HG0 := Lib.hid (fun h => take_succ_nn (hG0 h) hlt)
        have HZ1 := Lib.hid hZ1
        have HZ0 := Lib.hid (fun h => take_succ_nn (hZ0 h) hlt)
        generalize l[k] = u at *
        clear hnn hG1 hG0 hZ1 hZ0
        by_cases hu : u < 0
        · have HE := Lib.hid (HG.out hu)
          clear ha
          go_wp2_with fail
          go_ret2
          rw [HE.out]
          exact ⟨rfl, rfl⟩
        · have HE := Lib.hid (HN.out (by omega))
          cases G <;> cases Z
          · go_wp2_with fail
            go_round
            case rel => exact ⟨k + 1, _, _, _, rfl, by omega, by omega, rfl, rfl, HE.out, fun h => ⟨_, HM.out, by simpa using h⟩, fun h => HG0.out rfl (by simpa using h), fun h => (by simpa using h : u = 0) ▸ HM.out, fun h => HZ0.out rfl (one_le_of hu h)⟩
            case measure => simp [intOf]; omega
          · go_wp2_with fail
            go_round
            case rel => exact ⟨k + 1, _, _, _, rfl, by omega, by omega, rfl, rfl, HE.out, fun h => ⟨_, HM.out, by simpa using h⟩, fun h => HG0.out rfl (by simpa using h), fun _ => HZ1.out rfl, fun h => by cases h⟩
            case measure => simp [intOf]; omega
          · go_wp2_with fail
            go_round
            case rel => exact ⟨k + 1, _, _, _, rfl, by omega, by omega, rfl, rfl, HE.out, fun _ => HG1.out rfl, (fun h => by cases h), fun h => (by simpa using h : u = 0) ▸ HM.out, fun h => HZ0.out rfl (one_le_of hu h)⟩
            case measure => simp [intOf]; omega
          · go_wp2_with fail
            go_round
            case rel => exact ⟨k + 1, _, _, _, rfl, by omega, by omega, rfl, rfl, HE.out, fun _ => HG1.out rfl, (fun h => by cases h), fun _ => HZ1.out rfl, fun h => by cases h⟩
            case measure => simp [intOf]; omega
      · obtain rfl : k = l.length := by omega
        rw [List.take_length] at hnn hG0 hZ0
        cases G
        · have HP := Lib.hid (hG0 rfl)
          have HN := Lib.hid hnn
          cases Z
          · have HO := Lib.hid (hZ0 rfl)
            clear hnn hG1 hG0 hZ1 hZ0
            go_wp2_with fail
            go_loop [7, 8] (fun s i => ∃ (k : Nat) (K S : Int), i = .int .i64 K ∧ K = (k : Nat) ∧ k ≤ l.length ∧ s = .int .i64 S ∧ S = prd (l.take k) ∧ 0 ≤ S ∧ S ≤ 65536) (fun _ i => l.length - (intOf i).toNat)
            case atStart => exact ⟨0, _, _, rfl, rfl, by omega, rfl, (by rw [List.take_zero]; rfl), by omega, by omega⟩
            case round =>
              obtain ⟨k, K, S, rfl, rfl, hk, rfl, hS, hS0, hS1⟩ := hrel
              by_cases hlt : k < l.length
              · obtain ⟨b1, o1, rfl, hb1, x0⟩ := int_at ha hlt
                have hu0 := HO.out l[k] (List.getElem_mem hlt)
                have hu1 := HP.out l[k] (List.getElem_mem hlt)
                have hpk := prd_snoc (l.take k) l[k]
                rw [← List.take_succ_eq_append_getElem hlt, ← hS] at hpk
                have hmore : prd (l.take (k + 1)) ≤ prd l := by
                  have := prd_le_mul (a := l.take (k + 1)) (b := l.drop (k + 1)) (fun x hx => HO.out x (List.mem_of_mem_take hx)) (fun x hx => HO.out x (List.mem_of_mem_drop hx))
                  rwa [List.take_append_drop] at this
                rw [hpk] at hmore
                have HK := Lib.hid hpk
                clear hpk hS
                generalize l[k] = u at *
                have hm0 : 0 ≤ S * u := Int.mul_nonneg hS0 (by omega)
                have hm1 : S * u ≤ 65536 * 65536 := Int.mul_le_mul hS1 (by omega) (by omega) (by omega)
                by_cases hm : 65536 < S * u
                · have HE := Lib.hid (sz_much (by omega) HN.out (show 65536 < prd l by omega))
                  clear ha hmore
                  go_wp2_with fail
                  go_ret2
                  rw [HE.out]
                  exact ⟨rfl, rfl⟩
                · clear hmore
                  go_wp2_with fail
                  go_round
                  case rel => exact ⟨k + 1, _, _, rfl, by omega, by omega, rfl, HK.out.symm, by omega, by omega⟩
                  case measure => simp [intOf]; omega
              · obtain rfl : k = l.length := by omega
                rw [List.take_length] at hS
                have HE := Lib.hid (sz_ok ⟨by omega, HN.out, HP.out, by omega⟩)
                rw [← hS] at HE
                clear ha hS
                go_wp2_with fail
                go_ret2
                rw [HE.out]
                exact ⟨rfl, rfl⟩
          · have hz := prd_zero (hZ1 rfl)
            have HE := Lib.hid (sz_ok ⟨by omega, HN.out, HP.out, by omega⟩)
            rw [hz] at HE
            have hpos := List.length_pos_of_mem (hZ1 rfl)
            clear hnn hG1 hG0 hZ1 hZ0 ha hz
            go_wp2_with fail
            go_loop [7, 8] (fun s i => s = .int .i64 1 ∧ i = .int .i64 0) (fun _ _ => 0)
            case atStart => exact ⟨rfl, rfl⟩
            case round =>
              obtain ⟨rfl, rfl⟩ := hrel
              have hpos' : (0 : Int) < (l.length : Int) := by omega
              go_wp2_with fail
              go_ret2
              rw [HE.out]
              exact ⟨rfl, rfl⟩
        · obtain ⟨x, hx, hx2⟩ := hG1 rfl
          have HE := Lib.hid (sz_great (by omega) hnn hx hx2)
          clear hnn hG1 hG0 hZ1 hZ0 ha hx
          go_wp2_with fail
          go_ret2
          rw [HE.out]
          exact ⟨rfl, rfl⟩
end Go.Proofs.YtjjfdlgoacockaaGreat
namespace Go.Proofs.YtjjfdlgoacockaaGreat
open Go.RowKit
theorem take_same_yes {l m : List Int} {k : Nat} (h : l.take k = m.take k) (h1 : k < l.length) (h2 : k < m.length) (he : l[k] = m[k]) : l.take (k + 1) = m.take (k + 1) := by
  rw [List.take_succ_eq_append_getElem h1, List.take_succ_eq_append_getElem h2, h, he]
theorem take_same_no {l m : List Int} {k : Nat} (h1 : k < l.length) (h2 : k < m.length) (he : l[k] ≠ m[k]) : l ≠ m := by
  rintro rfl; exact he rfl
theorem take_same_all {l m : List Int} (hl : l.length = m.length) (h : l.take m.length = m.take m.length) : l = m := by
  rw [List.take_length, ← hl, List.take_length] at h; exact h

set_option maxRecDepth 100000 in
theorem isInts_any (A B : Option Addr) (c d : Nat) (l m : List Int) (w : World) (hm : m.length ≤ maxLen) (ha : SR w w.heap.size 1 A l.length (iv l)) (hb : SR w w.heap.size 1 B m.length (iv m)) :
    Calls Tryz.prog 103 #[.slice A l.length c, .slice B m.length d] w fun e w' => e = .returned (.bool (decide (l = m))) ∧ Below w.heap.size w w' := by
  unfold maxLen at hm
  by_cases hlm : l.length = m.length
  · have hlm' : ((l.length : Int) != (m.length : Int)) = false := by simp; omega
    rw [hlm] at ha hlm' ⊢
    have HLM := Lib.hid hlm
    clear hlm
    go_enter Tryz.func103, Tryz.ntmps103
    go_wp2
    go_loopw [5, 13] (fun _ i wr => ∃ (k : Nat) (K : Int), i = .int .i64 K ∧ K = (k : Nat) ∧ k ≤ m.length ∧ Below w.heap.size w wr ∧ l.take k = m.take k) (fun _ i _ => m.length - (intOf i).toNat)
    case atStart => exact ⟨0, _, rfl, rfl, by omega, Below.refl _ _, rfl⟩
    case round =>
      obtain ⟨k, K, rfl, rfl, hk, hbw, htk⟩ := hrel
      have HT := Lib.hid htk
      clear htk
      by_cases hlt : k < m.length
      · have hlt' : k < l.length := by rw [HLM.out]; exact hlt
        have ha' : SR w w.heap.size 1 A l.length (iv l) := by rw [HLM.out]; exact ha
        obtain ⟨b1, o1, rfl, hb1, x0⟩ := int_at (ha'.below hbw) hlt'
        obtain ⟨b2, o2, rfl, hb2, y0⟩ := int_at (hb.below hbw) hlt
        have HB := Lib.hid hbw
        have HY := Lib.hid (take_same_yes HT.out hlt' hlt)
        have HN := Lib.hid (take_same_no (l := l) (m := m) hlt' hlt)
        clear ha hb hbw ha'
        generalize l[k] = u at *
        generalize m[k] = v at *
        clear hlt'
        by_cases huv : u = v
        · subst huv
          have HE := Lib.hid (HY.out rfl)
          go_wp2_with fail
          go_quiet (fail)
          go_wp2_with fail
          go_roundw
          case rel => exact ⟨k + 1, _, rfl, by omega, by omega, below_drewN HB.out _, HE.out⟩
          case measure => simp [intOf]; omega
        · have HE := Lib.hid (HN.out huv)
          have huv' : (u != v) = true := by simpa using huv
          clear huv
          go_wp2_with fail
          go_quiet (fail)
          go_wp2_with fail
          go_ret
          rw [decide_eq_false HE.out]
          exact ⟨rfl, below_drewN HB.out _⟩
      · obtain rfl : k = m.length := by omega
        go_wp2
        go_ret
        rw [decide_eq_true (take_same_all HLM.out HT.out)]
        exact ⟨rfl, hbw⟩
  · have hlm' : ((l.length : Int) != (m.length : Int)) = true := by simp; omega
    have HE : Hid (decide (l = m) = false) := Lib.hid (decide_eq_false fun h => hlm (by rw [h]))
    clear hlm ha hb
    go_enter Tryz.func103, Tryz.ntmps103
    go_wp2_with fail
    go_ret
    rw [HE.out]
    exact ⟨rfl, Below.refl _ _⟩
end Go.Proofs.YtjjfdlgoacockaaGreat
namespace Go.Proofs.YtjjfdlgoacockaaGreat
open Go.RowKit M5

theorem made_ints (n : Nat) : (madeCells #[Value.int .i64 0] n).toList = iv (List.replicate n 0) := by
  have h : madeCells #[Value.int .i64 0] n = (Array.range n).map (fun _ => Value.int .i64 0) := by
    unfold madeCells
    congr 1
    funext i
    show (#[Value.int .i64 0] : Array Value)[i % 1]! = _
    rw [Nat.mod_one]; rfl
  rw [h]
  apply List.ext_getElem
  · simp [iv]
  · intro i h1 h2; simp [iv]
theorem iv_set (l : List Int) (k : Nat) (x : Int) : (iv l).set k (.int .i64 x) = iv (l.set k x) := by simp [iv, List.map_set]
theorem iv_at {l : List Int} {k : Nat} (h : k < l.length) : (iv l)[k]? = some (.int .i64 l[k]) := by simp [iv, h]
theorem fill_front {t : List Int} {k : Nat} (hk : k < t.length) : (t.take k ++ List.replicate (t.length - k) 0).set k t[k] = t.take (k + 1) ++ List.replicate (t.length - (k + 1)) 0 := by
  have h1 : t.length - k = (t.length - (k + 1)) + 1 := by omega
  rw [h1, List.replicate_succ, List.set_append_right _ _ (by simp; omega), List.take_succ_eq_append_getElem hk]
  have h2 : k - (t.take k).length = 0 := by simp; omega
  rw [h2, List.set_cons_zero]
  rw [List.append_assoc, List.singleton_append]
theorem th_in {a b : List Int} (ha : Shp a) (hb : Shp b) : ∀ n ∈ th a b, I64 n := by
  intro n hn
  have h1 : ∀ {l : List Int}, Shp l → ∀ i, 0 ≤ e l i ∧ e l i ≤ 65536 := fun {l} h i => by
    by_cases hi : i < l.length
    · rw [e_lt hi]; exact ⟨h.lo _ (List.getElem_mem _), h.hi _ (List.getElem_mem _)⟩
    · rw [e_ge (by omega)]; omega
  simp only [th, List.mem_reverse, List.mem_map] at hn
  obtain ⟨i, _, rfl⟩ := hn
  have ha1 := h1 ha i
  have hb1 := h1 hb i
  unfold bo I64
  split <;> omega
theorem fit_of {a b : List Int} (h : ∀ i, i < max a.length b.length → okd (e a (max a.length b.length - 1 - i)) (e b (max a.length b.length - 1 - i))) : fit a b := by
  intro i hi
  have := h (max a.length b.length - 1 - i) (by omega)
  rwa [show max a.length b.length - 1 - (max a.length b.length - 1 - i) = i by omega] at this
theorem th_at {a b : List Int} {k : Nat} (hk : k < (th a b).length) : (th a b)[k] = bo (e a (max a.length b.length - 1 - k)) (e b (max a.length b.length - 1 - k)) := by
  have hl := th_len a b
  rw [← th_e, e_lt (by omega)]
  congr 1
  omega

set_option maxRecDepth 100000 in
theorem shBroad_any (A : Option Addr) (c : Nat) (a : List Int) (B : Option Addr) (d : Nat) (b : List Int) (w : World) (hla : a.length ≤ maxLen) (hlb : b.length ≤ maxLen)
    (ha : SR w w.heap.size 1 A a.length (iv a)) (hb : SR w w.heap.size 1 B b.length (iv b)) (hia : ∀ n ∈ a, I64 n) (hib : ∀ n ∈ b, I64 n) :
    Calls Tryz.prog 149 #[.slice A a.length c, .slice B b.length d] w (RowRes w.heap.size (bc a b) w) := by
  have HSA := Lib.hid (shSize_any A c a w hla ha hia)
  have HSB := Lib.hid (shSize_any B d b w hlb hb hib)
  clear hia hib
  rcases sz_cases a with ⟨ca, hsa, hca, -⟩ | ⟨hsa, hA⟩
  · rw [hsa] at HSA
    have HE := Lib.hid (bc_a (b := b) hsa (by omega))
    have hca' : ((ca : Int) != 0) = true := by simp; omega
    clear ha hb hsa hca HSB
    go_enter Tryz.func149, Tryz.ntmps149
    go_wp2_with fail
    refine HSA.out.mono ?_
    rintro e w1 ⟨rfl, rfl⟩
    go_wp2_with fail
    go_ret2
    rw [HE.out]
    exact ⟨_, rfl, World.ownsRow_nil _ _ _ _, Below.refl _ _⟩
  rcases sz_cases b with ⟨cb, hsb, hcb, -⟩ | ⟨hsb, hB⟩
  · rw [hsa] at HSA
    rw [hsb] at HSB
    have HE := Lib.hid (bc_b hsa hsb (by omega))
    have hcb' : ((cb : Int) != 0) = true := by simp; omega
    clear ha hb hsa hsb hcb hA
    go_enter Tryz.func149, Tryz.ntmps149
    go_wp2_with fail
    refine HSA.out.mono ?_
    rintro e w1 ⟨rfl, rfl⟩
    go_wp2_with fail
    refine HSB.out.mono ?_
    rintro e w1 ⟨rfl, rfl⟩
    go_wp2_with fail
    go_ret2
    rw [HE.out]
    exact ⟨_, rfl, World.ownsRow_nil _ _ _ _, Below.refl _ _⟩
  · rw [hsa] at HSA
    rw [hsb] at HSB
    have hT := bc_t hsa hsb
    have hN := bc_no hsa hsb
    have HT := Lib.hid hT
    have HN := Lib.hid hN
    have hAl := hA.len
    have hBl := hB.len
    have htl := th_len a b
    have htd := fun k h => th_at (a := a) (b := b) (k := k) h
    have HTD := Lib.hid htd
    clear hT hN hsa hsb hla hlb htd
    generalize hR : max a.length b.length = R at *
    obtain ⟨i0, hi0, hz0, hz1, hz2⟩ := info_parts infoInt64
    have hRa : (a.length : Int) ≤ (R : Int) := by omega
    have hRb : (b.length : Int) ≤ (R : Int) := by omega
    have hR8 : (R : Int) ≤ 8 := by omega
    go_enter Tryz.func149, Tryz.ntmps149
    go_wp2_with fail
    refine HSA.out.mono ?_
    rintro e w1 ⟨rfl, rfl⟩
    go_wp2_with fail
    refine HSB.out.mono ?_
    rintro e w1 ⟨rfl, rfl⟩
    go_wp2_with (at_make; refine wpList_make_full _ rfl _ _ 83 rfl w.heap.size 2 i0 _ 1 Tryz.underlying83 hi0 hz0 hz1 .i64 .i64 _ _ R rfl rfl (by omega) (by omega) (by rw [hz2]; omega) (by unfold maxLen; omega) (Nat.le_refl _) ?_)
    all_goals
      intro w1 hown hg
      rw [made_ints] at hown
      have hb1 := (Below.refl w.heap.size w).grown hg (Nat.le_refl _) (fun q hq => by cases hq)
      have HO := Lib.hid hown
      have HB := Lib.hid hb1
      clear hown hg hb1 hi0 hz0 hz1 hz2
      go_wp2_with fail
      go_loopw [11, 12, 13, 40] (fun _ _ _ kk wr => ∃ (k : Nat) (K : Int), kk = .int .i64 K ∧ K = (k : Nat) ∧ k ≤ R ∧ wr.ownsRow w.heap.size 2 1 (.slice (some ⟨w.heap.size, 0, none⟩) R R) R (iv ((th a b).take k ++ List.replicate (R - k) 0)) ∧ Below w.heap.size w wr ∧ ∀ i, i < k → okd (e a (R - 1 - i)) (e b (R - 1 - i))) (fun _ _ _ kk _ => R - (intOf kk).toNat)
      case atStart => exact ⟨0, _, rfl, rfl, by omega, by simpa using HO.out, HB.out, fun i hi => absurd hi (by omega)⟩
      case round =>
        obtain ⟨k, K, rfl, rfl, hk, hown, hbl, hok⟩ := hrel
        by_cases hlt : k < R
        · have HDA := Lib.hid (dim_any A c a k R wr (by omega) (by omega) hlt (ha.below hbl))
          have HDB := Lib.hid (dim_any B d b k R wr (by omega) (by omega) hlt (hb.below hbl))
          have HBO := Lib.hid (both_any (e a (R - 1 - k)) (e b (R - 1 - k)) wr)
          have htk := HTD.out k (by omega)
          have hff := fill_front (t := th a b) (k := k) (by omega)
          rw [htk, htl] at hff
          have HNF := Lib.hid (fun (h : ¬ okd (e a (R - 1 - k)) (e b (R - 1 - k))) => HN.out fun hf => h (fit_all hf _))
          have HOK := Lib.hid (fun (h : okd (e a (R - 1 - k)) (e b (R - 1 - k))) => (fun i hi => by
            by_cases he : i = k
            · subst he; exact h
            · exact hok i (by omega) : ∀ i, i < k + 1 → okd (e a (R - 1 - i)) (e b (R - 1 - i))))
          have hcell := hown.cellAt k (by omega)
          rw [iv_at (show k < ((th a b).take k ++ List.replicate (R - k) 0).length by simp; omega)] at hcell
          have hfz := hown.frozenAt k
          have HST := Lib.hid (fun u => hown.stored k u)
          have HFF := Lib.hid hff
          have HBL := Lib.hid hbl
          generalize ((th a b).take k ++ List.replicate (R - k) 0)[k]'(by simp; omega) = old at *
          generalize e a (R - 1 - k) = x at *
          generalize e b (R - 1 - k) = y at *
          clear htk hff hok hown hbl ha hb HO HB
          by_cases hxy : okd x y
          · have HV : Hid (boV x y = bo x y ∧ boB x y = true) := Lib.hid ⟨if_pos hxy, decide_eq_true hxy⟩
            have HK := Lib.hid (HOK.out hxy)
            clear hxy
            go_wp2_with fail
            refine HDA.out.mono ?_
            rintro en w2 ⟨rfl, rfl⟩
            go_wp2_with fail
            refine HDB.out.mono ?_
            rintro en w2 ⟨rfl, rfl⟩
            go_wp2_with fail
            refine HBO.out.mono ?_
            rintro en w2 ⟨rfl, rfl⟩
            rw [HV.out.1, HV.out.2]
            go_wp2_with fail
            go_roundw
            case rel =>
              refine ⟨k + 1, _, rfl, by omega, by omega, ?_, HBL.out.setCell (Nat.le_refl _) _, HK.out⟩
              have h1 := (HST.out (.int .i64 (bo x y))).1
              rw [iv_set, HFF.out] at h1
              exact h1
            case measure => simp [intOf]; omega
          · have HV : Hid (boB x y = false) := Lib.hid (decide_eq_false hxy)
            have HE := Lib.hid (HNF.out hxy)
            clear hxy
            go_wp2_with fail
            refine HDA.out.mono ?_
            rintro en w2 ⟨rfl, rfl⟩
            go_wp2_with fail
            refine HDB.out.mono ?_
            rintro en w2 ⟨rfl, rfl⟩
            go_wp2_with fail
            refine HBO.out.mono ?_
            rintro en w2 ⟨rfl, rfl⟩
            rw [HV.out]
            go_wp2_with fail
            go_ret2
            rw [HE.out]
            exact ⟨_, rfl, World.ownsRow_nil _ _ _ _, HBL.out⟩
        · obtain rfl : k = R := by omega
          rw [Nat.sub_self, List.replicate_zero, List.append_nil, List.take_of_length_le (by omega)] at hown
          have hf : fit a b := fit_of (by rw [hR]; exact hok)
          have hT := HT.out hf
          have hS := shSize_any (some ⟨w.heap.size, 0, none⟩) k (th a b) wr (by unfold maxLen; omega) (by rw [htl]; exact SR.of_own hown) (th_in hA hB)
          rw [htl] at hS
          have HS := Lib.hid hS
          have HBL := Lib.hid hbl
          have HOW := Lib.hid hown
          clear hS hbl hown ha hb HO HB hok hf
          rcases sz_cases (th a b) with ⟨ct, hst, hct, -⟩ | ⟨hst, hsh⟩
          · rw [hst] at HS hT
            have HE := Lib.hid hT
            rw [if_pos (by omega)] at HE
            have hct' : ((ct : Int) != 0) = true := by simp; omega
            clear hst hct hT
            go_wp2_with fail
            refine HS.out.mono ?_
            rintro en w2 ⟨rfl, rfl⟩
            go_wp2_with fail
            go_ret2
            rw [HE.out]
            exact ⟨_, rfl, World.ownsRow_nil _ _ _ _, HBL.out⟩
          · rw [hst] at HS hT
            rw [if_neg (by simp)] at hT
            have HE := Lib.hid hT
            clear hst hT
            go_wp2_with fail
            refine HS.out.mono ?_
            rintro en w2 ⟨rfl, rfl⟩
            go_wp2_with fail
            go_ret2
            rw [HE.out]
            exact ⟨_, rfl, by rw [htl]; exact HOW.out, HBL.out⟩
end Go.Proofs.YtjjfdlgoacockaaGreat
