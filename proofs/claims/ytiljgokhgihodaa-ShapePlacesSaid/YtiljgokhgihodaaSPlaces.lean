/- The walk of layer 5: all places of a small shape, by contract. -/
import Derived.Test.YtiljgokhgihodaaIntRows
import Derived.Test.YtiljgokhgihodaaSMathTwo
import Derived.Test.YtiljgokhgihodaaSBroad
namespace Go.Proofs.Ytiljgokhgihodaa
open Go.RowKit M5

/-- a shape of few places -/
structure Few (l : List Int) : Prop where
  len : l.length ≤ 8
  lo : ∀ x ∈ l, 0 ≤ x
  hi : ∀ x ∈ l, x ≤ 65536
  all : prd l ≤ 400
theorem Few.tail {d : Int} {l : List Int} (h : Few (d :: l)) (hz : ¬ (0 : Int) ∈ d :: l) : Few l := by
  have hp : ∀ x ∈ d :: l, 1 ≤ x := fun x hx => by
    have := h.lo x hx
    by_cases h0 : x = 0
    · subst h0; exact absurd hx hz
    · omega
  refine ⟨by have := h.len; simp at this; omega, fun x hx => h.lo x (by simp [hx]), fun x hx => h.hi x (by simp [hx]), ?_⟩
  have := prd_le_mul' (a := [d]) (b := l) (fun x hx => hp x (by simp at hx; simp [hx])) (fun x hx => hp x (by simp [hx]))
  have h4 := h.all
  simp only [List.singleton_append] at this
  omega
theorem plu_part (l : List Int) (a k : Nat) : (plu l a ++ ((plc l).take k).map (fun p => (a : Int) :: p)).length = a * (plc l).length + min k (plc l).length := by simp [plu_len]
theorem plu_room {d : Int} {l : List Int} (h : Few (d :: l)) {a k : Nat} (ha : (a : Int) < d) (hk : k ≤ (plc l).length) : a * (plc l).length + k ≤ 400 := by
  have hl : ∀ x ∈ l, 0 ≤ x := fun x hx => h.lo x (by simp [hx])
  have h1 := plc_len hl
  have h2 := h.all
  rw [prd, ← h1] at h2
  have h3 : ((a + 1 : Nat) : Int) * ((plc l).length : Int) ≤ d * ((plc l).length : Int) := Int.mul_le_mul_of_nonneg_right (by omega) (by omega)
  rw [← Int.natCast_mul, Nat.add_mul] at h3
  omega
theorem plu_next {l : List Int} {a k : Nat} (hk : k < (plc l).length) : (plu l a ++ ((plc l).take k).map (fun p => (a : Int) :: p)) ++ [(a : Int) :: (plc l)[k]] = plu l a ++ ((plc l).take (k + 1)).map (fun p => (a : Int) :: p) := by
  rw [List.take_succ_eq_append_getElem hk, List.map_append, List.append_assoc]; rfl
theorem plu_done (l : List Int) (a : Nat) : plu l a ++ ((plc l).take (plc l).length).map (fun p => (a : Int) :: p) = plu l (a + 1) := by
  rw [List.take_length, plu_succ]
theorem plc_width {l : List Int} (h : ∀ x ∈ l, 0 ≤ x) {k : Nat} (hk : k < (plc l).length) : ((plc l)[k]).length = l.length := win_len (plc_win h k _ (List.getElem?_eq_getElem hk)).1

set_option maxRecDepth 100000 in
theorem places_any (l : List Int) : ∀ (A : Option Addr) (c : Nat) (w : World), Few l → l.length ≤ c → c ≤ maxLen → SR w w.heap.size 1 A l.length (iv l) →
    Calls Try.prog 13 #[.slice A l.length c] w (RowsRes w.heap.size (plc l) w) := by
  induction l with
  | nil =>
    intro A c w _ _ _ _
    go_enter Try.func13, Try.ntmps13
    go_wp2_with fail
    go_loop [3] (fun i => i = .int .i64 0) (fun _ => 0)
    case atStart => rfl
    case round =>
      obtain rfl := hrel
      go_wp2_with fail
      go_ret
      exact ⟨_, [.slice none 0 0], rfl, World.ownsRow_lit (size := 1) w #[.slice none 0 0] 1 (Nat.le_refl _) (by unfold maxLen; omega) rfl,
        (Rws.nil _ _).snoc (p := []) (World.ownsRow_nil _ _ _ _), (Below.refl _ _).alloc (Nat.le_refl _) _⟩
  | cons d l ih =>
    intro A c w hf hlc hcm ha
    have hl8 := hf.len
    have HF := Lib.hid hf
    have HA := Lib.hid ha
    have hl8' : ((d :: l).length : Int) ≤ 8 := by omega
    by_cases hz : (0 : Int) ∈ d :: l
    · have HZ := Lib.hid hz
      have HE := Lib.hid (plc_zero hz)
      generalize d :: l = L at *
      clear ih hf hz ha
      go_enter Try.func13, Try.ntmps13
      go_wp2_with fail
      go_loop [3] (fun i => ∃ (k : Nat) (K : Int), i = .int .i64 K ∧ K = (k : Nat) ∧ k ≤ L.length ∧ ¬ (0 : Int) ∈ L.take k) (fun i => L.length - (intOf i).toNat)
      case atStart => exact ⟨0, _, rfl, rfl, by omega, by simp⟩
      case round =>
        obtain ⟨k, K, rfl, rfl, hk, hno⟩ := hrel
        by_cases hlt : k < L.length
        · obtain ⟨b1, o1, rfl, hb1, x0⟩ := int_at HA.out hlt
          have hts := List.take_succ_eq_append_getElem hlt
          have HTS := Lib.hid hts
          have HN := Lib.hid hno
          generalize L[k] = u at *
          clear hts hno
          by_cases hu : u = 0
          · subst hu
            clear HTS HN
            go_wp2_with fail
            go_ret
            rw [HE.out]
            exact ⟨_, [], rfl, World.ownsRow_nil _ _ _ _, Rws.nil _ _, Below.refl _ _⟩
          · have hu' : (u == 0) = false := by simpa using hu
            have HN2 : Hid (¬ (0 : Int) ∈ L.take (k + 1)) := Lib.hid (by rw [HTS.out]; intro h; rcases List.mem_append.1 h with h | h; exact HN.out h; simp at h; omega)
            clear HTS HN hu
            go_wp2_with fail
            go_round
            case rel => exact ⟨k + 1, _, rfl, by omega, by omega, HN2.out⟩
            case measure => simp [intOf]; omega
        · obtain rfl : k = L.length := by omega
          rw [List.take_length] at hno
          exact absurd HZ.out hno
    · have hnz : ∀ u ∈ d :: l, u ≠ 0 := fun u h h0 => hz (h0 ▸ h)
      have HNZ := Lib.hid hnz
      have hft := hf.tail hz
      have HROOM := Lib.hid (fun a k => plu_room (a := a) (k := k) hf)
      have HW := Lib.hid (fun k hk => plc_width (l := l) (k := k) hft.lo hk)
      have hd0 : 0 ≤ d := hf.lo d (by simp)
      have hd1 : d ≤ 65536 := hf.hi d (by simp)
      obtain ⟨b0, o0, rfl, hb0, hc0⟩ := ha.2 (by simp)
      have x00 : w.cell? ⟨b0, o0, none⟩ = some (.int .i64 d) := by simpa using hc0 0 _ rfl
      have htl : SR w w.heap.size 1 (some ⟨b0, o0 + 1, none⟩) l.length (iv l) := ⟨by simp [iv_len], fun _ => ⟨b0, o0 + 1, rfl, hb0, fun j u hj => by
        have := hc0 (j + 1) u (by simpa [iv] using hj)
        rwa [show o0 + (j + 1) = o0 + 1 + j by omega] at this⟩⟩
      have HTL := Lib.hid htl
      have HIH := Lib.hid ih
      have HFT := Lib.hid hft
      have hml : (d :: l).length = l.length + 1 := rfl
      clear ih hf hz ha hnz hft hc0 htl HF
      generalize hm : (d :: l).length = m at *
      obtain ⟨i0, hi0, hz0, hz1, hz2⟩ := info_parts infoInt64
      obtain ⟨i1, hi1, hy0, hy1, hy2⟩ := info_parts infoInts
      have hcm' : (c : Int) ≤ 9223372036854775807 := by unfold maxLen at hcm; omega
      have hlc' : (m : Int) ≤ (c : Int) := by omega
      have hm1 : (1 : Int) ≤ (m : Int) := by omega
      go_enter Try.func13, Try.ntmps13
      go_wp2_with fail
      go_loop [3] (fun i => ∃ (k : Nat) (K : Int), i = .int .i64 K ∧ K = (k : Nat) ∧ k ≤ m) (fun i => m - (intOf i).toNat)
      case atStart => exact ⟨0, _, rfl, rfl, by omega⟩
      case round =>
        obtain ⟨k, K, rfl, rfl, hk⟩ := hrel
        by_cases hlt : k < m
        · obtain ⟨b1, o1, e1, hb1, x0⟩ := cell_at HA.out hlt (u := .int .i64 ((d :: l)[k]'(by omega))) (by simp only [iv, List.getElem?_map]; rw [List.getElem?_eq_getElem (by omega)]; rfl)
          injection e1 with e1
          injection e1 with e2 e3
          subst e2 e3
          have hu := HNZ.out _ (List.getElem_mem (show k < (d :: l).length by omega))
          generalize (d :: l)[k]'(by omega) = u at *
          have hu' : (u == 0) = false := by simpa using hu
          clear hu HIH HTL x00
          go_wp2_with fail
          go_round
          case rel => exact ⟨k + 1, _, rfl, by omega, by omega⟩
          case measure => simp [intOf]; omega
        · obtain rfl : k = m := by omega
          have hm0 : ((k : Int) == 0) = false := by simp; omega
          by_cases hc1 : c = 1
          · subst hc1
            have HC := Lib.hid (HIH.out (some ⟨b0, o0, none⟩) 0 w HFT.out (by omega) (by unfold maxLen; omega) (by
              have h0 : l = [] := List.length_eq_zero_iff.1 (by omega)
              rw [h0]; exact SR.empty _ _ _ _))
            clear HIH HTL
            go_wp2_with fail
            --CONT1
            refine HC.out.mono ?_
            rintro e w1 ⟨v1, vs1, rfl, hown1, hrws1, hb1⟩
            obtain ⟨R, rc, rfl, -, -⟩ := own_form hown1
            have HS1 := Lib.hid (SR.of_own hown1)
            have HRW := Lib.hid hrws1
            have HB1 := Lib.hid hb1
            have X00 : Hid (∀ W, Below w1.heap.size w1 W → W.cell? ⟨b0, o0, none⟩ = some (.int .i64 d)) := Lib.hid (fun W hW => by
              have := (hb1.trans (hW.mono hb1.size)).cell (p := ⟨b0, o0, none⟩) hb0
              rw [this]; exact x00)
            have hvl := hrws1.1
            have HVL := Lib.hid hvl
            clear hown1 hrws1 hb1 HC x00 hvl
            go_wp2_with fail
            go_loopw [5, 6] (fun v ii wr => ∃ (a : Nat) (KA : Int) (vs : List Value), ii = .int .i64 KA ∧ KA = (a : Nat) ∧ (a : Int) ≤ d ∧ wr.ownsRow w1.heap.size 22 1 v (a * (plc l).length) vs ∧ Rws wr w1.heap.size vs (plu l a) ∧ Below w1.heap.size w1 wr) (fun _ ii _ => d.toNat - (intOf ii).toNat)
            case atStart => exact ⟨0, _, [], rfl, rfl, by omega, by rw [Nat.zero_mul]; exact World.ownsRow_nil _ _ _ _, Rws.nil _ _, Below.refl _ _⟩
            case round =>
              obtain ⟨a, KA, vs, rfl, rfl, had, hown, hrws, hb⟩ := hrel
              obtain ⟨wo, rfl⟩ : ∃ wo : World, wo = wr := ⟨_, rfl⟩
              obtain ⟨V, vc, rfl, -, -⟩ := own_form hown
              have x00 := X00.out wo hb
              have HO := Lib.hid hown
              have HRS := Lib.hid hrws
              have HB := Lib.hid hb
              clear hown hrws hb
              by_cases hlt : (a : Int) < d
              · have HRM := Lib.hid (fun k => HROOM.out a k hlt)
                clear HROOM
                go_wp2_with fail
                go_loopw [5, 7] (fun v kk wi => ∃ (k : Nat) (K : Int) (vs : List Value), kk = .int .i64 K ∧ K = (k : Nat) ∧ k ≤ (plc l).length ∧ wi.ownsRow w1.heap.size 22 1 v (a * (plc l).length + k) vs ∧ Rws wi w1.heap.size vs (plu l a ++ ((plc l).take k).map (fun p => (a : Int) :: p)) ∧ Below w1.heap.size w1 wi) (fun _ kk _ => (plc l).length - (intOf kk).toNat)
                case atStart => exact ⟨0, _, vs, rfl, rfl, by omega, HO.out, by simpa using HRS.out, HB.out⟩
                case round =>
                  obtain ⟨k, K, vs2, rfl, rfl, hk, hown, hrws, hb⟩ := hrel
                  have hroom := HRM.out k hk
                  by_cases hltk : k < (plc l).length
                  · have hltv : k < vs1.length := by rw [HVL.out]; exact hltk
                    have hu := own_keep (HRW.out.2 k hltv hltk) hb
                    obtain ⟨P, pc, hP, -, -⟩ := own_form hu
                    obtain ⟨b2, o2, rfl, hb2, y0⟩ := cell_at (HS1.out.below hb) hltk (u := vs1[k]) (List.getElem?_eq_getElem hltv)
                    rw [hP] at y0 hu
                    have hwid := HW.out k hltk
                    have hnx := plu_next (a := a) hltk
                    generalize (plc l)[k] = p at *
                    obtain ⟨V2, vc2, rfl, -, -⟩ := own_form hown
                    have hz := hb.size
                    have HNX := Lib.hid hnx
                    have HBI := Lib.hid hb
                    have HOI := Lib.hid hown
                    have HRI := Lib.hid hrws
                    have HU := Lib.hid hu
                    have hpl : p.length ≤ 8 := by omega
                    have hbz : b2 < wr.heap.size := by omega
                    clear hnx hb hown hrws hu hwid HO HRS HB hP hltv x00
                    go_wp2_with (at_builtin; refine wpList_append_any rfl _ _ 22 rfl w1.heap.size 2 i0 _ 1 8 Try.underlying22 hi0 hz0 hz1 hz2 rfl (by decide) _ 1 _ rfl (World.ownsRow_lit (size := 1) wr #[_] 1 hz (by unfold maxLen; omega) rfl) P _ pc _ rfl (own_len1 HU.out) (own_nil HU.out) (SR.of_own (HU.out.alloc _)).cells iv_oneCell (by unfold maxLen; omega) (by omega) (by simp; omega) ?_)
                    intro u' w2 hownu hgu
                    have hu9 : w2.ownsRow w1.heap.size 2 1 u' ((a : Int) :: p).length (iv ((a : Int) :: p)) := by
                      rw [List.length_cons, Nat.add_comm]; exact hownu
                    obtain ⟨U, uc, rfl, -, -⟩ := own_form hu9
                    have hbu := ((Below.refl wr.heap.size wr).alloc (Nat.le_refl _) _).grown hgu (by simp) (fun q hq => by simp [Value.ownBlock] at hq; omega)
                    have HO2 := Lib.hid (own_keep HOI.out hbu)
                    have HR2 := Lib.hid (HRI.out.keep hbu)
                    have HB2 := Lib.hid (HBI.out.trans (hbu.mono hz))
                    have HU2 := Lib.hid hu9
                    have hz2' := HB2.out.size
                    clear hownu hgu hu9 hbu HOI HRI HBI HU y0 hbz hb2
                    go_wp2_with (at_builtin; refine wpList_append_own _ rfl _ _ 34 rfl w1.heap.size 22 i1 _ 1 24 Try.underlying34 hi1 hy0 hy1 hy2 rfl (by decide) _ _ _ rfl (HO2.out.alloc _) ⟨w2.heap.size, 0, none⟩ 1 1 [.slice U _ uc] rfl rfl (cell_one_new _ _ _) (fun u hu => by simp at hu; subst hu; rfl) (by unfold maxLen; omega) (by omega) (by simp; omega) ?_)
                    intro v' w4 hown4 hg4 _
                    have hout := HO2.out.alloc (.cells #[.slice U ((a : Int) :: p).length uc] 22)
                    have hba := (Below.refl w2.heap.size w2).alloc (Nat.le_refl _) (.cells #[.slice U ((a : Int) :: p).length uc] 22)
                    have hr4 := ((HR2.out.keep hba).grown hout hg4).snoc (own_grown_far (HU2.out.alloc _) hout (by decide) hg4)
                    rw [HNX.out] at hr4
                    have hb4 := (HB2.out.alloc hz2' _).grown hg4 (by simp; omega) (fun q hq => (hout.lt q hq).1)
                    have HO4 := Lib.hid hown4
                    have HR4 := Lib.hid hr4
                    have HB4 := Lib.hid hb4
                    clear hown4 hg4 hout hba hr4 hb4 HO2 HR2 HB2 HU2 HNX hi0 hz0 hz1 hz2 hi1 hy0 hy1 hy2
                    go_wp2_with fail
                    go_roundw
                    case rel => exact ⟨k + 1, _, _, rfl, by omega, by omega, HO4.out, HR4.out, HB4.out⟩
                    case measure => simp [intOf]; omega
                  · obtain rfl : k = (plc l).length := by omega
                    rw [plu_done] at hrws
                    rw [← Nat.succ_mul] at hown
                    have HO4 := Lib.hid hown
                    have HR4 := Lib.hid hrws
                    have HB4 := Lib.hid hb
                    clear hown hrws hb hi0 hz0 hz1 hz2 hi1 hy0 hy1 hy2 x00
                    go_wp2_with fail
                    go_roundw
                    case rel => exact ⟨a + 1, _, _, rfl, by omega, by omega, HO4.out, HR4.out, HB4.out⟩
                    case measure => simp [intOf]; omega
              · obtain rfl : a = d.toNat := by omega
                have HE : Hid (plc (d :: l) = plu l d.toNat) := Lib.hid (plc_cons d l)
                have hpl := plu_len l d.toNat
                have HPL := Lib.hid hpl
                have hdd : ((d.toNat : Nat) : Int) = d := by omega
                clear hi0 hz0 hz1 hz2 hi1 hy0 hy1 hy2 hpl
                go_wp2_with fail
                go_ret
                rw [HE.out]
                exact ⟨_, _, rfl, by rw [HPL.out]; exact own_base HO.out HB1.out.size, HRS.out.base HB1.out.size, HB1.out.trans (HB.out.mono HB1.out.size)⟩
          · have hc1' : ¬ (c : Int) = 1 := by omega
            have HC := Lib.hid (HIH.out (some ⟨b0, o0 + 1, none⟩) (c - 1) w HFT.out (by omega) (by omega) HTL.out)
            clear HIH HTL
            go_wp2_with fail
            --CONT
            refine HC.out.mono ?_
            rintro e w1 ⟨v1, vs1, rfl, hown1, hrws1, hb1⟩
            obtain ⟨R, rc, rfl, -, -⟩ := own_form hown1
            have HS1 := Lib.hid (SR.of_own hown1)
            have HRW := Lib.hid hrws1
            have HB1 := Lib.hid hb1
            have X00 : Hid (∀ W, Below w1.heap.size w1 W → W.cell? ⟨b0, o0, none⟩ = some (.int .i64 d)) := Lib.hid (fun W hW => by
              have := (hb1.trans (hW.mono hb1.size)).cell (p := ⟨b0, o0, none⟩) hb0
              rw [this]; exact x00)
            have hvl := hrws1.1
            have HVL := Lib.hid hvl
            clear hown1 hrws1 hb1 HC x00 hvl
            go_wp2_with fail
            go_loopw [5, 6] (fun v ii wr => ∃ (a : Nat) (KA : Int) (vs : List Value), ii = .int .i64 KA ∧ KA = (a : Nat) ∧ (a : Int) ≤ d ∧ wr.ownsRow w1.heap.size 22 1 v (a * (plc l).length) vs ∧ Rws wr w1.heap.size vs (plu l a) ∧ Below w1.heap.size w1 wr) (fun _ ii _ => d.toNat - (intOf ii).toNat)
            case atStart => exact ⟨0, _, [], rfl, rfl, by omega, by rw [Nat.zero_mul]; exact World.ownsRow_nil _ _ _ _, Rws.nil _ _, Below.refl _ _⟩
            case round =>
              obtain ⟨a, KA, vs, rfl, rfl, had, hown, hrws, hb⟩ := hrel
              obtain ⟨wo, rfl⟩ : ∃ wo : World, wo = wr := ⟨_, rfl⟩
              obtain ⟨V, vc, rfl, -, -⟩ := own_form hown
              have x00 := X00.out wo hb
              have HO := Lib.hid hown
              have HRS := Lib.hid hrws
              have HB := Lib.hid hb
              clear hown hrws hb
              by_cases hlt : (a : Int) < d
              · have HRM := Lib.hid (fun k => HROOM.out a k hlt)
                clear HROOM
                go_wp2_with fail
                go_loopw [5, 7] (fun v kk wi => ∃ (k : Nat) (K : Int) (vs : List Value), kk = .int .i64 K ∧ K = (k : Nat) ∧ k ≤ (plc l).length ∧ wi.ownsRow w1.heap.size 22 1 v (a * (plc l).length + k) vs ∧ Rws wi w1.heap.size vs (plu l a ++ ((plc l).take k).map (fun p => (a : Int) :: p)) ∧ Below w1.heap.size w1 wi) (fun _ kk _ => (plc l).length - (intOf kk).toNat)
                case atStart => exact ⟨0, _, vs, rfl, rfl, by omega, HO.out, by simpa using HRS.out, HB.out⟩
                case round =>
                  obtain ⟨k, K, vs2, rfl, rfl, hk, hown, hrws, hb⟩ := hrel
                  have hroom := HRM.out k hk
                  by_cases hltk : k < (plc l).length
                  · have hltv : k < vs1.length := by rw [HVL.out]; exact hltk
                    have hu := own_keep (HRW.out.2 k hltv hltk) hb
                    obtain ⟨P, pc, hP, -, -⟩ := own_form hu
                    obtain ⟨b2, o2, rfl, hb2, y0⟩ := cell_at (HS1.out.below hb) hltk (u := vs1[k]) (List.getElem?_eq_getElem hltv)
                    rw [hP] at y0 hu
                    have hwid := HW.out k hltk
                    have hnx := plu_next (a := a) hltk
                    generalize (plc l)[k] = p at *
                    obtain ⟨V2, vc2, rfl, -, -⟩ := own_form hown
                    have hz := hb.size
                    have HNX := Lib.hid hnx
                    have HBI := Lib.hid hb
                    have HOI := Lib.hid hown
                    have HRI := Lib.hid hrws
                    have HU := Lib.hid hu
                    have hpl : p.length ≤ 8 := by omega
                    have hbz : b2 < wr.heap.size := by omega
                    clear hnx hb hown hrws hu hwid HO HRS HB hP hltv x00
                    go_wp2_with (at_builtin; refine wpList_append_any rfl _ _ 22 rfl w1.heap.size 2 i0 _ 1 8 Try.underlying22 hi0 hz0 hz1 hz2 rfl (by decide) _ 1 _ rfl (World.ownsRow_lit (size := 1) wr #[_] 1 hz (by unfold maxLen; omega) rfl) P _ pc _ rfl (own_len1 HU.out) (own_nil HU.out) (SR.of_own (HU.out.alloc _)).cells iv_oneCell (by unfold maxLen; omega) (by omega) (by simp; omega) ?_)
                    intro u' w2 hownu hgu
                    have hu9 : w2.ownsRow w1.heap.size 2 1 u' ((a : Int) :: p).length (iv ((a : Int) :: p)) := by
                      rw [List.length_cons, Nat.add_comm]; exact hownu
                    obtain ⟨U, uc, rfl, -, -⟩ := own_form hu9
                    have hbu := ((Below.refl wr.heap.size wr).alloc (Nat.le_refl _) _).grown hgu (by simp) (fun q hq => by simp [Value.ownBlock] at hq; omega)
                    have HO2 := Lib.hid (own_keep HOI.out hbu)
                    have HR2 := Lib.hid (HRI.out.keep hbu)
                    have HB2 := Lib.hid (HBI.out.trans (hbu.mono hz))
                    have HU2 := Lib.hid hu9
                    have hz2' := HB2.out.size
                    clear hownu hgu hu9 hbu HOI HRI HBI HU y0 hbz hb2
                    go_wp2_with (at_builtin; refine wpList_append_own _ rfl _ _ 34 rfl w1.heap.size 22 i1 _ 1 24 Try.underlying34 hi1 hy0 hy1 hy2 rfl (by decide) _ _ _ rfl (HO2.out.alloc _) ⟨w2.heap.size, 0, none⟩ 1 1 [.slice U _ uc] rfl rfl (cell_one_new _ _ _) (fun u hu => by simp at hu; subst hu; rfl) (by unfold maxLen; omega) (by omega) (by simp; omega) ?_)
                    intro v' w4 hown4 hg4 _
                    have hout := HO2.out.alloc (.cells #[.slice U ((a : Int) :: p).length uc] 22)
                    have hba := (Below.refl w2.heap.size w2).alloc (Nat.le_refl _) (.cells #[.slice U ((a : Int) :: p).length uc] 22)
                    have hr4 := ((HR2.out.keep hba).grown hout hg4).snoc (own_grown_far (HU2.out.alloc _) hout (by decide) hg4)
                    rw [HNX.out] at hr4
                    have hb4 := (HB2.out.alloc hz2' _).grown hg4 (by simp; omega) (fun q hq => (hout.lt q hq).1)
                    have HO4 := Lib.hid hown4
                    have HR4 := Lib.hid hr4
                    have HB4 := Lib.hid hb4
                    clear hown4 hg4 hout hba hr4 hb4 HO2 HR2 HB2 HU2 HNX hi0 hz0 hz1 hz2 hi1 hy0 hy1 hy2
                    go_wp2_with fail
                    go_roundw
                    case rel => exact ⟨k + 1, _, _, rfl, by omega, by omega, HO4.out, HR4.out, HB4.out⟩
                    case measure => simp [intOf]; omega
                  · obtain rfl : k = (plc l).length := by omega
                    rw [plu_done] at hrws
                    rw [← Nat.succ_mul] at hown
                    have HO4 := Lib.hid hown
                    have HR4 := Lib.hid hrws
                    have HB4 := Lib.hid hb
                    clear hown hrws hb hi0 hz0 hz1 hz2 hi1 hy0 hy1 hy2 x00
                    go_wp2_with fail
                    go_roundw
                    case rel => exact ⟨a + 1, _, _, rfl, by omega, by omega, HO4.out, HR4.out, HB4.out⟩
                    case measure => simp [intOf]; omega
              · obtain rfl : a = d.toNat := by omega
                have HE : Hid (plc (d :: l) = plu l d.toNat) := Lib.hid (plc_cons d l)
                have hpl := plu_len l d.toNat
                have HPL := Lib.hid hpl
                have hdd : ((d.toNat : Nat) : Int) = d := by omega
                clear hi0 hz0 hz1 hz2 hi1 hy0 hy1 hy2 hpl
                go_wp2_with fail
                go_ret
                rw [HE.out]
                exact ⟨_, _, rfl, by rw [HPL.out]; exact own_base HO.out HB1.out.size, HRS.out.base HB1.out.size, HB1.out.trans (HB.out.mono HB1.out.size)⟩
end Go.Proofs.Ytiljgokhgihodaa
