/- The walk of the law StoreReads. -/
import Derived.Test.YtkhenedpdfmlbaaOAwake
import Derived.Test.YtkhenedpdfmlbaaOSk
import Derived.Test.YtkhenedpdfmlbaaOOf
import Derived.Test.YtkhenedpdfmlbaaORNew
import Derived.Test.YtkhenedpdfmlbaaOOpen
import Derived.WalkLawsBesides
import Derived.Deep.CutRange
namespace Go.Proofs.Ytkhenedpdfmlbaa
open Go.RowKit M8 Go.Sort
open Go.Proofs (encStr)

/-- the sizes of the first k files are together at most N -/
def Sum (l : List Fl) (k : Nat) (N : Int) : Prop := 0 ≤ N ∧ N ≤ 10000 ∧ ∀ t, (h : t < l.length) → t < k → (l[t].key.size : Int) + (l[t].data.size : Int) ≤ N
theorem Sum.start (l : List Fl) : Sum l 0 0 := ⟨by omega, by omega, fun t h h2 => by omega⟩
theorem Sum.next {l : List Fl} {k : Nat} {N : Int} (h : Sum l k N) (hk : k < l.length) (hN : N + ((l[k].key.size : Int) + (l[k].data.size : Int)) ≤ 10000) : Sum l (k + 1) (N + ((l[k].key.size : Int) + (l[k].data.size : Int))) := by
  obtain ⟨h1, h2, h3⟩ := h
  refine ⟨by omega, hN, fun t ht h2 => ?_⟩
  by_cases e : t = k
  · subst e; omega
  · have := h3 t ht (by omega); omega
theorem Sum.all {l : List Fl} {N : Int} (h : Sum l l.length N) : ∀ f ∈ l, f.key.size ≤ 10000 ∧ f.data.size ≤ 10000 := by
  intro f hf
  obtain ⟨t, ht, rfl⟩ := List.getElem_of_mem hf
  have h1 := h.2.1
  have h2 := h.2.2 t ht ht
  omega

/-- on the way: the store's cell, its files, the files as the document has them -/
def LS (w : World) (g : Nat) (mb : Option Nat) (M : Option Addr) (q r : List Fl) (W : World) : Prop := Bx w g #[.map mb] 30 W ∧ (∃ B, St B r mb W) ∧ SR W W.heap.size 2 M q.length (fcl q)
theorem LS.below {w W W' : World} {g : Nat} {mb : Option Nat} {M : Option Addr} {q r : List Fl} (h : LS w g mb M q r W) (hb : Below W.heap.size W W') : LS w g mb M q r W' := by
  obtain ⟨h1, ⟨B, h2⟩, h3⟩ := h
  exact ⟨h1.below hb, ⟨B, h2.below hb⟩, (h3.below hb).more hb.size⟩
theorem LS.dr {w W W' : World} {g : Nat} {mb : Option Nat} {M : Option Addr} {q r : List Fl} (h : LS w g mb M q r W) (hd : Dr W W') : LS w g mb M q r W' := h.below hd.below
theorem LS.cell {w W : World} {g : Nat} {mb : Option Nat} {M : Option Addr} {q r : List Fl} (h : LS w g mb M q r W) : W.cell? ⟨g, 0, none⟩ = some (.map mb) := cell_of_row _ _ 0 _ _ _ h.1.1
theorem LS.all {w W : World} {g : Nat} {mb : Option Nat} {M : Option Addr} {q r : List Fl} (h : LS w g mb M q r W) : Below w.heap.size w W := h.1.all
theorem LS.empty {w W : World} {g : Nat} {mb : Option Nat} {M : Option Addr} {q r : List Fl} (h : LS w g mb M q r W) : LS w g mb none [] r W := ⟨h.1, h.2.1, SR.empty _ _ _ _⟩
set_option maxRecDepth 100000 in
theorem store_walk (l : List Fl) (A : Option Addr) (c : Nat) (key : ByteArray) (off len : Int) (w : World) (hl : l.length ≤ 4398046510976) (hok : ∀ f ∈ l, FlOk f) (hk : key.size ≤ 140737488351232) (ho : In64 off) (hn : In64 len)
    (hA : SR w w.heap.size 2 A l.length (fcl l)) :
    Calls Try.prog 3 #[.slice A l.length c, .string key, .int .i64 off, .int .i64 len] w fun e w' => e = .returned (.bool true) ∧ Below w.heap.size w w' := by
  have HAW := Lib.hid oawake_any
  have HB0 := Lib.hid (Below.refl w.heap.size w)
  go_enter Try.func3, Try.ntmps3
  go_wp2_with fail
  go_loopw [9, 11, 26] (fun a _ i wr => ∃ (k : Nat) (K N : Int), a = .int .i64 N ∧ i = .int .i64 K ∧ K = (k : Nat) ∧ k ≤ l.length ∧ Sum l k N ∧ Below w.heap.size w wr) (fun _ _ i _ => l.length - (intOf i).toNat)
  case atStart => exact ⟨0, _, _, rfl, rfl, rfl, by omega, Sum.start l, HB0.out⟩
  case round =>
    obtain ⟨k, K, N, rfl, rfl, rfl, hk2, hs, hb⟩ := hrel
    by_cases hlt : k < l.length
    · obtain ⟨b, o, rfl, hbb, x0, x1⟩ := file_at (hA.below hb) hlt
      have hsz := hok l[k] (List.getElem_mem hlt)
      have hz1 := hsz.key
      have hz2 := hsz.data
      have hn0 := hs.1
      have hn1 := hs.2.1
      have HS := Lib.hid (hs.next hlt)
      have HB := Lib.hid (hb.alloc hb.size (.cells #[.string l[k].key, .string l[k].data] 24))
      clear hs hb hsz
      by_cases hgt : 10000 < N + ((l[k].key.size : Int) + (l[k].data.size : Int))
      · go_wp2_with fail
        refine (HAW.out _).mono ?_
        rintro e w1 ⟨rfl, hb1⟩
        have HX := Lib.hid (step_below HB.out hb1)
        clear hb1
        go_wp2_with fail
        go_ret
        exact ⟨rfl, HX.out⟩
      · have HS2 := Lib.hid (HS.out (by omega))
        clear HS
        go_wp2_with fail
        go_roundw
        case rel => exact ⟨k + 1, _, _, rfl, rfl, by omega, by omega, HS2.out, HB.out⟩
        case measure => simp [intOf]; omega
    · obtain rfl : k = l.length := by omega
      have HSM := Lib.hid hs.all
      have HB := Lib.hid hb
      clear hs hb hlt hk2
      by_cases g1 : 400 < key.size
      · have g1' : (400 : Int) < (key.size : Int) := by omega
        go_wp2_with fail
        refine (HAW.out _).mono ?_
        rintro e w1 ⟨rfl, hb1⟩
        have HX := Lib.hid (step_below HB.out hb1)
        clear hb1
        go_wp2_with fail
        go_ret
        exact ⟨rfl, HX.out⟩
      · have g1' : ¬ (400 : Int) < (key.size : Int) := by omega
        by_cases g2 : 100 < l.length
        · have g2' : (100 : Int) < (l.length : Int) := by omega
          go_wp2_with fail
          refine (HAW.out _).mono ?_
          rintro e w1 ⟨rfl, hb1⟩
          have HX := Lib.hid (step_below HB.out hb1)
          clear hb1
          go_wp2_with fail
          go_ret
          exact ⟨rfl, HX.out⟩
        · have g2' : ¬ (100 : Int) < (l.length : Int) := by omega
          have HL : Hid (l.length ≤ 100) := Lib.hid (by omega)
          have HKS : Hid (key.size ≤ 400) := Lib.hid (by omega)
          have HA1 := Lib.hid (hA.below HB.out)
          clear hA hl hok
          go_wp2_with fail
          refine (of_files l A c _ (by have := HL.out; omega) (HA1.out.more HB.out.size)).mono ?_
          rintro e w1 ⟨v, rfl, hown, hb1⟩
          obtain ⟨V, vc, rfl, -, -⟩ := own_form hown
          have HV1 := Lib.hid (SR.of_own hown)
          have HB1 := Lib.hid (step_below HB.out hb1)
          have HA2 := Lib.hid (HA1.out.below (hb1.mono HB.out.size))
          have hzz := hb1.size
          have HZ1 := Lib.hid (Nat.le_trans HB.out.size hb1.size)
          clear hown hb1 hzz HA1
          have HSM1 := Lib.hid (fun f hf => And.intro (show f.key.size ≤ maxLen from Nat.le_trans (HSM.out f hf).1 (by unfold maxLen; omega)) (show f.data.size ≤ maxLen from Nat.le_trans (HSM.out f hf).2 (by unfold maxLen; omega)))
          go_wp2_with fail
          refine (new_any l A c _ HL.out HSM1.out (HA2.out.more HZ1.out)).mono ?_
          rintro e w2 ⟨mb, rfl, hst, hb2⟩
          have HB2 := Lib.hid (step_below HB1.out hb2)
          have hls : LS w w2.heap.size mb V l (kept l) (w2.alloc (.cells #[.map mb] 30)) := by
            have hb3 : Below w2.heap.size w2 (w2.alloc (.cells #[.map mb] 30)) := (Below.refl _ _).alloc (Nat.le_refl _) _
            exact ⟨⟨heap_alloc_new w2 _, by simp, step_below HB2.out hb3⟩, ⟨_, hst.below hb3⟩, ((HV1.out.below hb2).below (hb3.mono hb2.size)).more (Nat.le_trans hb2.size hb3.size)⟩
          have HLS := Lib.hid hls
          have HK := Lib.hid (kept_len l)
          clear hst hb2 hls
          go_wp2_with fail
          refine (rnew_any l V vc _ _ HL.out (fun f hf => (HSM.out f hf).1) HLS.out.2.2).mono ?_
          rintro e w3 ⟨rfl, hd⟩
          have HLS3 := Lib.hid (HLS.out.dr hd)
          clear hd HLS HB2 HV1 HA2 HZ1 HB1
          generalize w2.heap.size = g at HLS3 ⊢
          have HCC : Hid ((newC l = 0 ∧ kept l = l) ∨ (newC l ≠ 0 ∧ kept l = [])) := Lib.hid (by
            by_cases h : newC l = 0
            · exact .inl ⟨h, kept_yes h⟩
            · exact .inr ⟨h, kept_no rfl h⟩)
          generalize newC l = C at HCC ⊢
          have HQK := Lib.hid (kept_keys l)
          have HQS := Lib.hid (fun f hf => HSM.out f (kept_sub l f hf))
          generalize kept l = q at HCC HQK HQS HLS3 HK
          go_upto_if 65 with fail
          go_cut [12] from 66 to 135 (fun m wx => ∃ M Mc, m = .slice M q.length Mc ∧ LS w g mb M q q wx)
          case first =>
            rcases HCC.out with ⟨hc, hq⟩ | ⟨hc, hq⟩
            · have HX : Hid (LS w g mb V q q w3) := Lib.hid (by have h := HLS3.out; rw [← hq] at h; exact h)
              have HQ := Lib.hid hq
              have hcb : (C != 0) = false := by rw [hc]; rfl
              clear hq hc
              go_wp2_with fail
              go_meet
              exact ⟨V, vc, by rw [HQ.out], HX.out⟩
            · have HX : Hid (LS w g mb none [] q w3) := Lib.hid HLS3.out.empty
              have HQ := Lib.hid hq
              have hcb : (C != 0) = true := by simpa using hc
              clear hq hc
              go_wp2_with fail
              go_meet
              exact ⟨none, 0, by rw [HQ.out]; rfl, by have h := HX.out; rw [HQ.out] at h ⊢; exact h⟩
          case rest =>
            obtain ⟨M, Mc, rfl, hls⟩ := hcut
            have HL4 := Lib.hid hls
            clear hls HLS3 HCC
            have hc0 := HL4.out.cell
            obtain ⟨B, hst⟩ := HL4.out.2.1
            have HRD := Lib.hid (read_any B q mb key off len _ (by unfold maxLen; omega) (fun f hf => Nat.le_trans (HQS.out f hf).2 (by unfold maxLen; omega)) ho hn hst)
            clear hst
            go_wp2_with fail
            refine HRD.out.mono ?_
            rintro e w4 ⟨rfl, hb4⟩
            have HL5 := Lib.hid (HL4.out.below hb4)
            clear hb4 HRD HL4 hc0
            have hlq : Hid (q.length ≤ 100) := Lib.hid (Nat.le_trans HK.out HL.out)
            have HRR := Lib.hid (rread_any q M Mc _ key off len _ hlq.out (by have := HKS.out; omega) (fun f hf => (HQS.out f hf).2) ho hn HL5.out.2.2)
            go_wp2_with fail
            refine HRR.out.mono ?_
            rintro e w5 ⟨rfl, rfl⟩
            clear HRR
            generalize rdC q key off len = R
            have hc0 := HL5.out.cell
            obtain ⟨B, hst⟩ := HL5.out.2.1
            have HN := Lib.hid hst.nodup
            have HKY := Lib.hid (keys_any B q mb _ hlq.out hst)
            clear hst
            go_wp2_with fail
            refine HKY.out.mono ?_
            rintro e w5 ⟨kv, rfl, hown, hb5⟩
            obtain ⟨KV, kc, rfl, -, -⟩ := own_form hown
            have HKV := Lib.hid (SR.of_own hown)
            have HL6 := Lib.hid (HL5.out.below hb5)
            clear hown hb5 HKY HL5 hc0
            have HK1 := Lib.hid (fun W => key_any key W)
            have HK2 := Lib.hid (fun W => rkey_any key W (by have := HKS.out; omega))
            generalize keyB key = KB at HK1 HK2
            go_wp2_with fail
            refine (HK1.out _).mono ?_
            rintro e w6 ⟨rfl, hb6⟩
            have HL7 := Lib.hid (HL6.out.below hb6)
            have HKV2 := Lib.hid ((HKV.out.below hb6).more hb6.size)
            clear hb6 HL6 HKV HK1
            go_wp2_with fail
            refine (HK2.out _).mono ?_
            rintro e w7 ⟨rfl, rfl⟩
            clear HK2
            go_wp2_with fail
            go_loopw [20, 21, 22, 23, 108] (fun _ _ _ _ i wr => ∃ (k : Nat) (K : Int), i = .int .i64 K ∧ K = (k : Nat) ∧ k ≤ q.length ∧ wr = w6) (fun _ _ _ _ i _ => q.length - (intOf i).toNat)
            case atStart => exact ⟨0, _, rfl, rfl, by omega, rfl⟩
            case round =>
              obtain ⟨k, K, rfl, rfl, hk3, rfl⟩ := hrel
              have hqq := hlq.out
              by_cases hlt : k < q.length
              · obtain ⟨b, o, rfl, hbb, hcx⟩ := HKV2.out.at_ hlt
                have hx := hcx 0 (by omega) (.string (kb q k)) (by rw [Nat.mul_one]; exact sk_at hlt)
                simp only [Nat.mul_one, Nat.add_zero] at hx
                have HRD := Lib.hid (rread_any q M Mc _ (kb q k) 0 0 _ hlq.out (kb_small hlt HQS.out) (fun f hf => (HQS.out f hf).2) ⟨by omega, by omega⟩ ⟨by omega, by omega⟩ HL7.out.2.2)
                have hr0 := rdC_none HQK.out (kb_mem hlt)
                rw [hr0] at HRD
                clear hr0
                generalize rdC q (kb q k) 0 0 = R2 at HRD
                by_cases hk0 : k = 0
                · have hki : ¬ (0 : Int) < (k : Int) := by omega
                  clear hcx hk0
                  generalize kb q k = xb at hx HRD
                  go_wp2_with fail
                  refine HRD.out.mono ?_
                  rintro e w7 ⟨rfl, rfl⟩
                  go_wp2_with fail
                  go_roundw
                  case rel => exact ⟨k + 1, _, rfl, by omega, by omega, trivial⟩
                  case measure => simp [intOf]; omega
                · obtain ⟨j, hj⟩ : ∃ j, k = j + 1 := ⟨k - 1, by omega⟩
                  obtain ⟨b', o', hA', hbb', hcy⟩ := HKV2.out.at_ (k := j) (by omega)
                  have hy := hcy 0 (by omega) (.string (kb q j)) (by rw [Nat.mul_one]; exact sk_at (by omega))
                  simp only [Nat.mul_one, Nat.add_zero] at hy
                  simp only [Option.some.injEq, Addr.mk.injEq, and_true] at hA'
                  obtain ⟨rfl, rfl⟩ := hA'
                  have hst := kb_step HN.out (k := j) (by omega)
                  rw [← hj] at hst
                  obtain ⟨t1, t2⟩ := hst
                  have hki : (0 : Int) < (k : Int) := by omega
                  have hkj : (k : Int) - 1 = (j : Int) := by omega
                  have hjq : j < q.length := by omega
                  clear hcx hcy hk0 hj hbb'
                  generalize kb q k = xb at hx HRD t1 t2
                  generalize kb q j = yb at hy t1 t2
                  go_wp2_with fail
                  refine HRD.out.mono ?_
                  rintro e w7 ⟨rfl, rfl⟩
                  go_wp2_with fail
                  go_roundw
                  case rel => exact ⟨k + 1, _, rfl, by omega, by omega, trivial⟩
                  case measure => simp [intOf]; omega
              · obtain rfl : k = q.length := by omega
                go_wp2_with fail
                refine (HAW.out _).mono ?_
                rintro e w7 ⟨rfl, hb7⟩
                have HX := Lib.hid (step_below HL7.out.all hb7)
                clear hb7
                go_wp2_with fail
                go_ret
                exact ⟨rfl, HX.out⟩
end Go.Proofs.Ytkhenedpdfmlbaa
