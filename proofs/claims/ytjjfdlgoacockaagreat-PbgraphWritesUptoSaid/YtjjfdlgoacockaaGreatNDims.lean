import Derived.Test.YtjjfdlgoacockaaGreatBLast
import Derived.Test.YtjjfdlgoacockaaGreatMath
import Derived.Test.YtjjfdlgoacockaaGreatKSort
import Derived.Test.YtjjfdlgoacockaaGreatMNew
import Derived.Test.YtjjfdlgoacockaaGreatGRefTwo
namespace Go.Proofs.YtjjfdlgoacockaaGreat
open Go.RowKit M1 M2 M3 M9 M10 M11 Go.Sort
open M7 (nm)

def dimC (b : ByteArray) : Nat := orC (orC (fields b).2 (nt (okF (fields b).1 1 0) 3)) (nt (has (fields b).1 1) 6)
def dflt (F : Nat) (l : List ByteArray) : Nat := l.foldl (fun F b => orC F (dimC b)) F
theorem dflt_snoc (F : Nat) (l : List ByteArray) (b : ByteArray) : dflt F (l ++ [b]) = orC (dflt F l) (dimC b) := by unfold dflt; rw [List.foldl_append]; rfl
def dimV (b : ByteArray) : Int := wrap64 (((lastF (fields b).1 1).n : Nat) : Int)

theorem Stp.new {g d : Nat} {a b c : World} (h : Stp g a b) (k : Stp d b c) (hd : a.heap.size ≤ d) : Stp g a c :=
  ⟨k.os.trans h.os, k.tape.trans h.tape, k.output.trans h.output, Nat.le_trans h.size k.size, fun i hi hr => (k.block i (Nat.lt_of_lt_of_le hi h.size) (by intro e; injection e with e; omega)).trans (h.block i hi hr)⟩
theorem Ms.other {g B c d : Nat} {A : Option Addr} {L : List WFd} {F F' : Nat} {v : Value} {W W' : World} (h : Ms g B A c L F W) (hd : n_Msg d v F' W) (hs : Stp d W W') (hne : g ≠ d) : Ms g B A c L F W' :=
  ⟨blk_grown h.msg hs (by intro e; injection e with e; exact hne e.symm), own_stp h.own hd (by decide) hs⟩
theorem Ms.far {g B c b : Nat} {A : Option Addr} {L : List WFd} {F : Nat} {W : World} {cur : Array Value} {T : TypeId} (h : Ms g B A c L F W) (hb : W.heap[b]? = some (.cells cur T (0, 0))) (h1 : T ≠ 209) (h2 : T ≠ 184) (i : Nat) (u : Value) : Ms g B A c L F (W.setCell ⟨b, i, none⟩ u) := by
  have hne : g ≠ b := by
    rintro rfl
    have := h.msg
    unfold n_Msg at this
    rw [this] at hb
    simp only [Option.some.injEq, Obj.cells.injEq] at hb
    exact h1 hb.2.1.symm
  exact ⟨h.msg.far hne i u, own_set h.own (own_far h.own hb h2) i u⟩
structure DI (w : World) (g B : Nat) (A : Option Addr) (c : Nat) (L : List WFd) (F : Nat) (ts : List ByteArray) (U : Option Addr) (vc g2 : Nat) (vs zs : List Value) (k : Nat) (W : World) : Prop where
  ms : Ms g B A c L F W
  tx : W.ownsRow w.heap.size 9 1 (.slice U ts.length vc) ts.length (p_tv ts)
  fl : Fill W g2 g2 2 vs zs k
  st : Stp g w W
  lt : g < w.heap.size
  le : w.heap.size ≤ g2
section
variable {w W W' : World} {g B c vc g2 k d : Nat} {A U : Option Addr} {L : List WFd} {F F' : Nat} {ts : List ByteArray} {vs zs : List Value} {v : Value}
theorem DI.below (h : DI w g B A c L F ts U vc g2 vs zs k W) (hb : Below W.heap.size W W') : DI w g B A c L F ts U vc g2 vs zs k W' :=
  ⟨h.ms.below hb, own_keep h.tx hb, h.fl.keep hb, h.st.trans (Stp.of hb), h.lt, h.le⟩
theorem DI.other (h : DI w g B A c L F ts U vc g2 vs zs k W) (hd : n_Msg d v F' W) (hs : Stp d W W') (hle : w.heap.size ≤ d) : DI w g B A c L F ts U vc g2 vs zs k W' :=
  ⟨h.ms.other hd hs (by have := h.lt; omega), own_stp h.tx hd (by decide) hs, own_stp h.fl hd (by decide) hs, h.st.new hs hle, h.lt, h.le⟩
theorem DI.self (h : DI w g B A c L F ts U vc g2 vs zs k W) (hm : n_Msg g (.slice A L.length c) F' W') (hs : Stp g W W') : DI w g B A c L F' ts U vc g2 vs zs k W' :=
  ⟨h.ms.step hm hs, own_stp h.tx h.ms.msg (by decide) hs, own_stp h.fl h.ms.msg (by decide) hs, h.st.trans hs, h.lt, h.le⟩
theorem DI.blk (h : DI w g B A c L F ts U vc g2 vs zs k W) : ∃ cur, W.heap[g2]? = some (.cells cur 2 (0, 0)) := (own_cur h.fl).2
theorem DI.put (h : DI w g B A c L F ts U vc g2 vs zs k W) (hz : zs.length = vs.length) (hk : k < vs.length) : DI w g B A c L F ts U vc g2 vs zs (k + 1) (W.setCell ⟨g2, k, none⟩ vs[k]) := by
  obtain ⟨cur, hb⟩ := h.blk
  exact ⟨h.ms.far hb (by decide) (by decide) _ _, own_set h.tx (own_far h.tx hb (by decide)) _ _, h.fl.put hz hk, h.st.put h.le _ _, h.lt, h.le⟩
end
theorem n_infoInt : (Tryz.prog.info? 2).map (fun i => (i.zero, i.size, i.bytes)) = some (some (.int .i64 0), 1, 8) := by kernel_rfl

set_option maxRecDepth 100000 in
set_option maxHeartbeats 4000000 in
theorem dims_any (g B : Nat) (A : Option Addr) (c : Nat) (L : List WFd) (F : Nat) (w : World) (hm : Ms g B A c L F w) (hl : L.length ≤ 1048576) (hok : ∀ f ∈ L, f.data.size ≤ 1048576) :
    Calls Tryz.prog 123 #[.pointer (some ⟨g, 0, none⟩)] w fun e w' => ∃ U k, e = .returned (.slice U (txts (ofNum L 1) []).1.length k) ∧ w'.ownsRow w.heap.size 2 1 (.slice U (txts (ofNum L 1) []).1.length k) (txts (ofNum L 1) []).1.length (iv ((txts (ofNum L 1) []).1.map dimV)) ∧ n_Msg g (.slice A L.length c) (dflt (orC F (txts (ofNum L 1) []).2) (txts (ofNum L 1) []).1) w' ∧ Stp g w w' := by
  obtain ⟨i0, hi0, hz0, hz1, hz2⟩ := info_parts n_infoInt
  have HT := Lib.hid (textsOf_any g B A c L 1 F w hm hl)
  have HM := Lib.hid hm
  have hle := txts_le (ofNum L 1) []
  have hofl : (ofNum L 1).length ≤ L.length := List.length_filter_le _ _
  have HMEM := Lib.hid (txts_mem (ofNum L 1) [] (fun f hf => hok f (List.mem_filter.1 hf).1) (by simp))
  generalize txts (ofNum L 1) [] = TT at *
  obtain ⟨ts, C⟩ := TT
  dsimp only at *
  simp only [List.length_nil, Nat.zero_add] at hle
  clear hm hok
  go_enter Tryz.func123, Tryz.ntmps123
  go_wp2_with fail
  refine HT.out.mono ?_
  rintro e w1 ⟨U, vc, rfl, hown, hmsg, hstp⟩
  have HM1 := Lib.hid (HM.out.step hmsg hstp)
  have HO1 := Lib.hid hown
  have HS1 := Lib.hid hstp
  generalize hF1 : orC F C = F1 at *
  have HF1 := Lib.hid hF1
  clear hF1
  clear hown hmsg hstp HT
  have hn : ts.length ≤ 1048576 := by omega
  generalize hnn : ts.length = n at *
  have HNN := Lib.hid hnn
  go_wp2_with (at_make; refine wpList_make_full _ rfl _ _ 83 rfl w1.heap.size 2 i0 _ 1 Tryz.underlying83 hi0 hz0 hz1 .i64 .i64 _ _ n rfl rfl rfl rfl (by rw [hz2]; omega) (by unfold maxLen; omega) (Nat.le_refl _) ?_)
  intro w2 hown hg
  rw [made_cells] at hown
  have hb2 := (Below.refl w1.heap.size w1).grown hg (Nat.le_refl _) (fun q hq => by cases hq)
  have HVL : Hid ((ts.map fun b => Value.int .i64 (dimV b)).length = n) := Lib.hid (by rw [List.length_map, hnn])
  have HZL : Hid ((List.replicate n (Value.int .i64 0)).length = (ts.map fun b => Value.int .i64 (dimV b)).length) := Lib.hid (by rw [List.length_replicate, HVL.out])
  have hf0 : Fill w2 w1.heap.size w1.heap.size 2 (ts.map fun b => Value.int .i64 (dimV b)) (List.replicate n (Value.int .i64 0)) 0 := Fill.start (by rw [HVL.out]; exact hown)
  have HD0 : Hid (DI w g B A c L F1 ts U vc w1.heap.size (ts.map fun b => Value.int .i64 (dimV b)) (List.replicate n (Value.int .i64 0)) 0 w2) :=
    Lib.hid ⟨HM1.out.below hb2, by rw [hnn]; exact own_keep HO1.out hb2, hf0, HS1.out.trans (Stp.of hb2), HM.out.msg.lt, HS1.out.size⟩
  clear hown hg hb2 hf0 hi0 hz0 hz1 hz2 HM HM1 HO1 HS1
  generalize w1.heap.size = g2 at *
  go_wp2_with fail
  go_loopw [17] (fun i wr => ∃ (k : Nat) (K : Int), i = .int .i64 K ∧ K = (k : Nat) ∧ k ≤ n ∧ DI w g B A c L (dflt F1 (ts.take k)) ts U vc g2 (ts.map fun b => Value.int .i64 (dimV b)) (List.replicate n (Value.int .i64 0)) k wr) (fun i _ => n - (intOf i).toNat)
  case atStart => exact ⟨0, _, rfl, rfl, by omega, HD0.out⟩
  case round =>
    obtain ⟨k, K, rfl, rfl, hk, hdi⟩ := hrel
    have HD := Lib.hid hdi
    by_cases hlt : k < n
    · have hlt2 : k < ts.length := by omega
      obtain ⟨bb, oo, hUU, -, hx⟩ := n_txt_at (SR.of_own hdi.tx) hlt2
      have hsk := HMEM.out ts[k] (List.getElem_mem hlt2)
      have hgE : (ts.map fun b => Value.int .i64 (dimV b))[k]'(by rw [HVL.out]; exact hlt) = Value.int .i64 (dimV ts[k]) := List.getElem_map ..
      have HSN := Lib.hid (show dflt F1 (ts.take (k + 1)) = orC (dflt F1 (ts.take k)) (dimC ts[k]) by rw [List.take_succ_eq_append_getElem hlt2, dflt_snoc])
      subst hUU
      have HOP := Lib.hid (fun W => open_any ts[k] W (by unfold maxLen; omega))
      have HFL := Lib.hid (fields_len ts[k])
      have HDC := Lib.hid (show dimC ts[k] = orC (orC (fields ts[k]).2 (nt (okF (fields ts[k]).1 1 0) 3)) (nt (has (fields ts[k]).1 1) 6) from rfl)
      have HDV := Lib.hid (show dimV ts[k] = wrap64 (((lastF (fields ts[k]).1 1).n : Nat) : Int) from rfl)
      clear hdi
      generalize ts[k] = X at *
      generalize fields X = FF at *
      obtain ⟨L3, C3⟩ := FF
      dsimp only at *
      have hl3 : L3.length ≤ 1048576 := HFL.out
      go_wp2_with fail
      refine (HOP.out _).mono ?_
      rintro e w3 ⟨a3, c3, rfl, hown3, hb3⟩
      have hb4 := (Below.refl w3.heap.size w3).alloc (Nat.le_refl _) (.cells #[.slice a3 L3.length c3, .int .i64 (C3 : Int)] 209)
      have HD4 := Lib.hid (HD.out.below (step_below hb3 hb4))
      have HM4 : Hid (Ms w3.heap.size wr.heap.size a3 c3 L3 C3 (w3.alloc (.cells #[.slice a3 L3.length c3, .int .i64 (C3 : Int)] 209))) := Lib.hid ⟨n_Msg.start w3 _ _, own_keep hown3 hb4⟩
      have HGD : Hid (w.heap.size ≤ w3.heap.size) := Lib.hid (Nat.le_trans HD.out.st.size hb3.size)
      clear hb3 hown3 hb4 HOP HD hx
      have T5 := Lib.hid (n_numberOf_any w3.heap.size _ a3 c3 L3 1 C3 _ HM4.out hl3)
      go_wp2_with fail
      refine T5.out.mono ?_
      rintro e w5 ⟨rfl, hm5, hs5⟩
      have HM5 := Lib.hid (HM4.out.step hm5 hs5)
      have HD5 := Lib.hid (HD4.out.other HM4.out.msg hs5 HGD.out)
      clear hm5 hs5 T5 HM4 HD4
      have hput := HD5.out.put HZL.out (by rw [HVL.out]; exact hlt)
      rw [hgE, HDV.out] at hput
      obtain ⟨cur, hcur⟩ := HD5.out.blk
      have hmf := HM5.out.far hcur (by decide) (by decide) k (.int .i64 (wrap64 (((lastF L3 1).n : Nat) : Int)))
      obtain ⟨u0, hu0⟩ := HD5.out.fl.cell HZL.out (by rw [HVL.out]; exact hlt)
      have hfz := HD5.out.fl.frozenAt k
      obtain ⟨w6, hw6, h6⟩ := n_name (P := fun W => DI w g B A c L (dflt F1 (ts.take k)) ts (some ⟨bb, oo, none⟩) vc g2 (ts.map fun b => Value.int .i64 (dimV b)) (List.replicate n (Value.int .i64 0)) (k + 1) W ∧ Ms w3.heap.size wr.heap.size a3 c3 L3 (orC C3 (nt (okF L3 1 0) 3)) W) ⟨hput, hmf⟩
      have H6 := Lib.hid h6
      have m0 := h6.2.msg.c0
      clear hput hmf hcur h6 HM5 HD5
      have T7 := Lib.hid (last_any a3 c3 L3 1 w6 (by omega) H6.out.2.sr)
      have hHas : decide (ofNum L3 1 ≠ []) = has L3 1 := rfl
      rw [hHas] at T7
      go_wp2_with fail
      refine T7.out.mono ?_
      rintro e w7 ⟨rfl, hb7⟩
      have hb8 := step_below hb7 ((Below.refl w7.heap.size w7).alloc (Nat.le_refl _) (.cells #[.int .i64 (lastF L3 1).num, .int .i64 (lastF L3 1).typ, .int .u64 ((lastF L3 1).n : Int), .string (lastF L3 1).data] 184))
      have H8 := Lib.hid (And.intro (H6.out.1.below hb8) (H6.out.2.below hb8))
      simp only [fc]
      clear hb7 hb8 T7 H6 m0 hu0 hfz hw6
      have T9 := Lib.hid (must_any w3.heap.size _ _ (has L3 1) 6 _ H8.out.2.msg)
      rw [← HDC.out] at T9
      go_wp2_with fail
      refine T9.out.mono ?_
      rintro e w9 ⟨rfl, hm9, hs9⟩
      have H9 := Lib.hid (And.intro (H8.out.1.other H8.out.2.msg hs9 HGD.out) hm9)
      have m1 := hm9.c1
      clear hm9 hs9 T9 H8
      have T10 := Lib.hid (must_any g _ _ ((dimC X : Int) == 0) (dimC X) _ H9.out.1.ms.msg)
      rw [nt_code, ← HSN.out] at T10
      generalize dimC X = dc at *
      go_wp2_with fail
      refine T10.out.mono ?_
      rintro e w10 ⟨rfl, hm10, hs10⟩
      have H10 := Lib.hid (H9.out.1.self hm10 hs10)
      clear hm10 hs10 T10 H9 m1
      go_wp2_with fail
      go_roundw
      case rel => exact ⟨k + 1, _, rfl, by omega, by omega, H10.out⟩
      case measure => simp [intOf]; omega
    · obtain rfl : k = n := by omega
      have hk2 : k = (ts.map fun b => Value.int .i64 (dimV b)).length := by rw [HVL.out]
      have hfl := hdi.fl
      rw [hk2] at hfl
      have hd := hfl.done (by rw [← hk2]; simp)
      rw [← hk2] at hd
      have HE := Lib.hid (show (ts.map fun b => Value.int .i64 (dimV b)) = iv (ts.map dimV) by unfold iv; rw [List.map_map]; rfl)
      rw [HE.out] at hd
      have HT2 := Lib.hid (show ts.take k = ts by rw [← hnn, List.take_length])
      rw [HT2.out] at HD
      have HR := Lib.hid (own_base hd HD.out.le)
      clear hdi hfl hd hk2
      go_wp2_with fail
      go_ret
      rw [HF1.out, HNN.out]
      exact ⟨_, _, rfl, HR.out, HD.out.ms.msg, HD.out.st⟩
end Go.Proofs.YtjjfdlgoacockaaGreat
namespace Go.Proofs.YtjjfdlgoacockaaGreat
open Go.RowKit M1 M2 M3 M9 M10 M11

def nkf (n : Nat) : Int := if isKind (n : Int) = true then (n : Int) else 0
theorem n_five_at {k : Nat} (h : k < 5) : ∃ e : Int, fiveK[k]? = some e ∧ isKind e = true ∧ 0 ≤ e ∧ e ≤ 14 := by
  obtain rfl | rfl | rfl | rfl | rfl : k = 0 ∨ k = 1 ∨ k = 2 ∨ k = 3 ∨ k = 4 := by omega
  all_goals exact ⟨_, rfl, by decide, by decide, by decide⟩
theorem nkf_no {n : Nat} (h : ∀ j : Nat, j < 5 → fiveK[j]? ≠ some (n : Int)) : nkf n = 0 := by
  unfold nkf
  rw [if_neg]
  intro h1
  rcases isKind_iff.1 h1 with e | e | e | e | e
  · exact h 0 (by omega) (by rw [e]; rfl)
  · exact h 1 (by omega) (by rw [e]; rfl)
  · exact h 2 (by omega) (by rw [e]; rfl)
  · exact h 3 (by omega) (by rw [e]; rfl)
  · exact h 4 (by omega) (by rw [e]; rfl)

set_option maxRecDepth 100000 in
theorem n_kindOf_any (n : Nat) (w : World) : Calls Tryz.prog 121 #[.int .u64 (n : Int)] w fun e w' => e = .returned (.int .i64 (nkf n)) ∧ Below w.heap.size w w' := by
  go_enter Tryz.func121, Tryz.ntmps121
  go_wp2_with fail
  refine (k_all_any _).mono ?_
  rintro e w1 ⟨v, rfl, hown, hb1⟩
  obtain ⟨va, vc, rfl, -, -⟩ := own_form hown
  have HS := Lib.hid (SR.of_own hown)
  have HB := Lib.hid hb1
  clear hown hb1
  go_wp2_with fail
  go_loopw [7] (fun i wr => ∃ (k : Nat) (K : Int), i = .int .i64 K ∧ K = (k : Nat) ∧ k ≤ 5 ∧ (∀ j : Nat, j < k → fiveK[j]? ≠ some (n : Int)) ∧ w1 = wr) (fun i _ => 5 - (intOf i).toNat)
  case atStart => exact ⟨0, _, rfl, rfl, by omega, fun j hj => absurd hj (by omega), rfl⟩
  case round =>
    obtain ⟨k, K, rfl, rfl, hk, hno, rfl⟩ := hrel
    have HN := Lib.hid hno
    clear hno
    by_cases hlt : k < 5
    · obtain ⟨x, hx, hxk, hx0, hx1⟩ := n_five_at hlt
      obtain ⟨b, o, rfl, hb, x0⟩ := cell_at HS.out (k := k) hlt (u := .int .i64 x) (by unfold zv; rw [List.getElem?_map, hx]; rfl)
      have hw : IntKind.u64.wrap x = x := by rw [IntKind.wrap_u64]; omega
      have HX := Lib.hid hx
      clear hx
      by_cases he : x = (n : Int)
      · have hq : (x == (n : Int)) = true := by simpa using he
        have HE := Lib.hid (show nkf n = x by unfold nkf; rw [← he, if_pos hxk])
        clear he
        go_wp2_with fail
        go_ret
        rw [HE.out]
        exact ⟨rfl, HB.out⟩
      · have hq : (x == (n : Int)) = false := by simpa using he
        have HNE := Lib.hid he
        clear he
        go_wp2_with fail
        go_roundw
        case rel =>
          refine ⟨k + 1, _, rfl, by omega, by omega, fun j hj => ?_, trivial⟩
          by_cases hjk : j < k
          · exact HN.out j hjk
          · obtain rfl : j = k := by omega
            rw [HX.out]
            exact fun e => HNE.out (by injection e)
        case measure => simp [intOf]; omega
    · obtain rfl : k = 5 := by omega
      have HE := Lib.hid (nkf_no HN.out)
      clear hlt hk
      go_wp2_with fail
      go_ret
      rw [HE.out]
      exact ⟨rfl, HB.out⟩
end Go.Proofs.YtjjfdlgoacockaaGreat
namespace Go.Proofs.YtjjfdlgoacockaaGreat
open Go.RowKit M1 M2 M3 M8 M9 M10 M11 Go.Sort
open M7 (nm)

/-! ### in plain words: the reading in the program's order -/
def inf1 (b : ByteArray) : Nat := orC (fields b).2 (nt (okF (fields b).1 1 2) 3)
def inf2 (b : ByteArray) : List WFd × Nat := innM (inf1 b) (fields b).1 2
def inf3 (b : ByteArray) : List WFd × Nat := innM (inf2 b).2 (inf2 b).1 1
def inf4 (b : ByteArray) : Nat := orC (inf3 b).2 (nt (okF (inf3 b).1 1 0) 3)
def inf5 (b : ByteArray) : List WFd × Nat := innM (inf4 b) (inf3 b).1 2
def inf6 (b : ByteArray) : Nat := dflt (orC (inf5 b).2 (txts (ofNum (inf5 b).1 1) []).2) (txts (ofNum (inf5 b).1 1) []).1
def inf7 (b : ByteArray) : Nat := orC (inf6 b) (nt (nm (lastF (fields b).1 1).data) 8)
def inf8 (b : ByteArray) : Nat := orC (inf7 b) (nt (nkf (lastF (inf3 b).1 1).n != 0) 5)
theorem innM_no {F : Nat} (L : List WFd) (num : Int) (h : F ≠ 0) : innM F L num = ([], F) := by unfold innM; rw [orC_no _ h, if_pos h]
theorem innM_zero (L : List WFd) (num : Int) : innM 0 L num = whole L num := by unfold innM whole; rw [orC_yes]
theorem innM_ok (F : Nat) (L : List WFd) (num : Int) : (innM F L num).1.length ≤ 1048576 ∧ ∀ f ∈ (innM F L num).1, f.data.size ≤ 1048576 := by
  unfold innM
  split
  · exact ⟨Nat.zero_le _, fun f hf => by simp at hf⟩
  · exact ⟨fields_len _, fun f hf => (fields_ok f hf).2⟩
theorem dflt_no {F : Nat} (h : F ≠ 0) : ∀ l : List ByteArray, dflt F l = F
  | [] => rfl
  | b :: l => by
    have e : dflt F (b :: l) = dflt (orC F (dimC b)) l := rfl
    rw [e, orC_no _ h, dflt_no h l]
theorem dimsM_is : ∀ (l : List ByteArray) (acc : List Int), dimsM l acc = if dflt 0 l ≠ 0 then ([], dflt 0 l) else (acc ++ l.map dimV, 0)
  | [], acc => by rw [dimsM, if_neg (by show ¬ ((0 : Nat) ≠ 0); simp)]; simp
  | b :: l, acc => by
    have e : dflt 0 (b :: l) = dflt (dimC b) l := rfl
    rw [e, dimsM]
    by_cases h1 : (fields b).2 ≠ 0
    · have hd : dimC b = (fields b).2 := by unfold dimC; rw [orC_no _ h1, orC_no _ h1]
      rw [if_pos h1, hd, dflt_no h1, if_pos h1]
    · have h1' : (fields b).2 = 0 := by omega
      rw [if_neg h1]
      cases h2 : okF (fields b).1 1 0
      · have hd : dimC b = 3 := by unfold dimC; rw [h1', h2]; rfl
        rw [if_pos rfl, hd, dflt_no (by decide), if_pos (by decide)]
      · rw [if_neg (by simp)]
        cases h3 : has (fields b).1 1
        · have hd : dimC b = 6 := by unfold dimC; rw [h1', h2, h3]; rfl
          rw [if_pos rfl, hd, dflt_no (by decide), if_pos (by decide)]
        · have hd : dimC b = 0 := by unfold dimC; rw [h1', h2, h3]; rfl
          rw [if_neg (by simp), dimsM_is l, hd]
          have hv : dimV b = sg (lastF (fields b).1 1).n := rfl
          rw [List.map_cons, hv, List.append_assoc, List.singleton_append]
theorem nkf_ok (n : Nat) : (nkf n != 0) = M11.kindOk n := by
  rw [Bool.eq_iff_iff]
  unfold M11.kindOk nkf
  simp only [bne_iff_ne, ne_eq, Bool.and_eq_true, decide_eq_true_eq]
  constructor
  · intro h
    by_cases hk : isKind (n : Int) = true
    · refine ⟨?_, ?_⟩
      · rcases isKind_iff.1 hk with e | e | e | e | e <;> omega
      · have := kSize_pos.2 hk; omega
    · rw [if_neg hk] at h; exact absurd rfl h
  · rintro ⟨_, h2⟩
    have hk : isKind (n : Int) = true := by
      cases hk : isKind (n : Int)
      · exact absurd (kSize_none hk) h2
      · rfl
    rw [if_pos hk]
    rcases isKind_iff.1 hk with e | e | e | e | e <;> omega
theorem nkf_yes {n : Nat} (h : M11.kindOk n = true) : nkf n = (n : Int) := by
  rw [← nkf_ok] at h
  unfold nkf at *
  by_cases hk : isKind (n : Int) = true
  · rw [if_pos hk]
  · rw [if_neg hk] at h; simp at h
theorem inf8_no {b : ByteArray} (h : inf8 b ≠ 0) : infoM b = (zI11, inf8 b) := by
  unfold infoM
  unfold inf8 inf7 inf6 inf5 inf4 inf3 inf2 inf1 at *
  by_cases h1 : (fields b).2 ≠ 0
  · simp only [orC_no _ h1, innM_no _ _ h1, dflt_no h1] at h ⊢
    rw [if_pos h1]
  rw [if_neg h1]
  simp only [show (fields b).2 = 0 by omega, orC_yes] at h ⊢
  cases h2 : okF (fields b).1 1 2
  · rw [if_pos rfl]
    simp only [nt, Bool.false_eq_true, if_false, orC_no _ (show (3 : Nat) ≠ 0 by decide), innM_no _ _ (show (3 : Nat) ≠ 0 by decide), dflt_no (show (3 : Nat) ≠ 0 by decide)]
  rw [if_neg (by simp)]
  rw [h2] at h
  simp only [nt, if_true, innM_zero] at h ⊢
  generalize whole (fields b).1 2 = R2 at *
  obtain ⟨L2, C2⟩ := R2
  dsimp only at *
  by_cases h3 : C2 ≠ 0
  · simp only [orC_no _ h3, innM_no _ _ h3, dflt_no h3]
    rw [if_pos h3]
  rw [if_neg h3]
  obtain rfl : C2 = 0 := by omega
  simp only [innM_zero] at h ⊢
  generalize whole L2 1 = R3 at *
  obtain ⟨L3, C3⟩ := R3
  dsimp only at *
  by_cases h4 : C3 ≠ 0
  · simp only [orC_no _ h4, innM_no _ _ h4, dflt_no h4]
    rw [if_pos h4]
  rw [if_neg h4]
  obtain rfl : C3 = 0 := by omega
  simp only [orC_yes] at h ⊢
  cases h5 : okF L3 1 0
  · rw [if_pos rfl]
    simp only [Bool.false_eq_true, if_false, orC_no _ (show (3 : Nat) ≠ 0 by decide), innM_no _ _ (show (3 : Nat) ≠ 0 by decide), dflt_no (show (3 : Nat) ≠ 0 by decide)]
  rw [if_neg (by simp)]
  rw [h5] at h
  simp only [if_true, innM_zero] at h ⊢
  generalize whole L3 2 = R5 at *
  obtain ⟨L5, C5⟩ := R5
  dsimp only at *
  by_cases h6 : C5 ≠ 0
  · simp only [orC_no _ h6, dflt_no h6]
    rw [if_pos h6]
  rw [if_neg h6]
  obtain rfl : C5 = 0 := by omega
  simp only [orC_yes] at h ⊢
  generalize txts (ofNum L5 1) [] = R6 at *
  obtain ⟨ts, C6⟩ := R6
  dsimp only at *
  by_cases h7 : C6 ≠ 0
  · simp only [orC_no _ h7, dflt_no h7]
    rw [if_pos h7]
  rw [if_neg h7]
  obtain rfl : C6 = 0 := by omega
  rw [dimsM_is]
  by_cases h8 : dflt 0 ts ≠ 0
  · simp only [orC_no _ h8]
    have hd : (if dflt 0 ts ≠ 0 then (([] : List Int), dflt 0 ts) else ([] ++ ts.map dimV, 0)) = ([], dflt 0 ts) := if_pos h8
    rw [hd, if_pos h8]
  have hd : (if dflt 0 ts ≠ 0 then (([] : List Int), dflt 0 ts) else ([] ++ ts.map dimV, 0)) = ([] ++ ts.map dimV, 0) := if_neg h8
  rw [hd, if_neg (by simp)]
  have h8' : dflt 0 ts = 0 := by omega
  simp only [h8', orC_yes] at h ⊢
  cases h9 : nm (lastF (fields b).1 1).data
  · rw [if_pos rfl]; rfl
  rw [if_neg (by simp)]
  rw [h9, nkf_ok] at h
  rw [nkf_ok]
  cases h10 : M11.kindOk (lastF L3 1).n
  · rw [if_pos rfl]; rfl
  · rw [h10] at h; exact absurd rfl h
theorem inf8_yes {b : ByteArray} (h : inf8 b = 0) : infoM b = (⟨(lastF (fields b).1 1).data, nkf (lastF (inf3 b).1 1).n, (txts (ofNum (inf5 b).1 1) []).1.map dimV⟩, 0) := by
  unfold infoM
  unfold inf8 inf7 inf6 inf5 inf4 inf3 inf2 inf1 at *
  rw [nkf_ok] at h
  have h0 := h
  simp only [orC_iff, nt_iff (show (8 : Nat) ≠ 0 by decide), nt_iff (show (5 : Nat) ≠ 0 by decide)] at h
  obtain ⟨⟨q6, q7⟩, q8⟩ := h
  by_cases h1 : (fields b).2 ≠ 0
  · simp only [orC_no _ h1, innM_no _ _ h1, dflt_no h1] at q6; omega
  rw [if_neg h1]
  simp only [show (fields b).2 = 0 by omega, orC_yes] at *
  cases h2 : okF (fields b).1 1 2
  · simp only [h2, nt, Bool.false_eq_true, if_false, orC_no _ (show (3 : Nat) ≠ 0 by decide), innM_no _ _ (show (3 : Nat) ≠ 0 by decide), dflt_no (show (3 : Nat) ≠ 0 by decide)] at q6; omega
  rw [if_neg (by simp)]
  simp only [h2, nt, if_true, innM_zero] at q6 q8 ⊢
  clear h0
  generalize whole (fields b).1 2 = R2 at *
  obtain ⟨L2, C2⟩ := R2
  dsimp only at *
  by_cases h3 : C2 ≠ 0
  · simp only [orC_no _ h3, innM_no _ _ h3, dflt_no h3] at q6; omega
  rw [if_neg h3]
  obtain rfl : C2 = 0 := by omega
  simp only [innM_zero] at *
  generalize whole L2 1 = R3 at *
  obtain ⟨L3, C3⟩ := R3
  dsimp only at *
  by_cases h4 : C3 ≠ 0
  · simp only [orC_no _ h4, innM_no _ _ h4, dflt_no h4] at q6; omega
  rw [if_neg h4]
  obtain rfl : C3 = 0 := by omega
  simp only [orC_yes] at *
  cases h5 : okF L3 1 0
  · simp only [h5, Bool.false_eq_true, if_false, orC_no _ (show (3 : Nat) ≠ 0 by decide), innM_no _ _ (show (3 : Nat) ≠ 0 by decide), dflt_no (show (3 : Nat) ≠ 0 by decide)] at q6; omega
  rw [if_neg (by simp)]
  simp only [h5, if_true, innM_zero] at q6 ⊢
  generalize whole L3 2 = R5 at *
  obtain ⟨L5, C5⟩ := R5
  dsimp only at *
  by_cases h6 : C5 ≠ 0
  · simp only [orC_no _ h6, dflt_no h6] at q6; omega
  rw [if_neg h6]
  obtain rfl : C5 = 0 := by omega
  simp only [orC_yes] at *
  generalize txts (ofNum L5 1) [] = R6 at *
  obtain ⟨ts, C6⟩ := R6
  dsimp only at *
  by_cases h7 : C6 ≠ 0
  · simp only [dflt_no h7] at q6; omega
  rw [if_neg h7]
  obtain rfl : C6 = 0 := by omega
  have hd : dimsM ts [] = (ts.map dimV, 0) := by rw [dimsM_is, if_neg (by rw [q6]; simp), List.nil_append]
  rw [hd, if_neg (by simp), q7, if_neg (by simp), q8, if_neg (by simp), nkf_yes q8]
end Go.Proofs.YtjjfdlgoacockaaGreat
namespace Go.Proofs.YtjjfdlgoacockaaGreat
open Go.RowKit M1 M2 M3 M8 M9 M10 M11 Go.Sort
open M7 (nm)

def InfRes (r : Inf × Nat) (w : World) (e : Ending) (w' : World) : Prop :=
  ∃ cs, e = .returned (.tuple #[.agg cs.toArray, .int .i64 (r.2 : Int)]) ∧ OInf w.heap.size w' r.1 cs ∧ Below w.heap.size w w'
theorem inf_zero (w : World) (B : Nat) : OInf B w zI11 [.string ⟨#[]⟩, .int .i64 0, .slice none 0 0] :=
  ⟨_, rfl, own_nothing _ _ _ _, ⟨Nat.zero_le _, by decide, Nat.zero_le _, fun n hn => by simp [zI11] at hn⟩⟩
theorem infRes_no {r : Inf × Nat} {w w' : World} {c : Nat} (h : r = (zI11, c)) (hb : Below w.heap.size w w') : InfRes r w (.returned (.tuple #[.agg #[.string ⟨#[]⟩, .int .i64 0, .slice none 0 0], .int .i64 (c : Int)])) w' := by
  subst h; exact ⟨_, rfl, inf_zero _ _, hb⟩
theorem bx_stp {w W W' : World} {g : Nat} {cs : Array Value} {T : TypeId} (h : Bx w w.heap.size cs T W) (hs : Stp g W W') (hg : w.heap.size < g) : Bx w w.heap.size cs T W' :=
  h.grown hs (by intro e; injection e with e; omega) (fun q hq => by cases hq; exact Nat.le_of_lt hg)
theorem Bx.n_three_put {w W : World} {g : Nat} {a0 a1 a2 : Value} {T : TypeId} (h : Bx w g #[a0, a1, a2] T W) (hg : w.heap.size ≤ g) (v0 v1 v2 : Value) :
    Bx w g #[v0, v1, v2] T (((W.setCell ⟨g, 0, none⟩ v0).setCell ⟨g, 1, none⟩ v1).setCell ⟨g, 2, none⟩ v2) := ((h.set hg 0 v0).set hg 1 v1).set hg 2 v2
theorem msg_far3 {g b : Nat} {v : Value} {F : Nat} {W : World} (h : n_Msg g v F W) (hb : g ≠ b) (v0 v1 v2 : Value) : n_Msg g v F (((W.setCell ⟨b, 0, none⟩ v0).setCell ⟨b, 1, none⟩ v1).setCell ⟨b, 2, none⟩ v2) :=
  ((h.far hb 0 v0).far hb 1 v1).far hb 2 v2
theorem n_own_set3 {w : World} {B size n b : Nat} {e T : TypeId} {v : Value} {xs : List Value} {c0 c1 c2 : Value} (h : w.ownsRow B e size v n xs) (hb : w.heap[b]? = some (.cells #[c0, c1, c2] T (0, 0))) (hT : T ≠ e) (v0 v1 v2 : Value) :
    (((w.setCell ⟨b, 0, none⟩ v0).setCell ⟨b, 1, none⟩ v1).setCell ⟨b, 2, none⟩ v2).ownsRow B e size v n xs := by
  have g1 := heap_setCell_same w b 0 _ T v0 hb
  have g2 := heap_setCell_same _ b 1 _ T v1 g1
  exact own_set (own_set (own_set h (own_far h hb hT) 0 v0) (own_far (own_set h (own_far h hb hT) 0 v0) g1 hT) 1 v1) (own_far (own_set (own_set h (own_far h hb hT) 0 v0) (own_far (own_set h (own_far h hb hT) 0 v0) g1 hT) 1 v1) g2 hT) 2 v2
theorem dimV_in (b : ByteArray) : I64 (dimV b) := sg_in _
theorem nkf_wf (n : Nat) : (Lit.int .i64 (nkf n)).wf = true := by
  unfold nkf
  split
  · rename_i h
    rcases isKind_iff.1 h with e | e | e | e | e <;> rw [e] <;> decide
  · decide

set_option maxRecDepth 100000 in
set_option maxHeartbeats 4000000 in
theorem readInfo_any (b : ByteArray) (w : World) (hbs : b.size ≤ maxLen) : Calls Tryz.prog 75 #[.string b] w (InfRes (infoM b) w) := by
  have HX0 := Lib.hid (Bx.start w #[.string ⟨#[]⟩, .int .i64 0, .slice none 0 0] 106)
  have HO := Lib.hid (open_any b (w.alloc (.cells #[.string ⟨#[]⟩, .int .i64 0, .slice none 0 0] 106)) hbs)
  have HFL := Lib.hid (fields_len b)
  have HFO := Lib.hid (fun f hf => (fields_ok (s := b) f hf).2)
  have HNO := Lib.hid (inf8_no (b := b))
  have HYES := Lib.hid (inf8_yes (b := b))
  have E1 := Lib.hid (show inf1 b = orC (fields b).2 (nt (okF (fields b).1 1 2) 3) from rfl)
  have E2 := Lib.hid (show inf2 b = innM (inf1 b) (fields b).1 2 from rfl)
  have E3 := Lib.hid (show inf3 b = innM (inf2 b).2 (inf2 b).1 1 from rfl)
  have E4 := Lib.hid (show inf4 b = orC (inf3 b).2 (nt (okF (inf3 b).1 1 0) 3) from rfl)
  have E5 := Lib.hid (show inf5 b = innM (inf4 b) (inf3 b).1 2 from rfl)
  have E6 := Lib.hid (show inf6 b = dflt (orC (inf5 b).2 (txts (ofNum (inf5 b).1 1) []).2) (txts (ofNum (inf5 b).1 1) []).1 from rfl)
  have E7 := Lib.hid (show inf7 b = orC (inf6 b) (nt (nm (lastF (fields b).1 1).data) 8) from rfl)
  have E8 := Lib.hid (show inf8 b = orC (inf7 b) (nt (nkf (lastF (inf3 b).1 1).n != 0) 5) from rfl)
  have K2 := Lib.hid (show (inf2 b).1.length ≤ 1048576 ∧ ∀ f ∈ (inf2 b).1, f.data.size ≤ 1048576 from innM_ok _ _ _)
  have K3 := Lib.hid (show (inf3 b).1.length ≤ 1048576 ∧ ∀ f ∈ (inf3 b).1, f.data.size ≤ 1048576 from innM_ok _ _ _)
  have K5 := Lib.hid (show (inf5 b).1.length ≤ 1048576 ∧ ∀ f ∈ (inf5 b).1, f.data.size ≤ 1048576 from innM_ok _ _ _)
  have hds : (lastF (fields b).1 1).data.size ≤ 1048576 := (lastF_ok (fields_ok (s := b)) 1).2
  have hle := txts_le (ofNum (inf5 b).1 1) []
  have hofl : (ofNum (inf5 b).1 1).length ≤ (inf5 b).1.length := List.length_filter_le _ _
  simp only [List.length_nil, Nat.zero_add] at hle
  generalize infoM b = R at *
  generalize inf8 b = F8 at *
  generalize inf7 b = F7 at *
  generalize inf6 b = F6 at *
  generalize inf5 b = R5 at *
  generalize inf4 b = F4 at *
  generalize inf3 b = R3 at *
  generalize inf2 b = R2 at *
  generalize inf1 b = F1 at *
  generalize fields b = FF at *
  obtain ⟨L, C⟩ := FF
  obtain ⟨L2, F2⟩ := R2
  obtain ⟨L3, F3⟩ := R3
  obtain ⟨L5, F5⟩ := R5
  dsimp only at *
  have HTL := Lib.hid (show (txts (ofNum L5 1) []).1.length ≤ 1048576 by have := K5.out.1; omega)
  clear hle hofl
  go_enter Tryz.func75, Tryz.ntmps75
  go_wp2_with fail
  refine HO.out.mono ?_
  rintro e w1 ⟨a1, c1, rfl, hown, hb1⟩
  have hb2 := (Below.refl w1.heap.size w1).alloc (Nat.le_refl _) (.cells #[.slice a1 L.length c1, .int .i64 (C : Int)] 209)
  have HX2 := Lib.hid ((HX0.out.below hb1).below hb2)
  have HM2 : Hid (Ms w1.heap.size (w.alloc (.cells #[.string ⟨#[]⟩, .int .i64 0, .slice none 0 0] 106)).heap.size a1 c1 L C (w1.alloc (.cells #[.slice a1 L.length c1, .int .i64 (C : Int)] 209))) := Lib.hid ⟨n_Msg.start w1 _ _, own_keep hown hb2⟩
  have HG := Lib.hid (show w.heap.size < w1.heap.size from by have := hb1.size; have h2 : (w.alloc (.cells #[.string ⟨#[]⟩, .int .i64 0, .slice none 0 0] 106)).heap.size = w.heap.size + 1 := by simp
                                                              omega)
  clear hb1 hb2 hown HO HX0
  -- the name
  have T3 := Lib.hid (textOf_any w1.heap.size _ a1 c1 L 1 C _ HM2.out HFL.out)
  rw [← E1.out] at T3
  generalize lastF L 1 = f1 at *
  go_wp2_with fail
  refine T3.out.mono ?_
  rintro e w3 ⟨rfl, hm, hs⟩
  have HM3 := Lib.hid (HM2.out.step hm hs)
  have HX3 := Lib.hid (bx_stp HX2.out hs HG.out)
  clear hm hs T3 HM2 HX2
  have T4 := Lib.hid (inner_any w1.heap.size _ a1 c1 L 2 F1 _ HM3.out HFL.out HFO.out)
  rw [← E2.out] at T4
  go_wp2_with fail
  refine T4.out.mono ?_
  rintro e w4 ⟨a4, c4, rfl, hown, hs⟩
  have hba := (Below.refl w4.heap.size w4).alloc (Nat.le_refl _) (.cells #[.slice a4 L2.length c4, .int .i64 (F2 : Int)] 209)
  have HX4 := Lib.hid ((bx_stp HX3.out hs HG.out).below hba)
  have HM4 : Hid (Ms w4.heap.size _ a4 c4 L2 F2 (w4.alloc (.cells #[.slice a4 L2.length c4, .int .i64 (F2 : Int)] 209))) := Lib.hid ⟨n_Msg.start w4 _ _, own_keep hown hba⟩
  have HG4 := Lib.hid (show w.heap.size < w4.heap.size from by have := hs.size; have h2 := HX3.out.2.1; omega)
  clear hown hs hba T4 HM3 HX3
  have T5 := Lib.hid (inner_any w4.heap.size _ a4 c4 L2 1 F2 _ HM4.out K2.out.1 K2.out.2)
  rw [← E3.out] at T5
  go_wp2_with fail
  refine T5.out.mono ?_
  rintro e w5 ⟨a5, c5, rfl, hown, hs⟩
  have hba := (Below.refl w5.heap.size w5).alloc (Nat.le_refl _) (.cells #[.slice a5 L3.length c5, .int .i64 (F3 : Int)] 209)
  have HX5 := Lib.hid ((bx_stp HX4.out hs HG4.out).below hba)
  have HM5 : Hid (Ms w5.heap.size _ a5 c5 L3 F3 (w5.alloc (.cells #[.slice a5 L3.length c5, .int .i64 (F3 : Int)] 209))) := Lib.hid ⟨n_Msg.start w5 _ _, own_keep hown hba⟩
  have HG5 := Lib.hid (show w.heap.size < w5.heap.size from by have := hs.size; have h2 := HX4.out.2.1; omega)
  clear hown hs hba T5 HM4 HX4
  have T6 := Lib.hid (n_numberOf_any w5.heap.size _ a5 c5 L3 1 F3 _ HM5.out K3.out.1)
  rw [← E4.out] at T6
  generalize (lastF L3 1).n = kn at *
  go_wp2_with fail
  refine T6.out.mono ?_
  rintro e w6 ⟨rfl, hm, hs⟩
  have HM6 := Lib.hid (HM5.out.step hm hs)
  have HX6 := Lib.hid (bx_stp HX5.out hs HG5.out)
  clear hm hs T6 HM5 HX5
  go_wp2_with fail
  refine (n_kindOf_any kn w6).mono ?_
  rintro e w7 ⟨rfl, hb⟩
  have HM7 := Lib.hid (HM6.out.below hb)
  have HX7 := Lib.hid (HX6.out.below hb)
  clear hb HM6 HX6
  have T8 := Lib.hid (inner_any w5.heap.size _ a5 c5 L3 2 F4 _ HM7.out K3.out.1 K3.out.2)
  rw [← E5.out] at T8
  go_wp2_with fail
  refine T8.out.mono ?_
  rintro e w8 ⟨a8, c8, rfl, hown, hs⟩
  have hba := (Below.refl w8.heap.size w8).alloc (Nat.le_refl _) (.cells #[.slice a8 L5.length c8, .int .i64 (F5 : Int)] 209)
  have HX8 := Lib.hid ((bx_stp HX7.out hs HG5.out).below hba)
  have HM8 : Hid (Ms w8.heap.size _ a8 c8 L5 F5 (w8.alloc (.cells #[.slice a8 L5.length c8, .int .i64 (F5 : Int)] 209))) := Lib.hid ⟨n_Msg.start w8 _ _, own_keep hown hba⟩
  have HG8 := Lib.hid (show w.heap.size < w8.heap.size from by have := hs.size; have h2 := HX7.out.2.1; omega)
  clear hown hs hba T8 HM7 HX7
  have T9 := Lib.hid (dims_any w8.heap.size _ a8 c8 L5 F5 _ HM8.out K5.out.1 K5.out.2)
  rw [← E6.out] at T9
  generalize txts (ofNum L5 1) [] = TT at *
  obtain ⟨ts, CT⟩ := TT
  dsimp only at T9 HYES HTL
  go_wp2_with fail
  refine T9.out.mono ?_
  rintro e w9 ⟨U, k, rfl, hown, hm, hs⟩
  have HM9 := Lib.hid (HM8.out.step hm hs)
  have HX9 := Lib.hid (bx_stp HX8.out hs HG8.out)
  have HO9 := Lib.hid (own_base hown HX8.out.all.size)
  clear hown hm hs T9 HM8 HX8
  go_wp2_with fail
  refine (name_any f1.data _ (by unfold maxLen; omega)).mono ?_
  rintro e w10 ⟨rfl, rfl⟩
  have T10 := Lib.hid (must_any w8.heap.size _ _ (nm f1.data) 8 _ HM9.out.msg)
  rw [← E7.out] at T10
  go_wp2_with fail
  refine T10.out.mono ?_
  rintro e w10 ⟨rfl, hm, hs⟩
  have HM10 := Lib.hid (HM9.out.step hm hs)
  have HX10 := Lib.hid (bx_stp HX9.out hs HG8.out)
  have HO10 := Lib.hid (own_stp HO9.out HM9.out.msg (by decide) hs)
  clear hm hs T10 HM9 HX9 HO9
  have T11 := Lib.hid (must_any w8.heap.size _ _ (nkf kn != 0) 5 _ HM10.out.msg)
  rw [← E8.out] at T11
  have HKW := Lib.hid (nkf_wf kn)
  generalize nkf kn = kk at *
  go_wp2_with fail
  refine T11.out.mono ?_
  rintro e w11 ⟨rfl, hm, hs⟩
  have HM11 := Lib.hid (HM10.out.step hm hs)
  have HX11 := Lib.hid (bx_stp HX10.out hs HG8.out)
  have HO11 := Lib.hid (own_stp HO10.out HM10.out.msg (by decide) hs)
  clear hm hs T11 HM10 HX10 HO10
  obtain ⟨z0, z1, z2⟩ := HX11.out.three
  have zf := fun i => HX11.out.free i
  have m1 := HM11.out.msg.c1
  by_cases hF : F8 ≠ 0
  · have hfb : ((F8 : Int) != 0) = true := by simpa using hF
    have HE := Lib.hid (HNO.out hF)
    obtain ⟨wE, hE, hxE⟩ := n_name (P := fun W => Bx w w.heap.size #[.string ⟨#[]⟩, .int .i64 0, .slice none 0 0] 106 W ∧ n_Msg w8.heap.size (.slice a8 L5.length c8) F8 W) ⟨HX11.out.n_three_put (Nat.le_refl _) (.string ⟨#[]⟩) (.int .i64 0) (.slice none 0 0), msg_far3 HM11.out.msg (by have := HG8.out; omega) _ _ _⟩
    have HXE := Lib.hid hxE
    have m2 := HXE.out.2.c1
    clear hxE hF
    go_wp2_with fail
    go_region
    all_goals
      go_wp2_with fail
      obtain ⟨e0, e1, e2⟩ := HXE.out.1.three
      exact bodyPost_ret (v := .tuple #[.agg #[.string ⟨#[]⟩, .int .i64 0, .slice none 0 0], .int .i64 (F8 : Int)]) (by simp [results, Tryz.results75, go_sem, e0, e1, e2]) rfl (infRes_no HE.out HXE.out.1.all.drew)
  · obtain rfl : F8 = 0 := by omega
    have HE := Lib.hid (HYES.out rfl)
    rw [Int.natCast_zero] at m1
    have HML : Hid ((ts.map dimV).length = ts.length) := Lib.hid (List.length_map ..)
    obtain ⟨wE, hE, hxE⟩ := n_name (P := fun W => Bx w w.heap.size #[.string f1.data, .int .i64 kk, .slice U ts.length k] 106 W ∧ OInf w.heap.size W ⟨f1.data, kk, ts.map dimV⟩ [.string f1.data, .int .i64 kk, .slice U ts.length k])
      ⟨HX11.out.n_three_put (Nat.le_refl _) (.string f1.data) (.int .i64 kk) (.slice U ts.length k), _, rfl, by rw [HML.out]; exact n_own_set3 HO11.out HX11.out.1 (by decide) _ _ _, ⟨by dsimp only; omega, HKW.out, by have := HTL.out; rw [HML.out]; omega, fun n hn => by
        obtain ⟨b, _, rfl⟩ := List.mem_map.1 hn
        exact dimV_in b⟩⟩
    have HXE := Lib.hid hxE
    clear hxE hF
    go_wp2_with fail
    obtain ⟨e0, e1, e2⟩ := HXE.out.1.three
    rw [HE.out]
    exact bodyPost_ret (v := .tuple #[.agg #[.string f1.data, .int .i64 kk, .slice U ts.length k], .int .i64 0]) (by simp [results, Tryz.results75, go_sem, e0, e1, e2]) rfl ⟨_, rfl, HXE.out.2, HXE.out.1.all⟩
end Go.Proofs.YtjjfdlgoacockaaGreat
