import Derived.Test.YtjjfdlgoacockaaGreatBVals
import Derived.Test.YtjjfdlgoacockaaGreatBRows
import Derived.Test.YtjjfdlgoacockaaGreatORead
import Derived.Test.YtjjfdlgoacockaaGreatTCheck
import Derived.Test.YtjjfdlgoacockaaGreatGRefTwo
import Derived.Test.YtjjfdlgoacockaaGreatAppend
import Derived.Deep.Slices
import Derived.Test.YtjjfdlgoacockaaGreatTMade
import Derived.Test.YtjjfdlgoacockaaGreatTPut
namespace Go.Proofs.YtjjfdlgoacockaaGreat
open Go.RowKit M1 M2 M3 M8 M9 Go.Maps Go.ChangeMaps

def numV (n : Int) : Value := .tuple #[.int .i64 (if n < 0 then 0 else n), .bool (decide (0 ≤ n))]
theorem numV_pos {n : Int} (h : 0 ≤ n) : numV n = .tuple #[.int .i64 n, .bool true] := by unfold numV; rw [if_neg (by omega), decide_eq_true h]
theorem numV_neg {n : Int} (h : n < 0) : numV n = .tuple #[.int .i64 0, .bool false] := by unfold numV; rw [if_pos h, decide_eq_false (by omega)]
theorem num_in {l : List KV} {k : ByteArray} {other : Int} (h0 : 0 ≤ other) (h1 : other ≤ 524288) : -1 ≤ num l k other ∧ num l k other < 1000000000000000000 := by
  cases h : val l k with
  | none => rw [num_none h]; omega
  | some s => rw [num_some h]; exact dg_in s
set_option maxRecDepth 100000 in
theorem b_numberOf_any (b : Nat) (l : List KV) (k : ByteArray) (other : Int) (w : World) (hk : k.size ≤ maxLen) (h0 : 0 ≤ other) (h : VM b l w) :
    Calls Tryz.prog 164 #[.map (some b), .string k, .int .i64 other] w fun e w' => e = .returned (numV (num l k other)) ∧ w = w' := by
  rcases h.look hk with ⟨hv, hrun⟩ | ⟨v, hv, hrun⟩
  · rw [num_none hv]
    clear h hv
    go_enter Tryz.func164, Tryz.ntmps164
    go_wp2_with fail
    go_ret2
    rw [numV_pos h0]
    exact ⟨rfl, rfl⟩
  · rw [num_some hv]
    have HD := Lib.hid (fun W => readDigits_any v W)
    rw [show rdg v = numV (dg v) from rfl] at HD
    obtain ⟨X, Y, hXY⟩ : ∃ X Y, numV (dg v) = .tuple #[.int .i64 X, .bool Y] := ⟨_, _, rfl⟩
    generalize numV (dg v) = N at *
    subst hXY
    clear h hv
    go_enter Tryz.func164, Tryz.ntmps164
    go_wp2_with fail
    refine (HD.out _).mono ?_
    rintro e w1 ⟨rfl, rfl⟩
    go_wp2_with fail
    go_ret2
    exact ⟨rfl, rfl⟩

theorem inFile_19 {size : Int} {hs : Bool} {s i : List Int} {bs : List ByteArray} {fs : List Fl} (h : (hs || hasN s i) = true) : inFile size hs s i bs fs = (⟨#[]⟩, 19) := by
  unfold inFile; rw [if_pos]
  unfold hasN at h
  simpa using h
def inVals (size : Int) (l : List KV) (fs : List Fl) : ByteArray × Int :=
  match val l kLoc with
  | none => (⟨#[]⟩, 18)
  | some key => if num l kOff 0 < 0 then (⟨#[]⟩, 17) else if num l kLen size < 0 then (⟨#[]⟩, 17) else if num l kLen size ≠ size then (⟨#[]⟩, 7) else rdC fs key (num l kOff 0) size
theorem inFile_kv {size : Int} {hs : Bool} {s i : List Int} {bs : List ByteArray} {fs : List Fl} (h : (hs || hasN s i) = false) :
    inFile size hs s i bs fs = if (kvs bs []).2 ≠ 0 then (⟨#[]⟩, ((kvs bs []).2 : Int)) else inVals size (kvs bs []).1 fs := by
  unfold inFile; rw [if_neg]
  · rfl
  · unfold hasN at h
    simpa using h
theorem inVals_none {size : Int} {l : List KV} {fs : List Fl} (h : val l kLoc = none) : inVals size l fs = (⟨#[]⟩, 18) := by unfold inVals; rw [h]
theorem inVals_some {size : Int} {l : List KV} {fs : List Fl} {key : ByteArray} (h : val l kLoc = some key) : inVals size l fs = if num l kOff 0 < 0 then (⟨#[]⟩, 17) else if num l kLen size < 0 then (⟨#[]⟩, 17) else if num l kLen size ≠ size then (⟨#[]⟩, 7) else rdC fs key (num l kOff 0) size := by
  unfold inVals; rw [h]
theorem kvs_in : ∀ (bs : List ByteArray) (acc : List KV), (∀ p ∈ acc, p.2.size ≤ 1048576) → ∀ p ∈ (kvs bs acc).1, p.2.size ≤ 1048576
  | [], acc, h => h
  | b :: r, acc, h => by
    rw [kvs]
    split
    · simp
    · split
      · simp
      · refine kvs_in r _ (fun p hp => ?_)
        rcases List.mem_append.1 hp with hp | hp
        · exact h p hp
        · rw [List.mem_singleton.1 hp]; exact (lastF_ok fields_ok 2).2
theorem val_size {bs : List ByteArray} {k v : ByteArray} (h : val (kvs bs []).1 k = some v) : v.size ≤ 1048576 := by
  obtain ⟨p, hp, rfl⟩ := val_in h
  exact kvs_in bs [] (by simp) p hp

set_option maxRecDepth 100000 in
set_option maxHeartbeats 2000000 in
theorem dataInFile_any (nme : ByteArray) (k : Int) (dv : Value) (d0 : ByteArray) (sz wh : Int) (d : ByteArray) (hs : Bool) (A B C : Option Addr) (p q r : Nat) (s i : List Int) (bs : List ByteArray) (B0 : Nat) (fs : List Fl) (mb : Option Nat) (w : World)
    (hl : bs.length ≤ 1048576) (hsz : ∀ b ∈ bs, b.size ≤ 1048576) (ha : SR w w.heap.size 1 C bs.length (p_tv bs)) (hz0 : 0 ≤ sz) (hz1 : sz ≤ 524288) (hfd : ∀ f ∈ fs, f.data.size ≤ maxLen) (hst : o_St B0 fs mb w) :
    Calls Tryz.prog 118 #[wa nme k dv d0 sz wh d hs (.slice A s.length p) (.slice B i.length q) (.slice C bs.length r), .agg #[.map mb]] w fun e w' =>
      e = .returned (.tuple #[.string (inFile sz hs s i bs fs).1, .int .i64 (inFile sz hs s i bs fs).2]) ∧ Below w.heap.size w w' := by
  have HBX := Lib.hid ((Bx.start w (wc nme k dv d0 sz wh d hs (.slice A s.length p) (.slice B i.length q) (.slice C bs.length r)) 217).more (.cells #[.map mb] 25))
  have HSX := Lib.hid ((Bx.start w (wc nme k dv d0 sz wh d hs (.slice A s.length p) (.slice B i.length q) (.slice C bs.length r)) 217).next #[.map mb] 25)
  rw [World.size_alloc] at HSX
  have HA := Lib.hid (fun W (h : Below w.heap.size w W) => readValues_any C r bs W hl hsz ((ha.below h).more h.size))
  have HST := Lib.hid (fun W (h : Below w.heap.size w W) => hst.below h)
  have HN := Lib.hid (fun W => hasNumbers_any nme k dv d0 sz wh d hs A B p q s i (.slice C bs.length r) W)
  clear ha hst hsz
  cases hs
  · cases hn : hasN s i
    · have HE0 := Lib.hid (inFile_kv (size := sz) (hs := false) (bs := bs) (fs := fs) (s := s) (i := i) (by rw [hn]; rfl))
      have HVS := Lib.hid (fun k v h => val_size (bs := bs) (k := k) (v := v) h)
      rw [hn] at HN
      clear hn
      generalize inFile sz false s i bs fs = R at *
      generalize kvs bs [] = V at *
      obtain ⟨L, E⟩ := V
      go_enter Tryz.func118, Tryz.ntmps118
      go_wp2_with fail
      refine (HN.out _).mono ?_
      rintro e w1 ⟨rfl, hb1⟩
      have H1 := Lib.hid (HBX.out.below hb1)
      have S1 := Lib.hid (HSX.out.below hb1)
      clear hb1 HBX HSX
      obtain ⟨c0, c1, c2, c3, c4, c5, c6, c7, c8, c9, c10⟩ := H1.out.eleven
      go_wp2_with fail
      refine (HA.out _ H1.out.all).mono ?_
      rintro e w2 ⟨mb2, rfl, hmap, hb2⟩
      have H2 := Lib.hid (H1.out.below hb2)
      have S2 := Lib.hid (S1.out.below hb2)
      have HM := Lib.hid hmap
      clear hb2 H1 S1 c0 c1 c2 c3 c4 c5 c6 c7 c8 c9 c10 HA HN
      by_cases hE : E ≠ 0
      · have hcb : ((E : Int) != 0) = true := by simpa using hE
        have HE := Lib.hid (HE0.out.trans (if_pos hE))
        clear hE hmap
        go_wp2_with fail
        go_ret2
        rw [HE.out]
        exact ⟨rfl, H2.out.all⟩
      · obtain rfl : E = 0 := by omega
        obtain ⟨b, rfl, hvm⟩ := hmap rfl
        have HE1 := Lib.hid (HE0.out.trans (if_neg (by simp)))
        try dsimp only at HE1
        clear HM HE0 hE hmap
        rcases hvm.look (s := kLoc) (by decide) with ⟨hv, hrun⟩ | ⟨key, hv, hrun⟩
        · have HE := Lib.hid (HE1.out.trans (inVals_none hv))
          clear hvm hv
          unfold kLoc at hrun
          go_wp2_with fail
          go_ret2
          rw [HE.out]
          exact ⟨rfl, H2.out.all⟩
        · have HE2 := Lib.hid (HE1.out.trans (inVals_some hv))
          have HKS := Lib.hid (HVS.out kLoc key hv)
          have HO := Lib.hid (b_numberOf_any b L kOff 0 w2 (by decide) (by omega) hvm)
          have HL := Lib.hid (b_numberOf_any b L kLen sz w2 (by decide) hz0 hvm)
          have hno := num_in (l := L) (k := kOff) (other := 0) (by omega) (by omega)
          have hnl := num_in (l := L) (k := kLen) (other := sz) hz0 hz1
          unfold kOff at HO
          unfold kLen at HL
          clear hvm hv HE1 HVS
          unfold kLoc at hrun
          obtain ⟨c0, c1, c2, c3, c4, c5, c6, c7, c8, c9, c10⟩ := H2.out.eleven
          have s0 := cell_of_row _ _ 0 _ _ _ S2.out.1
          change Hid (Calls _ _ _ _ fun e w' => e = .returned (numV (num L kOff 0)) ∧ w2 = w') at HO
          change Hid (Calls _ _ _ _ fun e w' => e = .returned (numV (num L kLen sz)) ∧ w2 = w') at HL
          generalize num L kOff 0 = NO at *
          generalize num L kLen sz = NL at *
          by_cases h1 : NO < 0
          · rw [numV_neg h1] at HO
            have HE := Lib.hid (HE2.out.trans (if_pos h1))
            clear h1 HL
            go_wp2_with fail
            refine HO.out.mono ?_
            rintro e w3 ⟨rfl, rfl⟩
            go_wp2_with fail
            go_ret2
            rw [HE.out]
            exact ⟨rfl, H2.out.all⟩
          · rw [numV_pos (by omega)] at HO
            have HE3 := Lib.hid (HE2.out.trans (if_neg h1))
            by_cases h2 : NL < 0
            · rw [numV_neg h2] at HL
              have HE := Lib.hid (HE3.out.trans (if_pos h2))
              clear h1 h2
              go_wp2_with fail
              refine HO.out.mono ?_
              rintro e w3 ⟨rfl, rfl⟩
              go_wp2_with fail
              refine HL.out.mono ?_
              rintro e w3 ⟨rfl, rfl⟩
              go_wp2_with fail
              go_ret2
              rw [HE.out]
              exact ⟨rfl, H2.out.all⟩
            · rw [numV_pos (by omega)] at HL
              have HE4 := Lib.hid (HE3.out.trans (if_neg h2))
              by_cases h3 : NL ≠ sz
              · have HE := Lib.hid (HE4.out.trans (if_pos h3))
                have h3' : (NL != sz) = true := by simpa using h3
                clear h1 h2 h3
                go_wp2_with fail
                refine HO.out.mono ?_
                rintro e w3 ⟨rfl, rfl⟩
                go_wp2_with fail
                refine HL.out.mono ?_
                rintro e w3 ⟨rfl, rfl⟩
                go_wp2_with fail
                go_ret2
                rw [HE.out]
                exact ⟨rfl, H2.out.all⟩
              · have hq : NL = sz := Decidable.of_not_not h3
                subst hq
                have HE := Lib.hid (HE4.out.trans (if_neg (by simp)))
                have HR := Lib.hid (o_read_any B0 fs mb key NO NL w2 (by have := HKS.out; unfold maxLen; omega) hfd ⟨by omega, by omega⟩ ⟨by omega, by omega⟩ (HST.out _ H2.out.all))
                generalize rdC fs key NO NL = RD at *
                clear h1 h2 h3
                go_wp2_with fail
                refine HO.out.mono ?_
                rintro e w3 ⟨rfl, rfl⟩
                go_wp2_with fail
                refine HL.out.mono ?_
                rintro e w3 ⟨rfl, rfl⟩
                go_wp2_with fail
                refine HR.out.mono ?_
                rintro e w3 ⟨rfl, hb3⟩
                have HX := Lib.hid (step_below H2.out.all hb3)
                clear hb3
                go_wp2_with fail
                go_ret2
                rw [HE.out]
                exact ⟨rfl, HX.out⟩
    · have HE := Lib.hid (inFile_19 (size := sz) (hs := false) (bs := bs) (fs := fs) (s := s) (i := i) (by rw [hn]; rfl))
      rw [hn] at HN
      clear hn
      go_enter Tryz.func118, Tryz.ntmps118
      go_wp2_with fail
      refine (HN.out _).mono ?_
      rintro e w1 ⟨rfl, hb1⟩
      have H1 := Lib.hid (HBX.out.below hb1)
      clear hb1 HBX
      go_wp2_with fail
      go_ret2
      rw [HE.out]
      exact ⟨rfl, H1.out.all⟩
  · have HE := Lib.hid (inFile_19 (size := sz) (hs := true) (bs := bs) (fs := fs) (s := s) (i := i) rfl)
    go_enter Tryz.func118, Tryz.ntmps118
    go_wp2_with fail
    go_ret2
    rw [HE.out]
    exact ⟨rfl, HBX.out.all⟩
end Go.Proofs.YtjjfdlgoacockaaGreat
namespace Go.Proofs.YtjjfdlgoacockaaGreat
open Go.RowKit M6 M7

end Go.Proofs.YtjjfdlgoacockaaGreat
namespace Go.Proofs.YtjjfdlgoacockaaGreat
open Go.RowKit M6 M7

abbrev tx (l : List UInt8) : ByteArray := ⟨l.toArray⟩
end Go.Proofs.YtjjfdlgoacockaaGreat
