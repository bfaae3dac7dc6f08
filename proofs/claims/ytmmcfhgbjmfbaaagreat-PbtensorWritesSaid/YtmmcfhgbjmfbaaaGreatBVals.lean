/- The walks of readValues and numberOf: values by their keys, in a map of the call's own. -/
import Derived.Test.YtmmcfhgbjmfbaaaGreatOMath
import Derived.Test.YtmmcfhgbjmfbaaaGreatWHigh
import Derived.Test.YtmmcfhgbjmfbaaaGreatONew
import Derived.Test.YtmmcfhgbjmfbaaaGreatPAt
import Derived.Test.YtmmcfhgbjmfbaaaGreatBChk
import Derived.Test.YtmmcfhgbjmfbaaaGreatORead
import Derived.Test.YtmmcfhgbjmfbaaaGreatTCheck
import Derived.Test.YtmmcfhgbjmfbaaaGreatGSame
import Derived.Test.YtmmcfhgbjmfbaaaGreatAppend
import Derived.Deep.Slices
namespace Go.Proofs.YtmmcfhgbjmfbaaaGreat
open Go.RowKit M1 M2 M3 M8 M9 Go.Maps Go.ChangeMaps

def kdat (l : List KV) : FD := l.foldl (fun m p => m.put (fk p.1) (fv p.2)) (.map [])
theorem kdat_snoc (l : List KV) (p : KV) : kdat (l ++ [p]) = (kdat l).put (fk p.1) (fv p.2) := by unfold kdat; simp
theorem kfold_map : ∀ (l : List KV) (m : FD), IsMap m → IsMap (l.foldl (fun m p => m.put (fk p.1) (fv p.2)) m)
  | [], _, h => h
  | _ :: l, _, h => kfold_map l _ (isMap_put h _ _)
theorem val_cons (p : KV) (l : List KV) (k : ByteArray) : val (p :: l) k = match val l k with | some v => some v | none => if p.1 = k then some p.2 else none := by
  unfold val
  rw [List.reverse_cons, List.find?_append]
  cases e : l.reverse.find? (fun p => decide (p.1 = k)) with
  | some q => simp
  | none =>
    by_cases h : p.1 = k <;> simp [h]
theorem kfold_at (k : ByteArray) (z : FD) : ∀ (l : List KV) (m : FD), IsMap m → (l.foldl (fun m p => m.put (fk p.1) (fv p.2)) m).atKey (fk k) z = match val l k with | some v => fv v | none => m.atKey (fk k) z
  | [], m, _ => by simp [val]
  | p :: l, m, h => by
    rw [List.foldl_cons, kfold_at k z l _ (isMap_put h _ _), val_cons]
    cases val l k with
    | some v => rfl
    | none =>
      by_cases e : p.1 = k
      · subst e
        simp [atKey_put_same h (fk_ok p.1)]
      · simp only [if_neg e]
        exact atKey_put_other (fun h2 => e (fk_inj h2.symm)) _ z
theorem kfold_has (k : ByteArray) : ∀ (l : List KV) (m : FD), IsMap m → has (l.foldl (fun m p => m.put (fk p.1) (fv p.2)) m) (fk k) = (Maps.has m (fk k) || (val l k).isSome)
  | [], m, _ => by simp [val]
  | p :: l, m, h => by
    rw [List.foldl_cons, kfold_has k l _ (isMap_put h _ _), val_cons]
    by_cases e : p.1 = k
    · subst e
      rw [has_put_same h (fk_ok _)]
      cases val l p.1 <;> simp
    · rw [has_put_other (fun h2 => e (fk_inj h2.symm))]
      cases val l k <;> simp [e]
theorem kdat_at {l : List KV} {k v : ByteArray} (h : val l k = some v) (z : FD) : (kdat l).atKey (fk k) z = fv v := by
  unfold kdat; rw [kfold_at k z l _ ⟨[], rfl⟩, h]
theorem kdat_has (l : List KV) (k : ByteArray) : Maps.has (kdat l) (fk k) = (val l k).isSome := by
  unfold kdat; rw [kfold_has k l _ ⟨[], rfl⟩]; simp [Maps.has]
/-- block b is the map of these values -/
def VM (b : Nat) (l : List KV) (w : World) : Prop := w.ownsMap Tryz.prog 9 (plainElem Tryz.prog 9) b l.length (kdat l)
theorem VM.start (w : World) : VM w.heap.size [] (w.alloc (.map #[] 0)) := World.ownsMap_made _ _ _ _
theorem VM.below {b : Nat} {l : List KV} {w w' : World} (h : VM b l w) (hb : Below w.heap.size w w') : VM b l w' := own_map_below h hb h.lt
theorem VM.look {b : Nat} {l : List KV} {w : World} (h : VM b l w) {s : ByteArray} (hs : s.size ≤ maxLen) :
    (val l s = none ∧ (Instr.lookup 23 (.map (some b)) (.string s) true).run Tryz.prog w = .ok (.tuple #[.string ⟨#[]⟩, .bool false]) w) ∨
    (∃ v, val l s = some v ∧ (Instr.lookup 23 (.map (some b)) (.string s) true).run Tryz.prog w = .ok (.tuple #[.string v, .bool true]) w) := by
  rcases own_look_ok h strLaw Tryz.underlying23 (strZero w) (keyOf_fk hs) with ⟨h0, hrun⟩ | ⟨v, y, h1, hrun, hv, hat⟩
  · rw [kdat_has] at h0
    exact .inl ⟨by simpa using h0, hrun⟩
  · rw [kdat_has] at h1
    obtain ⟨d, rfl, rfl, _⟩ := plainElem_string_inv Tryz.underlying9 hv
    obtain ⟨u, hu⟩ := Option.isSome_iff_exists.1 h1
    refine .inr ⟨u, hu, ?_⟩
    have h2 := hat .nil
    rw [kdat_at hu] at h2
    have : u = d := fk_inj (by unfold fv at h2; unfold fk; simpa using h2)
    rw [this]; exact hrun
theorem VM.store {b : Nat} {l : List KV} {w : World} {k v : ByteArray} (h : VM b l w) (hl : l.length ≤ 3000000) (hs : k.size ≤ maxLen) (hd : v.size ≤ maxLen) :
    ∃ w', (Instr.mapUpdate 23 (.map (some b)) (.string k) (.string v)).run Tryz.prog w = .ok () w' ∧ VM b (l ++ [(k, v)]) w' ∧ w.grownBy w' (some b) := by
  obtain ⟨w', r, h1, h2⟩ := h.update (val := .string v) strLaw Tryz.underlying23 (by unfold maxLen; omega) (keyOf_fk hs) (plainElem_string Tryz.underlying9 hd)
  refine ⟨w', r, ?_, h2⟩
  unfold VM
  rw [kdat_snoc, List.length_append]
  exact h1
theorem kvs_err {bs : List ByteArray} {k : Nat} {acc : List KV} (hk : k < bs.length) (h : (fields bs[k]).2 ≠ 0) : kvs (bs.drop k) acc = ([], (fields bs[k]).2) := by
  rw [List.drop_eq_getElem_cons hk, kvs, if_pos h]
theorem kvs_wire {bs : List ByteArray} {k : Nat} {acc : List KV} (hk : k < bs.length) (h : (fields bs[k]).2 = 0) (h2 : (okF (fields bs[k]).1 1 2 && okF (fields bs[k]).1 2 2) = false) : kvs (bs.drop k) acc = ([], 3) := by
  rw [List.drop_eq_getElem_cons hk, kvs, if_neg (by simp [h]), if_pos h2]
theorem kvs_next {bs : List ByteArray} {k : Nat} {acc : List KV} (hk : k < bs.length) (h : (fields bs[k]).2 = 0) (h2 : (okF (fields bs[k]).1 1 2 && okF (fields bs[k]).1 2 2) = true) :
    kvs (bs.drop k) acc = kvs (bs.drop (k + 1)) (acc ++ [((lastF (fields bs[k]).1 1).data, (lastF (fields bs[k]).1 2).data)]) := by
  rw [List.drop_eq_getElem_cons hk, kvs, if_neg (by simp [h]), if_neg (by simp [h2])]
/-- what readValues gives -/
def ValsRes (r : List KV × Nat) (w : World) (e : Ending) (w' : World) : Prop :=
  ∃ mb, e = .returned (.tuple #[.map mb, .int .i64 (r.2 : Int)]) ∧ (r.2 = 0 → ∃ b, mb = some b ∧ VM b r.1 w') ∧ Below w.heap.size w w'
theorem valsRes_no {r : List KV × Nat} {w w' : World} {c : Nat} {q : List KV} (h : r = (q, c)) (hc : c ≠ 0) (hb : Below w.heap.size w w') : ValsRes r w (.returned (.tuple #[.map none, .int .i64 (c : Int)])) w' := by
  subst h; exact ⟨none, rfl, fun h => absurd h hc, hb⟩
theorem valsRes_yes {r : List KV × Nat} {w w' : World} {q : List KV} {b : Nat} (h : r = (q, 0)) (hm : VM b q w') (hb : Below w.heap.size w w') : ValsRes r w (.returned (.tuple #[.map (some b), .int .i64 0])) w' := by
  subst h; exact ⟨some b, rfl, fun _ => ⟨b, rfl, hm⟩, hb⟩
theorem makeMap_none (w : World) : (Instr.makeMap 23 none).run Tryz.prog w = .ok (.map (some w.heap.size)) (w.alloc (.map #[] 0)) := by kernel_rfl

set_option maxRecDepth 100000 in
set_option maxHeartbeats 2000000 in
theorem readValues_any (A : Option Addr) (c : Nat) (bs : List ByteArray) (w : World) (hl : bs.length ≤ 1048576) (hsz : ∀ b ∈ bs, b.size ≤ 1048576) (ha : SR w w.heap.size 1 A bs.length (p_tv bs)) :
    Calls Tryz.prog 60 #[.slice A bs.length c] w (ValsRes (kvs bs []) w) := by
  have hmm := fun W => makeMap_none W
  have HM0 := Lib.hid (VM.start w)
  have HB0 : Hid (Below w.heap.size w (w.alloc (.map #[] 0))) := Lib.hid ((Below.refl _ _).alloc (Nat.le_refl _) _)
  have HA := Lib.hid ha
  have HSZ := Lib.hid hsz
  clear ha hsz
  go_enter Tryz.func60, Tryz.ntmps60
  go_wp2_with fail
  clear hmm
  go_loopw [6, 7, 8, 9, 10, 11, 12, 13, 17] (fun _ _ _ _ _ _ _ _ i wr => ∃ (k : Nat) (K : Int) (acc : List KV), i = .int .i64 K ∧ K = (k : Nat) ∧ k ≤ bs.length ∧ acc.length = k ∧ kvs bs [] = kvs (bs.drop k) acc ∧ VM w.heap.size acc wr ∧ Below w.heap.size w wr ∧ w.heap.size < wr.heap.size) (fun _ _ _ _ _ _ _ _ i _ => bs.length - (intOf i).toNat)
  case atStart => exact ⟨0, _, [], rfl, rfl, by omega, rfl, rfl, HM0.out, HB0.out, by simp⟩
  case round =>
    obtain ⟨k, K, acc, rfl, rfl, hk, hacc, hkv, hvm, hb, hz⟩ := hrel
    have HV := Lib.hid hvm
    have HB := Lib.hid hb
    have HQ := Lib.hid hkv
    have HAC := Lib.hid hacc
    by_cases hlt : k < bs.length
    · obtain ⟨bb, oo, rfl, -, hx⟩ := txt_at (HA.out.below hb) hlt
      have hsk := HSZ.out bs[k] (List.getElem_mem hlt)
      have HE1 := Lib.hid (kvs_err (acc := acc) hlt)
      have HE2 := Lib.hid (kvs_wire (acc := acc) hlt)
      have HE3 := Lib.hid (kvs_next (acc := acc) hlt)
      have HF := Lib.hid (fun W => fields_any bs[k] W (by unfold maxLen; omega))
      have HFL := Lib.hid (fields_len bs[k])
      have HFO := Lib.hid (fields_ok (s := bs[k]))
      clear hvm hkv hacc hb
      generalize bs[k] = X at *
      generalize fields X = F at *
      obtain ⟨L, C⟩ := F
      try dsimp only at HE1 HE2 HE3 HFL HFO
      go_wp2_with fail
      refine (HF.out _).mono ?_
      rintro e w1 ⟨v1, rfl, hown, hb1⟩
      try dsimp only at hown
      obtain ⟨a1, c1, rfl, -, -⟩ := own_form hown
      have HB1 := Lib.hid (HB.out.trans (hb1.mono HB.out.size))
      have HV1 := Lib.hid (HV.out.below hb1)
      have HS1 := Lib.hid (SR.of_own hown)
      have hz1 := hb1.size
      have HZ1 := Lib.hid (show w.heap.size < w1.heap.size by omega)
      clear hb1 hown hz1 HF
      by_cases hC : C ≠ 0
      · have hcb : ((C : Int) != 0) = true := by simpa using hC
        have HE := Lib.hid (HQ.out.trans (HE1.out hC))
        have HC := Lib.hid hC
        clear hC
        go_wp2_with fail
        go_ret2
        exact valsRes_no HE.out HC.out HB1.out
      · obtain rfl : C = 0 := by omega
        have HW2 := Lib.hid (HE2.out rfl)
        have HW3 := Lib.hid (HE3.out rfl)
        clear hC HE1 HE2 HE3
        go_wp2_with fail
        refine (asker_any a1 L.length c1 w1).mono ?_
        rintro e w2 ⟨rfl, hx2⟩
        have HKA := Lib.hid (fun W (h : Below w2.heap.size w2 W) num => ask_any w1.heap.size a1 c1 L num 2 W (by have := HFL.out; omega) ((h.block _ hx2.2.1).trans hx2.1) ((((HS1.out.below hx2.all).below (h.mono hx2.all.size)).more (Nat.le_trans hx2.all.size h.size))))
        have HLA := Lib.hid (fun W (h : Below w2.heap.size w2 W) num => last_any a1 c1 L num W (by have := HFL.out; omega) ((((HS1.out.below hx2.all).below (h.mono hx2.all.size)).more (Nat.le_trans hx2.all.size h.size))))
        have HK1 := Lib.hid (fun W h => HKA.out W h 1)
        have HK2 := Lib.hid (fun W h => HKA.out W h 2)
        have HL1 := Lib.hid (fun W h => HLA.out W h 1)
        have HL2 := Lib.hid (fun W h => HLA.out W h 2)
        have HB2 := Lib.hid (HB1.out.trans (hx2.all.mono HB1.out.size))
        have HV2 := Lib.hid (HV1.out.below hx2.all)
        have HO1 := Lib.hid (lastF_ok HFO.out 1).2
        have HO2 := Lib.hid (lastF_ok HFO.out 2).2
        have HZ2 := Lib.hid (show w.heap.size < w2.heap.size by have := HZ1.out; have := hx2.all.size; omega)
        clear hx2 HKA HLA
        unfold askF
        generalize okF L 1 2 = O1 at *
        generalize okF L 2 2 = O2 at *
        generalize lastF L 1 = f1 at *
        generalize lastF L 2 = f2 at *
        obtain ⟨num1, typ1, n1, data1⟩ := f1
        obtain ⟨num2, typ2, n2, data2⟩ := f2
        simp only [fc] at HL1 HL2
        cases O1
        · have HE := Lib.hid (HQ.out.trans (HW2.out (by rfl)))
          go_wp2_with fail
          refine (HK1.out _ (Below.refl _ _)).mono ?_
          rintro e w3 ⟨rfl, hb3⟩
          have HB3 := Lib.hid (HB2.out.trans (hb3.mono HB2.out.size))
          clear hb3
          go_wp2_with fail
          go_ret2
          exact valsRes_no HE.out (by decide) HB3.out
        · go_wp2_with fail
          refine (HK1.out _ (Below.refl _ _)).mono ?_
          rintro e w3 ⟨rfl, hb3⟩
          have HB3 := Lib.hid (HB2.out.trans (hb3.mono HB2.out.size))
          have HV3 := Lib.hid (HV2.out.below hb3)
          have HN3 := Lib.hid hb3
          clear hb3
          cases O2
          · have HE := Lib.hid (HQ.out.trans (HW2.out (by rfl)))
            go_wp2_with fail
            refine (HK2.out _ HN3.out).mono ?_
            rintro e w4 ⟨rfl, hb4⟩
            have HB4 := Lib.hid (HB3.out.trans (hb4.mono HB3.out.size))
            clear hb4
            go_wp2_with fail
            go_ret2
            exact valsRes_no HE.out (by decide) HB4.out
          · have HE := Lib.hid (HQ.out.trans (HW3.out (by rfl)))
            go_wp2_with fail
            refine (HK2.out _ HN3.out).mono ?_
            rintro e w4 ⟨rfl, hb4⟩
            have HB4 := Lib.hid (HB3.out.trans (hb4.mono HB3.out.size))
            have HV4 := Lib.hid (HV3.out.below hb4)
            have HN4 := Lib.hid (step_below HN3.out hb4)
            clear hb4
            go_wp2_with fail
            refine (HL1.out _ HN4.out).mono ?_
            rintro e w5 ⟨rfl, hb5⟩
            have HX5 := Lib.hid (Bx.start w5 #[.int .i64 num1, .int .i64 typ1, .int .u64 (n1 : Int), .string data1] 104)
            have HB5 := Lib.hid (HB4.out.trans (hb5.mono HB4.out.size))
            have HV5 := Lib.hid (HV4.out.below hb5)
            have HN5 := Lib.hid (step_below HN4.out hb5)
            clear hb5
            go_wp2_with fail
            refine (HL2.out _ (step_below HN5.out HX5.out.all)).mono ?_
            rintro e w6 ⟨rfl, hb6⟩
            have HX6 := Lib.hid (HX5.out.below hb6)
            have hx7 := HX6.out.more (.cells #[.int .i64 num2, .int .i64 typ2, .int .u64 (n2 : Int), .string data2] 104)
            obtain ⟨c0, c1', c2, c3⟩ := hx7.four
            have hv7 := ((HV5.out.below HX6.out.all).below ((Below.refl w6.heap.size w6).alloc (Nat.le_refl _) (.cells #[.int .i64 num2, .int .i64 typ2, .int .u64 (n2 : Int), .string data2] 104)))
            obtain ⟨w8, hst, hvm8, hg8⟩ := hv7.store (k := data1) (v := data2) (by have := HAC.out; omega) (by have := HO1.out; unfold maxLen; omega) (by have := HO2.out; unfold maxLen; omega)
            have hbl7 := HB5.out.trans (hx7.all.mono HB5.out.size)
            have HB8 := Lib.hid (hbl7.grown hg8 hbl7.size (fun q hq => by cases hq; exact Nat.le_refl _))
            have HV8 := Lib.hid hvm8
            have HZ8 : Hid (w.heap.size < w8.heap.size) := Lib.hid (by have := hg8.size; have := hx7.all.size; have := HB5.out.size; have h2 := HZ2.out; have h3 := HN5.out.size; omega)
            clear hb6 hx7 hv7 hvm8 hg8 hbl7
            go_wp2_with fail
            go_roundw
            case rel => exact ⟨k + 1, _, _, rfl, by omega, by omega, by rw [List.length_append, HAC.out]; rfl, HE.out, HV8.out, HB8.out, HZ8.out⟩
            case measure => simp [intOf]; omega
    · obtain rfl : k = bs.length := by omega
      rw [List.drop_length] at HQ
      have HE := Lib.hid HQ.out
      clear hvm hkv hacc hb
      go_wp2_with fail
      go_ret2
      exact valsRes_yes HE.out HV.out HB.out
end Go.Proofs.YtmmcfhgbjmfbaaaGreat
/- The walks of numberOf and dataInFile: the bytes of elements that are in a file. -/
namespace Go.Proofs.YtmmcfhgbjmfbaaaGreat
open Go.RowKit M1 M2 M3 M8 M9 Go.Maps Go.ChangeMaps

/-- a number, and whether it is one -/
def numV (n : Int) : Value := .tuple #[.int .i64 (if n < 0 then 0 else n), .bool (decide (0 ≤ n))]
theorem numV_pos {n : Int} (h : 0 ≤ n) : numV n = .tuple #[.int .i64 n, .bool true] := by unfold numV; rw [if_neg (by omega), decide_eq_true h]
theorem numV_neg {n : Int} (h : n < 0) : numV n = .tuple #[.int .i64 0, .bool false] := by unfold numV; rw [if_pos h, decide_eq_false (by omega)]
theorem num_in {l : List KV} {k : ByteArray} {other : Int} (h0 : 0 ≤ other) (h1 : other ≤ 524288) : -1 ≤ num l k other ∧ num l k other < 1000000000000000000 := by
  cases h : val l k with
  | none => rw [num_none h]; omega
  | some s => rw [num_some h]; exact dg_in s
set_option maxRecDepth 100000 in
theorem numberOf_any (b : Nat) (l : List KV) (k : ByteArray) (other : Int) (w : World) (hk : k.size ≤ maxLen) (h0 : 0 ≤ other) (h : VM b l w) :
    Calls Tryz.prog 61 #[.map (some b), .string k, .int .i64 other] w fun e w' => e = .returned (numV (num l k other)) ∧ w = w' := by
  rcases h.look hk with ⟨hv, hrun⟩ | ⟨v, hv, hrun⟩
  · rw [num_none hv]
    clear h hv
    go_enter Tryz.func61, Tryz.ntmps61
    go_wp2_with fail
    go_ret2
    rw [numV_pos h0]
    exact ⟨rfl, rfl⟩
  · rw [num_some hv]
    have HD := Lib.hid (fun W => readDigits_any v W)
    rw [show rdg v = numV (dg v) from rfl] at HD
    obtain ⟨X, Y, hXY⟩ : ∃ X Y, numV (dg v) = .tuple #[.int .i64 X, .bool Y] := ⟨_, _, rfl⟩
    generalize numV (dg v) = N at *
    subst hXY
    clear h hv
    go_enter Tryz.func61, Tryz.ntmps61
    go_wp2_with fail
    refine (HD.out _).mono ?_
    rintro e w1 ⟨rfl, rfl⟩
    go_wp2_with fail
    go_ret2
    exact ⟨rfl, rfl⟩

theorem inFile_19 {size : Int} {hs : Bool} {s i : List Int} {bs : List ByteArray} {fs : List Fl} (h : (hs || hasN s i) = true) : inFile size hs s i bs fs = (⟨#[]⟩, 19) := by
  unfold inFile; rw [if_pos]
  unfold hasN at h
  simpa using h
/-- what inFile says once there are no elements here and the values are read -/
def inVals (size : Int) (l : List KV) (fs : List Fl) : ByteArray × Int :=
  match val l kLoc with
  | none => (⟨#[]⟩, 18)
  | some key => if num l kOff 0 < 0 then (⟨#[]⟩, 17) else if num l kLen size < 0 then (⟨#[]⟩, 17) else if num l kLen size ≠ size then (⟨#[]⟩, 7) else rdC fs key (num l kOff 0) size
theorem inFile_kv {size : Int} {hs : Bool} {s i : List Int} {bs : List ByteArray} {fs : List Fl} (h : (hs || hasN s i) = false) :
    inFile size hs s i bs fs = if (kvs bs []).2 ≠ 0 then (⟨#[]⟩, ((kvs bs []).2 : Int)) else inVals size (kvs bs []).1 fs := by
  unfold inFile; rw [if_neg]
  · rfl
  · unfold hasN at h
    simpa using h
theorem inVals_none {size : Int} {l : List KV} {fs : List Fl} (h : val l kLoc = none) : inVals size l fs = (⟨#[]⟩, 18) := by unfold inVals; rw [h]
theorem inVals_some {size : Int} {l : List KV} {fs : List Fl} {key : ByteArray} (h : val l kLoc = some key) : inVals size l fs = if num l kOff 0 < 0 then (⟨#[]⟩, 17) else if num l kLen size < 0 then (⟨#[]⟩, 17) else if num l kLen size ≠ size then (⟨#[]⟩, 7) else rdC fs key (num l kOff 0) size := by
  unfold inVals; rw [h]
theorem kvs_in : ∀ (bs : List ByteArray) (acc : List KV), (∀ p ∈ acc, p.2.size ≤ 1048576) → ∀ p ∈ (kvs bs acc).1, p.2.size ≤ 1048576
  | [], acc, h => h
  | b :: r, acc, h => by
    rw [kvs]
    split
    · simp
    · split
      · simp
      · refine kvs_in r _ (fun p hp => ?_)
        rcases List.mem_append.1 hp with hp | hp
        · exact h p hp
        · rw [List.mem_singleton.1 hp]; exact (lastF_ok fields_ok 2).2
theorem val_size {bs : List ByteArray} {k v : ByteArray} (h : val (kvs bs []).1 k = some v) : v.size ≤ 1048576 := by
  obtain ⟨p, hp, rfl⟩ := val_in h
  exact kvs_in bs [] (by simp) p hp

set_option maxRecDepth 100000 in
set_option maxHeartbeats 2000000 in
theorem dataInFile_any (nme : ByteArray) (k : Int) (dv : Value) (d0 : ByteArray) (sz wh : Int) (d : ByteArray) (hs : Bool) (A B C : Option Addr) (p q r : Nat) (s i : List Int) (bs : List ByteArray) (B0 : Nat) (fs : List Fl) (mb : Option Nat) (w : World)
    (hl : bs.length ≤ 1048576) (hsz : ∀ b ∈ bs, b.size ≤ 1048576) (ha : SR w w.heap.size 1 C bs.length (p_tv bs)) (hz0 : 0 ≤ sz) (hz1 : sz ≤ 524288) (hfd : ∀ f ∈ fs, f.data.size ≤ maxLen) (hst : o_St B0 fs mb w) :
    Calls Tryz.prog 22 #[wa nme k dv d0 sz wh d hs (.slice A s.length p) (.slice B i.length q) (.slice C bs.length r), .agg #[.map mb]] w fun e w' =>
      e = .returned (.tuple #[.string (inFile sz hs s i bs fs).1, .int .i64 (inFile sz hs s i bs fs).2]) ∧ Below w.heap.size w w' := by
  have HBX := Lib.hid ((Bx.start w (wc nme k dv d0 sz wh d hs (.slice A s.length p) (.slice B i.length q) (.slice C bs.length r)) 59).more (.cells #[.map mb] 25))
  have HSX := Lib.hid ((Bx.start w (wc nme k dv d0 sz wh d hs (.slice A s.length p) (.slice B i.length q) (.slice C bs.length r)) 59).next #[.map mb] 25)
  rw [World.size_alloc] at HSX
  have HA := Lib.hid (fun W (h : Below w.heap.size w W) => readValues_any C r bs W hl hsz ((ha.below h).more h.size))
  have HST := Lib.hid (fun W (h : Below w.heap.size w W) => hst.below h)
  have HN := Lib.hid (fun W => hasNumbers_any nme k dv d0 sz wh d hs A B p q s i (.slice C bs.length r) W)
  clear ha hst hsz
  cases hs
  · cases hn : hasN s i
    · have HE0 := Lib.hid (inFile_kv (size := sz) (hs := false) (bs := bs) (fs := fs) (s := s) (i := i) (by rw [hn]; rfl))
      have HVS := Lib.hid (fun k v h => val_size (bs := bs) (k := k) (v := v) h)
      rw [hn] at HN
      clear hn
      generalize inFile sz false s i bs fs = R at *
      generalize kvs bs [] = V at *
      obtain ⟨L, E⟩ := V
      go_enter Tryz.func22, Tryz.ntmps22
      go_wp2_with fail
      refine (HN.out _).mono ?_
      rintro e w1 ⟨rfl, hb1⟩
      have H1 := Lib.hid (HBX.out.below hb1)
      have S1 := Lib.hid (HSX.out.below hb1)
      clear hb1 HBX HSX
      obtain ⟨c0, c1, c2, c3, c4, c5, c6, c7, c8, c9, c10⟩ := H1.out.eleven
      go_wp2_with fail
      refine (HA.out _ H1.out.all).mono ?_
      rintro e w2 ⟨mb2, rfl, hmap, hb2⟩
      have H2 := Lib.hid (H1.out.below hb2)
      have S2 := Lib.hid (S1.out.below hb2)
      have HM := Lib.hid hmap
      clear hb2 H1 S1 c0 c1 c2 c3 c4 c5 c6 c7 c8 c9 c10 HA HN
      by_cases hE : E ≠ 0
      · have hcb : ((E : Int) != 0) = true := by simpa using hE
        have HE := Lib.hid (HE0.out.trans (if_pos hE))
        clear hE hmap
        go_wp2_with fail
        go_ret2
        rw [HE.out]
        exact ⟨rfl, H2.out.all⟩
      · obtain rfl : E = 0 := by omega
        obtain ⟨b, rfl, hvm⟩ := hmap rfl
        have HE1 := Lib.hid (HE0.out.trans (if_neg (by simp)))
        try dsimp only at HE1
        clear HM HE0 hE hmap
        rcases hvm.look (s := kLoc) (by decide) with ⟨hv, hrun⟩ | ⟨key, hv, hrun⟩
        · have HE := Lib.hid (HE1.out.trans (inVals_none hv))
          clear hvm hv
          unfold kLoc at hrun
          go_wp2_with fail
          go_ret2
          rw [HE.out]
          exact ⟨rfl, H2.out.all⟩
        · have HE2 := Lib.hid (HE1.out.trans (inVals_some hv))
          have HKS := Lib.hid (HVS.out kLoc key hv)
          have HO := Lib.hid (numberOf_any b L kOff 0 w2 (by decide) (by omega) hvm)
          have HL := Lib.hid (numberOf_any b L kLen sz w2 (by decide) hz0 hvm)
          have hno := num_in (l := L) (k := kOff) (other := 0) (by omega) (by omega)
          have hnl := num_in (l := L) (k := kLen) (other := sz) hz0 hz1
          unfold kOff at HO
          unfold kLen at HL
          clear hvm hv HE1 HVS
          unfold kLoc at hrun
          obtain ⟨c0, c1, c2, c3, c4, c5, c6, c7, c8, c9, c10⟩ := H2.out.eleven
          have s0 := cell_of_row _ _ 0 _ _ _ S2.out.1
          change Hid (Calls _ _ _ _ fun e w' => e = .returned (numV (num L kOff 0)) ∧ w2 = w') at HO
          change Hid (Calls _ _ _ _ fun e w' => e = .returned (numV (num L kLen sz)) ∧ w2 = w') at HL
          generalize num L kOff 0 = NO at *
          generalize num L kLen sz = NL at *
          by_cases h1 : NO < 0
          · rw [numV_neg h1] at HO
            have HE := Lib.hid (HE2.out.trans (if_pos h1))
            clear h1 HL
            go_wp2_with fail
            refine HO.out.mono ?_
            rintro e w3 ⟨rfl, rfl⟩
            go_wp2_with fail
            go_ret2
            rw [HE.out]
            exact ⟨rfl, H2.out.all⟩
          · rw [numV_pos (by omega)] at HO
            have HE3 := Lib.hid (HE2.out.trans (if_neg h1))
            by_cases h2 : NL < 0
            · rw [numV_neg h2] at HL
              have HE := Lib.hid (HE3.out.trans (if_pos h2))
              clear h1 h2
              go_wp2_with fail
              refine HO.out.mono ?_
              rintro e w3 ⟨rfl, rfl⟩
              go_wp2_with fail
              refine HL.out.mono ?_
              rintro e w3 ⟨rfl, rfl⟩
              go_wp2_with fail
              go_ret2
              rw [HE.out]
              exact ⟨rfl, H2.out.all⟩
            · rw [numV_pos (by omega)] at HL
              have HE4 := Lib.hid (HE3.out.trans (if_neg h2))
              by_cases h3 : NL ≠ sz
              · have HE := Lib.hid (HE4.out.trans (if_pos h3))
                have h3' : (NL != sz) = true := by simpa using h3
                clear h1 h2 h3
                go_wp2_with fail
                refine HO.out.mono ?_
                rintro e w3 ⟨rfl, rfl⟩
                go_wp2_with fail
                refine HL.out.mono ?_
                rintro e w3 ⟨rfl, rfl⟩
                go_wp2_with fail
                go_ret2
                rw [HE.out]
                exact ⟨rfl, H2.out.all⟩
              · have hq : NL = sz := Decidable.of_not_not h3
                subst hq
                have HE := Lib.hid (HE4.out.trans (if_neg (by simp)))
                have HR := Lib.hid (o_read_any B0 fs mb key NO NL w2 (by have := HKS.out; unfold maxLen; omega) hfd ⟨by omega, by omega⟩ ⟨by omega, by omega⟩ (HST.out _ H2.out.all))
                generalize rdC fs key NO NL = RD at *
                clear h1 h2 h3
                go_wp2_with fail
                refine HO.out.mono ?_
                rintro e w3 ⟨rfl, rfl⟩
                go_wp2_with fail
                refine HL.out.mono ?_
                rintro e w3 ⟨rfl, rfl⟩
                go_wp2_with fail
                refine HR.out.mono ?_
                rintro e w3 ⟨rfl, hb3⟩
                have HX := Lib.hid (step_below H2.out.all hb3)
                clear hb3
                go_wp2_with fail
                go_ret2
                rw [HE.out]
                exact ⟨rfl, HX.out⟩
    · have HE := Lib.hid (inFile_19 (size := sz) (hs := false) (bs := bs) (fs := fs) (s := s) (i := i) (by rw [hn]; rfl))
      rw [hn] at HN
      clear hn
      go_enter Tryz.func22, Tryz.ntmps22
      go_wp2_with fail
      refine (HN.out _).mono ?_
      rintro e w1 ⟨rfl, hb1⟩
      have H1 := Lib.hid (HBX.out.below hb1)
      clear hb1 HBX
      go_wp2_with fail
      go_ret2
      rw [HE.out]
      exact ⟨rfl, H1.out.all⟩
  · have HE := Lib.hid (inFile_19 (size := sz) (hs := true) (bs := bs) (fs := fs) (s := s) (i := i) rfl)
    go_enter Tryz.func22, Tryz.ntmps22
    go_wp2_with fail
    go_ret2
    rw [HE.out]
    exact ⟨rfl, HBX.out.all⟩
end Go.Proofs.YtmmcfhgbjmfbaaaGreat
/- The walks of Ints, Flags, Nums, and of the document's Ints. -/
namespace Go.Proofs.YtmmcfhgbjmfbaaaGreat
open Go.RowKit M6 M7

/-- a flag's list -/
def fls (d : ByteArray) : List Bool := (List.range d.size).map fun j => (d.extract (j * 1) ((j + 1) * 1)).toList == [1]
theorem fls_len (d : ByteArray) : (fls d).length = d.size := by simp [fls]
theorem fls_at {d : ByteArray} {j : Nat} (h : j < d.size) : (fls d)[j]'(by rw [fls_len]; exact h) = decide (d[j].toNat = 1) := by
  have e : (fls d)[j]'(by rw [fls_len]; exact h) = ((d.extract (j * 1) ((j + 1) * 1)).toList == [1]) := by simp [fls]
  rw [e, Nat.mul_one, Nat.mul_one, one_byte h]
  have hx := UInt8.toNat_lt d[j]
  generalize d[j] = x at *
  by_cases hx1 : x = 1
  · subst hx1; decide +kernel
  · have h1 : x.toNat ≠ 1 := fun h => hx1 (UInt8.toNat_inj.1 h)
    rw [decide_eq_false h1]
    exact l1 ▸ teq_no (fun h => hx1 (byte_is.1 h))
theorem ext_size {d : ByteArray} {n s k : Nat} (h : d.size = n * s) (hk : k < n) : (d.extract (k * s) ((k + 1) * s)).size = s := by
  rw [ByteArray.size_extract]
  have h2 : (k + 1) * s ≤ n * s := Nat.mul_le_mul_right _ (by omega)
  have h3 : (k + 1) * s = k * s + s := Nat.succ_mul k s
  omega
/-- the numbers of a right tensor -/
theorem nums_of (t : Ten) : ∃ ps : List (Int × Int), ck t = 0 → t.kind = 14 → ps.length = t.data.size / 8 ∧ ∀ k (h : k < ps.length), RdSpec (t.data.extract (k * 8) ((k + 1) * 8)) ps[k].1 ps[k].2 0 := by
  by_cases h : ck t = 0 ∧ t.kind = 14
  · obtain ⟨h1, h2⟩ := h
    obtain ⟨n, hn, hdiv, hn6⟩ := count_of h1 h2 (s := 8) (by decide) (by decide)
    obtain ⟨-, -, -, h4, h5⟩ := ck_zero h1
    rw [h2] at h4 h5
    have hk : ∀ i, i < n → ∃ p : Int × Int, RdSpec (t.data.extract (i * 8) ((i + 1) * 8)) p.1 p.2 0 := by
      intro i hi
      have hg := h5 i (by rw [show kSize 14 = 8 by decide] at h4; omega)
      rw [elk_gauss] at hg
      unfold gok at hg
      rw [Bool.and_eq_true, part_iff, part_iff] at hg
      obtain ⟨⟨a, ha, e1⟩, b, hb, e2⟩ := hg
      exact ⟨(a, b), .inr (.inr (.inl ⟨ext_size hn hi, rfl, ha, hb, e1, e2⟩))⟩
    obtain ⟨F, hF⟩ := Go.Deep.choose_lt hk
    refine ⟨(List.range n).map F, fun _ _ => ⟨by simp; omega, fun k hk => ?_⟩⟩
    have hkn : k < n := by simpa using hk
    simpa using hF k hkn
  · exact ⟨[], fun h1 h2 => absurd ⟨h1, h2⟩ h⟩

theorem i8s_take {d : ByteArray} {k : Nat} (h : k < d.size / 8) : (i8s d).take (k + 1) = (i8s d).take k ++ [in8 (d.extract (k * 8) ((k + 1) * 8))] := by
  rw [List.take_succ_eq_append_getElem (by rw [i8s_len]; exact h), i8s_at]

end Go.Proofs.YtmmcfhgbjmfbaaaGreat
