import Derived.Test.YtjjfdlgoacockaaGreatTMade
import Derived.Test.YtjjfdlgoacockaaGreatWHigh
import Derived.Test.YtjjfdlgoacockaaGreatONew
import Derived.Test.YtjjfdlgoacockaaGreatPAt
namespace Go.Proofs.YtjjfdlgoacockaaGreat
open Go.RowKit M1 M2 M3 M8 M9 Go.Maps Go.ChangeMaps

def kdat (l : List KV) : FD := l.foldl (fun m p => m.put (fk p.1) (fv p.2)) (.map [])
theorem kdat_snoc (l : List KV) (p : KV) : kdat (l ++ [p]) = (kdat l).put (fk p.1) (fv p.2) := by unfold kdat; simp
theorem val_cons (p : KV) (l : List KV) (k : ByteArray) : val (p :: l) k = match val l k with | some v => some v | none => if p.1 = k then some p.2 else none := by
  unfold val
  rw [List.reverse_cons, List.find?_append]
  cases e : l.reverse.find? (fun p => decide (p.1 = k)) with
  | some q => simp
  | none =>
    by_cases h : p.1 = k <;> simp [h]
theorem kfold_at (k : ByteArray) (z : FD) : ∀ (l : List KV) (m : FD), IsMap m → (l.foldl (fun m p => m.put (fk p.1) (fv p.2)) m).atKey (fk k) z = match val l k with | some v => fv v | none => m.atKey (fk k) z
  | [], m, _ => by simp [val]
  | p :: l, m, h => by
    rw [List.foldl_cons, kfold_at k z l _ (isMap_put h _ _), val_cons]
    cases val l k with
    | some v => rfl
    | none =>
      by_cases e : p.1 = k
      · subst e
        simp [atKey_put_same h (fk_ok p.1)]
      · simp only [if_neg e]
        exact atKey_put_other (fun h2 => e (fk_inj h2.symm)) _ z
theorem kfold_has (k : ByteArray) : ∀ (l : List KV) (m : FD), IsMap m → has (l.foldl (fun m p => m.put (fk p.1) (fv p.2)) m) (fk k) = (Maps.has m (fk k) || (val l k).isSome)
  | [], m, _ => by simp [val]
  | p :: l, m, h => by
    rw [List.foldl_cons, kfold_has k l _ (isMap_put h _ _), val_cons]
    by_cases e : p.1 = k
    · subst e
      rw [has_put_same h (fk_ok _)]
      cases val l p.1 <;> simp
    · rw [has_put_other (fun h2 => e (fk_inj h2.symm))]
      cases val l k <;> simp [e]
theorem kdat_at {l : List KV} {k v : ByteArray} (h : val l k = some v) (z : FD) : (kdat l).atKey (fk k) z = fv v := by
  unfold kdat; rw [kfold_at k z l _ ⟨[], rfl⟩, h]
theorem kdat_has (l : List KV) (k : ByteArray) : Maps.has (kdat l) (fk k) = (val l k).isSome := by
  unfold kdat; rw [kfold_has k l _ ⟨[], rfl⟩]; simp [Maps.has]
def VM (b : Nat) (l : List KV) (w : World) : Prop := w.ownsMap Tryz.prog 9 (plainElem Tryz.prog 9) b l.length (kdat l)
theorem VM.start (w : World) : VM w.heap.size [] (w.alloc (.map #[] 0)) := World.ownsMap_made _ _ _ _
theorem VM.below {b : Nat} {l : List KV} {w w' : World} (h : VM b l w) (hb : Below w.heap.size w w') : VM b l w' := own_map_below h hb h.lt
theorem VM.look {b : Nat} {l : List KV} {w : World} (h : VM b l w) {s : ByteArray} (hs : s.size ≤ maxLen) :
    (val l s = none ∧ (Instr.lookup 23 (.map (some b)) (.string s) true).run Tryz.prog w = .ok (.tuple #[.string ⟨#[]⟩, .bool false]) w) ∨
    (∃ v, val l s = some v ∧ (Instr.lookup 23 (.map (some b)) (.string s) true).run Tryz.prog w = .ok (.tuple #[.string v, .bool true]) w) := by
  rcases own_look_ok h strLaw Tryz.underlying23 (strZero w) (keyOf_fk hs) with ⟨h0, hrun⟩ | ⟨v, y, h1, hrun, hv, hat⟩
  · rw [kdat_has] at h0
    exact .inl ⟨by simpa using h0, hrun⟩
  · rw [kdat_has] at h1
    obtain ⟨d, rfl, rfl, _⟩ := plainElem_string_inv Tryz.underlying9 hv
    obtain ⟨u, hu⟩ := Option.isSome_iff_exists.1 h1
    refine .inr ⟨u, hu, ?_⟩
    have h2 := hat .nil
    rw [kdat_at hu] at h2
    have : u = d := fk_inj (by unfold fv at h2; unfold fk; simpa using h2)
    rw [this]; exact hrun
theorem VM.store {b : Nat} {l : List KV} {w : World} {k v : ByteArray} (h : VM b l w) (hl : l.length ≤ 3000000) (hs : k.size ≤ maxLen) (hd : v.size ≤ maxLen) :
    ∃ w', (Instr.mapUpdate 23 (.map (some b)) (.string k) (.string v)).run Tryz.prog w = .ok () w' ∧ VM b (l ++ [(k, v)]) w' ∧ w.grownBy w' (some b) := by
  obtain ⟨w', r, h1, h2⟩ := h.update (val := .string v) strLaw Tryz.underlying23 (by unfold maxLen; omega) (keyOf_fk hs) (plainElem_string Tryz.underlying9 hd)
  refine ⟨w', r, ?_, h2⟩
  unfold VM
  rw [kdat_snoc, List.length_append]
  exact h1
theorem kvs_err {bs : List ByteArray} {k : Nat} {acc : List KV} (hk : k < bs.length) (h : (fields bs[k]).2 ≠ 0) : kvs (bs.drop k) acc = ([], (fields bs[k]).2) := by
  rw [List.drop_eq_getElem_cons hk, kvs, if_pos h]
theorem kvs_wire {bs : List ByteArray} {k : Nat} {acc : List KV} (hk : k < bs.length) (h : (fields bs[k]).2 = 0) (h2 : (okF (fields bs[k]).1 1 2 && okF (fields bs[k]).1 2 2) = false) : kvs (bs.drop k) acc = ([], 3) := by
  rw [List.drop_eq_getElem_cons hk, kvs, if_neg (by simp [h]), if_pos h2]
theorem kvs_next {bs : List ByteArray} {k : Nat} {acc : List KV} (hk : k < bs.length) (h : (fields bs[k]).2 = 0) (h2 : (okF (fields bs[k]).1 1 2 && okF (fields bs[k]).1 2 2) = true) :
    kvs (bs.drop k) acc = kvs (bs.drop (k + 1)) (acc ++ [((lastF (fields bs[k]).1 1).data, (lastF (fields bs[k]).1 2).data)]) := by
  rw [List.drop_eq_getElem_cons hk, kvs, if_neg (by simp [h]), if_neg (by simp [h2])]
def ValsRes (r : List KV × Nat) (w : World) (e : Ending) (w' : World) : Prop :=
  ∃ mb, e = .returned (.tuple #[.map mb, .int .i64 (r.2 : Int)]) ∧ (r.2 = 0 → ∃ b, mb = some b ∧ VM b r.1 w') ∧ Below w.heap.size w w'
theorem valsRes_no {r : List KV × Nat} {w w' : World} {c : Nat} {q : List KV} (h : r = (q, c)) (hc : c ≠ 0) (hb : Below w.heap.size w w') : ValsRes r w (.returned (.tuple #[.map none, .int .i64 (c : Int)])) w' := by
  subst h; exact ⟨none, rfl, fun h => absurd h hc, hb⟩
theorem valsRes_yes {r : List KV × Nat} {w w' : World} {q : List KV} {b : Nat} (h : r = (q, 0)) (hm : VM b q w') (hb : Below w.heap.size w w') : ValsRes r w (.returned (.tuple #[.map (some b), .int .i64 0])) w' := by
  subst h; exact ⟨some b, rfl, fun _ => ⟨b, rfl, hm⟩, hb⟩
theorem makeMap_none (w : World) : (Instr.makeMap 23 none).run Tryz.prog w = .ok (.map (some w.heap.size)) (w.alloc (.map #[] 0)) := by kernel_rfl

set_option maxRecDepth 100000 in
set_option maxHeartbeats 2000000 in
theorem readValues_any (A : Option Addr) (c : Nat) (bs : List ByteArray) (w : World) (hl : bs.length ≤ 1048576) (hsz : ∀ b ∈ bs, b.size ≤ 1048576) (ha : SR w w.heap.size 1 A bs.length (p_tv bs)) :
    Calls Tryz.prog 163 #[.slice A bs.length c] w (ValsRes (kvs bs []) w) := by
  have hmm := fun W => makeMap_none W
  have HM0 := Lib.hid (VM.start w)
  have HB0 : Hid (Below w.heap.size w (w.alloc (.map #[] 0))) := Lib.hid ((Below.refl _ _).alloc (Nat.le_refl _) _)
  have HA := Lib.hid ha
  have HSZ := Lib.hid hsz
  clear ha hsz
  go_enter Tryz.func163, Tryz.ntmps163
  go_wp2_with fail
  clear hmm
  go_loopw [6, 7, 8, 9, 10, 11, 12, 13, 17] (fun _ _ _ _ _ _ _ _ i wr => ∃ (k : Nat) (K : Int) (acc : List KV), i = .int .i64 K ∧ K = (k : Nat) ∧ k ≤ bs.length ∧ acc.length = k ∧ kvs bs [] = kvs (bs.drop k) acc ∧ VM w.heap.size acc wr ∧ Below w.heap.size w wr ∧ w.heap.size < wr.heap.size) (fun _ _ _ _ _ _ _ _ i _ => bs.length - (intOf i).toNat)
  case atStart => exact ⟨0, _, [], rfl, rfl, by omega, rfl, rfl, HM0.out, HB0.out, by simp⟩
  case round =>
    obtain ⟨k, K, acc, rfl, rfl, hk, hacc, hkv, hvm, hb, hz⟩ := hrel
    have HV := Lib.hid hvm
    have HB := Lib.hid hb
    have HQ := Lib.hid hkv
    have HAC := Lib.hid hacc
    by_cases hlt : k < bs.length
    · obtain ⟨bb, oo, rfl, -, hx⟩ := txt_at (HA.out.below hb) hlt
      have hsk := HSZ.out bs[k] (List.getElem_mem hlt)
      have HE1 := Lib.hid (kvs_err (acc := acc) hlt)
      have HE2 := Lib.hid (kvs_wire (acc := acc) hlt)
      have HE3 := Lib.hid (kvs_next (acc := acc) hlt)
      have HF := Lib.hid (fun W => fields_any bs[k] W (by unfold maxLen; omega))
      have HFL := Lib.hid (fields_len bs[k])
      have HFO := Lib.hid (fields_ok (s := bs[k]))
      clear hvm hkv hacc hb
      generalize bs[k] = X at *
      generalize fields X = F at *
      obtain ⟨L, C⟩ := F
      try dsimp only at HE1 HE2 HE3 HFL HFO
      go_wp2_with fail
      refine (HF.out _).mono ?_
      rintro e w1 ⟨v1, rfl, hown, hb1⟩
      try dsimp only at hown
      obtain ⟨a1, c1, rfl, -, -⟩ := own_form hown
      have HB1 := Lib.hid (HB.out.trans (hb1.mono HB.out.size))
      have HV1 := Lib.hid (HV.out.below hb1)
      have HS1 := Lib.hid (SR.of_own hown)
      have hz1 := hb1.size
      have HZ1 := Lib.hid (show w.heap.size < w1.heap.size by omega)
      clear hb1 hown hz1 HF
      by_cases hC : C ≠ 0
      · have hcb : ((C : Int) != 0) = true := by simpa using hC
        have HE := Lib.hid (HQ.out.trans (HE1.out hC))
        have HC := Lib.hid hC
        clear hC
        go_wp2_with fail
        go_ret2
        exact valsRes_no HE.out HC.out HB1.out
      · obtain rfl : C = 0 := by omega
        have HW2 := Lib.hid (HE2.out rfl)
        have HW3 := Lib.hid (HE3.out rfl)
        clear hC HE1 HE2 HE3
        go_wp2_with fail
        refine (asker_any a1 L.length c1 w1).mono ?_
        rintro e w2 ⟨rfl, hx2⟩
        have HKA := Lib.hid (fun W (h : Below w2.heap.size w2 W) num => ask_any w1.heap.size a1 c1 L num 2 W (by have := HFL.out; omega) ((h.block _ hx2.2.1).trans hx2.1) ((((HS1.out.below hx2.all).below (h.mono hx2.all.size)).more (Nat.le_trans hx2.all.size h.size))))
        have HLA := Lib.hid (fun W (h : Below w2.heap.size w2 W) num => last_any a1 c1 L num W (by have := HFL.out; omega) ((((HS1.out.below hx2.all).below (h.mono hx2.all.size)).more (Nat.le_trans hx2.all.size h.size))))
        have HK1 := Lib.hid (fun W h => HKA.out W h 1)
        have HK2 := Lib.hid (fun W h => HKA.out W h 2)
        have HL1 := Lib.hid (fun W h => HLA.out W h 1)
        have HL2 := Lib.hid (fun W h => HLA.out W h 2)
        have HB2 := Lib.hid (HB1.out.trans (hx2.all.mono HB1.out.size))
        have HV2 := Lib.hid (HV1.out.below hx2.all)
        have HO1 := Lib.hid (lastF_ok HFO.out 1).2
        have HO2 := Lib.hid (lastF_ok HFO.out 2).2
        have HZ2 := Lib.hid (show w.heap.size < w2.heap.size by have := HZ1.out; have := hx2.all.size; omega)
        clear hx2 HKA HLA
        unfold askF
        generalize okF L 1 2 = O1 at *
        generalize okF L 2 2 = O2 at *
        generalize lastF L 1 = f1 at *
        generalize lastF L 2 = f2 at *
        obtain ⟨num1, typ1, n1, data1⟩ := f1
        obtain ⟨num2, typ2, n2, data2⟩ := f2
        simp only [fc] at HL1 HL2
        cases O1
        · have HE := Lib.hid (HQ.out.trans (HW2.out (by rfl)))
          go_wp2_with fail
          refine (HK1.out _ (Below.refl _ _)).mono ?_
          rintro e w3 ⟨rfl, hb3⟩
          have HB3 := Lib.hid (HB2.out.trans (hb3.mono HB2.out.size))
          clear hb3
          go_wp2_with fail
          go_ret2
          exact valsRes_no HE.out (by decide) HB3.out
        · go_wp2_with fail
          refine (HK1.out _ (Below.refl _ _)).mono ?_
          rintro e w3 ⟨rfl, hb3⟩
          have HB3 := Lib.hid (HB2.out.trans (hb3.mono HB2.out.size))
          have HV3 := Lib.hid (HV2.out.below hb3)
          have HN3 := Lib.hid hb3
          clear hb3
          cases O2
          · have HE := Lib.hid (HQ.out.trans (HW2.out (by rfl)))
            go_wp2_with fail
            refine (HK2.out _ HN3.out).mono ?_
            rintro e w4 ⟨rfl, hb4⟩
            have HB4 := Lib.hid (HB3.out.trans (hb4.mono HB3.out.size))
            clear hb4
            go_wp2_with fail
            go_ret2
            exact valsRes_no HE.out (by decide) HB4.out
          · have HE := Lib.hid (HQ.out.trans (HW3.out (by rfl)))
            go_wp2_with fail
            refine (HK2.out _ HN3.out).mono ?_
            rintro e w4 ⟨rfl, hb4⟩
            have HB4 := Lib.hid (HB3.out.trans (hb4.mono HB3.out.size))
            have HV4 := Lib.hid (HV3.out.below hb4)
            have HN4 := Lib.hid (step_below HN3.out hb4)
            clear hb4
            go_wp2_with fail
            refine (HL1.out _ HN4.out).mono ?_
            rintro e w5 ⟨rfl, hb5⟩
            have HX5 := Lib.hid (Bx.start w5 #[.int .i64 num1, .int .i64 typ1, .int .u64 (n1 : Int), .string data1] 184)
            have HB5 := Lib.hid (HB4.out.trans (hb5.mono HB4.out.size))
            have HV5 := Lib.hid (HV4.out.below hb5)
            have HN5 := Lib.hid (step_below HN4.out hb5)
            clear hb5
            go_wp2_with fail
            refine (HL2.out _ (step_below HN5.out HX5.out.all)).mono ?_
            rintro e w6 ⟨rfl, hb6⟩
            have HX6 := Lib.hid (HX5.out.below hb6)
            have hx7 := HX6.out.more (.cells #[.int .i64 num2, .int .i64 typ2, .int .u64 (n2 : Int), .string data2] 184)
            obtain ⟨c0, c1', c2, c3⟩ := hx7.four
            have hv7 := ((HV5.out.below HX6.out.all).below ((Below.refl w6.heap.size w6).alloc (Nat.le_refl _) (.cells #[.int .i64 num2, .int .i64 typ2, .int .u64 (n2 : Int), .string data2] 184)))
            obtain ⟨w8, hst, hvm8, hg8⟩ := hv7.store (k := data1) (v := data2) (by have := HAC.out; omega) (by have := HO1.out; unfold maxLen; omega) (by have := HO2.out; unfold maxLen; omega)
            have hbl7 := HB5.out.trans (hx7.all.mono HB5.out.size)
            have HB8 := Lib.hid (hbl7.grown hg8 hbl7.size (fun q hq => by cases hq; exact Nat.le_refl _))
            have HV8 := Lib.hid hvm8
            have HZ8 : Hid (w.heap.size < w8.heap.size) := Lib.hid (by have := hg8.size; have := hx7.all.size; have := HB5.out.size; have h2 := HZ2.out; have h3 := HN5.out.size; omega)
            clear hb6 hx7 hv7 hvm8 hg8 hbl7
            go_wp2_with fail
            go_roundw
            case rel => exact ⟨k + 1, _, _, rfl, by omega, by omega, by rw [List.length_append, HAC.out]; rfl, HE.out, HV8.out, HB8.out, HZ8.out⟩
            case measure => simp [intOf]; omega
    · obtain rfl : k = bs.length := by omega
      rw [List.drop_length] at HQ
      have HE := Lib.hid HQ.out
      clear hvm hkv hacc hb
      go_wp2_with fail
      go_ret2
      exact valsRes_yes HE.out HV.out HB.out
end Go.Proofs.YtjjfdlgoacockaaGreat
