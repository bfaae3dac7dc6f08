import Derived.Test.YtjjfdlgoacockaaGreatRows
import Derived.Test.YtjjfdlgoacockaaGreatTMade
import Derived.Test.YtjjfdlgoacockaaGreatOpenRow
import Derived.Deep.SlicePairs
import Derived.ChangeSame
import Derived.SizedLaws
import Derived.OpenShut
import Derived.Test.YtjjfdlgoacockaaGreatMath
import Derived.Test.YtjjfdlgoacockaaGreatBRows
import Derived.Test.YtjjfdlgoacockaaGreatORead
import Derived.Test.YtjjfdlgoacockaaGreatOOf
import Derived.Deep.RegionWith
import Derived.Deep.CutRange
namespace Go.Proofs.YtjjfdlgoacockaaGreat
open Go.RowKit M8 Go.ChangeShapes Go.WideShapes Go.Deep

structure FlOk (f : Fl) : Prop where
  key : f.key.size ≤ 140737488351232
  data : f.data.size ≤ 140737488351232
theorem fileCells : Tryz.prog.cellsOf 56 = 2 := by kernel_rfl
theorem fileBytes : Tryz.prog.bytesOf 56 = 32 := by kernel_rfl
theorem strCells8 : Tryz.prog.cellsOf 9 = 1 := by kernel_rfl
theorem fileOff : (match Tryz.prog.underlying 56 with | some (.struct fs) => fs.toList.map (fun f => (f.offset, f.type)) | _ => []) = [(0, 9), (1, 9)] := by kernel_rfl
section
variable {H : Type} {enc : TypeId × Value → H} {w : World} {base : Nat} {spare : Nat → Bool} {held : Bool}
theorem weights_in {P : Program} {e : TypeId} {d : DataW H} : ∀ {ds : List (DataW H)}, d ∈ ds → ∀ n ∈ d.weights P e, n ∈ DataW.weightsAll P e ds
  | d0 :: ds, hd, n, hn => by
    simp only [DataW.weightsAll, List.mem_append]
    rcases List.mem_cons.1 hd with rfl | hd
    · exact .inl hn
    · exact .inr (weights_in hd n hn)
set_option maxRecDepth 100000 in
theorem weights_file (s t : List UInt8) : s.length ∈ (DataW.agg [.lit (.string s), .lit (.string t)] : DataW H).weights Tryz.prog 56 ∧ t.length ∈ (DataW.agg [.lit (.string s), .lit (.string t)] : DataW H).weights Tryz.prog 56 := by
  have ho := fileOff
  cases hu : Tryz.prog.underlying 56 with
  | none => rw [hu] at ho; simp at ho
  | some d =>
    rw [hu] at ho
    cases d with
    | struct fs =>
      simp only at ho
      obtain ⟨fl⟩ := fs
      match fl, ho with
      | [f0, f1], ho => constructor <;> simp [DataW.weights, hu, DataW.weightsEach]
    | _ => simp at ho
set_option maxRecDepth 100000 in
theorem open_files {t : TypeId} {v : Value} {d : DataW H} {p : List MemPlace} (ht : Tryz.prog.underlying t = some (.slice 56)) (h : DataW.Trod enc Tryz.prog w base spare held t v d p) (hv : ∃ a l c, v = .slice a l c)
    (hz : ∀ n ∈ d.weights Tryz.prog t, n ≤ reachBytes) :
    ∃ (A : Option Addr) (c : Nat) (l : List Fl), v = .slice A l.length c ∧ SR w w.heap.size 2 A l.length (fcl l) ∧ l.length ≤ 4398046510976 ∧ ∀ f ∈ l, FlOk f := by
  have e : reachBytes = 140737488351232 := by decide
  rw [e] at hz
  obtain ⟨A0, l0, c0, rfl⟩ := hv
  obtain ⟨fuel, h⟩ := h
  have ho := fileOff
  cases hu : Tryz.prog.underlying 56 with
  | none => rw [hu] at ho; simp at ho
  | some ds =>
    rw [hu] at ho
    cases ds with
    | struct fs =>
      simp only at ho
      obtain ⟨fl⟩ := fs
      match fl, ho with
      | [f0, f1], ho =>
        simp only [List.map_cons, List.map_nil, List.cons.injEq, Prod.mk.injEq, and_true] at ho
        obtain ⟨⟨o0, t0⟩, o1, t1⟩ := ho
        rcases open_slice_pairs ht hu fileCells o0 o1 (by rw [t0]; exact strCells8) (by rw [t1]; exact strCells8) h with ⟨hc, hx⟩ | ⟨a, len, cap, m, n, V0, V1, D0, D1, P0, P1, hcs, hb, hl, hm, hmm, hx, hi⟩
        · simp only [Value.cells, List.cons.injEq, and_true, Value.slice.injEq] at hc
          obtain ⟨rfl, rfl, rfl⟩ := hc
          exact ⟨none, 0, [], rfl, SR.empty _ _ _ _, by simp, by simp⟩
        · simp only [Value.cells, List.cons.injEq, and_true, Value.slice.injEq] at hcs
          obtain ⟨rfl, rfl, rfl⟩ := hcs
          have hlm : l0 ≤ m := by rw [hmm]; split <;> omega
          have hd : d = .slice ((List.range l0).map fun i => .agg [D0 i, D1 i]) ((List.range (m - l0)).map fun j => .agg [D0 (l0 + j), D1 (l0 + j)]) := congrArg Prod.fst hx
          subst hd
          have hone : ∀ i, i < l0 → ∃ q : Fl, (w.cell? (a.add (i * 2)) = some (.string q.key) ∧ w.cell? (a.add (i * 2 + 1)) = some (.string q.data)) ∧ FlOk q := by
            intro i hil
            obtain ⟨h1, h2, h3, h4⟩ := hi i (by omega)
            rw [t0] at h3
            rw [t1] at h4
            obtain ⟨a0, e0, r0, w0⟩ := DataW.trod_string Tryz.underlying9 h3
            obtain ⟨a1, e1, r1, w1⟩ := DataW.trod_string Tryz.underlying9 h4
            simp only [List.cons.injEq, and_true] at e0 e1
            rw [e0] at h1
            rw [e1] at h2
            have r0' : D0 i = .lit (.string a0.data.toList) := congrArg Prod.fst r0
            have r1' : D1 i = .lit (.string a1.data.toList) := congrArg Prod.fst r1
            have hin : (DataW.agg [.lit (.string a0.data.toList), .lit (.string a1.data.toList)] : DataW H) ∈ (List.range l0).map fun i => DataW.agg [D0 i, D1 i] := List.mem_map.2 ⟨i, List.mem_range.2 hil, by rw [r0', r1']⟩
            obtain ⟨q0, q1⟩ := weights_file (H := H) a0.data.toList a1.data.toList
            have g0 := hz _ (by simp only [DataW.weights, ht]; exact List.mem_cons_of_mem _ (List.mem_append_left _ (weights_in (P := Tryz.prog) (e := 56) hin _ q0)))
            have g1 := hz _ (by simp only [DataW.weights, ht]; exact List.mem_cons_of_mem _ (List.mem_append_left _ (weights_in (P := Tryz.prog) (e := 56) hin _ q1)))
            exact ⟨⟨a0, a1⟩, ⟨h1, h2⟩, ⟨by simpa using g0, by simpa using g1⟩⟩
          obtain ⟨F, hF⟩ := choose_lt hone
          have hlen : ((List.range l0).map F).length = l0 := by simp
          refine ⟨some a, c0, (List.range l0).map F, by rw [hlen], ⟨by rw [fcl_len], fun hpos => ?_⟩, ?_, ?_⟩
          · rw [hlen] at hpos
            have h0 := (hF 0 hpos).1.1
            have h00 : w.cell? a = some (.string (F 0).key) := by simpa [Addr.add] using h0
            obtain ⟨ha, hab⟩ := plain_cell h00
            refine ⟨a.block, a.off, by rw [← ha], hab, fun j u hj => ?_⟩
            have hjl : j < l0 * 2 := by
              have := (List.getElem?_eq_some_iff.1 hj).1
              rw [fcl_len, hlen] at this
              exact this
            have hk : j / 2 < l0 := by omega
            obtain ⟨q0, q1⟩ := fcl_at ((List.range l0).map F) (j / 2) (by rw [hlen]; exact hk)
            simp only [List.getElem_map, List.getElem_range] at q0 q1
            obtain ⟨z0, z1⟩ := (hF (j / 2) hk).1
            rw [← Addr.add_mid, ← ha]
            rcases (by omega : j = j / 2 * 2 ∨ j = j / 2 * 2 + 1) with e | e
            · rw [e] at hj ⊢
              rw [q0] at hj
              rw [z0, hj]
            · rw [e] at hj ⊢
              rw [q1] at hj
              rw [z1, hj]
          · have hw3 := hz ((((List.range l0).map fun i => (DataW.agg [D0 i, D1 i] : DataW H)).length + ((List.range (m - l0)).map fun j => (DataW.agg [D0 (l0 + j), D1 (l0 + j)] : DataW H)).length) * Tryz.prog.bytesOf 56) (by simp only [DataW.weights, ht]; exact List.mem_cons_self)
            rw [fileBytes] at hw3
            simp at hw3 ⊢
            omega
          · intro p hp
            obtain ⟨i, hi2, rfl⟩ := List.mem_map.1 hp
            exact (hF i (List.mem_range.1 hi2)).2
    | _ => simp at ho
end
end Go.Proofs.YtjjfdlgoacockaaGreat
namespace Go.Proofs.YtjjfdlgoacockaaGreat
open Go.RowKit M8

def totL : List Fl → Nat
  | [] => 0
  | f :: l => f.key.size + f.data.size + totL l
theorem totL_append : ∀ (a b : List Fl), totL (a ++ b) = totL a + totL b
  | [], b => by simp [totL]
  | f :: a, b => by simp [totL, totL_append a b]; omega
theorem totL_next {l : List Fl} {k : Nat} (h : k < l.length) : totL (l.take (k + 1)) = totL (l.take k) + (l[k].key.size + l[k].data.size) := by
  rw [List.take_succ_eq_append_getElem h, totL_append]; simp [totL]
theorem totL_mem : ∀ {l : List Fl} {f : Fl}, f ∈ l → f.key.size + f.data.size ≤ totL l
  | g :: l, f, h => by
    unfold totL
    rcases List.mem_cons.1 h with rfl | h
    · omega
    · have := totL_mem h; omega
theorem goN_in : ∀ (l : List Fl) (seen : List ByteArray), goN seen l = 0 ∨ goN seen l = 9 ∨ goN seen l = 14
  | [], seen => .inl rfl
  | f :: l, seen => by
    unfold goN
    split
    · exact .inr (.inl rfl)
    · split
      · exact .inr (.inr rfl)
      · exact goN_in l _
theorem newC_in (l : List Fl) (h : newC l ≠ 0) : newC l = 7 ∨ newC l = 9 ∨ newC l = 14 := by
  unfold newC at h ⊢
  split
  · exact .inl rfl
  · rename_i h1
    rw [if_neg h1] at h
    exact .inr ((goN_in l []).resolve_left h)
def LaidRes (l : List Fl) (w : World) (e : Ending) (w' : World) : Prop :=
  ∃ mb V n c ok, e = .returned (.tuple #[.agg #[.map mb], .slice V n c, .bool ok]) ∧ (ok = true → newC l = 0 ∧ totL l ≤ 10000 ∧ n = l.length ∧ (∃ B, o_St B l mb w') ∧ SR w' w'.heap.size 2 V l.length (fcl l)) ∧ Below w.heap.size w w'
theorem laidRes_no {l : List Fl} {mb : Option Nat} {V : Option Addr} {n c : Nat} {w w' : World} (hb : Below w.heap.size w w') : LaidRes l w (.returned (.tuple #[.agg #[.map mb], .slice V n c, .bool false])) w' :=
  ⟨mb, V, n, c, false, rfl, (fun h => by cases h), hb⟩
theorem o_St.set {B : Nat} {l : List Fl} {mb : Option Nat} {W : World} (h : o_St B l mb W) {g : Nat} (hg : g < B) (v : Value) : o_St B l mb (W.setCell ⟨g, 0, none⟩ v) := by
  rcases h with h | ⟨b, h1, h2, h3, h4⟩
  · exact .inl h
  · exact .inr ⟨b, h1, h2, h3.setCell (by simp; omega) _, h4⟩
structure LInv (w : World) (g8 : Nat) (A : Option Addr) (l : List Fl) (mb : Option Nat) (W : World) : Prop where
  bx : Bx w w.heap.size #[.map none] 25 W
  sr : SR W W.heap.size 2 A l.length (fcl l)
  st : ∃ B, w.heap.size < B ∧ o_St B (kept l) mb W
  b8 : Bx w g8 #[.map mb] 25 W
theorem LInv.below {w W W' : World} {g8 : Nat} {A : Option Addr} {l : List Fl} {mb : Option Nat} (h : LInv w g8 A l mb W) (hb : Below W.heap.size W W') : LInv w g8 A l mb W' :=
  ⟨h.bx.below hb, (h.sr.below hb).more hb.size, h.st.imp fun _ s => ⟨s.1, s.2.below hb⟩, h.b8.below hb⟩
theorem LInv.drew {w W : World} {g8 : Nat} {A : Option Addr} {l : List Fl} {mb : Option Nat} (h : LInv w g8 A l mb W) : LInv w g8 A l mb W.drew := h.below (below_drewN (Below.refl _ _) 1)
theorem LInv.bxd {w W : World} {g8 : Nat} {A : Option Addr} {l : List Fl} {mb : Option Nat} (h : LInv w g8 A l mb W) : W.cell? ⟨w.heap.size, 0, none⟩ = some (.map none) ∧ W.frozen? ⟨w.heap.size, 0, none⟩ = false ∧ W.cell? ⟨g8, 0, none⟩ = some (.map mb) := ⟨h.bx.cell 0, h.bx.free 0, h.b8.cell 0⟩

theorem laidRes_yes {l : List Fl} {mb : Option Nat} {V : Option Addr} {c B : Nat} {w W : World} {A : Option Addr} {g8 : Nat} (hc : newC l = 0) (ht : totL l ≤ 10000) (hi : LInv w g8 A l mb W) (ho : W.ownsRow B 135 2 (.slice V l.length c) l.length (fcl l)) (hk : kept l = l) :
    LaidRes l w (.returned (.tuple #[.agg #[.map mb], .slice V l.length c, .bool true])) (W.setCell ⟨w.heap.size, 0, none⟩ (.map mb)) := by
  obtain ⟨B2, hB2, hst⟩ := hi.st
  rw [hk] at hst
  exact ⟨mb, V, l.length, c, true, rfl, fun _ => ⟨hc, ht, rfl, ⟨B2, hst.set hB2 _⟩, SR.of_own (own_set ho (own_far ho hi.bx.1 (by decide)) 0 _)⟩, (hi.bx.set (Nat.le_refl _) 0 (.map mb)).all⟩
set_option maxRecDepth 100000 in
set_option maxHeartbeats 2000000 in
theorem laid9_any (l : List Fl) (A : Option Addr) (c : Nat) (w : World) (hl : l.length ≤ 4398046510976) (hs : ∀ f ∈ l, FlOk f) (hA : SR w w.heap.size 2 A l.length (fcl l)) :
    Calls Tryz.prog 5 #[.slice A l.length c] w (LaidRes l w) := by
  have HB0 := Lib.hid (Bx.start w #[.map none] 25)
  have HA := Lib.hid (fun W (h : Below w.heap.size w W) => (hA.below h).more h.size)
  have HS := Lib.hid hs
  clear hA hs
  go_enter Tryz.func5, Tryz.ntmps5
  go_wp2_with fail
  go_loopw [5, 7, 12] (fun n _ i wr => ∃ (k : Nat) (K N : Int), i = .int .i64 K ∧ K = (k : Nat) ∧ k ≤ l.length ∧ n = .int .i64 N ∧ N = (totL (l.take k) : Nat) ∧ N ≤ 10000 ∧ Bx w w.heap.size #[.map none] 25 wr) (fun _ _ i _ => l.length - (intOf i).toNat)
  case atStart => exact ⟨0, _, _, rfl, rfl, by omega, rfl, rfl, by decide, HB0.out⟩
  case round =>
    obtain ⟨k, K, N, rfl, rfl, hk, rfl, hN, hN1, hbx⟩ := hrel
    have HB := Lib.hid hbx
    clear hbx
    by_cases hlt : k < l.length
    · obtain ⟨b, o, rfl, hbb, x0, x1⟩ := file_at (HA.out _ HB.out.all) hlt
      have hf := HS.out l[k] (List.getElem_mem hlt)
      have hk1 := hf.key
      have hk2 := hf.data
      have HN := Lib.hid (totL_next hlt)
      have HNN := Lib.hid hN
      have hN0 : 0 ≤ N := by omega
      have HBM := Lib.hid (HB.out.more (.cells #[.string l[k].key, .string l[k].data] 56))
      have c0 := HBM.out.cell 0
      have f0 := HBM.out.free 0
      change _ = some _ at c0
      clear hf hbb hN
      generalize l[k] = f at *
      by_cases hgt : 10000 < N + ((f.key.size : Int) + (f.data.size : Int))
      · have HX := Lib.hid (HBM.out.set (Nat.le_refl _) 0 (.map none))
        go_wp2_with fail
        have e0 := HX.out.cell 0
        change _ = some _ at e0
        exact bodyPost_ret (v := .tuple #[.agg #[.map none], .slice none 0 0, .bool false]) (by simp [results, Tryz.results5, go_sem, e0]) rfl (laidRes_no HX.out.all)
      · go_wp2_with fail
        go_roundw
        case rel => exact ⟨k + 1, _, _, rfl, by omega, by omega, rfl, by rw [HN.out]; have := HNN.out; omega, by omega, HBM.out⟩
        case measure => simp [intOf]; omega
    · obtain rfl : k = l.length := by omega
      rw [List.take_length] at hN
      have HT := Lib.hid (show totL l ≤ 10000 by omega)
      have HSM := Lib.hid (fun f (hf : f ∈ l) => show f.key.size ≤ 10000 ∧ f.data.size ≤ 10000 by have := totL_mem hf; have := HT.out; omega)
      clear hN hN1
      go_wp2_with fail
      refine (new_any l A c _ hl (fun f hf => ⟨by have := (HSM.out f hf).1; unfold maxLen; omega, by have := (HSM.out f hf).2; unfold maxLen; omega⟩) (HA.out _ HB.out.all)).mono ?_
      rintro e w2 ⟨mb, rfl, hst, hb2⟩
      have hbm := hb2.alloc hb2.size (.cells #[.map mb] 25)
      have HI := Lib.hid (show LInv w w2.heap.size A l mb (w2.alloc (.cells #[.map mb] 25)) from ⟨HB.out.below hbm, HA.out _ (HB.out.below hbm).all, ⟨_, HB.out.2.1, hst.below ((Below.refl _ _).alloc (Nat.le_refl _) _)⟩, (HB.out.below hb2).next _ _⟩)
      clear hst hb2 hbm
      by_cases hC : newC l = 0
      · have HCZ := Lib.hid hC
        have HKY := Lib.hid (kept_yes hC)
        rw [hC]
        go_upto_region 10 with fail
        clear hC
        generalize w2.alloc (.cells #[.map mb] 25) = W0 at *
        generalize w2.heap.size = g8 at *
        obtain ⟨d0, d1, d8⟩ := HI.out.bxd
        go_region_with (first
          | (go_at_call 17; (first | (refine (rnew_any l V2 c2 _ _ hl ?_ (SR.of_own hs2.out)).mono ?_; (next => exact fun f hf => (HSM.out f hf).1)) | (refine (rnew_any l V1 c1 _ _ hl ?_ (SR.of_own hs1.out)).mono ?_; (next => exact fun f hf => (HSM.out f hf).1))); rintro e w5 ⟨rfl, hd⟩; rw [HCZ.out]; (try have hs1 := Lib.hid (own_keep hs1.out hd.below)); (try have hs2 := Lib.hid (own_keep hs2.out hd.below)); have HI := Lib.hid (HI.out.below hd.below); obtain ⟨d0, d1, d8⟩ := HI.out.bxd)
          | (go_at_call 16; have hs0 := hs1; refine (of_files l A c _ hl ?_).mono ?_; (next => exact HI.out.sr); rintro e w4 ⟨v2, rfl, hown2, hb4⟩; obtain ⟨V2, c2, rfl, -, -⟩ := own_form hown2; have hs1 := Lib.hid (own_keep hs1.out hb4); have hs2 := Lib.hid hown2; have HI := Lib.hid (HI.out.below hb4); obtain ⟨d0, d1, d8⟩ := HI.out.bxd)
          | (go_at_call 16; refine (of_files l A c _ hl ?_).mono ?_; (next => exact HI.out.drew.sr); rintro e w3 ⟨v1, rfl, hown1, hb3⟩; obtain ⟨V1, c1, rfl, -, -⟩ := own_form hown1; have hs1 := Lib.hid hown1; have HI := Lib.hid (HI.out.drew.below hb3); obtain ⟨d0, d1, d8⟩ := HI.out.bxd))
        all_goals
          have hx := HI.out.bx.set (Nat.le_refl _) 0 (.map mb)
          have HX := Lib.hid hx
          clear d0 d1 d8 hx
          go_wp2_with fail
          have e0 := HX.out.cell 0
          change _ = some _ at e0
          first
            | exact bodyPost_ret (v := .tuple #[.agg #[.map mb], .slice V1 l.length c1, .bool true]) (by simp [results, Tryz.results5, go_sem, e0]) rfl (laidRes_yes HCZ.out HT.out HI.out hs1.out HKY.out)
            | exact bodyPost_ret (v := .tuple #[.agg #[.map mb], .slice V2 l.length c2, .bool true]) (by simp [results, Tryz.results5, go_sem, e0]) rfl (laidRes_yes HCZ.out HT.out HI.out hs2.out HKY.out)
      · have hin := newC_in l hC
        clear hC
        rcases hin with hC | hC | hC
        all_goals
          rw [hC]
          clear hC
          go_upto_region 10 with fail
          generalize w2.alloc (.cells #[.map mb] 25) = W0 at *
          generalize w2.heap.size = g8 at *
          obtain ⟨d0, d1, d8⟩ := HI.out.bxd
          first | go_region_with (go_at_call 16; refine (of_files l A c _ hl ?_).mono ?_; (next => exact HI.out.drew.sr); rintro e w3 ⟨v1, rfl, hown1, hb3⟩; obtain ⟨V1, c1, rfl, -, -⟩ := own_form hown1; have HI := Lib.hid (HI.out.drew.below hb3); obtain ⟨d0, d1, d8⟩ := HI.out.bxd) | fail
          all_goals
            have hx := HI.out.bx.set (Nat.le_refl _) 0 (.map mb)
            have HX := Lib.hid hx
            clear d0 d1 d8 hx
            go_wp2_with fail
            have e0 := HX.out.cell 0
            change _ = some _ at e0
            exact bodyPost_ret (v := .tuple #[.agg #[.map mb], .slice V1 l.length c1, .bool false]) (by simp [results, Tryz.results5, go_sem, e0]) rfl (laidRes_no HX.out.all)
end Go.Proofs.YtjjfdlgoacockaaGreat
