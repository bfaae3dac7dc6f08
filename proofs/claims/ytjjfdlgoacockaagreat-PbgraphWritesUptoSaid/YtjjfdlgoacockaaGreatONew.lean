import Derived.Test.YtjjfdlgoacockaaGreatOKey
import Derived.Test.YtjjfdlgoacockaaGreatTMade
import Derived.Maps.OwnOps
namespace Go.Proofs.YtjjfdlgoacockaaGreat
open Go.RowKit M8 Go.Maps Go.ChangeMaps

theorem strLaw : Keyed Tryz.prog 9 := string_keyed Tryz.underlying9
set_option maxRecDepth 100000 in
theorem strZero (w : World) : (zeroValue 9).run Tryz.prog w = .ok (.string ⟨#[]⟩) w := by kernel_rfl
def FM (b : Nat) (l : List Fl) (w : World) : Prop := w.ownsMap Tryz.prog 9 (plainElem Tryz.prog 9) b l.length (fdat l)
theorem keyOf_fk {s : ByteArray} (h : s.size ≤ maxLen) : keyOf Tryz.prog 9 (.string s) = some (fk s) := by
  unfold keyOf
  simp [Tryz.underlying9, mapKey, h, fk]
theorem FM.start (w : World) : FM w.heap.size [] (w.alloc (.map #[] 0)) := World.ownsMap_made _ _ _ _
theorem FM.look {b : Nat} {l : List Fl} {w : World} (h : FM b l w) {s : ByteArray} (hs : s.size ≤ maxLen) :
    (s ∉ keys l ∧ (Instr.lookup 23 (.map (some b)) (.string s) true).run Tryz.prog w = .ok (.tuple #[.string ⟨#[]⟩, .bool false]) w) ∨
    (s ∈ keys l ∧ ∃ d, (Instr.lookup 23 (.map (some b)) (.string s) true).run Tryz.prog w = .ok (.tuple #[.string d, .bool true]) w ∧ ((keys l).Nodup → ∀ f ∈ l, f.key = s → f.data = d)) := by
  rcases own_look_ok h strLaw Tryz.underlying23 (strZero w) (keyOf_fk hs) with ⟨h0, hrun⟩ | ⟨v, y, h1, hrun, hv, hat⟩
  · rw [fdat_has, decide_eq_false_iff_not] at h0
    exact .inl ⟨h0, hrun⟩
  · rw [fdat_has, decide_eq_true_eq] at h1
    obtain ⟨d, rfl, rfl, _⟩ := plainElem_string_inv Tryz.underlying9 hv
    refine .inr ⟨h1, d, hrun, fun hn f hf e => ?_⟩
    have h2 := hat .nil
    rw [← e, fdat_at hn hf] at h2
    exact fk_inj (by unfold fv at h2; unfold fk; simpa using h2)
theorem FM.store {b : Nat} {l : List Fl} {w : World} {k : Nat} (h : FM b (l.take k) w) (hk : k < l.length) (hl : l.length ≤ 100) (hs : l[k].key.size ≤ maxLen) (hd : l[k].data.size ≤ maxLen) :
    ∃ w', (Instr.mapUpdate 23 (.map (some b)) (.string l[k].key) (.string l[k].data)).run Tryz.prog w = .ok () w' ∧ FM b (l.take (k + 1)) w' ∧ w.grownBy w' (some b) := by
  obtain ⟨w', r, h1, h2⟩ := h.update (val := .string l[k].data) strLaw Tryz.underlying23 (by simp; unfold maxLen; omega) (keyOf_fk hs) (plainElem_string Tryz.underlying9 hd)
  refine ⟨w', r, ?_, h2⟩
  unfold FM
  rw [List.take_succ_eq_append_getElem hk, fdat_snoc]
  have e : (List.take k l ++ [l[k]]).length = (List.take k l).length + 1 := by rw [List.length_append]; rfl
  rw [e]
  exact h1
def o_St (B : Nat) (l : List Fl) (mb : Option Nat) (w : World) : Prop := (l = [] ∧ mb = none) ∨ ∃ b, mb = some b ∧ B ≤ b ∧ FM b l w ∧ (keys l).Nodup
def NewRes (l : List Fl) (w : World) (e : Ending) (w' : World) : Prop :=
  ∃ mb, e = .returned (.tuple #[.agg #[.map mb], .int .i64 (newC l)]) ∧ o_St w.heap.size (kept l) mb w' ∧ Below w.heap.size w w'
theorem newRes_no {l : List Fl} {w w' : World} {c : Int} (h : newC l = c) (hc : c ≠ 0) (hb : Below w.heap.size w w') : NewRes l w (.returned (.tuple #[.agg #[.map none], .int .i64 c])) w' :=
  ⟨none, by rw [h], .inl ⟨kept_no h hc, rfl⟩, hb⟩
def NRel (l : List Fl) (k : Nat) (w wr : World) : Prop :=
  wr.heap[w.heap.size]? = some (.cells #[.map none] 25 (0, 0)) ∧ FM (w.heap.size + 1) (l.take k) wr ∧ Gone l k ∧ Below w.heap.size w wr ∧ w.heap.size + 1 < wr.heap.size

theorem res_cell {w W : World} {T : TypeId} {a : Value} (h : W.heap[w.heap.size]? = some (.cells #[a] T (0, 0))) (hb : Below w.heap.size w W) (v : Value) :
    (W.setCell ⟨w.heap.size, 0, none⟩ v).cell? ⟨w.heap.size, 0, none⟩ = some v ∧ Below w.heap.size w (W.setCell ⟨w.heap.size, 0, none⟩ v) :=
  ⟨cell_of_row _ _ 0 _ T _ (heap_setCell_same _ _ 0 _ T v h), hb.setCell (p := ⟨w.heap.size, 0, none⟩) (Nat.le_refl _) v⟩
theorem makeMap_hint (n : Int) (w : World) : (Instr.makeMap 23 (some (.int .i64 n))).run Tryz.prog w = .ok (.map (some w.heap.size)) (w.alloc (.map #[] 0)) := by kernel_rfl
set_option maxRecDepth 100000 in
theorem new_any (l : List Fl) (A : Option Addr) (c : Nat) (w : World) (hl : l.length ≤ 4398046510976) (hs : ∀ f ∈ l, f.key.size ≤ maxLen ∧ f.data.size ≤ maxLen) (hA : SR w w.heap.size 2 A l.length (fcl l)) :
    Calls Tryz.prog 15 #[.slice A l.length c] w (NewRes l w) := by
  by_cases h64 : 64 < l.length
  · have hi : (64 : Int) < (l.length : Int) := by omega
    have HC := Lib.hid (fun w' => newRes_no (w := w) (w' := w') (newC_size h64) (by decide))
    clear h64
    go_enter Tryz.func15, Tryz.ntmps15
    go_wp2_with fail
    exact bodyPost_ret (v := .tuple #[.agg #[.map none], .int .i64 7]) (by simp [results, Tryz.results15, go_sem]) rfl (HC.out _ ((Below.refl _ w).alloc (Nat.le_refl _) _))
  · have hi : ¬ (64 : Int) < (l.length : Int) := by omega
    replace hl : l.length ≤ 100 := by omega
    have HG := Lib.hid (Gone.start (l := l) (by omega))
    have hmm := makeMap_hint (l.length : Int)
    have hr0 : NRel l 0 w ((w.alloc (.cells #[.map none] 25)).alloc (.map #[] 0)) := by
      have h0 := FM.start (w.alloc (.cells #[.map none] 25))
      rw [World.size_alloc] at h0
      refine ⟨blk_alloc (heap_alloc_new w _) _, h0, HG.out, ((Below.refl _ w).alloc (Nat.le_refl _) _).alloc (by simp) _, by simp⟩
    have HR0 := Lib.hid hr0
    clear h64 hr0
    go_enter Tryz.func15, Tryz.ntmps15
    go_wp2_with fail
    clear hmm
    go_loopw [6, 7, 8, 18] (fun _ _ _ i wr => ∃ (k : Nat) (K : Int), i = .int .i64 K ∧ K = (k : Nat) ∧ k ≤ l.length ∧ NRel l k w wr) (fun _ _ _ i _ => l.length - (intOf i).toNat)
    case atStart => exact ⟨0, _, rfl, rfl, by omega, HR0.out⟩
    case round =>
      obtain ⟨k, K, rfl, rfl, hk, hres, hmap, hg, hb, hz⟩ := hrel
      have HRES := Lib.hid hres
      have HM := Lib.hid hmap
      have HG2 := Lib.hid hg
      have HB := Lib.hid hb
      clear hres hmap hg HG HR0
      by_cases hlt : k < l.length
      · obtain ⟨b, o, rfl, hbb, x0, x1⟩ := file_at (hA.below hb) hlt
        have hsz := hs l[k] (List.getElem_mem hlt)
        clear hb
        have HK := Lib.hid (fun W => key_any l[k].key W)
        cases hkb : keyB l[k].key
        · rw [hkb] at HK
          have HC := Lib.hid (fun w' => newRes_no (w := w) (w' := w') (HG2.out.path hlt hkb) (by decide))
          clear hkb
          go_wp2_with fail
          refine (HK.out _).mono ?_
          rintro e w1 ⟨rfl, hb1⟩
          have hblk := (hb1.block w.heap.size (by simp; omega)).trans (blk_alloc HRES.out _)
          obtain ⟨hc0, hB2⟩ := res_cell hblk (step_below (HB.out.alloc HB.out.size _) hb1) (.map none)
          have HC2 := Lib.hid hc0
          have HB2 := Lib.hid hB2
          have c0 := cell_of_row _ _ 0 _ _ _ hblk
          have f0 := frozen_of_row _ _ 0 _ _ hblk
          clear hb1 hblk hB2 hc0
          go_wp2_with fail
          have hc0 := HC2.out
          exact bodyPost_ret (v := .tuple #[.agg #[.map none], .int .i64 9]) (by simp [results, Tryz.results15, go_sem, hc0]) rfl (HC.out _ HB2.out)
        · rw [hkb] at HK
          have HKB := Lib.hid hkb
          clear hkb
          go_wp2_with fail
          refine (HK.out _).mono ?_
          rintro e w1 ⟨rfl, hb1⟩
          have hblk := (hb1.block w.heap.size (by simp; omega)).trans (blk_alloc HRES.out _)
          have hfb := (hb1.block wr.heap.size (by simp)).trans (heap_alloc_new wr _)
          have hB1 := step_below (HB.out.alloc HB.out.size _) hb1
          have hm1 : FM (w.heap.size + 1) (l.take k) w1 := own_map_below (HM.out.alloc _) hb1 (by simp; omega)
          have p0 := cell_of_row _ _ 0 _ _ _ hfb
          have p1 := cell_of_row _ _ 1 _ _ _ hfb
          have hz1 := hb1.size
          have HZ1 := Lib.hid (show w.heap.size + 1 < w1.heap.size by simp at hz1; omega)
          have HFB := Lib.hid hfb
          rcases hm1.look hsz.1 with ⟨hni, hrun⟩ | ⟨hin, d, hrun, -⟩
          · obtain ⟨w2, hst, hm2, hg2⟩ := hm1.store hlt hl hsz.1 hsz.2
            have HX : Hid (NRel l (k + 1) w w2) := Lib.hid ⟨blk_grown hblk hg2 (by simp), hm2, HG2.out.next hlt HKB.out hni, hB1.grown hg2 hB1.size (fun q hq => by cases hq; omega), by have := hg2.size; have := HZ1.out; omega⟩
            clear hb1 hblk hfb hB1 hm1 hz1 hni hm2 hg2
            go_wp2_with fail
            go_roundw
            case rel => exact ⟨k + 1, _, rfl, by omega, by omega, HX.out⟩
            case measure => simp [intOf]; omega
          · have HC := Lib.hid (fun w' => newRes_no (w := w) (w' := w') (HG2.out.twice hlt HKB.out hin) (by decide))
            obtain ⟨hc0, hB2⟩ := res_cell hblk hB1 (.map none)
            have HC2 := Lib.hid hc0
            have HB2 := Lib.hid hB2
            have c0 := cell_of_row _ _ 0 _ _ _ hblk
            have f0 := frozen_of_row _ _ 0 _ _ hblk
            clear hb1 hblk hfb hB1 hm1 hz1 hin hB2 hc0
            go_wp2_with fail
            have hc0 := HC2.out
            exact bodyPost_ret (v := .tuple #[.agg #[.map none], .int .i64 14]) (by simp [results, Tryz.results15, go_sem, hc0]) rfl (HC.out _ HB2.out)
      · obtain rfl : k = l.length := by omega
        obtain ⟨he, hn⟩ := HG2.out.end_
        have hm := HM.out
        rw [List.take_length] at hm
        have c0 := cell_of_row _ _ 0 _ _ _ HRES.out
        have f0 := frozen_of_row _ _ 0 _ _ HRES.out
        obtain ⟨hc0, hB2⟩ := res_cell HRES.out HB.out (.map (some (w.heap.size + 1)))
        have hR : NewRes l w (.returned (.tuple #[.agg #[.map (some (w.heap.size + 1))], .int .i64 0])) (wr.setCell ⟨w.heap.size, 0, none⟩ (.map (some (w.heap.size + 1)))) :=
          ⟨_, by rw [he], .inr ⟨_, rfl, by omega, by rw [kept_yes he]; exact hm.setCell (by simp) _, by rw [kept_yes he]; exact hn⟩, hB2⟩
        have HR := Lib.hid hR
        have HC2 := Lib.hid hc0
        clear hb he hn hm hc0 hB2 hR
        go_wp2_with fail
        have hc0 := HC2.out
        exact bodyPost_ret (v := .tuple #[.agg #[.map (some (w.heap.size + 1))], .int .i64 0]) (by simp [results, Tryz.results15, go_sem, hc0]) rfl HR.out
end Go.Proofs.YtjjfdlgoacockaaGreat
