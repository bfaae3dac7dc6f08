/- An argument that is a slice of fields, opened: it reads as a list, and each part is within its bounds. -/
import Derived.Test.YtiniicehfjgpgaaGreatWCells
import Derived.Deep.Slices
import Derived.ChangeSame
import Derived.SizedLaws
import Derived.OpenShut
import Derived.Test.YtiniicehfjgpgaaGreatMath
import Derived.Test.YtiniicehfjgpgaaGreatInts
namespace Go.Proofs.YtiniicehfjgpgaaGreat
open Go.RowKit M1 M2 Go.ChangeShapes Go.WideShapes Go.Deep


instance : Inhabited WFd := ⟨fd0⟩
structure FOk (f : WFd) : Prop where
  num1 : -9223372036854775808 ≤ f.num
  num2 : f.num ≤ 9223372036854775807
  typ1 : -9223372036854775808 ≤ f.typ
  typ2 : f.typ ≤ 9223372036854775807
  n : Fits64 f.n
  data : f.data.size ≤ 140737488351232

theorem wireCells : Tryz.prog.cellsOf 114 = 4 := by kernel_rfl
theorem wireOff : (match Tryz.prog.underlying 114 with | some (.struct fs) => fs.toList.map (fun f => (f.offset, f.type)) | _ => []) = [(0, 3), (1, 3), (2, 81), (3, 9)] := by kernel_rfl
theorem cellsInt : Tryz.prog.cellsOf 3 = 1 := by kernel_rfl
theorem cellsU64 : Tryz.prog.cellsOf 81 = 1 := by kernel_rfl
theorem cellsStr : Tryz.prog.cellsOf 9 = 1 := by kernel_rfl
section
variable {H : Type} {enc : TypeId × Value → H} {w : World} {base : Nat} {spare : Nat → Bool} {held : Bool}
theorem take_one {l : List Value} {i : Nat} (h : i < l.length) : (l.drop i).take 1 = [l[i]] := by
  rw [List.drop_eq_getElem_cons h]; rfl
set_option maxRecDepth 100000 in
/-- one field -/
theorem open_field {n : Nat} {cs : List Value} {x : DataW H × List MemPlace} (h : DataW.trod enc Tryz.prog w base spare held n 114 cs = some x) :
    ∃ f : WFd, cs = fc f ∧ x.1 = .agg [.lit (.int .i64 f.num), .lit (.int .i64 f.typ), .lit (.int .u64 (f.n : Int)), .lit (.string f.data.data.toList)] ∧
      -9223372036854775808 ≤ f.num ∧ f.num ≤ 9223372036854775807 ∧ -9223372036854775808 ≤ f.typ ∧ f.typ ≤ 9223372036854775807 ∧ Fits64 f.n ∧ f.data.size ≤ maxLen := by
  have ho := wireOff
  cases hu : Tryz.prog.underlying 114 with
  | none => rw [hu] at ho; simp at ho
  | some d =>
    rw [hu] at ho
    cases d with
    | struct fs =>
      simp only at ho
      obtain ⟨xs, m, rfl, hx, hlen, hxl, hf⟩ := DataW.trod_struct hu h
      rw [wireCells] at hlen
      obtain ⟨fl⟩ := fs
      match fl, ho with
      | [f0, f1, f2, f3], ho =>
        simp only [List.map_cons, List.map_nil, List.cons.injEq, Prod.mk.injEq, and_true] at ho
        obtain ⟨⟨o0, t0⟩, ⟨o1, t1⟩, ⟨o2, t2⟩, ⟨o3, t3⟩⟩ := ho
        match cs, hlen, xs, hxl with
        | [c0, c1, c2, c3], _, [x0, x1, x2, x3], _ =>
          have h0 := hf 0 f0 rfl
          have h1 := hf 1 f1 rfl
          have h2 := hf 2 f2 rfl
          have h3 := hf 3 f3 rfl
          rw [o0, t0, cellsInt] at h0
          rw [o1, t1, cellsInt] at h1
          rw [o2, t2, cellsU64] at h2
          rw [o3, t3, cellsStr] at h3
          simp only [List.drop_zero, List.drop_succ_cons, List.take_succ_cons, List.take_zero, List.getElem?_cons_zero, List.getElem?_cons_succ] at h0 h1 h2 h3
          obtain ⟨a0, e0, r0, w0⟩ := DataW.trod_int Tryz.underlying3 h0
          obtain ⟨a1, e1, r1, w1⟩ := DataW.trod_int Tryz.underlying3 h1
          obtain ⟨a2, e2, r2, w2⟩ := DataW.trod_int Tryz.underlying81 h2
          obtain ⟨a3, e3, r3, w3⟩ := DataW.trod_string Tryz.underlying9 h3
          simp only [List.cons.injEq, and_true] at e0 e1 e2 e3
          subst e0 e1 e2 e3 r0 r1 r2 r3
          have b0 := bounds_i64 w0
          have b1 := bounds_i64 w1
          have b2 := bounds_u64 w2
          obtain ⟨k, rfl⟩ := Int.eq_ofNat_of_zero_le b2.1
          refine ⟨⟨a0, a1, k, a3⟩, rfl, by rw [hx]; rfl, b0.1, b0.2, b1.1, b1.2, by unfold Fits64; have := b2.2; simp only at *; omega, w3⟩
    | _ => simp at ho
theorem wireBytes : Tryz.prog.bytesOf 114 = 40 := by kernel_rfl
theorem weights_all {P : Program} {e : TypeId} {d : DataW H} : ∀ {ds : List (DataW H)}, d ∈ ds → ∀ n ∈ d.weights P e, n ∈ DataW.weightsAll P e ds
  | d0 :: ds, hd, n, hn => by
    simp only [DataW.weightsAll, List.mem_append]
    rcases List.mem_cons.1 hd with rfl | hd
    · exact .inl hn
    · exact .inr (weights_all hd n hn)
set_option maxRecDepth 100000 in
theorem weights_field (a b : Int) (n : Nat) (s : List UInt8) : s.length ∈ (DataW.agg [.lit (.int .i64 a), .lit (.int .i64 b), .lit (.int .u64 (n : Int)), .lit (.string s)] : DataW H).weights Tryz.prog 114 := by
  have ho := wireOff
  cases hu : Tryz.prog.underlying 114 with
  | none => rw [hu] at ho; simp at ho
  | some d =>
    rw [hu] at ho
    cases d with
    | struct fs =>
      simp only at ho
      obtain ⟨fl⟩ := fs
      match fl, ho with
      | [f0, f1, f2, f3], ho => simp [DataW.weights, hu, DataW.weightsEach]
    | _ => simp at ho
/-- an address that reads is plain -/
theorem plain_addr {a : Addr} {v : Value} (h : w.cell? a = some v) : a = ⟨a.block, a.off, none⟩ ∧ a.block < w.heap.size := by
  refine ⟨?_, block_lt_of_cell h⟩
  obtain ⟨b, o, s⟩ := a
  cases s with
  | none => rfl
  | some x =>
    unfold World.cell? at h
    split at h <;> simp at h
/-- the slice -/
theorem open_wfields {t : TypeId} {v : Value} {d : DataW H} {p : List MemPlace} (ht : Tryz.prog.underlying t = some (.slice 114)) (h : DataW.Trod enc Tryz.prog w base spare held t v d p) (hv : ∃ a l c, v = .slice a l c)
    (hz : ∀ n ∈ d.weights Tryz.prog t, n ≤ reachBytes) : ∃ A c l, v = .slice A l.length c ∧ SR w w.heap.size 4 A l.length (fcs l) ∧ l.length ≤ 3518437208780 ∧ ∀ f ∈ l, FOk f := by
  obtain ⟨A0, l0, c0, rfl⟩ := hv
  obtain ⟨fuel, h⟩ := h
  rcases open_slice ht h with ⟨hc, hx⟩ | ⟨a, len, cap, m, n, D, Pl, hcs, hb, hl, hm, hmm, hx, hi⟩
  · simp only [Value.cells, List.cons.injEq, and_true, Value.slice.injEq] at hc
    obtain ⟨rfl, rfl, rfl⟩ := hc
    exact ⟨none, 0, [], rfl, SR.empty _ _ _ _, by simp, by simp⟩
  · simp only [Value.cells, List.cons.injEq, and_true, Value.slice.injEq] at hcs
    obtain ⟨rfl, rfl, rfl⟩ := hcs
    have hlm : l0 ≤ m := by rw [hmm]; split <;> omega
    have hd : d = .slice ((List.range l0).map D) ((List.range (m - l0)).map fun j => D (l0 + j)) := congrArg Prod.fst hx
    subst hd
    have hone : ∀ i, i < l0 → ∃ f : WFd, (∀ j, j < 4 → w.cell? (a.add (i * 4 + j)) = (fc f)[j]?) ∧ FOk f := by
      intro i hil
      obtain ⟨cs', h1, h2⟩ := hi i (by omega)
      rw [wireCells] at h1
      obtain ⟨_, hcl, hat⟩ := World.cells?_some h1
      obtain ⟨f, rfl, hD, a1, a2, b1, b2, hn, hsz⟩ := open_field h2
      refine ⟨f, fun j hj => ?_, a1, a2, b1, b2, hn, ?_⟩
      · rw [← Go.Deep.add_add]; exact hat j hj
      · have hD' : D i = .agg [.lit (.int .i64 f.num), .lit (.int .i64 f.typ), .lit (.int .u64 (f.n : Int)), .lit (.string f.data.data.toList)] := hD
        have hw1 := weights_field (H := H) f.num f.typ f.n f.data.data.toList
        rw [← hD'] at hw1
        have hw2 := weights_all (P := Tryz.prog) (e := 114) (ds := (List.range l0).map D) (List.mem_map.2 ⟨i, List.mem_range.2 hil, rfl⟩) _ hw1
        have hw3 := hz f.data.data.toList.length (by simp only [DataW.weights, ht]; exact List.mem_cons_of_mem _ (List.mem_append_left _ hw2))
        have e : reachBytes = 140737488351232 := by decide
        rw [e] at hw3
        simpa using hw3
    obtain ⟨F, hF⟩ := choose_lt (α := WFd) (p := fun i f => (∀ j, j < 4 → w.cell? (a.add (i * 4 + j)) = (fc f)[j]?) ∧ FOk f) hone
    have hlen : ((List.range l0).map F).length = l0 := by simp
    refine ⟨some a, c0, (List.range l0).map F, by rw [hlen], ⟨by rw [fcs_len], fun hpos => ?_⟩, ?_, ?_⟩
    · rw [hlen] at hpos
      have h0 := (hF 0 hpos).1 0 (by omega)
      have h00 : w.cell? a = some (.int .i64 (F 0).num) := by simpa [Addr.add, fc] using h0
      obtain ⟨ha, hab⟩ := plain_addr h00
      refine ⟨a.block, a.off, by rw [← ha], hab, fun j u hj => ?_⟩
      have hjl : j < l0 * 4 := by
        have := (List.getElem?_eq_some_iff.1 hj).1
        rw [fcs_len, hlen] at this
        exact this
      have hk : j / 4 < l0 := by omega
      have hj2 := (hF (j / 4) hk).1 (j % 4) (by omega)
      have e : j / 4 * 4 + j % 4 = j := by omega
      rw [e] at hj2
      have hq := fcs_at ((List.range l0).map F) (j / 4) (by rw [hlen]; exact hk) (j % 4) (by omega)
      rw [e, hj] at hq
      rw [← Addr.add_mid, ← ha, hj2, hq]
      simp
    · have hw3 := hz ((((List.range l0).map D).length + ((List.range (m - l0)).map fun j => D (l0 + j)).length) * Tryz.prog.bytesOf 114) (by simp only [DataW.weights, ht]; exact List.mem_cons_self)
      have e : reachBytes = 140737488351232 := by decide
      rw [e, wireBytes] at hw3
      simp at hw3 ⊢
      omega
    · intro f hf
      obtain ⟨i, hi2, rfl⟩ := List.mem_map.1 hf
      exact (hF i (List.mem_range.1 hi2)).2
end
end Go.Proofs.YtiniicehfjgpgaaGreat
/- Layer 3: slices of int64 and of texts, element by element; the fields of a number behind a place. -/
namespace Go.Proofs.YtiniicehfjgpgaaGreat
open Go.RowKit M1 M2 M3

def p_tv (l : List ByteArray) : List Value := l.map Value.string
theorem tv_len (l : List ByteArray) : (p_tv l).length = l.length := by simp [p_tv]
theorem tv_append (a b : List ByteArray) : p_tv (a ++ b) = p_tv a ++ p_tv b := by simp [p_tv]
theorem tv_oneCell {l : List ByteArray} : ∀ u ∈ p_tv l, u.oneCell' = true := by
  intro u hu; simp only [p_tv, List.mem_map] at hu; obtain ⟨b, _, rfl⟩ := hu; rfl
theorem txt_at {w : World} {B : Nat} {A : Option Addr} {l : List ByteArray} (h : SR w B 1 A l.length (p_tv l)) {k : Nat} (hk : k < l.length) :
    ∃ b o, A = some ⟨b, o, none⟩ ∧ b < B ∧ w.cell? ⟨b, o + k, none⟩ = some (.string l[k]) := cell_at h hk (by simp [p_tv, hk])
theorem infoString : (Tryz.prog.info? 9).map (fun i => (i.zero, i.size, i.bytes)) = some (some (.string ⟨#[]⟩), 1, 16) := by kernel_rfl

theorem drop_yes {l : List WFd} {k : Nat} (h : k < l.length) {num : Int} (hn : l[k].num = num) : ofNum (l.drop k) num = l[k] :: ofNum (l.drop (k + 1)) num := by
  unfold ofNum; rw [List.drop_eq_getElem_cons h, List.filter_cons, if_pos (by simpa using hn)]
theorem drop_no {l : List WFd} {k : Nat} (h : k < l.length) {num : Int} (hn : l[k].num ≠ num) : ofNum (l.drop k) num = ofNum (l.drop (k + 1)) num := by
  unfold ofNum; rw [List.drop_eq_getElem_cons h, List.filter_cons, if_neg (by simpa using hn)]
theorem drop_end (l : List WFd) (num : Int) : ofNum (l.drop l.length) num = [] := by simp [ofNum]
def TxtRes (B : Nat) (r : List ByteArray × Nat) (w : World) (e : Ending) (w' : World) : Prop :=
  ∃ v, e = .returned (.tuple #[v, .int .i64 (r.2 : Int)]) ∧ w'.ownsRow B 9 1 v r.1.length (p_tv r.1) ∧ Below B w w'
end Go.Proofs.YtiniicehfjgpgaaGreat
/- The walks of layer 3: the texts in fields, the code's and the reference's, by contract. -/
namespace Go.Proofs.YtiniicehfjgpgaaGreat
open Go.RowKit M1 M2 M3

set_option maxRecDepth 100000 in
theorem texts_any (A : Option Addr) (c : Nat) (l : List WFd) (num : Int) (w : World) (hl : l.length ≤ 3000000) (ha : SR w w.heap.size 4 A l.length (fcs l)) :
    Calls Tryz.prog 56 #[.slice A l.length c, .int .i64 num] w (TxtRes w.heap.size (txts (ofNum l num) []) w) := by
  have hFl := ofNum_le l num
  have HA := Lib.hid (fun W h => w_all_any A c l num W hl h)
  obtain ⟨i0, hi0, hz0, hz1, hz2⟩ := info_parts infoString
  go_enter Tryz.func56, Tryz.ntmps56
  go_wp2_with fail
  refine (HA.out _ ha).mono ?_
  rintro e w1 ⟨v1, rfl, hown1, hb1⟩
  obtain ⟨A1, c1, rfl, -, -⟩ := own_form hown1
  have hs1 := SR.of_own hown1
  have HB1 := Lib.hid hb1
  clear hown1 hb1 ha HA
  generalize hFF : ofNum l num = F at *
  clear hFF
  go_wp2_with fail
  go_loopw [6, 13] (fun v i wr => ∃ (k : Nat) (K : Int) (r : List ByteArray), i = .int .i64 K ∧ K = (k : Nat) ∧ k ≤ F.length ∧ wr.ownsRow w1.heap.size 9 1 v r.length (p_tv r) ∧ Below w1.heap.size w1 wr ∧ txts F [] = txts (F.drop k) r ∧ r.length ≤ k) (fun _ i _ => F.length - (intOf i).toNat)
  case atStart => exact ⟨0, _, [], rfl, rfl, by omega, World.ownsRow_nil _ _ _ _, Below.refl _ _, rfl, by simp⟩
  case round =>
    obtain ⟨k, K, r, rfl, rfl, hk, hown, hb, hr, hrl⟩ := hrel
    have HR := Lib.hid hr; clear hr
    obtain ⟨V, vc, rfl, -, -⟩ := own_form hown
    by_cases hlt : k < F.length
    · obtain ⟨b1, o1, rfl, hlt1, x0, x1, x2, x3⟩ := field_at (hs1.below hb) hlt
      have hz := hb.size
      have hd := List.drop_eq_getElem_cons hlt
      generalize F[k] = f at *
      obtain ⟨fnum, ftyp, fn, fdata⟩ := f
      simp only at x0 x1 x2 x3
      have hown' := (hown.alloc (.cells #[.int .i64 fnum, .int .i64 ftyp, .int .u64 (fn : Int), .string fdata] 114)).alloc (.cells #[.string fdata] 9)
      have HBa := Lib.hid (hb.alloc hz (.cells #[.int .i64 fnum, .int .i64 ftyp, .int .u64 (fn : Int), .string fdata] 114))
      have HD := Lib.hid hd
      clear hd hown hb hs1
      by_cases h2 : ftyp = 2
      · have h2' : (ftyp != 2) = false := by simpa using h2
        subst h2
        have HE : Hid (txts F [] = txts (F.drop (k + 1)) (r ++ [fdata])) := Lib.hid (by rw [HR.out, HD.out, txts]; simp)
        go_wp2_with (at_builtin; refine wpList_append_own _ rfl _ _ 23 rfl w1.heap.size 9 i0 _ 1 16 Tryz.underlying23 hi0 hz0 hz1 hz2 rfl (by decide) _ _ _ rfl hown' ⟨wr.heap.size + 1, 0, none⟩ 1 1 [.string fdata] rfl rfl (cells_new2 _ _ _ _) ?c2 ?c3 ?c4 ?c5 ?_)
        case c2 => intro u hu; simp at hu; subst hu; rfl
        case c3 => unfold maxLen; omega
        case c4 => omega
        case c5 => simp; omega
        intro v' w2 hown2 hgrow _
        have e1 : p_tv r ++ [.string fdata] = p_tv (r ++ [fdata]) := by rw [tv_append]; rfl
        have e2 : r.length + 1 = (r ++ [fdata]).length := by simp
        rw [e1, e2] at hown2
        have hb2 := (HBa.out.alloc (by simp; omega) (.cells #[.string fdata] 9)).grown hgrow (by simp; omega) (fun q hq => (hown'.lt q hq).1)
        have HO2 := Lib.hid (And.intro hown2 hb2)
        clear hown2 hgrow hown' e1 e2 hb2
        go_wp2_with fail
        go_roundw
        case rel => exact ⟨k + 1, _, r ++ [fdata], rfl, by omega, by omega, HO2.out.1, HO2.out.2, HE.out, by simp; omega⟩
        case measure => simp [intOf]; omega
      · have h2' : (ftyp != 2) = true := by simpa using h2
        have HE : Hid (txts F [] = ([], 3)) := Lib.hid (by rw [HR.out, HD.out, txts]; simp [h2])
        clear hown' h2
        go_wp2_with fail
        go_ret2
        rw [HE.out]
        exact ⟨_, rfl, World.ownsRow_nil _ _ _ _, HB1.out.trans (HBa.out.mono HB1.out.size)⟩
    · obtain rfl : k = F.length := by omega
      have HE : Hid (txts F [] = (r, 0)) := Lib.hid (by rw [HR.out, List.drop_length]; rfl)
      have HO := Lib.hid (And.intro hown hb)
      clear hown hb
      go_wp2
      go_ret2
      rw [HE.out]
      exact ⟨_, rfl, own_base HO.out.1 HB1.out.size, HB1.out.trans (HO.out.2.mono HB1.out.size)⟩

set_option maxRecDepth 100000 in
theorem rtexts_any (A : Option Addr) (c : Nat) (l : List WFd) (num : Int) (w : World) (hl : l.length ≤ 3000000) (ha : SR w w.heap.size 4 A l.length (fcs l)) :
    Calls Tryz.prog 30 #[.slice A l.length c, .int .i64 num] w (TxtRes w.heap.size (txts (ofNum l num) []) w) := by
  obtain ⟨i0, hi0, hz0, hz1, hz2⟩ := info_parts infoString
  go_enter Tryz.func30, Tryz.ntmps30
  go_wp2_with fail
  go_loopw [6, 7] (fun v i wr => ∃ (k : Nat) (K : Int) (r : List ByteArray), i = .int .i64 K ∧ K = (k : Nat) ∧ k ≤ l.length ∧ wr.ownsRow w.heap.size 9 1 v r.length (p_tv r) ∧ Below w.heap.size w wr ∧ txts (ofNum l num) [] = txts (ofNum (l.drop k) num) r ∧ r.length ≤ k) (fun _ i _ => l.length - (intOf i).toNat)
  case atStart => exact ⟨0, _, [], rfl, rfl, by omega, World.ownsRow_nil _ _ _ _, Below.refl _ _, rfl, by simp⟩
  case round =>
    obtain ⟨k, K, r, rfl, rfl, hk, hown, hb, hr, hrl⟩ := hrel
    have HR := Lib.hid hr; clear hr
    obtain ⟨V, vc, rfl, -, -⟩ := own_form hown
    by_cases hlt : k < l.length
    · obtain ⟨b1, o1, rfl, hlt1, x0, x1, x2, x3⟩ := field_at (ha.below hb) hlt
      have hz := hb.size
      have hd1 := fun h => drop_yes (num := num) hlt h
      have hd2 := fun h => drop_no (num := num) hlt h
      generalize l[k] = f at *
      obtain ⟨fnum, ftyp, fn, fdata⟩ := f
      simp only at x0 x1 x2 x3 hd1 hd2
      have HD1 := Lib.hid hd1
      have HD2 := Lib.hid hd2
      have hown' := hown.alloc (.cells #[.string fdata] 9)
      have HB := Lib.hid hb
      have HO := Lib.hid hown
      clear hd1 hd2 hown hb ha
      by_cases hnum : fnum = num
      · have hq : (fnum == num) = true := by simpa using hnum
        subst hnum
        have HD := Lib.hid (HD1.out rfl)
        by_cases h2 : ftyp = 2
        · have h2' : (ftyp != 2) = false := by simpa using h2
          subst h2
          have HE : Hid (txts (ofNum l fnum) [] = txts (ofNum (l.drop (k + 1)) fnum) (r ++ [fdata])) := Lib.hid (by rw [HR.out, HD.out, txts]; simp)
          go_wp2_with (at_builtin; refine wpList_append_own _ rfl _ _ 23 rfl w.heap.size 9 i0 _ 1 16 Tryz.underlying23 hi0 hz0 hz1 hz2 rfl (by decide) _ _ _ rfl hown' ⟨wr.heap.size, 0, none⟩ 1 1 [.string fdata] rfl rfl (cell_one_new _ _ _) ?c2 ?c3 ?c4 ?c5 ?_)
          case c2 => first | rfl | (intro u hu; simp at hu; subst hu; rfl)
          case c3 => unfold maxLen; omega
          case c4 => omega
          case c5 => first | omega | (simp; omega)
          intro v' w2 hown2 hgrow _
          have e1 : p_tv r ++ [.string fdata] = p_tv (r ++ [fdata]) := by rw [tv_append]; rfl
          have e2 : r.length + 1 = (r ++ [fdata]).length := by simp
          rw [e1, e2] at hown2
          have hb2 := (HB.out.alloc hz (.cells #[.string fdata] 9)).grown hgrow (by simp; omega) (fun q hq => (hown'.lt q hq).1)
          have HO2 := Lib.hid (And.intro hown2 hb2)
          clear hown2 hgrow hown' e1 e2 hb2
          go_wp2_with fail
          go_roundw
          case rel => exact ⟨k + 1, _, r ++ [fdata], rfl, by omega, by omega, HO2.out.1, HO2.out.2, HE.out, by simp; omega⟩
          case measure => simp [intOf]; omega
        · have h2' : (ftyp != 2) = true := by simpa using h2
          have HE : Hid (txts (ofNum l fnum) [] = ([], 3)) := Lib.hid (by rw [HR.out, HD.out, txts]; simp [h2])
          clear hown' h2
          go_wp2_with fail
          go_ret2
          rw [HE.out]
          exact ⟨_, rfl, World.ownsRow_nil _ _ _ _, HB.out⟩
      · have hq : (fnum == num) = false := by simpa using hnum
        have HE : Hid (txts (ofNum l num) [] = txts (ofNum (l.drop (k + 1)) num) r) := Lib.hid (by rw [HR.out, HD2.out hnum])
        clear hnum hown'
        go_wp2_with fail
        go_roundw
        case rel => exact ⟨k + 1, _, r, rfl, by omega, by omega, HO.out, HB.out, HE.out, by omega⟩
        case measure => simp [intOf]; omega
    · obtain rfl : k = l.length := by omega
      have HE : Hid (txts (ofNum l num) [] = (r, 0)) := Lib.hid (by rw [HR.out, drop_end]; rfl)
      have HO := Lib.hid (And.intro hown hb)
      clear hown hb
      go_wp2
      go_ret2
      rw [HE.out]
      exact ⟨_, rfl, HO.out.1, HO.out.2⟩
end Go.Proofs.YtiniicehfjgpgaaGreat
