import Derived.Test.YtjjfdlgoacockaaGreatOOpen
import Derived.Test.YtjjfdlgoacockaaGreatBAwake
import Derived.Test.YtjjfdlgoacockaaGreatBRead
import Derived.Test.YtjjfdlgoacockaaGreatTCheck
import Derived.Deep.SlicePairs
import Derived.ChangeSame
import Derived.SizedLaws
import Derived.OpenShut
import Derived.Test.YtjjfdlgoacockaaGreatTAwake
import Derived.Test.YtjjfdlgoacockaaGreatBFile
import Derived.Test.YtjjfdlgoacockaaGreatMNew
import Derived.Deep.CutRange
import Derived.Lib.QuietBelow
import Derived.BigQuiet
import Derived.Test.YtjjfdlgoacockaaGreatHRows
import Derived.Test.YtjjfdlgoacockaaGreatMOf
import Derived.Test.YtjjfdlgoacockaaGreatNAttr
import Derived.Test.YtjjfdlgoacockaaGreatHPutT
import Derived.Test.YtjjfdlgoacockaaGreatNSame
namespace Go.Proofs.YtjjfdlgoacockaaGreat
open Go.RowKit M2 M8 M9 Go.Sort
open M7 (Ten ck)

structure TenOk (t : Ten) : Prop where
  name : t.name.size ≤ 1048576
  data : t.data.size ≤ 1048576
  kind0 : 0 ≤ t.kind
  kind1 : t.kind ≤ 14
  dl : t.dims.length ≤ 8
  di : ∀ n ∈ t.dims, I64 n
theorem z9_ok : TenOk z9 := ⟨et_le _, et_le _, by decide, by decide, by decide, by simp [z9]⟩
theorem rd9_is (b : ByteArray) (fs : List Fl) : TenOk (rd9 b fs).1 := by
  unfold rd9
  split
  · exact z9_ok
  · have h := msg_ok b
    have he := elems_size h fs
    unfold fin
    split
    · exact z9_ok
    · split
      · exact z9_ok
      · rename_i h2
        have h3 := M7.ck_zero (Decidable.of_not_not h2)
        exact ⟨h.name, he, h.kind0, h.kind1, (M5.sz_shp h3.2.2.1).len, h.di⟩
end Go.Proofs.YtjjfdlgoacockaaGreat
namespace Go.Proofs.YtjjfdlgoacockaaGreat
open Go.RowKit M6 M7 Go.ChangeShapes Go.WideShapes Go.Deep

section
variable {H : Type} {enc : TypeId × Value → H} {w : World} {base : Nat} {spare : Nat → Bool} {held : Bool}
end
end Go.Proofs.YtjjfdlgoacockaaGreat
namespace Go.Proofs.YtjjfdlgoacockaaGreat
open Go.RowKit M6 M7 Go.Sort

theorem own_one_set {w : World} {B size n b i : Nat} {e : TypeId} {v : Value} {xs : List Value} (h : w.ownsRow B e size v n xs) (hb : b < B) (u : Value) : (w.setCell ⟨b, i, none⟩ u).ownsRow B e size v n xs :=
  h.kept (row := some b) ⟨rfl, rfl, rfl, by simp [World.setCell], fun k _ hk => Below.heap_setCell _ _ _ _ (fun e => hk (by simp [e]))⟩ (Or.inr (fun he => by have := (h.lt b he).1; omega))
theorem own_four_set {w : World} {B size n b : Nat} {e : TypeId} {v : Value} {xs : List Value} (h : w.ownsRow B e size v n xs) (hb : b < B) (v0 v1 v2 v3 : Value) : ((((w.setCell ⟨b, 0, none⟩ v0).setCell ⟨b, 1, none⟩ v1).setCell ⟨b, 2, none⟩ v2).setCell ⟨b, 3, none⟩ v3).ownsRow B e size v n xs :=
  own_one_set (own_one_set (own_one_set (own_one_set h hb v0) hb v1) hb v2) hb v3
def enc (p : Int × Int) : Nat × Nat := (fz p.1, fz p.2)
end Go.Proofs.YtjjfdlgoacockaaGreat
namespace Go.Proofs.YtjjfdlgoacockaaGreat
open Go.RowKit M1 M2 M3 M8 M9 M10 M11 M12 Go.Sort
open M7 (nm Ten ck)

theorem TenOk.tOk {t : Ten} (h : TenOk t) : TOk t :=
  ⟨by have := h.name; omega, by have := h.data; omega, WalkArith.wf_i64 (by have := h.kind0; have := h.kind1; omega), by have := h.dl; omega, h.di⟩
theorem tOk12 (b : ByteArray) (fs : List Fl) : TOk (rd9 b fs).1 := (rd9_is b fs).tOk

set_option maxRecDepth 100000 in
set_option maxHeartbeats 1000000 in
theorem rg1_any (g B0 : Nat) (fs : List Fl) (mb : Option Nat) (b : ByteArray) (w : World) (hbs : b.size ≤ maxLen) (hfd : ∀ f ∈ fs, f.data.size ≤ maxLen) (hg : w.heap[g]? = some (.cells #[.map mb] 25 (0, 0))) (hst : o_St B0 fs mb w) :
    Calls Tryz.prog 71 #[.string b, .pointer (some ⟨g, 0, none⟩)] w (ReadRes OTen (rd9 b fs) w) := by
  have HX0 := Lib.hid (Bx.start w #[.string ⟨#[]⟩, .int .i64 0, .slice none 0 0, .string ⟨#[]⟩] 98)
  have HR := Lib.hid (b_read_any b B0 fs mb (w.alloc (.cells #[.string ⟨#[]⟩, .int .i64 0, .slice none 0 0, .string ⟨#[]⟩] 98)) hbs hfd (hst.below HX0.out.all))
  have HOK := Lib.hid (tOk12 b fs)
  have c0 := cell_of_row _ _ 0 _ _ _ (blk_alloc hg (.cells #[.string ⟨#[]⟩, .int .i64 0, .slice none 0 0, .string ⟨#[]⟩] 98))
  clear hg hst
  generalize rd9 b fs = R at *
  obtain ⟨t, C⟩ := R
  dsimp only at HR HOK
  go_enter Tryz.func71, Tryz.ntmps71
  go_wp2_with fail
  refine HR.out.mono ?_
  rintro e w1 ⟨v, rfl, hown, hb⟩
  dsimp only at hown
  obtain ⟨A1, c1, rfl, -, -⟩ := own_form hown
  have HX1 := Lib.hid (HX0.out.below hb)
  have HO := Lib.hid hown
  have hlt : w.heap.size < (w.alloc (.cells #[.string ⟨#[]⟩, .int .i64 0, .slice none 0 0, .string ⟨#[]⟩] 98)).heap.size := by simp
  clear hb hown HR HX0
  obtain ⟨z0, z1, z2, z3⟩ := HX1.out.four
  have zf := fun i => HX1.out.free i
  obtain ⟨wE, hE, hxE⟩ := n_name (P := fun W => Bx w w.heap.size #[.string t.name, .int .i64 t.kind, .slice A1 t.dims.length c1, .string t.data] 98 W ∧ W.ownsRow w.heap.size 2 1 (.slice A1 t.dims.length c1) t.dims.length (iv t.dims))
    ⟨HX1.out.four_put (Nat.le_refl _) (.string t.name) (.int .i64 t.kind) (.slice A1 t.dims.length c1) (.string t.data), own_base (own_four_set HO.out hlt _ _ _ _) (Nat.le_of_lt hlt)⟩
  have HXE := Lib.hid hxE
  clear hxE hlt
  simp only [t_tv]
  go_wp2_with fail
  obtain ⟨e0, e1, e2, e3⟩ := HXE.out.1.four
  exact bodyPost_ret (v := .tuple #[.agg #[.string t.name, .int .i64 t.kind, .slice A1 t.dims.length c1, .string t.data], .int .i64 C]) (by simp [results, Tryz.results71, go_sem, e0, e1, e2, e3]) rfl ⟨_, rfl, ⟨_, rfl, HXE.out.2, HOK.out⟩, HXE.out.1.all⟩
end Go.Proofs.YtjjfdlgoacockaaGreat
namespace Go.Proofs.YtjjfdlgoacockaaGreat
open Go.RowKit M1 M2 M3 M8 M9 M10 M11 M12 Go.Sort
open M7 (nm Ten ck)


set_option maxRecDepth 100000 in
set_option maxHeartbeats 4000000 in
theorem each_ten12 (g B0 : Nat) (fs : List Fl) (mb : Option Nat) (A : Option Addr) (c : Nat) (L : List ByteArray) (w : World) (hl : L.length ≤ 1048576) (hsz : ∀ b ∈ L, b.size ≤ 1048576) (hfd : ∀ f ∈ fs, f.data.size ≤ maxLen) (hg : w.heap[g]? = some (.cells #[.map mb] 25 (0, 0))) (hst : o_St B0 fs mb w) (ha : SR w w.heap.size 1 A L.length (p_tv L)) :
    Calls Tryz.prog 73 #[.slice A L.length c, .func (.func 71) #[] #[.pointer (some ⟨g, 0, none⟩)]] w (EachRes OTen 98 4 (eachM (fun b => rd9 b fs) L []) w) := by
  obtain ⟨i0, hi0, hz0, hz1, hz2⟩ := info_parts infoTen10
  have HA := Lib.hid ha
  have HSZ := Lib.hid hsz
  have HRD : Hid (∀ b W, b.size ≤ 1048576 → Below w.heap.size w W → Calls Tryz.prog 71 #[.string b, .pointer (some ⟨g, 0, none⟩)] W (ReadRes OTen (rd9 b fs) W)) := Lib.hid (fun b W h hW => rg1_any g B0 fs mb b W (by unfold maxLen; omega) hfd ((hW.block g (blk_lt hg)).trans hg) (hst.below hW))
  clear ha hsz hg hst
  go_enter Tryz.func73, Tryz.ntmps73
  go_wp2_with fail
  go_loopw [6, 13] (fun V i wr => ∃ (k : Nat) (K : Int) (acc : List Ten), i = .int .i64 K ∧ K = (k : Nat) ∧ k ≤ L.length ∧ acc.length = k ∧ eachM (fun b => rd9 b fs) L [] = eachM (fun b => rd9 b fs) (L.drop k) acc ∧ DW OTen wr w.heap.size 98 4 V acc ∧ Below w.heap.size w wr) (fun _ i _ => L.length - (intOf i).toNat)
  case atStart => exact ⟨0, _, [], rfl, rfl, by omega, rfl, rfl, dwn _ _ _ _ _, Below.refl _ _⟩
  case round =>
    obtain ⟨k, K, acc, rfl, rfl, hk, hacc, hat, hdw, hb⟩ := hrel
    have HD := Lib.hid hdw
    have HB := Lib.hid hb
    have HAC := Lib.hid hacc
    obtain ⟨VA, VC, rfl⟩ := hdw.form
    by_cases hlt : k < L.length
    · obtain ⟨bb, oo, rfl, -, hx⟩ := n_txt_at (HA.out.below hb) hlt
      have hsk := HSZ.out L[k] (List.getElem_mem hlt)
      have HE1 := Lib.hid (eachM_err (f := (fun b => rd9 b fs)) hlt hat)
      have HE2 := Lib.hid (eachM_step (f := (fun b => rd9 b fs)) hlt hat)
      have HR := Lib.hid (fun W => HRD.out L[k] W hsk)
      clear hdw hat hacc hb
      generalize L[k] = X at *
      generalize rd9 X fs = F at HE1 HE2 HR
      obtain ⟨a, C⟩ := F
      dsimp only at HE1 HE2 HR
      go_wp2_with fail
      refine (HR.out _ HB.out).mono ?_
      rintro e w1 ⟨cs, rfl, hq1, hb1⟩
      dsimp only at hq1
      obtain ⟨A5, c5, rfl⟩ := OTen.shape hq1
      have hb2 := (Below.refl w1.heap.size w1).alloc (Nat.le_refl _) (.cells #[.string a.name, .int .i64 a.kind, .slice A5 a.dims.length c5, .string a.data] 98)
      have hbB := step_below hb1 hb2
      have HB1 := Lib.hid (HB.out.trans (hbB.mono HB.out.size))
      have HX1 := Lib.hid (Bx.start w1 #[.string a.name, .int .i64 a.kind, .slice A5 a.dims.length c5, .string a.data] 98)
      obtain ⟨css, ho, hpush⟩ := (HD.out.kept eg_ten hbB).push eg_ten (eg_ten.base (eg_ten.keep hq1 hb2) HB.out.size)
      have HOW := Lib.hid ho
      have HPU := Lib.hid hpush
      clear hb1 hq1 hb2 hbB HR HD HB ho hpush
      by_cases hC : C ≠ 0
      · have hcb : (C != 0) = true := by simpa using hC
        have HE := Lib.hid (HE1.out hC)
        clear hC
        go_wp2_with fail
        go_ret2
        exact eachRes_no HE.out HB1.out
      · obtain rfl : C = 0 := by omega
        have HS := Lib.hid (HE2.out rfl)
        obtain ⟨x0, x1, x2, x3⟩ := HX1.out.four
        clear hC HE1 HE2
        go_wp2_with (at_builtin; refine wpList_append_own _ rfl _ _ 31 rfl w.heap.size 98 i0 _ 4 64 Tryz.underlying31 hi0 hz0 hz1 hz2 rfl (by decide) _ _ _ rfl (HOW.out.alloc _) ⟨w1.heap.size + 1, 0, none⟩ 1 1 [.string a.name, .int .i64 a.kind, .slice A5 a.dims.length c5, .string a.data] rfl rfl (cells_new2 _ _ _ _) ?c2 ?c3 ?c4 ?c5 ?_)
        case c2 => intro u hu; simp at hu; rcases hu with rfl | rfl | rfl | rfl <;> rfl
        case c3 => have := HAC.out; unfold maxLen; omega
        case c4 => have := HAC.out; omega
        case c5 => have := HB1.out.size; simp at this ⊢; omega
        intro v' w5 hown' hgrow _
        have HB5 := Lib.hid ((HB1.out.alloc HB1.out.size (.cells #[.string a.name, .int .i64 a.kind, .slice A5 a.dims.length c5, .string a.data] 98)).grown hgrow (by have := HB1.out.size; simp at this ⊢; omega) (fun q hq => (HOW.out.lt q hq).1))
        have HD5 := Lib.hid (HPU.out _ _ _ hown' hgrow)
        clear hown' hgrow x0 x1 x2 x3
        go_wp2_with fail
        go_roundw
        case rel => exact ⟨k + 1, _, acc ++ [a], rfl, by omega, by omega, by rw [List.length_append, HAC.out]; rfl, HS.out, HD5.out, HB5.out⟩
        case measure => simp [intOf]; omega
    · obtain rfl : k = L.length := by omega
      have HE := Lib.hid (eachM_end (f := (fun b => rd9 b fs)) hat)
      clear hdw hb hat
      go_wp2_with fail
      go_ret2
      exact eachRes_yes HE.out HD.out HB.out
end Go.Proofs.YtjjfdlgoacockaaGreat
namespace Go.Proofs.YtjjfdlgoacockaaGreat
open Go.RowKit M1 M2 M3 M8 M9 M10 M11 M12 Go.Sort
open M7 (nm Ten ck)

namespace M12
def graphB (b : ByteArray) (fs : List Fl) : Mod × Int := if (fields b).2 ≠ 0 then (zM12, ((fields b).2 : Int)) else graphL 0 (fields b).1 fs
theorem graphB_no {b : ByteArray} {fs : List Fl} {LL : List (List ByteArray)} {C : Int} (h : textsM b [1, 5, 11, 12] = (LL, C)) (hC : C ≠ 0) : graphB b fs = (zM12, C) := by
  unfold textsM at h
  unfold graphB
  by_cases hf : (fields b).2 ≠ 0
  · rw [if_pos hf] at h ⊢; injection h with _ h2; rw [h2]
  · rw [if_neg hf] at h ⊢
    rw [textsG_four] at h
    split at h
    · rename_i hw
      injection h with _ h2
      rw [graphL_wire hw, h2]
    · injection h with _ h2; exact absurd h2.symm hC
theorem graphB_yes {b : ByteArray} {fs : List Fl} {LL : List (List ByteArray)} (h : textsM b [1, 5, 11, 12] = (LL, 0)) :
    ∃ l, LL = [txL l 1, txL l 5, txL l 11, txL l 12] ∧ ¬ graWire l ∧ graphB b fs = graphL 0 l fs ∧ l.length ≤ 1048576 ∧ ∀ f ∈ l, f.data.size ≤ 1048576 := by
  unfold textsM at h
  unfold graphB
  by_cases hf : (fields b).2 ≠ 0
  · rw [if_pos hf] at h; injection h with _ h2; omega
  · rw [if_neg hf] at h ⊢
    rw [textsG_four] at h
    split at h
    · injection h with _ h2; omega
    · rename_i hw
      injection h with h1 _
      exact ⟨(fields b).1, h1.symm, hw, rfl, fields_len b, fun f hf => (fields_ok f hf).2⟩
theorem txL_len {l : List WFd} (h : l.length ≤ 1048576) (k : Int) : (txL l k).length ≤ 1048576 := by
  have h1 := txts_le (ofNum l k) []
  have h2 : (ofNum l k).length ≤ l.length := List.length_filter_le _ _
  simp only [List.length_nil, Nat.zero_add] at h1
  unfold txL
  omega
theorem txL_mem {l : List WFd} (h : ∀ f ∈ l, f.data.size ≤ 1048576) (k : Int) : ∀ b ∈ txL l k, b.size ≤ 1048576 :=
  txts_mem (ofNum l k) [] (fun f hf => h f (List.mem_filter.1 hf).1) (by simp)
theorem many_is (l : List WFd) : tooMany l = (decide ((1024 : Int) < max ((txL l 1).length : Int) ((txL l 5).length : Int)) || decide ((64 : Int) < max ((txL l 11).length : Int) ((txL l 12).length : Int))) := by
  unfold tooMany
  rw [Bool.eq_iff_iff]
  simp only [Bool.or_eq_true, decide_eq_true_eq]
  omega
theorem graphL_ver {v : Nat} {l : List WFd} {fs : List Fl} : graphL v l fs = if (graphL 0 l fs).2 ≠ 0 then (zM12, (graphL 0 l fs).2) else (⟨(v : Int), (graphL 0 l fs).1.inputs, (graphL 0 l fs).1.outputs, (graphL 0 l fs).1.inits, (graphL 0 l fs).1.nodes⟩, 0) := by
  unfold graphL
  split
  · simp
  split
  · simp
  split
  · first | (simp only; done) | simp_all
  split
  · first | (simp only; done) | simp_all
  split
  · first | (simp only; done) | simp_all
  split
  · first | (simp only; done) | simp_all
  · simp
end M12
structure MRows (W : World) (B : Nat) (l1 l2 : List Inf) (l3 : List Ten) (l4 : List Nod) (v1 v2 v3 v4 : Value) : Prop where
  r1 : DW OInf W B 106 3 v1 l1
  r2 : DW OInf W B 106 3 v2 l2
  r3 : DW OTen W B 98 4 v3 l3
  r4 : DW ONod W B 102 4 v4 l4
section
variable {W W' : World} {B : Nat} {l1 l2 : List Inf} {l3 : List Ten} {l4 : List Nod} {v1 v2 v3 v4 : Value}
theorem MRows.nil (W : World) (B : Nat) : MRows W B [] [] [] [] (.slice none 0 0) (.slice none 0 0) (.slice none 0 0) (.slice none 0 0) := ⟨dwn _ _ _ _ _, dwn _ _ _ _ _, dwn _ _ _ _ _, dwn _ _ _ _ _⟩
theorem MRows.keep (h : MRows W B l1 l2 l3 l4 v1 v2 v3 v4) (hb : Below W.heap.size W W') : MRows W' B l1 l2 l3 l4 v1 v2 v3 v4 := ⟨h.r1.keep eo_inf hb, h.r2.keep eo_inf hb, h.r3.keep eo_ten hb, h.r4.keep eo_nod hb⟩
theorem MRows.base {B' : Nat} (h : MRows W B l1 l2 l3 l4 v1 v2 v3 v4) (hB : B' ≤ B) : MRows W B' l1 l2 l3 l4 v1 v2 v3 v4 := ⟨h.r1.base eo_inf hB, h.r2.base eo_inf hB, h.r3.base eo_ten hB, h.r4.base eo_nod hB⟩
theorem MRows.set (h : MRows W B l1 l2 l3 l4 v1 v2 v3 v4) {g : Nat} {cur : Array Value} (hg : W.heap[g]? = some (.cells cur 34 (0, 0))) (i : Nat) (u : Value) : MRows (W.setCell ⟨g, i, none⟩ u) B l1 l2 l3 l4 v1 v2 v3 v4 :=
  ⟨h.r1.set eo_inf hg (by decide) (by decide), h.r2.set eo_inf hg (by decide) (by decide), h.r3.set eo_ten hg (by decide) (by decide), h.r4.set eo_nod hg (by decide) (by decide)⟩
theorem MRows.set5 (h : MRows W B l1 l2 l3 l4 v1 v2 v3 v4) {g : Nat} {cur : Array Value} (hg : W.heap[g]? = some (.cells cur 34 (0, 0))) (u0 u1 u2 u3 u4 : Value) :
    MRows (((((W.setCell ⟨g, 0, none⟩ u0).setCell ⟨g, 1, none⟩ u1).setCell ⟨g, 2, none⟩ u2).setCell ⟨g, 3, none⟩ u3).setCell ⟨g, 4, none⟩ u4) B l1 l2 l3 l4 v1 v2 v3 v4 := by
  have g1 := heap_setCell_same W g 0 _ 34 u0 hg
  have g2 := heap_setCell_same _ g 1 _ 34 u1 g1
  have g3 := heap_setCell_same _ g 2 _ 34 u2 g2
  have g4 := heap_setCell_same _ g 3 _ 34 u3 g3
  exact ((((h.set hg 0 u0).set g1 1 u1).set g2 2 u2).set g3 3 u3).set g4 4 u4
end
structure Tx4 (W : World) (B : Nat) (a b c d : List ByteArray) (va vb vc vd : Value) : Prop where
  a : W.ownsRow B 9 1 va a.length (p_tv a)
  b : W.ownsRow B 9 1 vb b.length (p_tv b)
  c : W.ownsRow B 9 1 vc c.length (p_tv c)
  d : W.ownsRow B 9 1 vd d.length (p_tv d)
section
variable {W W' : World} {B : Nat} {a b c d : List ByteArray} {va vb vc vd : Value}
theorem Tx4.keep (h : Tx4 W B a b c d va vb vc vd) (hb : Below W.heap.size W W') : Tx4 W' B a b c d va vb vc vd := ⟨own_keep h.a hb, own_keep h.b hb, own_keep h.c hb, own_keep h.d hb⟩
theorem Tx4.set (h : Tx4 W B a b c d va vb vc vd) {g : Nat} {cur : Array Value} (hg : W.heap[g]? = some (.cells cur 34 (0, 0))) (i : Nat) (u : Value) : Tx4 (W.setCell ⟨g, i, none⟩ u) B a b c d va vb vc vd :=
  ⟨own_set h.a (own_far h.a hg (by decide)) i u, own_set h.b (own_far h.b hg (by decide)) i u, own_set h.c (own_far h.c hg (by decide)) i u, own_set h.d (own_far h.d hg (by decide)) i u⟩
end
theorem dw_two {W : World} {B : Nat} {v : Value} {a b : List ByteArray} (h : DW OTx W B 64 1 v [a, b]) :
    ∃ g cap va vb, v = .slice (some ⟨g, 0, none⟩) 2 cap ∧ W.cell? ⟨g, 0, none⟩ = some va ∧ W.cell? ⟨g, 1, none⟩ = some vb ∧ W.ownsRow B 9 1 va a.length (p_tv a) ∧ W.ownsRow B 9 1 vb b.length (p_tv b) := by
  obtain ⟨css, hal, hcl, ho⟩ := h
  match css, hal with
  | [ca, cb], hal =>
    obtain ⟨⟨va, rfl, ha⟩, ⟨vb, rfl, hb⟩, -⟩ := hal
    obtain ⟨g, c1, cur, rfl, -, -⟩ := own_addr ho (by simp)
    exact ⟨g, c1, va, vb, rfl, ho.cellAt 0 (by simp), ho.cellAt 1 (by simp), ha, hb⟩
theorem dw_four {W : World} {B : Nat} {v : Value} {a b c d : List ByteArray} (h : DW OTx W B 64 1 v [a, b, c, d]) :
    ∃ g cap va vb vc vd, v = .slice (some ⟨g, 0, none⟩) 4 cap ∧ (W.cell? ⟨g, 0, none⟩ = some va ∧ W.cell? ⟨g, 1, none⟩ = some vb ∧ W.cell? ⟨g, 2, none⟩ = some vc ∧ W.cell? ⟨g, 3, none⟩ = some vd) ∧ Tx4 W B a b c d va vb vc vd := by
  obtain ⟨css, hal, hcl, ho⟩ := h
  match css, hal with
  | [ca, cb, cc, cd], hal =>
    obtain ⟨⟨va, rfl, ha⟩, ⟨vb, rfl, hb⟩, ⟨vc, rfl, hc⟩, ⟨vd, rfl, hd⟩, -⟩ := hal
    obtain ⟨g, c1, cur, rfl, -, -⟩ := own_addr ho (by simp)
    exact ⟨g, c1, va, vb, vc, vd, rfl, ⟨ho.cellAt 0 (by simp), ho.cellAt 1 (by simp), ho.cellAt 2 (by simp), ho.cellAt 3 (by simp)⟩, ha, hb, hc, hd⟩
def ModRes (r : Mod × Int) (w : World) (e : Ending) (w' : World) : Prop :=
  ∃ v1 v2 v3 v4, e = .returned (.tuple #[.agg #[.int .i64 r.1.opset, v1, v2, v3, v4], .int .i64 r.2]) ∧ MRows w' w.heap.size r.1.inputs r.1.outputs r.1.inits r.1.nodes v1 v2 v3 v4 ∧ Below w.heap.size w w'
theorem modRes_no {r : Mod × Int} {c : Int} {w w' : World} (h : r = (zM12, c)) (hb : Below w.heap.size w w') : ModRes r w (.returned (.tuple #[.agg #[.int .i64 0, .slice none 0 0, .slice none 0 0, .slice none 0 0, .slice none 0 0], .int .i64 c])) w' := by
  subst h; exact ⟨_, _, _, _, rfl, MRows.nil _ _, hb⟩
theorem modRes_yes {r : Mod × Int} {o : Int} {l1 l2 : List Inf} {l3 : List Ten} {l4 : List Nod} {v1 v2 v3 v4 : Value} {w w' : World} (h : r = (⟨o, l1, l2, l3, l4⟩, 0)) (hr : MRows w' w.heap.size l1 l2 l3 l4 v1 v2 v3 v4) (hb : Below w.heap.size w w') :
    ModRes r w (.returned (.tuple #[.agg #[.int .i64 o, v1, v2, v3, v4], .int .i64 0])) w' := by
  subst h; exact ⟨_, _, _, _, rfl, hr, hb⟩
structure G2 (w : World) (mb : Option Nat) (W : World) : Prop where
  a : Bx w w.heap.size #[.map mb] 25 W
  b : Bx w (w.heap.size + 1) #[.int .i64 0, .slice none 0 0, .slice none 0 0, .slice none 0 0, .slice none 0 0] 34 W
structure G3 (w : World) (mb : Option Nat) (gm : Nat) (mc : Array Value) (W : World) : Prop where
  two : G2 w mb W
  m : Bx w gm mc 34 W
  lt : w.heap.size + 1 < gm
section
variable {w W W' : World} {mb : Option Nat} {gm : Nat} {mc : Array Value}
theorem G2.below (h : G2 w mb W) (hb : Below W.heap.size W W') : G2 w mb W' := ⟨h.a.below hb, h.b.below hb⟩
theorem G2.drew (h : G2 w mb W) : G2 w mb W.drew := ⟨h.a.drew10, h.b.drew10⟩
theorem G3.below (h : G3 w mb gm mc W) (hb : Below W.heap.size W W') : G3 w mb gm mc W' := ⟨h.two.below hb, h.m.below hb, h.lt⟩
theorem G3.set (h : G3 w mb gm mc W) (i : Nat) (v : Value) : G3 w mb gm (mc.setIfInBounds i v) (W.setCell ⟨gm, i, none⟩ v) := by
  have := h.lt
  exact ⟨⟨h.two.a.far_set v (by omega) (by omega), h.two.b.far_set v (by omega) (by omega)⟩, h.m.set (by omega) i v, h.lt⟩
theorem G2.make (h : G2 w mb W) (mc : Array Value) : G3 w mb W.heap.size mc (W.alloc (.cells mc 34)) := ⟨⟨h.a.more _, h.b.more _⟩, h.a.next mc 34, h.b.2.1⟩
end
structure GP (w : World) (mb : Option Nat) (gm : Nat) (l1 l2 : List Inf) (l3 : List Ten) (l4 : List Nod) (v1 v2 v3 v4 : Value) (a b c d : List ByteArray) (va vb vc vd : Value) (W : World) : Prop where
  g : G3 w mb gm #[.int .i64 0, v1, v2, v3, v4] W
  r : MRows W w.heap.size l1 l2 l3 l4 v1 v2 v3 v4
  x : Tx4 W w.heap.size a b c d va vb vc vd
section
variable {w W W' : World} {mb : Option Nat} {gm : Nat} {l1 l2 : List Inf} {l3 : List Ten} {l4 : List Nod} {v1 v2 v3 v4 : Value} {a b c d : List ByteArray} {va vb vc vd : Value}
theorem GP.all (h : GP w mb gm l1 l2 l3 l4 v1 v2 v3 v4 a b c d va vb vc vd W) : Below w.heap.size w W := h.g.m.all
theorem GP.st4 {l : List Nod} {v : Value} (h : GP w mb gm l1 l2 l3 l4 v1 v2 v3 v4 a b c d va vb vc vd W) (hb : Below W.heap.size W W') (hd : DW ONod W' W.heap.size 102 4 v l) : GP w mb gm l1 l2 l3 l v1 v2 v3 v a b c d va vb vc vd (W'.setCell ⟨gm, 4, none⟩ v) := by
  have h1 := h.g.below hb
  have h2 := h.r.keep hb
  exact ⟨h1.set 4 v, MRows.set ⟨h2.r1, h2.r2, h2.r3, hd.base eo_nod h.all.size⟩ h1.m.1 4 v, (h.x.keep hb).set h1.m.1 4 v⟩
theorem GP.st3 {l : List Ten} {v : Value} (h : GP w mb gm l1 l2 l3 l4 v1 v2 v3 v4 a b c d va vb vc vd W) (hb : Below W.heap.size W W') (hd : DW OTen W' W.heap.size 98 4 v l) : GP w mb gm l1 l2 l l4 v1 v2 v v4 a b c d va vb vc vd (W'.setCell ⟨gm, 3, none⟩ v) := by
  have h1 := h.g.below hb
  have h2 := h.r.keep hb
  exact ⟨h1.set 3 v, MRows.set ⟨h2.r1, h2.r2, hd.base eo_ten h.all.size, h2.r4⟩ h1.m.1 3 v, (h.x.keep hb).set h1.m.1 3 v⟩
theorem GP.st1 {l : List Inf} {v : Value} (h : GP w mb gm l1 l2 l3 l4 v1 v2 v3 v4 a b c d va vb vc vd W) (hb : Below W.heap.size W W') (hd : DW OInf W' W.heap.size 106 3 v l) : GP w mb gm l l2 l3 l4 v v2 v3 v4 a b c d va vb vc vd (W'.setCell ⟨gm, 1, none⟩ v) := by
  have h1 := h.g.below hb
  have h2 := h.r.keep hb
  exact ⟨h1.set 1 v, MRows.set ⟨hd.base eo_inf h.all.size, h2.r2, h2.r3, h2.r4⟩ h1.m.1 1 v, (h.x.keep hb).set h1.m.1 1 v⟩
theorem GP.st2 {l : List Inf} {v : Value} (h : GP w mb gm l1 l2 l3 l4 v1 v2 v3 v4 a b c d va vb vc vd W) (hb : Below W.heap.size W W') (hd : DW OInf W' W.heap.size 106 3 v l) : GP w mb gm l1 l l3 l4 v1 v v3 v4 a b c d va vb vc vd (W'.setCell ⟨gm, 2, none⟩ v) := by
  have h1 := h.g.below hb
  have h2 := h.r.keep hb
  exact ⟨h1.set 2 v, MRows.set ⟨h2.r1, hd.base eo_inf h.all.size, h2.r3, h2.r4⟩ h1.m.1 2 v, (h.x.keep hb).set h1.m.1 2 v⟩
theorem G2.gp (h : G2 w mb W) (hx : Tx4 W w.heap.size a b c d va vb vc vd) : GP w mb W.heap.size [] [] [] [] (.slice none 0 0) (.slice none 0 0) (.slice none 0 0) (.slice none 0 0) a b c d va vb vc vd (W.alloc (.cells #[.int .i64 0, .slice none 0 0, .slice none 0 0, .slice none 0 0, .slice none 0 0] 34)) :=
  ⟨h.make _, MRows.nil _ _, hx.keep ((Below.refl _ _).alloc (Nat.le_refl _) _)⟩
end
end Go.Proofs.YtjjfdlgoacockaaGreat
namespace Go.Proofs.YtjjfdlgoacockaaGreat
open Go.RowKit M1 M2 M3 M8 M9 M10 M11 M12 Go.Sort
open M7 (nm Ten ck)

section
variable {α : Type} {Q : Nat → World → α → List Value → Prop} {far : TypeId → Prop} {w w' : World} {B B' size n : Nat} {T e : TypeId} {u v : Value} {l : List α} {ys : List Value} {s m : Nat}
end
section
variable {w W W' : World} {gm : Nat} {mc : Array Value}
end
section
variable {w W W' : World} {gm : Nat} {O : Int} {l1 : List Inf} {l3 : List Ten} {l4 : List Nod} {v1 v2 v3 v4 : Value} {a b c d : List ByteArray} {va vb vc vd : Value}
end
end Go.Proofs.YtjjfdlgoacockaaGreat
namespace Go.Proofs.YtjjfdlgoacockaaGreat
open Go.RowKit M1 M2 M3 M8 M9 M10 M11 M12 Go.Sort
open M7 (nm Ten ck)

def exM12 : Mod := ⟨13, [], [], [], []⟩
theorem exM12_put : putM exM12 = (⟨#[58, 0, 66, 2, 16, 13]⟩, 0) := by decide +kernel
theorem exM12_at (w : World) : ModAt w.heap.size w exM12 none none none none :=
  ⟨DR.empty _ _ _, DR.empty _ _ _, DR.empty _ _ _, DR.empty _ _ _, by unfold I64 exM12; decide, by simp [exM12], by simp [exM12], by simp [exM12], by simp [exM12]⟩
theorem exM12_sm : MSm exM12 := ⟨by decide +kernel, by simp [exM12], by simp [exM12], by simp [exM12], by simp [exM12]⟩

set_option maxRecDepth 100000 in
theorem hawake_any (w : World) : Calls Tryz.prog 6 #[] w fun e w' => e = .returned (.bool true) ∧ Below w.heap.size w w' := by
  have HP := Lib.hid (put12_any exM12 none none none none 0 0 0 0 w (exM12_at w) exM12_sm)
  rw [exM12_put] at HP
  unfold mv exM12 at HP
  dsimp only [List.length_nil] at HP
  go_enter Tryz.func6, Tryz.ntmps6
  go_wp2_with fail
  refine HP.out.mono ?_
  rintro e w1 ⟨rfl, hb1⟩
  have HB1 := Lib.hid hb1
  clear hb1 HP
  go_wp2_with fail
  refine (b_awake_any _).mono ?_
  rintro e w2 ⟨rfl, hb2⟩
  have HB2 := Lib.hid (HB1.out.trans (hb2.mono HB1.out.size))
  clear hb2 HB1
  go_wp2_with fail
  refine (nawake_any _).mono ?_
  rintro e w3 ⟨rfl, hb3⟩
  have HB3 := Lib.hid (HB2.out.trans (hb3.mono HB2.out.size))
  clear hb3 HB2
  go_wp2_with fail
  go_ret
  exact ⟨rfl, HB3.out⟩

structure ModIn (m : Mod) : Prop where
  ops0 : 0 ≤ m.opset
  ops1 : m.opset ≤ 2147483648
  len1 : m.inputs.length ≤ 1048576
  len2 : m.outputs.length ≤ 1048576
  len3 : m.inits.length ≤ 1048576
  len4 : m.nodes.length ≤ 1048576
theorem zM12_in : ModIn zM12 := ⟨by decide, by decide, by decide, by decide, by decide, by decide⟩
theorem eachM_len {α : Type} (f : ByteArray → α × Int) : ∀ (l : List ByteArray) (acc : List α), (eachM f l acc).1.length ≤ acc.length + l.length
  | [], acc => by simp [eachM]
  | b :: r, acc => by
    rw [eachM]
    split
    · simp
    · have h := eachM_len f r (acc ++ [(f b).1])
      simp only [List.length_append, List.length_cons, List.length_nil] at h ⊢
      omega
theorem graphL_in {v : Nat} {l : List WFd} {fs : List Fl} (hv : v ≤ 2147483648) (hl : l.length ≤ 1048576) : ModIn (graphL v l fs).1 := by
  have hk : ∀ {α : Type} (f : ByteArray → α × Int) (k : Int), (eachM f (txL l k) []).1.length ≤ 1048576 := fun f k => by
    have h1 := eachM_len f (txL l k) []
    have h2 := txL_len hl k
    simp only [List.length_nil, Nat.zero_add] at h1
    omega
  unfold graphL
  split
  · exact zM12_in
  split
  · exact zM12_in
  split
  · exact zM12_in
  split
  · exact zM12_in
  split
  · exact zM12_in
  split
  · exact zM12_in
  · exact ⟨by dsimp only; omega, by dsimp only; omega, hk _ _, hk _ _, hk _ _, hk _ _⟩
theorem opBad_val {o : List ByteArray} (h : ¬ opBad o = true) : opVal o 0 ≤ 2147483648 := by
  have h : opBad o = false := by simpa using h
  unfold opBad at h
  simp only [Bool.or_eq_false_iff, decide_eq_false_iff_not, Decidable.not_not] at h
  obtain ⟨h1, h2⟩ := h
  obtain ⟨b, rfl⟩ := List.length_eq_one_iff.1 h1
  simp only [List.any_cons, List.any_nil, Bool.or_false] at h2
  unfold opBad1 at h2
  simp only [Bool.or_eq_false_iff, decide_eq_false_iff_not] at h2
  rw [opVal_one]; omega
theorem modelM_in (b : ByteArray) (fs : List Fl) : ModIn (modelM b fs).1 := by
  unfold modelM
  split
  · exact zM12_in
  unfold modelL
  split
  · exact zM12_in
  split
  · exact zM12_in
  split
  · exact zM12_in
  split
  · exact zM12_in
  split
  · exact zM12_in
  · exact graphL_in (opBad_val (by assumption)) (fields_len _)
theorem MRows.at_ {W : World} {B : Nat} {m : Mod} {A1 A2 A3 A4 : Option Addr} {c1 c2 c3 c4 : Nat} (h : MRows W B m.inputs m.outputs m.inits m.nodes (.slice A1 m.inputs.length c1) (.slice A2 m.outputs.length c2) (.slice A3 m.inits.length c3) (.slice A4 m.nodes.length c4)) (hi : ModIn m) : ModAt W.heap.size W m A1 A2 A3 A4 :=
  ⟨h.r1.read fun _ _ _ hp => hp.at_, h.r2.read fun _ _ _ hp => hp.at_, h.r3.read fun _ _ _ hp => hp.at_, h.r4.read fun _ _ _ hp => hp.at_, ⟨by have := hi.ops0; omega, by have := hi.ops1; omega⟩, by have := hi.len1; omega, by have := hi.len2; omega, by have := hi.len3; omega, by have := hi.len4; omega⟩
end Go.Proofs.YtjjfdlgoacockaaGreat
