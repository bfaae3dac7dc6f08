import Derived.Test.YtjjfdlgoacockaaGreatBRead
import Derived.Test.YtjjfdlgoacockaaGreatMNew
import Derived.Test.YtjjfdlgoacockaaGreatNAttr
import Derived.Test.YtjjfdlgoacockaaGreatBPut
import Derived.Test.YtjjfdlgoacockaaGreatPAt
import Derived.Test.YtjjfdlgoacockaaGreatWHigh
import Derived.Test.YtjjfdlgoacockaaGreatMath
namespace Go.Proofs.YtjjfdlgoacockaaGreat
open Go.RowKit M1 M2 M3 M8 M9 M10 M11 M12
open M7 (nm Ten ck)

structure Eg {α : Type} (Q : Nat → World → α → List Value → Prop) (T : TypeId) (size : Nat) : Prop where
  len : ∀ {B w a cs}, Q B w a cs → cs.length = size
  keep : ∀ {B w w' a cs}, Q B w a cs → Below w.heap.size w w' → Q B w' a cs
  base : ∀ {B B' w a cs}, Q B w a cs → B' ≤ B → Q B' w a cs
  grown : ∀ {B B' w w' a cs s n v ys}, Q B w a cs → w.ownsRow B' T s v n ys → w.grownBy w' v.ownBlock → Q B w' a cs
theorem dwn {α : Type} (Q : Nat → World → α → List Value → Prop) (w : World) (B : Nat) (T : TypeId) (n : Nat) : DW Q w B T n (.slice none 0 0) [] := ⟨[], trivial, by simp, World.ownsRow_nil _ _ _ _⟩
section
variable {α : Type} {Q : Nat → World → α → List Value → Prop} {T : TypeId} {size : Nat} {w w' : World} {B : Nat} {v : Value} {l : List α}
theorem DW.kept (h : DW Q w B T size v l) (hq : Eg Q T size) (hb : Below w.heap.size w w') : DW Q w' B T size v l := by
  obtain ⟨css, ha, hl, ho⟩ := h
  exact ⟨css, ha.mono fun _ _ hp => hq.keep hp hb, hl, own_keep ho hb⟩
theorem DW.based {B' : Nat} (h : DW Q w B T size v l) (hq : Eg Q T size) (hB : B' ≤ B) : DW Q w B' T size v l := by
  obtain ⟨css, ha, hl, ho⟩ := h
  exact ⟨css, ha.mono fun _ _ hp => hq.base hp hB, hl, own_base ho hB⟩
theorem DW.push (h : DW Q w B T size v l) (hq : Eg Q T size) {a : α} {cs : List Value} (ha : Q B w a cs) :
    ∃ css : List (List Value), w.ownsRow B T size v l.length css.flatten ∧ ∀ (o : Obj) (w5 : World) (v' : Value), w5.ownsRow B T size v' (l.length + 1) (css.flatten ++ cs) → (w.alloc o).grownBy w5 v.ownBlock → DW Q w5 B T size v' (l ++ [a]) := by
  obtain ⟨css, hal, hcl, ho⟩ := h
  refine ⟨css, ho, fun o w5 v' hown hg => ?_⟩
  have hb := (Below.refl w.heap.size w).alloc (Nat.le_refl _) o
  have hke : ∀ {x : α} {cs : List Value}, Q B w x cs → Q B w5 x cs := fun hp => hq.grown (hq.keep hp hb) (own_keep ho hb) hg
  refine ⟨css ++ [cs], (hal.mono fun _ _ hp => hke hp).snoc (hke ha), fun x hx => ?_, ?_⟩
  · rcases List.mem_append.1 hx with h1 | h1
    · exact hcl x h1
    · simp at h1; rw [h1]; exact hq.len ha
  · rw [flatten_snoc, List.length_append]; exact hown
end
def OTx (B : Nat) (w : World) (l : List ByteArray) (cs : List Value) : Prop := ∃ v, cs = [v] ∧ w.ownsRow B 9 1 v l.length (p_tv l)
def OT1 (_ : Nat) (_ : World) (s : ByteArray) (cs : List Value) : Prop := cs = [.string s]
def OOp (_ : Nat) (_ : World) (o : ByteArray × Nat) (cs : List Value) : Prop := cs = [.string o.1, .int .u64 (o.2 : Int)]
theorem eg_tx : Eg OTx 64 1 := ⟨fun ⟨_, h, _⟩ => by rw [h]; rfl, fun ⟨v, h, ho⟩ hb => ⟨v, h, own_keep ho hb⟩, fun ⟨v, h, ho⟩ hb => ⟨v, h, own_base ho hb⟩, fun ⟨v, h, ho⟩ hr hg => ⟨v, h, own_grown_far ho hr (by decide) hg⟩⟩
theorem eg_t1 : Eg OT1 9 1 := ⟨fun h => by rw [h]; rfl, fun h _ => h, fun h _ => h, fun h _ _ => h⟩
theorem eg_op : Eg OOp 148 2 := ⟨fun h => by rw [h]; rfl, fun h _ => h, fun h _ => h, fun h _ _ => h⟩
theorem eg_inf : Eg OInf 106 3 := ⟨fun h => eo_inf.len h, fun h hb => eo_inf.keep h hb, fun h hb => eo_inf.base h hb, fun ⟨v, h, ho, k⟩ hr hg => ⟨v, h, own_grown_far ho hr (by decide) hg, k⟩⟩
theorem eg_ten : Eg OTen 98 4 := ⟨fun h => eo_ten.len h, fun h hb => eo_ten.keep h hb, fun h hb => eo_ten.base h hb, fun ⟨v, h, ho, k⟩ hr hg => ⟨v, h, own_grown_far ho hr (by decide) hg, k⟩⟩
theorem eg_nod : Eg ONod 102 4 := ⟨fun h => eo_nod.len h, fun h hb => eo_nod.keep h hb, fun h hb => eo_nod.base h hb, fun ⟨v, u, h, ho, ⟨css, hal, hcl, hd⟩, k⟩ hr hg =>
  ⟨v, u, h, own_grown_far ho hr (by decide) hg, ⟨css, hal.mono fun _ _ ⟨x, hx, hxo, hk⟩ => ⟨x, hx, own_grown_far hxo hr (by decide) hg, hk⟩, hcl, own_grown_far hd hr (by decide) hg⟩, k⟩⟩

def ReadRes {α : Type} (Q : Nat → World → α → List Value → Prop) (r : α × Int) (w : World) (e : Ending) (w' : World) : Prop :=
  ∃ cs, e = .returned (.tuple #[.agg cs.toArray, .int .i64 r.2]) ∧ Q w.heap.size w' r.1 cs ∧ Below w.heap.size w w'
def EachRes {α : Type} (Q : Nat → World → α → List Value → Prop) (T : TypeId) (size : Nat) (r : List α × Int) (w : World) (e : Ending) (w' : World) : Prop :=
  ∃ v, e = .returned (.tuple #[v, .int .i64 r.2]) ∧ DW Q w' w.heap.size T size v r.1 ∧ Below w.heap.size w w'
theorem eachRes_no {α : Type} {Q : Nat → World → α → List Value → Prop} {T : TypeId} {size : Nat} {r : List α × Int} {c : Int} {w w' : World} (h : r = ([], c)) (hb : Below w.heap.size w w') : EachRes Q T size r w (.returned (.tuple #[.slice none 0 0, .int .i64 c])) w' := by
  subst h; exact ⟨_, rfl, dwn _ _ _ _ _, hb⟩
theorem eachRes_yes {α : Type} {Q : Nat → World → α → List Value → Prop} {T : TypeId} {size : Nat} {r : List α × Int} {l : List α} {v : Value} {w w' : World} (h : r = (l, 0)) (hd : DW Q w' w.heap.size T size v l) (hb : Below w.heap.size w w') : EachRes Q T size r w (.returned (.tuple #[v, .int .i64 0])) w' := by
  subst h; exact ⟨_, rfl, hd, hb⟩

namespace M12
def eachG {α β : Type} (f : β → α × Int) : List β → List α → List α × Int
  | [], acc => (acc, 0)
  | b :: r, acc => if (f b).2 ≠ 0 then ([], (f b).2) else eachG f r (acc ++ [(f b).1])
theorem eachG_err {α β : Type} {f : β → α × Int} {l : List β} {k : Nat} {acc : List α} (hk : k < l.length) (h : eachG f l [] = eachG f (l.drop k) acc) (he : (f l[k]).2 ≠ 0) : eachG f l [] = ([], (f l[k]).2) := by
  rw [h, List.drop_eq_getElem_cons hk, eachG, if_pos he]
theorem eachG_step {α β : Type} {f : β → α × Int} {l : List β} {k : Nat} {acc : List α} (hk : k < l.length) (h : eachG f l [] = eachG f (l.drop k) acc) (he : (f l[k]).2 = 0) : eachG f l [] = eachG f (l.drop (k + 1)) (acc ++ [(f l[k]).1]) := by
  rw [h, List.drop_eq_getElem_cons hk, eachG, if_neg (by simp [he])]
theorem eachG_end {α β : Type} {f : β → α × Int} {l : List β} {acc : List α} (h : eachG f l [] = eachG f (l.drop l.length) acc) : eachG f l [] = (acc, 0) := by
  rw [h, List.drop_length, eachG]
def txtI (l : List WFd) (n : Int) : List ByteArray × Int := (txL l n, (txE l n : Int))
def textsM (b : ByteArray) (nums : List Int) : List (List ByteArray) × Int := if (fields b).2 ≠ 0 then ([], ((fields b).2 : Int)) else eachG (txtI (fields b).1) nums []
theorem txE_or (l : List WFd) (k : Int) : txE l k = 0 ∨ txE l k = 3 := txts_code (ofNum l k) []
theorem textsG_two {l : List WFd} {a b : Int} : eachG (txtI l) [a, b] [] = if txE l a ≠ 0 ∨ txE l b ≠ 0 then ([], 3) else ([txL l a, txL l b], 0) := by
  simp only [eachG, txtI]
  rcases txE_or l a with h1 | h1 <;> rcases txE_or l b with h2 | h2 <;> simp [h1, h2]
theorem textsG_four {l : List WFd} {a b c d : Int} : eachG (txtI l) [a, b, c, d] [] = if txE l a ≠ 0 ∨ txE l b ≠ 0 ∨ txE l c ≠ 0 ∨ txE l d ≠ 0 then ([], 3) else ([txL l a, txL l b, txL l c, txL l d], 0) := by
  simp only [eachG, txtI]
  rcases txE_or l a with h1 | h1 <;> rcases txE_or l b with h2 | h2 <;> rcases txE_or l c with h3 | h3 <;> rcases txE_or l d with h4 | h4 <;> simp [h1, h2, h3, h4]
def opsetI (b : ByteArray) : (ByteArray × Nat) × Int :=
  if (fields b).2 ≠ 0 then ((⟨#[]⟩, 0), ((fields b).2 : Int)) else if (okF (fields b).1 1 2 && okF (fields b).1 2 0) = false then ((⟨#[]⟩, 0), 3) else ((opDom b, opVer b), 0)
theorem eachM_ops : ∀ (l : List ByteArray) (acc : List (ByteArray × Nat)), eachM opsetI l acc = if opErr l ≠ 0 then ([], (opErr l : Int)) else (acc ++ l.map (fun b => (opDom b, opVer b)), 0)
  | [], acc => by simp [eachM, opErr]
  | b :: r, acc => by
    rw [eachM, opErr]
    unfold opsetI
    by_cases h1 : (fields b).2 ≠ 0
    · rw [if_pos h1, if_pos h1]
      have h1' : ((fields b).2 : Int) ≠ 0 := by omega
      rw [if_pos h1', if_pos h1]
    · rw [if_neg h1, if_neg h1]
      by_cases h2 : (okF (fields b).1 1 2 && okF (fields b).1 2 0) = false
      · rw [if_pos h2, if_pos h2]; simp
      · rw [if_neg h2, if_neg h2]
        have ih := eachM_ops r (acc ++ [(opDom b, opVer b)])
        unfold opsetI at ih
        simp only [ne_eq, not_true, if_false] at ih ⊢
        rw [ih]
        simp
def verM (o : List ByteArray) : Int × Int := if opErr o ≠ 0 then (0, (opErr o : Int)) else if opBad o = true then (0, 16) else ((opVal o 0 : Int), 0)
theorem opBad_len {o : List ByteArray} (h : o.length ≠ 1) : opBad o = true := by unfold opBad; simp [h]
theorem opBad_one (b : ByteArray) : opBad [b] = (decide (opDom b ≠ ⟨#[]⟩) || decide (2147483648 < opVer b)) := by unfold opBad opBad1; simp
theorem opVal_one (b : ByteArray) : opVal [b] 0 = opVer b := rfl
end M12
end Go.Proofs.YtjjfdlgoacockaaGreat
namespace Go.Proofs.YtjjfdlgoacockaaGreat
open Go.RowKit M1 M2 M3 M8 M9 M10 M11 M12 Go.Sort
open M7 (nm Ten ck)

def putI12 (t : Ten) : ByteArray × Int := (if ck t = 0 then wr9 t else ⟨#[]⟩, ck t)
theorem eachG_put : ∀ (l : List Ten) (acc : List ByteArray), eachG putI12 l acc = if tenErr l ≠ 0 then ([], tenErr l) else (acc ++ l.map wr9, 0)
  | [], acc => by simp [eachG, tenErr]
  | t :: r, acc => by
    rw [eachG, tenErr]
    unfold putI12
    by_cases h : ck t ≠ 0
    · rw [if_pos h, if_pos h, if_pos h]
    · rw [if_neg h, if_neg h]
      have ih := eachG_put r (acc ++ [wr9 t])
      unfold putI12 at ih
      rw [if_pos (Decidable.not_not.1 h), ih]
      simp
theorem infoStr12 : (Tryz.prog.info? 9).map (fun i => (i.zero, i.size, i.bytes)) = some (some (.string ⟨#[]⟩), 1, 16) := by kernel_rfl
set_option maxRecDepth 100000 in
set_option maxHeartbeats 4000000 in
theorem each_put12 (A : Option Addr) (c : Nat) (l : List Ten) (w : World) (hl : l.length * 64 ≤ 140737488351232) (hsm : ∀ t ∈ l, t.data.size ≤ 1000000 ∧ t.name.size ≤ 1000000 ∧ t.dims.length ≤ 1000000) (ha : DR TenAt w w.heap.size 4 A l) :
    Calls Tryz.prog 36 #[.slice A l.length c, .func (.func 37) #[] #[]] w (EachRes OT1 9 1 (eachG putI12 l []) w) := by
  obtain ⟨i0, hi0, hz0, hz1, hz2⟩ := info_parts infoStr12
  have HA := Lib.hid ha
  have HSM := Lib.hid hsm
  clear ha hsm
  go_enter Tryz.func36, Tryz.ntmps36
  go_wp2_with fail
  go_loopw [6, 13] (fun V i wr => ∃ (k : Nat) (K : Int) (acc : List ByteArray), i = .int .i64 K ∧ K = (k : Nat) ∧ k ≤ l.length ∧ acc.length = k ∧ eachG putI12 l [] = eachG putI12 (l.drop k) acc ∧ DW OT1 wr w.heap.size 9 1 V acc ∧ Below w.heap.size w wr) (fun _ i _ => l.length - (intOf i).toNat)
  case atStart => exact ⟨0, _, [], rfl, rfl, by omega, rfl, rfl, dwn _ _ _ _ _, Below.refl _ _⟩
  case round =>
    obtain ⟨k, K, acc, rfl, rfl, hk, hacc, hat, hdw, hb⟩ := hrel
    have HD := Lib.hid hdw
    have HB := Lib.hid hb
    have HAC := Lib.hid hacc
    obtain ⟨VA, VC, rfl⟩ := hdw.form
    by_cases hlt : k < l.length
    · obtain ⟨bb, oo, cs, rfl, hbb, hp, hcx⟩ := (HA.out.below ek_ten hb).at_ ek_ten hlt
      have hsk := HSM.out _ (List.getElem_mem hlt)
      have HE1 := Lib.hid (eachG_err (f := putI12) hlt hat)
      have HE2 := Lib.hid (eachG_step (f := putI12) hlt hat)
      have HP := Lib.hid hp
      clear hdw hat hacc hb
      obtain ⟨A1, c1, rfl⟩ := TenAt.shape hp
      clear hp
      generalize l[k] = t at *
      have p0 := hcx 0 _ rfl
      have p1 := hcx 1 _ rfl
      have p2 := hcx 2 _ rfl
      have p3 := hcx 3 _ rfl
      simp only [Nat.add_zero] at p0
      clear hcx
      have hal := (Below.refl wr.heap.size wr).alloc (Nat.le_refl _) (.cells #[.string t.name, .int .i64 t.kind, .slice A1 t.dims.length c1, .string t.data] 98)
      have htk : Tok (wr.alloc (.cells #[.string t.name, .int .i64 t.kind, .slice A1 t.dims.length c1, .string t.data] 98)) t A1 := by
        obtain ⟨A, c, ee, hs, ok⟩ := ek_ten.more (ek_ten.below HP.out (hal.mono HB.out.size)) (Nat.le_trans HB.out.size hal.size)
        simp only [List.cons.injEq, Value.slice.injEq] at ee
        obtain ⟨-, -, ⟨rfl, -, rfl⟩, -⟩ := ee
        exact ok.tok hs
      have HR := Lib.hid (b_put_anyX t A1 c1 _ htk hsk.1 hsk.2.1 hsk.2.2)
      have HBA := Lib.hid (HB.out.trans (hal.mono HB.out.size))
      have HDA := Lib.hid (HD.out.kept eg_t1 hal)
      unfold t_tv at HR
      unfold putI12 at HE1 HE2
      dsimp only at HE1 HE2
      clear hal htk HP HD hsk
      generalize (if ck t = 0 then wr9 t else ⟨#[]⟩) = T at *
      generalize ck t = C at *
      go_wp2_with fail
      refine HR.out.mono ?_
      rintro e w1 ⟨rfl, hb1⟩
      have HB1 := Lib.hid (HBA.out.trans (hb1.mono HBA.out.size))
      obtain ⟨css, ho, hpush⟩ := (HDA.out.kept eg_t1 hb1).push eg_t1 (a := T) (cs := [.string T]) rfl
      have HOW := Lib.hid ho
      have HPU := Lib.hid hpush
      clear hb1 HR HBA HDA ho hpush p0 p1 p2 p3
      by_cases hC : C ≠ 0
      · have hcb : (C != 0) = true := by simpa using hC
        have HE := Lib.hid (HE1.out hC)
        clear hC
        go_wp2_with fail
        go_ret2
        exact eachRes_no HE.out HB1.out
      · obtain rfl : C = 0 := by omega
        have HS := Lib.hid (HE2.out rfl)
        clear hC HE1 HE2
        go_wp2_with (at_builtin; refine wpList_append_own _ rfl _ _ 64 rfl w.heap.size 9 i0 _ 1 16 Tryz.underlying64 hi0 hz0 hz1 hz2 rfl (by decide) _ _ _ rfl (HOW.out.alloc _) ⟨w1.heap.size, 0, none⟩ 1 1 [.string T] rfl rfl (cells_new _ _ _) ?c2 ?c3 ?c4 ?c5 ?_)
        case c2 => intro u hu; simp at hu; rcases hu with rfl <;> rfl
        case c3 => have := HAC.out; unfold maxLen; omega
        case c4 => have := HAC.out; omega
        case c5 => have := HB1.out.size; simp at this ⊢; omega
        intro v' w5 hown' hgrow _
        have HB5 := Lib.hid ((HB1.out.alloc HB1.out.size (.cells #[.string T] 9)).grown hgrow (by have := HB1.out.size; simp at this ⊢; omega) (fun q hq => (HOW.out.lt q hq).1))
        have HD5 := Lib.hid (HPU.out _ _ _ hown' hgrow)
        clear hown' hgrow
        go_wp2_with fail
        go_roundw
        case rel => exact ⟨k + 1, _, acc ++ [T], rfl, by omega, by omega, by rw [List.length_append, HAC.out]; rfl, HS.out, HD5.out, HB5.out⟩
        case measure => simp [intOf]; omega
    · obtain rfl : k = l.length := by omega
      have HE := Lib.hid (eachG_end (f := putI12) hat)
      clear hdw hb hat
      go_wp2_with fail
      go_ret2
      exact eachRes_yes HE.out HD.out HB.out
theorem dw_t1 {W : World} {B : Nat} {v : Value} {l : List ByteArray} (h : DW OT1 W B 9 1 v l) : W.ownsRow B 9 1 v l.length (p_tv l) := by
  obtain ⟨css, hal, hcl, ho⟩ := h
  have e : css.flatten = p_tv l := by
    clear ho hcl
    revert css
    induction l with
    | nil => intro css hal; rw [hal.nil_inv]; rfl
    | cons a l ih =>
      intro css hal
      match css, hal with
      | c :: css, hal =>
        have hc : c = [.string a] := hal.1
        have h2 := ih css hal.2
        rw [List.flatten_cons, h2, hc]
        rfl
  rwa [e] at ho
end Go.Proofs.YtjjfdlgoacockaaGreat
namespace Go.Proofs.YtjjfdlgoacockaaGreat
open Go.RowKit M1 M2 M3 M8 M9 M10 M11 M12 Go.Sort
open M7 (nm Ten ck)

set_option maxRecDepth 100000 in
theorem tx1_any (g : Nat) (FA : Option Addr) (fcap : Nat) (l : List WFd) (num : Int) (w : World) (hl : l.length ≤ 1048576) (hg : w.heap[g]? = some (.cells #[.slice FA l.length fcap] 138 (0, 0))) (hf : SR w w.heap.size 4 FA l.length (fcs l)) :
    Calls Tryz.prog 65 #[.int .i64 num, .pointer (some ⟨g, 0, none⟩)] w (TxtRes w.heap.size (txts (ofNum l num) []) w) := by
  have HR := Lib.hid (texts_any FA fcap l num w (by omega) hf)
  have c0 := cell_of_row _ _ 0 _ _ _ hg
  clear hg hf
  go_enter Tryz.func65, Tryz.ntmps65
  go_wp2_with fail
  refine HR.out.mono ?_
  rintro e w1 ⟨v, rfl, hown, hb⟩
  have HO := Lib.hid (And.intro hown hb)
  obtain ⟨A1, c1, rfl, -, -⟩ := own_form hown
  clear hown hb HR
  go_wp2_with fail
  go_ret2
  exact ⟨_, rfl, HO.out.1, HO.out.2⟩

theorem infoTexts12 : (Tryz.prog.info? 64).map (fun i => (i.zero, i.size, i.bytes)) = some (some (.slice none 0 0), 1, 24) := by kernel_rfl
set_option maxRecDepth 100000 in
set_option maxHeartbeats 4000000 in
theorem each_txt12 (g : Nat) (FA : Option Addr) (fcap : Nat) (l : List WFd) (A : Option Addr) (c : Nat) (N : List Int) (w : World) (hn : N.length ≤ 1000) (hl : l.length ≤ 1048576) (hg : w.heap[g]? = some (.cells #[.slice FA l.length fcap] 138 (0, 0))) (hf : SR w w.heap.size 4 FA l.length (fcs l)) (ha : SR w w.heap.size 1 A N.length (iv N)) :
    Calls Tryz.prog 64 #[.slice A N.length c, .func (.func 65) #[] #[.pointer (some ⟨g, 0, none⟩)]] w (EachRes OTx 64 1 (eachG (txtI l) N []) w) := by
  obtain ⟨i0, hi0, hz0, hz1, hz2⟩ := info_parts infoTexts12
  have HA := Lib.hid ha
  have HRD := Lib.hid (fun n W (hW : Below w.heap.size w W) => tx1_any g FA fcap l n W hl ((hW.block g (blk_lt hg)).trans hg) ((hf.below hW).more hW.size))
  clear ha hg hf
  go_enter Tryz.func64, Tryz.ntmps64
  go_wp2_with fail
  go_loopw [6, 13] (fun V i wr => ∃ (k : Nat) (K : Int) (acc : List (List ByteArray)), i = .int .i64 K ∧ K = (k : Nat) ∧ k ≤ N.length ∧ acc.length = k ∧ eachG (txtI l) N [] = eachG (txtI l) (N.drop k) acc ∧ DW OTx wr w.heap.size 64 1 V acc ∧ Below w.heap.size w wr) (fun _ i _ => N.length - (intOf i).toNat)
  case atStart => exact ⟨0, _, [], rfl, rfl, by omega, rfl, rfl, dwn _ _ _ _ _, Below.refl _ _⟩
  case round =>
    obtain ⟨k, K, acc, rfl, rfl, hk, hacc, hat, hdw, hb⟩ := hrel
    have HD := Lib.hid hdw
    have HB := Lib.hid hb
    have HAC := Lib.hid hacc
    obtain ⟨VA, VC, rfl⟩ := hdw.form
    by_cases hlt : k < N.length
    · obtain ⟨bb, oo, rfl, -, hx⟩ := int_at (HA.out.below hb) hlt
      have HE1 := Lib.hid (eachG_err (f := txtI l) hlt hat)
      have HE2 := Lib.hid (eachG_step (f := txtI l) hlt hat)
      have HR := Lib.hid (fun W => HRD.out N[k] W)
      clear hdw hat hacc hb
      generalize eachG (txtI l) N [] = RES at *
      generalize N[k] = X at *
      unfold txtI txL txE at HE1 HE2
      generalize txts (ofNum l X) [] = F at HE1 HE2 HR
      obtain ⟨a, C⟩ := F
      dsimp only at HE1 HE2 HR
      go_wp2_with fail
      refine (HR.out _ HB.out).mono ?_
      rintro e w1 ⟨v, rfl, hq1, hb1⟩
      dsimp only at hq1
      obtain ⟨A5, c5, rfl, -, -⟩ := own_form hq1
      have HB1 := Lib.hid (HB.out.trans (hb1.mono HB.out.size))
      obtain ⟨css, ho, hpush⟩ := (HD.out.kept eg_tx hb1).push eg_tx (a := a) (cs := [.slice A5 a.length c5]) ⟨_, rfl, own_base hq1 HB.out.size⟩
      have HOW := Lib.hid ho
      have HPU := Lib.hid hpush
      clear hb1 hq1 HR HD HB ho hpush
      by_cases hC : C ≠ 0
      · have hcb : ((C : Int) != 0) = true := by simpa using hC
        have HE := Lib.hid (HE1.out (by omega))
        clear hC
        go_wp2_with fail
        go_ret2
        exact eachRes_no HE.out HB1.out
      · obtain rfl : C = 0 := by omega
        have HS := Lib.hid (HE2.out rfl)
        clear hC HE1 HE2
        go_wp2_with (at_builtin; refine wpList_append_own _ rfl _ _ 61 rfl w.heap.size 64 i0 _ 1 24 Tryz.underlying61 hi0 hz0 hz1 hz2 rfl (by decide) _ _ _ rfl (HOW.out.alloc _) ⟨w1.heap.size, 0, none⟩ 1 1 [.slice A5 a.length c5] rfl rfl (cells_new _ _ _) ?c2 ?c3 ?c4 ?c5 ?_)
        case c2 => intro u hu; simp at hu; rcases hu with rfl <;> rfl
        case c3 => have := HAC.out; unfold maxLen; omega
        case c4 => have := HAC.out; omega
        case c5 => have := HB1.out.size; simp at this ⊢; omega
        intro v' w5 hown' hgrow _
        have HB5 := Lib.hid ((HB1.out.alloc HB1.out.size (.cells #[.slice A5 a.length c5] 64)).grown hgrow (by have := HB1.out.size; simp at this ⊢; omega) (fun q hq => (HOW.out.lt q hq).1))
        have HD5 := Lib.hid (HPU.out _ _ _ hown' hgrow)
        clear hown' hgrow
        go_wp2_with fail
        go_roundw
        case rel => exact ⟨k + 1, _, acc ++ [a], rfl, by omega, by omega, by rw [List.length_append, HAC.out]; rfl, HS.out, HD5.out, HB5.out⟩
        case measure => simp [intOf]; omega
    · obtain rfl : k = N.length := by omega
      have HE := Lib.hid (eachG_end (f := txtI l) hat)
      clear hdw hb hat
      go_wp2_with fail
      go_ret2
      exact eachRes_yes HE.out HD.out HB.out

set_option maxRecDepth 100000 in
set_option maxHeartbeats 1000000 in
theorem textsOf12_any (b : ByteArray) (A : Option Addr) (c : Nat) (N : List Int) (w : World) (hbs : b.size ≤ maxLen) (hn : N.length ≤ 1000) (ha : SR w w.heap.size 1 A N.length (iv N)) :
    Calls Tryz.prog 20 #[.string b, .slice A N.length c] w (EachRes OTx 64 1 (textsM b N) w) := by
  have HF := Lib.hid (fields_any b w hbs)
  have HFL := Lib.hid (fields_len b)
  have HE1 := Lib.hid (show (fields b).2 ≠ 0 → textsM b N = ([], ((fields b).2 : Int)) from fun h => by unfold textsM; rw [if_pos h])
  have HE2 := Lib.hid (show (fields b).2 = 0 → textsM b N = eachG (txtI (fields b).1) N [] from fun h => by unfold textsM; rw [if_neg (by simp [h])])
  have HA := Lib.hid ha
  clear ha
  generalize textsM b N = R at *
  generalize fields b = FF at *
  obtain ⟨L, C⟩ := FF
  dsimp only at *
  go_enter Tryz.func20, Tryz.ntmps20
  go_wp2_with fail
  refine HF.out.mono ?_
  rintro e w1 ⟨v1, rfl, hown, hb1⟩
  obtain ⟨a1, c1, rfl, -, -⟩ := own_form hown
  have hal := (Below.refl w1.heap.size w1).alloc (Nat.le_refl _) (.cells #[.slice a1 L.length c1] 138)
  have HB := Lib.hid (step_below hb1 hal)
  have HG := Lib.hid (heap_alloc_new w1 (.cells #[.slice a1 L.length c1] 138))
  have HS := Lib.hid (((SR.of_own hown).below hal).more hal.size)
  clear hb1 hown hal HF
  by_cases hC : C ≠ 0
  · have hcb : ((C : Int) != 0) = true := by simpa using hC
    have HE := Lib.hid (HE1.out hC)
    clear hC
    go_wp2_with fail
    go_ret2
    exact eachRes_no HE.out HB.out
  obtain rfl : C = 0 := by omega
  have HE := Lib.hid (HE2.out rfl)
  have HC := Lib.hid (each_txt12 w1.heap.size a1 c1 L A c N _ hn HFL.out HG.out HS.out ((HA.out.below HB.out).more HB.out.size))
  clear hC HE1 HE2
  go_wp2_with fail
  refine HC.out.mono ?_
  rintro e w2 ⟨v, rfl, hdw, hb⟩
  obtain ⟨A2, c2, rfl⟩ := hdw.form
  have HO := Lib.hid (And.intro hdw (HB.out.trans (hb.mono HB.out.size)))
  have HBs := Lib.hid HB.out.size
  clear hdw hb HC
  go_wp2_with fail
  go_ret2
  rw [HE.out]
  exact ⟨_, rfl, DW.based HO.out.1 eg_tx HBs.out, HO.out.2⟩
end Go.Proofs.YtjjfdlgoacockaaGreat
namespace Go.Proofs.YtjjfdlgoacockaaGreat
open Go.RowKit M1 M2 M3 M8 M9 M10 M11 M12 Go.Sort
open M7 (nm Ten ck)


set_option maxRecDepth 100000 in
set_option maxHeartbeats 4000000 in
theorem each_nod12 (A : Option Addr) (c : Nat) (L : List ByteArray) (w : World) (hl : L.length ≤ 1048576) (hsz : ∀ b ∈ L, b.size ≤ 1048576) (ha : SR w w.heap.size 1 A L.length (p_tv L)) :
    Calls Tryz.prog 69 #[.slice A L.length c, .func (.func 70) #[] #[]] w (EachRes ONod 102 4 (eachM nodeI L []) w) := by
  obtain ⟨i0, hi0, hz0, hz1, hz2⟩ := info_parts infoNode10
  have HA := Lib.hid ha
  have HSZ := Lib.hid hsz
  have HRD : Hid (∀ b W, b.size ≤ 1048576 → Below w.heap.size w W → Calls Tryz.prog 70 #[.string b] W (ReadRes ONod (nodeI b) W)) := Lib.hid (fun b W h _ => readNode_any b W (by unfold maxLen; omega))
  clear ha hsz
  go_enter Tryz.func69, Tryz.ntmps69
  go_wp2_with fail
  go_loopw [6, 13] (fun V i wr => ∃ (k : Nat) (K : Int) (acc : List Nod), i = .int .i64 K ∧ K = (k : Nat) ∧ k ≤ L.length ∧ acc.length = k ∧ eachM nodeI L [] = eachM nodeI (L.drop k) acc ∧ DW ONod wr w.heap.size 102 4 V acc ∧ Below w.heap.size w wr) (fun _ i _ => L.length - (intOf i).toNat)
  case atStart => exact ⟨0, _, [], rfl, rfl, by omega, rfl, rfl, dwn _ _ _ _ _, Below.refl _ _⟩
  case round =>
    obtain ⟨k, K, acc, rfl, rfl, hk, hacc, hat, hdw, hb⟩ := hrel
    have HD := Lib.hid hdw
    have HB := Lib.hid hb
    have HAC := Lib.hid hacc
    obtain ⟨VA, VC, rfl⟩ := hdw.form
    by_cases hlt : k < L.length
    · obtain ⟨bb, oo, rfl, -, hx⟩ := n_txt_at (HA.out.below hb) hlt
      have hsk := HSZ.out L[k] (List.getElem_mem hlt)
      have HE1 := Lib.hid (eachM_err (f := nodeI) hlt hat)
      have HE2 := Lib.hid (eachM_step (f := nodeI) hlt hat)
      have HR := Lib.hid (fun W => HRD.out L[k] W hsk)
      clear hdw hat hacc hb
      generalize eachM nodeI L [] = RES at *
      generalize L[k] = X at *
      generalize nodeI X = F at HE1 HE2 HR
      obtain ⟨a, C⟩ := F
      dsimp only at HE1 HE2 HR
      go_wp2_with fail
      refine (HR.out _ HB.out).mono ?_
      rintro e w1 ⟨cs, rfl, hq1, hb1⟩
      dsimp only at hq1
      obtain ⟨A5, c5, D5, d5, rfl⟩ := ONod.shape hq1
      have hb2 := (Below.refl w1.heap.size w1).alloc (Nat.le_refl _) (.cells #[.string a.op, .slice A5 a.ins.length c5, .string a.out, .slice D5 a.attrs.length d5] 102)
      have hbB := step_below hb1 hb2
      have HB1 := Lib.hid (HB.out.trans (hbB.mono HB.out.size))
      have HX1 := Lib.hid (Bx.start w1 #[.string a.op, .slice A5 a.ins.length c5, .string a.out, .slice D5 a.attrs.length d5] 102)
      obtain ⟨css, ho, hpush⟩ := (HD.out.kept eg_nod hbB).push eg_nod (eg_nod.base (eg_nod.keep hq1 hb2) HB.out.size)
      have HOW := Lib.hid ho
      have HPU := Lib.hid hpush
      clear hb1 hq1 hb2 hbB HR HD HB ho hpush
      by_cases hC : C ≠ 0
      · have hcb : (C != 0) = true := by simpa using hC
        have HE := Lib.hid (HE1.out hC)
        clear hC
        go_wp2_with fail
        go_ret2
        exact eachRes_no HE.out HB1.out
      · obtain rfl : C = 0 := by omega
        have HS := Lib.hid (HE2.out rfl)
        obtain ⟨x0, x1, x2, x3⟩ := HX1.out.four
        clear hC HE1 HE2
        go_wp2_with (at_builtin; refine wpList_append_own _ rfl _ _ 32 rfl w.heap.size 102 i0 _ 4 80 Tryz.underlying32 hi0 hz0 hz1 hz2 rfl (by decide) _ _ _ rfl (HOW.out.alloc _) ⟨w1.heap.size + 1, 0, none⟩ 1 1 [.string a.op, .slice A5 a.ins.length c5, .string a.out, .slice D5 a.attrs.length d5] rfl rfl (cells_new2 _ _ _ _) ?c2 ?c3 ?c4 ?c5 ?_)
        case c2 => intro u hu; simp at hu; rcases hu with rfl | rfl | rfl | rfl <;> rfl
        case c3 => have := HAC.out; unfold maxLen; omega
        case c4 => have := HAC.out; omega
        case c5 => have := HB1.out.size; simp at this ⊢; omega
        intro v' w5 hown' hgrow _
        have HB5 := Lib.hid ((HB1.out.alloc HB1.out.size (.cells #[.string a.op, .slice A5 a.ins.length c5, .string a.out, .slice D5 a.attrs.length d5] 102)).grown hgrow (by have := HB1.out.size; simp at this ⊢; omega) (fun q hq => (HOW.out.lt q hq).1))
        have HD5 := Lib.hid (HPU.out _ _ _ hown' hgrow)
        clear hown' hgrow x0 x1 x2 x3
        go_wp2_with fail
        go_roundw
        case rel => exact ⟨k + 1, _, acc ++ [a], rfl, by omega, by omega, by rw [List.length_append, HAC.out]; rfl, HS.out, HD5.out, HB5.out⟩
        case measure => simp [intOf]; omega
    · obtain rfl : k = L.length := by omega
      have HE := Lib.hid (eachM_end (f := nodeI) hat)
      clear hdw hb hat
      go_wp2_with fail
      go_ret2
      exact eachRes_yes HE.out HD.out HB.out
end Go.Proofs.YtjjfdlgoacockaaGreat
namespace Go.Proofs.YtjjfdlgoacockaaGreat
open Go.RowKit M1 M2 M3 M8 M9 M10 M11 M12 Go.Sort
open M7 (nm Ten ck)

theorem Bx.two_put {w W : World} {g : Nat} {a0 a1 : Value} {T : TypeId} (h : Bx w g #[a0, a1] T W) (hg : w.heap.size ≤ g) (v0 v1 : Value) :
    Bx w g #[v0, v1] T ((W.setCell ⟨g, 0, none⟩ v0).setCell ⟨g, 1, none⟩ v1) := (h.set hg 0 v0).set hg 1 v1
theorem Bx.cells2 {w W : World} {g : Nat} {a0 a1 : Value} {T : TypeId} (h : Bx w g #[a0, a1] T W) : W.cell? ⟨g, 0, none⟩ = some a0 ∧ W.cell? ⟨g, 1, none⟩ = some a1 := ⟨h.cell 0, h.cell 1⟩
theorem ask3 (l : List WFd) (num typ : Int) : (decide (ofNum l num ≠ []) = false ∧ okF l num typ = true) ∨ (decide (ofNum l num ≠ []) = true ∧ ((lastF l num).typ != typ) = true ∧ okF l num typ = false) ∨ (decide (ofNum l num ≠ []) = true ∧ ((lastF l num).typ != typ) = false ∧ okF l num typ = true) := by
  by_cases hn : ofNum l num = []
  · exact .inl ⟨by simp [hn], okF_no hn⟩
  · refine .inr ?_
    rw [okF_yes hn]
    by_cases ht : (lastF l num).typ = typ
    · exact .inr ⟨by simp [hn], by simp [ht], by simp [ht]⟩
    · exact .inl ⟨by simp [hn], by simp [ht], by simp [ht]⟩
theorem opsetI_err {b : ByteArray} {L : List WFd} {C : Nat} (h : fields b = (L, C)) (hC : C ≠ 0) : opsetI b = ((⟨#[]⟩, 0), (C : Int)) := by unfold opsetI; rw [h]; dsimp only; rw [if_pos hC]
theorem opsetI_wire {b : ByteArray} {L : List WFd} (h : fields b = (L, 0)) (hC : (okF L 1 2 && okF L 2 0) = false) : opsetI b = ((⟨#[]⟩, 0), 3) := by unfold opsetI; rw [h]; dsimp only; rw [if_neg (by simp), if_pos hC]
theorem opsetI_ok {b : ByteArray} {L : List WFd} (h : fields b = (L, 0)) (hC : (okF L 1 2 && okF L 2 0) = true) : opsetI b = (((lastF L 1).data, (lastF L 2).n), 0) := by unfold opsetI opDom opVer; rw [h]; dsimp only; rw [if_neg (by simp), if_neg (by simp [hC])]
theorem ops_res {r : (ByteArray × Nat) × Int} {d : ByteArray} {n : Nat} {c : Int} {w w' : World} (h : r = ((d, n), c)) (hb : Below w.heap.size w w') : ReadRes OOp r w (.returned (.tuple #[.agg #[.string d, .int .u64 (n : Int)], .int .i64 c])) w' := by
  subst h; exact ⟨_, rfl, rfl, hb⟩

set_option maxRecDepth 100000 in
set_option maxHeartbeats 4000000 in
theorem readOpset_any (b : ByteArray) (w : World) (hbs : b.size ≤ maxLen) : Calls Tryz.prog 68 #[.string b] w (ReadRes OOp (opsetI b) w) := by
  have HX0 := Lib.hid (Bx.start w #[.string ⟨#[]⟩, .int .u64 0] 148)
  have HF := Lib.hid (fun W => fields_any b W hbs)
  have HFL := Lib.hid (fields_len b)
  have HE1 := Lib.hid (fun L C => opsetI_err (b := b) (L := L) (C := C))
  have HE2 := Lib.hid (fun L => opsetI_wire (b := b) (L := L))
  have HE3 := Lib.hid (fun L => opsetI_ok (b := b) (L := L))
  generalize opsetI b = R at *
  generalize hFF : fields b = FF at *
  obtain ⟨L, C⟩ := FF
  have HE1 := Lib.hid (HE1.out L C rfl)
  have HE2 := Lib.hid (fun h : C = 0 => HE2.out L (by rw [h]))
  have HE3 := Lib.hid (fun h : C = 0 => HE3.out L (by rw [h]))
  clear hFF
  dsimp only at *
  go_enter Tryz.func68, Tryz.ntmps68
  go_wp2_with fail
  refine (HF.out _).mono ?_
  rintro e w1 ⟨v1, rfl, hown, hb1⟩
  obtain ⟨a1, c1, rfl, -, -⟩ := own_form hown
  have HX1 := Lib.hid (HX0.out.below hb1)
  have HS1 := Lib.hid (fun W (h : Below w1.heap.size w1 W) => ((SR.of_own hown).below h).more h.size)
  clear hb1 hown HF HX0
  by_cases hC : C ≠ 0
  · have hcb : ((C : Int) != 0) = true := by simpa using hC
    have HE := Lib.hid (HE1.out hC)
    clear hC
    obtain ⟨wE, hE, hxE⟩ := n_name (P := fun W => Bx w w.heap.size #[.string ⟨#[]⟩, .int .u64 0] 148 W) (HX1.out.two_put (Nat.le_refl _) (.string ⟨#[]⟩) (.int .u64 0))
    have HXE := Lib.hid hxE
    obtain ⟨z0, z1⟩ := HX1.out.cells2
    have zf := fun i => HX1.out.free i
    clear hxE
    go_wp2_with fail
    obtain ⟨e0, e1⟩ := HXE.out.cells2
    exact bodyPost_ret (v := .tuple #[.agg #[.string ⟨#[]⟩, .int .u64 ((0 : Nat) : Int)], .int .i64 (C : Int)]) (by simp [results, Tryz.results68, go_sem, e0, e1]) rfl (ops_res HE.out HXE.out.all)
  obtain rfl : C = 0 := by omega
  clear hC HE1
  have HLA := Lib.hid (fun W (h : Below w1.heap.size w1 W) => last_any a1 c1 L 1 W (by have := HFL.out; omega) (HS1.out W h))
  have HLB := Lib.hid (fun W (h : Below w1.heap.size w1 W) => last_any a1 c1 L 2 W (by have := HFL.out; omega) (HS1.out W h))
  have HA1 := Lib.hid (ask3 L 1 2)
  have HA2 := Lib.hid (ask3 L 2 0)
  have HW1 := Lib.hid (Below.refl w1.heap.size w1)
  have HR3 := Lib.hid (HE2.out rfl)
  have HR0 := Lib.hid (HE3.out rfl)
  generalize decide (ofNum L 1 ≠ []) = q1 at *
  generalize decide (ofNum L 2 ≠ []) = q2 at *
  generalize lastF L 1 = f1 at *
  generalize lastF L 2 = f2 at *
  obtain ⟨n1, t1, m1, d1⟩ := f1
  obtain ⟨n2, t2, m2, d2⟩ := f2
  generalize okF L 1 2 = k1 at *
  generalize okF L 2 0 = k2 at *
  simp only [fc] at HLA HLB
  dsimp only at HA1 HA2 HR0 HLA HLB
  clear HE2 HE3 HFL HS1
  go_wp2_with fail
  refine (HLA.out _ HW1.out).mono ?_
  rintro e w2 ⟨rfl, hb⟩
  have hba := step_below hb ((Below.refl w2.heap.size w2).alloc (Nat.le_refl _) (.cells #[.int .i64 n1, .int .i64 t1, .int .u64 (m1 : Int), .string d1] 184))
  have HX2 := Lib.hid (HX1.out.below hba)
  have HW2 := Lib.hid (HW1.out.trans (hba.mono HW1.out.size))
  have HG1 := Lib.hid ((HX1.out.below hb).next #[.int .i64 n1, .int .i64 t1, .int .u64 (m1 : Int), .string d1] 184)
  clear hb hba HX1 HW1 HLA
  go_wp2_with fail
  refine (HLB.out _ HW2.out).mono ?_
  rintro e w3 ⟨rfl, hb⟩
  have hba := step_below hb ((Below.refl w3.heap.size w3).alloc (Nat.le_refl _) (.cells #[.int .i64 n2, .int .i64 t2, .int .u64 (m2 : Int), .string d2] 184))
  have HX3 := Lib.hid (HX2.out.below hba)
  have HG2 := Lib.hid ((HX2.out.below hb).next #[.int .i64 n2, .int .i64 t2, .int .u64 (m2 : Int), .string d2] 184)
  have HG1 := Lib.hid (HG1.out.below hba)
  clear hb hba HX2 HW2 HLB
  obtain ⟨y0, y1, y2, y3⟩ := HG1.out.four
  obtain ⟨u0, u1, u2, u3⟩ := HG2.out.four
  obtain ⟨z0, z1⟩ := HX3.out.cells2
  have zf := fun i => HX3.out.free i
  obtain ⟨wE, hE, hxE⟩ := n_name (P := fun W => Bx w w.heap.size #[.string ⟨#[]⟩, .int .u64 0] 148 W) (HX3.out.two_put (Nat.le_refl _) (.string ⟨#[]⟩) (.int .u64 0))
  obtain ⟨wO, hO, hxO⟩ := n_name (P := fun W => Bx w w.heap.size #[.string d1, .int .u64 (m2 : Int)] 148 W) (HX3.out.two_put (Nat.le_refl _) (.string d1) (.int .u64 (m2 : Int)))
  have HXE := Lib.hid hxE
  have HXO := Lib.hid hxO
  clear hxE hxO HX3 HG1 HG2
  rcases HA1.out with ⟨rfl, rfl⟩ | ⟨rfl, ht1, rfl⟩ | ⟨rfl, ht1, rfl⟩
  all_goals
    rcases HA2.out with ⟨rfl, rfl⟩ | ⟨rfl, ht2, rfl⟩ | ⟨rfl, ht2, rfl⟩
  all_goals
    clear HA1 HA2
    go_wp2_with fail
    first
      | (have HE := Lib.hid (HR3.out rfl)
         obtain ⟨e0, e1⟩ := HXE.out.cells2
         exact bodyPost_ret (v := .tuple #[.agg #[.string ⟨#[]⟩, .int .u64 ((0 : Nat) : Int)], .int .i64 3]) (by simp [results, Tryz.results68, go_sem, e0, e1]) rfl (ops_res HE.out HXE.out.all))
      | (have HE := Lib.hid (HR0.out rfl)
         obtain ⟨e0, e1⟩ := HXO.out.cells2
         exact bodyPost_ret (v := .tuple #[.agg #[.string d1, .int .u64 (m2 : Int)], .int .i64 0]) (by simp [results, Tryz.results68, go_sem, e0, e1]) rfl (ops_res HE.out HXO.out.all))
      | fail
end Go.Proofs.YtjjfdlgoacockaaGreat
namespace Go.Proofs.YtjjfdlgoacockaaGreat
open Go.RowKit M1 M2 M3 M8 M9 M10 M11 M12 Go.Sort
open M7 (nm Ten ck)

theorem infoOps12 : (Tryz.prog.info? 148).map (fun i => (i.zero, i.size, i.bytes)) = some (some (.agg #[.string ⟨#[]⟩, .int .u64 0]), 2, 24) := by kernel_rfl

set_option maxRecDepth 100000 in
set_option maxHeartbeats 4000000 in
theorem each_ops12 (A : Option Addr) (c : Nat) (L : List ByteArray) (w : World) (hl : L.length ≤ 1048576) (hsz : ∀ b ∈ L, b.size ≤ 1048576) (ha : SR w w.heap.size 1 A L.length (p_tv L)) :
    Calls Tryz.prog 67 #[.slice A L.length c, .func (.func 68) #[] #[]] w (EachRes OOp 148 2 (eachM opsetI L []) w) := by
  obtain ⟨i0, hi0, hz0, hz1, hz2⟩ := info_parts infoOps12
  have HA := Lib.hid ha
  have HSZ := Lib.hid hsz
  have HRD : Hid (∀ b W, b.size ≤ 1048576 → Below w.heap.size w W → Calls Tryz.prog 68 #[.string b] W (ReadRes OOp (opsetI b) W)) := Lib.hid (fun b W h _ => readOpset_any b W (by unfold maxLen; omega))
  clear ha hsz
  go_enter Tryz.func67, Tryz.ntmps67
  go_wp2_with fail
  go_loopw [6, 13] (fun V i wr => ∃ (k : Nat) (K : Int) (acc : List (ByteArray × Nat)), i = .int .i64 K ∧ K = (k : Nat) ∧ k ≤ L.length ∧ acc.length = k ∧ eachM opsetI L [] = eachM opsetI (L.drop k) acc ∧ DW OOp wr w.heap.size 148 2 V acc ∧ Below w.heap.size w wr) (fun _ i _ => L.length - (intOf i).toNat)
  case atStart => exact ⟨0, _, [], rfl, rfl, by omega, rfl, rfl, dwn _ _ _ _ _, Below.refl _ _⟩
  case round =>
    obtain ⟨k, K, acc, rfl, rfl, hk, hacc, hat, hdw, hb⟩ := hrel
    have HD := Lib.hid hdw
    have HB := Lib.hid hb
    have HAC := Lib.hid hacc
    obtain ⟨VA, VC, rfl⟩ := hdw.form
    by_cases hlt : k < L.length
    · obtain ⟨bb, oo, rfl, -, hx⟩ := n_txt_at (HA.out.below hb) hlt
      have hsk := HSZ.out L[k] (List.getElem_mem hlt)
      have HE1 := Lib.hid (eachM_err (f := opsetI) hlt hat)
      have HE2 := Lib.hid (eachM_step (f := opsetI) hlt hat)
      have HR := Lib.hid (fun W => HRD.out L[k] W hsk)
      clear hdw hat hacc hb
      generalize eachM opsetI L [] = RES at *
      generalize L[k] = X at *
      generalize opsetI X = F at HE1 HE2 HR
      obtain ⟨a, C⟩ := F
      dsimp only at HE1 HE2 HR
      go_wp2_with fail
      refine (HR.out _ HB.out).mono ?_
      rintro e w1 ⟨cs, rfl, hq1, hb1⟩
      dsimp only at hq1
      have hcs : cs = [.string a.1, .int .u64 (a.2 : Int)] := hq1
      subst hcs
      have hb2 := (Below.refl w1.heap.size w1).alloc (Nat.le_refl _) (.cells #[.string a.1, .int .u64 (a.2 : Int)] 148)
      have hbB := step_below hb1 hb2
      have HB1 := Lib.hid (HB.out.trans (hbB.mono HB.out.size))
      have HX1 := Lib.hid (Bx.start w1 #[.string a.1, .int .u64 (a.2 : Int)] 148)
      obtain ⟨css, ho, hpush⟩ := (HD.out.kept eg_op hbB).push eg_op (eg_op.base (eg_op.keep hq1 hb2) HB.out.size)
      have HOW := Lib.hid ho
      have HPU := Lib.hid hpush
      clear hb1 hq1 hb2 hbB HR HD HB ho hpush
      by_cases hC : C ≠ 0
      · have hcb : (C != 0) = true := by simpa using hC
        have HE := Lib.hid (HE1.out hC)
        clear hC
        go_wp2_with fail
        go_ret2
        exact eachRes_no HE.out HB1.out
      · obtain rfl : C = 0 := by omega
        have HS := Lib.hid (HE2.out rfl)
        obtain ⟨x0, x1⟩ := HX1.out.cells2
        clear hC HE1 HE2
        go_wp2_with (at_builtin; refine wpList_append_own _ rfl _ _ 144 rfl w.heap.size 148 i0 _ 2 24 Tryz.underlying144 hi0 hz0 hz1 hz2 rfl (by decide) _ _ _ rfl (HOW.out.alloc _) ⟨w1.heap.size + 1, 0, none⟩ 1 1 [.string a.1, .int .u64 (a.2 : Int)] rfl rfl (cells_new2 _ _ _ _) ?c2 ?c3 ?c4 ?c5 ?_)
        case c2 => intro u hu; simp at hu; rcases hu with rfl | rfl <;> rfl
        case c3 => have := HAC.out; unfold maxLen; omega
        case c4 => have := HAC.out; omega
        case c5 => have := HB1.out.size; simp at this ⊢; omega
        intro v' w5 hown' hgrow _
        have HB5 := Lib.hid ((HB1.out.alloc HB1.out.size (.cells #[.string a.1, .int .u64 (a.2 : Int)] 148)).grown hgrow (by have := HB1.out.size; simp at this ⊢; omega) (fun q hq => (HOW.out.lt q hq).1))
        have HD5 := Lib.hid (HPU.out _ _ _ hown' hgrow)
        clear hown' hgrow x0 x1
        go_wp2_with fail
        go_roundw
        case rel => exact ⟨k + 1, _, acc ++ [a], rfl, by omega, by omega, by rw [List.length_append, HAC.out]; rfl, HS.out, HD5.out, HB5.out⟩
        case measure => simp [intOf]; omega
    · obtain rfl : k = L.length := by omega
      have HE := Lib.hid (eachM_end (f := opsetI) hat)
      clear hdw hb hat
      go_wp2_with fail
      go_ret2
      exact eachRes_yes HE.out HD.out HB.out
end Go.Proofs.YtjjfdlgoacockaaGreat
namespace Go.Proofs.YtjjfdlgoacockaaGreat
open Go.RowKit M1 M2 M3 M8 M9 M10 M11 M12 Go.Sort
open M7 (nm Ten ck)

theorem empty_ne12 (b : ByteArray) : decide (b ≠ ⟨#[]⟩) = !b.toList.isEmpty := by rw [← empty_is]; simp
set_option maxRecDepth 100000 in
set_option maxHeartbeats 2000000 in
theorem readVersion_any (A : Option Addr) (c : Nat) (o : List ByteArray) (w : World) (hl : o.length ≤ 1048576) (hsz : ∀ b ∈ o, b.size ≤ 1048576) (ha : SR w w.heap.size 1 A o.length (p_tv o)) :
    Calls Tryz.prog 21 #[.slice A o.length c] w fun e w' => e = .returned (.tuple #[.int .i64 (verM o).1, .int .i64 (verM o).2]) ∧ Below w.heap.size w w' := by
  have HC := Lib.hid (each_ops12 A c o w hl hsz ha)
  have HE := Lib.hid (eachM_ops o [])
  clear ha
  go_enter Tryz.func21, Tryz.ntmps21
  go_wp2_with fail
  refine HC.out.mono ?_
  rintro e w1 ⟨v, rfl, hdw, hb⟩
  have HB := Lib.hid hb
  clear hb HC
  rw [HE.out] at hdw ⊢
  by_cases h0 : opErr o ≠ 0
  · rw [if_pos h0] at hdw ⊢
    have HV := Lib.hid (show verM o = (0, (opErr o : Int)) by unfold verM; rw [if_pos h0])
    have hcb : ((opErr o : Int) != 0) = true := by simpa using h0
    obtain ⟨A1, c1, rfl⟩ := hdw.form
    clear hdw HE
    generalize opErr o = C at *
    dsimp only
    clear h0
    go_wp2_with fail
    go_ret2
    rw [HV.out]
    exact ⟨rfl, HB.out⟩
  rw [if_neg h0] at hdw ⊢
  dsimp only at hdw ⊢
  have h0' : opErr o = 0 := by omega
  by_cases h1 : o.length = 1
  case neg =>
    have HV := Lib.hid (show verM o = (0, 16) by unfold verM; rw [if_neg h0, if_pos (opBad_len h1)])
    obtain ⟨A1, c1, rfl⟩ := hdw.form
    simp only [List.nil_append, List.length_map]
    have hlb : ((o.length : Int) != 1) = true := by simpa using (by omega : (o.length : Int) ≠ 1)
    clear hdw HE h0 h0' h1
    go_wp2_with fail
    go_ret2
    rw [HV.out]
    exact ⟨rfl, HB.out⟩
  obtain ⟨b, rfl⟩ := List.length_eq_one_iff.1 h1
  · clear h1
    have hbd := opBad_one b
    obtain ⟨css, hal, hcl, ho⟩ := hdw
    simp only [List.nil_append, List.map_cons, List.map_nil] at hal ho
    obtain ⟨cs, rfl⟩ : ∃ cs, css = [cs] := List.length_eq_one_iff.1 hal.len.symm
    · skip
      have hcs : cs = [.string (opDom b), .int .u64 (opVer b : Int)] := hal.1
      subst hcs
      obtain ⟨g, c1, cur, rfl, -, -⟩ := own_addr ho (by simp)
      have k0 := ho.cellAt 0 (by simp)
      have k1 := ho.cellAt 1 (by simp)
      have HVB := Lib.hid (show opBad [b] = true → verM [b] = (0, 16) from fun h => by unfold verM; rw [if_neg h0, if_pos h])
      have HVO := Lib.hid (show opBad [b] = false → verM [b] = ((opVer b : Int), 0) from fun h => by unfold verM; rw [if_neg h0, if_neg (by simp [h]), opVal_one])
      rw [hbd] at HVB HVO
      rw [empty_ne12] at HVB HVO
      simp only [List.flatten_cons, List.flatten_nil, List.append_nil, List.getElem?_cons_zero, List.getElem?_cons_succ] at k0 k1
      clear ho hal hbd HE h0 h0' hcl
      generalize opDom b = d at *
      generalize opVer b = n at *
      cases hem : d.toList.isEmpty
      · rw [hem] at HVB
        have HV := Lib.hid (HVB.out rfl)
        clear HVB HVO
        go_wp2_with fail
        go_ret2
        rw [HV.out]
        exact ⟨rfl, HB.out⟩
      · rw [hem] at HVB HVO
        by_cases hn : 2147483648 < n
        · have hn' : (2147483648 : Int) < (n : Int) := by omega
          have HV := Lib.hid (HVB.out (by simp [hn]))
          clear HVB HVO hn
          go_wp2_with fail
          go_ret2
          rw [HV.out]
          exact ⟨rfl, HB.out⟩
        · have hn' : ¬ (2147483648 : Int) < (n : Int) := by omega
          have hw : IntKind.i64.wrap (n : Int) = (n : Int) := by rw [IntKind.wrap_i64]; omega
          have HV := Lib.hid (HVO.out (by simp [hn]))
          clear HVB HVO hn
          go_wp2_with fail
          go_ret2
          rw [HV.out]
          exact ⟨rfl, HB.out⟩
end Go.Proofs.YtjjfdlgoacockaaGreat
