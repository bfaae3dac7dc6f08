/- Files: as cells, as the datum of a map, what is made and read of them. No program is imported. -/
import Derived.Test.YtiniicehfjgpgaaGreatOMath
import Derived.Test.YtiniicehfjgpgaaGreatRow
import Derived.Test.YtiniicehfjgpgaaGreatGRefTwo
import Derived.Maps.OwnSet
import Derived.Maps.StringElems
import Derived.Sort.KeysCollected
namespace Go.Proofs.YtiniicehfjgpgaaGreat
open Go.RowKit Go.Maps Go.ChangeMaps
namespace M8
instance memDec (s : ByteArray) (l : List ByteArray) : Decidable (s ∈ l) := decidable_of_iff (l.any (fun x => decide (x = s)) = true) (by simp)
structure Fl where
  key : ByteArray
  data : ByteArray
instance : Inhabited Fl := ⟨⟨⟨#[]⟩, ⟨#[]⟩⟩⟩
/-- files as cells -/
def fcl (l : List Fl) : List Value := l.flatMap fun f => [.string f.key, .string f.data]
theorem fcl_len (l : List Fl) : (fcl l).length = l.length * 2 := by
  induction l with
  | nil => rfl
  | cons p l ih => unfold fcl at *; rw [List.flatMap_cons, List.length_append, ih]; simp; omega
theorem fcl_append (a b : List Fl) : fcl (a ++ b) = fcl a ++ fcl b := by unfold fcl; simp
theorem fcl_at : ∀ (l : List Fl) (k : Nat) (h : k < l.length), (fcl l)[k * 2]? = some (.string l[k].key) ∧ (fcl l)[k * 2 + 1]? = some (.string l[k].data)
  | [], k, h => by cases h
  | p :: l, 0, h => by unfold fcl; simp
  | p :: l, k + 1, h => by
    have h' : k < l.length := by simpa using h
    have ih := fcl_at l k h'
    have e : fcl (p :: l) = .string p.key :: .string p.data :: fcl l := by unfold fcl; simp
    rw [e, show (k + 1) * 2 = k * 2 + 1 + 1 by omega]
    simpa using ih
/-- one file of a row -/
theorem file_at {w : World} {B : Nat} {A : Option Addr} {l : List Fl} (h : SR w B 2 A l.length (fcl l)) {k : Nat} (hk : k < l.length) :
    ∃ b o, A = some ⟨b, o, none⟩ ∧ b < B ∧ w.cell? ⟨b, o + k * 2, none⟩ = some (.string l[k].key) ∧ w.cell? ⟨b, o + k * 2 + 1, none⟩ = some (.string l[k].data) := by
  obtain ⟨b, o, hA, hb, hc⟩ := h.at_ hk
  obtain ⟨h0, h1⟩ := fcl_at l k hk
  exact ⟨b, o, hA, hb, by simpa using hc 0 (by omega) _ (by simpa using h0), hc 1 (by omega) _ h1⟩

/-! what New says -/
def keys (l : List Fl) : List ByteArray := l.map Fl.key
def goN : List ByteArray → List Fl → Int
  | _, [] => 0
  | seen, f :: r => if keyB f.key = false then 9 else if f.key ∈ seen then 14 else goN (seen ++ [f.key]) r
def newC (l : List Fl) : Int := if 64 < l.length then 7 else goN [] l
def kept (l : List Fl) : List Fl := if newC l = 0 then l else []
/-- k files have gone by without a fault -/
def Gone (l : List Fl) (k : Nat) : Prop := l.length ≤ 64 ∧ newC l = goN (keys (l.take k)) (l.drop k) ∧ (keys (l.take k)).Nodup
theorem Gone.start {l : List Fl} (h : l.length ≤ 64) : Gone l 0 := ⟨h, by unfold newC; rw [if_neg (by omega)]; rfl, by simp [keys]⟩
theorem keys_snoc {l : List Fl} {k : Nat} (h : k < l.length) : keys (l.take (k + 1)) = keys (l.take k) ++ [l[k].key] := by
  unfold keys; rw [List.take_succ_eq_append_getElem h, List.map_append]; rfl
theorem Gone.cons {l : List Fl} {k : Nat} (h : Gone l k) (hk : k < l.length) : newC l = if keyB l[k].key = false then 9 else if l[k].key ∈ keys (l.take k) then 14 else goN (keys (l.take (k + 1))) (l.drop (k + 1)) := by
  rw [h.2.1, List.drop_eq_getElem_cons hk, keys_snoc hk]; rfl
theorem Gone.path {l : List Fl} {k : Nat} (h : Gone l k) (hk : k < l.length) (h1 : keyB l[k].key = false) : newC l = 9 := by rw [h.cons hk, if_pos h1]
theorem Gone.twice {l : List Fl} {k : Nat} (h : Gone l k) (hk : k < l.length) (h1 : keyB l[k].key = true) (h2 : l[k].key ∈ keys (l.take k)) : newC l = 14 := by
  rw [h.cons hk, if_neg (by rw [h1]; decide), if_pos h2]
theorem Gone.next {l : List Fl} {k : Nat} (h : Gone l k) (hk : k < l.length) (h1 : keyB l[k].key = true) (h2 : ¬ l[k].key ∈ keys (l.take k)) : Gone l (k + 1) := by
  refine ⟨h.1, by rw [h.cons hk, if_neg (by rw [h1]; decide), if_neg h2], ?_⟩
  rw [keys_snoc hk, List.nodup_append]
  exact ⟨h.2.2, by simp, fun a ha b hb => by simp at hb; rw [hb]; exact fun e => h2 (e ▸ ha)⟩
theorem Gone.end_ {l : List Fl} (h : Gone l l.length) : newC l = 0 ∧ (keys l).Nodup := by
  have h1 := h.2.1
  have h2 := h.2.2
  rw [List.drop_length] at h1
  rw [List.take_length] at h2
  exact ⟨h1, h2⟩
theorem newC_size {l : List Fl} (h : 64 < l.length) : newC l = 7 := by unfold newC; rw [if_pos h]
theorem kept_no {l : List Fl} {c : Int} (h : newC l = c) (hc : c ≠ 0) : kept l = [] := by unfold kept; rw [if_neg (by rw [h]; exact hc)]
theorem kept_yes {l : List Fl} (h : newC l = 0) : kept l = l := by unfold kept; rw [if_pos h]
theorem mem_keys_take {l : List Fl} {k : Nat} {s : ByteArray} (hk : k ≤ l.length) : s ∈ keys (l.take k) ↔ ∃ j, ∃ h : j < l.length, j < k ∧ l[j].key = s := by
  unfold keys
  rw [List.mem_map]
  constructor
  · rintro ⟨f, hf, rfl⟩
    obtain ⟨j, hj, rfl⟩ := List.getElem_of_mem hf
    simp at hj
    exact ⟨j, by omega, by omega, by simp⟩
  · rintro ⟨j, h, hj, rfl⟩
    exact ⟨l[j], List.mem_take_iff_getElem.2 ⟨j, by omega, rfl⟩, rfl⟩

/-! the map as a datum -/
abbrev FD := DataW Unit
def fk (s : ByteArray) : Lit := .string s.data.toList
def fv (s : ByteArray) : FD := .lit (.string s.data.toList)
theorem fk_inj {a b : ByteArray} (h : fk a = fk b) : a = b := by
  unfold fk at h
  have h2 : a.data.toList = b.data.toList := by injection h
  exact ByteArray.ext (Array.ext' h2)
theorem fk_ok (s : ByteArray) : WideAt.IsKeyLit (fk s) := trivial
def fdat (l : List Fl) : FD := l.foldl (fun m f => m.put (fk f.key) (fv f.data)) (.map [])
theorem fdat_snoc (l : List Fl) (f : Fl) : fdat (l ++ [f]) = (fdat l).put (fk f.key) (fv f.data) := by unfold fdat; simp
theorem isMap_put {D : FD} (h : IsMap D) (k : Lit) (d : FD) : IsMap (D.put k d) := by
  obtain ⟨es, rfl⟩ := h; exact ⟨_, rfl⟩
theorem fold_map : ∀ (l : List Fl) (m : FD), IsMap m → IsMap (l.foldl (fun m f => m.put (fk f.key) (fv f.data)) m)
  | [], _, h => h
  | _ :: l, _, h => fold_map l _ (isMap_put h _ _)
theorem fdat_map (l : List Fl) : IsMap (fdat l) := fold_map l _ ⟨[], rfl⟩
theorem fold_has (s : ByteArray) : ∀ (l : List Fl) (m : FD), IsMap m → has (l.foldl (fun m f => m.put (fk f.key) (fv f.data)) m) (fk s) = (has m (fk s) || decide (s ∈ keys l))
  | [], m, _ => by simp [keys]
  | f :: l, m, h => by
    rw [List.foldl_cons, fold_has s l _ (isMap_put h _ _)]
    by_cases e : s = f.key
    · subst e
      rw [has_put_same h (fk_ok _)]
      simp [keys]
    · rw [has_put_other (fun h2 => e (fk_inj h2))]
      simp [keys, e]
theorem fdat_has (l : List Fl) (s : ByteArray) : has (fdat l) (fk s) = decide (s ∈ keys l) := by
  unfold fdat; rw [fold_has s l _ ⟨[], rfl⟩]; rfl
theorem fold_far (s : ByteArray) (z : FD) : ∀ (l : List Fl) (m : FD), IsMap m → s ∉ keys l → (l.foldl (fun m f => m.put (fk f.key) (fv f.data)) m).atKey (fk s) z = m.atKey (fk s) z
  | [], m, _, _ => rfl
  | f :: l, m, h, hs => by
    have h1 : s ≠ f.key := fun e => hs (by simp [keys, e])
    have h2 : s ∉ keys l := fun e => hs (by unfold keys at *; simp [e])
    rw [List.foldl_cons, fold_far s z l _ (isMap_put h _ _) h2, atKey_put_other (fun h2 => h1 (fk_inj h2))]
theorem fold_at (z : FD) : ∀ (l : List Fl) (m : FD), IsMap m → (keys l).Nodup → ∀ f ∈ l, (l.foldl (fun m f => m.put (fk f.key) (fv f.data)) m).atKey (fk f.key) z = fv f.data
  | f :: l, m, h, hn, g, hg => by
    have hn' : f.key ∉ keys l ∧ (keys l).Nodup := by unfold keys at *; simpa using hn
    rw [List.foldl_cons]
    rcases List.mem_cons.1 hg with rfl | hg
    · rw [fold_far _ z l _ (isMap_put h _ _) hn'.1, atKey_put_same h (fk_ok _)]
    · exact fold_at z l _ (isMap_put h _ _) hn'.2 g hg
theorem fdat_at {l : List Fl} (hn : (keys l).Nodup) {f : Fl} (hf : f ∈ l) (z : FD) : (fdat l).atKey (fk f.key) z = fv f.data := fold_at z l _ ⟨[], rfl⟩ hn f hf

/-! what Read says -/
def rdC (l : List Fl) (key : ByteArray) (off len : Int) : ByteArray × Int :=
  if keyB key = false then (⟨#[]⟩, 9) else if off < 0 ∨ len < 0 then (⟨#[]⟩, 17) else
  match l.find? (fun f => decide (f.key = key)) with
  | none => (⟨#[]⟩, 18)
  | some f => if (f.data.size : Int) - off < len then (⟨#[]⟩, 1) else (f.data.extract off.toNat (off + len).toNat, 0)
theorem rdC_path {l : List Fl} {key : ByteArray} {off len : Int} (h : keyB key = false) : rdC l key off len = (⟨#[]⟩, 9) := by unfold rdC; rw [if_pos h]
theorem rdC_value {l : List Fl} {key : ByteArray} {off len : Int} (h : keyB key = true) (h1 : off < 0 ∨ len < 0) : rdC l key off len = (⟨#[]⟩, 17) := by unfold rdC; rw [if_neg (by rw [h]; decide), if_pos h1]
theorem rdC_missing {l : List Fl} {key : ByteArray} {off len : Int} (h : keyB key = true) (h1 : ¬ (off < 0 ∨ len < 0)) (h2 : key ∉ keys l) : rdC l key off len = (⟨#[]⟩, 18) := by
  unfold rdC
  rw [if_neg (by rw [h]; decide), if_neg h1, List.find?_eq_none.2 (fun f hf => by
    rw [decide_eq_true_eq]
    intro e
    exact h2 (List.mem_map.2 ⟨f, hf, e⟩))]
theorem rdC_short {l : List Fl} {key : ByteArray} {off len : Int} {f : Fl} (h : keyB key = true) (h1 : ¬ (off < 0 ∨ len < 0)) (h2 : l.find? (fun f => decide (f.key = key)) = some f) (h3 : (f.data.size : Int) - off < len) : rdC l key off len = (⟨#[]⟩, 1) := by
  unfold rdC; rw [if_neg (by rw [h]; decide), if_neg h1, h2]; simp only [if_pos h3]
theorem rdC_ok {l : List Fl} {key : ByteArray} {off len : Int} {f : Fl} (h : keyB key = true) (h1 : ¬ (off < 0 ∨ len < 0)) (h2 : l.find? (fun f => decide (f.key = key)) = some f) (h3 : ¬ (f.data.size : Int) - off < len) : rdC l key off len = (f.data.extract off.toNat (off + len).toNat, 0) := by
  unfold rdC; rw [if_neg (by rw [h]; decide), if_neg h1, h2]; simp only [if_neg h3]
theorem find_in {l : List Fl} {key : ByteArray} (h : key ∈ keys l) : ∃ f, l.find? (fun f => decide (f.key = key)) = some f ∧ f ∈ l ∧ f.key = key := by
  obtain ⟨g, hg, e⟩ := List.mem_map.1 h
  cases hf : l.find? (fun f => decide (f.key = key)) with
  | none => exact absurd e (by have := List.find?_eq_none.1 hf g hg; simpa using this)
  | some f => exact ⟨f, rfl, List.mem_of_find?_eq_some hf, by simpa using List.find?_some hf⟩
/-- the file at place k is the one that is looked for: none ahead is -/
theorem find_at {l : List Fl} {key : ByteArray} {k : Nat} (hk : k < l.length) (hn : ∀ j, (h : j < l.length) → j < k → l[j].key ≠ key) (he : l[k].key = key) : l.find? (fun f => decide (f.key = key)) = some l[k] := by
  rw [List.find?_eq_some_iff_getElem]
  exact ⟨by simpa using he, k, hk, rfl, fun j hj => by simpa using hn j (by omega) hj⟩
theorem not_in {l : List Fl} {key : ByteArray} (hn : ∀ j, (h : j < l.length) → l[j].key ≠ key) : key ∉ keys l := by
  intro h
  obtain ⟨f, hf, e⟩ := List.mem_map.1 h
  obtain ⟨j, hj, rfl⟩ := List.getElem_of_mem hf
  exact hn j hj e
end M8
end Go.Proofs.YtiniicehfjgpgaaGreat
