/- The walks of Check, the program's and the document's own, by contract. -/
import Derived.Test.YtiniicehfjgpgaaGreatGRefTwo
import Derived.Test.YtiniicehfjgpgaaGreatKSize
import Derived.Test.YtiniicehfjgpgaaGreatSSize
import Derived.Lib.QuietBelow
import Derived.BigQuiet
import Derived.Test.YtiniicehfjgpgaaGreatRow
import Derived.Test.YtiniicehfjgpgaaGreatGPutTwo
namespace Go.Proofs.YtiniicehfjgpgaaGreat
open Go.RowKit M6 M7 Go.Sort

/-- a tensor that lies in the world -/
structure Tok (w : World) (t : Ten) (A : Option Addr) : Prop where
  name : t.name.size ≤ 140737488351232
  data : t.data.size ≤ 140737488351232
  kind : (Lit.int .i64 t.kind).wf = true
  dims : SR w w.heap.size 1 A t.dims.length (iv t.dims)
  len : t.dims.length ≤ maxLen
  ints : ∀ n ∈ t.dims, I64 n
theorem Tok.below {w w' : World} {t : Ten} {A : Option Addr} (h : Tok w t A) (hb : Below w.heap.size w w') : Tok w' t A := ⟨h.name, h.data, h.kind, (h.dims.below hb).more hb.size, h.len, h.ints⟩
theorem size_nat (k : Int) : ∃ s : Nat, kSize k = (s : Int) ∧ s ≤ 8 := by
  rcases kSize_is k with h | h | h | h
  · exact ⟨0, h, by omega⟩
  · exact ⟨1, h, by omega⟩
  · exact ⟨4, h, by omega⟩
  · exact ⟨8, h, by omega⟩
theorem count_nat (l : List Int) : ∃ n : Nat, (M5.sz l).1 = (n : Int) ∧ n ≤ 65536 := by
  rcases M5.sz_cases l with ⟨c, h, _⟩ | ⟨h, hs⟩
  · exact ⟨0, by rw [h]; rfl, by omega⟩
  · have h0 := M5.prd_nonneg hs.2
    rw [h]
    exact ⟨(M5.prd l).toNat, by simp; omega, by have := hs.4; simp; omega⟩
theorem small_prod {n s : Nat} (hn : n ≤ 65536) (hs : s ≤ 8) : 0 ≤ (n : Int) * (s : Int) ∧ (n : Int) * (s : Int) ≤ 524288 := by
  have := Nat.mul_le_mul hn hs
  rw [← Int.natCast_mul]
  omega

set_option maxRecDepth 100000 in
theorem tcheck_any (t : Ten) (A : Option Addr) (c : Nat) (w : World) (ht : Tok w t A) :
    Calls Tryz.prog 79 #[t_tv t.name t.kind (.slice A t.dims.length c) t.data] w fun e w' => e = .returned (.int .i64 (ck t)) ∧ Below w.heap.size w w' := by
  have hd := ht.data
  obtain ⟨s, hs, hs8⟩ := size_nat t.kind
  obtain ⟨n, hn, hn6⟩ := count_nat t.dims
  have HT := Lib.hid ht
  clear ht
  have HNM := Lib.hid (fun W => name_any t.name W (by have := HT.out.name; unfold maxLen; omega))
  have HBX := Lib.hid (Bx.start w #[.string t.name, .int .i64 t.kind, .slice A t.dims.length c, .string t.data] 98)
  cases hnm : nm t.name
  · have HE := Lib.hid (ck_name hnm)
    have HN := Lib.hid hnm
    clear hnm hs hn
    go_enter Tryz.func79, Tryz.ntmps79
    go_wp2_with fail
    refine (HNM.out _).mono ?_
    rintro e w1 ⟨rfl, rfl⟩
    rw [HN.out]
    go_wp2_with fail
    go_ret
    rw [HE.out]
    exact ⟨rfl, HBX.out.all⟩
  · have HN := Lib.hid hnm
    clear hnm
    go_enter Tryz.func79, Tryz.ntmps79
    go_wp2_with fail
    refine (HNM.out _).mono ?_
    rintro e w1 ⟨rfl, rfl⟩
    rw [HN.out]
    clear HNM
    go_wp2_with fail
    refine (k_size_any t.kind _ HT.out.kind).mono ?_
    rintro e w1 ⟨rfl, hb1⟩
    have H1 := Lib.hid (HBX.out.below hb1)
    clear hb1 HBX
    rw [hs]
    by_cases hs0 : s = 0
    · subst hs0
      have HE := Lib.hid (ck_kind HN.out hs)
      clear hs hn
      go_wp2_with fail
      go_ret
      rw [HE.out]
      exact ⟨rfl, H1.out.all⟩
    · have hs0' : ¬ (s : Int) = 0 := by omega
      obtain ⟨c0, c1, c2, c3⟩ := H1.out.four
      have HSZ := Lib.hid (shSize_any A c t.dims w1 HT.out.len (HT.out.below H1.out.all).dims HT.out.ints)
      have hk0 : kSize t.kind ≠ 0 := by rw [hs]; exact hs0'
      have HK0 := Lib.hid hk0
      have HSE := Lib.hid hs
      have HNE := Lib.hid hn
      clear hk0 hs hn
      go_wp2_with fail
      refine HSZ.out.mono ?_
      rintro e w2 ⟨rfl, rfl⟩
      rw [HNE.out]
      clear HSZ
      by_cases he : (M5.sz t.dims).2 = 0
      · have HE0 := Lib.hid he
        rw [he]
        clear he
        obtain ⟨p0, p1⟩ := small_prod hn6 hs8
        by_cases hf : (t.data.size : Int) = (n : Int) * (s : Int)
        · have hf' : ((t.data.size : Int) != (n : Int) * (s : Int)) = false := by simpa using hf
          have hfn : t.data.size = n * s := by rw [← Int.natCast_mul] at hf; omega
          have HF := Lib.hid hfn
          have HBAD := Lib.hid (fun (j : Nat) (hj : (j : Int) < (M5.sz t.dims).1) (h : elk t.kind t.data j = false) => ck_bad HN.out HK0.out HE0.out (by rw [HNE.out, HSE.out]; exact hf) hj h)
          have HOK := Lib.hid (fun (h : ∀ j : Nat, (j : Int) < (M5.sz t.dims).1 → elk t.kind t.data j = true) => ck_ok HN.out HK0.out HE0.out (by rw [HNE.out, HSE.out]; exact hf) h)
          clear hf hfn hs0
          go_wp2_with fail
          go_loopw [6, 33] (fun _ i wr => ∃ (k : Nat) (K : Int), i = .int .i64 K ∧ K = (k : Nat) ∧ k ≤ n ∧ (∀ j, j < k → elk t.kind t.data j = true) ∧ Bx w w.heap.size #[.string t.name, .int .i64 t.kind, .slice A t.dims.length c, .string t.data] 98 wr) (fun _ i _ => n - (intOf i).toNat)
          case atStart => exact ⟨0, _, rfl, rfl, by omega, by intro j hj; omega, H1.out⟩
          case round =>
            obtain ⟨k, K, rfl, rfl, hk, hall, hbx⟩ := hrel
            have HB := Lib.hid hbx
            have HA := Lib.hid hall
            clear hbx hall
            by_cases hlt : k < n
            · have hkn : (k + 1) * s ≤ t.data.size := by rw [HF.out]; exact Nat.mul_le_mul_right _ (by omega)
              have hst : (kSize t.kind).toNat = s := by rw [HSE.out]; omega
              have hme := may_elk (k := t.kind) (d := t.data) (j := k) (by rw [hst]; exact hkn)
              rw [hst] at hme
              have hsz8 : t.kind = 14 → (t.data.extract (k * s) ((k + 1) * s)).size = 8 := by
                intro h14
                have : s = 8 := by have := kSize_gauss h14; rw [this] at hst; omega
                subst this
                rw [ByteArray.size_extract]
                omega
              have HC := Lib.hid (fun W => t_cut_any t.name t.kind A t.dims.length c t.data k s W (by unfold maxLen; omega) hkn (by omega))
              have HM := Lib.hid (fun W => t_may_any t.kind (t.data.extract (k * s) ((k + 1) * s)) W hsz8)
              rw [hme] at HM
              obtain ⟨x0, x1, x2, x3⟩ := HB.out.four
              have q0 := fun d os => cell_regrown x0 d os
              have q1 := fun d os => cell_regrown x1 d os
              have q2 := fun d os => cell_regrown x2 d os
              have q3 := fun d os => cell_regrown x3 d os
              have hbs := HB.out.2.1
              generalize t.data.extract (k * s) ((k + 1) * s) = E at *
              clear x0 x1 x2 x3 hkn hst hme hsz8 c0 c1 c2 c3
              cases hel : elk t.kind t.data k
              · rw [hel] at HM
                have HE := Lib.hid (HBAD.out k (by rw [HNE.out]; omega) hel)
                clear hel
                go_wp2_with fail
                refine wp_region_quiet_below (by kernel_rfl) (by kernel_rfl) ?_
                repeat (go_big_quiet_step ((first
                  | (go_at_call 102; exact Calls.regrown_of (HC.out _))
                  | (go_at_call 101; exact Calls.regrown_of (HM.out _)))))
                refine wpQuiet_nil ?_
                rintro w2 ⟨p, rfl⟩
                have H2 := Lib.hid (HB.out.below (below_regrown wr p.d p.os))
                clear q0 q1 q2 q3
                generalize grow (redrawn wr p.d) p.os = w2 at H2 ⊢
                go_wp2_with fail
                go_ret
                rw [HE.out]
                exact ⟨rfl, H2.out.all⟩
              · rw [hel] at HM
                have HE := Lib.hid (succ_all (Q := fun j => elk t.kind t.data j = true) HA.out hel)
                clear hel
                go_wp2_with fail
                refine wp_region_quiet_below (by kernel_rfl) (by kernel_rfl) ?_
                repeat (go_big_quiet_step ((first
                  | (go_at_call 102; exact Calls.regrown_of (HC.out _))
                  | (go_at_call 101; exact Calls.regrown_of (HM.out _)))))
                refine wpQuiet_nil ?_
                rintro w2 ⟨p, rfl⟩
                have H2 := Lib.hid (HB.out.below (below_regrown wr p.d p.os))
                clear q0 q1 q2 q3
                generalize grow (redrawn wr p.d) p.os = w2 at H2 ⊢
                go_wp2_with fail
                go_roundw
                case rel => exact ⟨k + 1, _, rfl, by omega, by omega, HE.out, H2.out⟩
                case measure => simp [intOf]; omega
            · obtain rfl : k = n := by omega
              have HE := Lib.hid (HOK.out (by intro j hj; rw [HNE.out] at hj; exact HA.out j (by omega)))
              go_wp2_with fail
              go_ret
              rw [HE.out]
              exact ⟨rfl, HB.out.all⟩
        · have hf' : ((t.data.size : Int) != (n : Int) * (s : Int)) = true := by simpa using hf
          have HE := Lib.hid (ck_form HN.out HK0.out HE0.out (by rw [HNE.out, HSE.out]; exact hf))
          clear hf
          go_wp2_with fail
          go_ret
          rw [HE.out]
          exact ⟨rfl, H1.out.all⟩
      · have HE := Lib.hid (ck_shape HN.out HK0.out he)
        have he' : ¬ ((M5.sz t.dims).2 : Int) = 0 := by omega
        generalize hz : (M5.sz t.dims).2 = z at *
        clear he
        go_wp2_with fail
        go_ret
        rw [HE.out]
        exact ⟨rfl, H1.out.all⟩

theorem ext8 {d : ByteArray} {k n : Nat} (h : d.size = n * 8) (hk : k < n) : (d.extract (k * 8) ((k + 1) * 8)).size = 8 := by
  rw [ByteArray.size_extract]; omega

end Go.Proofs.YtiniicehfjgpgaaGreat
/- The walks of Same, the program's and the document's own, of Elem and Of. -/
namespace Go.Proofs.YtiniicehfjgpgaaGreat
open Go.RowKit M7

/-- are two tensors alike -/
def sameT (t u : Ten) : Bool := decide (t.name = u.name) && decide (t.kind = u.kind) && decide (t.dims = u.dims) && decide (t.data = u.data)
theorem sameT_name {t u : Ten} (h : t.name ≠ u.name) : sameT t u = false := by unfold sameT; rw [decide_eq_false h]; rfl
theorem sameT_kind {t u : Ten} (h : t.kind ≠ u.kind) : sameT t u = false := by unfold sameT; rw [decide_eq_false h]; simp
theorem sameT_dims {t u : Ten} (h : t.dims ≠ u.dims) : sameT t u = false := by unfold sameT; rw [decide_eq_false h]; simp
theorem sameT_data {t u : Ten} (h : t.data ≠ u.data) : sameT t u = false := by unfold sameT; rw [decide_eq_false h]; simp
theorem sameT_yes {t u : Ten} (h1 : t.name = u.name) (h2 : t.kind = u.kind) (h3 : t.dims = u.dims) (h4 : t.data = u.data) : sameT t u = true := by
  unfold sameT; rw [decide_eq_true h1, decide_eq_true h2, decide_eq_true h3, decide_eq_true h4]; rfl

end Go.Proofs.YtiniicehfjgpgaaGreat
/- Models: what they are, when two are alike, what a clone holds; elements in a row of cells. No walk. -/
namespace Go.Proofs.YtiniicehfjgpgaaGreat
open Go.RowKit M7

namespace M10
structure Inf where
  name : ByteArray
  kind : Int
  dims : List Int
deriving Inhabited
structure Att where
  name : ByteArray
  one : Bool
  int : Int
  ints : List Int
deriving Inhabited
structure Nod where
  op : ByteArray
  ins : List ByteArray
  out : ByteArray
  attrs : List Att
deriving Inhabited
structure Mod where
  opset : Int
  inputs : List Inf
  outputs : List Inf
  inits : List Ten
  nodes : List Nod
end M10
open M10
deriving instance Inhabited for Ten

/-- two lists, element by element -/
def eqAll {α : Type} (f : α → α → Bool) : List α → List α → Bool
  | [], [] => true
  | a :: l, b :: m => f a b && eqAll f l m
  | _, _ => false
/-- .. so far -/
def eqTo {α : Type} (f : α → α → Bool) (l m : List α) (k : Nat) : Prop := ∀ j, j < k → ∀ (h1 : j < l.length) (h2 : j < m.length), f l[j] m[j] = true
section
variable {α : Type} {f : α → α → Bool}
theorem eqAll_len : ∀ {l m : List α}, l.length ≠ m.length → eqAll f l m = false
  | [], [], h => absurd rfl h
  | [], _ :: _, _ => rfl
  | _ :: _, [], _ => rfl
  | a :: l, b :: m, h => by
    have := eqAll_len (l := l) (m := m) (by simpa using h)
    simp [eqAll, this]
theorem eqAll_no : ∀ {l m : List α} {k : Nat} (h1 : k < l.length) (h2 : k < m.length), f l[k] m[k] = false → eqAll f l m = false
  | [], _, _, h1, _, _ => absurd h1 (by simp)
  | _ :: _, [], _, _, h2, _ => absurd h2 (by simp)
  | a :: l, b :: m, 0, _, _, h => by
    have h' : f a b = false := by simpa using h
    simp [eqAll, h']
  | a :: l, b :: m, k + 1, h1, h2, h => by
    have := eqAll_no (l := l) (m := m) (k := k) (by simpa using h1) (by simpa using h2) (by simpa using h)
    simp [eqAll, this]
theorem eqAll_yes : ∀ {l m : List α}, l.length = m.length → eqTo f l m l.length → eqAll f l m = true
  | [], [], _, _ => rfl
  | [], _ :: _, h, _ => by simp at h
  | _ :: _, [], h, _ => by simp at h
  | a :: l, b :: m, h, ht => by
    have h0 : f a b = true := ht 0 (by simp) (by simp) (by simp)
    have := eqAll_yes (l := l) (m := m) (by simpa using h) (fun j hj h1 h2 => ht (j + 1) (Nat.succ_lt_succ hj) (Nat.succ_lt_succ h1) (Nat.succ_lt_succ h2))
    simp [eqAll, h0, this]
theorem eqTo_zero (l m : List α) : eqTo f l m 0 := fun j h => absurd h (by omega)
theorem eqTo_succ {l m : List α} {k : Nat} (h : eqTo f l m k) (h1 : k < l.length) (h2 : k < m.length) (hf : f l[k] m[k] = true) : eqTo f l m (k + 1) := by
  intro j hj a b
  by_cases hjk : j = k
  · subst hjk; exact hf
  · exact h j (by omega) a b
theorem eqAll_refl (hr : ∀ a, f a a = true) : ∀ l : List α, eqAll f l l = true
  | [] => rfl
  | a :: l => by simp [eqAll, hr a, eqAll_refl hr l]
theorem eqAll_map {g : α → α} (hr : ∀ a, f (g a) a = true) : ∀ l : List α, eqAll f (l.map g) l = true
  | [] => rfl
  | a :: l => by simp [eqAll, hr a, eqAll_map hr l]
theorem eqAll_map2 {g : α → α} (hr : ∀ a, f a (g a) = true) : ∀ l : List α, eqAll f l (l.map g) = true
  | [] => rfl
  | a :: l => by simp [eqAll, hr a, eqAll_map2 hr l]
end
theorem eqAll_eq {α : Type} [DecidableEq α] : ∀ (l m : List α), eqAll (fun a b => decide (a = b)) l m = decide (l = m)
  | [], [] => by simp [eqAll]
  | [], _ :: _ => by simp [eqAll]
  | _ :: _, [] => by simp [eqAll]
  | a :: l, b :: m => by rw [eqAll, eqAll_eq l m]; simp

/-- are two infos alike -/
def sameI (i j : Inf) : Bool := decide (i.name = j.name) && decide (i.kind = j.kind) && decide (i.dims = j.dims)
/-- are two attributes alike -/
def sameA (a b : Att) : Bool := decide (a.name = b.name) && (a.one == b.one) && (if a.one then decide (a.int = b.int) else decide (a.ints = b.ints))
/-- are two nodes alike -/
def sameN (n o : Nod) : Bool := decide (n.op = o.op) && decide (n.ins = o.ins) && decide (n.out = o.out) && eqAll sameA n.attrs o.attrs
/-- are two models alike -/
def sameM (m n : Mod) : Bool := decide (m.opset = n.opset) && eqAll sameI m.inputs n.inputs && eqAll sameI m.outputs n.outputs && eqAll sameT m.inits n.inits && eqAll sameN m.nodes n.nodes
/-- what a clone holds of an attribute -/
def nA (a : Att) : Att := if a.one then ⟨a.name, true, a.int, []⟩ else ⟨a.name, false, 0, a.ints⟩
def nN (n : Nod) : Nod := ⟨n.op, n.ins, n.out, n.attrs.map nA⟩
def nM (m : Mod) : Mod := ⟨m.opset, m.inputs, m.outputs, m.inits, m.nodes.map nN⟩
theorem sameT_refl (t : Ten) : sameT t t = true := sameT_yes rfl rfl rfl rfl
theorem sameI_refl (i : Inf) : sameI i i = true := by simp [sameI]
theorem sameA_refl (a : Att) : sameA a a = true := by unfold sameA; cases a.one <;> simp
theorem sameA_nA (a : Att) : sameA (nA a) a = true := by unfold sameA nA; cases h : a.one <;> simp
theorem sameA_nA2 (a : Att) : sameA a (nA a) = true := by unfold sameA nA; cases h : a.one <;> simp
theorem sameN_refl (n : Nod) : sameN n n = true := by simp [sameN, eqAll_refl sameA_refl]
theorem sameN_nN (n : Nod) : sameN (nN n) n = true := by simp [sameN, nN, eqAll_map sameA_nA]
theorem sameN_nN2 (n : Nod) : sameN n (nN n) = true := by simp [sameN, nN, eqAll_map2 sameA_nA2]
theorem sameM_refl (m : Mod) : sameM m m = true := by simp [sameM, eqAll_refl sameI_refl, eqAll_refl sameT_refl, eqAll_refl sameN_refl]
theorem sameM_nM (m : Mod) : sameM (nM m) m = true := by simp [sameM, nM, eqAll_refl sameI_refl, eqAll_refl sameT_refl, eqAll_map sameN_nN]
theorem sameM_nM2 (m : Mod) : sameM m (nM m) = true := by simp [sameM, nM, eqAll_refl sameI_refl, eqAll_refl sameT_refl, eqAll_map2 sameN_nN2]

/-- elements and their cells -/
def Al {α : Type} (P : α → List Value → Prop) : List α → List (List Value) → Prop
  | [], [] => True
  | a :: l, c :: cs => P a c ∧ Al P l cs
  | _, _ => False
section
variable {α : Type} {P Q : α → List Value → Prop}
theorem Al.len : ∀ {l : List α} {css : List (List Value)}, Al P l css → l.length = css.length
  | [], [], _ => rfl
  | _ :: _, [], h => h.elim
  | [], _ :: _, h => h.elim
  | _ :: l, _ :: css, h => by simp [Al.len h.2]
theorem Al.mono (hm : ∀ a c, P a c → Q a c) : ∀ {l : List α} {css : List (List Value)}, Al P l css → Al Q l css
  | [], [], _ => trivial
  | _ :: _, [], h => h.elim
  | [], _ :: _, h => h.elim
  | _ :: _, _ :: _, h => ⟨hm _ _ h.1, Al.mono hm h.2⟩
theorem Al.get : ∀ {l : List α} {css : List (List Value)} {k : Nat} (_ : Al P l css) (h1 : k < l.length) (h2 : k < css.length), P l[k] css[k]
  | [], _, _, _, h1, _ => absurd h1 (by simp)
  | _ :: _, [], _, h, _, _ => h.elim
  | a :: l, c :: css, 0, h, _, _ => h.1
  | a :: l, c :: css, k + 1, h, h1, h2 => by simpa using Al.get h.2 (by simpa using h1) (by simpa using h2)
theorem Al.mem {l : List α} {css : List (List Value)} (h : Al P l css) : ∀ c ∈ css, ∃ a ∈ l, P a c := by
  intro c hc
  obtain ⟨k, hk, rfl⟩ := List.mem_iff_getElem.1 hc
  have h1 : k < l.length := by rw [h.len]; exact hk
  exact ⟨l[k], List.getElem_mem h1, h.get h1 hk⟩
theorem Al.snoc : ∀ {l : List α} {css : List (List Value)} {a : α} {c : List Value}, Al P l css → P a c → Al P (l ++ [a]) (css ++ [c])
  | [], [], _, _, _, hp => ⟨hp, trivial⟩
  | _ :: _, [], _, _, h, _ => h.elim
  | [], _ :: _, _, _, h, _ => h.elim
  | _ :: _, _ :: _, _, _, h, hp => ⟨h.1, Al.snoc h.2 hp⟩
theorem Al.of_get : ∀ {l : List α} {css : List (List Value)}, l.length = css.length → (∀ k (h1 : k < l.length) (h2 : k < css.length), P l[k] css[k]) → Al P l css
  | [], [], _, _ => trivial
  | _ :: _, [], h, _ => by simp at h
  | [], _ :: _, h, _ => by simp at h
  | a :: l, c :: css, h, hg => ⟨hg 0 (by simp) (by simp), Al.of_get (by simpa using h) fun k h1 h2 => hg (k + 1) (Nat.succ_lt_succ h1) (Nat.succ_lt_succ h2)⟩
theorem Al.nil_inv {css : List (List Value)} (h : Al P [] css) : css = [] := by cases css with | nil => rfl | cons _ _ => exact h.elim
end
theorem m_flat_len {size : Nat} : ∀ {css : List (List Value)}, (∀ c ∈ css, c.length = size) → css.flatten.length = css.length * size
  | [], _ => by simp
  | c :: css, h => by
    rw [List.flatten_cons, List.length_append, m_flat_len (fun x hx => h x (List.mem_cons_of_mem _ hx)), h c List.mem_cons_self, List.length_cons, Nat.succ_mul]
    omega
theorem flat_at {size : Nat} : ∀ {css : List (List Value)} {k : Nat}, (∀ c ∈ css, c.length = size) → ∀ (hk : k < css.length) (j : Nat), j < size → css.flatten[k * size + j]? = css[k][j]?
  | [], _, _, hk, _, _ => absurd hk (by simp)
  | c :: css, 0, h, _, j, hj => by
    have hc := h c List.mem_cons_self
    rw [List.flatten_cons, Nat.zero_mul, Nat.zero_add, List.getElem?_append_left (by omega)]
    rfl
  | c :: css, k + 1, h, hk, j, hj => by
    have hc := h c List.mem_cons_self
    rw [List.flatten_cons, List.getElem?_append_right (by rw [Nat.succ_mul]; omega), hc, show (k + 1) * size + j - size = k * size + j by rw [Nat.succ_mul]; omega]
    simpa using flat_at (css := css) (k := k) (fun x hx => h x (List.mem_cons_of_mem _ hx)) (by simpa using hk) j hj

/-- what stays of a kind of element: its cells' number; through new blocks; in a wider world -/
structure Ek {α : Type} (P : Nat → World → α → List Value → Prop) (size : Nat) : Prop where
  len : ∀ {B w a cs}, P B w a cs → cs.length = size
  below : ∀ {B w w' a cs}, P B w a cs → Below B w w' → P B w' a cs
  more : ∀ {B B' w a cs}, P B w a cs → B ≤ B' → P B' w a cs
/-- a slice of elements of several cells -/
def DR {α : Type} (P : Nat → World → α → List Value → Prop) (w : World) (B size : Nat) (A : Option Addr) (l : List α) : Prop :=
  ∃ css, Al (P B w) l css ∧ SR w B size A l.length css.flatten
section
variable {α : Type} {P : Nat → World → α → List Value → Prop} {w w' : World} {B B' size : Nat} {A : Option Addr} {l : List α}
theorem Ek.all (hk : Ek P size) {css : List (List Value)} (h : Al (P B w) l css) : ∀ c ∈ css, c.length = size := fun c hc => by
  obtain ⟨a, _, hp⟩ := h.mem c hc
  exact hk.len hp
theorem DR.below (h : DR P w B size A l) (hk : Ek P size) (hb : Below B w w') : DR P w' B size A l := by
  obtain ⟨css, ha, hs⟩ := h
  exact ⟨css, ha.mono fun _ _ hp => hk.below hp hb, hs.below hb⟩
theorem DR.more (h : DR P w B size A l) (hk : Ek P size) (hB : B ≤ B') : DR P w B' size A l := by
  obtain ⟨css, ha, hs⟩ := h
  exact ⟨css, ha.mono fun _ _ hp => hk.more hp hB, hs.more hB⟩
theorem DR.at_ (h : DR P w B size A l) (hk : Ek P size) {k : Nat} (hlt : k < l.length) :
    ∃ b o cs, A = some ⟨b, o, none⟩ ∧ b < B ∧ P B w l[k] cs ∧ ∀ j u, cs[j]? = some u → w.cell? ⟨b, o + k * size + j, none⟩ = some u := by
  obtain ⟨css, ha, hs⟩ := h
  have hkc : k < css.length := by rw [← ha.len]; exact hlt
  obtain ⟨b, o, hA, hb, hc⟩ := hs.at_ hlt
  refine ⟨b, o, css[k], hA, hb, ha.get hlt hkc, fun j u hj => ?_⟩
  have hcl := hk.len (ha.get hlt hkc)
  have hjs : j < size := by have := (List.getElem?_eq_some_iff.1 hj).1; omega
  exact hc j hjs u (by rw [flat_at (hk.all ha) hkc j hjs]; exact hj)
theorem DR.empty (w : World) (B : Nat) (A : Option Addr) : DR P w B size A [] := ⟨[], trivial, SR.empty _ _ _ _⟩
theorem DR.all (h : DR P w B size A l) : ∀ a ∈ l, ∃ cs, P B w a cs := by
  intro a ha
  obtain ⟨css, hal, _⟩ := h
  obtain ⟨k, hk, rfl⟩ := List.mem_iff_getElem.1 ha
  exact ⟨_, hal.get hk (by rw [← hal.len]; exact hk)⟩
end

/-- the widest that an argument's text or list can be -/
def RB : Nat := 140737488351232
structure IOk (i : Inf) : Prop where
  name : i.name.size ≤ 140737488351232
  kind : (Lit.int .i64 i.kind).wf = true
  len : i.dims.length * 8 ≤ 140737488351232
  ints : ∀ n ∈ i.dims, I64 n
structure TOk (t : Ten) : Prop where
  name : t.name.size ≤ 140737488351232
  data : t.data.size ≤ 140737488351232
  kind : (Lit.int .i64 t.kind).wf = true
  len : t.dims.length * 8 ≤ 140737488351232
  ints : ∀ n ∈ t.dims, I64 n
structure AOk (a : Att) : Prop where
  name : a.name.size ≤ 140737488351232
  len : a.ints.length * 8 ≤ 140737488351232
  int : I64 a.int
  ints : ∀ n ∈ a.ints, I64 n
structure NOk (n : Nod) : Prop where
  op : n.op.size ≤ 140737488351232
  out : n.out.size ≤ 140737488351232
  ins : ∀ s ∈ n.ins, s.size ≤ 140737488351232
  len : n.ins.length * 16 ≤ 140737488351232
  alen : n.attrs.length * 56 ≤ 140737488351232
def InfAt (B : Nat) (w : World) (i : Inf) (cs : List Value) : Prop :=
  ∃ A c, cs = [.string i.name, .int .i64 i.kind, .slice A i.dims.length c] ∧ SR w B 1 A i.dims.length (iv i.dims) ∧ IOk i
def TenAt (B : Nat) (w : World) (t : Ten) (cs : List Value) : Prop :=
  ∃ A c, cs = [.string t.name, .int .i64 t.kind, .slice A t.dims.length c, .string t.data] ∧ SR w B 1 A t.dims.length (iv t.dims) ∧ TOk t
def AttAt (B : Nat) (w : World) (a : Att) (cs : List Value) : Prop :=
  ∃ A c, cs = [.string a.name, .bool a.one, .int .i64 a.int, .slice A a.ints.length c] ∧ SR w B 1 A a.ints.length (iv a.ints) ∧ AOk a
def NodAt (B : Nat) (w : World) (n : Nod) (cs : List Value) : Prop :=
  ∃ A c A' c', cs = [.string n.op, .slice A n.ins.length c, .string n.out, .slice A' n.attrs.length c'] ∧ SR w B 1 A n.ins.length (n.ins.map Value.string) ∧ DR AttAt w B 4 A' n.attrs ∧ NOk n
theorem ek_inf : Ek InfAt 3 := ⟨fun ⟨_, _, h, _⟩ => by rw [h]; rfl, fun ⟨A, c, h, hs, ho⟩ hb => ⟨A, c, h, hs.below hb, ho⟩, fun ⟨A, c, h, hs, ho⟩ hb => ⟨A, c, h, hs.more hb, ho⟩⟩
theorem ek_ten : Ek TenAt 4 := ⟨fun ⟨_, _, h, _⟩ => by rw [h]; rfl, fun ⟨A, c, h, hs, ho⟩ hb => ⟨A, c, h, hs.below hb, ho⟩, fun ⟨A, c, h, hs, ho⟩ hb => ⟨A, c, h, hs.more hb, ho⟩⟩
theorem ek_att : Ek AttAt 4 := ⟨fun ⟨_, _, h, _⟩ => by rw [h]; rfl, fun ⟨A, c, h, hs, ho⟩ hb => ⟨A, c, h, hs.below hb, ho⟩, fun ⟨A, c, h, hs, ho⟩ hb => ⟨A, c, h, hs.more hb, ho⟩⟩
theorem ek_nod : Ek NodAt 4 := ⟨fun ⟨_, _, _, _, h, _⟩ => by rw [h]; rfl, fun ⟨A, c, A', c', h, hs, hd, ho⟩ hb => ⟨A, c, A', c', h, hs.below hb, hd.below ek_att hb, ho⟩, fun ⟨A, c, A', c', h, hs, hd, ho⟩ hb => ⟨A, c, A', c', h, hs.more hb, hd.more ek_att hb, ho⟩⟩
theorem TOk.tok {t : Ten} (h : TOk t) {w : World} {A : Option Addr} (hs : SR w w.heap.size 1 A t.dims.length (iv t.dims)) : Tok w t A := ⟨h.name, h.data, h.kind, hs, by have := h.len; unfold maxLen; omega, h.ints⟩
/-- a model that lies in the world -/
structure ModAt (B : Nat) (w : World) (m : Mod) (A1 A2 A3 A4 : Option Addr) : Prop where
  inputs : DR InfAt w B 3 A1 m.inputs
  outputs : DR InfAt w B 3 A2 m.outputs
  inits : DR TenAt w B 4 A3 m.inits
  nodes : DR NodAt w B 4 A4 m.nodes
  opset : I64 m.opset
  len1 : m.inputs.length * 48 ≤ 140737488351232
  len2 : m.outputs.length * 48 ≤ 140737488351232
  len3 : m.inits.length * 64 ≤ 140737488351232
  len4 : m.nodes.length * 80 ≤ 140737488351232
theorem ModAt.below {B : Nat} {w w' : World} {m : Mod} {A1 A2 A3 A4 : Option Addr} (h : ModAt B w m A1 A2 A3 A4) (hb : Below B w w') : ModAt B w' m A1 A2 A3 A4 :=
  ⟨h.inputs.below ek_inf hb, h.outputs.below ek_inf hb, h.inits.below ek_ten hb, h.nodes.below ek_nod hb, h.opset, h.len1, h.len2, h.len3, h.len4⟩
theorem ModAt.more {B B' : Nat} {w : World} {m : Mod} {A1 A2 A3 A4 : Option Addr} (h : ModAt B w m A1 A2 A3 A4) (hb : B ≤ B') : ModAt B' w m A1 A2 A3 A4 :=
  ⟨h.inputs.more ek_inf hb, h.outputs.more ek_inf hb, h.inits.more ek_ten hb, h.nodes.more ek_nod hb, h.opset, h.len1, h.len2, h.len3, h.len4⟩
/-- its five cells -/
def mv (o : Int) (A1 : Option Addr) (n1 c1 : Nat) (A2 : Option Addr) (n2 c2 : Nat) (A3 : Option Addr) (n3 c3 : Nat) (A4 : Option Addr) (n4 c4 : Nat) : Array Value :=
  #[.int .i64 o, .slice A1 n1 c1, .slice A2 n2 c2, .slice A3 n3 c3, .slice A4 n4 c4]
end Go.Proofs.YtiniicehfjgpgaaGreat
/- The walks of the program's Same: of texts, infos, attributes, nodes, models; lists by a function, element by element. -/
namespace Go.Proofs.YtiniicehfjgpgaaGreat
open Go.RowKit M7 M10

/-- texts as cells -/
def m_tx (l : List ByteArray) : List Value := l.map Value.string
theorem tx_len (l : List ByteArray) : (m_tx l).length = l.length := by simp [m_tx]
theorem m_txt_at {w : World} {B : Nat} {A : Option Addr} {l : List ByteArray} (h : SR w B 1 A l.length (m_tx l)) {k : Nat} (hk : k < l.length) :
    ∃ b o, A = some ⟨b, o, none⟩ ∧ b < B ∧ w.cell? ⟨b, o + k, none⟩ = some (.string l[k]) := cell_at h hk (by simp [m_tx, hk])
theorem eqTo_no {α : Type} [DecidableEq α] {l m : List α} {k : Nat} (h1 : k < l.length) (h2 : k < m.length) (he : l[k] ≠ m[k]) : decide (l = m) = false := decide_eq_false (by rintro rfl; exact he rfl)
theorem eqTo_yes {α : Type} [DecidableEq α] {l m : List α} (hl : l.length = m.length) (h : eqTo (fun a b => decide (a = b)) l m l.length) : decide (l = m) = true := by
  rw [← eqAll_eq]; exact eqAll_yes hl h
theorem teq_ne_yes {a b : ByteArray} (h : a = b) : (a.toList != b.toList) = false := by rw [bne, teq_yes h]; rfl
theorem teq_ne_no {a b : ByteArray} (h : a ≠ b) : (a.toList != b.toList) = true := by rw [bne, teq_no h]; rfl

theorem InfAt.shape {B : Nat} {w : World} {i : Inf} {cs : List Value} (h : InfAt B w i cs) : ∃ A c, cs = [.string i.name, .int .i64 i.kind, .slice A i.dims.length c] := by
  obtain ⟨A, c, h, _⟩ := h; exact ⟨A, c, h⟩
theorem TenAt.shape {B : Nat} {w : World} {t : Ten} {cs : List Value} (h : TenAt B w t cs) : ∃ A c, cs = [.string t.name, .int .i64 t.kind, .slice A t.dims.length c, .string t.data] := by
  obtain ⟨A, c, h, _⟩ := h; exact ⟨A, c, h⟩
theorem AttAt.shape {B : Nat} {w : World} {a : Att} {cs : List Value} (h : AttAt B w a cs) : ∃ A c, cs = [.string a.name, .bool a.one, .int .i64 a.int, .slice A a.ints.length c] := by
  obtain ⟨A, c, h, _⟩ := h; exact ⟨A, c, h⟩
theorem NodAt.shape {B : Nat} {w : World} {n : Nod} {cs : List Value} (h : NodAt B w n cs) : ∃ A c A' c', cs = [.string n.op, .slice A n.ins.length c, .string n.out, .slice A' n.attrs.length c'] := by
  obtain ⟨A, c, A', c', h, _⟩ := h; exact ⟨A, c, A', c', h⟩
theorem alloc_cell {w : World} {a : Addr} {v : Value} (h : w.cell? a = some v) (o : Obj) : (w.alloc o).cell? a = some v := (((Below.refl w.heap.size w).alloc (Nat.le_refl _) o).cell (p := a) (block_lt_of_cell h)).trans h
theorem int_beq (a b : Int) : (a == b) = decide (a = b) := by rw [Bool.eq_iff_iff]; simp
theorem two_new {B : Nat} (w : World) (o o2 : Obj) (h : B ≤ w.heap.size) : Below B w ((w.alloc o).alloc o2) := ((Below.refl _ _).alloc h _).alloc (by simp; omega) _

theorem Bx.three {w W : World} {g : Nat} {a0 a1 a2 : Value} {T : TypeId} (h : Bx w g #[a0, a1, a2] T W) : W.cell? ⟨g, 0, none⟩ = some a0 ∧ W.cell? ⟨g, 1, none⟩ = some a1 ∧ W.cell? ⟨g, 2, none⟩ = some a2 :=
  ⟨h.cell 0, h.cell 1, h.cell 2⟩
theorem Bx.five {w W : World} {g : Nat} {a0 a1 a2 a3 a4 : Value} {T : TypeId} (h : Bx w g #[a0, a1, a2, a3, a4] T W) : W.cell? ⟨g, 0, none⟩ = some a0 ∧ W.cell? ⟨g, 1, none⟩ = some a1 ∧ W.cell? ⟨g, 2, none⟩ = some a2 ∧ W.cell? ⟨g, 3, none⟩ = some a3 ∧ W.cell? ⟨g, 4, none⟩ = some a4 :=
  ⟨h.cell 0, h.cell 1, h.cell 2, h.cell 3, h.cell 4⟩
end Go.Proofs.YtiniicehfjgpgaaGreat
/- The walks of Elem and of the law's Of. -/
namespace Go.Proofs.YtiniicehfjgpgaaGreat
open Go.RowKit M7

/-- the i-th element's bytes -/
def el (k : Int) (d : ByteArray) (i : Int) : ByteArray := if kSize k = 0 ∨ i < 0 ∨ (d.size : Int) / kSize k ≤ i then ⟨#[]⟩ else d.extract (i.toNat * (kSize k).toNat) ((i.toNat + 1) * (kSize k).toNat)
theorem el_none {k : Int} {d : ByteArray} {i : Int} (h : kSize k = 0 ∨ i < 0 ∨ (d.size : Int) / kSize k ≤ i) : el k d i = ⟨#[]⟩ := if_pos h
theorem el_some {k : Int} {d : ByteArray} {i : Int} (h : ¬ (kSize k = 0 ∨ i < 0 ∨ (d.size : Int) / kSize k ≤ i)) : el k d i = d.extract (i.toNat * (kSize k).toNat) ((i.toNat + 1) * (kSize k).toNat) := if_neg h
theorem el_fits {n s i : Nat} (hs : s ≠ 0) (h : (i : Int) < (n : Int) / (s : Int)) : (i + 1) * s ≤ n := by
  have h1 : i < n / s := by rw [← Int.natCast_ediv] at h; omega
  have := (Nat.le_div_iff_mul_le (by omega)).1 (show i + 1 ≤ n / s by omega)
  exact this
theorem div_small {n s : Nat} : (0 : Int) ≤ (n : Int) / (s : Int) ∧ (n : Int) / (s : Int) ≤ (n : Int) := by
  rw [← Int.natCast_ediv]
  have := Nat.div_le_self n s
  generalize n / s = q at *
  omega

end Go.Proofs.YtiniicehfjgpgaaGreat
/- An argument that is a model, opened: what it holds, part by part. -/
namespace Go.Proofs.YtiniicehfjgpgaaGreat
open Go.RowKit M7 M10 Go.ChangeShapes Go.WideShapes Go.Deep

theorem flat_single {α : Type} (mk : α → Value) : ∀ l : List α, (l.map fun a => [mk a]).flatten = l.map mk
  | [] => rfl
  | a :: l => by rw [List.map_cons, List.flatten_cons, flat_single mk l]; rfl
theorem one_flat {α : Type} {mk : α → Value} {l : List α} {css : List (List Value)} (hl : l.length = css.length) (h : ∀ k (h1 : k < l.length) (h2 : k < css.length), css[k] = [mk l[k]]) : css.flatten = l.map mk := by
  have e : css = l.map fun a => [mk a] := List.ext_getElem (by simp [hl]) fun k h1 h2 => by
    rw [h k (by simpa using h2) h1]; simp
  rw [e, flat_single]
theorem reach10 : reachBytes = 140737488351232 := by decide
theorem bytesInt10 : Tryz.prog.bytesOf 2 = 8 := by kernel_rfl
theorem bytesStr10 : Tryz.prog.bytesOf 9 = 16 := by kernel_rfl
section
variable {H : Type} {enc : TypeId × Value → H} {w : World} {base : Nat} {spare : Nat → Bool} {held : Bool}
theorem deep_ints {fuel : Nat} {c : Value} {y : DataW H × List MemPlace} (h : DataW.trod enc Tryz.prog w base spare held fuel 36 [c] = some y) (hz : ∀ n ∈ y.1.weights Tryz.prog 36, n ≤ reachBytes) :
    ∃ (A : Option Addr) (cc : Nat) (l : List Int), c = .slice A l.length cc ∧ SR w w.heap.size 1 A l.length (iv l) ∧ l.length * 8 ≤ 140737488351232 ∧ ∀ n ∈ l, I64 n := by
  obtain ⟨A, cc, l, css, e, hl, hq, _, hs, hb⟩ := open_deep 1 (by omega) (fun (a : Int) cs => cs = [.int .i64 a] ∧ I64 a) Tryz.underlying36 (by kernel_rfl) (fun n cs x hx _ _ => by
    obtain ⟨a, e, -, hw⟩ := DataW.trod_int Tryz.underlying2 hx
    exact ⟨a, e, bounds_i64 hw⟩) h hz
  simp only [List.cons.injEq, and_true] at e
  rw [bytesInt10, reach10] at hb
  rw [one_flat (mk := Value.int .i64) hl (fun k h1 h2 => (hq k h1 h2).1)] at hs
  refine ⟨A, cc, l, e, hs, hb, fun n hn => ?_⟩
  obtain ⟨k, hk, rfl⟩ := List.mem_iff_getElem.1 hn
  exact (hq k hk (by omega)).2
theorem deep_text {fuel : Nat} {c : Value} {y : DataW H × List MemPlace} (h : DataW.trod enc Tryz.prog w base spare held fuel 9 [c] = some y) (hz : ∀ n ∈ y.1.weights Tryz.prog 9, n ≤ reachBytes) :
    ∃ s : ByteArray, c = .string s ∧ s.size ≤ 140737488351232 := by
  obtain ⟨a, e, r, _⟩ := DataW.trod_string Tryz.underlying9 h
  simp only [List.cons.injEq, and_true] at e
  refine ⟨a, e, ?_⟩
  have := hz a.data.toList.length (by rw [r]; simp [DataW.weights])
  rw [reach10] at this
  simpa using this
theorem deep_texts {fuel : Nat} {c : Value} {y : DataW H × List MemPlace} (h : DataW.trod enc Tryz.prog w base spare held fuel 23 [c] = some y) (hz : ∀ n ∈ y.1.weights Tryz.prog 23, n ≤ reachBytes) :
    ∃ (A : Option Addr) (cc : Nat) (l : List ByteArray), c = .slice A l.length cc ∧ SR w w.heap.size 1 A l.length (m_tx l) ∧ l.length * 16 ≤ 140737488351232 ∧ ∀ n ∈ l, n.size ≤ 140737488351232 := by
  obtain ⟨A, cc, l, css, e, hl, hq, _, hs, hb⟩ := open_deep 1 (by omega) (fun (a : ByteArray) cs => cs = [.string a] ∧ a.size ≤ 140737488351232) Tryz.underlying23 (by kernel_rfl) (fun n cs x hx hcl hw => by
    match cs, hcl with
    | [c], _ =>
      obtain ⟨a, e, hs⟩ := deep_text hx hw
      exact ⟨a, by rw [e], hs⟩) h hz
  simp only [List.cons.injEq, and_true] at e
  rw [bytesStr10, reach10] at hb
  rw [one_flat (mk := Value.string) hl (fun k h1 h2 => (hq k h1 h2).1)] at hs
  refine ⟨A, cc, l, e, hs, hb, fun n hn => ?_⟩
  obtain ⟨k, hk, rfl⟩ := List.mem_iff_getElem.1 hn
  exact (hq k hk (by omega)).2

theorem off_inf : (match Tryz.prog.underlying 38 with | some (.struct fs) => fs.toList.map (fun f => (f.offset, f.type)) | _ => []) = [(0, 9), (1, 35), (2, 36)] := by kernel_rfl
theorem one_inf : ∀ t ∈ [9, 35, 36], Tryz.prog.cellsOf t = 1 := by
  have h : ([9, 35, 36].all fun t => decide (Tryz.prog.cellsOf t = 1)) = true := by kernel_rfl
  simpa using h
set_option maxRecDepth 100000 in
theorem deep_inf {fuel : Nat} {cs : List Value} {x : DataW H × List MemPlace} (h : DataW.trod enc Tryz.prog w base spare held fuel 38 cs = some x) (hcs : cs.length = 3) (hz : ∀ n ∈ x.1.weights Tryz.prog 38, n ≤ reachBytes) :
    ∃ i, InfAt w.heap.size w i cs := by
  have ho := off_inf
  cases hu : Tryz.prog.underlying 38 with
  | none => rw [hu] at ho; simp at ho
  | some ds =>
    rw [hu] at ho
    cases ds with
    | struct fs =>
      simp only at ho
      obtain ⟨n, hf⟩ := open_fields (ts := [9, 35, 36]) hu (by rw [ho]; rfl) one_inf h (by simpa using hcs) hz
      match cs, hcs with
      | [v0, v1, v2], _ =>
        obtain ⟨y0, h0, z0⟩ := hf 0 (by simp) (by simp)
        obtain ⟨y1, h1, z1⟩ := hf 1 (by simp) (by simp)
        obtain ⟨y2, h2, z2⟩ := hf 2 (by simp) (by simp)
        simp only [List.getElem_cons_zero, List.getElem_cons_succ] at h0 z0 h1 z1 h2 z2
        obtain ⟨s0, rfl, b0⟩ := deep_text h0 z0
        obtain ⟨n1, e1, -, b1⟩ := DataW.trod_int Tryz.underlying35 h1
        simp only [List.cons.injEq, and_true] at e1
        subst e1
        obtain ⟨A2, c2, l2, rfl, r2, b2, i2⟩ := deep_ints h2 z2
        exact ⟨⟨s0, n1, l2⟩, A2, c2, rfl, r2, ⟨b0, b1, b2, i2⟩⟩
    | _ => simp at ho
theorem off_ten : (match Tryz.prog.underlying 98 with | some (.struct fs) => fs.toList.map (fun f => (f.offset, f.type)) | _ => []) = [(0, 9), (1, 35), (2, 36), (3, 9)] := by kernel_rfl
theorem one_ten : ∀ t ∈ [9, 35, 36, 9], Tryz.prog.cellsOf t = 1 := by
  have h : ([9, 35, 36, 9].all fun t => decide (Tryz.prog.cellsOf t = 1)) = true := by kernel_rfl
  simpa using h
set_option maxRecDepth 100000 in
theorem deep_ten {fuel : Nat} {cs : List Value} {x : DataW H × List MemPlace} (h : DataW.trod enc Tryz.prog w base spare held fuel 98 cs = some x) (hcs : cs.length = 4) (hz : ∀ n ∈ x.1.weights Tryz.prog 98, n ≤ reachBytes) :
    ∃ i, TenAt w.heap.size w i cs := by
  have ho := off_ten
  cases hu : Tryz.prog.underlying 98 with
  | none => rw [hu] at ho; simp at ho
  | some ds =>
    rw [hu] at ho
    cases ds with
    | struct fs =>
      simp only at ho
      obtain ⟨n, hf⟩ := open_fields (ts := [9, 35, 36, 9]) hu (by rw [ho]; rfl) one_ten h (by simpa using hcs) hz
      match cs, hcs with
      | [v0, v1, v2, v3], _ =>
        obtain ⟨y0, h0, z0⟩ := hf 0 (by simp) (by simp)
        obtain ⟨y1, h1, z1⟩ := hf 1 (by simp) (by simp)
        obtain ⟨y2, h2, z2⟩ := hf 2 (by simp) (by simp)
        obtain ⟨y3, h3, z3⟩ := hf 3 (by simp) (by simp)
        simp only [List.getElem_cons_zero, List.getElem_cons_succ] at h0 z0 h1 z1 h2 z2 h3 z3
        obtain ⟨s0, rfl, b0⟩ := deep_text h0 z0
        obtain ⟨n1, e1, -, b1⟩ := DataW.trod_int Tryz.underlying35 h1
        simp only [List.cons.injEq, and_true] at e1
        subst e1
        obtain ⟨A2, c2, l2, rfl, r2, b2, i2⟩ := deep_ints h2 z2
        obtain ⟨s3, rfl, b3⟩ := deep_text h3 z3
        exact ⟨⟨s0, n1, l2, s3⟩, A2, c2, rfl, r2, ⟨b0, b3, b1, b2, i2⟩⟩
    | _ => simp at ho
theorem off_att : (match Tryz.prog.underlying 94 with | some (.struct fs) => fs.toList.map (fun f => (f.offset, f.type)) | _ => []) = [(0, 9), (1, 4), (2, 2), (3, 36)] := by kernel_rfl
theorem one_att : ∀ t ∈ [9, 4, 2, 36], Tryz.prog.cellsOf t = 1 := by
  have h : ([9, 4, 2, 36].all fun t => decide (Tryz.prog.cellsOf t = 1)) = true := by kernel_rfl
  simpa using h
set_option maxRecDepth 100000 in
theorem deep_att {fuel : Nat} {cs : List Value} {x : DataW H × List MemPlace} (h : DataW.trod enc Tryz.prog w base spare held fuel 94 cs = some x) (hcs : cs.length = 4) (hz : ∀ n ∈ x.1.weights Tryz.prog 94, n ≤ reachBytes) :
    ∃ i, AttAt w.heap.size w i cs := by
  have ho := off_att
  cases hu : Tryz.prog.underlying 94 with
  | none => rw [hu] at ho; simp at ho
  | some ds =>
    rw [hu] at ho
    cases ds with
    | struct fs =>
      simp only at ho
      obtain ⟨n, hf⟩ := open_fields (ts := [9, 4, 2, 36]) hu (by rw [ho]; rfl) one_att h (by simpa using hcs) hz
      match cs, hcs with
      | [v0, v1, v2, v3], _ =>
        obtain ⟨y0, h0, z0⟩ := hf 0 (by simp) (by simp)
        obtain ⟨y1, h1, z1⟩ := hf 1 (by simp) (by simp)
        obtain ⟨y2, h2, z2⟩ := hf 2 (by simp) (by simp)
        obtain ⟨y3, h3, z3⟩ := hf 3 (by simp) (by simp)
        simp only [List.getElem_cons_zero, List.getElem_cons_succ] at h0 z0 h1 z1 h2 z2 h3 z3
        obtain ⟨s0, rfl, b0⟩ := deep_text h0 z0
        obtain ⟨n1, e1, -⟩ := DataW.trod_bool Tryz.underlying4 h1
        simp only [List.cons.injEq, and_true] at e1
        subst e1
        obtain ⟨n2, e2, -, b2⟩ := DataW.trod_int Tryz.underlying2 h2
        simp only [List.cons.injEq, and_true] at e2
        subst e2
        obtain ⟨A3, c3, l3, rfl, r3, b3, i3⟩ := deep_ints h3 z3
        exact ⟨⟨s0, n1, n2, l3⟩, A3, c3, rfl, r3, ⟨b0, b3, bounds_i64 b2, i3⟩⟩
    | _ => simp at ho
theorem off_nod : (match Tryz.prog.underlying 26 with | some (.struct fs) => fs.toList.map (fun f => (f.offset, f.type)) | _ => []) = [(0, 9), (1, 23), (2, 9), (3, 24)] := by kernel_rfl
theorem one_nod : ∀ t ∈ [9, 23, 9, 24], Tryz.prog.cellsOf t = 1 := by
  have h : ([9, 23, 9, 24].all fun t => decide (Tryz.prog.cellsOf t = 1)) = true := by kernel_rfl
  simpa using h
set_option maxRecDepth 100000 in
theorem deep_nod {fuel : Nat} {cs : List Value} {x : DataW H × List MemPlace} (h : DataW.trod enc Tryz.prog w base spare held fuel 26 cs = some x) (hcs : cs.length = 4) (hz : ∀ n ∈ x.1.weights Tryz.prog 26, n ≤ reachBytes) :
    ∃ i, NodAt w.heap.size w i cs := by
  have ho := off_nod
  cases hu : Tryz.prog.underlying 26 with
  | none => rw [hu] at ho; simp at ho
  | some ds =>
    rw [hu] at ho
    cases ds with
    | struct fs =>
      simp only at ho
      obtain ⟨n, hf⟩ := open_fields (ts := [9, 23, 9, 24]) hu (by rw [ho]; rfl) one_nod h (by simpa using hcs) hz
      match cs, hcs with
      | [v0, v1, v2, v3], _ =>
        obtain ⟨y0, h0, z0⟩ := hf 0 (by simp) (by simp)
        obtain ⟨y1, h1, z1⟩ := hf 1 (by simp) (by simp)
        obtain ⟨y2, h2, z2⟩ := hf 2 (by simp) (by simp)
        obtain ⟨y3, h3, z3⟩ := hf 3 (by simp) (by simp)
        simp only [List.getElem_cons_zero, List.getElem_cons_succ] at h0 z0 h1 z1 h2 z2 h3 z3
        obtain ⟨s0, rfl, b0⟩ := deep_text h0 z0
        obtain ⟨A1, c1, l1, rfl, r1, b1, i1⟩ := deep_texts h1 z1
        obtain ⟨s2, rfl, b2⟩ := deep_text h2 z2
        obtain ⟨A3, c3, l3, css3, e3, hl3, hq3, hs3, r3, b3⟩ := open_deep 4 (by omega) (fun a cs => AttAt w.heap.size w a cs) Tryz.underlying24 (by kernel_rfl) (fun n cs x hx hcl hw => deep_att hx hcl hw) h3 z3
        simp only [List.cons.injEq, and_true] at e3
        subst e3
        rw [show Tryz.prog.bytesOf 94 = 56 by kernel_rfl, reach10] at b3
        have d3 : DR AttAt w w.heap.size 4 A3 l3 := ⟨css3, Al.of_get hl3 hq3, r3⟩
        exact ⟨⟨s0, l1, s2, l3⟩, A1, c1, A3, c3, rfl, r1, d3, ⟨b0, b2, i1, b1, b3⟩⟩
    | _ => simp at ho
theorem off_mod : (match Tryz.prog.underlying 56 with | some (.struct fs) => fs.toList.map (fun f => (f.offset, f.type)) | _ => []) = [(0, 2), (1, 50), (2, 50), (3, 54), (4, 53)] := by kernel_rfl
theorem one_mod : ∀ t ∈ [2, 50, 50, 54, 53], Tryz.prog.cellsOf t = 1 := by
  have h : ([2, 50, 50, 54, 53].all fun t => decide (Tryz.prog.cellsOf t = 1)) = true := by kernel_rfl
  simpa using h
set_option maxRecDepth 100000 in
theorem deep_mod {fuel : Nat} {cs : List Value} {x : DataW H × List MemPlace} (h : DataW.trod enc Tryz.prog w base spare held fuel 56 cs = some x) (hcs : cs.length = 5) (hz : ∀ n ∈ x.1.weights Tryz.prog 56, n ≤ reachBytes) :
    ∃ (m : Mod) (A1 A2 A3 A4 : Option Addr) (c1 c2 c3 c4 : Nat), cs.toArray = mv m.opset A1 m.inputs.length c1 A2 m.outputs.length c2 A3 m.inits.length c3 A4 m.nodes.length c4 ∧ ModAt w.heap.size w m A1 A2 A3 A4 := by
  have ho := off_mod
  cases hu : Tryz.prog.underlying 56 with
  | none => rw [hu] at ho; simp at ho
  | some ds =>
    rw [hu] at ho
    cases ds with
    | struct fs =>
      simp only at ho
      obtain ⟨n, hf⟩ := open_fields (ts := [2, 50, 50, 54, 53]) hu (by rw [ho]; rfl) one_mod h (by simpa using hcs) hz
      match cs, hcs with
      | [v0, v1, v2, v3, v4], _ =>
        obtain ⟨y0, h0, z0⟩ := hf 0 (by simp) (by simp)
        obtain ⟨y1, h1, z1⟩ := hf 1 (by simp) (by simp)
        obtain ⟨y2, h2, z2⟩ := hf 2 (by simp) (by simp)
        obtain ⟨y3, h3, z3⟩ := hf 3 (by simp) (by simp)
        obtain ⟨y4, h4, z4⟩ := hf 4 (by simp) (by simp)
        simp only [List.getElem_cons_zero, List.getElem_cons_succ] at h0 z0 h1 z1 h2 z2 h3 z3 h4 z4
        obtain ⟨n0, e0, -, b0⟩ := DataW.trod_int Tryz.underlying2 h0
        simp only [List.cons.injEq, and_true] at e0
        subst e0
        obtain ⟨A1, c1, l1, css1, e1, hl1, hq1, hs1, r1, b1⟩ := open_deep 3 (by omega) (fun a cs => InfAt w.heap.size w a cs) Tryz.underlying50 (by kernel_rfl) (fun n cs x hx hcl hw => deep_inf hx hcl hw) h1 z1
        simp only [List.cons.injEq, and_true] at e1
        subst e1
        rw [show Tryz.prog.bytesOf 38 = 48 by kernel_rfl, reach10] at b1
        have d1 : DR InfAt w w.heap.size 3 A1 l1 := ⟨css1, Al.of_get hl1 hq1, r1⟩
        obtain ⟨A2, c2, l2, css2, e2, hl2, hq2, hs2, r2, b2⟩ := open_deep 3 (by omega) (fun a cs => InfAt w.heap.size w a cs) Tryz.underlying50 (by kernel_rfl) (fun n cs x hx hcl hw => deep_inf hx hcl hw) h2 z2
        simp only [List.cons.injEq, and_true] at e2
        subst e2
        rw [show Tryz.prog.bytesOf 38 = 48 by kernel_rfl, reach10] at b2
        have d2 : DR InfAt w w.heap.size 3 A2 l2 := ⟨css2, Al.of_get hl2 hq2, r2⟩
        obtain ⟨A3, c3, l3, css3, e3, hl3, hq3, hs3, r3, b3⟩ := open_deep 4 (by omega) (fun a cs => TenAt w.heap.size w a cs) Tryz.underlying54 (by kernel_rfl) (fun n cs x hx hcl hw => deep_ten hx hcl hw) h3 z3
        simp only [List.cons.injEq, and_true] at e3
        subst e3
        rw [show Tryz.prog.bytesOf 98 = 64 by kernel_rfl, reach10] at b3
        have d3 : DR TenAt w w.heap.size 4 A3 l3 := ⟨css3, Al.of_get hl3 hq3, r3⟩
        obtain ⟨A4, c4, l4, css4, e4, hl4, hq4, hs4, r4, b4⟩ := open_deep 4 (by omega) (fun a cs => NodAt w.heap.size w a cs) Tryz.underlying53 (by kernel_rfl) (fun n cs x hx hcl hw => deep_nod hx hcl hw) h4 z4
        simp only [List.cons.injEq, and_true] at e4
        subst e4
        rw [show Tryz.prog.bytesOf 26 = 80 by kernel_rfl, reach10] at b4
        have d4 : DR NodAt w w.heap.size 4 A4 l4 := ⟨css4, Al.of_get hl4 hq4, r4⟩
        exact ⟨⟨n0, l1, l2, l3, l4⟩, A1, A2, A3, A4, c1, c2, c3, c4, rfl, ⟨d1, d2, d3, d4, bounds_i64 b0, b1, b2, b3, b4⟩⟩
    | _ => simp at ho
theorem cells_mod : Tryz.prog.cellsOf 56 = 5 := by kernel_rfl
theorem modelStruct : ∃ fs, Tryz.prog.underlying 56 = some (.struct fs) := ⟨_, Tryz.underlying56⟩
/-- a model -/
theorem open_model {v : Value} {d : DataW H} {p : List MemPlace} (h : DataW.Trod enc Tryz.prog w base spare held 56 v d p) (hv : ∃ cs, v = .agg cs ∧ cs.size = Tryz.prog.cellsOf 56)
    (hz : ∀ n ∈ d.weights Tryz.prog 56, n ≤ reachBytes) : ∃ (m : Mod) (A1 A2 A3 A4 : Option Addr) (c1 c2 c3 c4 : Nat), v = .agg (mv m.opset A1 m.inputs.length c1 A2 m.outputs.length c2 A3 m.inits.length c3 A4 m.nodes.length c4) ∧ ModAt w.heap.size w m A1 A2 A3 A4 := by
  obtain ⟨cs, rfl, hcs⟩ := hv
  obtain ⟨fuel, h⟩ := h
  rw [cells_mod] at hcs
  obtain ⟨m, A1, A2, A3, A4, c1, c2, c3, c4, e, hm⟩ := deep_mod h (by simpa [Value.cells] using hcs) hz
  refine ⟨m, A1, A2, A3, A4, c1, c2, c3, c4, ?_, hm⟩
  rw [← e]
  simp [Value.cells]
/-- a row of numbers -/
theorem open_ints10 {v : Value} {d : DataW H} {p : List MemPlace} (h : DataW.Trod enc Tryz.prog w base spare held 36 v d p) (hv : ∃ a l c, v = .slice a l c) (hz : ∀ n ∈ d.weights Tryz.prog 36, n ≤ reachBytes) :
    ∃ (A : Option Addr) (cc : Nat) (l : List Int), v = .slice A l.length cc ∧ SR w w.heap.size 1 A l.length (iv l) ∧ l.length * 8 ≤ 140737488351232 ∧ ∀ n ∈ l, I64 n := by
  obtain ⟨a, n, c, rfl⟩ := hv
  obtain ⟨fuel, h⟩ := h
  exact deep_ints h hz
end
end Go.Proofs.YtiniicehfjgpgaaGreat
