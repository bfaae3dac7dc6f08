/- What is made of elements has these: bytes laid one behind the other, cut and read again. No walk. -/
import Derived.Test.YtmmcfhgbjmfbaaaGreatTMade
import Derived.Test.YtmmcfhgbjmfbaaaGreatBVals
import Derived.Test.YtmmcfhgbjmfbaaaGreatTPut
namespace Go.Proofs.YtmmcfhgbjmfbaaaGreat
open Go.RowKit M6 M7

theorem flat_cut {α : Type} (f : α → List UInt8) (s : Nat) (hs : s ≤ 8) : ∀ (xs : List α), (∀ x ∈ xs, (f x).length = 8) → ∀ k (h : k < xs.length), ((flat f s xs).drop (k * s)).take s = (f xs[k]).take s
  | [], _, k, h => by cases h
  | x :: l, hf, k, h => by
    have hx := hf x List.mem_cons_self
    have hl : ((f x).take s).length = s := by rw [List.length_take, hx, Nat.min_eq_left hs]
    have e : flat f s (x :: l) = (f x).take s ++ flat f s l := by unfold flat; rw [List.flatMap_cons]
    cases k with
    | zero =>
      rw [e, Nat.zero_mul, List.drop_zero, List.take_append_of_le_length (by omega), List.take_of_length_le (by omega)]
      rfl
    | succ k =>
      have h' : k < l.length := by simpa using h
      rw [e, Nat.succ_mul, Nat.add_comm (k * s) s, List.drop_append, hl, List.drop_of_length_le (by omega), List.nil_append, Nat.add_sub_cancel_left, flat_cut f s hs l (fun y hy => hf y (List.mem_cons_of_mem _ hy)) k h']
      rfl
/-- a list of bytes as text -/
abbrev tx (l : List UInt8) : ByteArray := ⟨l.toArray⟩
theorem tx_size (l : List UInt8) : (tx l).size = l.length := by show l.toArray.size = _; simp
theorem tx_cut {α : Type} {f : α → List UInt8} {s : Nat} (hs : s ≤ 8) {xs : List α} (hf : ∀ x ∈ xs, (f x).length = 8) {k : Nat} (h : k < xs.length) : (tx (flat f s xs)).extract (k * s) ((k + 1) * s) = tx ((f xs[k]).take s) := by
  refine ByteArray.ext ?_
  rw [ByteArray.data_extract]
  apply Array.toList_inj.1
  rw [Array.toList_extract]
  have h2 : (k + 1) * s - k * s = s := by rw [Nat.succ_mul]; omega
  rw [List.extract_eq_take_drop, h2]
  exact flat_cut f s hs xs hf k h
theorem pr_l8 {v : Nat} (h : v < 18446744073709551616) : pr (tx (l8 v)) 8 = v := by
  have hs : (tx (l8 v)).size = 8 := rfl
  have ht : ∀ k, (UInt8.ofNat (bt v k)).toNat = bt v k := fun k => by have := bt_lt v k; simp; omega
  have hb := fun k => bt_lt v k
  have e0 : (tx (l8 v))[0] = UInt8.ofNat (bt v 0) := rfl
  have e1 : (tx (l8 v))[1] = UInt8.ofNat (bt v 1) := rfl
  have e2 : (tx (l8 v))[2] = UInt8.ofNat (bt v 2) := rfl
  have e3 : (tx (l8 v))[3] = UInt8.ofNat (bt v 3) := rfl
  have e4 : (tx (l8 v))[4] = UInt8.ofNat (bt v 4) := rfl
  have e5 : (tx (l8 v))[5] = UInt8.ofNat (bt v 5) := rfl
  have e6 : (tx (l8 v))[6] = UInt8.ofNat (bt v 6) := rfl
  have e7 : (tx (l8 v))[7] = UInt8.ofNat (bt v 7) := rfl
  simp only [pr, hs, show (0 : Nat) < 8 by decide, show (1 : Nat) < 8 by decide, show (2 : Nat) < 8 by decide, show (3 : Nat) < 8 by decide, show (4 : Nat) < 8 by decide, show (5 : Nat) < 8 by decide, show (6 : Nat) < 8 by decide, show (7 : Nat) < 8 by decide, dite_true, e0, e1, e2, e3, e4, e5, e6, e7, ht]
  unfold bt
  simp only [show (256 : Nat) ^ 0 = 1 from rfl, show (256 : Nat) ^ 1 = 256 from rfl, show (256 : Nat) ^ 2 = 65536 from rfl, show (256 : Nat) ^ 3 = 16777216 from rfl, show (256 : Nat) ^ 4 = 4294967296 from rfl, show (256 : Nat) ^ 5 = 1099511627776 from rfl, show (256 : Nat) ^ 6 = 281474976710656 from rfl, show (256 : Nat) ^ 7 = 72057594037927936 from rfl]
  omega
theorem in8_l8 {n : Int} (h : I64 n) : in8 (tx (l8 (us n))) = n := by unfold in8; rw [pr_l8 (us_lt n), sg_us h]
/-- a flag's bytes, a number's -/
def fb8 (b : Bool) : List UInt8 := [if b then 1 else 0, 0, 0, 0, 0, 0, 0, 0]
def nb8 (n : Int) : List UInt8 := l8 (us n)
def zb8 (p : Int × Int) : List UInt8 := ls (sz p.1) ++ ls (sz p.2)
theorem zb8_len (p : Int × Int) : (zb8 p).length = 8 := rfl
theorem i8s_flat {l : List Int} (h : ∀ n ∈ l, I64 n) : i8s (tx (flat nb8 8 l)) = l := by
  have hl : (tx (flat nb8 8 l)).size / 8 = l.length := by rw [tx_size, flat_len nb8 8 (fun _ _ => rfl) (by omega), Nat.mul_div_cancel _ (by omega)]
  apply List.ext_getElem
  · rw [i8s_len, hl]
  · intro k h1 h2
    rw [i8s_at, tx_cut (by omega) (fun _ _ => rfl) h2, List.take_of_length_le (by show (nb8 l[k]).length ≤ 8; exact Nat.le_refl 8)]
    exact in8_l8 (h _ (List.getElem_mem h2))
theorem fls_flat (l : List Bool) : fls (tx (flat fb8 1 l)) = l := by
  have hl : (tx (flat fb8 1 l)).size = l.length := by rw [tx_size, flat_len fb8 1 (fun _ _ => rfl) (by omega), Nat.mul_one]
  apply List.ext_getElem
  · rw [fls_len, hl]
  · intro k h1 h2
    have e : (fls (tx (flat fb8 1 l)))[k] = (((tx (flat fb8 1 l)).extract (k * 1) ((k + 1) * 1)).toList == [1]) := by simp [fls]
    rw [e, tx_cut (by omega) (fun _ _ => rfl) h2]
    cases l[k] <;> decide +kernel
/-- a row's tensor is right -/
theorem ck_row {nme : ByteArray} {k : Int} {s : Nat} {dims : List Int} {n : Nat} {d : ByteArray} (h1 : nm nme = true) (h2 : kSize k = (s : Int)) (hs : s ≠ 0) (h3 : M5.sz dims = ((n : Int), 0)) (h4 : d.size = n * s) (h5 : ∀ j, j < n → elk k d j = true) : ck ⟨nme, k, dims, d⟩ = 0 := by
  refine ck_ok h1 (by show kSize k ≠ 0; rw [h2]; omega) (by show (M5.sz dims).2 = 0; rw [h3]) ?_ ?_
  · show (d.size : Int) = (M5.sz dims).1 * kSize k
    rw [h3, h2, h4, Int.natCast_mul]
  · intro j hj
    have hj' : (j : Int) < (M5.sz dims).1 := hj
    rw [h3] at hj'
    exact h5 j (by simpa using hj')
theorem sz_one {n : Nat} (h : n ≤ 65536) : M5.sz [(n : Int)] = ((n : Int), 0) := by
  rw [M5.sz_ok ⟨by simp, by simp, by simp; omega, by simp [M5.prd]; omega⟩]
  simp [M5.prd]
theorem sz_two {n : Nat} (h : n ≤ 65536) : M5.sz [1, (n : Int)] = ((n : Int), 0) := by
  rw [M5.sz_ok ⟨by simp, by simp, by simp; omega, by simp [M5.prd]; omega⟩]
  simp [M5.prd]
theorem sz_none : M5.sz [] = (((1 : Nat) : Int), 0) := by decide
theorem elk_fb {l : List Bool} {j : Nat} (h : j < l.length) : elk 9 (tx (flat fb8 1 l)) j = true := by
  have hl : (tx (flat fb8 1 l)).size = l.length := by rw [tx_size, flat_len fb8 1 (fun _ _ => rfl) (by omega), Nat.mul_one]
  have h9 := may_elk (k := 9) (d := tx (flat fb8 1 l)) (j := j) (by rw [show (kSize 9).toNat = 1 by decide, hl]; omega)
  rw [show (kSize 9).toNat = 1 by decide] at h9
  rw [← h9, tx_cut (by omega) (fun _ _ => rfl) h]
  cases l[j] <;> decide +kernel
theorem rd_zb {a b : Int} (ha : a.natAbs ≤ 1048576) (hb : b.natAbs ≤ 1048576) : RdSpec (tx (zb8 (a, b))) a b 0 := by
  have e : tx (zb8 (a, b)) = bs (sz a) ++ bs (sz b) := ByteArray.ext (by simp [zb8, bs])
  rw [e]
  refine .inr (.inr (.inl ⟨by rw [ByteArray.size_append]; rfl, rfl, ha, hb, ?_, ?_⟩))
  · rw [cat_first _ _ rfl, pr_bs (sz_lt a)]
  · rw [cat_second _ _ rfl rfl, pr_bs (sz_lt b)]
theorem elk_zb {l : List (Int × Int)} (hl : ∀ p ∈ l, p.1.natAbs ≤ 1048576 ∧ p.2.natAbs ≤ 1048576) {j : Nat} (h : j < l.length) : elk 14 (tx (flat zb8 8 l)) j = true := by
  rw [elk_gauss, tx_cut (by omega) (fun _ _ => rfl) h, List.take_of_length_le (by rw [zb8_len]; exact Nat.le_refl 8)]
  obtain ⟨h1, h2⟩ := hl _ (List.getElem_mem h)
  have hr := rd_zb h1 h2
  rcases rd8 hr rfl with ⟨_, hg⟩ | ⟨h0, _⟩
  · exact hg
  · cases h0
theorem nums_flat {l ps : List (Int × Int)} (hl : ∀ p ∈ l, p.1.natAbs ≤ 1048576 ∧ p.2.natAbs ≤ 1048576) (h1 : ps.length = (tx (flat zb8 8 l)).size / 8) (h2 : ∀ k (h : k < ps.length), RdSpec ((tx (flat zb8 8 l)).extract (k * 8) ((k + 1) * 8)) ps[k].1 ps[k].2 0) : ps = l := by
  have hsz : (tx (flat zb8 8 l)).size / 8 = l.length := by rw [tx_size, flat_len zb8 8 (fun _ _ => rfl) (by omega), Nat.mul_div_cancel _ (by omega)]
  apply List.ext_getElem
  · rw [h1, hsz]
  · intro k k1 k2
    have h3 := h2 k k1
    rw [tx_cut (by omega) (fun _ _ => rfl) k2, List.take_of_length_le (by rw [zb8_len]; exact Nat.le_refl 8)] at h3
    obtain ⟨g1, g2⟩ := hl _ (List.getElem_mem k2)
    obtain ⟨e1, e2, -⟩ := rdSpec_one h3 (rd_zb g1 g2)
    exact Prod.ext e1 e2
theorem tx_append (a b : List UInt8) : tx a ++ tx b = tx (a ++ b) := ByteArray.ext (by simp)
end Go.Proofs.YtmmcfhgbjmfbaaaGreat
