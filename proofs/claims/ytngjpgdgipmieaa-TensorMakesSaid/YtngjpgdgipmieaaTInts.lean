/- The walks of Ints, Flags, Nums, and of the document's Ints. -/
import Derived.Test.YtngjpgdgipmieaaTElems
import Derived.Test.YtngjpgdgipmieaaTRead
import Derived.Test.YtngjpgdgipmieaaAppend
import Derived.Deep.Slices
namespace Go.Proofs.Ytngjpgdgipmieaa
open Go.RowKit M6 M7

/-- a flag's list -/
def fls (d : ByteArray) : List Bool := (List.range d.size).map fun j => (d.extract (j * 1) ((j + 1) * 1)).toList == [1]
theorem fls_len (d : ByteArray) : (fls d).length = d.size := by simp [fls]
theorem fls_at {d : ByteArray} {j : Nat} (h : j < d.size) : (fls d)[j]'(by rw [fls_len]; exact h) = decide (d[j].toNat = 1) := by
  have e : (fls d)[j]'(by rw [fls_len]; exact h) = ((d.extract (j * 1) ((j + 1) * 1)).toList == [1]) := by simp [fls]
  rw [e, Nat.mul_one, Nat.mul_one, one_byte h]
  have hx := UInt8.toNat_lt d[j]
  generalize d[j] = x at *
  by_cases hx1 : x = 1
  · subst hx1; decide +kernel
  · have h1 : x.toNat ≠ 1 := fun h => hx1 (UInt8.toNat_inj.1 h)
    rw [decide_eq_false h1]
    exact l1 ▸ teq_no (fun h => hx1 (byte_is.1 h))
theorem ext_size {d : ByteArray} {n s k : Nat} (h : d.size = n * s) (hk : k < n) : (d.extract (k * s) ((k + 1) * s)).size = s := by
  rw [ByteArray.size_extract]
  have h2 : (k + 1) * s ≤ n * s := Nat.mul_le_mul_right _ (by omega)
  have h3 : (k + 1) * s = k * s + s := Nat.succ_mul k s
  omega
/-- the numbers of a right tensor -/
theorem nums_of (t : Ten) : ∃ ps : List (Int × Int), ck t = 0 → t.kind = 14 → ps.length = t.data.size / 8 ∧ ∀ k (h : k < ps.length), RdSpec (t.data.extract (k * 8) ((k + 1) * 8)) ps[k].1 ps[k].2 0 := by
  by_cases h : ck t = 0 ∧ t.kind = 14
  · obtain ⟨h1, h2⟩ := h
    obtain ⟨n, hn, hdiv, hn6⟩ := count_of h1 h2 (s := 8) (by decide) (by decide)
    obtain ⟨-, -, -, h4, h5⟩ := ck_zero h1
    rw [h2] at h4 h5
    have hk : ∀ i, i < n → ∃ p : Int × Int, RdSpec (t.data.extract (i * 8) ((i + 1) * 8)) p.1 p.2 0 := by
      intro i hi
      have hg := h5 i (by rw [show kSize 14 = 8 by decide] at h4; omega)
      rw [elk_gauss] at hg
      unfold gok at hg
      rw [Bool.and_eq_true, part_iff, part_iff] at hg
      obtain ⟨⟨a, ha, e1⟩, b, hb, e2⟩ := hg
      exact ⟨(a, b), .inr (.inr (.inl ⟨ext_size hn hi, rfl, ha, hb, e1, e2⟩))⟩
    obtain ⟨F, hF⟩ := Go.Deep.choose_lt hk
    refine ⟨(List.range n).map F, fun _ _ => ⟨by simp; omega, fun k hk => ?_⟩⟩
    have hkn : k < n := by simpa using hk
    simpa using hF k hkn
  · exact ⟨[], fun h1 h2 => absurd ⟨h1, h2⟩ h⟩

set_option maxRecDepth 100000 in
theorem tints_any (t : Ten) (A : Option Addr) (c : Nat) (w : World) (ht : Tok w t A) :
    Calls Try.prog 15 #[tv t.name t.kind (.slice A t.dims.length c) t.data] w fun e w' =>
      ∃ v ys, e = .returned (.tuple #[v, .int .i64 (ec 7 t)]) ∧ w'.ownsRow w.heap.size 2 1 v ys.length (iv ys) ∧ Below w.heap.size w w' ∧ (ec 7 t = 0 → ys = i8s t.data) ∧ (ec 7 t ≠ 0 → ys = []) := by
  have HBX := Lib.hid (Bx.start w #[.string t.name, .int .i64 t.kind, .slice A t.dims.length c, .string t.data] 25)
  have HC := Lib.hid (elemsInt_any t A c _ (ht.below HBX.out.all) (i8s t.data) (fun _ _ => i8s_len _) (fun h1 h2 k hk W => by
    obtain ⟨n, hn, hdiv, hn6⟩ := count_of h1 h2 (s := 8) (by decide) (by decide)
    rw [i8s_at]
    refine (readInt_any _ W (ext_size hn (by rw [i8s_len] at hk; omega))).mono ?_
    rintro e w1 ⟨rfl, rfl⟩
    exact ⟨rfl, Below.refl _ _⟩))
  clear ht
  go_enter Try.func15, Try.ntmps15
  go_wp2_with fail
  refine HC.out.mono ?_
  rintro e w1 ⟨v, ys, rfl, hown, hb1, h1, h2⟩
  have HR := Lib.hid (And.intro hown (And.intro h1 h2))
  have H1 := Lib.hid (HBX.out.below hb1)
  clear hown h1 h2 hb1 HC
  go_wp2_with fail
  go_ret2
  exact ⟨v, ys, rfl, own_base HR.out.1 (by simp), H1.out.all, HR.out.2.1, HR.out.2.2⟩

set_option maxRecDepth 100000 in
theorem tflags_any (t : Ten) (A : Option Addr) (c : Nat) (w : World) (ht : Tok w t A) :
    Calls Try.prog 16 #[tv t.name t.kind (.slice A t.dims.length c) t.data] w fun e w' =>
      ∃ v ys, e = .returned (.tuple #[v, .int .i64 (ec 9 t)]) ∧ w'.ownsRow w.heap.size 4 1 v ys.length (ys.map fun p => Value.bool p) ∧ Below w.heap.size w w' ∧ (ec 9 t = 0 → ys = fls t.data) ∧ (ec 9 t ≠ 0 → ys = []) := by
  have HBX := Lib.hid (Bx.start w #[.string t.name, .int .i64 t.kind, .slice A t.dims.length c, .string t.data] 25)
  have HC := Lib.hid (elemsFlag_any t A c _ (ht.below HBX.out.all) (fls t.data) (fun _ _ => by rw [fls_len, Nat.div_one]) (fun h1 h2 k hk W => by
    refine (readFlag_any _ W).mono ?_
    rintro e w1 ⟨rfl, rfl⟩
    exact ⟨by simp [fls], Below.refl _ _⟩))
  clear ht
  go_enter Try.func16, Try.ntmps16
  go_wp2_with fail
  refine HC.out.mono ?_
  rintro e w1 ⟨v, ys, rfl, hown, hb1, h1, h2⟩
  have HR := Lib.hid (And.intro hown (And.intro h1 h2))
  have H1 := Lib.hid (HBX.out.below hb1)
  clear hown h1 h2 hb1 HC
  go_wp2_with fail
  go_ret2
  exact ⟨v, ys, rfl, own_base HR.out.1 (by simp), H1.out.all, HR.out.2.1, HR.out.2.2⟩

set_option maxRecDepth 100000 in
theorem tnums_any (t : Ten) (A : Option Addr) (c : Nat) (w : World) (ht : Tok w t A) :
    Calls Try.prog 17 #[tv t.name t.kind (.slice A t.dims.length c) t.data] w fun e w' =>
      ∃ v, ∃ ps : List (Int × Int), e = .returned (.tuple #[v, .int .i64 (ec 14 t)]) ∧ w'.ownsRow w.heap.size 50 1 v ps.length (ps.map fun p => Value.complex .f64 (fz p.1) (fz p.2)) ∧ Below w.heap.size w w' ∧
        (ec 14 t = 0 → ps.length = t.data.size / 8 ∧ ∀ k (h : k < ps.length), RdSpec (t.data.extract (k * 8) ((k + 1) * 8)) ps[k].1 ps[k].2 0) ∧ (ec 14 t ≠ 0 → ps = []) := by
  have HBX := Lib.hid (Bx.start w #[.string t.name, .int .i64 t.kind, .slice A t.dims.length c, .string t.data] 25)
  obtain ⟨ps, hps⟩ := nums_of t
  have HC := Lib.hid (elemsNum_any t A c _ (ht.below HBX.out.all) (ps.map fun p => (fz p.1, fz p.2)) (fun h1 h2 => by rw [List.length_map]; exact (hps h1 h2).1) (fun h1 h2 k hk W => by
    obtain ⟨n, hn, hdiv, hn6⟩ := count_of h1 h2 (s := 8) (by decide) (by decide)
    obtain ⟨hl, hrd⟩ := hps h1 h2
    have hk' : k < ps.length := by simpa using hk
    refine (readNum_any _ W (ext_size hn (by omega))).mono ?_
    rintro e w1 ⟨a, b, cc, rfl, hsp, hb⟩
    obtain ⟨rfl, rfl, -, -, -⟩ := rdSpec_one hsp (hrd k hk')
    refine ⟨?_, hb⟩
    simp))
  have HP := Lib.hid hps
  clear ht hps
  go_enter Try.func17, Try.ntmps17
  go_wp2_with fail
  refine HC.out.mono ?_
  rintro e w1 ⟨v, ys, rfl, hown, hb1, h1, h2⟩
  have HR := Lib.hid (And.intro hown (And.intro h1 h2))
  have H1 := Lib.hid (HBX.out.below hb1)
  clear hown h1 h2 hb1 HC
  go_wp2_with fail
  go_ret2
  by_cases h0 : ec 14 t = 0
  · have hy := HR.out.2.1 h0
    have ho := HR.out.1
    rw [hy, List.length_map, List.map_map] at ho
    obtain ⟨z1, z2⟩ := ec_zero h0
    exact ⟨v, ps, rfl, own_base ho (by simp), H1.out.all, fun _ => HP.out z1 z2, fun h => absurd h0 h⟩
  · have hy := HR.out.2.2 h0
    have ho := HR.out.1
    rw [hy] at ho
    exact ⟨v, [], rfl, own_base ho (by simp), H1.out.all, fun h => absurd h h0, fun _ => rfl⟩

theorem i8s_take {d : ByteArray} {k : Nat} (h : k < d.size / 8) : (i8s d).take (k + 1) = (i8s d).take k ++ [in8 (d.extract (k * 8) ((k + 1) * 8))] := by
  rw [List.take_succ_eq_append_getElem (by rw [i8s_len]; exact h), i8s_at]

set_option maxRecDepth 100000 in
theorem rints_any (nme : ByteArray) (kd : Int) (A : Option Addr) (l c : Nat) (d : ByteArray) (w : World) (hd : d.size ≤ 140737488351232) :
    Calls Try.prog 19 #[tv nme kd (.slice A l c) d] w (IntsRes w.heap.size (i8s d) w) := by
  obtain ⟨i0, hi0, hz0, hz1, hz2⟩ := info_parts infoInt64
  have HBX := Lib.hid (Bx.start w #[.string nme, .int .i64 kd, .slice A l c, .string d] 28)
  go_enter Try.func19, Try.ntmps19
  go_wp2_with fail
  go_loopw [3, 4] (fun v i wr => ∃ (k : Nat) (K : Int), i = .int .i64 K ∧ K = ((8 * k : Nat) : Int) ∧ k ≤ d.size / 8 ∧ wr.ownsRow w.heap.size 2 1 v k (iv ((i8s d).take k)) ∧ Bx w w.heap.size #[.string nme, .int .i64 kd, .slice A l c, .string d] 28 wr) (fun _ i _ => (d.size : Nat) + 8 - (intOf i).toNat)
  case atStart => exact ⟨0, _, rfl, rfl, by omega, World.ownsRow_nil _ _ _ _, HBX.out⟩
  case round =>
    obtain ⟨k, K, rfl, rfl, hk, hown, hbx⟩ := hrel
    obtain ⟨V, vc, rfl, -, -⟩ := own_form hown
    obtain ⟨x0, x1, x2, x3⟩ := hbx.four
    have HB := Lib.hid hbx
    have HO := Lib.hid hown
    by_cases hlt : k < d.size / 8
    · have hle : 8 * k + 8 ≤ d.size := by omega
      have hle' : ((8 * k : Nat) : Int) + 8 ≤ (d.size : Int) := by omega
      have hsz : (d.extract (8 * k) (8 * k + 8)).size = 8 := by rw [ByteArray.size_extract]; omega
      have HR := Lib.hid (fun W => rint_any (d.extract (8 * k) (8 * k + 8)) W hsz)
      have hts := i8s_take hlt
      rw [show (k + 1) * 8 = 8 * k + 8 by omega, Nat.mul_comm k 8] at hts
      have HTS := Lib.hid hts
      have hkm : k ≤ 140737488351232 := by omega
      clear hts hsz hbx hown
      go_wp2_with fail
      refine (HR.out _).mono ?_
      rintro e w1 ⟨rfl, rfl⟩
      clear HR
      generalize d.extract (8 * k) (8 * k + 8) = E at *
      have hgz := HB.out.2.2.size
      go_wp2_with (at_builtin; refine wpList_append_own _ rfl _ _ 23 rfl w.heap.size 2 i0 _ 1 8 Try.underlying23 hi0 hz0 hz1 hz2 rfl (by decide) _ _ _ rfl (HO.out.alloc _) ⟨wr.heap.size, 0, none⟩ 1 1 [.int .i64 (in8 E)] rfl rfl (cells_new _ _ _) ?c2 ?c3 ?c4 ?c5 ?_)
      case c2 => intro u hu; simp at hu; subst hu; rfl
      case c3 => unfold maxLen; omega
      case c4 => omega
      case c5 => simp; omega
      intro v' w2 hown' hgrow _
      have hne : (Value.slice V k vc).ownBlock ≠ some w.heap.size := own_far HO.out HB.out.1 (by decide)
      have hbx := (HB.out.more (.cells #[.int .i64 (in8 E)] 2)).grown hgrow hne (fun q hq => (HO.out.lt q hq).1)
      have e1 : iv ((i8s d).take k) ++ [.int .i64 (in8 E)] = iv ((i8s d).take (k + 1)) := by rw [HTS.out, iv_append]; rfl
      rw [e1] at hown'
      have HX := Lib.hid (And.intro hown' hbx)
      clear hown' hbx hgrow hne e1 hi0 hz0 hz1 hz2
      go_wp2_with fail
      go_roundw
      case rel => exact ⟨k + 1, _, rfl, by omega, by omega, HX.out.1, HX.out.2⟩
      case measure => simp [intOf]; omega
    · obtain rfl : k = d.size / 8 := by omega
      have hle' : ¬ ((8 * (d.size / 8) : Nat) : Int) + 8 ≤ (d.size : Int) := by omega
      clear hbx hown
      go_wp2_with fail
      go_ret
      have ho := HO.out
      rw [List.take_of_length_le (by rw [i8s_len]; exact Nat.le_refl _)] at ho
      exact ⟨_, rfl, by rw [i8s_len]; exact ho, HB.out.all⟩
end Go.Proofs.Ytngjpgdgipmieaa
