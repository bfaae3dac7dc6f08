import Derived.Test.YtjjfdlgoacockaaGreatRows
import Derived.Test.YtjjfdlgoacockaaGreatTMade
import Derived.Test.YtjjfdlgoacockaaGreatMath
import Derived.Test.YtjjfdlgoacockaaGreatGRefTwo
import Derived.Outline
import Derived.WalkSpells
import Derived.WalkMore
import Derived.RegionTactic
import Derived.Deep.QuietTactic
import Derived.BigQuiet
import Derived.Lib.CutLaws
namespace Go.Proofs.YtjjfdlgoacockaaGreat
open Go.RowKit M8

theorem x_indexByte (s : ByteArray) (c : Int) (w : World) : (callFunc 208 #[.string s, .int .u8 c]).run Tryz.prog w = .ok (.value (.int .i64 (Lib.indexByte s.data.toList c.toNat.toUInt8))) w := by
  rw [run_callFunc_extern Tryz.func208 (by kernel_rfl) (by kernel_rfl) (by kernel_rfl) (e := Extern.BytealgIndexByte.indexByte) (by kernel_rfl), Lib.run_indexByteString]
  rfl
set_option maxRecDepth 100000 in
theorem indexByte_any (s : ByteArray) (c : Int) (w : World) : Calls Tryz.prog 191 #[.string s, .int .u8 c] w fun e w' => e = .returned (.int .i64 (Lib.indexByte s.data.toList c.toNat.toUInt8)) ∧ w = w' := by
  have hx := Lib.hid (x_indexByte s c)
  go_enter Tryz.func191, Tryz.ntmps191
  go_wp2
  rw [hx.out]
  go_wp2
  go_ret
  exact ⟨rfl, rfl⟩
set_option maxRecDepth 100000 in
theorem index_slash (s : ByteArray) (w : World) : Calls Tryz.prog 184 #[.string s, .string ⟨#[47]⟩] w fun e w' => e = .returned (.int .i64 (Lib.indexByte s.data.toList 47)) ∧ w = w' := by
  go_enter Tryz.func184, Tryz.ntmps184
  go_wp2_with (go_at_call 191; refine (indexByte_any _ _ _).mono ?_; rintro e w' ⟨rfl, rfl⟩)
  · have h : ([47] == s.toList) = true := by assumption
    go_ret
    refine ⟨?_, rfl⟩
    have e : s.data.toList = [47] := by rw [← Lib.toList_data]; exact (beq_iff_eq.1 h).symm
    rw [e]
    rfl
  · go_ret
    exact ⟨rfl, rfl⟩
def CutIs (s p r : ByteArray) (m : Bool) : Prop :=
  p.size ≤ s.size ∧ r.size ≤ s.size ∧ (m = true → r.size < s.size) ∧ pts [] s.data.toList = p.data.toList :: (if m then pts [] r.data.toList else [])
def CutRes (s : ByteArray) (w : World) (e : Ending) (w' : World) : Prop :=
  ∃ p r m n, e = .returned (.tuple #[.string p, .string r, .bool m]) ∧ CutIs s p r m ∧ w' = w.drewN n
theorem cut_miss {s : ByteArray} (h : Lib.indexByte s.data.toList 47 = -1) : CutIs s s ⟨#[]⟩ false :=
  ⟨Nat.le_refl _, Nat.zero_le _, (fun h => by cases h), by rw [pts_miss _ _ h]; rfl⟩
theorem cut_hit {s : ByteArray} {i : Nat} (h : Lib.indexByte s.data.toList 47 = (i : Int)) : i < s.size ∧ CutIs s (s.extract 0 i) (s.extract (i + 1) s.size) true := by
  obtain ⟨h1, h2⟩ := pts_hit s.data.toList [] i h
  have h1' : i < s.size := by simpa using h1
  refine ⟨h1', by simp; omega, by simp, by simp; omega, ?_⟩
  rw [h2]
  have e1 : (s.extract 0 i).data.toList = s.data.toList.take i := by simp
  have e2 : (s.extract (i + 1) s.size).data.toList = s.data.toList.drop (i + 1) := by
    simp only [ByteArray.data_extract, Array.toList_extract, List.extract_eq_take_drop]
    exact List.take_of_length_le (by simp)
  rw [e1, e2]
  rfl
set_option maxRecDepth 100000 in
theorem lcut_any (s : ByteArray) (w : World) (hs : s.size ≤ maxLen) : Calls Tryz.prog 173 #[.string s, .string ⟨#[47]⟩] w (CutRes s w) := by
  unfold maxLen at hs
  have hx := index_slash s w
  rcases indexByte_cases s.data.toList 47 with hi | ⟨i, hi⟩
  · rw [hi] at hx
    have HX := Lib.hid hx
    have HC := Lib.hid (cut_miss hi)
    clear hx hi
    go_enter Tryz.func173, Tryz.ntmps173
    go_wp2_with fail
    refine HX.out.mono ?_
    rintro e w' ⟨rfl, rfl⟩
    go_wp2_with fail
    go_ret3
    exact ⟨_, _, _, 0, rfl, HC.out, rfl⟩
  · rw [hi] at hx
    have HX := Lib.hid hx
    obtain ⟨hlt, hc⟩ := cut_hit hi
    have HC := Lib.hid hc
    clear hx hi hc
    have c1 : (0 : Int) ≤ (i : Int) := by omega
    have c2 : (i : Int) ≤ (s.size : Int) := by omega
    have c3 : (0 : Int) ≤ (i : Int) + 1 := by omega
    have c4 : (i : Int) + 1 ≤ (s.size : Int) := by omega
    go_enter Tryz.func173, Tryz.ntmps173
    go_wp2_with fail
    refine HX.out.mono ?_
    rintro e w' ⟨rfl, rfl⟩
    go_wp2_with fail
    go_region
    go_wp2
    go_ret3
    exact ⟨_, _, _, 1, rfl, HC.out, rfl⟩
set_option maxRecDepth 100000 in
theorem o_cut_any (s : ByteArray) (w : World) (hs : s.size ≤ maxLen) : Calls Tryz.prog 141 #[.string s, .string ⟨#[47]⟩] w (CutRes s w) := by
  have HC := Lib.hid (lcut_any s w hs)
  go_enter Tryz.func141, Tryz.ntmps141
  go_wp2_with fail
  refine HC.out.mono ?_
  rintro e w' ⟨p, r, m, n, rfl, hc, rfl⟩
  have HX := Lib.hid hc
  clear hc
  go_wp2_with fail
  go_ret3
  exact ⟨p, r, m, n, rfl, HX.out, rfl⟩
end Go.Proofs.YtjjfdlgoacockaaGreat
