/- The walk of the law PackFull. -/
import Derived.Test.YtmojabdobjfdoaaPAwake
import Derived.Test.YtmojabdobjfdoaaPInts
import Derived.Test.YtmojabdobjfdoaaPuts
namespace Go.Proofs.Ytmojabdobjfdoaa
open Go.RowKit M1 M2 M3

theorem made_zeros {w : World} {B : Nat} {v : Value} {n : Nat} (h : w.ownsRow B 5 1 v n (madeCells #[.int .u8 0] n).toList) :
    w.ownsRow B 5 1 v n (bv (List.replicate n 0)) := by
  rw [toList_madeCells_one] at h
  have e : bv (List.replicate n 0) = List.replicate n (Value.int .u8 0) := by simp [bv]
  rw [e]
  exact h

set_option maxRecDepth 100000 in
theorem packFull_walk (n : Int) (w : World) (h0 : 0 ≤ n) (h1 : n ≤ 255) :
    Calls Try.prog 5 #[.int .u8 n] w fun e w' => e = .returned (.bool true) ∧ Below w.heap.size w w' := by
  obtain ⟨i0, hi0, hz0, hz1, hz2⟩ := info_parts infoByte
  obtain ⟨j, hj⟩ := Int.eq_ofNat_of_zero_le (show 0 ≤ n % 5 by omega)
  have hj4 : j ≤ 4 := by omega
  go_enter Try.func5, Try.ntmps5
  go_wp2_with (at_make; refine wpList_make_full _ rfl (.tmp 12) (.tmp 12) 49 rfl w.heap.size 5 i0 (.int .u8 0) 1 Try.underlying49 hi0 hz0 hz1 .i64 .i64 _ _ (65533 + j) rfl rfl ?c1 ?c2 ?c3 ?c4 (Nat.le_refl _) ?_)
  case c1 => omega
  case c2 => omega
  case c3 => rw [hz2]; omega
  case c4 => unfold maxLen; omega
  intro w1 hown hg
  have HB1 := Lib.hid ((Below.refl w.heap.size w).grown hg (Nat.le_refl _) (by simp))
  have hown := made_zeros hown
  have hconv : _ = Result.ok (Value.string ⟨(List.replicate (65533 + j) (0 : UInt8)).toArray⟩) w1 := run_bytes_own w1 49 9 5 Try.underlying49 Try.underlying5 Try.underlying9 hown
  have hS : (⟨(List.replicate (65533 + j) (0 : UInt8)).toArray⟩ : ByteArray).data.toList = List.replicate (65533 + j) 0 := rfl
  have hSs : (⟨(List.replicate (65533 + j) (0 : UInt8)).toArray⟩ : ByteArray).size = 65533 + j := by show (List.replicate (65533 + j) (0 : UInt8)).toArray.size = _; simp
  generalize (⟨(List.replicate (65533 + j) (0 : UInt8)).toArray⟩ : ByteArray) = S at hconv hS hSs
  have hz := ints_zeros hS
  have hof : ofNum [⟨1, 2, 0, S⟩, ⟨1, 0, 0, ⟨#[]⟩⟩] 1 = [⟨1, 2, 0, S⟩, ⟨1, 0, 0, ⟨#[]⟩⟩] := by simp [ofNum]
  have hok : ∀ f ∈ ([⟨1, 2, 0, S⟩, ⟨1, 0, 0, ⟨#[]⟩⟩] : List WFd), FOk f := by
    intro f hf
    simp only [List.mem_cons, List.not_mem_nil, or_false] at hf
    rcases hf with rfl | rfl
    · exact ⟨by simp, by simp, by simp, by simp, by unfold Fits64; simp, by simp only; omega⟩
    · exact ⟨by decide, by decide, by decide, by decide, by unfold Fits64; simp, by show (0 : Nat) ≤ _; omega⟩
  have hc := ints_any (some ⟨w1.heap.size, 0, none⟩) 2 [⟨1, 2, 0, S⟩, ⟨1, 0, 0, ⟨#[]⟩⟩] 1 (w1.alloc (.cells (fcs [⟨1, 2, 0, S⟩, ⟨1, 0, 0, ⟨#[]⟩⟩]).toArray 27)) (by simp) ((SR.lit w1 (fcs [⟨1, 2, 0, S⟩, ⟨1, 0, 0, ⟨#[]⟩⟩]) 27 (size := 4) (n := 2) rfl).more (by simp)) hok
  rw [hof] at hc
  by_cases h3 : j ≤ 2
  · obtain ⟨q, hq, hql⟩ := hz.1 (by omega)
    rw [hq] at hc
    have HC := Lib.hid hc
    have hk : 65534 + (j : Int) ≤ 65536 := by omega
    have hqi : (q.length : Int) = 65534 + (j : Int) := by omega
    have HQ := Lib.hid hqi
    clear hown hg hS hSs hz hof hok hc hq hql h3 hqi
    go_wp2_with fail
    refine HC.out.mono ?_
    rintro e w2 ⟨v2, rfl, hown2, hb2⟩
    obtain ⟨A2, c2, rfl, -, -⟩ := own_form hown2
    have HB2 := Lib.hid (HB1.out.trans ((below_one hb2).mono HB1.out.size))
    clear hown2 hb2 hconv
    go_wp2_with fail
    refine (pawake_any _).mono ?_
    rintro e w3 ⟨rfl, hb3⟩
    have HB3 := Lib.hid (HB2.out.trans (hb3.mono HB2.out.size))
    clear hb3
    have hqi := HQ.out
    go_wp2_with fail
    go_ret
    exact ⟨rfl, HB3.out⟩
  · have hq := hz.2 (by omega)
    rw [hq] at hc
    have HC := Lib.hid hc
    have hk : 65536 < 65534 + (j : Int) := by omega
    clear hown hg hS hSs hz hof hok hc hq h3
    go_wp2_with fail
    refine HC.out.mono ?_
    rintro e w2 ⟨v2, rfl, hown2, hb2⟩
    obtain ⟨A2, c2, rfl, -, -⟩ := own_form hown2
    have HB2 := Lib.hid (HB1.out.trans ((below_one hb2).mono HB1.out.size))
    clear hown2 hb2 hconv
    go_wp2_with fail
    refine (pawake_any _).mono ?_
    rintro e w3 ⟨rfl, hb3⟩
    have HB3 := Lib.hid (HB2.out.trans (hb3.mono HB2.out.size))
    clear hb3
    go_wp2_with fail
    go_ret
    exact ⟨rfl, HB3.out⟩
end Go.Proofs.Ytmojabdobjfdoaa
