/- The walks of anew: a list of any elements, laid into memory of the call's own. -/
import Derived.Test.YtiniicehfjgpgaaGreatTCheck
import Derived.Test.YtiniicehfjgpgaaGreatCopy
import Derived.Test.YtiniicehfjgpgaaGreatAppend
namespace Go.Proofs.YtiniicehfjgpgaaGreat
open Go.RowKit M7 M10

/-- a row of the call's own, of these cells -/
def MNewRes (T : TypeId) (size n : Nat) (cs : List Value) (B : Nat) (w : World) (e : Ending) (w' : World) : Prop :=
  ∃ v, e = .returned v ∧ w'.ownsRow B T size v n cs ∧ Below B w w'
theorem size_of_info {P : Program} {T : TypeId} {i : TypeInfo} {s : Nat} (hi : P.info? T = some i) (h : i.size = s) : (P.info? T).map (·.size) = some s := by rw [hi]; simp [h]

set_option maxRecDepth 100000 in
theorem new_ints (A : Option Addr) (n c : Nat) (cs : List Value) (w : World) (hn : n * 8 ≤ 140737488351232) (hs : SR w w.heap.size 1 A n cs) (h1 : ∀ v ∈ cs, v.oneCell' = true) :
    Calls Tryz.prog 105 #[.slice A n c] w (MNewRes 2 1 n cs w.heap.size w) := by
  obtain ⟨i0, hi0, hz0, hz1, hz2⟩ := info_parts infoInt64
  have hcl := hs.1
  by_cases h0 : n = 0
  · subst h0
    have HN := Lib.hid (List.eq_nil_of_length_eq_zero (l := cs) (by simpa using hcl))
    clear hs h1 hn hcl
    go_enter Tryz.func105, Tryz.ntmps105
    go_wp2_with fail
    go_ret
    rw [HN.out]
    exact ⟨_, rfl, World.ownsRow_nil _ _ _ _, Below.refl _ _⟩
  · have hpos : 0 < n := by omega
    have h0' : ((n : Int) == 0) = false := by rw [beq_eq_false_iff_ne]; omega
    obtain ⟨b, o, rfl, hb, hr⟩ := hs.2 hpos
    have HS := Lib.hid hs
    have H1 := Lib.hid h1
    have HCL := Lib.hid hcl
    have HSZ := Lib.hid (size_of_info hi0 hz1)
    clear hs hr h1 h0 hcl
    have hL : (n : Int) = ((n : Nat) : Int) := rfl
    go_enter Tryz.func105, Tryz.ntmps105
    go_wp2_with (at_make; refine wpList_make_full _ rfl _ _ 36 rfl w.heap.size 2 i0 _ 1 Tryz.underlying36 hi0 hz0 hz1 .i64 .i64 _ _ n rfl rfl rfl rfl (by rw [hz2]; omega) (by unfold maxLen; omega) (Nat.le_refl _) ?_)
    intro w1 hown hgrow
    have HB1 := Lib.hid ((Below.refl w.heap.size w).grown hgrow (Nat.le_refl _) (fun q hq => by cases hq))
    have HOW := Lib.hid hown
    have HSR := Lib.hid (HS.out.below HB1.out).cells
    clear hown hgrow
    obtain ⟨w2, hcp, hown2, hb2⟩ := copy_whole (P := Tryz.prog) (dT := 36) (sT := 36) (ty := 3) (sCap := c) Tryz.underlying36 HSZ.out HOW.out hpos HCL.out (HSR.out _ rfl) H1.out
    have HR := Lib.hid (And.intro hown2 (HB1.out.trans hb2))
    clear hown2 hb2
    go_wp2_with fail
    go_ret
    exact ⟨_, rfl, HR.out.1, HR.out.2⟩

theorem infoStr10 : (Tryz.prog.info? 9).map (fun i => (i.zero, i.size, i.bytes)) = some (some (.string ⟨#[]⟩), 1, 16) := by kernel_rfl
theorem infoInfo10 : (Tryz.prog.info? 38).map (fun i => (i.zero, i.size, i.bytes)) = some (some (.agg #[.string ⟨#[]⟩, .int .i64 0, .slice none 0 0]), 3, 48) := by kernel_rfl
theorem infoTen10 : (Tryz.prog.info? 98).map (fun i => (i.zero, i.size, i.bytes)) = some (some (.agg #[.string ⟨#[]⟩, .int .i64 0, .slice none 0 0, .string ⟨#[]⟩]), 4, 64) := by kernel_rfl
theorem infoAttr10 : (Tryz.prog.info? 94).map (fun i => (i.zero, i.size, i.bytes)) = some (some (.agg #[.string ⟨#[]⟩, .bool false, .int .i64 0, .slice none 0 0]), 4, 56) := by kernel_rfl
theorem infoNode10 : (Tryz.prog.info? 26).map (fun i => (i.zero, i.size, i.bytes)) = some (some (.agg #[.string ⟨#[]⟩, .slice none 0 0, .string ⟨#[]⟩, .slice none 0 0]), 4, 80) := by kernel_rfl
end Go.Proofs.YtiniicehfjgpgaaGreat
