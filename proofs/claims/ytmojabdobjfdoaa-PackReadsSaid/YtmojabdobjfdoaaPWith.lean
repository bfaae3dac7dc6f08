/- The walks of layer 3: one number more; a packed text's numbers; by contract. -/
import Derived.Test.YtmojabdobjfdoaaPAt
import Derived.Test.YtmojabdobjfdoaaRead
namespace Go.Proofs.Ytmojabdobjfdoaa
open Go.RowKit M1 M2 M3

set_option maxRecDepth 100000 in
theorem with_any (A : Option Addr) (c : Nat) (acc : List Int) (v : Nat) (B : Nat) (w : World) (hB : B ≤ w.heap.size) (hl : acc.length ≤ 65536) (hv : Fits64 v)
    (hown : w.ownsRow B 2 1 (.slice A acc.length c) acc.length (iv acc)) :
    Calls Try.prog 19 #[.slice A acc.length c, .int .u64 (v : Int)] w (RowRes B (if acc.length = 65536 then ([], 7) else (acc ++ [sg v], 0)) w) := by
  by_cases h : acc.length = 65536
  · rw [if_pos h]
    have hq : ((acc.length : Int) == 65536) = true := by simp; omega
    clear hown h
    go_enter Try.func19, Try.ntmps19
    go_wp2_with fail
    go_ret2
    exact ⟨_, rfl, World.ownsRow_nil _ _ _ _, Below.refl _ _⟩
  · rw [if_neg h]
    have hq : ((acc.length : Int) == 65536) = false := by simp; omega
    have hv' : (v : Int) ≤ 18446744073709551615 := by unfold Fits64 at hv; omega
    obtain ⟨i0, hi0, hz0, hz1, hz2⟩ := info_parts infoInt64
    clear h hv
    go_enter Try.func19, Try.ntmps19
    go_wp2_with (at_builtin; refine wpList_append_own _ rfl _ _ 23 rfl B 2 i0 _ 1 8 Try.underlying23 hi0 hz0 hz1 hz2 rfl (by decide) _ _ _ rfl (hown.alloc _) ⟨w.heap.size, 0, none⟩ 1 1 [.int .i64 (wrap64 (v : Int))] rfl rfl (cell_one_new _ _ _) ?c2 ?c3 ?c4 ?c5 ?_)
    case c2 => intro u hu; simp at hu; subst hu; rfl
    case c3 => unfold maxLen; omega
    case c4 => omega
    case c5 => simp; omega
    intro v' w2 hown' hgrow _
    have e1 : iv acc ++ [.int .i64 (wrap64 (v : Int))] = iv (acc ++ [sg v]) := by rw [iv_append]; rfl
    have e2 : acc.length + 1 = (acc ++ [sg v]).length := by simp
    rw [e1, e2] at hown'
    have hb := ((Below.refl B w).alloc hB _).grown hgrow (by simp; omega) (fun q hq => (hown.lt q hq).1)
    have HO := Lib.hid (And.intro hown' hb)
    clear hown' hgrow hown e1 e2 hb
    go_wp2_with fail
    go_ret2
    exact ⟨_, rfl, HO.out.1, HO.out.2⟩
end Go.Proofs.Ytmojabdobjfdoaa
