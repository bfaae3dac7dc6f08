/- The walk of the law's Of: files as the document has them. -/
import Derived.Test.YtmmcfhgbjmfbaaaGreatRows
import Derived.Test.YtmmcfhgbjmfbaaaGreatOMath
import Derived.Test.YtmmcfhgbjmfbaaaGreatMath
import Derived.Test.YtmmcfhgbjmfbaaaGreatAppend
import Derived.Outline
import Derived.WalkSpells
import Derived.WalkMore
namespace Go.Proofs.YtmmcfhgbjmfbaaaGreat
open Go.RowKit M8

theorem fcl_one (f : Fl) : fcl [f] = [.string f.key, .string f.data] := rfl
theorem rfileInfo : (Tryz.prog.info? 99).map (fun i => (i.zero, i.size, i.bytes)) = some (some (.agg #[.string ⟨#[]⟩, .string ⟨#[]⟩]), 2, 32) := by kernel_rfl
theorem fcl_snoc {l : List Fl} {k : Nat} (h : k < l.length) : fcl (l.take k) ++ [.string l[k].key, .string l[k].data] = fcl (l.take (k + 1)) := by
  rw [List.take_succ_eq_append_getElem h, fcl_append]; rfl
set_option maxRecDepth 100000 in
theorem of_files (l : List Fl) (A : Option Addr) (c : Nat) (w : World) (hl : l.length ≤ 4398046510976) (hA : SR w w.heap.size 2 A l.length (fcl l)) :
    Calls Tryz.prog 15 #[.slice A l.length c] w fun e w' => ∃ v, e = .returned v ∧ w'.ownsRow w.heap.size 99 2 v l.length (fcl l) ∧ Below w.heap.size w w' := by
  obtain ⟨i0, hi0, hz0, hz1, hz2⟩ := info_parts rfileInfo
  go_enter Tryz.func15, Tryz.ntmps15
  go_wp2_with fail
  go_loopw [3, 5, 8] (fun v _ i wr => ∃ (k : Nat) (K : Int), i = .int .i64 K ∧ K = (k : Nat) ∧ k ≤ l.length ∧ wr.ownsRow w.heap.size 99 2 v k (fcl (l.take k)) ∧ Below w.heap.size w wr) (fun _ _ i _ => l.length - (intOf i).toNat)
  case atStart => exact ⟨0, _, rfl, rfl, by omega, World.ownsRow_nil _ _ _ _, Below.refl _ _⟩
  case round =>
    obtain ⟨k, K, rfl, rfl, hk, hown, hb⟩ := hrel
    obtain ⟨V, vc, rfl, -, -⟩ := own_form hown
    by_cases hlt : k < l.length
    · obtain ⟨b, o, rfl, hbb, x0, x1⟩ := file_at (hA.below hb) hlt
      have hz := hb.size
      have HS := Lib.hid (fcl_snoc hlt)
      have HB := Lib.hid hb
      clear hb
      go_wp2_with (at_builtin; refine wpList_append_own _ rfl _ _ 26 rfl w.heap.size 99 i0 _ 2 32 Tryz.underlying26 hi0 hz0 hz1 hz2 rfl (by decide) _ _ _ rfl ((hown.alloc _).alloc _) ⟨wr.heap.size + 1, 0, none⟩ 1 1 [.string l[k].key, .string l[k].data] rfl rfl (cells_new2 _ _ _ _) ?c2 ?c3 ?c4 ?c5 ?_)
      case c2 => intro u hu; simp at hu; rcases hu with rfl | rfl <;> rfl
      case c3 => unfold maxLen; omega
      case c4 => omega
      case c5 => simp; omega
      intro v' w2 hown' hgrow _
      rw [HS.out] at hown'
      have hb3 := ((HB.out.alloc hz _).alloc (by simp; omega) _).grown hgrow (by simp; omega) (fun q hq => (hown.lt q hq).1)
      have HO := Lib.hid (And.intro hown' hb3)
      clear hgrow hown' hown hb3 x0 x1
      go_wp2_with fail
      go_roundw
      case rel => exact ⟨k + 1, _, rfl, by omega, by omega, HO.out.1, HO.out.2⟩
      case measure => simp [intOf]; omega
    · obtain rfl : k = l.length := by omega
      rw [List.take_length] at hown
      have HO := Lib.hid (And.intro hown hb)
      clear hown hb
      go_wp2_with fail
      go_ret
      exact ⟨_, rfl, HO.out.1, HO.out.2⟩
end Go.Proofs.YtmmcfhgbjmfbaaaGreat
