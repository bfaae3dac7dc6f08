import Derived.Test.YtjjfdlgoacockaaGreatRows
import Derived.Test.YtjjfdlgoacockaaGreatTMade
import Derived.Test.YtjjfdlgoacockaaGreatMath
import Derived.Test.YtjjfdlgoacockaaGreatAppend
import Derived.Outline
import Derived.WalkSpells
import Derived.WalkMore
import Derived.Test.YtjjfdlgoacockaaGreatOPart
import Derived.Deep.QuietTactic
import Derived.BigQuiet
namespace Go.Proofs.YtjjfdlgoacockaaGreat
open Go.RowKit M8

theorem rfileInfo : (Tryz.prog.info? 135).map (fun i => (i.zero, i.size, i.bytes)) = some (some (.agg #[.string ⟨#[]⟩, .string ⟨#[]⟩]), 2, 32) := by kernel_rfl
theorem fcl_snoc {l : List Fl} {k : Nat} (h : k < l.length) : fcl (l.take k) ++ [.string l[k].key, .string l[k].data] = fcl (l.take (k + 1)) := by
  rw [List.take_succ_eq_append_getElem h, fcl_append]; rfl
set_option maxRecDepth 100000 in
theorem of_files (l : List Fl) (A : Option Addr) (c : Nat) (w : World) (hl : l.length ≤ 4398046510976) (hA : SR w w.heap.size 2 A l.length (fcl l)) :
    Calls Tryz.prog 16 #[.slice A l.length c] w fun e w' => ∃ v, e = .returned v ∧ w'.ownsRow w.heap.size 135 2 v l.length (fcl l) ∧ Below w.heap.size w w' := by
  obtain ⟨i0, hi0, hz0, hz1, hz2⟩ := info_parts rfileInfo
  go_enter Tryz.func16, Tryz.ntmps16
  go_wp2_with fail
  go_loopw [3, 5, 8] (fun v _ i wr => ∃ (k : Nat) (K : Int), i = .int .i64 K ∧ K = (k : Nat) ∧ k ≤ l.length ∧ wr.ownsRow w.heap.size 135 2 v k (fcl (l.take k)) ∧ Below w.heap.size w wr) (fun _ _ i _ => l.length - (intOf i).toNat)
  case atStart => exact ⟨0, _, rfl, rfl, by omega, World.ownsRow_nil _ _ _ _, Below.refl _ _⟩
  case round =>
    obtain ⟨k, K, rfl, rfl, hk, hown, hb⟩ := hrel
    obtain ⟨V, vc, rfl, -, -⟩ := own_form hown
    by_cases hlt : k < l.length
    · obtain ⟨b, o, rfl, hbb, x0, x1⟩ := file_at (hA.below hb) hlt
      have hz := hb.size
      have HS := Lib.hid (fcl_snoc hlt)
      have HB := Lib.hid hb
      clear hb
      go_wp2_with (at_builtin; refine wpList_append_own _ rfl _ _ 26 rfl w.heap.size 135 i0 _ 2 32 Tryz.underlying26 hi0 hz0 hz1 hz2 rfl (by decide) _ _ _ rfl ((hown.alloc _).alloc _) ⟨wr.heap.size + 1, 0, none⟩ 1 1 [.string l[k].key, .string l[k].data] rfl rfl (cells_new2 _ _ _ _) ?c2 ?c3 ?c4 ?c5 ?_)
      case c2 => intro u hu; simp at hu; rcases hu with rfl | rfl <;> rfl
      case c3 => unfold maxLen; omega
      case c4 => omega
      case c5 => simp; omega
      intro v' w2 hown' hgrow _
      rw [HS.out] at hown'
      have hb3 := ((HB.out.alloc hz _).alloc (by simp; omega) _).grown hgrow (by simp; omega) (fun q hq => (hown.lt q hq).1)
      have HO := Lib.hid (And.intro hown' hb3)
      clear hgrow hown' hown hb3 x0 x1
      go_wp2_with fail
      go_roundw
      case rel => exact ⟨k + 1, _, rfl, by omega, by omega, HO.out.1, HO.out.2⟩
      case measure => simp [intOf]; omega
    · obtain rfl : k = l.length := by omega
      rw [List.take_length] at hown
      have HO := Lib.hid (And.intro hown hb)
      clear hown hb
      go_wp2_with fail
      go_ret
      exact ⟨_, rfl, HO.out.1, HO.out.2⟩
end Go.Proofs.YtjjfdlgoacockaaGreat
namespace Go.Proofs.YtjjfdlgoacockaaGreat
open Go.RowKit M8

def Dr (w w' : World) : Prop := ∃ n, w' = w.drewN n
theorem Dr.refl (w : World) : Dr w w := ⟨0, rfl⟩
theorem Dr.more {w a : World} (h : Dr w a) (n : Nat) : Dr w (a.drewN n) := by
  obtain ⟨m, rfl⟩ := h
  exact ⟨m + n, by unfold World.drewN; simp [Nat.add_assoc]⟩
theorem Dr.heap {w a : World} (h : Dr w a) : a.heap = w.heap := by obtain ⟨m, rfl⟩ := h; rfl
theorem Dr.below {w a : World} (h : Dr w a) : Below w.heap.size w a := by obtain ⟨m, rfl⟩ := h; exact below_drewN (Below.refl _ _) m
theorem SR.dr {w a : World} {B size n : Nat} {A : Option Addr} {xs : List Value} (h : SR w B size A n xs) (hd : Dr w a) : SR a B size A n xs := h.keep fun k _ => by rw [hd.heap]
set_option maxRecDepth 100000 in
theorem rnew_any (l : List Fl) (A : Option Addr) (c B : Nat) (w : World) (hl : l.length ≤ 4398046510976) (hs : ∀ f ∈ l, f.key.size ≤ 10000) (hA : SR w B 2 A l.length (fcl l)) :
    Calls Tryz.prog 17 #[.slice A l.length c] w fun e w' => e = .returned (.int .i64 (newC l)) ∧ Dr w w' := by
  by_cases h64 : 64 < l.length
  · have hi : (64 : Int) < (l.length : Int) := by omega
    have HC := Lib.hid (newC_size h64)
    clear h64
    go_enter Tryz.func17, Tryz.ntmps17
    go_wp2_with fail
    go_ret
    rw [HC.out]
    exact ⟨rfl, Dr.refl w⟩
  · have hi : ¬ (64 : Int) < (l.length : Int) := by omega
    replace hl : l.length ≤ 100 := by omega
    have HG := Lib.hid (Gone.start (l := l) (by omega))
    have HD := Lib.hid (Dr.refl w)
    clear h64
    go_enter Tryz.func17, Tryz.ntmps17
    go_wp2_with fail
    go_loopw [3, 4] (fun a _ wr => ∃ (k : Nat) (K : Int), a = .int .i64 K ∧ K = (k : Nat) ∧ k ≤ l.length ∧ Gone l k ∧ Dr w wr) (fun a _ _ => l.length - (intOf a).toNat)
    case atStart => exact ⟨0, _, rfl, rfl, by omega, HG.out, HD.out⟩
    case round =>
      obtain ⟨k, K, rfl, rfl, hk, hg, hd⟩ := hrel
      have HG2 := Lib.hid hg
      have HD2 := Lib.hid hd
      clear hg HG HD
      by_cases hlt : k < l.length
      · obtain ⟨b, o, rfl, hbb, x0, x1⟩ := file_at (hA.dr hd) hlt
        clear hd
        have hkey := rkey_any l[k].key wr (Nat.le_trans (hs _ (List.getElem_mem hlt)) (by omega))
        cases hkb : keyB l[k].key
        · rw [hkb] at hkey
          have HK := Lib.hid hkey
          have HC := Lib.hid (HG2.out.path hlt hkb)
          clear hkey hkb
          go_wp2_with fail
          refine HK.out.mono ?_
          rintro e w' ⟨rfl, rfl⟩
          go_wp2_with fail
          go_ret
          rw [HC.out]
          exact ⟨rfl, HD2.out⟩
        · rw [hkb] at hkey
          have HK := Lib.hid hkey
          have HKB := Lib.hid hkb
          clear hkey hkb
          go_wp2_with fail
          refine HK.out.mono ?_
          rintro e w' ⟨rfl, rfl⟩
          go_wp2_with fail
          obtain ⟨wo, rfl⟩ : ∃ wo : World, wo = wr := ⟨_, rfl⟩
          go_loopw [4] (fun a wr => ∃ (j : Nat) (J : Int), a = .int .i64 J ∧ J = (j : Nat) ∧ j ≤ k ∧ (∀ t, (h : t < l.length) → t < j → l[t].key ≠ l[k].key) ∧ Dr w wr) (fun a _ => k - (intOf a).toNat)
          case atStart => exact ⟨0, _, rfl, rfl, by omega, by intro t h h2; omega, HD2.out⟩
          case round =>
            obtain ⟨j, J, rfl, rfl, hj, hne, hd⟩ := hrel
            have HNE := Lib.hid hne
            have HD3 := Lib.hid hd
            clear hne
            by_cases hjk : j < k
            · obtain ⟨b', o', hA', hbb', y0, y1⟩ := file_at (hA.dr hd) hlt
              obtain ⟨b2, o2, hA2, hbb2, z0, z1⟩ := file_at (hA.dr hd) (k := j) (by omega)
              simp only [Option.some.injEq, Addr.mk.injEq, and_true] at hA' hA2
              obtain ⟨rfl, rfl⟩ := hA'
              obtain ⟨rfl, rfl⟩ := hA2
              clear hd y1 z1
              by_cases he : l[j].key = l[k].key
              · have ht := teq_yes he
                have HC := Lib.hid (HG2.out.twice hlt HKB.out ((mem_keys_take (by omega)).2 ⟨j, by omega, hjk, he⟩))
                clear he
                go_wp2_with fail
                go_quiet (fail)
                go_wp2_with fail
                go_ret
                rw [HC.out]
                exact ⟨rfl, HD3.out.more _⟩
              · have ht := teq_no he
                have HN : Hid (∀ t, (h : t < l.length) → t < j + 1 → l[t].key ≠ l[k].key) := Lib.hid (by
                  intro t h h2
                  by_cases e : t = j
                  · subst e; exact he
                  · exact HNE.out t h (by omega))
                clear he
                go_wp2_with fail
                go_quiet (fail)
                go_wp2_with fail
                go_roundw
                case rel => exact ⟨j + 1, _, rfl, by omega, by omega, HN.out, HD3.out.more _⟩
                case measure => simp [intOf]; omega
            · obtain rfl : j = k := by omega
              have HN := Lib.hid (HG2.out.next hlt HKB.out (by
                rw [mem_keys_take (by omega)]
                rintro ⟨t, h, h2, e⟩
                exact HNE.out t h h2 e))
              clear hd
              go_wp2_with fail
              go_roundw
              case rel => exact ⟨j + 1, _, rfl, by omega, by omega, HN.out, HD3.out⟩
              case measure => simp [intOf]; omega
      · obtain rfl : k = l.length := by omega
        have HE := Lib.hid (HG2.out.end_.1)
        clear hd
        go_wp2_with fail
        go_ret
        rw [HE.out]
        exact ⟨rfl, HD2.out⟩
end Go.Proofs.YtjjfdlgoacockaaGreat
