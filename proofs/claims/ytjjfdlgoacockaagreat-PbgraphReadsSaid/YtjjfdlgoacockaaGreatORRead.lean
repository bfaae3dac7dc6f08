import Derived.Test.YtjjfdlgoacockaaGreatOPart
import Derived.Test.YtjjfdlgoacockaaGreatTMade
namespace Go.Proofs.YtjjfdlgoacockaaGreat
open Go.RowKit M8

def o_In64 (n : Int) : Prop := -9223372036854775808≤n∧n≤9223372036854775807
set_option maxRecDepth 100000 in
theorem o_rread_any (l : List Fl) (A : Option Addr) (c B : Nat) (key : ByteArray) (off len : Int) (w : World) (hl : l.length ≤ 100) (hk : key.size ≤ 2000000) (hd : ∀ f ∈ l, f.data.size ≤ 10000) (ho : o_In64 off) (hn : o_In64 len)
    (hA : SR w B 2 A l.length (fcl l)) :
    Calls Tryz.prog 128 #[.slice A l.length c,.string key,.int .i64 off,.int .i64 len] w fun e w' => e = .returned (.tuple #[.string (rdC l key off len).1,.int .i64 (rdC l key off len).2])∧w = w' := by
  unfold o_In64 at ho hn
  have hkey := rkey_any key w hk
  cases hkb : keyB key
  · rw [hkb] at hkey
    have HK := Lib.hid hkey
    have HC := Lib.hid (rdC_path (l := l) (off := off) (len := len) hkb)
    clear hkey hkb
    go_enter Tryz.func128,Tryz.ntmps128
    go_wp2_with fail
    refine HK.out.mono ?_
    rintro e w' ⟨rfl,rfl⟩
    go_wp2_with fail
    go_ret2
    rw [HC.out]
    exact ⟨rfl,rfl⟩
  · rw [hkb] at hkey
    have HK := Lib.hid hkey
    have HKB := Lib.hid hkb
    clear hkey hkb
    by_cases hv : off < 0∨len < 0
    · have HC := Lib.hid (rdC_value (l := l) HKB.out hv)
      rcases (by omega : off < 0∨(¬ off < 0∧len < 0)) with h1 | ⟨h1,h2⟩
      · clear hv
        go_enter Tryz.func128,Tryz.ntmps128
        go_wp2_with fail
        refine HK.out.mono ?_
        rintro e w' ⟨rfl,rfl⟩
        go_wp2_with fail
        go_ret2
        rw [HC.out]
        exact ⟨rfl,rfl⟩
      · clear hv
        go_enter Tryz.func128,Tryz.ntmps128
        go_wp2_with fail
        refine HK.out.mono ?_
        rintro e w' ⟨rfl,rfl⟩
        go_wp2_with fail
        go_ret2
        rw [HC.out]
        exact ⟨rfl,rfl⟩
    · have HV := Lib.hid hv
      have h1 : ¬ off < 0 := by omega
      have h2 : ¬ len < 0 := by omega
      clear hv
      go_enter Tryz.func128,Tryz.ntmps128
      go_wp2_with fail
      refine HK.out.mono ?_
      rintro e w' ⟨rfl,rfl⟩
      go_wp2_with fail
      go_loop [10,11] (fun a _ => ∃ (k : Nat) (K : Int),a = .int .i64 K∧K = (k : Nat)∧k≤l.length∧(∀ t,(h : t < l.length)→t < k→l[t].key≠key)) (fun a _ => l.length - (intOf a).toNat)
      case atStart => exact ⟨0,_,rfl,rfl,by omega,by intro t h h2; omega⟩
      case round =>
        obtain ⟨k,K,rfl,rfl,hk,hne⟩ := hrel
        have HNE := Lib.hid hne
        clear hne
        by_cases hlt : k < l.length
        · obtain ⟨b,o,rfl,hbb,x0,x1⟩ := file_at hA hlt
          by_cases he : l[k].key = key
          · have ht := teq_yes he
            have HF := Lib.hid (find_at hlt HNE.out he)
            have hsz := hd l[k] (List.getElem_mem hlt)
            clear he
            by_cases g1 : (l[k].data.size : Int) < off
            · have HC := Lib.hid (rdC_short HKB.out HV.out HF.out (show (l[k].data.size : Int) - off < len by omega))
              go_wp2_with fail
              go_ret2
              rw [HC.out]
              exact ⟨rfl,rfl⟩
            · by_cases g2 : (l[k].data.size : Int) - off < len
              · have HC := Lib.hid (rdC_short HKB.out HV.out HF.out g2)
                go_wp2_with fail
                go_ret2
                rw [HC.out]
                exact ⟨rfl,rfl⟩
              · have HC := Lib.hid (rdC_ok HKB.out HV.out HF.out g2)
                have g3 : 0≤off := by omega
                have g4 : off≤off + len := by omega
                have g5 : off + len≤(l[k].data.size : Int) := by omega
                go_wp2_with fail
                go_ret2
                rw [HC.out]
                exact ⟨rfl,rfl⟩
          · have ht := teq_no he
            have HN : Hid (∀ t,(h : t < l.length)→t < k + 1→l[t].key≠key) := Lib.hid (by
              intro t h h2
              by_cases e : t = k
              · subst e; exact he
              · exact HNE.out t h (by omega))
            clear he
            go_wp2_with fail
            go_round
            case rel => exact ⟨k + 1,_,rfl,by omega,by omega,HN.out⟩
            case measure => simp [intOf]; omega
        · obtain rfl : k = l.length := by omega
          have HC := Lib.hid (rdC_missing (off := off) (len := len) HKB.out HV.out (not_in fun j h => HNE.out j h h))
          go_wp2_with fail
          go_ret2
          rw [HC.out]
          exact ⟨rfl,rfl⟩
end Go.Proofs.YtjjfdlgoacockaaGreat
