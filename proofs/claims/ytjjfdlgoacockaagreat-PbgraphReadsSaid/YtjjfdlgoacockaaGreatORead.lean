import Derived.Test.YtjjfdlgoacockaaGreatOKey
import Derived.Test.YtjjfdlgoacockaaGreatORRead
namespace Go.Proofs.YtjjfdlgoacockaaGreat
open Go.RowKit M8 Go.Maps Go.ChangeMaps

theorem o_St.below {B : Nat} {l : List Fl} {mb : Option Nat} {w w' : World} (h : o_St B l mb w) (hb : Below w.heap.size w w') : o_St B l mb w' := by
  rcases h with h | ⟨b,h1,h2,h3,h4⟩
  · exact .inl h
  · exact .inr ⟨b,h1,h2,own_map_below h3 hb h3.lt,h4⟩
theorem o_St.look {B : Nat} {l : List Fl} {mb : Option Nat} {w : World} (h : o_St B l mb w) {s : ByteArray} (hs : s.size≤maxLen) :
    (s ∉ keys l∧(Instr.lookup 23 (.map mb) (.string s) true).run Tryz.prog w = .ok (.tuple #[.string ⟨#[]⟩,.bool false]) w) ∨
    (∃ f,l.find? (fun f => decide (f.key = s)) = some f∧f ∈ l∧(Instr.lookup 23 (.map mb) (.string s) true).run Tryz.prog w = .ok (.tuple #[.string f.data,.bool true]) w) := by
  rcases h with ⟨rfl,rfl⟩ | ⟨b,rfl,h2,h3,h4⟩
  · exact .inl ⟨by simp [keys],Maps.look_nil true strLaw Tryz.underlying23 (strZero w) (keyOf_fk hs)⟩
  · rcases h3.look hs with h | ⟨hin,d,hrun,hd⟩
    · exact .inl h
    · obtain ⟨f,hf,hm,he⟩ := find_in hin
      exact .inr ⟨f,hf,hm,by rw [hd h4 f hm he]; exact hrun⟩
set_option maxRecDepth 100000 in
theorem o_read_any (B : Nat) (l : List Fl) (mb : Option Nat) (key : ByteArray) (off len : Int) (w : World) (hk : key.size ≤ maxLen) (hd : ∀ f ∈ l, f.data.size ≤ maxLen) (ho : o_In64 off) (hn : o_In64 len) (hS : o_St B l mb w) :
    Calls Tryz.prog 165 #[.agg #[.map mb],.string key,.int .i64 off,.int .i64 len] w fun e w' => e = .returned (.tuple #[.string (rdC l key off len).1,.int .i64 (rdC l key off len).2])∧Below w.heap.size w w' := by
  unfold o_In64 at ho hn
  have HK := Lib.hid (fun W => key_any key W)
  have HB0 := Lib.hid (Bx.start w #[.map mb] 25)
  cases hkb : keyB key
  · rw [hkb] at HK
    have HC := Lib.hid (rdC_path (l := l) (off := off) (len := len) hkb)
    clear hkb
    go_enter Tryz.func165,Tryz.ntmps165
    go_wp2_with fail
    refine (HK.out _).mono ?_
    rintro e w1 ⟨rfl,hb1⟩
    have HX := Lib.hid (HB0.out.below hb1)
    clear hb1
    go_wp2_with fail
    go_ret2
    rw [HC.out]
    exact ⟨rfl,HX.out.all⟩
  · rw [hkb] at HK
    have HKB := Lib.hid hkb
    clear hkb
    by_cases hv : off < 0∨len < 0
    · have HC := Lib.hid (rdC_value (l := l) HKB.out hv)
      rcases (by omega : off < 0∨(¬ off < 0∧len < 0)) with h1 | ⟨h1,h2⟩
      all_goals
        clear hv
        go_enter Tryz.func165,Tryz.ntmps165
        go_wp2_with fail
        refine (HK.out _).mono ?_
        rintro e w1 ⟨rfl,hb1⟩
        have HX := Lib.hid (HB0.out.below hb1)
        clear hb1
        go_wp2_with fail
        go_ret2
        rw [HC.out]
        exact ⟨rfl,HX.out.all⟩
    · have HV := Lib.hid hv
      have h1 : ¬ off < 0 := by omega
      have h2 : ¬ len < 0 := by omega
      have HS := Lib.hid hS
      clear hv hS
      go_enter Tryz.func165,Tryz.ntmps165
      go_wp2_with fail
      refine (HK.out _).mono ?_
      rintro e w1 ⟨rfl,hb1⟩
      have hx := HB0.out.below hb1
      have c0 := cell_of_row _ _ 0 _ _ _ hx.1
      have HX := Lib.hid hx
      have hS1 := HS.out.below hx.all
      clear hb1 hx
      rcases hS1.look hk with ⟨hni,hrun⟩ | ⟨f,hf,hm,hrun⟩
      · have HC := Lib.hid (rdC_missing (off := off) (len := len) HKB.out HV.out hni)
        clear hS1 hni
        go_wp2_with fail
        go_ret2
        rw [HC.out]
        exact ⟨rfl,HX.out.all⟩
      · have hsz := hd f hm
        unfold maxLen at hsz
        have HF := Lib.hid hf
        clear hS1 hf
        by_cases g2 : (f.data.size : Int) - off < len
        · have HC := Lib.hid (rdC_short HKB.out HV.out HF.out g2)
          go_wp2_with fail
          go_ret2
          rw [HC.out]
          exact ⟨rfl,HX.out.all⟩
        · have HC := Lib.hid (rdC_ok HKB.out HV.out HF.out g2)
          have g3 : 0≤off := by omega
          have g4 : off≤off + len := by omega
          have g5 : off + len≤(f.data.size : Int) := by omega
          go_wp2_with fail
          go_ret2
          rw [HC.out]
          exact ⟨rfl,HX.out.all⟩
end Go.Proofs.YtjjfdlgoacockaaGreat
