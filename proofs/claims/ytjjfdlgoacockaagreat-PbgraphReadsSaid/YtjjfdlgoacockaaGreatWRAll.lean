import Derived.Test.YtjjfdlgoacockaaGreatMath
import Derived.Test.YtjjfdlgoacockaaGreatBMsg
import Derived.Test.YtjjfdlgoacockaaGreatPuts
namespace Go.Proofs.YtjjfdlgoacockaaGreat
open Go.RowKit M1 M2

set_option maxRecDepth 100000 in
theorem rall_any (A : Option Addr) (c : Nat) (l : List WFd) (num : Int) (w : World) (hl : l.length ≤ 3000000) (ha : SR w w.heap.size 4 A l.length (fcs l)) :
    Calls Tryz.prog 80 #[.slice A l.length c,.int .i64 num] w fun e w' => ∃ v,e = .returned v∧w'.ownsRow w.heap.size 75 4 v (ofNum l num).length (fcs (ofNum l num))∧Below w.heap.size w w' := by
  obtain ⟨i0,hi0,hz0,hz1,hz2⟩ := info_parts infoRField
  go_enter Tryz.func80,Tryz.ntmps80
  go_wp2
  go_loopw [5,6] (fun v i wr => ∃ (k : Nat) (K : Int),i = .int .i64 K∧K = (k : Nat)∧k≤l.length∧wr.ownsRow w.heap.size 75 4 v (ofNum (l.take k) num).length (fcs (ofNum (l.take k) num))∧Below w.heap.size w wr) (fun _ i _ => l.length - (intOf i).toNat)
  case atStart => exact ⟨0,_,rfl,rfl,by omega,World.ownsRow_nil _ _ _ _,Below.refl _ _⟩
  case round =>
    obtain ⟨k,K,rfl,rfl,hk,hown,hb⟩ := hrel
    by_cases hlt : k < l.length
    · obtain ⟨b1,o1,rfl,hb1,x0,x1,x2,x3⟩ := field_at (ha.below hb) hlt
      have hz := hb.size
      have hle := ofNum_le (l.take k) num
      have hlk : (l.take k).length≤k := List.length_take_le _ _
      have hsn := ofNum_snoc (l.take k) l[k] num
      rw [← take_succ_at hlt] at hsn
      generalize hf : l[k] = f at *
      clear ha
      by_cases h : f.num = num
      · rw [if_pos h] at hsn
        have hq : (f.num == num) = true := by simpa using h
        have HB := Lib.hid hb
        have HS := Lib.hid hsn
        clear hb hsn h hf
        obtain ⟨fnum,ftyp,fn,fdata⟩ := f
        simp only at *
        go_wp2_with (at_builtin; refine wpList_append_own _ rfl _ _ 68 rfl w.heap.size 75 i0 _ 4 40 Tryz.underlying68 hi0 hz0 hz1 hz2 rfl (by decide) _ _ _ rfl (hown.alloc _) ⟨wr.heap.size,0,none⟩ 1 1 (fc ⟨fnum,ftyp,fn,fdata⟩) rfl rfl (cells_new _ _ _) ?c2 ?c3 ?c4 ?c5 ?_)
        case c2 => intro u hu; exact fcs_one_cell (l := [⟨fnum,ftyp,fn,fdata⟩]) u (by rw [fcs_one]; exact hu)
        case c3 => unfold maxLen; omega
        case c4 => omega
        case c5 => first | omega | (simp; omega)
        intro v' w2 hown' hgrow _
        have e1 : fcs (ofNum (l.take k) num) ++ fc ⟨fnum,ftyp,fn,fdata⟩ = fcs (ofNum (l.take (k + 1)) num) := by rw [HS.out,fcs_append,fcs_one]
        have e2 : (ofNum (l.take k) num).length + 1 = (ofNum (l.take (k + 1)) num).length := by rw [HS.out]; simp
        rw [e1,e2] at hown'
        have hb3 := (HB.out.alloc hz _).grown hgrow (by simp; omega) (fun q hq => (hown.lt q hq).1)
        have HO := Lib.hid (And.intro hown' hb3)
        clear hgrow hown' hown hb3 e1 e2
        go_wp2_with fail
        go_roundw
        case rel => exact ⟨k + 1,_,rfl,by omega,by omega,HO.out.1,HO.out.2⟩
        case measure => simp [intOf]; omega
      · rw [if_neg h] at hsn
        have hq : (f.num == num) = false := by simpa using h
        rw [← hsn] at hown
        have HO := Lib.hid (And.intro hown hb)
        clear hb hsn h hf hown
        obtain ⟨fnum,ftyp,fn,fdata⟩ := f
        simp only at *
        go_wp2_with fail
        go_roundw
        case rel => exact ⟨k + 1,_,rfl,by omega,by omega,HO.out.1,HO.out.2⟩
        case measure => simp [intOf]; omega
    · obtain rfl : k = l.length := by omega
      rw [List.take_length] at hown
      have HO := Lib.hid (And.intro hown hb)
      clear hown hb
      go_wp2
      go_ret
      exact ⟨_,rfl,HO.out.1,HO.out.2⟩
end Go.Proofs.YtjjfdlgoacockaaGreat
namespace Go.Proofs.YtjjfdlgoacockaaGreat
open Go.RowKit M1 M2

set_option maxRecDepth 100000 in
set_option maxHeartbeats 2000000 in
theorem rfields_any (s : ByteArray) (w : World) (hs : s.size ≤ maxLen) :
    Calls Tryz.prog 24 #[.string s] w fun e w' => ∃ v,e = .returned (.tuple #[v,.int .i64 (fields s).2])∧w'.ownsRow w.heap.size 75 4 v (fields s).1.length (fcs (fields s).1)∧Below w.heap.size w w' := by
  have hs' := hs
  unfold maxLen at hs'
  by_cases hlong : 1048576 < s.size
  · have e : fields s = ([],2) := by unfold fields; rw [if_pos hlong]
    rw [e]
    have hl : (1048576 : Int) < (s.size : Int) := by omega
    clear e hlong
    go_enter Tryz.func24,Tryz.ntmps24
    go_wp2
    go_ret2
    exact ⟨_,rfl,World.ownsRow_nil _ _ _ _,Below.refl _ _⟩
  · have e : fields s = flw s := by unfold fields; rw [if_neg hlong]
    rw [e]
    have hl : (s.size : Int)≤1048576 := by omega
    obtain ⟨i0,hi0,hz0,hz1,hz2⟩ := info_parts infoRField
    clear e hlong
    go_enter Tryz.func24,Tryz.ntmps24
    go_wp2
    go_loopw [4,5] (fun v i wr => ∃ (a : Nat) (acc : List WFd) (K : Int),i = .int .i64 K∧K = (a : Nat)∧a≤s.size∧wr.ownsRow w.heap.size 75 4 v acc.length (fcs acc)∧Below w.heap.size w wr∧flw s = jn acc (flw (rest s a))∧acc.length≤a) (fun _ i _ => s.size - (intOf i).toNat)
    case atStart => exact ⟨0,[],_,rfl,rfl,by omega,World.ownsRow_nil _ _ _ _,Below.refl _ _,by rw [rest_zero]; exact (jn_nil s).symm,by simp⟩
    case round =>
      obtain ⟨a,acc,K,rfl,rfl,ha,hown,hb,hfl,hsz⟩ := hrel
      have HF := Lib.hid hfl; clear hfl
      obtain ⟨A,c0,rfl,hn1,hn2⟩ := own_form hown
      by_cases h0 : a = s.size
      · have h0' : ¬ (a : Int) < (s.size : Int) := by omega
        have HO := Lib.hid hown
        have HB := Lib.hid hb
        have he := HF.out
        have hend := flw_end (s := rest s a) (by rw [rest_size]; omega)
        rw [hend] at he
        have HE : Hid (flw s = (acc,0)) := Lib.hid (by rw [he]; simp [jn])
        clear hown hb he h0 hend
        go_wp2
        go_ret2
        rw [HE.out]
        exact ⟨_,rfl,HO.out,HB.out⟩
      · have h0' : (a : Int) < (s.size : Int) := by omega
        have hts : (rest s a).size≤maxLen := by rw [rest_size]; omega
        have hne : (rest s a).size≠0 := by rw [rest_size]; omega
        have hstep := flw_step hne
        have herr := flw_err hne
        have hT : s.extract a s.size = rest s a := rfl
        have hsz2 := rest_size s a
        have hrr := rest_rest s a
        generalize rest s a = T at *
        clear h0 hne
        have HR := Lib.hid hrr; clear hrr
        go_wp2_with fail
        refine (v_rread_any T _ hts).mono ?_
        rintro e w' ⟨rfl,rfl⟩
        obtain ⟨x,n,c,hr,ok,-,-⟩ := rd_parts T
        have hone := one_err (s := T)
        have hno := one_no (s := T)
        have hyes := one_yes (s := T) (x := x) (n := n)
        rw [hr]
        rw [hr] at hone hno hyes
        simp only at hone hno hyes
        clear hr
        by_cases he : c = 0
        · subst he
          obtain ⟨hn0,hn,h64⟩ := ok rfl
          have hx : (x : Int)≤18446744073709551615 := by unfold Fits64 at h64; omega
          have hna : (a : Int) + (n : Int)≤(s.size : Int) := by omega
          have hT2 : s.extract (a + n) s.size = rest T n := (HR.out n).symm
          by_cases hm : mayB ((x / 8 : Nat) : Int) ((x % 8 : Nat) : Int) = true
          · have hm' : mayB ((x : Int) / 8) ((x : Int) % 8) = true := hm
            have hy := hyes rfl hm'
            have htyp : x % 8 = 0∨x % 8 = 1∨x % 8 = 2∨x % 8 = 5 := by have := mayB_typ hm'; omega
            have hnum : 1≤x / 8∧x / 8≤536870911 := by unfold mayB at hm; rw [decide_eq_true_iff] at hm; omega
            have f1 : ((x : Int) / 8 == 0) = false := by simp; omega
            have f2 : (x : Int) / 8≤536870911 := by omega
            have f3 : ((x : Int) % 8 == 3) = false := by simp; omega
            have f4 : ((x : Int) % 8 == 4) = false := by simp; omega
            have f5 : (x : Int) % 8≤5 := by omega
            have hBs := rest_size T n
            have hrb := rest_rest T n
            generalize rest T n = B at *
            have HB2 := Lib.hid hrb
            have HX : Hid (∀ k,(s.extract (a + n) (a + n + k)).data.toList = B.data.toList.take k) := Lib.hid (fun k => by rw [← hT2]; exact cut_list s (a + n) k)
            clear hrb hyes hm hm' hno hone hnum
            rcases htyp with ht | ht | ht | ht
            · rw [ht] at hy
              have g0 : ((x : Int) % 8 == 0) = true := by simp; omega
              have g1 : ((x : Int) % 8 == 1) = false := by simp; omega
              have g5 : ((x : Int) % 8 == 5) = false := by simp; omega
              have g2 : ((x : Int) % 8 == 2) = false := by simp; omega
              have g0' : ((x : Int) % 8 != 0) = false := by simp; omega
              clear ht
              have hBm : B.size≤maxLen := by unfold maxLen; omega
              obtain ⟨N,m,c,hrd,ok2,-,-⟩ := rd_parts B
              have HRB := Lib.hid hrd
              have HOK2 := Lib.hid ok2
              clear ok2
              by_cases he2 : c = 0
              · subst he2
                have h1 := hy N ⟨#[]⟩ m 0 (by simp [pay,hrd])
                have hst := hstep
                rw [h1] at hst
                have hst2 := hst (by simp) acc
                simp only [if_true] at hst2
                rw [HR.out,← Nat.add_assoc] at hst2
                have HST := Lib.hid hst2
                obtain ⟨hm0,hm1,hm2⟩ := HOK2.out rfl
                have hN : (N : Int)≤18446744073709551615 := by unfold Fits64 at hm2; omega
                have hge : 0≤(s.size : Int) - ((a : Int) + (n : Int) + (m : Int)) := by omega
                clear hm2 hrd
                clear h1 herr hstep hst hst2 hy
                have hz := hb.size
                have HBW := Lib.hid hb
                clear hb
                go_wp2_with fail
                refine (v_rread_any B _ hBm).mono ?_
                rintro e w' ⟨rfl,rfl⟩
                rw [HRB.out]
                go_wp2_with (at_builtin; refine wpList_append_own _ rfl _ _ 68 rfl w.heap.size 75 i0 _ 4 40 Tryz.underlying68 hi0 hz0 hz1 hz2 rfl (by decide) _ _ _ rfl ((hown.alloc _).alloc _) ⟨wr.heap.size + 1,0,none⟩ 1 1 (fc ⟨(x : Int) / 8,(x : Int) % 8,N,⟨#[]⟩⟩) rfl rfl (cells_new2 _ _ _ _) ?c2 ?c3 ?c4 ?c5 ?_)
                case c2 => intro u hu; exact fcs_one_cell (l := [⟨(x : Int) / 8,(x : Int) % 8,N,⟨#[]⟩⟩]) u (by rw [fcs_one]; exact hu)
                case c3 => unfold maxLen; omega
                case c4 => omega
                case c5 => first | omega | (simp; omega)
                intro v' w2 hown' hgrow _
                have e1 : fcs acc ++ fc ⟨(x : Int) / 8,(x : Int) % 8,N,⟨#[]⟩⟩ = fcs (acc ++ [⟨(x : Int) / 8,(x : Int) % 8,N,⟨#[]⟩⟩]) := by rw [fcs_append,fcs_one]
                have e2 : acc.length + 1 = (acc ++ [(⟨(x : Int) / 8,(x : Int) % 8,N,⟨#[]⟩⟩ : WFd)]).length := by simp
                rw [e1,e2] at hown'
                have hb3 := ((HBW.out.alloc hz _).alloc (by simp; omega) _).grown hgrow (by simp; omega) (fun q hq => (hown.lt q hq).1)
                have HO := Lib.hid (And.intro hown' hb3)
                clear hgrow hown' hown hb3 e1 e2
                go_wp2_with fail
                go_roundw
                case rel =>
                  refine ⟨a + n + m,acc ++ [⟨(x : Int) / 8,(x : Int) % 8,N,⟨#[]⟩⟩],_,rfl,by omega,by omega,HO.out.1,HO.out.2,?_,by simp; omega⟩
                  rw [HF.out]
                  exact HST.out
                case measure => simp [intOf]; omega
              · have h1 := hy N ⟨#[]⟩ m c (by simp [pay,hrd])
                have hx := HF.out
                rw [h1] at herr
                rw [herr (by simp; exact he2)] at hx
                have HE : Hid (flw s = ([],c)) := Lib.hid (by rw [hx]; simp [jn,he2])
                have HB := Lib.hid hb
                have hc2 : ((c : Int) != 0) = true := by simp; omega
                clear hx h1 herr hstep hown hb hy hrd
                go_wp2_with fail
                refine (v_rread_any B _ hBm).mono ?_
                rintro e w' ⟨rfl,rfl⟩
                rw [HRB.out]
                go_wp2_with fail
                go_ret2
                rw [HE.out]
                exact ⟨_,rfl,World.ownsRow_nil _ _ _ _,HB.out.alloc HB.out.size _⟩
            · rw [ht] at hy
              have g0 : ((x : Int) % 8 == 0) = false := by simp; omega
              have g1 : ((x : Int) % 8 == 1) = true := by simp; omega
              have g2 : ((x : Int) % 8 == 2) = false := by simp; omega
              have g5 : ((x : Int) % 8 == 5) = false := by simp; omega
              have g0' : ((x : Int) % 8 != 0) = true := by simp; omega
              clear ht
              by_cases hsh : B.size < 8
              · have h1 := hy 0 ⟨#[]⟩ 0 1 (by simp [pay,rl,hsh])
                have hx := HF.out
                rw [h1] at herr
                rw [herr (by simp)] at hx
                have HE : Hid (flw s = ([],1)) := Lib.hid (by rw [hx]; simp [jn])
                have HB := Lib.hid hb
                have hlt : (s.size : Int) - ((a : Int) + (n : Int)) < 8 := by omega
                clear hx h1 herr hstep hown hb hy hsh
                go_wp2_with fail
                go_ret2
                rw [HE.out]
                exact ⟨_,rfl,World.ownsRow_nil _ _ _ _,HB.out.alloc HB.out.size _⟩
              · have h1 := hy (low (B.data.toList.take 8)) ⟨#[]⟩ 8 0 (by simp [pay,rl,hsh])
                have hst := hstep
                rw [h1] at hst
                have hst2 := hst (by simp) acc
                simp only [if_true] at hst2
                rw [HR.out,← Nat.add_assoc] at hst2
                have HST := Lib.hid hst2
                have hge : 8≤(s.size : Int) - ((a : Int) + (n : Int)) := by omega
                have hZl : (s.extract (a + n) (a + n + 8)).data.toList = B.data.toList.take 8 := HX.out 8
                have hZs : (s.extract (a + n) (a + n + 8)).size = 8 := by simp; omega
                have hZe : s.extract (a + n) (a + n + 8) = s.extract (a + n) (a + n + 8) := rfl
                generalize hZ0 : s.extract (a + n) (a + n + 8) = Z at hZl hZs hZe
                have hZd := congrArg low hZl
                have HZ := Lib.hid hZd
                have hZs2 : Z.size≤8 := by omega
                clear hZl hZs hZe hZd
                clear h1 herr hstep hst hst2 hy
                have hz := hb.size
                have HBW := Lib.hid hb
                clear hb
                go_wp2_with fail
                refine (rlow_any Z _ (by omega)).mono ?_
                rintro e w' ⟨rfl,rfl⟩
                rw [HZ.out]
                go_wp2_with (at_builtin; refine wpList_append_own _ rfl _ _ 68 rfl w.heap.size 75 i0 _ 4 40 Tryz.underlying68 hi0 hz0 hz1 hz2 rfl (by decide) _ _ _ rfl ((hown.alloc _).alloc _) ⟨wr.heap.size + 1,0,none⟩ 1 1 (fc ⟨(x : Int) / 8,(x : Int) % 8,low (B.data.toList.take 8),⟨#[]⟩⟩) rfl rfl (cells_new2 _ _ _ _) ?c2 ?c3 ?c4 ?c5 ?_)
                case c2 => intro u hu; exact fcs_one_cell (l := [⟨(x : Int) / 8,(x : Int) % 8,low (B.data.toList.take 8),⟨#[]⟩⟩]) u (by rw [fcs_one]; exact hu)
                case c3 => unfold maxLen; omega
                case c4 => omega
                case c5 => first | omega | (simp; omega)
                intro v' w2 hown' hgrow _
                have e1 : fcs acc ++ fc ⟨(x : Int) / 8,(x : Int) % 8,low (B.data.toList.take 8),⟨#[]⟩⟩ = fcs (acc ++ [⟨(x : Int) / 8,(x : Int) % 8,low (B.data.toList.take 8),⟨#[]⟩⟩]) := by rw [fcs_append,fcs_one]
                have e2 : acc.length + 1 = (acc ++ [(⟨(x : Int) / 8,(x : Int) % 8,low (B.data.toList.take 8),⟨#[]⟩⟩ : WFd)]).length := by simp
                rw [e1,e2] at hown'
                have hb3 := ((HBW.out.alloc hz _).alloc (by simp; omega) _).grown hgrow (by simp; omega) (fun q hq => (hown.lt q hq).1)
                have HO := Lib.hid (And.intro hown' hb3)
                clear hgrow hown' hown hb3 e1 e2
                go_wp2_with fail
                go_roundw
                case rel =>
                  refine ⟨a + n + 8,acc ++ [⟨(x : Int) / 8,(x : Int) % 8,low (B.data.toList.take 8),⟨#[]⟩⟩],_,rfl,by omega,by omega,HO.out.1,HO.out.2,?_,by simp; omega⟩
                  rw [HF.out]
                  exact HST.out
                case measure => simp [intOf]; omega
            · rw [ht] at hy
              have g0 : ((x : Int) % 8 == 0) = false := by simp; omega
              have g1 : ((x : Int) % 8 == 1) = false := by simp; omega
              have g5 : ((x : Int) % 8 == 5) = false := by simp; omega
              have g2 : ((x : Int) % 8 == 2) = true := by simp; omega
              clear ht
              have hBm : B.size≤maxLen := by unfold maxLen; omega
              obtain ⟨N,m,c,hrd,ok2,-,-⟩ := rd_parts B
              have HRB := Lib.hid hrd
              have HOK2 := Lib.hid ok2
              clear ok2
              by_cases he2 : c = 0
              · subst he2
                obtain ⟨hm0,hm1,hm2⟩ := HOK2.out rfl
                have hN : (N : Int)≤18446744073709551615 := by unfold Fits64 at hm2; omega
                have hge : 0≤(s.size : Int) - ((a : Int) + (n : Int) + (m : Int)) := by omega
                by_cases hsh : B.size - m < N
                · have h1 := hy 0 ⟨#[]⟩ 0 1 (by simp [pay,rt,hrd,hsh])
                  have hx := HF.out
                  rw [h1] at herr
                  rw [herr (by simp)] at hx
                  have HE : Hid (flw s = ([],1)) := Lib.hid (by rw [hx]; simp [jn])
                  have HB := Lib.hid hb
                  have hlt : (s.size : Int) - ((a : Int) + (n : Int) + (m : Int)) < (N : Int) := by omega
                  clear hx h1 herr hstep hown hb hy hrd hsh hm2
                  go_wp2_with fail
                  refine (v_rread_any B _ hBm).mono ?_
                  rintro e w' ⟨rfl,rfl⟩
                  rw [HRB.out]
                  go_wp2_with fail
                  go_ret2
                  rw [HE.out]
                  exact ⟨_,rfl,World.ownsRow_nil _ _ _ _,HB.out.alloc HB.out.size _⟩
                · have h1 := hy 0 (B.extract m (m + N)) (m + N) 0 (by simp [pay,rt,hrd,hsh])
                  have hst := hstep
                  rw [h1] at hst
                  have hst2 := hst (by simp) acc
                  simp only [if_true] at hst2
                  rw [HR.out,← Nat.add_assoc] at hst2
                  have HST := Lib.hid hst2
                  have hle : (N : Int)≤(s.size : Int) - ((a : Int) + (n : Int) + (m : Int)) := by omega
                  have hD0 : s.extract (a + n + m) (a + n + m + N) = B.extract m (m + N) := cut_cut hT2
                  generalize hDD : B.extract m (m + N) = D at *
                  clear hm2 hrd hDD
                  clear h1 herr hstep hst hst2 hy
                  have hz := hb.size
                  have HBW := Lib.hid hb
                  clear hb
                  go_wp2_with fail
                  refine (v_rread_any B _ hBm).mono ?_
                  rintro e w' ⟨rfl,rfl⟩
                  rw [HRB.out]
                  go_wp2_with (at_builtin; refine wpList_append_own _ rfl _ _ 68 rfl w.heap.size 75 i0 _ 4 40 Tryz.underlying68 hi0 hz0 hz1 hz2 rfl (by decide) _ _ _ rfl ((hown.alloc _).alloc _) ⟨wr.heap.size + 1,0,none⟩ 1 1 (fc ⟨(x : Int) / 8,(x : Int) % 8,0,D⟩) rfl rfl (cells_new2 _ _ _ _) ?c2 ?c3 ?c4 ?c5 ?_)
                  case c2 => intro u hu; exact fcs_one_cell (l := [⟨(x : Int) / 8,(x : Int) % 8,0,D⟩]) u (by rw [fcs_one]; exact hu)
                  case c3 => unfold maxLen; omega
                  case c4 => omega
                  case c5 => first | omega | (simp; omega)
                  intro v' w2 hown' hgrow _
                  have e1 : fcs acc ++ fc ⟨(x : Int) / 8,(x : Int) % 8,0,D⟩ = fcs (acc ++ [⟨(x : Int) / 8,(x : Int) % 8,0,D⟩]) := by rw [fcs_append,fcs_one]
                  have e2 : acc.length + 1 = (acc ++ [(⟨(x : Int) / 8,(x : Int) % 8,0,D⟩ : WFd)]).length := by simp
                  rw [e1,e2] at hown'
                  have hb3 := ((HBW.out.alloc hz _).alloc (by simp; omega) _).grown hgrow (by simp; omega) (fun q hq => (hown.lt q hq).1)
                  have HO := Lib.hid (And.intro hown' hb3)
                  clear hgrow hown' hown hb3 e1 e2
                  go_wp2_with fail
                  go_roundw
                  case rel =>
                    refine ⟨a + n + (m + N),acc ++ [⟨(x : Int) / 8,(x : Int) % 8,0,D⟩],_,rfl,by omega,by omega,HO.out.1,HO.out.2,?_,by simp; omega⟩
                    rw [HF.out]
                    exact HST.out
                  case measure => simp [intOf]; omega
              · have h1 := hy 0 ⟨#[]⟩ 0 c (by simp [pay,rt,hrd,he2])
                have hx := HF.out
                rw [h1] at herr
                rw [herr (by simp; exact he2)] at hx
                have HE : Hid (flw s = ([],c)) := Lib.hid (by rw [hx]; simp [jn,he2])
                have HB := Lib.hid hb
                have hc2 : ((c : Int) != 0) = true := by simp; omega
                clear hx h1 herr hstep hown hb hy hrd
                go_wp2_with fail
                refine (v_rread_any B _ hBm).mono ?_
                rintro e w' ⟨rfl,rfl⟩
                rw [HRB.out]
                go_wp2_with fail
                go_ret2
                rw [HE.out]
                exact ⟨_,rfl,World.ownsRow_nil _ _ _ _,HB.out.alloc HB.out.size _⟩
            · rw [ht] at hy
              have g0 : ((x : Int) % 8 == 0) = false := by simp; omega
              have g1 : ((x : Int) % 8 == 1) = false := by simp; omega
              have g2 : ((x : Int) % 8 == 2) = false := by simp; omega
              have g5 : ((x : Int) % 8 == 5) = true := by simp; omega
              have g0' : ((x : Int) % 8 != 0) = true := by simp; omega
              clear ht
              by_cases hsh : B.size < 4
              · have h1 := hy 0 ⟨#[]⟩ 0 1 (by simp [pay,rl,hsh])
                have hx := HF.out
                rw [h1] at herr
                rw [herr (by simp)] at hx
                have HE : Hid (flw s = ([],1)) := Lib.hid (by rw [hx]; simp [jn])
                have HB := Lib.hid hb
                have hlt : (s.size : Int) - ((a : Int) + (n : Int)) < 4 := by omega
                clear hx h1 herr hstep hown hb hy hsh
                go_wp2_with fail
                go_ret2
                rw [HE.out]
                exact ⟨_,rfl,World.ownsRow_nil _ _ _ _,HB.out.alloc HB.out.size _⟩
              · have h1 := hy (low (B.data.toList.take 4)) ⟨#[]⟩ 4 0 (by simp [pay,rl,hsh])
                have hst := hstep
                rw [h1] at hst
                have hst2 := hst (by simp) acc
                simp only [if_true] at hst2
                rw [HR.out,← Nat.add_assoc] at hst2
                have HST := Lib.hid hst2
                have hge : 4≤(s.size : Int) - ((a : Int) + (n : Int)) := by omega
                have hZl : (s.extract (a + n) (a + n + 4)).data.toList = B.data.toList.take 4 := HX.out 4
                have hZs : (s.extract (a + n) (a + n + 4)).size = 4 := by simp; omega
                have hZe : s.extract (a + n) (a + n + 4) = s.extract (a + n) (a + n + 4) := rfl
                generalize hZ0 : s.extract (a + n) (a + n + 4) = Z at hZl hZs hZe
                have hZd := congrArg low hZl
                have HZ := Lib.hid hZd
                have hZs2 : Z.size≤8 := by omega
                clear hZl hZs hZe hZd
                clear h1 herr hstep hst hst2 hy
                have hz := hb.size
                have HBW := Lib.hid hb
                clear hb
                go_wp2_with fail
                refine (rlow_any Z _ (by omega)).mono ?_
                rintro e w' ⟨rfl,rfl⟩
                rw [HZ.out]
                go_wp2_with (at_builtin; refine wpList_append_own _ rfl _ _ 68 rfl w.heap.size 75 i0 _ 4 40 Tryz.underlying68 hi0 hz0 hz1 hz2 rfl (by decide) _ _ _ rfl ((hown.alloc _).alloc _) ⟨wr.heap.size + 1,0,none⟩ 1 1 (fc ⟨(x : Int) / 8,(x : Int) % 8,low (B.data.toList.take 4),⟨#[]⟩⟩) rfl rfl (cells_new2 _ _ _ _) ?c2 ?c3 ?c4 ?c5 ?_)
                case c2 => intro u hu; exact fcs_one_cell (l := [⟨(x : Int) / 8,(x : Int) % 8,low (B.data.toList.take 4),⟨#[]⟩⟩]) u (by rw [fcs_one]; exact hu)
                case c3 => unfold maxLen; omega
                case c4 => omega
                case c5 => first | omega | (simp; omega)
                intro v' w2 hown' hgrow _
                have e1 : fcs acc ++ fc ⟨(x : Int) / 8,(x : Int) % 8,low (B.data.toList.take 4),⟨#[]⟩⟩ = fcs (acc ++ [⟨(x : Int) / 8,(x : Int) % 8,low (B.data.toList.take 4),⟨#[]⟩⟩]) := by rw [fcs_append,fcs_one]
                have e2 : acc.length + 1 = (acc ++ [(⟨(x : Int) / 8,(x : Int) % 8,low (B.data.toList.take 4),⟨#[]⟩⟩ : WFd)]).length := by simp
                rw [e1,e2] at hown'
                have hb3 := ((HBW.out.alloc hz _).alloc (by simp; omega) _).grown hgrow (by simp; omega) (fun q hq => (hown.lt q hq).1)
                have HO := Lib.hid (And.intro hown' hb3)
                clear hgrow hown' hown hb3 e1 e2
                go_wp2_with fail
                go_roundw
                case rel =>
                  refine ⟨a + n + 4,acc ++ [⟨(x : Int) / 8,(x : Int) % 8,low (B.data.toList.take 4),⟨#[]⟩⟩],_,rfl,by omega,by omega,HO.out.1,HO.out.2,?_,by simp; omega⟩
                  rw [HF.out]
                  exact HST.out
                case measure => simp [intOf]; omega
          · have hx := HF.out
            have h1 := hno rfl (by simpa using hm)
            rw [h1] at herr
            rw [herr (by simp)] at hx
            have HE : Hid (flw s = ([],3)) := Lib.hid (by rw [hx]; simp [jn])
            have HB := Lib.hid hb
            clear hx h1 herr hone hno hyes hstep hown hb
            have hcase : (x / 8 = 0)∨(x / 8≠0∧536870911 < x / 8)∨(x / 8≠0∧x / 8≤536870911∧(x % 8 = 3∨x % 8 = 4∨5 < x % 8)) := by
              unfold mayB at hm
              rw [decide_eq_true_iff] at hm
              omega
            clear hm
            rcases hcase with q | ⟨q,q2⟩ | ⟨q,q2,q3⟩
            · have f1 : ((x : Int) / 8 == 0) = true := by simp; omega
              clear q
              go_wp2_with fail
              go_ret2
              rw [HE.out]
              exact ⟨_,rfl,World.ownsRow_nil _ _ _ _,HB.out.alloc HB.out.size _⟩
            · have f1 : ((x : Int) / 8 == 0) = false := by simp; omega
              have f2 : (536870911 : Int) < (x : Int) / 8 := by omega
              clear q q2
              go_wp2_with fail
              go_ret2
              rw [HE.out]
              exact ⟨_,rfl,World.ownsRow_nil _ _ _ _,HB.out.alloc HB.out.size _⟩
            · have f1 : ((x : Int) / 8 == 0) = false := by simp; omega
              have f2 : (x : Int) / 8≤536870911 := by omega
              clear q q2
              rcases q3 with q | q | q
              · have f3 : ((x : Int) % 8 == 3) = true := by simp; omega
                clear q
                go_wp2_with fail
                go_ret2
                rw [HE.out]
                exact ⟨_,rfl,World.ownsRow_nil _ _ _ _,HB.out.alloc HB.out.size _⟩
              · have f3 : ((x : Int) % 8 == 3) = false := by simp; omega
                have f4 : ((x : Int) % 8 == 4) = true := by simp; omega
                clear q
                go_wp2_with fail
                go_ret2
                rw [HE.out]
                exact ⟨_,rfl,World.ownsRow_nil _ _ _ _,HB.out.alloc HB.out.size _⟩
              · have f3 : ((x : Int) % 8 == 3) = false := by simp; omega
                have f4 : ((x : Int) % 8 == 4) = false := by simp; omega
                have f5 : (5 : Int) < (x : Int) % 8 := by omega
                clear q
                go_wp2_with fail
                go_ret2
                rw [HE.out]
                exact ⟨_,rfl,World.ownsRow_nil _ _ _ _,HB.out.alloc HB.out.size _⟩
        · have hc : ((c : Int) != 0) = true := by simp; omega
          have hx := HF.out
          rw [hone he] at herr
          rw [herr he] at hx
          have HE : Hid (flw s = ([],c)) := Lib.hid (by rw [hx]; simp [jn,he])
          have HB := Lib.hid hb
          clear hx herr hone hno hyes hstep hown hb
          go_wp2_with fail
          go_ret2
          rw [HE.out]
          exact ⟨_,rfl,World.ownsRow_nil _ _ _ _,HB.out⟩
end Go.Proofs.YtjjfdlgoacockaaGreat
