import Derived.Test.YtjjfdlgoacockaaGreatPAt
import Derived.Test.YtjjfdlgoacockaaGreatPuts
import Derived.Test.YtjjfdlgoacockaaGreatMath
import Derived.Test.YtjjfdlgoacockaaGreatWOpen
namespace Go.Proofs.YtjjfdlgoacockaaGreat
open Go.RowKit M1 M2 M3

set_option maxRecDepth 100000 in
theorem with_any (A : Option Addr) (c : Nat) (acc : List Int) (v : Nat) (B : Nat) (w : World) (hB : B≤w.heap.size) (hl : acc.length≤65536) (hv : Fits64 v)
    (hown : w.ownsRow B 2 1 (.slice A acc.length c) acc.length (iv acc)) :
    Calls Tryz.prog 145 #[.slice A acc.length c,.int .u64 (v : Int)] w (RowRes B (if acc.length = 65536 then ([],7) else (acc ++ [sg v],0)) w) := by
  by_cases h : acc.length = 65536
  · rw [if_pos h]
    have hq : ((acc.length : Int) == 65536) = true := by simp; omega
    clear hown h
    go_enter Tryz.func145,Tryz.ntmps145
    go_wp2_with fail
    go_ret2
    exact ⟨_,rfl,World.ownsRow_nil _ _ _ _,Below.refl _ _⟩
  · rw [if_neg h]
    have hq : ((acc.length : Int) == 65536) = false := by simp; omega
    have hv' : (v : Int)≤18446744073709551615 := by unfold Fits64 at hv; omega
    obtain ⟨i0,hi0,hz0,hz1,hz2⟩ := info_parts infoInt64
    clear h hv
    go_enter Tryz.func145,Tryz.ntmps145
    go_wp2_with (at_builtin; refine wpList_append_own _ rfl _ _ 83 rfl B 2 i0 _ 1 8 Tryz.underlying83 hi0 hz0 hz1 hz2 rfl (by decide) _ _ _ rfl (hown.alloc _) ⟨w.heap.size,0,none⟩ 1 1 [.int .i64 (wrap64 (v : Int))] rfl rfl (cell_one_new _ _ _) ?c2 ?c3 ?c4 ?c5 ?_)
    case c2 => intro u hu; simp at hu; subst hu; rfl
    case c3 => unfold maxLen; omega
    case c4 => omega
    case c5 => simp; omega
    intro v' w2 hown' hgrow _
    have e1 : iv acc ++ [.int .i64 (wrap64 (v : Int))] = iv (acc ++ [sg v]) := by rw [iv_append]; rfl
    have e2 : acc.length + 1 = (acc ++ [sg v]).length := by simp
    rw [e1,e2] at hown'
    have hb := ((Below.refl B w).alloc hB _).grown hgrow (by simp; omega) (fun q hq => (hown.lt q hq).1)
    have HO := Lib.hid (And.intro hown' hb)
    clear hown' hgrow hown e1 e2 hb
    go_wp2_with fail
    go_ret2
    exact ⟨_,rfl,HO.out.1,HO.out.2⟩
end Go.Proofs.YtjjfdlgoacockaaGreat
namespace Go.Proofs.YtjjfdlgoacockaaGreat
open Go.RowKit M1 M2 M3

set_option maxRecDepth 100000 in
theorem packed_any (A : Option Addr) (c : Nat) (acc : List Int) (s : ByteArray) (B : Nat) (w : World) (hB : B ≤ w.heap.size) (hl : acc.length ≤ 65536) (hs : s.size ≤ maxLen)
    (hown : w.ownsRow B 2 1 (.slice A acc.length c) acc.length (iv acc)) :
    Calls Tryz.prog 146 #[.slice A acc.length c,.string s] w (RowRes B (pks s acc) w) := by
  unfold maxLen at hs
  go_enter Tryz.func146,Tryz.ntmps146
  go_wp2
  go_loopw [0,1] (fun v b wr => ∃ (t : ByteArray) (r : List Int),b = .string t∧wr.ownsRow B 2 1 v r.length (iv r)∧Below B w wr∧pks s acc = pks t r∧r.length≤65536∧t.size≤s.size) (fun _ b _ => match b with | .string t => t.size | _ => 0)
  case atStart => exact ⟨s,acc,rfl,hown,Below.refl _ _,rfl,hl,Nat.le_refl _⟩
  case round =>
    obtain ⟨t,r,rfl,hown,hb,hpk,hr,hts⟩ := hrel
    have HP := Lib.hid hpk; clear hpk
    obtain ⟨A,c0,rfl,-,-⟩ := own_form hown
    by_cases h0 : t.size = 0
    · have h0' : ¬ (0 : Int) < (t.size : Int) := by omega
      have HO := Lib.hid hown
      have HB := Lib.hid hb
      have HE : Hid (pks s acc = (r,0)) := Lib.hid (by rw [HP.out,pks_end h0])
      clear hown hb
      go_wp2
      go_ret2
      rw [HE.out]
      exact ⟨_,rfl,HO.out,HB.out⟩
    · have h0' : (0 : Int) < (t.size : Int) := by omega
      have htm : t.size≤maxLen := by unfold maxLen; omega
      obtain ⟨x,n,e,hrd,hok,-,hcode⟩ := rd_parts t
      have hc1 := fun W => v_read_any t W htm
      rw [hrd] at hc1
      have HR := Lib.hid hrd
      have HC := Lib.hid hc1
      clear hc1 hrd
      go_wp2_with fail
      refine (HC.out _).mono ?_
      rintro e1 w1 ⟨rfl,rfl⟩
      by_cases he : e = 0
      · subst he
        obtain ⟨hn0,hn,hx⟩ := hok rfl
        have hni : (n : Int)≤(t.size : Int) := by omega
        have hBw : B≤wr.heap.size := by have := hb.size; omega
        have HW := Lib.hid (with_any A c0 r x B wr hBw hr hx hown)
        have HB := Lib.hid hb
        clear hok hown hx hb
        go_wp2_with fail
        refine HW.out.mono ?_
        rintro e2 w2 ⟨v2,rfl,hown2,hb2⟩
        have HB2 := Lib.hid (HB.out.trans hb2)
        clear hb2 HW
        by_cases hf : r.length = 65536
        · rw [if_pos hf] at hown2 ⊢
          have HE : Hid (pks s acc = ([],7)) := Lib.hid (by rw [HP.out,pks_full h0 (by rw [HR.out]) hf])
          clear hown2
          go_wp2_with fail
          go_ret2
          rw [HE.out]
          exact ⟨_,rfl,World.ownsRow_nil _ _ _ _,HB2.out⟩
        · rw [if_neg hf] at hown2 ⊢
          have hst := pks_step (s := t) h0 (by rw [HR.out]) hf
          rw [HR.out] at hst
          have HE : Hid (pks s acc = pks (rest t n) (r ++ [sg x])) := Lib.hid (by rw [HP.out,hst])
          have HO := Lib.hid hown2
          clear hst hown2
          go_wp2_with fail
          go_roundw
          case rel => exact ⟨rest t n,r ++ [sg x],rfl,HO.out,HB2.out,HE.out,by simp; omega,by rw [rest_size]; omega⟩
          case measure => show (rest t n).size < t.size; rw [rest_size]; omega
      · have hc : ((e : Int) != 0) = true := by simp; omega
        have HB := Lib.hid hb
        have HE : Hid (pks s acc = ([],e)) := Lib.hid (by rw [HP.out,pks_err h0 (by rw [HR.out]; exact he),HR.out])
        clear hok hown hb
        go_wp2_with fail
        go_ret2
        rw [HE.out]
        exact ⟨_,rfl,World.ownsRow_nil _ _ _ _,HB.out⟩
end Go.Proofs.YtjjfdlgoacockaaGreat
namespace Go.Proofs.YtjjfdlgoacockaaGreat
open Go.RowKit M1 M2 M3

set_option maxRecDepth 100000 in
theorem ints_any (A : Option Addr) (c : Nat) (l : List WFd) (num : Int) (w : World) (hl : l.length ≤ 3000000) (ha : SR w w.heap.size 4 A l.length (fcs l)) (hok : ∀ f ∈ l, FOk f) :
    Calls Tryz.prog 101 #[.slice A l.length c,.int .i64 num] w (RowRes w.heap.size (ints (ofNum l num) []) w) := by
  have hF : ∀ f ∈ ofNum l num,FOk f := fun f hf => hok f (List.mem_filter.1 hf).1
  have hFl := ofNum_le l num
  have HF := Lib.hid hF
  have HA := Lib.hid (fun W h => w_all_any A c l num W hl h)
  clear hF hok
  go_enter Tryz.func101,Tryz.ntmps101
  go_wp2_with fail
  refine (HA.out _ ha).mono ?_
  rintro e w1 ⟨v1,rfl,hown1,hb1⟩
  obtain ⟨A1,c1,rfl,-,-⟩ := own_form hown1
  have hs1 := SR.of_own hown1
  have HB1 := Lib.hid hb1
  clear hown1 hb1 ha HA
  generalize hFF : ofNum l num = F at *
  clear hFF
  go_wp2_with fail
  go_loopw [6,14] (fun v i wr => ∃ (k : Nat) (K : Int) (r : List Int),i = .int .i64 K∧K = (k : Nat)∧k≤F.length∧wr.ownsRow w1.heap.size 2 1 v r.length (iv r)∧Below w1.heap.size w1 wr∧ints F [] = ints (F.drop k) r∧r.length≤65536) (fun _ i _ => F.length - (intOf i).toNat)
  case atStart => exact ⟨0,_,[],rfl,rfl,by omega,World.ownsRow_nil _ _ _ _,Below.refl _ _,rfl,by simp⟩
  case round =>
    obtain ⟨k,K,r,rfl,rfl,hk,hown,hb,hr,hrl⟩ := hrel
    have HR := Lib.hid hr; clear hr
    obtain ⟨V,vc,rfl,-,-⟩ := own_form hown
    by_cases hlt : k < F.length
    · obtain ⟨b1,o1,rfl,hlt1,x0,x1,x2,x3⟩ := field_at (hs1.below hb) hlt
      have hz := hb.size
      have hf := HF.out F[k] (List.getElem_mem hlt)
      have hd := List.drop_eq_getElem_cons hlt
      generalize F[k] = f at *
      obtain ⟨fnum,ftyp,fn,fdata⟩ := f
      obtain ⟨-,-,-,-,hfn,hfd⟩ := hf
      simp only at x0 x1 x2 x3 hfn hfd
      have hown' := hown.alloc (.cells #[.int .i64 fnum,.int .i64 ftyp,.int .u64 (fn : Int),.string fdata] 184)
      have HBa := Lib.hid (hb.alloc hz (.cells #[.int .i64 fnum,.int .i64 ftyp,.int .u64 (fn : Int),.string fdata] 184))
      have HD := Lib.hid hd
      clear hd hown hb hs1
      by_cases h0 : ftyp = 0
      · subst h0
        have ha : addF ⟨fnum,0,fn,fdata⟩ r = (if r.length = 65536 then ([],7) else (r ++ [sg fn],0)) := by unfold addF; simp
        have hfn' : (fn : Int)≤18446744073709551615 := by unfold Fits64 at hfn; omega
        have HC := Lib.hid (with_any V vc r fn w1.heap.size _ (by simp; omega) hrl hfn hown')
        clear hown' hfn
        go_wp2_with fail
        refine HC.out.mono ?_
        rintro e w2 ⟨v2,rfl,hown2,hb2⟩
        have HB2 := Lib.hid (HBa.out.trans hb2)
        clear hb2 HC HBa
        by_cases hf : r.length = 65536
        · rw [if_pos hf] at hown2 ha ⊢
          have HE : Hid (ints F [] = ([],7)) := Lib.hid (by rw [HR.out,HD.out,ints_err ha (by omega)])
          clear hown2 ha
          go_wp2_with fail
          go_ret2
          rw [HE.out]
          exact ⟨_,rfl,World.ownsRow_nil _ _ _ _,HB1.out.trans (HB2.out.mono HB1.out.size)⟩
        · rw [if_neg hf] at hown2 ha ⊢
          have HE : Hid (ints F [] = ints (F.drop (k + 1)) (r ++ [sg fn])) := Lib.hid (by rw [HR.out,HD.out,ints_ok ha])
          have HO := Lib.hid hown2
          clear hown2 ha
          go_wp2_with fail
          go_roundw
          case rel => exact ⟨k + 1,_,r ++ [sg fn],rfl,by omega,by omega,HO.out,HB2.out,HE.out,by simp; omega⟩
          case measure => simp [intOf]; omega
      · have h0' : (ftyp == 0) = false := by simpa using h0
        by_cases h2 : ftyp = 2
        · subst h2
          have ha : addF ⟨fnum,2,fn,fdata⟩ r = pks fdata r := by unfold addF; simp
          have HC := Lib.hid (packed_any V vc r fdata w1.heap.size _ (by simp; omega) hrl (by unfold maxLen; omega) hown')
          have HL := Lib.hid (pks_le fdata hrl)
          have HN := Lib.hid (pks_nil (s := fdata) (acc := r))
          clear hown' hfn h0 h0'
          go_wp2_with fail
          refine HC.out.mono ?_
          rintro e w2 ⟨v2,rfl,hown2,hb2⟩
          have HB2 := Lib.hid (HBa.out.trans hb2)
          clear hb2 HC HBa
          obtain ⟨q,z,hq⟩ : ∃ q z,pks fdata r = (q,z) := ⟨_,_,rfl⟩
          have HL2 := HL.out
          rw [hq] at hown2 ha HL2 ⊢
          simp only at hown2 ha HL2 ⊢
          clear hq HL HN
          by_cases hz0 : z = 0
          · subst hz0
            have HE : Hid (ints F [] = ints (F.drop (k + 1)) q) := Lib.hid (by rw [HR.out,HD.out,ints_ok ha])
            have HO := Lib.hid hown2
            clear hown2 ha
            go_wp2_with fail
            go_roundw
            case rel => exact ⟨k + 1,_,q,rfl,by omega,by omega,HO.out,HB2.out,HE.out,HL2⟩
            case measure => simp [intOf]; omega
          · have hz' : ((z : Int) != 0) = true := by simp; omega
            have HE : Hid (ints F [] = ([],z)) := Lib.hid (by rw [HR.out,HD.out,ints_err ha hz0])
            clear hown2 ha
            go_wp2_with fail
            go_ret2
            rw [HE.out]
            exact ⟨_,rfl,World.ownsRow_nil _ _ _ _,HB1.out.trans (HB2.out.mono HB1.out.size)⟩
        · have h2' : (ftyp == 2) = false := by simpa using h2
          have ha : addF ⟨fnum,ftyp,fn,fdata⟩ r = ([],3) := by unfold addF; simp [h0,h2]
          have HE : Hid (ints F [] = ([],3)) := Lib.hid (by rw [HR.out,HD.out,ints_err ha (by omega)])
          clear hown' hfn ha h0 h2
          go_wp2_with fail
          go_ret2
          rw [HE.out]
          exact ⟨_,rfl,World.ownsRow_nil _ _ _ _,HB1.out.trans (HBa.out.mono HB1.out.size)⟩
    · obtain rfl : k = F.length := by omega
      have HE : Hid (ints F [] = (r,0)) := Lib.hid (by rw [HR.out,List.drop_length]; rfl)
      have HO := Lib.hid (And.intro hown hb)
      clear hown hb
      go_wp2
      go_ret2
      rw [HE.out]
      exact ⟨_,rfl,own_base HO.out.1 HB1.out.size,HB1.out.trans (HO.out.2.mono HB1.out.size)⟩
end Go.Proofs.YtjjfdlgoacockaaGreat
namespace Go.Proofs.YtjjfdlgoacockaaGreat
open Go.RowKit M1 M2 M3

set_option maxRecDepth 100000 in
theorem p_rints_any (A : Option Addr) (c : Nat) (l : List WFd) (num : Int) (w : World) (hl : l.length ≤ 3000000) (ha : SR w w.heap.size 4 A l.length (fcs l)) (hok : ∀ f ∈ l, FOk f) :
    Calls Tryz.prog 82 #[.slice A l.length c,.int .i64 num] w (RowRes w.heap.size (ints (ofNum l num) []) w) := by
  obtain ⟨i0,hi0,hz0,hz1,hz2⟩ := info_parts infoInt64
  have HF := Lib.hid hok
  clear hok
  go_enter Tryz.func82,Tryz.ntmps82
  go_wp2_with fail
  go_loopw [6,7] (fun v i wr => ∃ (k : Nat) (K : Int) (r : List Int),i = .int .i64 K∧K = (k : Nat)∧k≤l.length∧wr.ownsRow w.heap.size 2 1 v r.length (iv r)∧Below w.heap.size w wr∧ints (ofNum l num) [] = ints (ofNum (l.drop k) num) r∧r.length≤65536) (fun _ i _ => l.length - (intOf i).toNat)
  case atStart => exact ⟨0,_,[],rfl,rfl,by omega,World.ownsRow_nil _ _ _ _,Below.refl _ _,rfl,by simp⟩
  case round =>
    obtain ⟨k,K,r,rfl,rfl,hk,hown,hb,hr,hrl⟩ := hrel
    obtain ⟨wo,rfl⟩ : ∃ wo : World,wo = wr := ⟨_,rfl⟩
    have HR := Lib.hid hr; clear hr
    obtain ⟨V,vc,rfl,-,-⟩ := own_form hown
    by_cases hlt : k < l.length
    · obtain ⟨b1, o1, rfl, hlt1, x0, x1, x2, x3⟩ := field_at (ha.below hb) hlt
      have hz := hb.size
      have hf := HF.out l[k] (List.getElem_mem hlt)
      have hd1 := fun h => drop_yes (num := num) hlt h
      have hd2 := fun h => drop_no (num := num) hlt h
      generalize l[k] = f at *
      obtain ⟨fnum,ftyp,fn,fdata⟩ := f
      obtain ⟨-,-,-,-,hfn,hfd⟩ := hf
      simp only at x0 x1 x2 x3 hfn hfd hd1 hd2
      have HD1 := Lib.hid hd1
      have HD2 := Lib.hid hd2
      have hown' := hown.alloc (.cells #[.int .i64 fnum,.int .i64 ftyp,.int .u64 (fn : Int),.string fdata] 75)
      have HBa := Lib.hid (hb.alloc hz (.cells #[.int .i64 fnum,.int .i64 ftyp,.int .u64 (fn : Int),.string fdata] 75))
      have HO := Lib.hid hown'
      clear hd1 hd2 hown hb ha hown'
      by_cases hnum : fnum = num
      · have hq : (fnum != num) = false := by simpa using hnum
        subst hnum
        have hd := HD1.out rfl
        have HD := Lib.hid hd
        clear hd HD1 HD2
        have hblk := heap_alloc_new wo (.cells #[.int .i64 fnum,.int .i64 ftyp,.int .u64 (fn : Int),.string fdata] 75)
        by_cases h0 : ftyp = 0
        · subst h0
          have ha : addF ⟨fnum,0,fn,fdata⟩ r = (if r.length = 65536 then ([],7) else (r ++ [sg fn],0)) := by unfold addF; simp
          have HAd := Lib.hid ha
          have hfn' : (fn : Int)≤18446744073709551615 := by unfold Fits64 at hfn; omega
          clear ha hfn
          have HK := Lib.hid hblk
          clear hblk
          go_wp2_with fail
          go_loopw [6,10] (fun v j wi => ∃ (J : Nat) (JJ : Int) (q : List Int),j = .int .i64 JJ∧JJ = (J : Nat)∧J≤1∧wi.ownsRow w.heap.size 2 1 v q.length (iv q)∧Below w.heap.size w wi∧wi.heap[wo.heap.size]? = some (.cells #[.int .i64 fnum,.int .i64 0,.int .u64 (fn : Int),.string fdata] 75 (0,0))∧(J = 0→q = r)∧(J = 1→r.length≠65536∧q = r ++ [sg fn])) (fun _ j _ => 1 - (intOf j).toNat)
          case atStart => exact ⟨0,_,r,rfl,rfl,by omega,HO.out,HBa.out,HK.out,fun _ => rfl,fun h => by omega⟩
          case round =>
            obtain ⟨J,JJ,q,rfl,rfl,hJ,hown,hb,hblk,hq0,hq1⟩ := hrel
            obtain ⟨V2,vc2,rfl,-,-⟩ := own_form hown
            obtain ⟨c0,c1,c2,c3⟩ := cells_of4 hblk
            have hzb := hb.size
            rcases (show J = 0∨J = 1 by omega) with rfl | rfl
            · obtain rfl := hq0 rfl
              have hown' := hown.alloc (.cells #[.int .i64 (wrap64 (fn : Int))] 2)
              by_cases hf : q.length = 65536
              · have hf' : ((q.length : Int) == 65536) = true := by simp; omega
                have hAd := HAd.out
                rw [if_pos hf] at hAd
                have HE : Hid (ints (ofNum l fnum) [] = ([],7)) := Lib.hid (by rw [HR.out,HD.out,ints_err hAd (by omega)])
                have HB := Lib.hid hb
                clear hq0 hq1 hown hown' hb hf hAd
                go_wp2_with fail
                go_ret2
                rw [HE.out]
                exact ⟨_,rfl,World.ownsRow_nil _ _ _ _,HB.out⟩
              · have hf' : ((q.length : Int) == 65536) = false := by simp; omega
                have hAd := HAd.out
                rw [if_neg hf] at hAd
                have HE : Hid (ints (ofNum l fnum) [] = ints (ofNum (l.drop (k + 1)) fnum) (q ++ [sg fn])) := Lib.hid (by rw [HR.out,HD.out,ints_ok hAd])
                have HB := Lib.hid hb
                have HN := Lib.hid (And.intro hf (own_far hown hblk (by decide)))
                have HK2 := Lib.hid hblk
                clear hq0 hq1 hb hf hAd hblk
                go_wp2_with (at_builtin; refine wpList_append_own _ rfl _ _ 83 rfl w.heap.size 2 i0 _ 1 8 Tryz.underlying83 hi0 hz0 hz1 hz2 rfl (by decide) _ _ _ rfl hown' ⟨wr.heap.size,0,none⟩ 1 1 [.int .i64 (wrap64 (fn : Int))] rfl rfl (cell_one_new _ _ _) ?c2 ?c3 ?c4 ?c5 ?_)
                case c2 => intro u hu; simp at hu; subst hu; rfl
                case c3 => unfold maxLen; omega
                case c4 => omega
                case c5 => simp; omega
                intro v' w2 hown2 hgrow _
                have e1 : iv q ++ [.int .i64 (wrap64 (fn : Int))] = iv (q ++ [sg fn]) := by rw [iv_append]; rfl
                have e2 : q.length + 1 = (q ++ [sg fn]).length := by simp
                rw [e1,e2] at hown2
                have hb2 := (HB.out.alloc hzb _).grown hgrow (by simp; omega) (fun q hq => (hown'.lt q hq).1)
                have hk2 := blk_grown (blk_alloc HK2.out _) hgrow HN.out.2
                have HO2 := Lib.hid (And.intro hown2 (And.intro hb2 hk2))
                clear hown2 hgrow hown' hown e1 e2 hb2 hk2
                go_wp2_with fail
                go_roundw
                case rel => exact ⟨1,_,q ++ [sg fn],rfl,by omega,by omega,HO2.out.1,HO2.out.2.1,HO2.out.2.2,fun h => by omega,fun _ => ⟨HN.out.1,rfl⟩⟩
                case measure => simp [intOf]
            · obtain ⟨hf,rfl⟩ := hq1 rfl
              have hAd := HAd.out
              rw [if_neg hf] at hAd
              have HE : Hid (ints (ofNum l fnum) [] = ints (ofNum (l.drop (k + 1)) fnum) (r ++ [sg fn])) := Lib.hid (by rw [HR.out,HD.out,ints_ok hAd])
              have HO2 := Lib.hid (And.intro hown hb)
              have HL := Lib.hid (show (r ++ [sg fn]).length≤65536 by simp; omega)
              clear hq0 hq1 hown hb hf hAd
              go_wp2_with fail
              go_roundw
              case rel => exact ⟨k + 1,_,r ++ [sg fn],rfl,by omega,by omega,HO2.out.1,HO2.out.2,HE.out,HL.out⟩
              case measure => simp [intOf]; omega
        · have h0' : (ftyp == 0) = false := by simpa using h0
          have h0'' : (ftyp != 0) = true := by simpa using h0
          by_cases h2 : ftyp = 2
          · subst h2
            have ha : addF ⟨fnum,2,fn,fdata⟩ r = pks fdata r := by unfold addF; simp
            have HAd := Lib.hid ha
            have HK := Lib.hid hblk
            clear ha hblk h0 h0' h0''
            go_wp2_with fail
            go_loopw [6,9,10] (fun v b j wi => ∃ (J : Nat) (JJ : Int) (t : ByteArray) (q : List Int),j = .int .i64 JJ∧JJ = (J : Nat)∧b = .string t∧J + t.size≤fdata.size∧wi.ownsRow w.heap.size 2 1 v q.length (iv q)∧Below w.heap.size w wi∧wi.heap[wo.heap.size]? = some (.cells #[.int .i64 fnum,.int .i64 2,.int .u64 (fn : Int),.string fdata] 75 (0,0))∧pks fdata r = pks t q∧q.length≤65536) (fun _ b _ _ => match b with | .string t => t.size | _ => 0)
            case atStart => exact ⟨0,_,fdata,r,rfl,rfl,rfl,by omega,HO.out,HBa.out,HK.out,rfl,hrl⟩
            case round =>
              obtain ⟨J,JJ,t,q,rfl,rfl,rfl,hJ,hown,hb,hblk,hpk,hql⟩ := hrel
              obtain ⟨V2,vc2,rfl,-,-⟩ := own_form hown
              obtain ⟨c0,c1,c2,c3⟩ := cells_of4 hblk
              have hzb := hb.size
              have HP := Lib.hid hpk
              clear hpk
              by_cases h0 : t.size = 0
              · have h0' : ¬ (0 : Int) < (t.size : Int) := by omega
                have hAd := HAd.out
                rw [HP.out,pks_end h0] at hAd
                have HE : Hid (ints (ofNum l fnum) [] = ints (ofNum (l.drop (k + 1)) fnum) q) := Lib.hid (by rw [HR.out,HD.out,ints_ok hAd])
                have HO2 := Lib.hid (And.intro hown hb)
                clear hown hb hAd hblk
                go_wp2_with fail
                go_roundw
                case rel => exact ⟨k + 1,_,q,rfl,by omega,by omega,HO2.out.1,HO2.out.2,HE.out,hql⟩
                case measure => simp [intOf]; omega
              · have h0' : (0 : Int) < (t.size : Int) := by omega
                have htm : t.size≤maxLen := by unfold maxLen; omega
                obtain ⟨x,n,e,hrd,hrok,-,hcode⟩ := rd_parts t
                have hc1 := fun W => v_rread_any t W htm
                rw [hrd] at hc1
                have HRd := Lib.hid hrd
                have HC := Lib.hid hc1
                clear hc1 hrd
                go_wp2_with fail
                refine (HC.out _).mono ?_
                rintro e1 w1 ⟨rfl,rfl⟩
                by_cases he : e = 0
                · subst he
                  obtain ⟨hn0,hn,hx⟩ := hrok rfl
                  have hni : (n : Int)≤(t.size : Int) := by omega
                  have hx' : (x : Int)≤18446744073709551615 := by unfold Fits64 at hx; omega
                  by_cases hf : q.length = 65536
                  · have hf' : ((q.length : Int) == 65536) = true := by simp; omega
                    have hAd := HAd.out
                    rw [HP.out,pks_full h0 (by rw [HRd.out]) hf] at hAd
                    have HE : Hid (ints (ofNum l fnum) [] = ([],7)) := Lib.hid (by rw [HR.out,HD.out,ints_err hAd (by omega)])
                    have HB := Lib.hid hb
                    clear hown hb hf hAd hx hrok hblk
                    go_wp2_with fail
                    go_ret2
                    rw [HE.out]
                    exact ⟨_,rfl,World.ownsRow_nil _ _ _ _,HB.out⟩
                  · have hf' : ((q.length : Int) == 65536) = false := by simp; omega
                    have hst := pks_step (s := t) h0 (by rw [HRd.out]) hf
                    rw [HRd.out] at hst
                    have HE : Hid (pks fdata r = pks (rest t n) (q ++ [sg x])) := Lib.hid (by rw [HP.out,hst])
                    have hown' := hown.alloc (.cells #[.int .i64 (wrap64 (x : Int))] 2)
                    have HB := Lib.hid hb
                    have HN := Lib.hid (And.intro hf (own_far hown hblk (by decide)))
                    have HK2 := Lib.hid hblk
                    clear hb hf hblk hst hx hrok
                    go_wp2_with (at_builtin; refine wpList_append_own _ rfl _ _ 83 rfl w.heap.size 2 i0 _ 1 8 Tryz.underlying83 hi0 hz0 hz1 hz2 rfl (by decide) _ _ _ rfl hown' ⟨wr.heap.size,0,none⟩ 1 1 [.int .i64 (wrap64 (x : Int))] rfl rfl (cell_one_new _ _ _) ?c2 ?c3 ?c4 ?c5 ?_)
                    case c2 => intro u hu; simp at hu; subst hu; rfl
                    case c3 => unfold maxLen; omega
                    case c4 => omega
                    case c5 => simp; omega
                    intro v' w2 hown2 hgrow _
                    have e1 : iv q ++ [.int .i64 (wrap64 (x : Int))] = iv (q ++ [sg x]) := by rw [iv_append]; rfl
                    have e2 : q.length + 1 = (q ++ [sg x]).length := by simp
                    rw [e1,e2] at hown2
                    have hb2 := (HB.out.alloc hzb _).grown hgrow (by simp; omega) (fun q hq => (hown'.lt q hq).1)
                    have hk2 := blk_grown (blk_alloc HK2.out _) hgrow HN.out.2
                    have HO2 := Lib.hid (And.intro hown2 (And.intro hb2 hk2))
                    have HL := Lib.hid (show (q ++ [sg x]).length≤65536 by have := HN.out.1; simp; omega)
                    clear hown2 hgrow hown' hown e1 e2 hb2 hk2
                    go_wp2_with fail
                    go_roundw
                    case rel => exact ⟨J + 1,_,rest t n,q ++ [sg x],rfl,by omega,rfl,by rw [rest_size]; omega,HO2.out.1,HO2.out.2.1,HO2.out.2.2,HE.out,HL.out⟩
                    case measure => show (rest t n).size < t.size; rw [rest_size]; omega
                · have hc : ((e : Int) != 0) = true := by simp; omega
                  have hAd := HAd.out
                  rw [HP.out,pks_err h0 (by rw [HRd.out]; exact he),HRd.out] at hAd
                  have HE : Hid (ints (ofNum l fnum) [] = ([],e)) := Lib.hid (by rw [HR.out,HD.out,ints_err hAd he])
                  have HB := Lib.hid hb
                  clear hown hb hAd hrok hblk
                  go_wp2_with fail
                  go_ret2
                  rw [HE.out]
                  exact ⟨_,rfl,World.ownsRow_nil _ _ _ _,HB.out⟩
          · have h2' : (ftyp != 2) = true := by simpa using h2
            have ha : addF ⟨fnum,ftyp,fn,fdata⟩ r = ([],3) := by unfold addF; simp [h0,h2]
            have HE : Hid (ints (ofNum l fnum) [] = ([],3)) := Lib.hid (by rw [HR.out,HD.out,ints_err ha (by omega)])
            clear ha h0 h2 hblk
            go_wp2_with fail
            go_ret2
            rw [HE.out]
            exact ⟨_,rfl,World.ownsRow_nil _ _ _ _,HBa.out⟩
      · have hq : (fnum != num) = true := by simpa using hnum
        have HE : Hid (ints (ofNum l num) [] = ints (ofNum (l.drop (k + 1)) num) r) := Lib.hid (by rw [HR.out,HD2.out hnum])
        clear hnum
        go_wp2_with fail
        go_roundw
        case rel => exact ⟨k + 1,_,r,rfl,by omega,by omega,HO.out,HBa.out,HE.out,hrl⟩
        case measure => simp [intOf]; omega
    · obtain rfl : k = l.length := by omega
      have HE : Hid (ints (ofNum l num) [] = (r,0)) := Lib.hid (by rw [HR.out,drop_end]; rfl)
      have HO := Lib.hid (And.intro hown hb)
      clear hown hb
      go_wp2
      go_ret2
      rw [HE.out]
      exact ⟨_,rfl,HO.out.1,HO.out.2⟩
end Go.Proofs.YtjjfdlgoacockaaGreat
