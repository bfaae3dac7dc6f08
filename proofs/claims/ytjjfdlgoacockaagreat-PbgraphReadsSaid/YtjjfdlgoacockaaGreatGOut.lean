import Derived.Test.YtjjfdlgoacockaaGreatWOpen
import Derived.Test.YtjjfdlgoacockaaGreatGPut
import Derived.Test.YtjjfdlgoacockaaGreatOpenRow
import Derived.Test.YtjjfdlgoacockaaGreatMath
namespace Go.Proofs.YtjjfdlgoacockaaGreat
open Go.RowKit M6

theorem d_zero {x : Nat} (h : D x 0) : FloatKind.f64.format.order x 0 = some .eq := by
  have := D_order h zero_num (by decide) (by decide)
  exact this
theorem d_not_zero {x : Nat} {n : Int} (h : D x n) (h0 : n≠0) (hn : n.natAbs < 9007199254740992) : ¬ FloatKind.f64.format.order x 0 = some .eq := by
  have h2 : FloatKind.f64.format.order x 0 = some (compare n 0) := D_order h zero_num hn (by decide)
  rw [h2,Int.compare_eq_ite_lt]
  split
  · simp
  · split
    · simp
    · omega
set_option maxRecDepth 100000 in
theorem plain_any (x : Nat) (n : Int) (w : World) (h : D x n) (hn : n.natAbs < 9007199254740992) :
    Calls Tryz.prog 185 #[.float .f64 x] w fun e w' => e = .returned (.float .f64 (fz n))∧w = w' := by
  by_cases h0 : n = 0
  · subst h0
    rw [fz_zero]
    have hz := d_zero h
    go_enter Tryz.func185,Tryz.ntmps185
    go_wp2_with fail
    go_ret
    exact ⟨rfl,rfl⟩
  · have hz := d_not_zero h h0 hn
    obtain rfl := D_fz h h0 hn
    generalize fz n = x at *
    have hz2 : (FloatKind.f64.format.order x 0 == some .eq) = false := by rw [beq_eq_false_iff_ne]; exact hz
    clear h hn h0
    go_enter Tryz.func185,Tryz.ntmps185
    go_wp2_with fail
    go_ret
    exact ⟨rfl,rfl⟩

def cv (l : List (Nat×Nat)) : List Value := l.map fun p => .complex .f64 p.1 p.2
def wp2 (p : Nat×Nat) : Bool := wb p.1 && wb p.2
def g_fit (l : List (Nat×Nat)) : Prop := ∀ p ∈ l,p.1 < 18446744073709551616∧p.2 < 18446744073709551616
theorem fit_at {l : List (Nat×Nat)} (h : g_fit l) {k : Nat} (hk : k < l.length) : l[k].1 < 18446744073709551616∧l[k].2 < 18446744073709551616 := h _ (List.getElem_mem hk)

set_option maxRecDepth 100000 in
theorem out_no (x y : Nat) (A : Option Addr) (c : Nat) (l : List (Nat × Nat)) (w : World) (hl : l.length ≤ maxLen) (hf : g_fit l) (hs : SR w w.heap.size 1 A l.length (cv l)) (hno : ∃ p ∈ l, wp2 p = false) :
    Calls Tryz.prog 176 #[.complex .f64 x y,.slice A l.length c] w fun e w' => e = .returned (.tuple #[.complex .f64 0 0,.int .i64 17])∧w = w' := by
  have HNO := Lib.hid hno
  have HF := Lib.hid hf
  clear hno hf
  unfold maxLen at hl
  go_enter Tryz.func176,Tryz.ntmps176
  go_wp2_with fail
  go_loop [12] (fun i => ∃ (k : Nat) (K : Int),i = .int .i64 K∧K = k∧k≤l.length∧Hid (∀ j,(h : j < k)→(h2 : j < l.length)→wp2 l[j] = true)) (fun i => l.length - (intOf i).toNat)
  case atStart => exact ⟨0,_,rfl,rfl,by omega,Lib.hid (fun j h => absurd h (by omega))⟩
  case round =>
    obtain ⟨k,K,rfl,rfl,hk,HY⟩ := hrel
    by_cases hlt : k < l.length
    · obtain ⟨b,o,rfl,hb,hc⟩ := cell_at hs hlt (u := .complex .f64 l[k].1 l[k].2) (by simp [cv,hlt])
      by_cases hw : wp2 l[k] = true
      · have HC := Lib.hid (checked_yes l[k].1 l[k].2 w (fit_at HF.out hlt).1 (fit_at HF.out hlt).2 (by unfold wp2 at hw; simp at hw; exact hw.1) (by unfold wp2 at hw; simp at hw; exact hw.2))
        have HYY : Hid (∀ j,(h : j < k + 1)→(h2 : j < l.length)→wp2 l[j] = true) := Lib.hid (fun j h h2 => by
          by_cases e : j < k
          · exact HY.out j e h2
          · obtain rfl : j = k := by omega
            exact hw)
        clear hw
        go_wp2_with fail
        refine HC.out.mono ?_; rintro e w1 ⟨rfl,rfl⟩; go_wp2_with fail
        go_round
        case rel => exact ⟨k + 1,_,rfl,by omega,by omega,HYY⟩
        case measure => simp [intOf]; omega
      · have HC := Lib.hid (checked_no l[k].1 l[k].2 w (fit_at HF.out hlt).1 (fit_at HF.out hlt).2 (by unfold wp2 at hw; simp at hw; cases h1 : wb l[k].1 <;> simp [h1] at hw ⊢; exact hw))
        clear hw
        go_wp2_with fail
        refine HC.out.mono ?_; rintro e w1 ⟨rfl,rfl⟩; go_wp2_with fail
        go_ret2
        exact ⟨rfl,rfl⟩
    · exfalso
      obtain ⟨p,hp,hpf⟩ := HNO.out
      obtain ⟨j,hj,rfl⟩ := List.getElem_of_mem hp
      have := HY.out j (by omega) hj
      rw [hpf] at this
      cases this

def oc (n m : Int) : Int×Int×Int := if n.natAbs≤1048576∧m.natAbs≤1048576 then (n,m,0) else (0,0,17)
set_option maxRecDepth 100000 in
theorem out_yes (x y : Nat) (n m : Int) (A : Option Addr) (c : Nat) (l : List (Nat × Nat)) (w : World) (hl : l.length ≤ maxLen) (hf : g_fit l) (hs : SR w w.heap.size 1 A l.length (cv l)) (hall : ∀ p ∈ l, wp2 p = true)
    (hx : D x n) (hy : D y m) (hn : n.natAbs < 9007199254740992) (hm : m.natAbs < 9007199254740992) :
    Calls Tryz.prog 176 #[.complex .f64 x y,.slice A l.length c] w fun e w' => e = .returned (.tuple #[.complex .f64 (fz (oc n m).1) (fz (oc n m).2.1),.int .i64 (oc n m).2.2])∧w = w' := by
  have HNO := Lib.hid hall
  have HF := Lib.hid hf
  have HX := Lib.hid (plain_any x n w hx hn)
  have HY := Lib.hid (plain_any y m w hy hm)
  have HC : Hid (Calls Tryz.prog 182 #[.complex .f64 (fz n) (fz m)] w fun e w' => e = .returned (.tuple #[.complex .f64 (fz (oc n m).1) (fz (oc n m).2.1),.int .i64 (oc n m).2.2])∧w = w') := Lib.hid (by
    by_cases h : n.natAbs≤1048576∧m.natAbs≤1048576
    · have e : oc n m = (n,m,0) := if_pos h
      rw [e]
      exact checked_yes _ _ w (fz_lt n) (fz_lt m) (whole_fz h.1) (whole_fz h.2)
    · have e : oc n m = (0,0,17) := if_neg h
      rw [e,fz_zero]
      refine checked_no _ _ w (fz_lt n) (fz_lt m) ?_
      have inj : ∀ a : Int,a.natAbs < 9007199254740992→wb (fz a) = true→a.natAbs≤1048576 := by
        intro a ha hw
        obtain ⟨i,hi,e⟩ := (wb_iff (fz_lt a)).1 hw
        have := fz_inj ha (by omega) e
        omega
      cases h1 : wb (fz n)
      · exact .inl rfl
      · cases h2 : wb (fz m)
        · exact .inr rfl
        · exact absurd ⟨inj n hn h1,inj m hm h2⟩ h)
  generalize oc n m = r at *
  generalize fz n = xn at *
  generalize fz m = ym at *
  generalize fz r.1 = r1 at *
  generalize fz r.2.1 = r2 at *
  generalize r.2.2 = r3 at *
  clear hall hf hx hy hn hm
  unfold maxLen at hl
  go_enter Tryz.func176,Tryz.ntmps176
  go_wp2_with fail
  go_loop [12] (fun i => ∃ (k : Nat) (K : Int),i = .int .i64 K∧K = k∧k≤l.length) (fun i => l.length - (intOf i).toNat)
  case atStart => exact ⟨0,_,rfl,rfl,by omega⟩
  case round =>
    obtain ⟨k,K,rfl,rfl,hk⟩ := hrel
    by_cases hlt : k < l.length
    · obtain ⟨b,o,rfl,hb,hc⟩ := cell_at hs hlt (u := .complex .f64 l[k].1 l[k].2) (by simp [cv,hlt])
      have hw := HNO.out _ (List.getElem_mem hlt)
      have HC1 := Lib.hid (checked_yes l[k].1 l[k].2 w (fit_at HF.out hlt).1 (fit_at HF.out hlt).2 (by unfold wp2 at hw; simp at hw; exact hw.1) (by unfold wp2 at hw; simp at hw; exact hw.2))
      clear hw
      go_wp2_with fail
      refine HC1.out.mono ?_; rintro e w1 ⟨rfl,rfl⟩; go_wp2_with fail
      go_round
      case rel => exact ⟨k + 1,_,rfl,by omega,by omega⟩
      case measure => simp [intOf]; omega
    · obtain rfl : k = l.length := by omega
      go_wp2_with fail
      refine HX.out.mono ?_; rintro e w1 ⟨rfl,rfl⟩; go_wp2_with fail
      refine HY.out.mono ?_; rintro e w1 ⟨rfl,rfl⟩; go_wp2_with fail
      refine HC.out.mono ?_; rintro e w1 ⟨rfl,rfl⟩; go_wp2_with fail
      go_ret2
      exact ⟨rfl,rfl⟩
end Go.Proofs.YtjjfdlgoacockaaGreat
namespace Go.Proofs.YtjjfdlgoacockaaGreat
open Go.RowKit M6
def res (ok : Bool) (n m : Int) : Int×Int×Int := if ok then oc n m else (0,0,17)
def NRes (r : Int×Int×Int) (w : World) (e : Ending) (w' : World) : Prop := e = .returned (.tuple #[.complex .f64 (fz r.1) (fz r.2.1),.int .i64 r.2.2])∧Below w.heap.size w w'
theorem whole_small {n : Int} (hn : n.natAbs < 9007199254740992) : wb (fz n) = decide (n.natAbs≤1048576) := by
  by_cases h : n.natAbs≤1048576
  · rw [whole_fz h,decide_eq_true h]
  · rw [decide_eq_false h,Bool.eq_false_iff]
    intro hw
    obtain ⟨i,hi,e⟩ := (wb_iff (fz_lt n)).1 hw
    have := fz_inj hn (by omega) e
    omega
theorem lit_two (w : World) (a b : Nat×Nat) (T : TypeId) : SR (w.alloc (.cells #[.complex .f64 a.1 a.2,.complex .f64 b.1 b.2] T)) (w.alloc (.cells #[.complex .f64 a.1 a.2,.complex .f64 b.1 b.2] T)).heap.size 1 (some ⟨w.heap.size,0,none⟩) [a,b].length (cv [a,b]) := by
  have h := SR.lit w (cv [a,b]) T (size := 1) (n := 2) rfl
  rw [show (cv [a,b]).toArray = #[.complex .f64 a.1 a.2,.complex .f64 b.1 b.2] from rfl] at h
  simpa using h
theorem fit_two {a b : Nat×Nat} (h1 : a.1 < 18446744073709551616∧a.2 < 18446744073709551616) (h2 : b.1 < 18446744073709551616∧b.2 < 18446744073709551616) : g_fit [a,b] := by
  intro p hp
  simp only [List.mem_cons,List.not_mem_nil,or_false] at hp
  rcases hp with rfl | rfl
  · exact h1
  · exact h2
theorem fz_pair (a b : Int) : ((fz a,fz b) : Nat×Nat).1 < 18446744073709551616∧((fz a,fz b) : Nat×Nat).2 < 18446744073709551616 := ⟨fz_lt a,fz_lt b⟩
def ok2 (a b c d : Int) : Bool := decide (a.natAbs≤1048576) && decide (b.natAbs≤1048576) && (decide (c.natAbs≤1048576) && decide (d.natAbs≤1048576))
set_option maxRecDepth 100000 in
theorem gmul_no (a b : Nat×Nat) (w : World) (ha : a.1 < 18446744073709551616∧a.2 < 18446744073709551616) (hb : b.1 < 18446744073709551616∧b.2 < 18446744073709551616) (h : wp2 a = false∨wp2 b = false) :
    Calls Tryz.prog 151 #[.complex .f64 a.1 a.2,.complex .f64 b.1 b.2] w (NRes (0,0,17) w) := by
  obtain ⟨re,im,n,hop⟩ := run_complex_any (P := Tryz.prog) w .mul (.inr (.inr rfl)) 250 a.1 a.2 b.1 b.2
  have HC := Lib.hid (out_no re im _ 2 [a,b] _ (by unfold maxLen; simp) (fit_two ha hb) (lit_two (w.drewN n) a b 250) (by rcases h with h | h; exact ⟨a,by simp,h⟩; exact ⟨b,by simp,h⟩))
  clear ha hb h
  go_enter Tryz.func151,Tryz.ntmps151
  go_wp2_with fail
  refine HC.out.mono ?_; rintro e w1 ⟨rfl,rfl⟩; go_wp2_with fail
  go_ret2
  unfold NRes
  rw [fz_zero]
  exact ⟨rfl,(below_drewN (Below.refl _ _) n).alloc (Nat.le_refl _) _⟩
set_option maxRecDepth 100000 in
theorem gmul_any (a b c d : Int) (w : World) (ha : a.natAbs < 9007199254740992) (hb : b.natAbs < 9007199254740992) (hc : c.natAbs < 9007199254740992) (hd : d.natAbs < 9007199254740992) :
    Calls Tryz.prog 151 #[.complex .f64 (fz a) (fz b),.complex .f64 (fz c) (fz d)] w (NRes (res (ok2 a b c d) (a * c - b * d) (a * d + b * c)) w) := by
  by_cases h : ok2 a b c d = true
  · have e : res (ok2 a b c d) (a * c - b * d) (a * d + b * c) = oc (a * c - b * d) (a * d + b * c) := by rw [res,if_pos h]
    rw [e]
    unfold ok2 at h
    simp only [Bool.and_eq_true,decide_eq_true_iff] at h
    obtain ⟨⟨h1,h2⟩,h3,h4⟩ := h
    obtain ⟨x,y,hop,hx,hy⟩ := run_mul_D (P := Tryz.prog) w 250 (fz_num ha) (fz_num hb) (fz_num hc) (fz_num hd) h1 h2 h3 h4
    have m1 := small_mul h1 h3
    have m2 := small_mul h2 h4
    have m3 := small_mul h1 h4
    have m4 := small_mul h2 h3
    have HC := Lib.hid (out_yes x y (a * c - b * d) (a * d + b * c) _ 2 [(fz a,fz b),(fz c,fz d)] _ (by unfold maxLen; simp) (fit_two (fz_pair a b) (fz_pair c d)) (lit_two w (fz a,fz b) (fz c,fz d) 250)
      (by intro p hp; simp only [List.mem_cons,List.not_mem_nil,or_false] at hp; rcases hp with rfl | rfl; (simp only [wp2,whole_fz h1,whole_fz h2]; rfl); (simp only [wp2,whole_fz h3,whole_fz h4]; rfl)) hx hy (by omega) (by omega))
    generalize oc (a * c - b * d) (a * d + b * c) = r at *
    clear m1 m2 m3 m4 h1 h2 h3 h4 ha hb hc hd hx hy
    generalize fz a = xa at *
    generalize fz b = xb at *
    generalize fz c = xc at *
    generalize fz d = xd at *
    go_enter Tryz.func151,Tryz.ntmps151
    go_wp2_with fail
    refine HC.out.mono ?_; rintro e w1 ⟨rfl,rfl⟩; go_wp2_with fail
    go_ret2
    exact ⟨rfl,(Below.refl _ _).alloc (Nat.le_refl _) _⟩
  · have e : res (ok2 a b c d) (a * c - b * d) (a * d + b * c) = (0,0,17) := by rw [res,if_neg h]
    rw [e]
    refine gmul_no (fz a,fz b) (fz c,fz d) w (fz_pair a b) (fz_pair c d) ?_
    unfold wp2
    rw [whole_small ha,whole_small hb,whole_small hc,whole_small hd]
    unfold ok2 at h
    cases h1 : (decide (a.natAbs≤1048576) && decide (b.natAbs≤1048576))
    · exact .inl rfl
    · rw [h1] at h
      refine .inr ?_
      simpa using h
end Go.Proofs.YtjjfdlgoacockaaGreat
namespace Go.Proofs.YtjjfdlgoacockaaGreat
open Go.RowKit M6
theorem fz_self {n : Int} (h : n.natAbs < 9007199254740992) : FloatKind.f64.format.order (fz n) (fz n) = some .eq := by
  have h2 : FloatKind.f64.format.order (fz n) (fz n) = some (compare n n) := D_order (fz_num h) (fz_num h) h h
  rw [h2,Int.compare_eq_ite_lt,if_neg (by omega),if_neg (by omega)]
set_option maxRecDepth 100000 in
theorem gawake_any (w : World) : Calls Tryz.prog 106 #[] w fun e w' => e = .returned (.bool true)∧Below w.heap.size w w' := by
  have HM := Lib.hid (fun W => gmul_any 1 2 3 4 W (by decide) (by decide) (by decide) (by decide))
  have e1 : fz 1 = 4607182418800017408 := by decide +kernel
  have e2 : fz 2 = 4611686018427387904 := by decide +kernel
  have e3 : fz 3 = 4613937818241073152 := by decide +kernel
  have e4 : fz 4 = 4616189618054758400 := by decide +kernel
  have e5 : fz (-5) = 13840687554816376832 := by decide +kernel
  have e6 : fz 10 = 4621819117588971520 := by decide +kernel
  have hr : res (ok2 1 2 3 4) (1 * 3 - 2 * 4) (1 * 4 + 2 * 3) = (-5,10,0) := by decide
  have s5 := fz_self (n := -5) (by decide)
  have s6 := fz_self (n := 10) (by decide)
  unfold NRes at HM
  rw [hr,e1,e2,e3,e4] at HM
  simp only at HM
  rw [e5,e6] at HM
  rw [e5] at s5
  rw [e6] at s6
  clear e1 e2 e3 e4 e5 e6 hr
  go_enter Tryz.func106,Tryz.ntmps106
  go_wp2_with fail
  refine (HM.out _).mono ?_
  rintro e w1 ⟨rfl,hb⟩
  have HB := Lib.hid hb
  clear hb
  go_wp2_with fail
  go_ret
  exact ⟨rfl,HB.out⟩
end Go.Proofs.YtjjfdlgoacockaaGreat
