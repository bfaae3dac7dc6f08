/- The walk of the law PbnodeWrites. -/
import Derived.Test.YtiniicehfjgpgaaGreatNWPre
import Derived.Test.YtiniicehfjgpgaaGreatNPutP
import Derived.Test.YtiniicehfjgpgaaGreatNReads
import Derived.Test.YtiniicehfjgpgaaGreatMEach
import Derived.Test.YtiniicehfjgpgaaGreatKSize
import Derived.Deep.CutRange
import Derived.Deep.RegionHeld
namespace Go.Proofs.YtiniicehfjgpgaaGreat
open Go.RowKit M1 M2 M3 M8 M9 M10 M11 Go.Sort
open M7 (nm)
set_option linter.unusedSimpArgs false
set_option linter.unusedVariables false

/-- the arguments' boxes, and what the document's types hold of them -/
structure PW (w : World) (g5 g6 : Nat) (c2 c3 c5 c6 : Array Value) (n : Nod) (i : Inf) (W : World) : Prop where
  a : Bx w w.heap.size c2 26 W
  b : Bx w (w.heap.size + 1) c3 38 W
  c : Bx w g5 c5 32 W
  d : Bx w g6 c6 42 W
  n2 : NodAt W.heap.size W n c2.toList
  n5 : NodAt W.heap.size W n c5.toList
  i3 : InfAt W.heap.size W i c3.toList
  i6 : InfAt W.heap.size W i c6.toList
theorem PW.below {w W W' : World} {g5 g6 : Nat} {c2 c3 c5 c6 : Array Value} {n : Nod} {i : Inf} (h : PW w g5 g6 c2 c3 c5 c6 n i W) (hb : Below W.heap.size W W') : PW w g5 g6 c2 c3 c5 c6 n i W' :=
  ⟨h.a.below hb, h.b.below hb, h.c.below hb, h.d.below hb, ek_nod.more (ek_nod.below h.n2 hb) hb.size, ek_nod.more (ek_nod.below h.n5 hb) hb.size, ek_inf.more (ek_inf.below h.i3 hb) hb.size, ek_inf.more (ek_inf.below h.i6 hb) hb.size⟩
theorem PW.drew {w W : World} {g5 g6 : Nat} {c2 c3 c5 c6 : Array Value} {n : Nod} {i : Inf} (h : PW w g5 g6 c2 c3 c5 c6 n i W) : PW w g5 g6 c2 c3 c5 c6 n i W.drew :=
  h.below (Below.refl _ _).drew
theorem nodat_dr {B : Nat} {w : World} {n : Nod} {A D : Option Addr} {l c m d : Nat} (h : NodAt B w n [.string n.op, .slice A l c, .string n.out, .slice D m d]) : DR AttAt w B 4 D n.attrs := by
  obtain ⟨A', c', D', d', h, _, hd, _⟩ := h
  simp only [List.cons.injEq, Value.slice.injEq, true_and, and_true] at h
  obtain ⟨_, rfl, _⟩ := h
  exact hd
/-- the two arguments alone -/
structure PA (w : World) (c2 c3 : Array Value) (n : Nod) (i : Inf) (W : World) : Prop where
  a : Bx w w.heap.size c2 26 W
  b : Bx w (w.heap.size + 1) c3 38 W
  n2 : NodAt W.heap.size W n c2.toList
  i3 : InfAt W.heap.size W i c3.toList
theorem PA.below {w W W' : World} {c2 c3 : Array Value} {n : Nod} {i : Inf} (h : PA w c2 c3 n i W) (hb : Below W.heap.size W W') : PA w c2 c3 n i W' :=
  ⟨h.a.below hb, h.b.below hb, ek_nod.more (ek_nod.below h.n2 hb) hb.size, ek_inf.more (ek_inf.below h.i3 hb) hb.size⟩
theorem PA.drew {w W : World} {c2 c3 : Array Value} {n : Nod} {i : Inf} (h : PA w c2 c3 n i W) : PA w c2 c3 n i W.drew := h.below (Below.refl _ _).drew
/-- a literal of one node -/
theorem dr_litN (w : World) (n : Nod) (cs : List Value) (T : TypeId) (h : NodAt w.heap.size w n cs) : DR NodAt (w.alloc (.cells cs.toArray T)) (w.heap.size + 1) 4 (some ⟨w.heap.size, 0, none⟩) [n] := by
  have hl := ek_nod.len h
  refine ⟨[cs], ⟨ek_nod.more (ek_nod.below h ((Below.refl _ _).alloc (Nat.le_refl _) _)) (Nat.le_succ _), trivial⟩, ?_⟩
  have := SR.lit w cs T (size := 4) (n := 1) (by omega)
  simpa using this

open Go.Region in
theorem n_take {P : Program} {ops : Array Oper} {Q : Exit → Act → World → Prop} {md : Region.Mode} {S : World → Prop} {i : Nat} {oi : Oper} {d : Tmp} {v : Value} {fuel : Nat} {listed : Array Bool} {a : Act} {w : World} (hi : ops[i]? = some oi) (hd : oi.dst = some d)
    (hs : Region.noSelect ops = true) (hf : Region.free md ops listed i = true) (hr : (Region.ready md ops listed).contains i = true)
    (hQ : ∀ c a w, Q (.panic c) (a.put oi.dst v) w → Q (.panic c) a w) (hy : YieldsIf P ops S oi v a) (hS : S w)
    (h : wpAnyH P md ops Q S fuel (listed.setIfInBounds i true) (a.put (some d) v) w) : wpAnyH P md ops Q S (fuel + 1) listed a w :=
  wpAnyH_take hi hs hf hr hQ hy hS (by rw [hd]; exact h)
/-- what the region's loads read: the arguments' boxes; .. and the one element of the law's Infos -/
def S2 (n : Nod) (i : Inf) (A : Option Addr) (c : Nat) (D : Option Addr) (d : Nat) (E : Option Addr) (e0 : Nat) (w W : World) : Prop := (W.cell? ⟨w.heap.size, 0, none⟩ = some (.string n.op) ∧ W.cell? ⟨w.heap.size, 1, none⟩ = some (.slice A n.ins.length c) ∧ W.cell? ⟨w.heap.size, 2, none⟩ = some (.string n.out) ∧ W.cell? ⟨w.heap.size, 3, none⟩ = some (.slice D n.attrs.length d)) ∧ (W.cell? ⟨w.heap.size + 1, 0, none⟩ = some (.string i.name) ∧ W.cell? ⟨w.heap.size + 1, 1, none⟩ = some (.int .i64 i.kind) ∧ W.cell? ⟨w.heap.size + 1, 2, none⟩ = some (.slice E i.dims.length e0))
def J3 (g : Nat) (i : Inf) (E6 : Option Addr) (e6 : Nat) (W : World) : Prop := g < W.heap.size ∧ (W.cell? ⟨g, 0, none⟩ = some (.string i.name) ∧ W.cell? ⟨g, 1, none⟩ = some (.int .i64 i.kind) ∧ W.cell? ⟨g, 2, none⟩ = some (.slice E6 i.dims.length e6))
def S3 (n : Nod) (i : Inf) (A : Option Addr) (c : Nat) (D : Option Addr) (d : Nat) (E : Option Addr) (e0 : Nat) (w : World) (g : Nat) (E6 : Option Addr) (e6 : Nat) (W : World) : Prop := S2 n i A c D d E e0 w W ∧ (W.cell? ⟨g, 0, none⟩ = some (.string i.name) ∧ W.cell? ⟨g, 1, none⟩ = some (.int .i64 i.kind) ∧ W.cell? ⟨g, 2, none⟩ = some (.slice E6 i.dims.length e6))
theorem j3_below {g : Nat} {V V' : World} {a b c : Value} (h : g < V.heap.size ∧ (V.cell? ⟨g, 0, none⟩ = some a ∧ V.cell? ⟨g, 1, none⟩ = some b ∧ V.cell? ⟨g, 2, none⟩ = some c)) (hb : Below V.heap.size V V') :
    g < V'.heap.size ∧ (V'.cell? ⟨g, 0, none⟩ = some a ∧ V'.cell? ⟨g, 1, none⟩ = some b ∧ V'.cell? ⟨g, 2, none⟩ = some c) :=
  ⟨Nat.lt_of_lt_of_le h.1 hb.size, (hb.cell (p := ⟨g, 0, none⟩) h.1).trans h.2.1, (hb.cell (p := ⟨g, 1, none⟩) h.1).trans h.2.2.1, (hb.cell (p := ⟨g, 2, none⟩) h.1).trans h.2.2.2⟩
theorem j3_set {g b k : Nat} {V : World} {u a0 a1 a2 : Value} (h : g < V.heap.size ∧ (V.cell? ⟨g, 0, none⟩ = some a0 ∧ V.cell? ⟨g, 1, none⟩ = some a1 ∧ V.cell? ⟨g, 2, none⟩ = some a2)) (hne : b ≠ g) :
    g < (V.setCell ⟨b, k, none⟩ u).heap.size ∧ ((V.setCell ⟨b, k, none⟩ u).cell? ⟨g, 0, none⟩ = some a0 ∧ (V.setCell ⟨b, k, none⟩ u).cell? ⟨g, 1, none⟩ = some a1 ∧ (V.setCell ⟨b, k, none⟩ u).cell? ⟨g, 2, none⟩ = some a2) :=
  ⟨by simpa [World.setCell] using h.1, (World.cell?_setCell_far V ⟨b, k, none⟩ ⟨g, 0, none⟩ u hne).trans h.2.1, (World.cell?_setCell_far V ⟨b, k, none⟩ ⟨g, 1, none⟩ u hne).trans h.2.2.1, (World.cell?_setCell_far V ⟨b, k, none⟩ ⟨g, 2, none⟩ u hne).trans h.2.2.2⟩
theorem j3_set4 {g b : Nat} {V : World} {a0 a1 a2 : Value} (h : g < V.heap.size ∧ (V.cell? ⟨g, 0, none⟩ = some a0 ∧ V.cell? ⟨g, 1, none⟩ = some a1 ∧ V.cell? ⟨g, 2, none⟩ = some a2)) (hne : b ≠ g) (u0 u1 u2 u3 : Value) :
    g < ((((V.setCell ⟨b, 0, none⟩ u0).setCell ⟨b, 1, none⟩ u1).setCell ⟨b, 2, none⟩ u2).setCell ⟨b, 3, none⟩ u3).heap.size ∧ (((((V.setCell ⟨b, 0, none⟩ u0).setCell ⟨b, 1, none⟩ u1).setCell ⟨b, 2, none⟩ u2).setCell ⟨b, 3, none⟩ u3).cell? ⟨g, 0, none⟩ = some a0 ∧ ((((V.setCell ⟨b, 0, none⟩ u0).setCell ⟨b, 1, none⟩ u1).setCell ⟨b, 2, none⟩ u2).setCell ⟨b, 3, none⟩ u3).cell? ⟨g, 1, none⟩ = some a1 ∧ ((((V.setCell ⟨b, 0, none⟩ u0).setCell ⟨b, 1, none⟩ u1).setCell ⟨b, 2, none⟩ u2).setCell ⟨b, 3, none⟩ u3).cell? ⟨g, 2, none⟩ = some a2) :=
  j3_set (j3_set (j3_set (j3_set h hne) hne) hne) hne
theorem below_set4 {B b : Nat} (V : World) (h : B ≤ b) (u0 u1 u2 u3 : Value) : Below B V ((((V.setCell ⟨b, 0, none⟩ u0).setCell ⟨b, 1, none⟩ u1).setCell ⟨b, 2, none⟩ u2).setCell ⟨b, 3, none⟩ u3) :=
  ((((Below.refl B V).setCell (p := ⟨b, 0, none⟩) h u0).setCell (p := ⟨b, 1, none⟩) h u1).setCell (p := ⟨b, 2, none⟩) h u2).setCell (p := ⟨b, 3, none⟩) h u3
/-- behind the first store -/
def Fa (w V0 : World) (g5 g6 g : Nat) (n : Nod) (i : Inf) (A5 : Option Addr) (c5 : Nat) (D5 : Option Addr) (d5 : Nat) (E6 : Option Addr) (e6 : Nat) (W : World) : Prop :=
  Below V0.heap.size V0 W ∧ RNod V0.heap.size W n [.string n.op, .slice A5 n.ins.length c5, .string n.out, .slice D5 n.attrs.length d5] ∧ Bx w g5 #[.string n.op, .slice A5 n.ins.length c5, .string n.out, .slice D5 n.attrs.length d5] 32 W ∧ Bx w g6 #[.string ⟨#[]⟩, .int .i64 0, .slice none 0 0] 42 W ∧ J3 g i E6 e6 W ∧ InfAt V0.heap.size W i [.string i.name, .int .i64 i.kind, .slice E6 i.dims.length e6]
/-- behind the last -/
def Fb (w : World) (g5 g6 g : Nat) (n : Nod) (i : Inf) (A : Option Addr) (c : Nat) (D : Option Addr) (d : Nat) (E : Option Addr) (e0 : Nat) (A5 : Option Addr) (c5 : Nat) (D5 : Option Addr) (d5 : Nat) (E6 : Option Addr) (e6 : Nat) (W : World) : Prop :=
  S2 n i A c D d E e0 w W ∧ (W.cell? ⟨g, 0, none⟩ = some (.string i.name) ∧ W.cell? ⟨g, 1, none⟩ = some (.int .i64 i.kind) ∧ W.cell? ⟨g, 2, none⟩ = some (.slice E6 i.dims.length e6)) ∧ PW w g5 g6 #[.string n.op, .slice A n.ins.length c, .string n.out, .slice D n.attrs.length d] #[.string i.name, .int .i64 i.kind, .slice E i.dims.length e0] #[.string n.op, .slice A5 n.ins.length c5, .string n.out, .slice D5 n.attrs.length d5] #[.string i.name, .int .i64 i.kind, .slice E6 i.dims.length e6] n i W
theorem fin2 {w V0 V : World} {g5 g6 g : Nat} {n : Nod} {i : Inf} {A5 D5 E6 : Option Addr} {c5 d5 e6 : Nat} (hl : Below V0.heap.size V0 V) (hr : RNod V0.heap.size V n [.string n.op, .slice A5 n.ins.length c5, .string n.out, .slice D5 n.attrs.length d5])
    (h5 : Bx w g5 #[.string ⟨#[]⟩, .slice none 0 0, .string ⟨#[]⟩, .slice none 0 0] 32 V) (h6 : Bx w g6 #[.string ⟨#[]⟩, .int .i64 0, .slice none 0 0] 42 V) (hj : J3 g i E6 e6 V) (hi : InfAt V0.heap.size V i [.string i.name, .int .i64 i.kind, .slice E6 i.dims.length e6]) (hge : V0.heap.size ≤ g5) (hw : w.heap.size ≤ g5) (hn : g5 ≠ g6) (hg : g5 ≠ g) :
    Fa w V0 g5 g6 g n i A5 c5 D5 d5 E6 e6 ((((V.setCell ⟨g5, 0, none⟩ (.string n.op)).setCell ⟨g5, 1, none⟩ (.slice A5 n.ins.length c5)).setCell ⟨g5, 2, none⟩ (.string n.out)).setCell ⟨g5, 3, none⟩ (.slice D5 n.attrs.length d5)) :=
  ⟨(((hl.setCell (p := ⟨g5, 0, none⟩) hge _).setCell (p := ⟨g5, 1, none⟩) hge _).setCell (p := ⟨g5, 2, none⟩) hge _).setCell (p := ⟨g5, 3, none⟩) hge _, rnod_set4 hr h5.1 (by decide) hge _ _ _ _, h5.four_put hw _ _ _ _,
    (((h6.far_set _ (Ne.symm hn) hw).far_set _ (Ne.symm hn) hw).far_set _ (Ne.symm hn) hw).far_set _ (Ne.symm hn) hw, j3_set4 hj hg _ _ _ _, ek_inf.below hi (below_set4 V hge _ _ _ _)⟩
theorem fin3 {w V0 V : World} {g5 g6 g : Nat} {n : Nod} {i : Inf} {A D E A5 D5 E6 : Option Addr} {c d e0 c5 d5 e6 : Nat} (hS : ∀ W, Below V0.heap.size V0 W → S2 n i A c D d E e0 w W)
    (hB : ∀ W, Below V0.heap.size V0 W → Bx w w.heap.size #[.string n.op, .slice A n.ins.length c, .string n.out, .slice D n.attrs.length d] 26 W ∧ Bx w (w.heap.size + 1) #[.string i.name, .int .i64 i.kind, .slice E i.dims.length e0] 38 W) (hN : NodAt V0.heap.size V0 n (#[.string n.op, .slice A n.ins.length c, .string n.out, .slice D n.attrs.length d]).toList) (hI : InfAt V0.heap.size V0 i (#[.string i.name, .int .i64 i.kind, .slice E i.dims.length e0]).toList)
    (hf : Fa w V0 g5 g6 g n i A5 c5 D5 d5 E6 e6 V) (hge : V0.heap.size ≤ g6) (hw : w.heap.size ≤ g6) (hn : g5 ≠ g6) (hg : g6 ≠ g) :
    Fb w g5 g6 g n i A c D d E e0 A5 c5 D5 d5 E6 e6 (((V.setCell ⟨g6, 0, none⟩ (.string i.name)).setCell ⟨g6, 1, none⟩ (.int .i64 i.kind)).setCell ⟨g6, 2, none⟩ (.slice E6 i.dims.length e6)) := by
  obtain ⟨hl, hr, h5, h6, hj, hi⟩ := hf
  have hlF : Below V0.heap.size V0 (((V.setCell ⟨g6, 0, none⟩ (.string i.name)).setCell ⟨g6, 1, none⟩ (.int .i64 i.kind)).setCell ⟨g6, 2, none⟩ (.slice E6 i.dims.length e6)) := ((hl.setCell (p := ⟨g6, 0, none⟩) hge _).setCell (p := ⟨g6, 1, none⟩) hge _).setCell (p := ⟨g6, 2, none⟩) hge _
  have hst : Below V0.heap.size V (((V.setCell ⟨g6, 0, none⟩ (.string i.name)).setCell ⟨g6, 1, none⟩ (.int .i64 i.kind)).setCell ⟨g6, 2, none⟩ (.slice E6 i.dims.length e6)) := (((Below.refl _ _).setCell (p := ⟨g6, 0, none⟩) hge _).setCell (p := ⟨g6, 1, none⟩) hge _).setCell (p := ⟨g6, 2, none⟩) hge _
  have g1 := heap_setCell_same V g6 0 _ _ (.string i.name) h6.1
  have g2 := heap_setCell_same _ g6 1 _ _ (.int .i64 i.kind) g1
  have hrF : RNod V0.heap.size (((V.setCell ⟨g6, 0, none⟩ (.string i.name)).setCell ⟨g6, 1, none⟩ (.int .i64 i.kind)).setCell ⟨g6, 2, none⟩ (.slice E6 i.dims.length e6)) n [.string n.op, .slice A5 n.ins.length c5, .string n.out, .slice D5 n.attrs.length d5] :=
    er_nod.set (er_nod.set (er_nod.set hr h6.1 (by decide) hge) g1 (by decide) hge) g2 (by decide) hge
  exact ⟨hS _ hlF, (j3_set (j3_set (j3_set hj hg) hg) hg).2, (hB _ hlF).1, (hB _ hlF).2, ((h5.far_set _ hn hw).far_set _ hn hw).far_set _ hn hw, h6.three_put hw _ _ _,
    ek_nod.more (ek_nod.below hN hlF) hlF.size, hrF.at_ hlF.size, ek_inf.more (ek_inf.below hI hlF) hlF.size, ek_inf.more (ek_inf.below hi hst) hlF.size⟩

set_option maxRecDepth 100000 in
set_option maxHeartbeats 16000000 in
theorem writes11_walk (n : Nod) (i : Inf) (cn ci : List Value) (w : World) (hn : NodAt w.heap.size w n cn) (hi : InfAt w.heap.size w i ci) (hT : cI i + cN n ≤ 1099511627776) :
    Calls Tryz.prog 4 #[.agg cn.toArray, .agg ci.toArray] w fun e w' => e = .returned (.bool true) ∧ Below w.heap.size w w' := by
  have HAW := Lib.hid (fun W => nawake_any W)
  obtain ⟨A, c, D, d, rfl⟩ := NodAt.shape hn
  obtain ⟨E, e0, rfl⟩ := InfAt.shape hi
  have HAO : Hid (∀ a ∈ n.attrs, AOk a) := Lib.hid (by
    obtain ⟨_, _, _, _, _, _, hd, _⟩ := hn
    intro a ha
    obtain ⟨cs, _, _, _, _, hk⟩ := hd.all a ha
    exact hk)
  have HNK : Hid (NOk n) := Lib.hid (by obtain ⟨_, _, _, _, _, _, _, hk⟩ := hn; exact hk)
  have HIO : Hid (IOk i) := Lib.hid (by obtain ⟨_, _, _, _, hk⟩ := hi; exact hk)
  have HP0 : Hid (PA w #[.string n.op, .slice A n.ins.length c, .string n.out, .slice D n.attrs.length d] #[.string i.name, .int .i64 i.kind, .slice E i.dims.length e0] n i ((w.alloc (.cells #[.string n.op, .slice A n.ins.length c, .string n.out, .slice D n.attrs.length d] 26)).alloc (.cells #[.string i.name, .int .i64 i.kind, .slice E i.dims.length e0] 38))) := Lib.hid (by
    have hb := ((Below.refl w.heap.size w).alloc (Nat.le_refl _) (.cells #[.string n.op, .slice A n.ins.length c, .string n.out, .slice D n.attrs.length d] 26)).alloc (by simp) (.cells #[.string i.name, .int .i64 i.kind, .slice E i.dims.length e0] 38)
    exact ⟨(Bx.start w _ _).more _, Bx.two w _ _ _, ek_nod.more (ek_nod.below hn hb) hb.size, ek_inf.more (ek_inf.below hi hb) hb.size⟩)
  obtain ⟨x0, x1, x2, x3⟩ := HP0.out.a.four
  obtain ⟨y0, y1, y2⟩ := HP0.out.b.three
  clear hn hi
  go_enter Tryz.func4, Tryz.ntmps4
  have hz0 : ((w.alloc (.cells #[.string n.op, .slice A n.ins.length c, .string n.out, .slice D n.attrs.length d] 26)).alloc (.cells #[.string i.name, .int .i64 i.kind, .slice E i.dims.length e0] 38)).heap.size = w.heap.size + 1 + 1 := by simp
  generalize hW0 : (w.alloc (.cells #[.string n.op, .slice A n.ins.length c, .string n.out, .slice D n.attrs.length d] 26)).alloc (.cells #[.string i.name, .int .i64 i.kind, .slice E i.dims.length e0] 38) = W0 at *
  have hbA := (Below.refl W0.heap.size W0).alloc (Nat.le_refl _) (.cells #[.string i.name, .int .i64 i.kind, .slice E i.dims.length e0] 38)
  have hpA := HP0.out.below hbA
  have hbB := (Below.refl (W0.alloc (.cells #[.string i.name, .int .i64 i.kind, .slice E i.dims.length e0] 38)).heap.size (W0.alloc (.cells #[.string i.name, .int .i64 i.kind, .slice E i.dims.length e0] 38))).alloc (Nat.le_refl _) (.cells #[.string n.op, .slice A n.ins.length c, .string n.out, .slice D n.attrs.length d] 26)
  have HP1 := Lib.hid (hpA.below hbB)
  obtain ⟨q0, q1, q2, q3⟩ := hpA.a.four
  have hzA : (W0.alloc (.cells #[.string i.name, .int .i64 i.kind, .slice E i.dims.length e0] 38)).heap.size = W0.heap.size + 1 := by simp
  have hmod : ModAt ((W0.alloc (.cells #[.string i.name, .int .i64 i.kind, .slice E i.dims.length e0] 38)).alloc (.cells #[.string n.op, .slice A n.ins.length c, .string n.out, .slice D n.attrs.length d] 26)).heap.size ((W0.alloc (.cells #[.string i.name, .int .i64 i.kind, .slice E i.dims.length e0] 38)).alloc (.cells #[.string n.op, .slice A n.ins.length c, .string n.out, .slice D n.attrs.length d] 26)) ⟨0, [i], [], [], [n]⟩ (some ⟨W0.heap.size, 0, none⟩) none none (some ⟨W0.heap.size + 1, 0, none⟩) := by
    refine ⟨?_, DR.empty _ _ _, DR.empty _ _ _, ?_, by unfold I64; dsimp only; omega, by simp, by simp, by simp, by simp⟩
    · have h := dr_lit W0 i E e0 38 HP0.out.i3
      exact (DR.below (B := W0.heap.size + 1) h ek_inf (by rw [← hzA]; exact hbB)).more ek_inf (by simp)
    · have h := dr_litN (W0.alloc (.cells #[.string i.name, .int .i64 i.kind, .slice E i.dims.length e0] 38)) n [.string n.op, .slice A n.ins.length c, .string n.out, .slice D n.attrs.length d] 26 hpA.n2
      rw [hzA] at h
      exact h.more ek_nod (by simp)
  have hcm : cM ⟨0, [i], [], [], [n]⟩ = cI i + cN n := by unfold cM sumf; simp
  have HSM : Hid (Calls Tryz.prog 14 #[.agg #[.int .i64 0, .slice (some ⟨W0.heap.size, 0, none⟩) 1 1, .slice none 0 0, .slice none 0 0, .slice (some ⟨W0.heap.size + 1, 0, none⟩) 1 1]] ((W0.alloc (.cells #[.string i.name, .int .i64 i.kind, .slice E i.dims.length e0] 38)).alloc (.cells #[.string n.op, .slice A n.ins.length c, .string n.out, .slice D n.attrs.length d] 26)) fun e w' => e = .returned (.bool (decide (cI i + cN n ≤ 6000))) ∧ Below ((W0.alloc (.cells #[.string i.name, .int .i64 i.kind, .slice E i.dims.length e0] 38)).alloc (.cells #[.string n.op, .slice A n.ins.length c, .string n.out, .slice D n.attrs.length d] 26)).heap.size ((W0.alloc (.cells #[.string i.name, .int .i64 i.kind, .slice E i.dims.length e0] 38)).alloc (.cells #[.string n.op, .slice A n.ins.length c, .string n.out, .slice D n.attrs.length d] 26)) w') := Lib.hid (by
    rw [← hcm]
    exact lsmallX_any ⟨0, [i], [], [], [n]⟩ _ _ _ _ 1 0 0 1 _ hmod (by rw [hcm]; exact hT))
  rw [hz0] at HSM
  clear hmod hcm hbA hbB hpA hzA
  go_wp2_with fail
  refine HSM.out.mono ?_
  rintro e w1 ⟨rfl, hb1⟩
  have HP2 := Lib.hid (HP1.out.below hb1)
  clear hb1 HSM HP1 HP0 x0 x1 x2 x3 y0 y1 y2 q0 q1 q2 q3
  by_cases h6 : cI i + cN n ≤ 6000
  case neg =>
    have hd : decide (cI i + cN n ≤ 6000) = false := decide_eq_false h6
    rw [hd]
    go_wp2_with fail
    refine (HAW.out _).mono ?_
    rintro e w2 ⟨rfl, hb2⟩
    have HB := Lib.hid (HP2.out.below hb2).a.all
    clear hb2
    go_wp2_with fail
    go_ret
    exact ⟨rfl, HB.out⟩
  have hd : decide (cI i + cN n ≤ 6000) = true := decide_eq_true h6
  rw [hd]
  clear hd
  have hci : cI i ≤ 6000 := by omega
  have hcn : cN n ≤ 6000 := by omega
  clear h6 hT
  have HCI := Lib.hid hci
  have HCN := Lib.hid hcn
  have HSMN := Lib.hid (nsm_of hcn)
  clear hci hcn
  go_upto_region 3 with fail
  have HQ0 := Lib.hid HP2.out.drew
  have HLN := Lib.hid (fun W' (h : PA w #[.string n.op, .slice A n.ins.length c, .string n.out, .slice D n.attrs.length d] #[.string i.name, .int .i64 i.kind, .slice E i.dims.length e0] n i W') => lnode_any W'.heap.size n _ W' (Nat.le_refl _) h.n2)
  have HLI : Hid (∀ W' g, DR InfAt W' W'.heap.size 3 (some ⟨g, 0, none⟩) [i] → Calls Tryz.prog 13 #[.slice (some ⟨g, 0, none⟩) 1 1] W' fun e w' => ∃ v, e = .returned v ∧ RR InfAt w' W'.heap.size 42 3 v [i] ∧ Below W'.heap.size W' w') := Lib.hid (fun W' g h => linfos_any W'.heap.size [i] (some ⟨g, 0, none⟩) 1 W' (Nat.le_refl _) (by simp) h)
  have HDL := Lib.hid (fun W' (h : PA w #[.string n.op, .slice A n.ins.length c, .string n.out, .slice D n.attrs.length d] #[.string i.name, .int .i64 i.kind, .slice E i.dims.length e0] n i W') => (dr_lit W' i E e0 38 h.i3).more (B' := (W'.alloc (.cells #[.string i.name, .int .i64 i.kind, .slice E i.dims.length e0] 38)).heap.size) ek_inf (by simp))
  have HA0 := Lib.hid (HQ0.out.below ((Below.refl w1.drew.heap.size w1.drew).alloc (Nat.le_refl _) (.cells #[.string i.name, .int .i64 i.kind, .slice E i.dims.length e0] 38)))
  have HD0 := Lib.hid (HDL.out _ HQ0.out)
  clear HP2
  go_cut [5, 6] from 24 to 30 (fun s5 s6 wx => ∃ g5 g6 A5 c5 D5 d5 E6 e6, s5 = .pointer (some ⟨g5, 0, none⟩) ∧ s6 = .pointer (some ⟨g6, 0, none⟩) ∧ PW w g5 g6 #[.string n.op, .slice A n.ins.length c, .string n.out, .slice D n.attrs.length d] #[.string i.name, .int .i64 i.kind, .slice E i.dims.length e0] #[.string n.op, .slice A5 n.ins.length c5, .string n.out, .slice D5 n.attrs.length d5] #[.string i.name, .int .i64 i.kind, .slice E6 i.dims.length e6] n i wx)
  case first =>
    rename_i Q0 Kr haK J Kp hJ hMt
    clear haK
    clear HA0 HD0 HDL HLN HLI
    refine wp_region_held_drew (S := S2 n i A c D d E e0 w) (by kernel_rfl) ?_ (fun hH0 => ?_)
    · exact ⟨HQ0.out.a.four, HQ0.out.b.three⟩
    generalize w1.drew = V0 at *
    have HN0 := Lib.hid HQ0.out.n2
    have HI0 := Lib.hid HQ0.out.i3
    have HL0 := Lib.hid (Below.refl V0.heap.size V0)
    have HW0 := Lib.hid HQ0.out.a.all.size
    have HBX : Hid (∀ V, Below V0.heap.size V0 V → Bx w w.heap.size #[.string n.op, .slice A n.ins.length c, .string n.out, .slice D n.attrs.length d] 26 V ∧ Bx w (w.heap.size + 1) #[.string i.name, .int .i64 i.kind, .slice E i.dims.length e0] 38 V) := Lib.hid fun V h => ⟨HQ0.out.a.low h HQ0.out.a.2.1 HQ0.out.a.all.size, HQ0.out.b.low h HQ0.out.b.2.1 HQ0.out.a.all.size⟩
    have HS : Hid (∀ W, Below V0.heap.size V0 W → S2 n i A c D d E e0 w W) := Lib.hid fun W h => ⟨(HBX.out W h).1.four, (HBX.out W h).2.three⟩
    have HLN : Hid (∀ V, Below V0.heap.size V0 V → Calls Tryz.prog 11 #[.agg #[.string n.op, .slice A n.ins.length c, .string n.out, .slice D n.attrs.length d]] V fun e w' => ∃ cs, e = .returned (.agg cs.toArray) ∧ RNod V0.heap.size w' n cs ∧ Below V.heap.size V w') := Lib.hid fun V h => lnode_any V0.heap.size n _ V h.size (ek_nod.below HN0.out h)
    have HLX : Hid (∀ V g, Below V0.heap.size V0 V → DR (InfB V0.heap.size) V V.heap.size 3 (some ⟨g, 0, none⟩) [i] → Calls Tryz.prog 13 #[.slice (some ⟨g, 0, none⟩) 1 1] V fun e w' => ∃ v, e = .returned v ∧ RR InfAt w' V0.heap.size 42 3 v [i] ∧ (∀ g, v.ownBlock = some g → V.heap.size ≤ g) ∧ Below V.heap.size V w') := Lib.hid fun V g h hd => linfosX_any V0.heap.size [i] (some ⟨g, 0, none⟩) 1 V h.size (by simp) hd
    clear HQ0
    refine n_take (i := 0) (v := .agg #[.string n.op, .slice A n.ins.length c, .string n.out, .slice D n.attrs.length d]) rfl (by rfl) (by kernel_rfl) (by kernel_rfl) (by kernel_rfl) (fun _ _ _ h => h) (Or.inl ⟨by rfl, ?_⟩) (by assumption) ?_
    · (intro w' hSw; simp only [S3, S2] at hSw; go_simp)
    simp only [Act.put, List.setIfInBounds_toArray, List.set_cons_zero, List.set_cons_succ]
    refine n_take (i := 2) (v := .agg #[.string i.name, .int .i64 i.kind, .slice E i.dims.length e0]) rfl (by rfl) (by kernel_rfl) (by kernel_rfl) (by kernel_rfl) (fun _ _ _ h => h) (Or.inl ⟨by rfl, ?_⟩) (by assumption) ?_
    · (intro w' hSw; simp only [S3, S2] at hSw; go_simp)
    simp only [Act.put, List.setIfInBounds_toArray, List.set_cons_zero, List.set_cons_succ]
    refine wpAnyH_ready (rs := [1, 3, 7, 8]) (by kernel_rfl) (by simp) ?_
    refine AllReadyH.cons rfl (fun K hK => ?_) ?_
    go_simp
    go_wp2_with (go_at_call 11; (with_reducible refine (HLN.out _ HL0.out).mono ?_); rintro e V1 ⟨cs, rfl, hr, hb⟩; obtain ⟨A5, c5, D5, d5, rfl⟩ := RNod.shape hr)
    have hst := hb.mono HL0.out.size
    have HL1 := Lib.hid (HL0.out.trans hst)
    have HR1 := Lib.hid hr
    clear hb hst hr
    refine hK.out _ _ ?_ (fun hH1 => ?_)
    · exact HS.out _ HL1.out
    clear hK K hH0
    refine wpAnyH_ready (rs := [3, 7, 8]) (by kernel_rfl) (by simp) ?_
    refine AllReadyH.cons rfl (fun K hK => ?_) ?_
    have hb := (Below.refl V1.heap.size V1).alloc (Nat.le_refl _) (.cells #[.string i.name, .int .i64 i.kind, .slice E i.dims.length e0] 38)
    have hst := hb.mono HL1.out.size
    have HL2 := Lib.hid (HL1.out.trans hst)
    have HR2 := Lib.hid (er_nod.keep HR1.out hb HL1.out.size)
    have HD2 := Lib.hid (dr_litX V1 V0.heap.size i E e0 38 HL1.out.size (ek_inf.below HI0.out HL1.out))
    clear hb hst
    go_simp
    refine hK.out _ _ ?_ (fun hH2 => ?_)
    · exact HS.out _ HL2.out
    clear hK K hH1
    generalize V1.alloc (.cells #[.string i.name, .int .i64 i.kind, .slice E i.dims.length e0] 38) = V2 at *
    refine wpAnyH_ready (rs := [4, 7, 8]) (by kernel_rfl) (by simp) ?_
    refine AllReadyH.cons rfl (fun K hK => ?_) ?_
    go_simp
    go_wp2_with (go_at_call 13; (with_reducible refine (HLX.out _ _ HL2.out HD2.out).mono ?_); rintro e V3 ⟨v, rfl, hr, hgb, hb⟩; obtain ⟨g, cg, E6, e6, rfl, hgu, j0, j1, j2, hia⟩ := rr_oneX hr)
    have hst := hb.mono HL2.out.size
    have hgl := hgb g rfl
    have HL3 := Lib.hid (HL2.out.trans hst)
    have HR3 := Lib.hid (er_nod.keep HR2.out hb HL2.out.size)
    refine hK.out _ _ ?_ (fun hH3 => ?_)
    · exact HS.out _ HL3.out
    have HJ3 : Hid (J3 g i E6 e6 V3) := Lib.hid ⟨hgu, j0, j1, j2⟩
    have HI3 := Lib.hid hia
    clear hb hst hr hgb hgu hgl hia hK K hH2 hH3 j0 j1 j2
    refine wpAnyH_weaken (S' := S3 n i A c D d E e0 w g E6 e6) (fun W h => h.1) _ _ _ _ ?_
    have hH3 : S3 n i A c D d E e0 w g E6 e6 V3 := ⟨HS.out _ HL3.out, HJ3.out.2⟩
    refine n_take (i := 5) (v := .pointer (some ⟨g, 0, none⟩)) rfl (by rfl) (by kernel_rfl) (by kernel_rfl) (by kernel_rfl) (fun _ _ _ h => h) (Or.inl ⟨by rfl, ?_⟩) (by assumption) ?_
    · (intro w' hSw; simp only [S3, S2] at hSw; go_simp)
    simp only [Act.put, List.setIfInBounds_toArray, List.set_cons_zero, List.set_cons_succ]
    refine n_take (i := 6) (v := .agg #[.string i.name, .int .i64 i.kind, .slice E6 i.dims.length e6]) rfl (by rfl) (by kernel_rfl) (by kernel_rfl) (by kernel_rfl) (fun _ _ _ h => h) (Or.inl ⟨by rfl, ?_⟩) (by assumption) ?_
    · (intro w' hSw; simp only [S3, S2] at hSw; go_simp)
    simp only [Act.put, List.setIfInBounds_toArray, List.set_cons_zero, List.set_cons_succ]
    refine wpAnyH_ready (rs := [7, 8]) (by kernel_rfl) (by simp) ?_
    refine AllReadyH.cons rfl (fun K hK => ?_) ?_
    have hb := (Below.refl V3.heap.size V3).alloc (Nat.le_refl _) (.cells #[.string ⟨#[]⟩, .slice none 0 0, .string ⟨#[]⟩, .slice none 0 0] 32)
    have hst := hb.mono HL3.out.size
    have HL4 := Lib.hid (HL3.out.trans hst)
    have HR4 := Lib.hid (er_nod.keep HR3.out hb HL3.out.size)
    have HJ4 := Lib.hid (j3_below HJ3.out hb)
    have HI4 := Lib.hid (ek_inf.below HI3.out hst)
    have HF4 := Lib.hid ((HBX.out _ HL3.out).1.next #[.string ⟨#[]⟩, .slice none 0 0, .string ⟨#[]⟩, .slice none 0 0] 32)
    have hge5 := HL3.out.size
    have hn5 : V3.heap.size ≠ g := Nat.ne_of_gt HJ3.out.1
    clear hb hst
    go_simp
    refine hK.out _ _ ?_ (fun hH4 => ?_)
    · exact ⟨HS.out _ HL4.out, HJ4.out.2⟩
    clear hK K hH3
    generalize V3.alloc (.cells #[.string ⟨#[]⟩, .slice none 0 0, .string ⟨#[]⟩, .slice none 0 0] 32) = V4 at *
    refine wpAnyH_ready (rs := [8]) (by kernel_rfl) (by simp) ?_
    refine AllReadyH.cons rfl (fun K hK => ?_) ?_
    have hb := (Below.refl V4.heap.size V4).alloc (Nat.le_refl _) (.cells #[.string ⟨#[]⟩, .int .i64 0, .slice none 0 0] 42)
    have hst := hb.mono HL4.out.size
    have HL5 := Lib.hid (HL4.out.trans hst)
    have HR5 := Lib.hid (er_nod.keep HR4.out hb HL4.out.size)
    have HF5 := Lib.hid (HF4.out.below hb)
    have HJ5 := Lib.hid (j3_below HJ4.out hb)
    have HI5 := Lib.hid (ek_inf.below HI4.out hst)
    have HG5 := Lib.hid ((HBX.out _ HL4.out).1.next #[.string ⟨#[]⟩, .int .i64 0, .slice none 0 0] 42)
    have hge6 := HL4.out.size
    have hn6 : V4.heap.size ≠ g := Nat.ne_of_gt HJ4.out.1
    have hn56 : V3.heap.size ≠ V4.heap.size := Nat.ne_of_lt HF4.out.2.1
    clear hb hst
    go_simp
    refine hK.out _ _ ?_ (fun hH5 => ?_)
    · exact ⟨HS.out _ HL5.out, HJ5.out.2⟩
    clear hK K hH4
    generalize V4.alloc (.cells #[.string ⟨#[]⟩, .int .i64 0, .slice none 0 0] 42) = V5 at *
    have hw5 : w.heap.size ≤ V3.heap.size := Nat.le_trans HW0.out hge5
    have hw6 : w.heap.size ≤ V4.heap.size := Nat.le_trans HW0.out hge6
    refine wpAnyH_ready (rs := [9]) (by kernel_rfl) (by simp) ?_
    refine AllReadyH.cons rfl (fun K hK => ?_) ?_
    obtain ⟨z0, z1, z2, z3⟩ := HF5.out.four
    have zf := fun j => HF5.out.free j
    obtain ⟨V6, hV, hK1⟩ := n_name (P := Fa w V0 V3.heap.size V4.heap.size g n i A5 c5 D5 d5 E6 e6) (fin2 HL5.out HR5.out HF5.out HG5.out HJ5.out HI5.out hge5 hw5 hn56 hn5)
    have HK1 := Lib.hid hK1
    clear hK1
    go_simp
    refine hK.out _ _ ?_ (fun hH6 => ?_)
    · exact ⟨HS.out _ HK1.out.1, HK1.out.2.2.2.2.1.2⟩
    clear hK K hH5 z0 z1 z2 z3 zf hV
    refine wpAnyH_ready (rs := [10]) (by kernel_rfl) (by simp) ?_
    refine AllReadyH.cons rfl (fun K hK => ?_) ?_
    obtain ⟨z0, z1, z2⟩ := HK1.out.2.2.2.1.three
    have zf := fun j => HK1.out.2.2.2.1.free j
    obtain ⟨V7, hV, hK2⟩ := n_name (P := Fb w V3.heap.size V4.heap.size g n i A c D d E e0 A5 c5 D5 d5 E6 e6) (fin3 HS.out HBX.out HN0.out HI0.out HK1.out hge6 hw6 hn56 hn6)
    have HK2 := Lib.hid hK2
    clear hK2
    go_simp
    refine hK.out _ _ ?_ (fun hH7 => ?_)
    · exact ⟨HK2.out.1, HK2.out.2.1⟩
    clear hK K z0 z1 z2 zf hV
    refine wpAnyH_done (by kernel_rfl) ?_ _
    go_wp2_with fail
    go_meet
    exact ⟨_, _, _, _, _, _, _, _, rfl, rfl, HK2.out.2.2⟩
    exact AllReadyH.nil
    exact AllReadyH.nil
    exact AllReadyH.nil
    refine AllReadyH.cons rfl (fun K hK => ?_) ?_
    have hb := (Below.refl V3.heap.size V3).alloc (Nat.le_refl _) (.cells #[.string ⟨#[]⟩, .int .i64 0, .slice none 0 0] 42)
    have hst := hb.mono HL3.out.size
    have HL8 := Lib.hid (HL3.out.trans hst)
    have HR8 := Lib.hid (er_nod.keep HR3.out hb HL3.out.size)
    have HJ8 := Lib.hid (j3_below HJ3.out hb)
    have HI8 := Lib.hid (ek_inf.below HI3.out hst)
    have HG8 := Lib.hid ((HBX.out _ HL3.out).1.next #[.string ⟨#[]⟩, .int .i64 0, .slice none 0 0] 42)
    have hge6 := HL3.out.size
    have hn6 : V3.heap.size ≠ g := Nat.ne_of_gt HJ3.out.1
    clear hb hst
    go_simp
    refine hK.out _ _ ?_ (fun hH8 => ?_)
    · exact ⟨HS.out _ HL8.out, HJ8.out.2⟩
    clear hK K hH3
    generalize V3.alloc (.cells #[.string ⟨#[]⟩, .int .i64 0, .slice none 0 0] 42) = V8 at *
    refine wpAnyH_ready (rs := [7]) (by kernel_rfl) (by simp) ?_
    refine AllReadyH.cons rfl (fun K hK => ?_) ?_
    have hb := (Below.refl V8.heap.size V8).alloc (Nat.le_refl _) (.cells #[.string ⟨#[]⟩, .slice none 0 0, .string ⟨#[]⟩, .slice none 0 0] 32)
    have hst := hb.mono HL8.out.size
    have HL9 := Lib.hid (HL8.out.trans hst)
    have HR9 := Lib.hid (er_nod.keep HR8.out hb HL8.out.size)
    have HG9 := Lib.hid (HG8.out.below hb)
    have HJ9 := Lib.hid (j3_below HJ8.out hb)
    have HI9 := Lib.hid (ek_inf.below HI8.out hst)
    have HF9 := Lib.hid ((HBX.out _ HL8.out).1.next #[.string ⟨#[]⟩, .slice none 0 0, .string ⟨#[]⟩, .slice none 0 0] 32)
    have hge5 := HL8.out.size
    have hn5 : V8.heap.size ≠ g := Nat.ne_of_gt HJ8.out.1
    have hn56 : V8.heap.size ≠ V3.heap.size := Nat.ne_of_gt HG8.out.2.1
    clear hb hst
    go_simp
    refine hK.out _ _ ?_ (fun hH9 => ?_)
    · exact ⟨HS.out _ HL9.out, HJ9.out.2⟩
    clear hK K hH8
    generalize V8.alloc (.cells #[.string ⟨#[]⟩, .slice none 0 0, .string ⟨#[]⟩, .slice none 0 0] 32) = V9 at *
    have hw5 : w.heap.size ≤ V8.heap.size := Nat.le_trans HW0.out hge5
    have hw6 : w.heap.size ≤ V3.heap.size := Nat.le_trans HW0.out hge6
    refine wpAnyH_ready (rs := [9]) (by kernel_rfl) (by simp) ?_
    refine AllReadyH.cons rfl (fun K hK => ?_) ?_
    obtain ⟨z0, z1, z2, z3⟩ := HF9.out.four
    have zf := fun j => HF9.out.free j
    obtain ⟨V10, hV, hK1⟩ := n_name (P := Fa w V0 V8.heap.size V3.heap.size g n i A5 c5 D5 d5 E6 e6) (fin2 HL9.out HR9.out HF9.out HG9.out HJ9.out HI9.out hge5 hw5 hn56 hn5)
    have HK1 := Lib.hid hK1
    clear hK1
    go_simp
    refine hK.out _ _ ?_ (fun hH10 => ?_)
    · exact ⟨HS.out _ HK1.out.1, HK1.out.2.2.2.2.1.2⟩
    clear hK K hH9 z0 z1 z2 z3 zf hV
    refine wpAnyH_ready (rs := [10]) (by kernel_rfl) (by simp) ?_
    refine AllReadyH.cons rfl (fun K hK => ?_) ?_
    obtain ⟨z0, z1, z2⟩ := HK1.out.2.2.2.1.three
    have zf := fun j => HK1.out.2.2.2.1.free j
    obtain ⟨V11, hV, hK2⟩ := n_name (P := Fb w V8.heap.size V3.heap.size g n i A c D d E e0 A5 c5 D5 d5 E6 e6) (fin3 HS.out HBX.out HN0.out HI0.out HK1.out hge6 hw6 hn56 hn6)
    have HK2 := Lib.hid hK2
    clear hK2
    go_simp
    refine hK.out _ _ ?_ (fun hH11 => ?_)
    · exact ⟨HK2.out.1, HK2.out.2.1⟩
    clear hK K z0 z1 z2 zf hV
    refine wpAnyH_done (by kernel_rfl) ?_ _
    go_wp2_with fail
    go_meet
    exact ⟨_, _, _, _, _, _, _, _, rfl, rfl, HK2.out.2.2⟩
    exact AllReadyH.nil
    exact AllReadyH.nil
    exact AllReadyH.nil
    exact AllReadyH.nil
    refine AllReadyH.cons rfl (fun K hK => ?_) ?_
    have hb := (Below.refl V2.heap.size V2).alloc (Nat.le_refl _) (.cells #[.string ⟨#[]⟩, .slice none 0 0, .string ⟨#[]⟩, .slice none 0 0] 32)
    have hst := hb.mono HL2.out.size
    have HL12 := Lib.hid (HL2.out.trans hst)
    have HR12 := Lib.hid (er_nod.keep HR2.out hb HL2.out.size)
    have HD12 := Lib.hid ((HD2.out.below (ek_infB _) hb).more (ek_infB _) hb.size)
    have HF12 := Lib.hid ((HBX.out _ HL2.out).1.next #[.string ⟨#[]⟩, .slice none 0 0, .string ⟨#[]⟩, .slice none 0 0] 32)
    have hge5 := HL2.out.size
    clear hb hst
    go_simp
    refine hK.out _ _ ?_ (fun hH12 => ?_)
    · exact HS.out _ HL12.out
    clear hK K hH2
    generalize V2.alloc (.cells #[.string ⟨#[]⟩, .slice none 0 0, .string ⟨#[]⟩, .slice none 0 0] 32) = V12 at *
    refine wpAnyH_ready (rs := [4, 8]) (by kernel_rfl) (by simp) ?_
    refine AllReadyH.cons rfl (fun K hK => ?_) ?_
    go_simp
    go_wp2_with (go_at_call 13; (with_reducible refine (HLX.out _ _ HL12.out HD12.out).mono ?_); rintro e V13 ⟨v, rfl, hr, hgb, hb⟩; obtain ⟨g, cg, E6, e6, rfl, hgu, j0, j1, j2, hia⟩ := rr_oneX hr)
    have hst := hb.mono HL12.out.size
    have hgl := hgb g rfl
    have hn5 : V2.heap.size ≠ g := by have := HF12.out.2.1; omega
    have HL13 := Lib.hid (HL12.out.trans hst)
    have HR13 := Lib.hid (er_nod.keep HR12.out hb HL12.out.size)
    have HF13 := Lib.hid (HF12.out.below hb)
    refine hK.out _ _ ?_ (fun hH13 => ?_)
    · exact HS.out _ HL13.out
    have HJ13 : Hid (J3 g i E6 e6 V13) := Lib.hid ⟨hgu, j0, j1, j2⟩
    have HI13 := Lib.hid hia
    clear hb hst hr hgb hgu hgl hia hK K hH12 hH13 j0 j1 j2
    refine wpAnyH_weaken (S' := S3 n i A c D d E e0 w g E6 e6) (fun W h => h.1) _ _ _ _ ?_
    have hH13 : S3 n i A c D d E e0 w g E6 e6 V13 := ⟨HS.out _ HL13.out, HJ13.out.2⟩
    refine n_take (i := 5) (v := .pointer (some ⟨g, 0, none⟩)) rfl (by rfl) (by kernel_rfl) (by kernel_rfl) (by kernel_rfl) (fun _ _ _ h => h) (Or.inl ⟨by rfl, ?_⟩) (by assumption) ?_
    · (intro w' hSw; simp only [S3, S2] at hSw; go_simp)
    simp only [Act.put, List.setIfInBounds_toArray, List.set_cons_zero, List.set_cons_succ]
    refine n_take (i := 6) (v := .agg #[.string i.name, .int .i64 i.kind, .slice E6 i.dims.length e6]) rfl (by rfl) (by kernel_rfl) (by kernel_rfl) (by kernel_rfl) (fun _ _ _ h => h) (Or.inl ⟨by rfl, ?_⟩) (by assumption) ?_
    · (intro w' hSw; simp only [S3, S2] at hSw; go_simp)
    simp only [Act.put, List.setIfInBounds_toArray, List.set_cons_zero, List.set_cons_succ]
    refine wpAnyH_ready (rs := [8]) (by kernel_rfl) (by simp) ?_
    refine AllReadyH.cons rfl (fun K hK => ?_) ?_
    have hb := (Below.refl V13.heap.size V13).alloc (Nat.le_refl _) (.cells #[.string ⟨#[]⟩, .int .i64 0, .slice none 0 0] 42)
    have hst := hb.mono HL13.out.size
    have HL14 := Lib.hid (HL13.out.trans hst)
    have HR14 := Lib.hid (er_nod.keep HR13.out hb HL13.out.size)
    have HF14 := Lib.hid (HF13.out.below hb)
    have HJ14 := Lib.hid (j3_below HJ13.out hb)
    have HI14 := Lib.hid (ek_inf.below HI13.out hst)
    have HG14 := Lib.hid ((HBX.out _ HL13.out).1.next #[.string ⟨#[]⟩, .int .i64 0, .slice none 0 0] 42)
    have hge6 := HL13.out.size
    have hn6 : V13.heap.size ≠ g := Nat.ne_of_gt HJ13.out.1
    have hn56 : V2.heap.size ≠ V13.heap.size := Nat.ne_of_lt HF13.out.2.1
    clear hb hst
    go_simp
    refine hK.out _ _ ?_ (fun hH14 => ?_)
    · exact ⟨HS.out _ HL14.out, HJ14.out.2⟩
    clear hK K hH13
    generalize V13.alloc (.cells #[.string ⟨#[]⟩, .int .i64 0, .slice none 0 0] 42) = V14 at *
    have hw5 : w.heap.size ≤ V2.heap.size := Nat.le_trans HW0.out hge5
    have hw6 : w.heap.size ≤ V13.heap.size := Nat.le_trans HW0.out hge6
    refine wpAnyH_ready (rs := [9]) (by kernel_rfl) (by simp) ?_
    refine AllReadyH.cons rfl (fun K hK => ?_) ?_
    obtain ⟨z0, z1, z2, z3⟩ := HF14.out.four
    have zf := fun j => HF14.out.free j
    obtain ⟨V15, hV, hK1⟩ := n_name (P := Fa w V0 V2.heap.size V13.heap.size g n i A5 c5 D5 d5 E6 e6) (fin2 HL14.out HR14.out HF14.out HG14.out HJ14.out HI14.out hge5 hw5 hn56 hn5)
    have HK1 := Lib.hid hK1
    clear hK1
    go_simp
    refine hK.out _ _ ?_ (fun hH15 => ?_)
    · exact ⟨HS.out _ HK1.out.1, HK1.out.2.2.2.2.1.2⟩
    clear hK K hH14 z0 z1 z2 z3 zf hV
    refine wpAnyH_ready (rs := [10]) (by kernel_rfl) (by simp) ?_
    refine AllReadyH.cons rfl (fun K hK => ?_) ?_
    obtain ⟨z0, z1, z2⟩ := HK1.out.2.2.2.1.three
    have zf := fun j => HK1.out.2.2.2.1.free j
    obtain ⟨V16, hV, hK2⟩ := n_name (P := Fb w V2.heap.size V13.heap.size g n i A c D d E e0 A5 c5 D5 d5 E6 e6) (fin3 HS.out HBX.out HN0.out HI0.out HK1.out hge6 hw6 hn56 hn6)
    have HK2 := Lib.hid hK2
    clear hK2
    go_simp
    refine hK.out _ _ ?_ (fun hH16 => ?_)
    · exact ⟨HK2.out.1, HK2.out.2.1⟩
    clear hK K z0 z1 z2 zf hV
    refine wpAnyH_done (by kernel_rfl) ?_ _
    go_wp2_with fail
    go_meet
    exact ⟨_, _, _, _, _, _, _, _, rfl, rfl, HK2.out.2.2⟩
    exact AllReadyH.nil
    exact AllReadyH.nil
    exact AllReadyH.nil
    refine AllReadyH.cons rfl (fun K hK => ?_) ?_
    have hb := (Below.refl V12.heap.size V12).alloc (Nat.le_refl _) (.cells #[.string ⟨#[]⟩, .int .i64 0, .slice none 0 0] 42)
    have hst := hb.mono HL12.out.size
    have HL17 := Lib.hid (HL12.out.trans hst)
    have HR17 := Lib.hid (er_nod.keep HR12.out hb HL12.out.size)
    have HD17 := Lib.hid ((HD12.out.below (ek_infB _) hb).more (ek_infB _) hb.size)
    have HF17 := Lib.hid (HF12.out.below hb)
    have HG17 := Lib.hid ((HBX.out _ HL12.out).1.next #[.string ⟨#[]⟩, .int .i64 0, .slice none 0 0] 42)
    have hge6 := HL12.out.size
    have hn56 : V2.heap.size ≠ V12.heap.size := Nat.ne_of_lt HF12.out.2.1
    clear hb hst
    go_simp
    refine hK.out _ _ ?_ (fun hH17 => ?_)
    · exact HS.out _ HL17.out
    clear hK K hH12
    generalize V12.alloc (.cells #[.string ⟨#[]⟩, .int .i64 0, .slice none 0 0] 42) = V17 at *
    refine wpAnyH_ready (rs := [4]) (by kernel_rfl) (by simp) ?_
    refine AllReadyH.cons rfl (fun K hK => ?_) ?_
    go_simp
    go_wp2_with (go_at_call 13; (with_reducible refine (HLX.out _ _ HL17.out HD17.out).mono ?_); rintro e V18 ⟨v, rfl, hr, hgb, hb⟩; obtain ⟨g, cg, E6, e6, rfl, hgu, j0, j1, j2, hia⟩ := rr_oneX hr)
    have hst := hb.mono HL17.out.size
    have hgl := hgb g rfl
    have hn5 : V2.heap.size ≠ g := by have := HF17.out.2.1; omega
    have hn6 : V12.heap.size ≠ g := by have := HG17.out.2.1; omega
    have HL18 := Lib.hid (HL17.out.trans hst)
    have HR18 := Lib.hid (er_nod.keep HR17.out hb HL17.out.size)
    have HF18 := Lib.hid (HF17.out.below hb)
    have HG18 := Lib.hid (HG17.out.below hb)
    refine hK.out _ _ ?_ (fun hH18 => ?_)
    · exact HS.out _ HL18.out
    have HJ18 : Hid (J3 g i E6 e6 V18) := Lib.hid ⟨hgu, j0, j1, j2⟩
    have HI18 := Lib.hid hia
    clear hb hst hr hgb hgu hgl hia hK K hH17 hH18 j0 j1 j2
    refine wpAnyH_weaken (S' := S3 n i A c D d E e0 w g E6 e6) (fun W h => h.1) _ _ _ _ ?_
    have hH18 : S3 n i A c D d E e0 w g E6 e6 V18 := ⟨HS.out _ HL18.out, HJ18.out.2⟩
    refine n_take (i := 5) (v := .pointer (some ⟨g, 0, none⟩)) rfl (by rfl) (by kernel_rfl) (by kernel_rfl) (by kernel_rfl) (fun _ _ _ h => h) (Or.inl ⟨by rfl, ?_⟩) (by assumption) ?_
    · (intro w' hSw; simp only [S3, S2] at hSw; go_simp)
    simp only [Act.put, List.setIfInBounds_toArray, List.set_cons_zero, List.set_cons_succ]
    refine n_take (i := 6) (v := .agg #[.string i.name, .int .i64 i.kind, .slice E6 i.dims.length e6]) rfl (by rfl) (by kernel_rfl) (by kernel_rfl) (by kernel_rfl) (fun _ _ _ h => h) (Or.inl ⟨by rfl, ?_⟩) (by assumption) ?_
    · (intro w' hSw; simp only [S3, S2] at hSw; go_simp)
    simp only [Act.put, List.setIfInBounds_toArray, List.set_cons_zero, List.set_cons_succ]
    have hw5 : w.heap.size ≤ V2.heap.size := Nat.le_trans HW0.out hge5
    have hw6 : w.heap.size ≤ V12.heap.size := Nat.le_trans HW0.out hge6
    refine wpAnyH_ready (rs := [9]) (by kernel_rfl) (by simp) ?_
    refine AllReadyH.cons rfl (fun K hK => ?_) ?_
    obtain ⟨z0, z1, z2, z3⟩ := HF18.out.four
    have zf := fun j => HF18.out.free j
    obtain ⟨V19, hV, hK1⟩ := n_name (P := Fa w V0 V2.heap.size V12.heap.size g n i A5 c5 D5 d5 E6 e6) (fin2 HL18.out HR18.out HF18.out HG18.out HJ18.out HI18.out hge5 hw5 hn56 hn5)
    have HK1 := Lib.hid hK1
    clear hK1
    go_simp
    refine hK.out _ _ ?_ (fun hH19 => ?_)
    · exact ⟨HS.out _ HK1.out.1, HK1.out.2.2.2.2.1.2⟩
    clear hK K hH18 z0 z1 z2 z3 zf hV
    refine wpAnyH_ready (rs := [10]) (by kernel_rfl) (by simp) ?_
    refine AllReadyH.cons rfl (fun K hK => ?_) ?_
    obtain ⟨z0, z1, z2⟩ := HK1.out.2.2.2.1.three
    have zf := fun j => HK1.out.2.2.2.1.free j
    obtain ⟨V20, hV, hK2⟩ := n_name (P := Fb w V2.heap.size V12.heap.size g n i A c D d E e0 A5 c5 D5 d5 E6 e6) (fin3 HS.out HBX.out HN0.out HI0.out HK1.out hge6 hw6 hn56 hn6)
    have HK2 := Lib.hid hK2
    clear hK2
    go_simp
    refine hK.out _ _ ?_ (fun hH20 => ?_)
    · exact ⟨HK2.out.1, HK2.out.2.1⟩
    clear hK K z0 z1 z2 zf hV
    refine wpAnyH_done (by kernel_rfl) ?_ _
    go_wp2_with fail
    go_meet
    exact ⟨_, _, _, _, _, _, _, _, rfl, rfl, HK2.out.2.2⟩
    exact AllReadyH.nil
    exact AllReadyH.nil
    exact AllReadyH.nil
    exact AllReadyH.nil
    refine AllReadyH.cons rfl (fun K hK => ?_) ?_
    have hb := (Below.refl V2.heap.size V2).alloc (Nat.le_refl _) (.cells #[.string ⟨#[]⟩, .int .i64 0, .slice none 0 0] 42)
    have hst := hb.mono HL2.out.size
    have HL21 := Lib.hid (HL2.out.trans hst)
    have HR21 := Lib.hid (er_nod.keep HR2.out hb HL2.out.size)
    have HD21 := Lib.hid ((HD2.out.below (ek_infB _) hb).more (ek_infB _) hb.size)
    have HG21 := Lib.hid ((HBX.out _ HL2.out).1.next #[.string ⟨#[]⟩, .int .i64 0, .slice none 0 0] 42)
    have hge6 := HL2.out.size
    clear hb hst
    go_simp
    refine hK.out _ _ ?_ (fun hH21 => ?_)
    · exact HS.out _ HL21.out
    clear hK K hH2
    generalize V2.alloc (.cells #[.string ⟨#[]⟩, .int .i64 0, .slice none 0 0] 42) = V21 at *
    refine wpAnyH_ready (rs := [4, 7]) (by kernel_rfl) (by simp) ?_
    refine AllReadyH.cons rfl (fun K hK => ?_) ?_
    go_simp
    go_wp2_with (go_at_call 13; (with_reducible refine (HLX.out _ _ HL21.out HD21.out).mono ?_); rintro e V22 ⟨v, rfl, hr, hgb, hb⟩; obtain ⟨g, cg, E6, e6, rfl, hgu, j0, j1, j2, hia⟩ := rr_oneX hr)
    have hst := hb.mono HL21.out.size
    have hgl := hgb g rfl
    have hn6 : V2.heap.size ≠ g := by have := HG21.out.2.1; omega
    have HL22 := Lib.hid (HL21.out.trans hst)
    have HR22 := Lib.hid (er_nod.keep HR21.out hb HL21.out.size)
    have HG22 := Lib.hid (HG21.out.below hb)
    refine hK.out _ _ ?_ (fun hH22 => ?_)
    · exact HS.out _ HL22.out
    have HJ22 : Hid (J3 g i E6 e6 V22) := Lib.hid ⟨hgu, j0, j1, j2⟩
    have HI22 := Lib.hid hia
    clear hb hst hr hgb hgu hgl hia hK K hH21 hH22 j0 j1 j2
    refine wpAnyH_weaken (S' := S3 n i A c D d E e0 w g E6 e6) (fun W h => h.1) _ _ _ _ ?_
    have hH22 : S3 n i A c D d E e0 w g E6 e6 V22 := ⟨HS.out _ HL22.out, HJ22.out.2⟩
    refine n_take (i := 5) (v := .pointer (some ⟨g, 0, none⟩)) rfl (by rfl) (by kernel_rfl) (by kernel_rfl) (by kernel_rfl) (fun _ _ _ h => h) (Or.inl ⟨by rfl, ?_⟩) (by assumption) ?_
    · (intro w' hSw; simp only [S3, S2] at hSw; go_simp)
    simp only [Act.put, List.setIfInBounds_toArray, List.set_cons_zero, List.set_cons_succ]
    refine n_take (i := 6) (v := .agg #[.string i.name, .int .i64 i.kind, .slice E6 i.dims.length e6]) rfl (by rfl) (by kernel_rfl) (by kernel_rfl) (by kernel_rfl) (fun _ _ _ h => h) (Or.inl ⟨by rfl, ?_⟩) (by assumption) ?_
    · (intro w' hSw; simp only [S3, S2] at hSw; go_simp)
    simp only [Act.put, List.setIfInBounds_toArray, List.set_cons_zero, List.set_cons_succ]
    refine wpAnyH_ready (rs := [7]) (by kernel_rfl) (by simp) ?_
    refine AllReadyH.cons rfl (fun K hK => ?_) ?_
    have hb := (Below.refl V22.heap.size V22).alloc (Nat.le_refl _) (.cells #[.string ⟨#[]⟩, .slice none 0 0, .string ⟨#[]⟩, .slice none 0 0] 32)
    have hst := hb.mono HL22.out.size
    have HL23 := Lib.hid (HL22.out.trans hst)
    have HR23 := Lib.hid (er_nod.keep HR22.out hb HL22.out.size)
    have HG23 := Lib.hid (HG22.out.below hb)
    have HJ23 := Lib.hid (j3_below HJ22.out hb)
    have HI23 := Lib.hid (ek_inf.below HI22.out hst)
    have HF23 := Lib.hid ((HBX.out _ HL22.out).1.next #[.string ⟨#[]⟩, .slice none 0 0, .string ⟨#[]⟩, .slice none 0 0] 32)
    have hge5 := HL22.out.size
    have hn5 : V22.heap.size ≠ g := Nat.ne_of_gt HJ22.out.1
    have hn56 : V22.heap.size ≠ V2.heap.size := Nat.ne_of_gt HG22.out.2.1
    clear hb hst
    go_simp
    refine hK.out _ _ ?_ (fun hH23 => ?_)
    · exact ⟨HS.out _ HL23.out, HJ23.out.2⟩
    clear hK K hH22
    generalize V22.alloc (.cells #[.string ⟨#[]⟩, .slice none 0 0, .string ⟨#[]⟩, .slice none 0 0] 32) = V23 at *
    have hw5 : w.heap.size ≤ V22.heap.size := Nat.le_trans HW0.out hge5
    have hw6 : w.heap.size ≤ V2.heap.size := Nat.le_trans HW0.out hge6
    refine wpAnyH_ready (rs := [9]) (by kernel_rfl) (by simp) ?_
    refine AllReadyH.cons rfl (fun K hK => ?_) ?_
    obtain ⟨z0, z1, z2, z3⟩ := HF23.out.four
    have zf := fun j => HF23.out.free j
    obtain ⟨V24, hV, hK1⟩ := n_name (P := Fa w V0 V22.heap.size V2.heap.size g n i A5 c5 D5 d5 E6 e6) (fin2 HL23.out HR23.out HF23.out HG23.out HJ23.out HI23.out hge5 hw5 hn56 hn5)
    have HK1 := Lib.hid hK1
    clear hK1
    go_simp
    refine hK.out _ _ ?_ (fun hH24 => ?_)
    · exact ⟨HS.out _ HK1.out.1, HK1.out.2.2.2.2.1.2⟩
    clear hK K hH23 z0 z1 z2 z3 zf hV
    refine wpAnyH_ready (rs := [10]) (by kernel_rfl) (by simp) ?_
    refine AllReadyH.cons rfl (fun K hK => ?_) ?_
    obtain ⟨z0, z1, z2⟩ := HK1.out.2.2.2.1.three
    have zf := fun j => HK1.out.2.2.2.1.free j
    obtain ⟨V25, hV, hK2⟩ := n_name (P := Fb w V22.heap.size V2.heap.size g n i A c D d E e0 A5 c5 D5 d5 E6 e6) (fin3 HS.out HBX.out HN0.out HI0.out HK1.out hge6 hw6 hn56 hn6)
    have HK2 := Lib.hid hK2
    clear hK2
    go_simp
    refine hK.out _ _ ?_ (fun hH25 => ?_)
    · exact ⟨HK2.out.1, HK2.out.2.1⟩
    clear hK K z0 z1 z2 zf hV
    refine wpAnyH_done (by kernel_rfl) ?_ _
    go_wp2_with fail
    go_meet
    exact ⟨_, _, _, _, _, _, _, _, rfl, rfl, HK2.out.2.2⟩
    exact AllReadyH.nil
    exact AllReadyH.nil
    exact AllReadyH.nil
    refine AllReadyH.cons rfl (fun K hK => ?_) ?_
    have hb := (Below.refl V21.heap.size V21).alloc (Nat.le_refl _) (.cells #[.string ⟨#[]⟩, .slice none 0 0, .string ⟨#[]⟩, .slice none 0 0] 32)
    have hst := hb.mono HL21.out.size
    have HL26 := Lib.hid (HL21.out.trans hst)
    have HR26 := Lib.hid (er_nod.keep HR21.out hb HL21.out.size)
    have HD26 := Lib.hid ((HD21.out.below (ek_infB _) hb).more (ek_infB _) hb.size)
    have HG26 := Lib.hid (HG21.out.below hb)
    have HF26 := Lib.hid ((HBX.out _ HL21.out).1.next #[.string ⟨#[]⟩, .slice none 0 0, .string ⟨#[]⟩, .slice none 0 0] 32)
    have hge5 := HL21.out.size
    have hn56 : V21.heap.size ≠ V2.heap.size := Nat.ne_of_gt HG21.out.2.1
    clear hb hst
    go_simp
    refine hK.out _ _ ?_ (fun hH26 => ?_)
    · exact HS.out _ HL26.out
    clear hK K hH21
    generalize V21.alloc (.cells #[.string ⟨#[]⟩, .slice none 0 0, .string ⟨#[]⟩, .slice none 0 0] 32) = V26 at *
    refine wpAnyH_ready (rs := [4]) (by kernel_rfl) (by simp) ?_
    refine AllReadyH.cons rfl (fun K hK => ?_) ?_
    go_simp
    go_wp2_with (go_at_call 13; (with_reducible refine (HLX.out _ _ HL26.out HD26.out).mono ?_); rintro e V27 ⟨v, rfl, hr, hgb, hb⟩; obtain ⟨g, cg, E6, e6, rfl, hgu, j0, j1, j2, hia⟩ := rr_oneX hr)
    have hst := hb.mono HL26.out.size
    have hgl := hgb g rfl
    have hn5 : V21.heap.size ≠ g := by have := HF26.out.2.1; omega
    have hn6 : V2.heap.size ≠ g := by have := HG26.out.2.1; omega
    have HL27 := Lib.hid (HL26.out.trans hst)
    have HR27 := Lib.hid (er_nod.keep HR26.out hb HL26.out.size)
    have HF27 := Lib.hid (HF26.out.below hb)
    have HG27 := Lib.hid (HG26.out.below hb)
    refine hK.out _ _ ?_ (fun hH27 => ?_)
    · exact HS.out _ HL27.out
    have HJ27 : Hid (J3 g i E6 e6 V27) := Lib.hid ⟨hgu, j0, j1, j2⟩
    have HI27 := Lib.hid hia
    clear hb hst hr hgb hgu hgl hia hK K hH26 hH27 j0 j1 j2
    refine wpAnyH_weaken (S' := S3 n i A c D d E e0 w g E6 e6) (fun W h => h.1) _ _ _ _ ?_
    have hH27 : S3 n i A c D d E e0 w g E6 e6 V27 := ⟨HS.out _ HL27.out, HJ27.out.2⟩
    refine n_take (i := 5) (v := .pointer (some ⟨g, 0, none⟩)) rfl (by rfl) (by kernel_rfl) (by kernel_rfl) (by kernel_rfl) (fun _ _ _ h => h) (Or.inl ⟨by rfl, ?_⟩) (by assumption) ?_
    · (intro w' hSw; simp only [S3, S2] at hSw; go_simp)
    simp only [Act.put, List.setIfInBounds_toArray, List.set_cons_zero, List.set_cons_succ]
    refine n_take (i := 6) (v := .agg #[.string i.name, .int .i64 i.kind, .slice E6 i.dims.length e6]) rfl (by rfl) (by kernel_rfl) (by kernel_rfl) (by kernel_rfl) (fun _ _ _ h => h) (Or.inl ⟨by rfl, ?_⟩) (by assumption) ?_
    · (intro w' hSw; simp only [S3, S2] at hSw; go_simp)
    simp only [Act.put, List.setIfInBounds_toArray, List.set_cons_zero, List.set_cons_succ]
    have hw5 : w.heap.size ≤ V21.heap.size := Nat.le_trans HW0.out hge5
    have hw6 : w.heap.size ≤ V2.heap.size := Nat.le_trans HW0.out hge6
    refine wpAnyH_ready (rs := [9]) (by kernel_rfl) (by simp) ?_
    refine AllReadyH.cons rfl (fun K hK => ?_) ?_
    obtain ⟨z0, z1, z2, z3⟩ := HF27.out.four
    have zf := fun j => HF27.out.free j
    obtain ⟨V28, hV, hK1⟩ := n_name (P := Fa w V0 V21.heap.size V2.heap.size g n i A5 c5 D5 d5 E6 e6) (fin2 HL27.out HR27.out HF27.out HG27.out HJ27.out HI27.out hge5 hw5 hn56 hn5)
    have HK1 := Lib.hid hK1
    clear hK1
    go_simp
    refine hK.out _ _ ?_ (fun hH28 => ?_)
    · exact ⟨HS.out _ HK1.out.1, HK1.out.2.2.2.2.1.2⟩
    clear hK K hH27 z0 z1 z2 z3 zf hV
    refine wpAnyH_ready (rs := [10]) (by kernel_rfl) (by simp) ?_
    refine AllReadyH.cons rfl (fun K hK => ?_) ?_
    obtain ⟨z0, z1, z2⟩ := HK1.out.2.2.2.1.three
    have zf := fun j => HK1.out.2.2.2.1.free j
    obtain ⟨V29, hV, hK2⟩ := n_name (P := Fb w V21.heap.size V2.heap.size g n i A c D d E e0 A5 c5 D5 d5 E6 e6) (fin3 HS.out HBX.out HN0.out HI0.out HK1.out hge6 hw6 hn56 hn6)
    have HK2 := Lib.hid hK2
    clear hK2
    go_simp
    refine hK.out _ _ ?_ (fun hH29 => ?_)
    · exact ⟨HK2.out.1, HK2.out.2.1⟩
    clear hK K z0 z1 z2 zf hV
    refine wpAnyH_done (by kernel_rfl) ?_ _
    go_wp2_with fail
    go_meet
    exact ⟨_, _, _, _, _, _, _, _, rfl, rfl, HK2.out.2.2⟩
    exact AllReadyH.nil
    exact AllReadyH.nil
    exact AllReadyH.nil
    exact AllReadyH.nil
    exact AllReadyH.nil
    refine AllReadyH.cons rfl (fun K hK => ?_) ?_
    have hb := (Below.refl V1.heap.size V1).alloc (Nat.le_refl _) (.cells #[.string ⟨#[]⟩, .slice none 0 0, .string ⟨#[]⟩, .slice none 0 0] 32)
    have hst := hb.mono HL1.out.size
    have HL30 := Lib.hid (HL1.out.trans hst)
    have HR30 := Lib.hid (er_nod.keep HR1.out hb HL1.out.size)
    have HF30 := Lib.hid ((HBX.out _ HL1.out).1.next #[.string ⟨#[]⟩, .slice none 0 0, .string ⟨#[]⟩, .slice none 0 0] 32)
    have hge5 := HL1.out.size
    clear hb hst
    go_simp
    refine hK.out _ _ ?_ (fun hH30 => ?_)
    · exact HS.out _ HL30.out
    clear hK K hH1
    generalize V1.alloc (.cells #[.string ⟨#[]⟩, .slice none 0 0, .string ⟨#[]⟩, .slice none 0 0] 32) = V30 at *
    refine wpAnyH_ready (rs := [3, 8]) (by kernel_rfl) (by simp) ?_
    refine AllReadyH.cons rfl (fun K hK => ?_) ?_
    have hb := (Below.refl V30.heap.size V30).alloc (Nat.le_refl _) (.cells #[.string i.name, .int .i64 i.kind, .slice E i.dims.length e0] 38)
    have hst := hb.mono HL30.out.size
    have HL31 := Lib.hid (HL30.out.trans hst)
    have HR31 := Lib.hid (er_nod.keep HR30.out hb HL30.out.size)
    have HF31 := Lib.hid (HF30.out.below hb)
    have HD31 := Lib.hid (dr_litX V30 V0.heap.size i E e0 38 HL30.out.size (ek_inf.below HI0.out HL30.out))
    clear hb hst
    go_simp
    refine hK.out _ _ ?_ (fun hH31 => ?_)
    · exact HS.out _ HL31.out
    clear hK K hH30
    generalize V30.alloc (.cells #[.string i.name, .int .i64 i.kind, .slice E i.dims.length e0] 38) = V31 at *
    refine wpAnyH_ready (rs := [4, 8]) (by kernel_rfl) (by simp) ?_
    refine AllReadyH.cons rfl (fun K hK => ?_) ?_
    go_simp
    go_wp2_with (go_at_call 13; (with_reducible refine (HLX.out _ _ HL31.out HD31.out).mono ?_); rintro e V32 ⟨v, rfl, hr, hgb, hb⟩; obtain ⟨g, cg, E6, e6, rfl, hgu, j0, j1, j2, hia⟩ := rr_oneX hr)
    have hst := hb.mono HL31.out.size
    have hgl := hgb g rfl
    have hn5 : V1.heap.size ≠ g := by have := HF31.out.2.1; omega
    have HL32 := Lib.hid (HL31.out.trans hst)
    have HR32 := Lib.hid (er_nod.keep HR31.out hb HL31.out.size)
    have HF32 := Lib.hid (HF31.out.below hb)
    refine hK.out _ _ ?_ (fun hH32 => ?_)
    · exact HS.out _ HL32.out
    have HJ32 : Hid (J3 g i E6 e6 V32) := Lib.hid ⟨hgu, j0, j1, j2⟩
    have HI32 := Lib.hid hia
    clear hb hst hr hgb hgu hgl hia hK K hH31 hH32 j0 j1 j2
    refine wpAnyH_weaken (S' := S3 n i A c D d E e0 w g E6 e6) (fun W h => h.1) _ _ _ _ ?_
    have hH32 : S3 n i A c D d E e0 w g E6 e6 V32 := ⟨HS.out _ HL32.out, HJ32.out.2⟩
    refine n_take (i := 5) (v := .pointer (some ⟨g, 0, none⟩)) rfl (by rfl) (by kernel_rfl) (by kernel_rfl) (by kernel_rfl) (fun _ _ _ h => h) (Or.inl ⟨by rfl, ?_⟩) (by assumption) ?_
    · (intro w' hSw; simp only [S3, S2] at hSw; go_simp)
    simp only [Act.put, List.setIfInBounds_toArray, List.set_cons_zero, List.set_cons_succ]
    refine n_take (i := 6) (v := .agg #[.string i.name, .int .i64 i.kind, .slice E6 i.dims.length e6]) rfl (by rfl) (by kernel_rfl) (by kernel_rfl) (by kernel_rfl) (fun _ _ _ h => h) (Or.inl ⟨by rfl, ?_⟩) (by assumption) ?_
    · (intro w' hSw; simp only [S3, S2] at hSw; go_simp)
    simp only [Act.put, List.setIfInBounds_toArray, List.set_cons_zero, List.set_cons_succ]
    refine wpAnyH_ready (rs := [8]) (by kernel_rfl) (by simp) ?_
    refine AllReadyH.cons rfl (fun K hK => ?_) ?_
    have hb := (Below.refl V32.heap.size V32).alloc (Nat.le_refl _) (.cells #[.string ⟨#[]⟩, .int .i64 0, .slice none 0 0] 42)
    have hst := hb.mono HL32.out.size
    have HL33 := Lib.hid (HL32.out.trans hst)
    have HR33 := Lib.hid (er_nod.keep HR32.out hb HL32.out.size)
    have HF33 := Lib.hid (HF32.out.below hb)
    have HJ33 := Lib.hid (j3_below HJ32.out hb)
    have HI33 := Lib.hid (ek_inf.below HI32.out hst)
    have HG33 := Lib.hid ((HBX.out _ HL32.out).1.next #[.string ⟨#[]⟩, .int .i64 0, .slice none 0 0] 42)
    have hge6 := HL32.out.size
    have hn6 : V32.heap.size ≠ g := Nat.ne_of_gt HJ32.out.1
    have hn56 : V1.heap.size ≠ V32.heap.size := Nat.ne_of_lt HF32.out.2.1
    clear hb hst
    go_simp
    refine hK.out _ _ ?_ (fun hH33 => ?_)
    · exact ⟨HS.out _ HL33.out, HJ33.out.2⟩
    clear hK K hH32
    generalize V32.alloc (.cells #[.string ⟨#[]⟩, .int .i64 0, .slice none 0 0] 42) = V33 at *
    have hw5 : w.heap.size ≤ V1.heap.size := Nat.le_trans HW0.out hge5
    have hw6 : w.heap.size ≤ V32.heap.size := Nat.le_trans HW0.out hge6
    refine wpAnyH_ready (rs := [9]) (by kernel_rfl) (by simp) ?_
    refine AllReadyH.cons rfl (fun K hK => ?_) ?_
    obtain ⟨z0, z1, z2, z3⟩ := HF33.out.four
    have zf := fun j => HF33.out.free j
    obtain ⟨V34, hV, hK1⟩ := n_name (P := Fa w V0 V1.heap.size V32.heap.size g n i A5 c5 D5 d5 E6 e6) (fin2 HL33.out HR33.out HF33.out HG33.out HJ33.out HI33.out hge5 hw5 hn56 hn5)
    have HK1 := Lib.hid hK1
    clear hK1
    go_simp
    refine hK.out _ _ ?_ (fun hH34 => ?_)
    · exact ⟨HS.out _ HK1.out.1, HK1.out.2.2.2.2.1.2⟩
    clear hK K hH33 z0 z1 z2 z3 zf hV
    refine wpAnyH_ready (rs := [10]) (by kernel_rfl) (by simp) ?_
    refine AllReadyH.cons rfl (fun K hK => ?_) ?_
    obtain ⟨z0, z1, z2⟩ := HK1.out.2.2.2.1.three
    have zf := fun j => HK1.out.2.2.2.1.free j
    obtain ⟨V35, hV, hK2⟩ := n_name (P := Fb w V1.heap.size V32.heap.size g n i A c D d E e0 A5 c5 D5 d5 E6 e6) (fin3 HS.out HBX.out HN0.out HI0.out HK1.out hge6 hw6 hn56 hn6)
    have HK2 := Lib.hid hK2
    clear hK2
    go_simp
    refine hK.out _ _ ?_ (fun hH35 => ?_)
    · exact ⟨HK2.out.1, HK2.out.2.1⟩
    clear hK K z0 z1 z2 zf hV
    refine wpAnyH_done (by kernel_rfl) ?_ _
    go_wp2_with fail
    go_meet
    exact ⟨_, _, _, _, _, _, _, _, rfl, rfl, HK2.out.2.2⟩
    exact AllReadyH.nil
    exact AllReadyH.nil
    exact AllReadyH.nil
    refine AllReadyH.cons rfl (fun K hK => ?_) ?_
    have hb := (Below.refl V31.heap.size V31).alloc (Nat.le_refl _) (.cells #[.string ⟨#[]⟩, .int .i64 0, .slice none 0 0] 42)
    have hst := hb.mono HL31.out.size
    have HL36 := Lib.hid (HL31.out.trans hst)
    have HR36 := Lib.hid (er_nod.keep HR31.out hb HL31.out.size)
    have HD36 := Lib.hid ((HD31.out.below (ek_infB _) hb).more (ek_infB _) hb.size)
    have HF36 := Lib.hid (HF31.out.below hb)
    have HG36 := Lib.hid ((HBX.out _ HL31.out).1.next #[.string ⟨#[]⟩, .int .i64 0, .slice none 0 0] 42)
    have hge6 := HL31.out.size
    have hn56 : V1.heap.size ≠ V31.heap.size := Nat.ne_of_lt HF31.out.2.1
    clear hb hst
    go_simp
    refine hK.out _ _ ?_ (fun hH36 => ?_)
    · exact HS.out _ HL36.out
    clear hK K hH31
    generalize V31.alloc (.cells #[.string ⟨#[]⟩, .int .i64 0, .slice none 0 0] 42) = V36 at *
    refine wpAnyH_ready (rs := [4]) (by kernel_rfl) (by simp) ?_
    refine AllReadyH.cons rfl (fun K hK => ?_) ?_
    go_simp
    go_wp2_with (go_at_call 13; (with_reducible refine (HLX.out _ _ HL36.out HD36.out).mono ?_); rintro e V37 ⟨v, rfl, hr, hgb, hb⟩; obtain ⟨g, cg, E6, e6, rfl, hgu, j0, j1, j2, hia⟩ := rr_oneX hr)
    have hst := hb.mono HL36.out.size
    have hgl := hgb g rfl
    have hn5 : V1.heap.size ≠ g := by have := HF36.out.2.1; omega
    have hn6 : V31.heap.size ≠ g := by have := HG36.out.2.1; omega
    have HL37 := Lib.hid (HL36.out.trans hst)
    have HR37 := Lib.hid (er_nod.keep HR36.out hb HL36.out.size)
    have HF37 := Lib.hid (HF36.out.below hb)
    have HG37 := Lib.hid (HG36.out.below hb)
    refine hK.out _ _ ?_ (fun hH37 => ?_)
    · exact HS.out _ HL37.out
    have HJ37 : Hid (J3 g i E6 e6 V37) := Lib.hid ⟨hgu, j0, j1, j2⟩
    have HI37 := Lib.hid hia
    clear hb hst hr hgb hgu hgl hia hK K hH36 hH37 j0 j1 j2
    refine wpAnyH_weaken (S' := S3 n i A c D d E e0 w g E6 e6) (fun W h => h.1) _ _ _ _ ?_
    have hH37 : S3 n i A c D d E e0 w g E6 e6 V37 := ⟨HS.out _ HL37.out, HJ37.out.2⟩
    refine n_take (i := 5) (v := .pointer (some ⟨g, 0, none⟩)) rfl (by rfl) (by kernel_rfl) (by kernel_rfl) (by kernel_rfl) (fun _ _ _ h => h) (Or.inl ⟨by rfl, ?_⟩) (by assumption) ?_
    · (intro w' hSw; simp only [S3, S2] at hSw; go_simp)
    simp only [Act.put, List.setIfInBounds_toArray, List.set_cons_zero, List.set_cons_succ]
    refine n_take (i := 6) (v := .agg #[.string i.name, .int .i64 i.kind, .slice E6 i.dims.length e6]) rfl (by rfl) (by kernel_rfl) (by kernel_rfl) (by kernel_rfl) (fun _ _ _ h => h) (Or.inl ⟨by rfl, ?_⟩) (by assumption) ?_
    · (intro w' hSw; simp only [S3, S2] at hSw; go_simp)
    simp only [Act.put, List.setIfInBounds_toArray, List.set_cons_zero, List.set_cons_succ]
    have hw5 : w.heap.size ≤ V1.heap.size := Nat.le_trans HW0.out hge5
    have hw6 : w.heap.size ≤ V31.heap.size := Nat.le_trans HW0.out hge6
    refine wpAnyH_ready (rs := [9]) (by kernel_rfl) (by simp) ?_
    refine AllReadyH.cons rfl (fun K hK => ?_) ?_
    obtain ⟨z0, z1, z2, z3⟩ := HF37.out.four
    have zf := fun j => HF37.out.free j
    obtain ⟨V38, hV, hK1⟩ := n_name (P := Fa w V0 V1.heap.size V31.heap.size g n i A5 c5 D5 d5 E6 e6) (fin2 HL37.out HR37.out HF37.out HG37.out HJ37.out HI37.out hge5 hw5 hn56 hn5)
    have HK1 := Lib.hid hK1
    clear hK1
    go_simp
    refine hK.out _ _ ?_ (fun hH38 => ?_)
    · exact ⟨HS.out _ HK1.out.1, HK1.out.2.2.2.2.1.2⟩
    clear hK K hH37 z0 z1 z2 z3 zf hV
    refine wpAnyH_ready (rs := [10]) (by kernel_rfl) (by simp) ?_
    refine AllReadyH.cons rfl (fun K hK => ?_) ?_
    obtain ⟨z0, z1, z2⟩ := HK1.out.2.2.2.1.three
    have zf := fun j => HK1.out.2.2.2.1.free j
    obtain ⟨V39, hV, hK2⟩ := n_name (P := Fb w V1.heap.size V31.heap.size g n i A c D d E e0 A5 c5 D5 d5 E6 e6) (fin3 HS.out HBX.out HN0.out HI0.out HK1.out hge6 hw6 hn56 hn6)
    have HK2 := Lib.hid hK2
    clear hK2
    go_simp
    refine hK.out _ _ ?_ (fun hH39 => ?_)
    · exact ⟨HK2.out.1, HK2.out.2.1⟩
    clear hK K z0 z1 z2 zf hV
    refine wpAnyH_done (by kernel_rfl) ?_ _
    go_wp2_with fail
    go_meet
    exact ⟨_, _, _, _, _, _, _, _, rfl, rfl, HK2.out.2.2⟩
    exact AllReadyH.nil
    exact AllReadyH.nil
    exact AllReadyH.nil
    exact AllReadyH.nil
    refine AllReadyH.cons rfl (fun K hK => ?_) ?_
    have hb := (Below.refl V30.heap.size V30).alloc (Nat.le_refl _) (.cells #[.string ⟨#[]⟩, .int .i64 0, .slice none 0 0] 42)
    have hst := hb.mono HL30.out.size
    have HL40 := Lib.hid (HL30.out.trans hst)
    have HR40 := Lib.hid (er_nod.keep HR30.out hb HL30.out.size)
    have HF40 := Lib.hid (HF30.out.below hb)
    have HG40 := Lib.hid ((HBX.out _ HL30.out).1.next #[.string ⟨#[]⟩, .int .i64 0, .slice none 0 0] 42)
    have hge6 := HL30.out.size
    have hn56 : V1.heap.size ≠ V30.heap.size := Nat.ne_of_lt HF30.out.2.1
    clear hb hst
    go_simp
    refine hK.out _ _ ?_ (fun hH40 => ?_)
    · exact HS.out _ HL40.out
    clear hK K hH30
    generalize V30.alloc (.cells #[.string ⟨#[]⟩, .int .i64 0, .slice none 0 0] 42) = V40 at *
    refine wpAnyH_ready (rs := [3]) (by kernel_rfl) (by simp) ?_
    refine AllReadyH.cons rfl (fun K hK => ?_) ?_
    have hb := (Below.refl V40.heap.size V40).alloc (Nat.le_refl _) (.cells #[.string i.name, .int .i64 i.kind, .slice E i.dims.length e0] 38)
    have hst := hb.mono HL40.out.size
    have HL41 := Lib.hid (HL40.out.trans hst)
    have HR41 := Lib.hid (er_nod.keep HR40.out hb HL40.out.size)
    have HF41 := Lib.hid (HF40.out.below hb)
    have HG41 := Lib.hid (HG40.out.below hb)
    have HD41 := Lib.hid (dr_litX V40 V0.heap.size i E e0 38 HL40.out.size (ek_inf.below HI0.out HL40.out))
    clear hb hst
    go_simp
    refine hK.out _ _ ?_ (fun hH41 => ?_)
    · exact HS.out _ HL41.out
    clear hK K hH40
    generalize V40.alloc (.cells #[.string i.name, .int .i64 i.kind, .slice E i.dims.length e0] 38) = V41 at *
    refine wpAnyH_ready (rs := [4]) (by kernel_rfl) (by simp) ?_
    refine AllReadyH.cons rfl (fun K hK => ?_) ?_
    go_simp
    go_wp2_with (go_at_call 13; (with_reducible refine (HLX.out _ _ HL41.out HD41.out).mono ?_); rintro e V42 ⟨v, rfl, hr, hgb, hb⟩; obtain ⟨g, cg, E6, e6, rfl, hgu, j0, j1, j2, hia⟩ := rr_oneX hr)
    have hst := hb.mono HL41.out.size
    have hgl := hgb g rfl
    have hn5 : V1.heap.size ≠ g := by have := HF41.out.2.1; omega
    have hn6 : V30.heap.size ≠ g := by have := HG41.out.2.1; omega
    have HL42 := Lib.hid (HL41.out.trans hst)
    have HR42 := Lib.hid (er_nod.keep HR41.out hb HL41.out.size)
    have HF42 := Lib.hid (HF41.out.below hb)
    have HG42 := Lib.hid (HG41.out.below hb)
    refine hK.out _ _ ?_ (fun hH42 => ?_)
    · exact HS.out _ HL42.out
    have HJ42 : Hid (J3 g i E6 e6 V42) := Lib.hid ⟨hgu, j0, j1, j2⟩
    have HI42 := Lib.hid hia
    clear hb hst hr hgb hgu hgl hia hK K hH41 hH42 j0 j1 j2
    refine wpAnyH_weaken (S' := S3 n i A c D d E e0 w g E6 e6) (fun W h => h.1) _ _ _ _ ?_
    have hH42 : S3 n i A c D d E e0 w g E6 e6 V42 := ⟨HS.out _ HL42.out, HJ42.out.2⟩
    refine n_take (i := 5) (v := .pointer (some ⟨g, 0, none⟩)) rfl (by rfl) (by kernel_rfl) (by kernel_rfl) (by kernel_rfl) (fun _ _ _ h => h) (Or.inl ⟨by rfl, ?_⟩) (by assumption) ?_
    · (intro w' hSw; simp only [S3, S2] at hSw; go_simp)
    simp only [Act.put, List.setIfInBounds_toArray, List.set_cons_zero, List.set_cons_succ]
    refine n_take (i := 6) (v := .agg #[.string i.name, .int .i64 i.kind, .slice E6 i.dims.length e6]) rfl (by rfl) (by kernel_rfl) (by kernel_rfl) (by kernel_rfl) (fun _ _ _ h => h) (Or.inl ⟨by rfl, ?_⟩) (by assumption) ?_
    · (intro w' hSw; simp only [S3, S2] at hSw; go_simp)
    simp only [Act.put, List.setIfInBounds_toArray, List.set_cons_zero, List.set_cons_succ]
    have hw5 : w.heap.size ≤ V1.heap.size := Nat.le_trans HW0.out hge5
    have hw6 : w.heap.size ≤ V30.heap.size := Nat.le_trans HW0.out hge6
    refine wpAnyH_ready (rs := [9]) (by kernel_rfl) (by simp) ?_
    refine AllReadyH.cons rfl (fun K hK => ?_) ?_
    obtain ⟨z0, z1, z2, z3⟩ := HF42.out.four
    have zf := fun j => HF42.out.free j
    obtain ⟨V43, hV, hK1⟩ := n_name (P := Fa w V0 V1.heap.size V30.heap.size g n i A5 c5 D5 d5 E6 e6) (fin2 HL42.out HR42.out HF42.out HG42.out HJ42.out HI42.out hge5 hw5 hn56 hn5)
    have HK1 := Lib.hid hK1
    clear hK1
    go_simp
    refine hK.out _ _ ?_ (fun hH43 => ?_)
    · exact ⟨HS.out _ HK1.out.1, HK1.out.2.2.2.2.1.2⟩
    clear hK K hH42 z0 z1 z2 z3 zf hV
    refine wpAnyH_ready (rs := [10]) (by kernel_rfl) (by simp) ?_
    refine AllReadyH.cons rfl (fun K hK => ?_) ?_
    obtain ⟨z0, z1, z2⟩ := HK1.out.2.2.2.1.three
    have zf := fun j => HK1.out.2.2.2.1.free j
    obtain ⟨V44, hV, hK2⟩ := n_name (P := Fb w V1.heap.size V30.heap.size g n i A c D d E e0 A5 c5 D5 d5 E6 e6) (fin3 HS.out HBX.out HN0.out HI0.out HK1.out hge6 hw6 hn56 hn6)
    have HK2 := Lib.hid hK2
    clear hK2
    go_simp
    refine hK.out _ _ ?_ (fun hH44 => ?_)
    · exact ⟨HK2.out.1, HK2.out.2.1⟩
    clear hK K z0 z1 z2 zf hV
    refine wpAnyH_done (by kernel_rfl) ?_ _
    go_wp2_with fail
    go_meet
    exact ⟨_, _, _, _, _, _, _, _, rfl, rfl, HK2.out.2.2⟩
    exact AllReadyH.nil
    exact AllReadyH.nil
    exact AllReadyH.nil
    exact AllReadyH.nil
    exact AllReadyH.nil
    refine AllReadyH.cons rfl (fun K hK => ?_) ?_
    have hb := (Below.refl V1.heap.size V1).alloc (Nat.le_refl _) (.cells #[.string ⟨#[]⟩, .int .i64 0, .slice none 0 0] 42)
    have hst := hb.mono HL1.out.size
    have HL45 := Lib.hid (HL1.out.trans hst)
    have HR45 := Lib.hid (er_nod.keep HR1.out hb HL1.out.size)
    have HG45 := Lib.hid ((HBX.out _ HL1.out).1.next #[.string ⟨#[]⟩, .int .i64 0, .slice none 0 0] 42)
    have hge6 := HL1.out.size
    clear hb hst
    go_simp
    refine hK.out _ _ ?_ (fun hH45 => ?_)
    · exact HS.out _ HL45.out
    clear hK K hH1
    generalize V1.alloc (.cells #[.string ⟨#[]⟩, .int .i64 0, .slice none 0 0] 42) = V45 at *
    refine wpAnyH_ready (rs := [3, 7]) (by kernel_rfl) (by simp) ?_
    refine AllReadyH.cons rfl (fun K hK => ?_) ?_
    have hb := (Below.refl V45.heap.size V45).alloc (Nat.le_refl _) (.cells #[.string i.name, .int .i64 i.kind, .slice E i.dims.length e0] 38)
    have hst := hb.mono HL45.out.size
    have HL46 := Lib.hid (HL45.out.trans hst)
    have HR46 := Lib.hid (er_nod.keep HR45.out hb HL45.out.size)
    have HG46 := Lib.hid (HG45.out.below hb)
    have HD46 := Lib.hid (dr_litX V45 V0.heap.size i E e0 38 HL45.out.size (ek_inf.below HI0.out HL45.out))
    clear hb hst
    go_simp
    refine hK.out _ _ ?_ (fun hH46 => ?_)
    · exact HS.out _ HL46.out
    clear hK K hH45
    generalize V45.alloc (.cells #[.string i.name, .int .i64 i.kind, .slice E i.dims.length e0] 38) = V46 at *
    refine wpAnyH_ready (rs := [4, 7]) (by kernel_rfl) (by simp) ?_
    refine AllReadyH.cons rfl (fun K hK => ?_) ?_
    go_simp
    go_wp2_with (go_at_call 13; (with_reducible refine (HLX.out _ _ HL46.out HD46.out).mono ?_); rintro e V47 ⟨v, rfl, hr, hgb, hb⟩; obtain ⟨g, cg, E6, e6, rfl, hgu, j0, j1, j2, hia⟩ := rr_oneX hr)
    have hst := hb.mono HL46.out.size
    have hgl := hgb g rfl
    have hn6 : V1.heap.size ≠ g := by have := HG46.out.2.1; omega
    have HL47 := Lib.hid (HL46.out.trans hst)
    have HR47 := Lib.hid (er_nod.keep HR46.out hb HL46.out.size)
    have HG47 := Lib.hid (HG46.out.below hb)
    refine hK.out _ _ ?_ (fun hH47 => ?_)
    · exact HS.out _ HL47.out
    have HJ47 : Hid (J3 g i E6 e6 V47) := Lib.hid ⟨hgu, j0, j1, j2⟩
    have HI47 := Lib.hid hia
    clear hb hst hr hgb hgu hgl hia hK K hH46 hH47 j0 j1 j2
    refine wpAnyH_weaken (S' := S3 n i A c D d E e0 w g E6 e6) (fun W h => h.1) _ _ _ _ ?_
    have hH47 : S3 n i A c D d E e0 w g E6 e6 V47 := ⟨HS.out _ HL47.out, HJ47.out.2⟩
    refine n_take (i := 5) (v := .pointer (some ⟨g, 0, none⟩)) rfl (by rfl) (by kernel_rfl) (by kernel_rfl) (by kernel_rfl) (fun _ _ _ h => h) (Or.inl ⟨by rfl, ?_⟩) (by assumption) ?_
    · (intro w' hSw; simp only [S3, S2] at hSw; go_simp)
    simp only [Act.put, List.setIfInBounds_toArray, List.set_cons_zero, List.set_cons_succ]
    refine n_take (i := 6) (v := .agg #[.string i.name, .int .i64 i.kind, .slice E6 i.dims.length e6]) rfl (by rfl) (by kernel_rfl) (by kernel_rfl) (by kernel_rfl) (fun _ _ _ h => h) (Or.inl ⟨by rfl, ?_⟩) (by assumption) ?_
    · (intro w' hSw; simp only [S3, S2] at hSw; go_simp)
    simp only [Act.put, List.setIfInBounds_toArray, List.set_cons_zero, List.set_cons_succ]
    refine wpAnyH_ready (rs := [7]) (by kernel_rfl) (by simp) ?_
    refine AllReadyH.cons rfl (fun K hK => ?_) ?_
    have hb := (Below.refl V47.heap.size V47).alloc (Nat.le_refl _) (.cells #[.string ⟨#[]⟩, .slice none 0 0, .string ⟨#[]⟩, .slice none 0 0] 32)
    have hst := hb.mono HL47.out.size
    have HL48 := Lib.hid (HL47.out.trans hst)
    have HR48 := Lib.hid (er_nod.keep HR47.out hb HL47.out.size)
    have HG48 := Lib.hid (HG47.out.below hb)
    have HJ48 := Lib.hid (j3_below HJ47.out hb)
    have HI48 := Lib.hid (ek_inf.below HI47.out hst)
    have HF48 := Lib.hid ((HBX.out _ HL47.out).1.next #[.string ⟨#[]⟩, .slice none 0 0, .string ⟨#[]⟩, .slice none 0 0] 32)
    have hge5 := HL47.out.size
    have hn5 : V47.heap.size ≠ g := Nat.ne_of_gt HJ47.out.1
    have hn56 : V47.heap.size ≠ V1.heap.size := Nat.ne_of_gt HG47.out.2.1
    clear hb hst
    go_simp
    refine hK.out _ _ ?_ (fun hH48 => ?_)
    · exact ⟨HS.out _ HL48.out, HJ48.out.2⟩
    clear hK K hH47
    generalize V47.alloc (.cells #[.string ⟨#[]⟩, .slice none 0 0, .string ⟨#[]⟩, .slice none 0 0] 32) = V48 at *
    have hw5 : w.heap.size ≤ V47.heap.size := Nat.le_trans HW0.out hge5
    have hw6 : w.heap.size ≤ V1.heap.size := Nat.le_trans HW0.out hge6
    refine wpAnyH_ready (rs := [9]) (by kernel_rfl) (by simp) ?_
    refine AllReadyH.cons rfl (fun K hK => ?_) ?_
    obtain ⟨z0, z1, z2, z3⟩ := HF48.out.four
    have zf := fun j => HF48.out.free j
    obtain ⟨V49, hV, hK1⟩ := n_name (P := Fa w V0 V47.heap.size V1.heap.size g n i A5 c5 D5 d5 E6 e6) (fin2 HL48.out HR48.out HF48.out HG48.out HJ48.out HI48.out hge5 hw5 hn56 hn5)
    have HK1 := Lib.hid hK1
    clear hK1
    go_simp
    refine hK.out _ _ ?_ (fun hH49 => ?_)
    · exact ⟨HS.out _ HK1.out.1, HK1.out.2.2.2.2.1.2⟩
    clear hK K hH48 z0 z1 z2 z3 zf hV
    refine wpAnyH_ready (rs := [10]) (by kernel_rfl) (by simp) ?_
    refine AllReadyH.cons rfl (fun K hK => ?_) ?_
    obtain ⟨z0, z1, z2⟩ := HK1.out.2.2.2.1.three
    have zf := fun j => HK1.out.2.2.2.1.free j
    obtain ⟨V50, hV, hK2⟩ := n_name (P := Fb w V47.heap.size V1.heap.size g n i A c D d E e0 A5 c5 D5 d5 E6 e6) (fin3 HS.out HBX.out HN0.out HI0.out HK1.out hge6 hw6 hn56 hn6)
    have HK2 := Lib.hid hK2
    clear hK2
    go_simp
    refine hK.out _ _ ?_ (fun hH50 => ?_)
    · exact ⟨HK2.out.1, HK2.out.2.1⟩
    clear hK K z0 z1 z2 zf hV
    refine wpAnyH_done (by kernel_rfl) ?_ _
    go_wp2_with fail
    go_meet
    exact ⟨_, _, _, _, _, _, _, _, rfl, rfl, HK2.out.2.2⟩
    exact AllReadyH.nil
    exact AllReadyH.nil
    exact AllReadyH.nil
    refine AllReadyH.cons rfl (fun K hK => ?_) ?_
    have hb := (Below.refl V46.heap.size V46).alloc (Nat.le_refl _) (.cells #[.string ⟨#[]⟩, .slice none 0 0, .string ⟨#[]⟩, .slice none 0 0] 32)
    have hst := hb.mono HL46.out.size
    have HL51 := Lib.hid (HL46.out.trans hst)
    have HR51 := Lib.hid (er_nod.keep HR46.out hb HL46.out.size)
    have HD51 := Lib.hid ((HD46.out.below (ek_infB _) hb).more (ek_infB _) hb.size)
    have HG51 := Lib.hid (HG46.out.below hb)
    have HF51 := Lib.hid ((HBX.out _ HL46.out).1.next #[.string ⟨#[]⟩, .slice none 0 0, .string ⟨#[]⟩, .slice none 0 0] 32)
    have hge5 := HL46.out.size
    have hn56 : V46.heap.size ≠ V1.heap.size := Nat.ne_of_gt HG46.out.2.1
    clear hb hst
    go_simp
    refine hK.out _ _ ?_ (fun hH51 => ?_)
    · exact HS.out _ HL51.out
    clear hK K hH46
    generalize V46.alloc (.cells #[.string ⟨#[]⟩, .slice none 0 0, .string ⟨#[]⟩, .slice none 0 0] 32) = V51 at *
    refine wpAnyH_ready (rs := [4]) (by kernel_rfl) (by simp) ?_
    refine AllReadyH.cons rfl (fun K hK => ?_) ?_
    go_simp
    go_wp2_with (go_at_call 13; (with_reducible refine (HLX.out _ _ HL51.out HD51.out).mono ?_); rintro e V52 ⟨v, rfl, hr, hgb, hb⟩; obtain ⟨g, cg, E6, e6, rfl, hgu, j0, j1, j2, hia⟩ := rr_oneX hr)
    have hst := hb.mono HL51.out.size
    have hgl := hgb g rfl
    have hn5 : V46.heap.size ≠ g := by have := HF51.out.2.1; omega
    have hn6 : V1.heap.size ≠ g := by have := HG51.out.2.1; omega
    have HL52 := Lib.hid (HL51.out.trans hst)
    have HR52 := Lib.hid (er_nod.keep HR51.out hb HL51.out.size)
    have HF52 := Lib.hid (HF51.out.below hb)
    have HG52 := Lib.hid (HG51.out.below hb)
    refine hK.out _ _ ?_ (fun hH52 => ?_)
    · exact HS.out _ HL52.out
    have HJ52 : Hid (J3 g i E6 e6 V52) := Lib.hid ⟨hgu, j0, j1, j2⟩
    have HI52 := Lib.hid hia
    clear hb hst hr hgb hgu hgl hia hK K hH51 hH52 j0 j1 j2
    refine wpAnyH_weaken (S' := S3 n i A c D d E e0 w g E6 e6) (fun W h => h.1) _ _ _ _ ?_
    have hH52 : S3 n i A c D d E e0 w g E6 e6 V52 := ⟨HS.out _ HL52.out, HJ52.out.2⟩
    refine n_take (i := 5) (v := .pointer (some ⟨g, 0, none⟩)) rfl (by rfl) (by kernel_rfl) (by kernel_rfl) (by kernel_rfl) (fun _ _ _ h => h) (Or.inl ⟨by rfl, ?_⟩) (by assumption) ?_
    · (intro w' hSw; simp only [S3, S2] at hSw; go_simp)
    simp only [Act.put, List.setIfInBounds_toArray, List.set_cons_zero, List.set_cons_succ]
    refine n_take (i := 6) (v := .agg #[.string i.name, .int .i64 i.kind, .slice E6 i.dims.length e6]) rfl (by rfl) (by kernel_rfl) (by kernel_rfl) (by kernel_rfl) (fun _ _ _ h => h) (Or.inl ⟨by rfl, ?_⟩) (by assumption) ?_
    · (intro w' hSw; simp only [S3, S2] at hSw; go_simp)
    simp only [Act.put, List.setIfInBounds_toArray, List.set_cons_zero, List.set_cons_succ]
    have hw5 : w.heap.size ≤ V46.heap.size := Nat.le_trans HW0.out hge5
    have hw6 : w.heap.size ≤ V1.heap.size := Nat.le_trans HW0.out hge6
    refine wpAnyH_ready (rs := [9]) (by kernel_rfl) (by simp) ?_
    refine AllReadyH.cons rfl (fun K hK => ?_) ?_
    obtain ⟨z0, z1, z2, z3⟩ := HF52.out.four
    have zf := fun j => HF52.out.free j
    obtain ⟨V53, hV, hK1⟩ := n_name (P := Fa w V0 V46.heap.size V1.heap.size g n i A5 c5 D5 d5 E6 e6) (fin2 HL52.out HR52.out HF52.out HG52.out HJ52.out HI52.out hge5 hw5 hn56 hn5)
    have HK1 := Lib.hid hK1
    clear hK1
    go_simp
    refine hK.out _ _ ?_ (fun hH53 => ?_)
    · exact ⟨HS.out _ HK1.out.1, HK1.out.2.2.2.2.1.2⟩
    clear hK K hH52 z0 z1 z2 z3 zf hV
    refine wpAnyH_ready (rs := [10]) (by kernel_rfl) (by simp) ?_
    refine AllReadyH.cons rfl (fun K hK => ?_) ?_
    obtain ⟨z0, z1, z2⟩ := HK1.out.2.2.2.1.three
    have zf := fun j => HK1.out.2.2.2.1.free j
    obtain ⟨V54, hV, hK2⟩ := n_name (P := Fb w V46.heap.size V1.heap.size g n i A c D d E e0 A5 c5 D5 d5 E6 e6) (fin3 HS.out HBX.out HN0.out HI0.out HK1.out hge6 hw6 hn56 hn6)
    have HK2 := Lib.hid hK2
    clear hK2
    go_simp
    refine hK.out _ _ ?_ (fun hH54 => ?_)
    · exact ⟨HK2.out.1, HK2.out.2.1⟩
    clear hK K z0 z1 z2 zf hV
    refine wpAnyH_done (by kernel_rfl) ?_ _
    go_wp2_with fail
    go_meet
    exact ⟨_, _, _, _, _, _, _, _, rfl, rfl, HK2.out.2.2⟩
    exact AllReadyH.nil
    exact AllReadyH.nil
    exact AllReadyH.nil
    exact AllReadyH.nil
    refine AllReadyH.cons rfl (fun K hK => ?_) ?_
    have hb := (Below.refl V45.heap.size V45).alloc (Nat.le_refl _) (.cells #[.string ⟨#[]⟩, .slice none 0 0, .string ⟨#[]⟩, .slice none 0 0] 32)
    have hst := hb.mono HL45.out.size
    have HL55 := Lib.hid (HL45.out.trans hst)
    have HR55 := Lib.hid (er_nod.keep HR45.out hb HL45.out.size)
    have HG55 := Lib.hid (HG45.out.below hb)
    have HF55 := Lib.hid ((HBX.out _ HL45.out).1.next #[.string ⟨#[]⟩, .slice none 0 0, .string ⟨#[]⟩, .slice none 0 0] 32)
    have hge5 := HL45.out.size
    have hn56 : V45.heap.size ≠ V1.heap.size := Nat.ne_of_gt HG45.out.2.1
    clear hb hst
    go_simp
    refine hK.out _ _ ?_ (fun hH55 => ?_)
    · exact HS.out _ HL55.out
    clear hK K hH45
    generalize V45.alloc (.cells #[.string ⟨#[]⟩, .slice none 0 0, .string ⟨#[]⟩, .slice none 0 0] 32) = V55 at *
    refine wpAnyH_ready (rs := [3]) (by kernel_rfl) (by simp) ?_
    refine AllReadyH.cons rfl (fun K hK => ?_) ?_
    have hb := (Below.refl V55.heap.size V55).alloc (Nat.le_refl _) (.cells #[.string i.name, .int .i64 i.kind, .slice E i.dims.length e0] 38)
    have hst := hb.mono HL55.out.size
    have HL56 := Lib.hid (HL55.out.trans hst)
    have HR56 := Lib.hid (er_nod.keep HR55.out hb HL55.out.size)
    have HF56 := Lib.hid (HF55.out.below hb)
    have HG56 := Lib.hid (HG55.out.below hb)
    have HD56 := Lib.hid (dr_litX V55 V0.heap.size i E e0 38 HL55.out.size (ek_inf.below HI0.out HL55.out))
    clear hb hst
    go_simp
    refine hK.out _ _ ?_ (fun hH56 => ?_)
    · exact HS.out _ HL56.out
    clear hK K hH55
    generalize V55.alloc (.cells #[.string i.name, .int .i64 i.kind, .slice E i.dims.length e0] 38) = V56 at *
    refine wpAnyH_ready (rs := [4]) (by kernel_rfl) (by simp) ?_
    refine AllReadyH.cons rfl (fun K hK => ?_) ?_
    go_simp
    go_wp2_with (go_at_call 13; (with_reducible refine (HLX.out _ _ HL56.out HD56.out).mono ?_); rintro e V57 ⟨v, rfl, hr, hgb, hb⟩; obtain ⟨g, cg, E6, e6, rfl, hgu, j0, j1, j2, hia⟩ := rr_oneX hr)
    have hst := hb.mono HL56.out.size
    have hgl := hgb g rfl
    have hn5 : V45.heap.size ≠ g := by have := HF56.out.2.1; omega
    have hn6 : V1.heap.size ≠ g := by have := HG56.out.2.1; omega
    have HL57 := Lib.hid (HL56.out.trans hst)
    have HR57 := Lib.hid (er_nod.keep HR56.out hb HL56.out.size)
    have HF57 := Lib.hid (HF56.out.below hb)
    have HG57 := Lib.hid (HG56.out.below hb)
    refine hK.out _ _ ?_ (fun hH57 => ?_)
    · exact HS.out _ HL57.out
    have HJ57 : Hid (J3 g i E6 e6 V57) := Lib.hid ⟨hgu, j0, j1, j2⟩
    have HI57 := Lib.hid hia
    clear hb hst hr hgb hgu hgl hia hK K hH56 hH57 j0 j1 j2
    refine wpAnyH_weaken (S' := S3 n i A c D d E e0 w g E6 e6) (fun W h => h.1) _ _ _ _ ?_
    have hH57 : S3 n i A c D d E e0 w g E6 e6 V57 := ⟨HS.out _ HL57.out, HJ57.out.2⟩
    refine n_take (i := 5) (v := .pointer (some ⟨g, 0, none⟩)) rfl (by rfl) (by kernel_rfl) (by kernel_rfl) (by kernel_rfl) (fun _ _ _ h => h) (Or.inl ⟨by rfl, ?_⟩) (by assumption) ?_
    · (intro w' hSw; simp only [S3, S2] at hSw; go_simp)
    simp only [Act.put, List.setIfInBounds_toArray, List.set_cons_zero, List.set_cons_succ]
    refine n_take (i := 6) (v := .agg #[.string i.name, .int .i64 i.kind, .slice E6 i.dims.length e6]) rfl (by rfl) (by kernel_rfl) (by kernel_rfl) (by kernel_rfl) (fun _ _ _ h => h) (Or.inl ⟨by rfl, ?_⟩) (by assumption) ?_
    · (intro w' hSw; simp only [S3, S2] at hSw; go_simp)
    simp only [Act.put, List.setIfInBounds_toArray, List.set_cons_zero, List.set_cons_succ]
    have hw5 : w.heap.size ≤ V45.heap.size := Nat.le_trans HW0.out hge5
    have hw6 : w.heap.size ≤ V1.heap.size := Nat.le_trans HW0.out hge6
    refine wpAnyH_ready (rs := [9]) (by kernel_rfl) (by simp) ?_
    refine AllReadyH.cons rfl (fun K hK => ?_) ?_
    obtain ⟨z0, z1, z2, z3⟩ := HF57.out.four
    have zf := fun j => HF57.out.free j
    obtain ⟨V58, hV, hK1⟩ := n_name (P := Fa w V0 V45.heap.size V1.heap.size g n i A5 c5 D5 d5 E6 e6) (fin2 HL57.out HR57.out HF57.out HG57.out HJ57.out HI57.out hge5 hw5 hn56 hn5)
    have HK1 := Lib.hid hK1
    clear hK1
    go_simp
    refine hK.out _ _ ?_ (fun hH58 => ?_)
    · exact ⟨HS.out _ HK1.out.1, HK1.out.2.2.2.2.1.2⟩
    clear hK K hH57 z0 z1 z2 z3 zf hV
    refine wpAnyH_ready (rs := [10]) (by kernel_rfl) (by simp) ?_
    refine AllReadyH.cons rfl (fun K hK => ?_) ?_
    obtain ⟨z0, z1, z2⟩ := HK1.out.2.2.2.1.three
    have zf := fun j => HK1.out.2.2.2.1.free j
    obtain ⟨V59, hV, hK2⟩ := n_name (P := Fb w V45.heap.size V1.heap.size g n i A c D d E e0 A5 c5 D5 d5 E6 e6) (fin3 HS.out HBX.out HN0.out HI0.out HK1.out hge6 hw6 hn56 hn6)
    have HK2 := Lib.hid hK2
    clear hK2
    go_simp
    refine hK.out _ _ ?_ (fun hH59 => ?_)
    · exact ⟨HK2.out.1, HK2.out.2.1⟩
    clear hK K z0 z1 z2 zf hV
    refine wpAnyH_done (by kernel_rfl) ?_ _
    go_wp2_with fail
    go_meet
    exact ⟨_, _, _, _, _, _, _, _, rfl, rfl, HK2.out.2.2⟩
    exact AllReadyH.nil
    exact AllReadyH.nil
    exact AllReadyH.nil
    exact AllReadyH.nil
    exact AllReadyH.nil
    exact AllReadyH.nil
    refine AllReadyH.cons rfl (fun K hK => ?_) ?_
    have hb := (Below.refl V0.heap.size V0).alloc (Nat.le_refl _) (.cells #[.string i.name, .int .i64 i.kind, .slice E i.dims.length e0] 38)
    have hst := hb.mono HL0.out.size
    have HL60 := Lib.hid (HL0.out.trans hst)
    have HD60 := Lib.hid (dr_litX V0 V0.heap.size i E e0 38 HL0.out.size (ek_inf.below HI0.out HL0.out))
    clear hb hst
    go_simp
    refine hK.out _ _ ?_ (fun hH60 => ?_)
    · exact HS.out _ HL60.out
    clear hK K hH0
    generalize V0.alloc (.cells #[.string i.name, .int .i64 i.kind, .slice E i.dims.length e0] 38) = V60 at *
    refine wpAnyH_ready (rs := [1, 7, 8]) (by kernel_rfl) (by simp) ?_
    refine AllReadyH.cons rfl (fun K hK => ?_) ?_
    go_simp
    go_wp2_with (go_at_call 11; (with_reducible refine (HLN.out _ HL60.out).mono ?_); rintro e V61 ⟨cs, rfl, hr, hb⟩; obtain ⟨A5, c5, D5, d5, rfl⟩ := RNod.shape hr)
    have hst := hb.mono HL60.out.size
    have HL61 := Lib.hid (HL60.out.trans hst)
    have HD61 := Lib.hid ((HD60.out.below (ek_infB _) hb).more (ek_infB _) hb.size)
    have HR61 := Lib.hid hr
    clear hb hst hr
    refine hK.out _ _ ?_ (fun hH61 => ?_)
    · exact HS.out _ HL61.out
    clear hK K hH60
    refine wpAnyH_ready (rs := [4, 7, 8]) (by kernel_rfl) (by simp) ?_
    refine AllReadyH.cons rfl (fun K hK => ?_) ?_
    go_simp
    go_wp2_with (go_at_call 13; (with_reducible refine (HLX.out _ _ HL61.out HD61.out).mono ?_); rintro e V62 ⟨v, rfl, hr, hgb, hb⟩; obtain ⟨g, cg, E6, e6, rfl, hgu, j0, j1, j2, hia⟩ := rr_oneX hr)
    have hst := hb.mono HL61.out.size
    have hgl := hgb g rfl
    have HL62 := Lib.hid (HL61.out.trans hst)
    have HR62 := Lib.hid (er_nod.keep HR61.out hb HL61.out.size)
    refine hK.out _ _ ?_ (fun hH62 => ?_)
    · exact HS.out _ HL62.out
    have HJ62 : Hid (J3 g i E6 e6 V62) := Lib.hid ⟨hgu, j0, j1, j2⟩
    have HI62 := Lib.hid hia
    clear hb hst hr hgb hgu hgl hia hK K hH61 hH62 j0 j1 j2
    refine wpAnyH_weaken (S' := S3 n i A c D d E e0 w g E6 e6) (fun W h => h.1) _ _ _ _ ?_
    have hH62 : S3 n i A c D d E e0 w g E6 e6 V62 := ⟨HS.out _ HL62.out, HJ62.out.2⟩
    refine n_take (i := 5) (v := .pointer (some ⟨g, 0, none⟩)) rfl (by rfl) (by kernel_rfl) (by kernel_rfl) (by kernel_rfl) (fun _ _ _ h => h) (Or.inl ⟨by rfl, ?_⟩) (by assumption) ?_
    · (intro w' hSw; simp only [S3, S2] at hSw; go_simp)
    simp only [Act.put, List.setIfInBounds_toArray, List.set_cons_zero, List.set_cons_succ]
    refine n_take (i := 6) (v := .agg #[.string i.name, .int .i64 i.kind, .slice E6 i.dims.length e6]) rfl (by rfl) (by kernel_rfl) (by kernel_rfl) (by kernel_rfl) (fun _ _ _ h => h) (Or.inl ⟨by rfl, ?_⟩) (by assumption) ?_
    · (intro w' hSw; simp only [S3, S2] at hSw; go_simp)
    simp only [Act.put, List.setIfInBounds_toArray, List.set_cons_zero, List.set_cons_succ]
    refine wpAnyH_ready (rs := [7, 8]) (by kernel_rfl) (by simp) ?_
    refine AllReadyH.cons rfl (fun K hK => ?_) ?_
    have hb := (Below.refl V62.heap.size V62).alloc (Nat.le_refl _) (.cells #[.string ⟨#[]⟩, .slice none 0 0, .string ⟨#[]⟩, .slice none 0 0] 32)
    have hst := hb.mono HL62.out.size
    have HL63 := Lib.hid (HL62.out.trans hst)
    have HR63 := Lib.hid (er_nod.keep HR62.out hb HL62.out.size)
    have HJ63 := Lib.hid (j3_below HJ62.out hb)
    have HI63 := Lib.hid (ek_inf.below HI62.out hst)
    have HF63 := Lib.hid ((HBX.out _ HL62.out).1.next #[.string ⟨#[]⟩, .slice none 0 0, .string ⟨#[]⟩, .slice none 0 0] 32)
    have hge5 := HL62.out.size
    have hn5 : V62.heap.size ≠ g := Nat.ne_of_gt HJ62.out.1
    clear hb hst
    go_simp
    refine hK.out _ _ ?_ (fun hH63 => ?_)
    · exact ⟨HS.out _ HL63.out, HJ63.out.2⟩
    clear hK K hH62
    generalize V62.alloc (.cells #[.string ⟨#[]⟩, .slice none 0 0, .string ⟨#[]⟩, .slice none 0 0] 32) = V63 at *
    refine wpAnyH_ready (rs := [8]) (by kernel_rfl) (by simp) ?_
    refine AllReadyH.cons rfl (fun K hK => ?_) ?_
    have hb := (Below.refl V63.heap.size V63).alloc (Nat.le_refl _) (.cells #[.string ⟨#[]⟩, .int .i64 0, .slice none 0 0] 42)
    have hst := hb.mono HL63.out.size
    have HL64 := Lib.hid (HL63.out.trans hst)
    have HR64 := Lib.hid (er_nod.keep HR63.out hb HL63.out.size)
    have HF64 := Lib.hid (HF63.out.below hb)
    have HJ64 := Lib.hid (j3_below HJ63.out hb)
    have HI64 := Lib.hid (ek_inf.below HI63.out hst)
    have HG64 := Lib.hid ((HBX.out _ HL63.out).1.next #[.string ⟨#[]⟩, .int .i64 0, .slice none 0 0] 42)
    have hge6 := HL63.out.size
    have hn6 : V63.heap.size ≠ g := Nat.ne_of_gt HJ63.out.1
    have hn56 : V62.heap.size ≠ V63.heap.size := Nat.ne_of_lt HF63.out.2.1
    clear hb hst
    go_simp
    refine hK.out _ _ ?_ (fun hH64 => ?_)
    · exact ⟨HS.out _ HL64.out, HJ64.out.2⟩
    clear hK K hH63
    generalize V63.alloc (.cells #[.string ⟨#[]⟩, .int .i64 0, .slice none 0 0] 42) = V64 at *
    have hw5 : w.heap.size ≤ V62.heap.size := Nat.le_trans HW0.out hge5
    have hw6 : w.heap.size ≤ V63.heap.size := Nat.le_trans HW0.out hge6
    refine wpAnyH_ready (rs := [9]) (by kernel_rfl) (by simp) ?_
    refine AllReadyH.cons rfl (fun K hK => ?_) ?_
    obtain ⟨z0, z1, z2, z3⟩ := HF64.out.four
    have zf := fun j => HF64.out.free j
    obtain ⟨V65, hV, hK1⟩ := n_name (P := Fa w V0 V62.heap.size V63.heap.size g n i A5 c5 D5 d5 E6 e6) (fin2 HL64.out HR64.out HF64.out HG64.out HJ64.out HI64.out hge5 hw5 hn56 hn5)
    have HK1 := Lib.hid hK1
    clear hK1
    go_simp
    refine hK.out _ _ ?_ (fun hH65 => ?_)
    · exact ⟨HS.out _ HK1.out.1, HK1.out.2.2.2.2.1.2⟩
    clear hK K hH64 z0 z1 z2 z3 zf hV
    refine wpAnyH_ready (rs := [10]) (by kernel_rfl) (by simp) ?_
    refine AllReadyH.cons rfl (fun K hK => ?_) ?_
    obtain ⟨z0, z1, z2⟩ := HK1.out.2.2.2.1.three
    have zf := fun j => HK1.out.2.2.2.1.free j
    obtain ⟨V66, hV, hK2⟩ := n_name (P := Fb w V62.heap.size V63.heap.size g n i A c D d E e0 A5 c5 D5 d5 E6 e6) (fin3 HS.out HBX.out HN0.out HI0.out HK1.out hge6 hw6 hn56 hn6)
    have HK2 := Lib.hid hK2
    clear hK2
    go_simp
    refine hK.out _ _ ?_ (fun hH66 => ?_)
    · exact ⟨HK2.out.1, HK2.out.2.1⟩
    clear hK K z0 z1 z2 zf hV
    refine wpAnyH_done (by kernel_rfl) ?_ _
    go_wp2_with fail
    go_meet
    exact ⟨_, _, _, _, _, _, _, _, rfl, rfl, HK2.out.2.2⟩
    exact AllReadyH.nil
    exact AllReadyH.nil
    exact AllReadyH.nil
    refine AllReadyH.cons rfl (fun K hK => ?_) ?_
    have hb := (Below.refl V62.heap.size V62).alloc (Nat.le_refl _) (.cells #[.string ⟨#[]⟩, .int .i64 0, .slice none 0 0] 42)
    have hst := hb.mono HL62.out.size
    have HL67 := Lib.hid (HL62.out.trans hst)
    have HR67 := Lib.hid (er_nod.keep HR62.out hb HL62.out.size)
    have HJ67 := Lib.hid (j3_below HJ62.out hb)
    have HI67 := Lib.hid (ek_inf.below HI62.out hst)
    have HG67 := Lib.hid ((HBX.out _ HL62.out).1.next #[.string ⟨#[]⟩, .int .i64 0, .slice none 0 0] 42)
    have hge6 := HL62.out.size
    have hn6 : V62.heap.size ≠ g := Nat.ne_of_gt HJ62.out.1
    clear hb hst
    go_simp
    refine hK.out _ _ ?_ (fun hH67 => ?_)
    · exact ⟨HS.out _ HL67.out, HJ67.out.2⟩
    clear hK K hH62
    generalize V62.alloc (.cells #[.string ⟨#[]⟩, .int .i64 0, .slice none 0 0] 42) = V67 at *
    refine wpAnyH_ready (rs := [7]) (by kernel_rfl) (by simp) ?_
    refine AllReadyH.cons rfl (fun K hK => ?_) ?_
    have hb := (Below.refl V67.heap.size V67).alloc (Nat.le_refl _) (.cells #[.string ⟨#[]⟩, .slice none 0 0, .string ⟨#[]⟩, .slice none 0 0] 32)
    have hst := hb.mono HL67.out.size
    have HL68 := Lib.hid (HL67.out.trans hst)
    have HR68 := Lib.hid (er_nod.keep HR67.out hb HL67.out.size)
    have HG68 := Lib.hid (HG67.out.below hb)
    have HJ68 := Lib.hid (j3_below HJ67.out hb)
    have HI68 := Lib.hid (ek_inf.below HI67.out hst)
    have HF68 := Lib.hid ((HBX.out _ HL67.out).1.next #[.string ⟨#[]⟩, .slice none 0 0, .string ⟨#[]⟩, .slice none 0 0] 32)
    have hge5 := HL67.out.size
    have hn5 : V67.heap.size ≠ g := Nat.ne_of_gt HJ67.out.1
    have hn56 : V67.heap.size ≠ V62.heap.size := Nat.ne_of_gt HG67.out.2.1
    clear hb hst
    go_simp
    refine hK.out _ _ ?_ (fun hH68 => ?_)
    · exact ⟨HS.out _ HL68.out, HJ68.out.2⟩
    clear hK K hH67
    generalize V67.alloc (.cells #[.string ⟨#[]⟩, .slice none 0 0, .string ⟨#[]⟩, .slice none 0 0] 32) = V68 at *
    have hw5 : w.heap.size ≤ V67.heap.size := Nat.le_trans HW0.out hge5
    have hw6 : w.heap.size ≤ V62.heap.size := Nat.le_trans HW0.out hge6
    refine wpAnyH_ready (rs := [9]) (by kernel_rfl) (by simp) ?_
    refine AllReadyH.cons rfl (fun K hK => ?_) ?_
    obtain ⟨z0, z1, z2, z3⟩ := HF68.out.four
    have zf := fun j => HF68.out.free j
    obtain ⟨V69, hV, hK1⟩ := n_name (P := Fa w V0 V67.heap.size V62.heap.size g n i A5 c5 D5 d5 E6 e6) (fin2 HL68.out HR68.out HF68.out HG68.out HJ68.out HI68.out hge5 hw5 hn56 hn5)
    have HK1 := Lib.hid hK1
    clear hK1
    go_simp
    refine hK.out _ _ ?_ (fun hH69 => ?_)
    · exact ⟨HS.out _ HK1.out.1, HK1.out.2.2.2.2.1.2⟩
    clear hK K hH68 z0 z1 z2 z3 zf hV
    refine wpAnyH_ready (rs := [10]) (by kernel_rfl) (by simp) ?_
    refine AllReadyH.cons rfl (fun K hK => ?_) ?_
    obtain ⟨z0, z1, z2⟩ := HK1.out.2.2.2.1.three
    have zf := fun j => HK1.out.2.2.2.1.free j
    obtain ⟨V70, hV, hK2⟩ := n_name (P := Fb w V67.heap.size V62.heap.size g n i A c D d E e0 A5 c5 D5 d5 E6 e6) (fin3 HS.out HBX.out HN0.out HI0.out HK1.out hge6 hw6 hn56 hn6)
    have HK2 := Lib.hid hK2
    clear hK2
    go_simp
    refine hK.out _ _ ?_ (fun hH70 => ?_)
    · exact ⟨HK2.out.1, HK2.out.2.1⟩
    clear hK K z0 z1 z2 zf hV
    refine wpAnyH_done (by kernel_rfl) ?_ _
    go_wp2_with fail
    go_meet
    exact ⟨_, _, _, _, _, _, _, _, rfl, rfl, HK2.out.2.2⟩
    exact AllReadyH.nil
    exact AllReadyH.nil
    exact AllReadyH.nil
    exact AllReadyH.nil
    refine AllReadyH.cons rfl (fun K hK => ?_) ?_
    have hb := (Below.refl V61.heap.size V61).alloc (Nat.le_refl _) (.cells #[.string ⟨#[]⟩, .slice none 0 0, .string ⟨#[]⟩, .slice none 0 0] 32)
    have hst := hb.mono HL61.out.size
    have HL71 := Lib.hid (HL61.out.trans hst)
    have HR71 := Lib.hid (er_nod.keep HR61.out hb HL61.out.size)
    have HD71 := Lib.hid ((HD61.out.below (ek_infB _) hb).more (ek_infB _) hb.size)
    have HF71 := Lib.hid ((HBX.out _ HL61.out).1.next #[.string ⟨#[]⟩, .slice none 0 0, .string ⟨#[]⟩, .slice none 0 0] 32)
    have hge5 := HL61.out.size
    clear hb hst
    go_simp
    refine hK.out _ _ ?_ (fun hH71 => ?_)
    · exact HS.out _ HL71.out
    clear hK K hH61
    generalize V61.alloc (.cells #[.string ⟨#[]⟩, .slice none 0 0, .string ⟨#[]⟩, .slice none 0 0] 32) = V71 at *
    refine wpAnyH_ready (rs := [4, 8]) (by kernel_rfl) (by simp) ?_
    refine AllReadyH.cons rfl (fun K hK => ?_) ?_
    go_simp
    go_wp2_with (go_at_call 13; (with_reducible refine (HLX.out _ _ HL71.out HD71.out).mono ?_); rintro e V72 ⟨v, rfl, hr, hgb, hb⟩; obtain ⟨g, cg, E6, e6, rfl, hgu, j0, j1, j2, hia⟩ := rr_oneX hr)
    have hst := hb.mono HL71.out.size
    have hgl := hgb g rfl
    have hn5 : V61.heap.size ≠ g := by have := HF71.out.2.1; omega
    have HL72 := Lib.hid (HL71.out.trans hst)
    have HR72 := Lib.hid (er_nod.keep HR71.out hb HL71.out.size)
    have HF72 := Lib.hid (HF71.out.below hb)
    refine hK.out _ _ ?_ (fun hH72 => ?_)
    · exact HS.out _ HL72.out
    have HJ72 : Hid (J3 g i E6 e6 V72) := Lib.hid ⟨hgu, j0, j1, j2⟩
    have HI72 := Lib.hid hia
    clear hb hst hr hgb hgu hgl hia hK K hH71 hH72 j0 j1 j2
    refine wpAnyH_weaken (S' := S3 n i A c D d E e0 w g E6 e6) (fun W h => h.1) _ _ _ _ ?_
    have hH72 : S3 n i A c D d E e0 w g E6 e6 V72 := ⟨HS.out _ HL72.out, HJ72.out.2⟩
    refine n_take (i := 5) (v := .pointer (some ⟨g, 0, none⟩)) rfl (by rfl) (by kernel_rfl) (by kernel_rfl) (by kernel_rfl) (fun _ _ _ h => h) (Or.inl ⟨by rfl, ?_⟩) (by assumption) ?_
    · (intro w' hSw; simp only [S3, S2] at hSw; go_simp)
    simp only [Act.put, List.setIfInBounds_toArray, List.set_cons_zero, List.set_cons_succ]
    refine n_take (i := 6) (v := .agg #[.string i.name, .int .i64 i.kind, .slice E6 i.dims.length e6]) rfl (by rfl) (by kernel_rfl) (by kernel_rfl) (by kernel_rfl) (fun _ _ _ h => h) (Or.inl ⟨by rfl, ?_⟩) (by assumption) ?_
    · (intro w' hSw; simp only [S3, S2] at hSw; go_simp)
    simp only [Act.put, List.setIfInBounds_toArray, List.set_cons_zero, List.set_cons_succ]
    refine wpAnyH_ready (rs := [8]) (by kernel_rfl) (by simp) ?_
    refine AllReadyH.cons rfl (fun K hK => ?_) ?_
    have hb := (Below.refl V72.heap.size V72).alloc (Nat.le_refl _) (.cells #[.string ⟨#[]⟩, .int .i64 0, .slice none 0 0] 42)
    have hst := hb.mono HL72.out.size
    have HL73 := Lib.hid (HL72.out.trans hst)
    have HR73 := Lib.hid (er_nod.keep HR72.out hb HL72.out.size)
    have HF73 := Lib.hid (HF72.out.below hb)
    have HJ73 := Lib.hid (j3_below HJ72.out hb)
    have HI73 := Lib.hid (ek_inf.below HI72.out hst)
    have HG73 := Lib.hid ((HBX.out _ HL72.out).1.next #[.string ⟨#[]⟩, .int .i64 0, .slice none 0 0] 42)
    have hge6 := HL72.out.size
    have hn6 : V72.heap.size ≠ g := Nat.ne_of_gt HJ72.out.1
    have hn56 : V61.heap.size ≠ V72.heap.size := Nat.ne_of_lt HF72.out.2.1
    clear hb hst
    go_simp
    refine hK.out _ _ ?_ (fun hH73 => ?_)
    · exact ⟨HS.out _ HL73.out, HJ73.out.2⟩
    clear hK K hH72
    generalize V72.alloc (.cells #[.string ⟨#[]⟩, .int .i64 0, .slice none 0 0] 42) = V73 at *
    have hw5 : w.heap.size ≤ V61.heap.size := Nat.le_trans HW0.out hge5
    have hw6 : w.heap.size ≤ V72.heap.size := Nat.le_trans HW0.out hge6
    refine wpAnyH_ready (rs := [9]) (by kernel_rfl) (by simp) ?_
    refine AllReadyH.cons rfl (fun K hK => ?_) ?_
    obtain ⟨z0, z1, z2, z3⟩ := HF73.out.four
    have zf := fun j => HF73.out.free j
    obtain ⟨V74, hV, hK1⟩ := n_name (P := Fa w V0 V61.heap.size V72.heap.size g n i A5 c5 D5 d5 E6 e6) (fin2 HL73.out HR73.out HF73.out HG73.out HJ73.out HI73.out hge5 hw5 hn56 hn5)
    have HK1 := Lib.hid hK1
    clear hK1
    go_simp
    refine hK.out _ _ ?_ (fun hH74 => ?_)
    · exact ⟨HS.out _ HK1.out.1, HK1.out.2.2.2.2.1.2⟩
    clear hK K hH73 z0 z1 z2 z3 zf hV
    refine wpAnyH_ready (rs := [10]) (by kernel_rfl) (by simp) ?_
    refine AllReadyH.cons rfl (fun K hK => ?_) ?_
    obtain ⟨z0, z1, z2⟩ := HK1.out.2.2.2.1.three
    have zf := fun j => HK1.out.2.2.2.1.free j
    obtain ⟨V75, hV, hK2⟩ := n_name (P := Fb w V61.heap.size V72.heap.size g n i A c D d E e0 A5 c5 D5 d5 E6 e6) (fin3 HS.out HBX.out HN0.out HI0.out HK1.out hge6 hw6 hn56 hn6)
    have HK2 := Lib.hid hK2
    clear hK2
    go_simp
    refine hK.out _ _ ?_ (fun hH75 => ?_)
    · exact ⟨HK2.out.1, HK2.out.2.1⟩
    clear hK K z0 z1 z2 zf hV
    refine wpAnyH_done (by kernel_rfl) ?_ _
    go_wp2_with fail
    go_meet
    exact ⟨_, _, _, _, _, _, _, _, rfl, rfl, HK2.out.2.2⟩
    exact AllReadyH.nil
    exact AllReadyH.nil
    exact AllReadyH.nil
    refine AllReadyH.cons rfl (fun K hK => ?_) ?_
    have hb := (Below.refl V71.heap.size V71).alloc (Nat.le_refl _) (.cells #[.string ⟨#[]⟩, .int .i64 0, .slice none 0 0] 42)
    have hst := hb.mono HL71.out.size
    have HL76 := Lib.hid (HL71.out.trans hst)
    have HR76 := Lib.hid (er_nod.keep HR71.out hb HL71.out.size)
    have HD76 := Lib.hid ((HD71.out.below (ek_infB _) hb).more (ek_infB _) hb.size)
    have HF76 := Lib.hid (HF71.out.below hb)
    have HG76 := Lib.hid ((HBX.out _ HL71.out).1.next #[.string ⟨#[]⟩, .int .i64 0, .slice none 0 0] 42)
    have hge6 := HL71.out.size
    have hn56 : V61.heap.size ≠ V71.heap.size := Nat.ne_of_lt HF71.out.2.1
    clear hb hst
    go_simp
    refine hK.out _ _ ?_ (fun hH76 => ?_)
    · exact HS.out _ HL76.out
    clear hK K hH71
    generalize V71.alloc (.cells #[.string ⟨#[]⟩, .int .i64 0, .slice none 0 0] 42) = V76 at *
    refine wpAnyH_ready (rs := [4]) (by kernel_rfl) (by simp) ?_
    refine AllReadyH.cons rfl (fun K hK => ?_) ?_
    go_simp
    go_wp2_with (go_at_call 13; (with_reducible refine (HLX.out _ _ HL76.out HD76.out).mono ?_); rintro e V77 ⟨v, rfl, hr, hgb, hb⟩; obtain ⟨g, cg, E6, e6, rfl, hgu, j0, j1, j2, hia⟩ := rr_oneX hr)
    have hst := hb.mono HL76.out.size
    have hgl := hgb g rfl
    have hn5 : V61.heap.size ≠ g := by have := HF76.out.2.1; omega
    have hn6 : V71.heap.size ≠ g := by have := HG76.out.2.1; omega
    have HL77 := Lib.hid (HL76.out.trans hst)
    have HR77 := Lib.hid (er_nod.keep HR76.out hb HL76.out.size)
    have HF77 := Lib.hid (HF76.out.below hb)
    have HG77 := Lib.hid (HG76.out.below hb)
    refine hK.out _ _ ?_ (fun hH77 => ?_)
    · exact HS.out _ HL77.out
    have HJ77 : Hid (J3 g i E6 e6 V77) := Lib.hid ⟨hgu, j0, j1, j2⟩
    have HI77 := Lib.hid hia
    clear hb hst hr hgb hgu hgl hia hK K hH76 hH77 j0 j1 j2
    refine wpAnyH_weaken (S' := S3 n i A c D d E e0 w g E6 e6) (fun W h => h.1) _ _ _ _ ?_
    have hH77 : S3 n i A c D d E e0 w g E6 e6 V77 := ⟨HS.out _ HL77.out, HJ77.out.2⟩
    refine n_take (i := 5) (v := .pointer (some ⟨g, 0, none⟩)) rfl (by rfl) (by kernel_rfl) (by kernel_rfl) (by kernel_rfl) (fun _ _ _ h => h) (Or.inl ⟨by rfl, ?_⟩) (by assumption) ?_
    · (intro w' hSw; simp only [S3, S2] at hSw; go_simp)
    simp only [Act.put, List.setIfInBounds_toArray, List.set_cons_zero, List.set_cons_succ]
    refine n_take (i := 6) (v := .agg #[.string i.name, .int .i64 i.kind, .slice E6 i.dims.length e6]) rfl (by rfl) (by kernel_rfl) (by kernel_rfl) (by kernel_rfl) (fun _ _ _ h => h) (Or.inl ⟨by rfl, ?_⟩) (by assumption) ?_
    · (intro w' hSw; simp only [S3, S2] at hSw; go_simp)
    simp only [Act.put, List.setIfInBounds_toArray, List.set_cons_zero, List.set_cons_succ]
    have hw5 : w.heap.size ≤ V61.heap.size := Nat.le_trans HW0.out hge5
    have hw6 : w.heap.size ≤ V71.heap.size := Nat.le_trans HW0.out hge6
    refine wpAnyH_ready (rs := [9]) (by kernel_rfl) (by simp) ?_
    refine AllReadyH.cons rfl (fun K hK => ?_) ?_
    obtain ⟨z0, z1, z2, z3⟩ := HF77.out.four
    have zf := fun j => HF77.out.free j
    obtain ⟨V78, hV, hK1⟩ := n_name (P := Fa w V0 V61.heap.size V71.heap.size g n i A5 c5 D5 d5 E6 e6) (fin2 HL77.out HR77.out HF77.out HG77.out HJ77.out HI77.out hge5 hw5 hn56 hn5)
    have HK1 := Lib.hid hK1
    clear hK1
    go_simp
    refine hK.out _ _ ?_ (fun hH78 => ?_)
    · exact ⟨HS.out _ HK1.out.1, HK1.out.2.2.2.2.1.2⟩
    clear hK K hH77 z0 z1 z2 z3 zf hV
    refine wpAnyH_ready (rs := [10]) (by kernel_rfl) (by simp) ?_
    refine AllReadyH.cons rfl (fun K hK => ?_) ?_
    obtain ⟨z0, z1, z2⟩ := HK1.out.2.2.2.1.three
    have zf := fun j => HK1.out.2.2.2.1.free j
    obtain ⟨V79, hV, hK2⟩ := n_name (P := Fb w V61.heap.size V71.heap.size g n i A c D d E e0 A5 c5 D5 d5 E6 e6) (fin3 HS.out HBX.out HN0.out HI0.out HK1.out hge6 hw6 hn56 hn6)
    have HK2 := Lib.hid hK2
    clear hK2
    go_simp
    refine hK.out _ _ ?_ (fun hH79 => ?_)
    · exact ⟨HK2.out.1, HK2.out.2.1⟩
    clear hK K z0 z1 z2 zf hV
    refine wpAnyH_done (by kernel_rfl) ?_ _
    go_wp2_with fail
    go_meet
    exact ⟨_, _, _, _, _, _, _, _, rfl, rfl, HK2.out.2.2⟩
    exact AllReadyH.nil
    exact AllReadyH.nil
    exact AllReadyH.nil
    exact AllReadyH.nil
    refine AllReadyH.cons rfl (fun K hK => ?_) ?_
    have hb := (Below.refl V61.heap.size V61).alloc (Nat.le_refl _) (.cells #[.string ⟨#[]⟩, .int .i64 0, .slice none 0 0] 42)
    have hst := hb.mono HL61.out.size
    have HL80 := Lib.hid (HL61.out.trans hst)
    have HR80 := Lib.hid (er_nod.keep HR61.out hb HL61.out.size)
    have HD80 := Lib.hid ((HD61.out.below (ek_infB _) hb).more (ek_infB _) hb.size)
    have HG80 := Lib.hid ((HBX.out _ HL61.out).1.next #[.string ⟨#[]⟩, .int .i64 0, .slice none 0 0] 42)
    have hge6 := HL61.out.size
    clear hb hst
    go_simp
    refine hK.out _ _ ?_ (fun hH80 => ?_)
    · exact HS.out _ HL80.out
    clear hK K hH61
    generalize V61.alloc (.cells #[.string ⟨#[]⟩, .int .i64 0, .slice none 0 0] 42) = V80 at *
    refine wpAnyH_ready (rs := [4, 7]) (by kernel_rfl) (by simp) ?_
    refine AllReadyH.cons rfl (fun K hK => ?_) ?_
    go_simp
    go_wp2_with (go_at_call 13; (with_reducible refine (HLX.out _ _ HL80.out HD80.out).mono ?_); rintro e V81 ⟨v, rfl, hr, hgb, hb⟩; obtain ⟨g, cg, E6, e6, rfl, hgu, j0, j1, j2, hia⟩ := rr_oneX hr)
    have hst := hb.mono HL80.out.size
    have hgl := hgb g rfl
    have hn6 : V61.heap.size ≠ g := by have := HG80.out.2.1; omega
    have HL81 := Lib.hid (HL80.out.trans hst)
    have HR81 := Lib.hid (er_nod.keep HR80.out hb HL80.out.size)
    have HG81 := Lib.hid (HG80.out.below hb)
    refine hK.out _ _ ?_ (fun hH81 => ?_)
    · exact HS.out _ HL81.out
    have HJ81 : Hid (J3 g i E6 e6 V81) := Lib.hid ⟨hgu, j0, j1, j2⟩
    have HI81 := Lib.hid hia
    clear hb hst hr hgb hgu hgl hia hK K hH80 hH81 j0 j1 j2
    refine wpAnyH_weaken (S' := S3 n i A c D d E e0 w g E6 e6) (fun W h => h.1) _ _ _ _ ?_
    have hH81 : S3 n i A c D d E e0 w g E6 e6 V81 := ⟨HS.out _ HL81.out, HJ81.out.2⟩
    refine n_take (i := 5) (v := .pointer (some ⟨g, 0, none⟩)) rfl (by rfl) (by kernel_rfl) (by kernel_rfl) (by kernel_rfl) (fun _ _ _ h => h) (Or.inl ⟨by rfl, ?_⟩) (by assumption) ?_
    · (intro w' hSw; simp only [S3, S2] at hSw; go_simp)
    simp only [Act.put, List.setIfInBounds_toArray, List.set_cons_zero, List.set_cons_succ]
    refine n_take (i := 6) (v := .agg #[.string i.name, .int .i64 i.kind, .slice E6 i.dims.length e6]) rfl (by rfl) (by kernel_rfl) (by kernel_rfl) (by kernel_rfl) (fun _ _ _ h => h) (Or.inl ⟨by rfl, ?_⟩) (by assumption) ?_
    · (intro w' hSw; simp only [S3, S2] at hSw; go_simp)
    simp only [Act.put, List.setIfInBounds_toArray, List.set_cons_zero, List.set_cons_succ]
    refine wpAnyH_ready (rs := [7]) (by kernel_rfl) (by simp) ?_
    refine AllReadyH.cons rfl (fun K hK => ?_) ?_
    have hb := (Below.refl V81.heap.size V81).alloc (Nat.le_refl _) (.cells #[.string ⟨#[]⟩, .slice none 0 0, .string ⟨#[]⟩, .slice none 0 0] 32)
    have hst := hb.mono HL81.out.size
    have HL82 := Lib.hid (HL81.out.trans hst)
    have HR82 := Lib.hid (er_nod.keep HR81.out hb HL81.out.size)
    have HG82 := Lib.hid (HG81.out.below hb)
    have HJ82 := Lib.hid (j3_below HJ81.out hb)
    have HI82 := Lib.hid (ek_inf.below HI81.out hst)
    have HF82 := Lib.hid ((HBX.out _ HL81.out).1.next #[.string ⟨#[]⟩, .slice none 0 0, .string ⟨#[]⟩, .slice none 0 0] 32)
    have hge5 := HL81.out.size
    have hn5 : V81.heap.size ≠ g := Nat.ne_of_gt HJ81.out.1
    have hn56 : V81.heap.size ≠ V61.heap.size := Nat.ne_of_gt HG81.out.2.1
    clear hb hst
    go_simp
    refine hK.out _ _ ?_ (fun hH82 => ?_)
    · exact ⟨HS.out _ HL82.out, HJ82.out.2⟩
    clear hK K hH81
    generalize V81.alloc (.cells #[.string ⟨#[]⟩, .slice none 0 0, .string ⟨#[]⟩, .slice none 0 0] 32) = V82 at *
    have hw5 : w.heap.size ≤ V81.heap.size := Nat.le_trans HW0.out hge5
    have hw6 : w.heap.size ≤ V61.heap.size := Nat.le_trans HW0.out hge6
    refine wpAnyH_ready (rs := [9]) (by kernel_rfl) (by simp) ?_
    refine AllReadyH.cons rfl (fun K hK => ?_) ?_
    obtain ⟨z0, z1, z2, z3⟩ := HF82.out.four
    have zf := fun j => HF82.out.free j
    obtain ⟨V83, hV, hK1⟩ := n_name (P := Fa w V0 V81.heap.size V61.heap.size g n i A5 c5 D5 d5 E6 e6) (fin2 HL82.out HR82.out HF82.out HG82.out HJ82.out HI82.out hge5 hw5 hn56 hn5)
    have HK1 := Lib.hid hK1
    clear hK1
    go_simp
    refine hK.out _ _ ?_ (fun hH83 => ?_)
    · exact ⟨HS.out _ HK1.out.1, HK1.out.2.2.2.2.1.2⟩
    clear hK K hH82 z0 z1 z2 z3 zf hV
    refine wpAnyH_ready (rs := [10]) (by kernel_rfl) (by simp) ?_
    refine AllReadyH.cons rfl (fun K hK => ?_) ?_
    obtain ⟨z0, z1, z2⟩ := HK1.out.2.2.2.1.three
    have zf := fun j => HK1.out.2.2.2.1.free j
    obtain ⟨V84, hV, hK2⟩ := n_name (P := Fb w V81.heap.size V61.heap.size g n i A c D d E e0 A5 c5 D5 d5 E6 e6) (fin3 HS.out HBX.out HN0.out HI0.out HK1.out hge6 hw6 hn56 hn6)
    have HK2 := Lib.hid hK2
    clear hK2
    go_simp
    refine hK.out _ _ ?_ (fun hH84 => ?_)
    · exact ⟨HK2.out.1, HK2.out.2.1⟩
    clear hK K z0 z1 z2 zf hV
    refine wpAnyH_done (by kernel_rfl) ?_ _
    go_wp2_with fail
    go_meet
    exact ⟨_, _, _, _, _, _, _, _, rfl, rfl, HK2.out.2.2⟩
    exact AllReadyH.nil
    exact AllReadyH.nil
    exact AllReadyH.nil
    refine AllReadyH.cons rfl (fun K hK => ?_) ?_
    have hb := (Below.refl V80.heap.size V80).alloc (Nat.le_refl _) (.cells #[.string ⟨#[]⟩, .slice none 0 0, .string ⟨#[]⟩, .slice none 0 0] 32)
    have hst := hb.mono HL80.out.size
    have HL85 := Lib.hid (HL80.out.trans hst)
    have HR85 := Lib.hid (er_nod.keep HR80.out hb HL80.out.size)
    have HD85 := Lib.hid ((HD80.out.below (ek_infB _) hb).more (ek_infB _) hb.size)
    have HG85 := Lib.hid (HG80.out.below hb)
    have HF85 := Lib.hid ((HBX.out _ HL80.out).1.next #[.string ⟨#[]⟩, .slice none 0 0, .string ⟨#[]⟩, .slice none 0 0] 32)
    have hge5 := HL80.out.size
    have hn56 : V80.heap.size ≠ V61.heap.size := Nat.ne_of_gt HG80.out.2.1
    clear hb hst
    go_simp
    refine hK.out _ _ ?_ (fun hH85 => ?_)
    · exact HS.out _ HL85.out
    clear hK K hH80
    generalize V80.alloc (.cells #[.string ⟨#[]⟩, .slice none 0 0, .string ⟨#[]⟩, .slice none 0 0] 32) = V85 at *
    refine wpAnyH_ready (rs := [4]) (by kernel_rfl) (by simp) ?_
    refine AllReadyH.cons rfl (fun K hK => ?_) ?_
    go_simp
    go_wp2_with (go_at_call 13; (with_reducible refine (HLX.out _ _ HL85.out HD85.out).mono ?_); rintro e V86 ⟨v, rfl, hr, hgb, hb⟩; obtain ⟨g, cg, E6, e6, rfl, hgu, j0, j1, j2, hia⟩ := rr_oneX hr)
    have hst := hb.mono HL85.out.size
    have hgl := hgb g rfl
    have hn5 : V80.heap.size ≠ g := by have := HF85.out.2.1; omega
    have hn6 : V61.heap.size ≠ g := by have := HG85.out.2.1; omega
    have HL86 := Lib.hid (HL85.out.trans hst)
    have HR86 := Lib.hid (er_nod.keep HR85.out hb HL85.out.size)
    have HF86 := Lib.hid (HF85.out.below hb)
    have HG86 := Lib.hid (HG85.out.below hb)
    refine hK.out _ _ ?_ (fun hH86 => ?_)
    · exact HS.out _ HL86.out
    have HJ86 : Hid (J3 g i E6 e6 V86) := Lib.hid ⟨hgu, j0, j1, j2⟩
    have HI86 := Lib.hid hia
    clear hb hst hr hgb hgu hgl hia hK K hH85 hH86 j0 j1 j2
    refine wpAnyH_weaken (S' := S3 n i A c D d E e0 w g E6 e6) (fun W h => h.1) _ _ _ _ ?_
    have hH86 : S3 n i A c D d E e0 w g E6 e6 V86 := ⟨HS.out _ HL86.out, HJ86.out.2⟩
    refine n_take (i := 5) (v := .pointer (some ⟨g, 0, none⟩)) rfl (by rfl) (by kernel_rfl) (by kernel_rfl) (by kernel_rfl) (fun _ _ _ h => h) (Or.inl ⟨by rfl, ?_⟩) (by assumption) ?_
    · (intro w' hSw; simp only [S3, S2] at hSw; go_simp)
    simp only [Act.put, List.setIfInBounds_toArray, List.set_cons_zero, List.set_cons_succ]
    refine n_take (i := 6) (v := .agg #[.string i.name, .int .i64 i.kind, .slice E6 i.dims.length e6]) rfl (by rfl) (by kernel_rfl) (by kernel_rfl) (by kernel_rfl) (fun _ _ _ h => h) (Or.inl ⟨by rfl, ?_⟩) (by assumption) ?_
    · (intro w' hSw; simp only [S3, S2] at hSw; go_simp)
    simp only [Act.put, List.setIfInBounds_toArray, List.set_cons_zero, List.set_cons_succ]
    have hw5 : w.heap.size ≤ V80.heap.size := Nat.le_trans HW0.out hge5
    have hw6 : w.heap.size ≤ V61.heap.size := Nat.le_trans HW0.out hge6
    refine wpAnyH_ready (rs := [9]) (by kernel_rfl) (by simp) ?_
    refine AllReadyH.cons rfl (fun K hK => ?_) ?_
    obtain ⟨z0, z1, z2, z3⟩ := HF86.out.four
    have zf := fun j => HF86.out.free j
    obtain ⟨V87, hV, hK1⟩ := n_name (P := Fa w V0 V80.heap.size V61.heap.size g n i A5 c5 D5 d5 E6 e6) (fin2 HL86.out HR86.out HF86.out HG86.out HJ86.out HI86.out hge5 hw5 hn56 hn5)
    have HK1 := Lib.hid hK1
    clear hK1
    go_simp
    refine hK.out _ _ ?_ (fun hH87 => ?_)
    · exact ⟨HS.out _ HK1.out.1, HK1.out.2.2.2.2.1.2⟩
    clear hK K hH86 z0 z1 z2 z3 zf hV
    refine wpAnyH_ready (rs := [10]) (by kernel_rfl) (by simp) ?_
    refine AllReadyH.cons rfl (fun K hK => ?_) ?_
    obtain ⟨z0, z1, z2⟩ := HK1.out.2.2.2.1.three
    have zf := fun j => HK1.out.2.2.2.1.free j
    obtain ⟨V88, hV, hK2⟩ := n_name (P := Fb w V80.heap.size V61.heap.size g n i A c D d E e0 A5 c5 D5 d5 E6 e6) (fin3 HS.out HBX.out HN0.out HI0.out HK1.out hge6 hw6 hn56 hn6)
    have HK2 := Lib.hid hK2
    clear hK2
    go_simp
    refine hK.out _ _ ?_ (fun hH88 => ?_)
    · exact ⟨HK2.out.1, HK2.out.2.1⟩
    clear hK K z0 z1 z2 zf hV
    refine wpAnyH_done (by kernel_rfl) ?_ _
    go_wp2_with fail
    go_meet
    exact ⟨_, _, _, _, _, _, _, _, rfl, rfl, HK2.out.2.2⟩
    exact AllReadyH.nil
    exact AllReadyH.nil
    exact AllReadyH.nil
    exact AllReadyH.nil
    exact AllReadyH.nil
    refine AllReadyH.cons rfl (fun K hK => ?_) ?_
    have hb := (Below.refl V60.heap.size V60).alloc (Nat.le_refl _) (.cells #[.string ⟨#[]⟩, .slice none 0 0, .string ⟨#[]⟩, .slice none 0 0] 32)
    have hst := hb.mono HL60.out.size
    have HL89 := Lib.hid (HL60.out.trans hst)
    have HD89 := Lib.hid ((HD60.out.below (ek_infB _) hb).more (ek_infB _) hb.size)
    have HF89 := Lib.hid ((HBX.out _ HL60.out).1.next #[.string ⟨#[]⟩, .slice none 0 0, .string ⟨#[]⟩, .slice none 0 0] 32)
    have hge5 := HL60.out.size
    clear hb hst
    go_simp
    refine hK.out _ _ ?_ (fun hH89 => ?_)
    · exact HS.out _ HL89.out
    clear hK K hH60
    generalize V60.alloc (.cells #[.string ⟨#[]⟩, .slice none 0 0, .string ⟨#[]⟩, .slice none 0 0] 32) = V89 at *
    refine wpAnyH_ready (rs := [1, 8]) (by kernel_rfl) (by simp) ?_
    refine AllReadyH.cons rfl (fun K hK => ?_) ?_
    go_simp
    go_wp2_with (go_at_call 11; (with_reducible refine (HLN.out _ HL89.out).mono ?_); rintro e V90 ⟨cs, rfl, hr, hb⟩; obtain ⟨A5, c5, D5, d5, rfl⟩ := RNod.shape hr)
    have hst := hb.mono HL89.out.size
    have HL90 := Lib.hid (HL89.out.trans hst)
    have HD90 := Lib.hid ((HD89.out.below (ek_infB _) hb).more (ek_infB _) hb.size)
    have HF90 := Lib.hid (HF89.out.below hb)
    have HR90 := Lib.hid hr
    clear hb hst hr
    refine hK.out _ _ ?_ (fun hH90 => ?_)
    · exact HS.out _ HL90.out
    clear hK K hH89
    refine wpAnyH_ready (rs := [4, 8]) (by kernel_rfl) (by simp) ?_
    refine AllReadyH.cons rfl (fun K hK => ?_) ?_
    go_simp
    go_wp2_with (go_at_call 13; (with_reducible refine (HLX.out _ _ HL90.out HD90.out).mono ?_); rintro e V91 ⟨v, rfl, hr, hgb, hb⟩; obtain ⟨g, cg, E6, e6, rfl, hgu, j0, j1, j2, hia⟩ := rr_oneX hr)
    have hst := hb.mono HL90.out.size
    have hgl := hgb g rfl
    have hn5 : V60.heap.size ≠ g := by have := HF90.out.2.1; omega
    have HL91 := Lib.hid (HL90.out.trans hst)
    have HR91 := Lib.hid (er_nod.keep HR90.out hb HL90.out.size)
    have HF91 := Lib.hid (HF90.out.below hb)
    refine hK.out _ _ ?_ (fun hH91 => ?_)
    · exact HS.out _ HL91.out
    have HJ91 : Hid (J3 g i E6 e6 V91) := Lib.hid ⟨hgu, j0, j1, j2⟩
    have HI91 := Lib.hid hia
    clear hb hst hr hgb hgu hgl hia hK K hH90 hH91 j0 j1 j2
    refine wpAnyH_weaken (S' := S3 n i A c D d E e0 w g E6 e6) (fun W h => h.1) _ _ _ _ ?_
    have hH91 : S3 n i A c D d E e0 w g E6 e6 V91 := ⟨HS.out _ HL91.out, HJ91.out.2⟩
    refine n_take (i := 5) (v := .pointer (some ⟨g, 0, none⟩)) rfl (by rfl) (by kernel_rfl) (by kernel_rfl) (by kernel_rfl) (fun _ _ _ h => h) (Or.inl ⟨by rfl, ?_⟩) (by assumption) ?_
    · (intro w' hSw; simp only [S3, S2] at hSw; go_simp)
    simp only [Act.put, List.setIfInBounds_toArray, List.set_cons_zero, List.set_cons_succ]
    refine n_take (i := 6) (v := .agg #[.string i.name, .int .i64 i.kind, .slice E6 i.dims.length e6]) rfl (by rfl) (by kernel_rfl) (by kernel_rfl) (by kernel_rfl) (fun _ _ _ h => h) (Or.inl ⟨by rfl, ?_⟩) (by assumption) ?_
    · (intro w' hSw; simp only [S3, S2] at hSw; go_simp)
    simp only [Act.put, List.setIfInBounds_toArray, List.set_cons_zero, List.set_cons_succ]
    refine wpAnyH_ready (rs := [8]) (by kernel_rfl) (by simp) ?_
    refine AllReadyH.cons rfl (fun K hK => ?_) ?_
    have hb := (Below.refl V91.heap.size V91).alloc (Nat.le_refl _) (.cells #[.string ⟨#[]⟩, .int .i64 0, .slice none 0 0] 42)
    have hst := hb.mono HL91.out.size
    have HL92 := Lib.hid (HL91.out.trans hst)
    have HR92 := Lib.hid (er_nod.keep HR91.out hb HL91.out.size)
    have HF92 := Lib.hid (HF91.out.below hb)
    have HJ92 := Lib.hid (j3_below HJ91.out hb)
    have HI92 := Lib.hid (ek_inf.below HI91.out hst)
    have HG92 := Lib.hid ((HBX.out _ HL91.out).1.next #[.string ⟨#[]⟩, .int .i64 0, .slice none 0 0] 42)
    have hge6 := HL91.out.size
    have hn6 : V91.heap.size ≠ g := Nat.ne_of_gt HJ91.out.1
    have hn56 : V60.heap.size ≠ V91.heap.size := Nat.ne_of_lt HF91.out.2.1
    clear hb hst
    go_simp
    refine hK.out _ _ ?_ (fun hH92 => ?_)
    · exact ⟨HS.out _ HL92.out, HJ92.out.2⟩
    clear hK K hH91
    generalize V91.alloc (.cells #[.string ⟨#[]⟩, .int .i64 0, .slice none 0 0] 42) = V92 at *
    have hw5 : w.heap.size ≤ V60.heap.size := Nat.le_trans HW0.out hge5
    have hw6 : w.heap.size ≤ V91.heap.size := Nat.le_trans HW0.out hge6
    refine wpAnyH_ready (rs := [9]) (by kernel_rfl) (by simp) ?_
    refine AllReadyH.cons rfl (fun K hK => ?_) ?_
    obtain ⟨z0, z1, z2, z3⟩ := HF92.out.four
    have zf := fun j => HF92.out.free j
    obtain ⟨V93, hV, hK1⟩ := n_name (P := Fa w V0 V60.heap.size V91.heap.size g n i A5 c5 D5 d5 E6 e6) (fin2 HL92.out HR92.out HF92.out HG92.out HJ92.out HI92.out hge5 hw5 hn56 hn5)
    have HK1 := Lib.hid hK1
    clear hK1
    go_simp
    refine hK.out _ _ ?_ (fun hH93 => ?_)
    · exact ⟨HS.out _ HK1.out.1, HK1.out.2.2.2.2.1.2⟩
    clear hK K hH92 z0 z1 z2 z3 zf hV
    refine wpAnyH_ready (rs := [10]) (by kernel_rfl) (by simp) ?_
    refine AllReadyH.cons rfl (fun K hK => ?_) ?_
    obtain ⟨z0, z1, z2⟩ := HK1.out.2.2.2.1.three
    have zf := fun j => HK1.out.2.2.2.1.free j
    obtain ⟨V94, hV, hK2⟩ := n_name (P := Fb w V60.heap.size V91.heap.size g n i A c D d E e0 A5 c5 D5 d5 E6 e6) (fin3 HS.out HBX.out HN0.out HI0.out HK1.out hge6 hw6 hn56 hn6)
    have HK2 := Lib.hid hK2
    clear hK2
    go_simp
    refine hK.out _ _ ?_ (fun hH94 => ?_)
    · exact ⟨HK2.out.1, HK2.out.2.1⟩
    clear hK K z0 z1 z2 zf hV
    refine wpAnyH_done (by kernel_rfl) ?_ _
    go_wp2_with fail
    go_meet
    exact ⟨_, _, _, _, _, _, _, _, rfl, rfl, HK2.out.2.2⟩
    exact AllReadyH.nil
    exact AllReadyH.nil
    exact AllReadyH.nil
    refine AllReadyH.cons rfl (fun K hK => ?_) ?_
    have hb := (Below.refl V90.heap.size V90).alloc (Nat.le_refl _) (.cells #[.string ⟨#[]⟩, .int .i64 0, .slice none 0 0] 42)
    have hst := hb.mono HL90.out.size
    have HL95 := Lib.hid (HL90.out.trans hst)
    have HR95 := Lib.hid (er_nod.keep HR90.out hb HL90.out.size)
    have HD95 := Lib.hid ((HD90.out.below (ek_infB _) hb).more (ek_infB _) hb.size)
    have HF95 := Lib.hid (HF90.out.below hb)
    have HG95 := Lib.hid ((HBX.out _ HL90.out).1.next #[.string ⟨#[]⟩, .int .i64 0, .slice none 0 0] 42)
    have hge6 := HL90.out.size
    have hn56 : V60.heap.size ≠ V90.heap.size := Nat.ne_of_lt HF90.out.2.1
    clear hb hst
    go_simp
    refine hK.out _ _ ?_ (fun hH95 => ?_)
    · exact HS.out _ HL95.out
    clear hK K hH90
    generalize V90.alloc (.cells #[.string ⟨#[]⟩, .int .i64 0, .slice none 0 0] 42) = V95 at *
    refine wpAnyH_ready (rs := [4]) (by kernel_rfl) (by simp) ?_
    refine AllReadyH.cons rfl (fun K hK => ?_) ?_
    go_simp
    go_wp2_with (go_at_call 13; (with_reducible refine (HLX.out _ _ HL95.out HD95.out).mono ?_); rintro e V96 ⟨v, rfl, hr, hgb, hb⟩; obtain ⟨g, cg, E6, e6, rfl, hgu, j0, j1, j2, hia⟩ := rr_oneX hr)
    have hst := hb.mono HL95.out.size
    have hgl := hgb g rfl
    have hn5 : V60.heap.size ≠ g := by have := HF95.out.2.1; omega
    have hn6 : V90.heap.size ≠ g := by have := HG95.out.2.1; omega
    have HL96 := Lib.hid (HL95.out.trans hst)
    have HR96 := Lib.hid (er_nod.keep HR95.out hb HL95.out.size)
    have HF96 := Lib.hid (HF95.out.below hb)
    have HG96 := Lib.hid (HG95.out.below hb)
    refine hK.out _ _ ?_ (fun hH96 => ?_)
    · exact HS.out _ HL96.out
    have HJ96 : Hid (J3 g i E6 e6 V96) := Lib.hid ⟨hgu, j0, j1, j2⟩
    have HI96 := Lib.hid hia
    clear hb hst hr hgb hgu hgl hia hK K hH95 hH96 j0 j1 j2
    refine wpAnyH_weaken (S' := S3 n i A c D d E e0 w g E6 e6) (fun W h => h.1) _ _ _ _ ?_
    have hH96 : S3 n i A c D d E e0 w g E6 e6 V96 := ⟨HS.out _ HL96.out, HJ96.out.2⟩
    refine n_take (i := 5) (v := .pointer (some ⟨g, 0, none⟩)) rfl (by rfl) (by kernel_rfl) (by kernel_rfl) (by kernel_rfl) (fun _ _ _ h => h) (Or.inl ⟨by rfl, ?_⟩) (by assumption) ?_
    · (intro w' hSw; simp only [S3, S2] at hSw; go_simp)
    simp only [Act.put, List.setIfInBounds_toArray, List.set_cons_zero, List.set_cons_succ]
    refine n_take (i := 6) (v := .agg #[.string i.name, .int .i64 i.kind, .slice E6 i.dims.length e6]) rfl (by rfl) (by kernel_rfl) (by kernel_rfl) (by kernel_rfl) (fun _ _ _ h => h) (Or.inl ⟨by rfl, ?_⟩) (by assumption) ?_
    · (intro w' hSw; simp only [S3, S2] at hSw; go_simp)
    simp only [Act.put, List.setIfInBounds_toArray, List.set_cons_zero, List.set_cons_succ]
    have hw5 : w.heap.size ≤ V60.heap.size := Nat.le_trans HW0.out hge5
    have hw6 : w.heap.size ≤ V90.heap.size := Nat.le_trans HW0.out hge6
    refine wpAnyH_ready (rs := [9]) (by kernel_rfl) (by simp) ?_
    refine AllReadyH.cons rfl (fun K hK => ?_) ?_
    obtain ⟨z0, z1, z2, z3⟩ := HF96.out.four
    have zf := fun j => HF96.out.free j
    obtain ⟨V97, hV, hK1⟩ := n_name (P := Fa w V0 V60.heap.size V90.heap.size g n i A5 c5 D5 d5 E6 e6) (fin2 HL96.out HR96.out HF96.out HG96.out HJ96.out HI96.out hge5 hw5 hn56 hn5)
    have HK1 := Lib.hid hK1
    clear hK1
    go_simp
    refine hK.out _ _ ?_ (fun hH97 => ?_)
    · exact ⟨HS.out _ HK1.out.1, HK1.out.2.2.2.2.1.2⟩
    clear hK K hH96 z0 z1 z2 z3 zf hV
    refine wpAnyH_ready (rs := [10]) (by kernel_rfl) (by simp) ?_
    refine AllReadyH.cons rfl (fun K hK => ?_) ?_
    obtain ⟨z0, z1, z2⟩ := HK1.out.2.2.2.1.three
    have zf := fun j => HK1.out.2.2.2.1.free j
    obtain ⟨V98, hV, hK2⟩ := n_name (P := Fb w V60.heap.size V90.heap.size g n i A c D d E e0 A5 c5 D5 d5 E6 e6) (fin3 HS.out HBX.out HN0.out HI0.out HK1.out hge6 hw6 hn56 hn6)
    have HK2 := Lib.hid hK2
    clear hK2
    go_simp
    refine hK.out _ _ ?_ (fun hH98 => ?_)
    · exact ⟨HK2.out.1, HK2.out.2.1⟩
    clear hK K z0 z1 z2 zf hV
    refine wpAnyH_done (by kernel_rfl) ?_ _
    go_wp2_with fail
    go_meet
    exact ⟨_, _, _, _, _, _, _, _, rfl, rfl, HK2.out.2.2⟩
    exact AllReadyH.nil
    exact AllReadyH.nil
    exact AllReadyH.nil
    exact AllReadyH.nil
    refine AllReadyH.cons rfl (fun K hK => ?_) ?_
    have hb := (Below.refl V89.heap.size V89).alloc (Nat.le_refl _) (.cells #[.string ⟨#[]⟩, .int .i64 0, .slice none 0 0] 42)
    have hst := hb.mono HL89.out.size
    have HL99 := Lib.hid (HL89.out.trans hst)
    have HD99 := Lib.hid ((HD89.out.below (ek_infB _) hb).more (ek_infB _) hb.size)
    have HF99 := Lib.hid (HF89.out.below hb)
    have HG99 := Lib.hid ((HBX.out _ HL89.out).1.next #[.string ⟨#[]⟩, .int .i64 0, .slice none 0 0] 42)
    have hge6 := HL89.out.size
    have hn56 : V60.heap.size ≠ V89.heap.size := Nat.ne_of_lt HF89.out.2.1
    clear hb hst
    go_simp
    refine hK.out _ _ ?_ (fun hH99 => ?_)
    · exact HS.out _ HL99.out
    clear hK K hH89
    generalize V89.alloc (.cells #[.string ⟨#[]⟩, .int .i64 0, .slice none 0 0] 42) = V99 at *
    refine wpAnyH_ready (rs := [1]) (by kernel_rfl) (by simp) ?_
    refine AllReadyH.cons rfl (fun K hK => ?_) ?_
    go_simp
    go_wp2_with (go_at_call 11; (with_reducible refine (HLN.out _ HL99.out).mono ?_); rintro e V100 ⟨cs, rfl, hr, hb⟩; obtain ⟨A5, c5, D5, d5, rfl⟩ := RNod.shape hr)
    have hst := hb.mono HL99.out.size
    have HL100 := Lib.hid (HL99.out.trans hst)
    have HD100 := Lib.hid ((HD99.out.below (ek_infB _) hb).more (ek_infB _) hb.size)
    have HF100 := Lib.hid (HF99.out.below hb)
    have HG100 := Lib.hid (HG99.out.below hb)
    have HR100 := Lib.hid hr
    clear hb hst hr
    refine hK.out _ _ ?_ (fun hH100 => ?_)
    · exact HS.out _ HL100.out
    clear hK K hH99
    refine wpAnyH_ready (rs := [4]) (by kernel_rfl) (by simp) ?_
    refine AllReadyH.cons rfl (fun K hK => ?_) ?_
    go_simp
    go_wp2_with (go_at_call 13; (with_reducible refine (HLX.out _ _ HL100.out HD100.out).mono ?_); rintro e V101 ⟨v, rfl, hr, hgb, hb⟩; obtain ⟨g, cg, E6, e6, rfl, hgu, j0, j1, j2, hia⟩ := rr_oneX hr)
    have hst := hb.mono HL100.out.size
    have hgl := hgb g rfl
    have hn5 : V60.heap.size ≠ g := by have := HF100.out.2.1; omega
    have hn6 : V89.heap.size ≠ g := by have := HG100.out.2.1; omega
    have HL101 := Lib.hid (HL100.out.trans hst)
    have HR101 := Lib.hid (er_nod.keep HR100.out hb HL100.out.size)
    have HF101 := Lib.hid (HF100.out.below hb)
    have HG101 := Lib.hid (HG100.out.below hb)
    refine hK.out _ _ ?_ (fun hH101 => ?_)
    · exact HS.out _ HL101.out
    have HJ101 : Hid (J3 g i E6 e6 V101) := Lib.hid ⟨hgu, j0, j1, j2⟩
    have HI101 := Lib.hid hia
    clear hb hst hr hgb hgu hgl hia hK K hH100 hH101 j0 j1 j2
    refine wpAnyH_weaken (S' := S3 n i A c D d E e0 w g E6 e6) (fun W h => h.1) _ _ _ _ ?_
    have hH101 : S3 n i A c D d E e0 w g E6 e6 V101 := ⟨HS.out _ HL101.out, HJ101.out.2⟩
    refine n_take (i := 5) (v := .pointer (some ⟨g, 0, none⟩)) rfl (by rfl) (by kernel_rfl) (by kernel_rfl) (by kernel_rfl) (fun _ _ _ h => h) (Or.inl ⟨by rfl, ?_⟩) (by assumption) ?_
    · (intro w' hSw; simp only [S3, S2] at hSw; go_simp)
    simp only [Act.put, List.setIfInBounds_toArray, List.set_cons_zero, List.set_cons_succ]
    refine n_take (i := 6) (v := .agg #[.string i.name, .int .i64 i.kind, .slice E6 i.dims.length e6]) rfl (by rfl) (by kernel_rfl) (by kernel_rfl) (by kernel_rfl) (fun _ _ _ h => h) (Or.inl ⟨by rfl, ?_⟩) (by assumption) ?_
    · (intro w' hSw; simp only [S3, S2] at hSw; go_simp)
    simp only [Act.put, List.setIfInBounds_toArray, List.set_cons_zero, List.set_cons_succ]
    have hw5 : w.heap.size ≤ V60.heap.size := Nat.le_trans HW0.out hge5
    have hw6 : w.heap.size ≤ V89.heap.size := Nat.le_trans HW0.out hge6
    refine wpAnyH_ready (rs := [9]) (by kernel_rfl) (by simp) ?_
    refine AllReadyH.cons rfl (fun K hK => ?_) ?_
    obtain ⟨z0, z1, z2, z3⟩ := HF101.out.four
    have zf := fun j => HF101.out.free j
    obtain ⟨V102, hV, hK1⟩ := n_name (P := Fa w V0 V60.heap.size V89.heap.size g n i A5 c5 D5 d5 E6 e6) (fin2 HL101.out HR101.out HF101.out HG101.out HJ101.out HI101.out hge5 hw5 hn56 hn5)
    have HK1 := Lib.hid hK1
    clear hK1
    go_simp
    refine hK.out _ _ ?_ (fun hH102 => ?_)
    · exact ⟨HS.out _ HK1.out.1, HK1.out.2.2.2.2.1.2⟩
    clear hK K hH101 z0 z1 z2 z3 zf hV
    refine wpAnyH_ready (rs := [10]) (by kernel_rfl) (by simp) ?_
    refine AllReadyH.cons rfl (fun K hK => ?_) ?_
    obtain ⟨z0, z1, z2⟩ := HK1.out.2.2.2.1.three
    have zf := fun j => HK1.out.2.2.2.1.free j
    obtain ⟨V103, hV, hK2⟩ := n_name (P := Fb w V60.heap.size V89.heap.size g n i A c D d E e0 A5 c5 D5 d5 E6 e6) (fin3 HS.out HBX.out HN0.out HI0.out HK1.out hge6 hw6 hn56 hn6)
    have HK2 := Lib.hid hK2
    clear hK2
    go_simp
    refine hK.out _ _ ?_ (fun hH103 => ?_)
    · exact ⟨HK2.out.1, HK2.out.2.1⟩
    clear hK K z0 z1 z2 zf hV
    refine wpAnyH_done (by kernel_rfl) ?_ _
    go_wp2_with fail
    go_meet
    exact ⟨_, _, _, _, _, _, _, _, rfl, rfl, HK2.out.2.2⟩
    exact AllReadyH.nil
    exact AllReadyH.nil
    exact AllReadyH.nil
    exact AllReadyH.nil
    exact AllReadyH.nil
    refine AllReadyH.cons rfl (fun K hK => ?_) ?_
    have hb := (Below.refl V60.heap.size V60).alloc (Nat.le_refl _) (.cells #[.string ⟨#[]⟩, .int .i64 0, .slice none 0 0] 42)
    have hst := hb.mono HL60.out.size
    have HL104 := Lib.hid (HL60.out.trans hst)
    have HD104 := Lib.hid ((HD60.out.below (ek_infB _) hb).more (ek_infB _) hb.size)
    have HG104 := Lib.hid ((HBX.out _ HL60.out).1.next #[.string ⟨#[]⟩, .int .i64 0, .slice none 0 0] 42)
    have hge6 := HL60.out.size
    clear hb hst
    go_simp
    refine hK.out _ _ ?_ (fun hH104 => ?_)
    · exact HS.out _ HL104.out
    clear hK K hH60
    generalize V60.alloc (.cells #[.string ⟨#[]⟩, .int .i64 0, .slice none 0 0] 42) = V104 at *
    refine wpAnyH_ready (rs := [1, 7]) (by kernel_rfl) (by simp) ?_
    refine AllReadyH.cons rfl (fun K hK => ?_) ?_
    go_simp
    go_wp2_with (go_at_call 11; (with_reducible refine (HLN.out _ HL104.out).mono ?_); rintro e V105 ⟨cs, rfl, hr, hb⟩; obtain ⟨A5, c5, D5, d5, rfl⟩ := RNod.shape hr)
    have hst := hb.mono HL104.out.size
    have HL105 := Lib.hid (HL104.out.trans hst)
    have HD105 := Lib.hid ((HD104.out.below (ek_infB _) hb).more (ek_infB _) hb.size)
    have HG105 := Lib.hid (HG104.out.below hb)
    have HR105 := Lib.hid hr
    clear hb hst hr
    refine hK.out _ _ ?_ (fun hH105 => ?_)
    · exact HS.out _ HL105.out
    clear hK K hH104
    refine wpAnyH_ready (rs := [4, 7]) (by kernel_rfl) (by simp) ?_
    refine AllReadyH.cons rfl (fun K hK => ?_) ?_
    go_simp
    go_wp2_with (go_at_call 13; (with_reducible refine (HLX.out _ _ HL105.out HD105.out).mono ?_); rintro e V106 ⟨v, rfl, hr, hgb, hb⟩; obtain ⟨g, cg, E6, e6, rfl, hgu, j0, j1, j2, hia⟩ := rr_oneX hr)
    have hst := hb.mono HL105.out.size
    have hgl := hgb g rfl
    have hn6 : V60.heap.size ≠ g := by have := HG105.out.2.1; omega
    have HL106 := Lib.hid (HL105.out.trans hst)
    have HR106 := Lib.hid (er_nod.keep HR105.out hb HL105.out.size)
    have HG106 := Lib.hid (HG105.out.below hb)
    refine hK.out _ _ ?_ (fun hH106 => ?_)
    · exact HS.out _ HL106.out
    have HJ106 : Hid (J3 g i E6 e6 V106) := Lib.hid ⟨hgu, j0, j1, j2⟩
    have HI106 := Lib.hid hia
    clear hb hst hr hgb hgu hgl hia hK K hH105 hH106 j0 j1 j2
    refine wpAnyH_weaken (S' := S3 n i A c D d E e0 w g E6 e6) (fun W h => h.1) _ _ _ _ ?_
    have hH106 : S3 n i A c D d E e0 w g E6 e6 V106 := ⟨HS.out _ HL106.out, HJ106.out.2⟩
    refine n_take (i := 5) (v := .pointer (some ⟨g, 0, none⟩)) rfl (by rfl) (by kernel_rfl) (by kernel_rfl) (by kernel_rfl) (fun _ _ _ h => h) (Or.inl ⟨by rfl, ?_⟩) (by assumption) ?_
    · (intro w' hSw; simp only [S3, S2] at hSw; go_simp)
    simp only [Act.put, List.setIfInBounds_toArray, List.set_cons_zero, List.set_cons_succ]
    refine n_take (i := 6) (v := .agg #[.string i.name, .int .i64 i.kind, .slice E6 i.dims.length e6]) rfl (by rfl) (by kernel_rfl) (by kernel_rfl) (by kernel_rfl) (fun _ _ _ h => h) (Or.inl ⟨by rfl, ?_⟩) (by assumption) ?_
    · (intro w' hSw; simp only [S3, S2] at hSw; go_simp)
    simp only [Act.put, List.setIfInBounds_toArray, List.set_cons_zero, List.set_cons_succ]
    refine wpAnyH_ready (rs := [7]) (by kernel_rfl) (by simp) ?_
    refine AllReadyH.cons rfl (fun K hK => ?_) ?_
    have hb := (Below.refl V106.heap.size V106).alloc (Nat.le_refl _) (.cells #[.string ⟨#[]⟩, .slice none 0 0, .string ⟨#[]⟩, .slice none 0 0] 32)
    have hst := hb.mono HL106.out.size
    have HL107 := Lib.hid (HL106.out.trans hst)
    have HR107 := Lib.hid (er_nod.keep HR106.out hb HL106.out.size)
    have HG107 := Lib.hid (HG106.out.below hb)
    have HJ107 := Lib.hid (j3_below HJ106.out hb)
    have HI107 := Lib.hid (ek_inf.below HI106.out hst)
    have HF107 := Lib.hid ((HBX.out _ HL106.out).1.next #[.string ⟨#[]⟩, .slice none 0 0, .string ⟨#[]⟩, .slice none 0 0] 32)
    have hge5 := HL106.out.size
    have hn5 : V106.heap.size ≠ g := Nat.ne_of_gt HJ106.out.1
    have hn56 : V106.heap.size ≠ V60.heap.size := Nat.ne_of_gt HG106.out.2.1
    clear hb hst
    go_simp
    refine hK.out _ _ ?_ (fun hH107 => ?_)
    · exact ⟨HS.out _ HL107.out, HJ107.out.2⟩
    clear hK K hH106
    generalize V106.alloc (.cells #[.string ⟨#[]⟩, .slice none 0 0, .string ⟨#[]⟩, .slice none 0 0] 32) = V107 at *
    have hw5 : w.heap.size ≤ V106.heap.size := Nat.le_trans HW0.out hge5
    have hw6 : w.heap.size ≤ V60.heap.size := Nat.le_trans HW0.out hge6
    refine wpAnyH_ready (rs := [9]) (by kernel_rfl) (by simp) ?_
    refine AllReadyH.cons rfl (fun K hK => ?_) ?_
    obtain ⟨z0, z1, z2, z3⟩ := HF107.out.four
    have zf := fun j => HF107.out.free j
    obtain ⟨V108, hV, hK1⟩ := n_name (P := Fa w V0 V106.heap.size V60.heap.size g n i A5 c5 D5 d5 E6 e6) (fin2 HL107.out HR107.out HF107.out HG107.out HJ107.out HI107.out hge5 hw5 hn56 hn5)
    have HK1 := Lib.hid hK1
    clear hK1
    go_simp
    refine hK.out _ _ ?_ (fun hH108 => ?_)
    · exact ⟨HS.out _ HK1.out.1, HK1.out.2.2.2.2.1.2⟩
    clear hK K hH107 z0 z1 z2 z3 zf hV
    refine wpAnyH_ready (rs := [10]) (by kernel_rfl) (by simp) ?_
    refine AllReadyH.cons rfl (fun K hK => ?_) ?_
    obtain ⟨z0, z1, z2⟩ := HK1.out.2.2.2.1.three
    have zf := fun j => HK1.out.2.2.2.1.free j
    obtain ⟨V109, hV, hK2⟩ := n_name (P := Fb w V106.heap.size V60.heap.size g n i A c D d E e0 A5 c5 D5 d5 E6 e6) (fin3 HS.out HBX.out HN0.out HI0.out HK1.out hge6 hw6 hn56 hn6)
    have HK2 := Lib.hid hK2
    clear hK2
    go_simp
    refine hK.out _ _ ?_ (fun hH109 => ?_)
    · exact ⟨HK2.out.1, HK2.out.2.1⟩
    clear hK K z0 z1 z2 zf hV
    refine wpAnyH_done (by kernel_rfl) ?_ _
    go_wp2_with fail
    go_meet
    exact ⟨_, _, _, _, _, _, _, _, rfl, rfl, HK2.out.2.2⟩
    exact AllReadyH.nil
    exact AllReadyH.nil
    exact AllReadyH.nil
    refine AllReadyH.cons rfl (fun K hK => ?_) ?_
    have hb := (Below.refl V105.heap.size V105).alloc (Nat.le_refl _) (.cells #[.string ⟨#[]⟩, .slice none 0 0, .string ⟨#[]⟩, .slice none 0 0] 32)
    have hst := hb.mono HL105.out.size
    have HL110 := Lib.hid (HL105.out.trans hst)
    have HR110 := Lib.hid (er_nod.keep HR105.out hb HL105.out.size)
    have HD110 := Lib.hid ((HD105.out.below (ek_infB _) hb).more (ek_infB _) hb.size)
    have HG110 := Lib.hid (HG105.out.below hb)
    have HF110 := Lib.hid ((HBX.out _ HL105.out).1.next #[.string ⟨#[]⟩, .slice none 0 0, .string ⟨#[]⟩, .slice none 0 0] 32)
    have hge5 := HL105.out.size
    have hn56 : V105.heap.size ≠ V60.heap.size := Nat.ne_of_gt HG105.out.2.1
    clear hb hst
    go_simp
    refine hK.out _ _ ?_ (fun hH110 => ?_)
    · exact HS.out _ HL110.out
    clear hK K hH105
    generalize V105.alloc (.cells #[.string ⟨#[]⟩, .slice none 0 0, .string ⟨#[]⟩, .slice none 0 0] 32) = V110 at *
    refine wpAnyH_ready (rs := [4]) (by kernel_rfl) (by simp) ?_
    refine AllReadyH.cons rfl (fun K hK => ?_) ?_
    go_simp
    go_wp2_with (go_at_call 13; (with_reducible refine (HLX.out _ _ HL110.out HD110.out).mono ?_); rintro e V111 ⟨v, rfl, hr, hgb, hb⟩; obtain ⟨g, cg, E6, e6, rfl, hgu, j0, j1, j2, hia⟩ := rr_oneX hr)
    have hst := hb.mono HL110.out.size
    have hgl := hgb g rfl
    have hn5 : V105.heap.size ≠ g := by have := HF110.out.2.1; omega
    have hn6 : V60.heap.size ≠ g := by have := HG110.out.2.1; omega
    have HL111 := Lib.hid (HL110.out.trans hst)
    have HR111 := Lib.hid (er_nod.keep HR110.out hb HL110.out.size)
    have HF111 := Lib.hid (HF110.out.below hb)
    have HG111 := Lib.hid (HG110.out.below hb)
    refine hK.out _ _ ?_ (fun hH111 => ?_)
    · exact HS.out _ HL111.out
    have HJ111 : Hid (J3 g i E6 e6 V111) := Lib.hid ⟨hgu, j0, j1, j2⟩
    have HI111 := Lib.hid hia
    clear hb hst hr hgb hgu hgl hia hK K hH110 hH111 j0 j1 j2
    refine wpAnyH_weaken (S' := S3 n i A c D d E e0 w g E6 e6) (fun W h => h.1) _ _ _ _ ?_
    have hH111 : S3 n i A c D d E e0 w g E6 e6 V111 := ⟨HS.out _ HL111.out, HJ111.out.2⟩
    refine n_take (i := 5) (v := .pointer (some ⟨g, 0, none⟩)) rfl (by rfl) (by kernel_rfl) (by kernel_rfl) (by kernel_rfl) (fun _ _ _ h => h) (Or.inl ⟨by rfl, ?_⟩) (by assumption) ?_
    · (intro w' hSw; simp only [S3, S2] at hSw; go_simp)
    simp only [Act.put, List.setIfInBounds_toArray, List.set_cons_zero, List.set_cons_succ]
    refine n_take (i := 6) (v := .agg #[.string i.name, .int .i64 i.kind, .slice E6 i.dims.length e6]) rfl (by rfl) (by kernel_rfl) (by kernel_rfl) (by kernel_rfl) (fun _ _ _ h => h) (Or.inl ⟨by rfl, ?_⟩) (by assumption) ?_
    · (intro w' hSw; simp only [S3, S2] at hSw; go_simp)
    simp only [Act.put, List.setIfInBounds_toArray, List.set_cons_zero, List.set_cons_succ]
    have hw5 : w.heap.size ≤ V105.heap.size := Nat.le_trans HW0.out hge5
    have hw6 : w.heap.size ≤ V60.heap.size := Nat.le_trans HW0.out hge6
    refine wpAnyH_ready (rs := [9]) (by kernel_rfl) (by simp) ?_
    refine AllReadyH.cons rfl (fun K hK => ?_) ?_
    obtain ⟨z0, z1, z2, z3⟩ := HF111.out.four
    have zf := fun j => HF111.out.free j
    obtain ⟨V112, hV, hK1⟩ := n_name (P := Fa w V0 V105.heap.size V60.heap.size g n i A5 c5 D5 d5 E6 e6) (fin2 HL111.out HR111.out HF111.out HG111.out HJ111.out HI111.out hge5 hw5 hn56 hn5)
    have HK1 := Lib.hid hK1
    clear hK1
    go_simp
    refine hK.out _ _ ?_ (fun hH112 => ?_)
    · exact ⟨HS.out _ HK1.out.1, HK1.out.2.2.2.2.1.2⟩
    clear hK K hH111 z0 z1 z2 z3 zf hV
    refine wpAnyH_ready (rs := [10]) (by kernel_rfl) (by simp) ?_
    refine AllReadyH.cons rfl (fun K hK => ?_) ?_
    obtain ⟨z0, z1, z2⟩ := HK1.out.2.2.2.1.three
    have zf := fun j => HK1.out.2.2.2.1.free j
    obtain ⟨V113, hV, hK2⟩ := n_name (P := Fb w V105.heap.size V60.heap.size g n i A c D d E e0 A5 c5 D5 d5 E6 e6) (fin3 HS.out HBX.out HN0.out HI0.out HK1.out hge6 hw6 hn56 hn6)
    have HK2 := Lib.hid hK2
    clear hK2
    go_simp
    refine hK.out _ _ ?_ (fun hH113 => ?_)
    · exact ⟨HK2.out.1, HK2.out.2.1⟩
    clear hK K z0 z1 z2 zf hV
    refine wpAnyH_done (by kernel_rfl) ?_ _
    go_wp2_with fail
    go_meet
    exact ⟨_, _, _, _, _, _, _, _, rfl, rfl, HK2.out.2.2⟩
    exact AllReadyH.nil
    exact AllReadyH.nil
    exact AllReadyH.nil
    exact AllReadyH.nil
    refine AllReadyH.cons rfl (fun K hK => ?_) ?_
    have hb := (Below.refl V104.heap.size V104).alloc (Nat.le_refl _) (.cells #[.string ⟨#[]⟩, .slice none 0 0, .string ⟨#[]⟩, .slice none 0 0] 32)
    have hst := hb.mono HL104.out.size
    have HL114 := Lib.hid (HL104.out.trans hst)
    have HD114 := Lib.hid ((HD104.out.below (ek_infB _) hb).more (ek_infB _) hb.size)
    have HG114 := Lib.hid (HG104.out.below hb)
    have HF114 := Lib.hid ((HBX.out _ HL104.out).1.next #[.string ⟨#[]⟩, .slice none 0 0, .string ⟨#[]⟩, .slice none 0 0] 32)
    have hge5 := HL104.out.size
    have hn56 : V104.heap.size ≠ V60.heap.size := Nat.ne_of_gt HG104.out.2.1
    clear hb hst
    go_simp
    refine hK.out _ _ ?_ (fun hH114 => ?_)
    · exact HS.out _ HL114.out
    clear hK K hH104
    generalize V104.alloc (.cells #[.string ⟨#[]⟩, .slice none 0 0, .string ⟨#[]⟩, .slice none 0 0] 32) = V114 at *
    refine wpAnyH_ready (rs := [1]) (by kernel_rfl) (by simp) ?_
    refine AllReadyH.cons rfl (fun K hK => ?_) ?_
    go_simp
    go_wp2_with (go_at_call 11; (with_reducible refine (HLN.out _ HL114.out).mono ?_); rintro e V115 ⟨cs, rfl, hr, hb⟩; obtain ⟨A5, c5, D5, d5, rfl⟩ := RNod.shape hr)
    have hst := hb.mono HL114.out.size
    have HL115 := Lib.hid (HL114.out.trans hst)
    have HD115 := Lib.hid ((HD114.out.below (ek_infB _) hb).more (ek_infB _) hb.size)
    have HF115 := Lib.hid (HF114.out.below hb)
    have HG115 := Lib.hid (HG114.out.below hb)
    have HR115 := Lib.hid hr
    clear hb hst hr
    refine hK.out _ _ ?_ (fun hH115 => ?_)
    · exact HS.out _ HL115.out
    clear hK K hH114
    refine wpAnyH_ready (rs := [4]) (by kernel_rfl) (by simp) ?_
    refine AllReadyH.cons rfl (fun K hK => ?_) ?_
    go_simp
    go_wp2_with (go_at_call 13; (with_reducible refine (HLX.out _ _ HL115.out HD115.out).mono ?_); rintro e V116 ⟨v, rfl, hr, hgb, hb⟩; obtain ⟨g, cg, E6, e6, rfl, hgu, j0, j1, j2, hia⟩ := rr_oneX hr)
    have hst := hb.mono HL115.out.size
    have hgl := hgb g rfl
    have hn5 : V104.heap.size ≠ g := by have := HF115.out.2.1; omega
    have hn6 : V60.heap.size ≠ g := by have := HG115.out.2.1; omega
    have HL116 := Lib.hid (HL115.out.trans hst)
    have HR116 := Lib.hid (er_nod.keep HR115.out hb HL115.out.size)
    have HF116 := Lib.hid (HF115.out.below hb)
    have HG116 := Lib.hid (HG115.out.below hb)
    refine hK.out _ _ ?_ (fun hH116 => ?_)
    · exact HS.out _ HL116.out
    have HJ116 : Hid (J3 g i E6 e6 V116) := Lib.hid ⟨hgu, j0, j1, j2⟩
    have HI116 := Lib.hid hia
    clear hb hst hr hgb hgu hgl hia hK K hH115 hH116 j0 j1 j2
    refine wpAnyH_weaken (S' := S3 n i A c D d E e0 w g E6 e6) (fun W h => h.1) _ _ _ _ ?_
    have hH116 : S3 n i A c D d E e0 w g E6 e6 V116 := ⟨HS.out _ HL116.out, HJ116.out.2⟩
    refine n_take (i := 5) (v := .pointer (some ⟨g, 0, none⟩)) rfl (by rfl) (by kernel_rfl) (by kernel_rfl) (by kernel_rfl) (fun _ _ _ h => h) (Or.inl ⟨by rfl, ?_⟩) (by assumption) ?_
    · (intro w' hSw; simp only [S3, S2] at hSw; go_simp)
    simp only [Act.put, List.setIfInBounds_toArray, List.set_cons_zero, List.set_cons_succ]
    refine n_take (i := 6) (v := .agg #[.string i.name, .int .i64 i.kind, .slice E6 i.dims.length e6]) rfl (by rfl) (by kernel_rfl) (by kernel_rfl) (by kernel_rfl) (fun _ _ _ h => h) (Or.inl ⟨by rfl, ?_⟩) (by assumption) ?_
    · (intro w' hSw; simp only [S3, S2] at hSw; go_simp)
    simp only [Act.put, List.setIfInBounds_toArray, List.set_cons_zero, List.set_cons_succ]
    have hw5 : w.heap.size ≤ V104.heap.size := Nat.le_trans HW0.out hge5
    have hw6 : w.heap.size ≤ V60.heap.size := Nat.le_trans HW0.out hge6
    refine wpAnyH_ready (rs := [9]) (by kernel_rfl) (by simp) ?_
    refine AllReadyH.cons rfl (fun K hK => ?_) ?_
    obtain ⟨z0, z1, z2, z3⟩ := HF116.out.four
    have zf := fun j => HF116.out.free j
    obtain ⟨V117, hV, hK1⟩ := n_name (P := Fa w V0 V104.heap.size V60.heap.size g n i A5 c5 D5 d5 E6 e6) (fin2 HL116.out HR116.out HF116.out HG116.out HJ116.out HI116.out hge5 hw5 hn56 hn5)
    have HK1 := Lib.hid hK1
    clear hK1
    go_simp
    refine hK.out _ _ ?_ (fun hH117 => ?_)
    · exact ⟨HS.out _ HK1.out.1, HK1.out.2.2.2.2.1.2⟩
    clear hK K hH116 z0 z1 z2 z3 zf hV
    refine wpAnyH_ready (rs := [10]) (by kernel_rfl) (by simp) ?_
    refine AllReadyH.cons rfl (fun K hK => ?_) ?_
    obtain ⟨z0, z1, z2⟩ := HK1.out.2.2.2.1.three
    have zf := fun j => HK1.out.2.2.2.1.free j
    obtain ⟨V118, hV, hK2⟩ := n_name (P := Fb w V104.heap.size V60.heap.size g n i A c D d E e0 A5 c5 D5 d5 E6 e6) (fin3 HS.out HBX.out HN0.out HI0.out HK1.out hge6 hw6 hn56 hn6)
    have HK2 := Lib.hid hK2
    clear hK2
    go_simp
    refine hK.out _ _ ?_ (fun hH118 => ?_)
    · exact ⟨HK2.out.1, HK2.out.2.1⟩
    clear hK K z0 z1 z2 zf hV
    refine wpAnyH_done (by kernel_rfl) ?_ _
    go_wp2_with fail
    go_meet
    exact ⟨_, _, _, _, _, _, _, _, rfl, rfl, HK2.out.2.2⟩
    exact AllReadyH.nil
    exact AllReadyH.nil
    exact AllReadyH.nil
    exact AllReadyH.nil
    exact AllReadyH.nil
    exact AllReadyH.nil
    refine AllReadyH.cons rfl (fun K hK => ?_) ?_
    have hb := (Below.refl V0.heap.size V0).alloc (Nat.le_refl _) (.cells #[.string ⟨#[]⟩, .slice none 0 0, .string ⟨#[]⟩, .slice none 0 0] 32)
    have hst := hb.mono HL0.out.size
    have HL119 := Lib.hid (HL0.out.trans hst)
    have HF119 := Lib.hid ((HBX.out _ HL0.out).1.next #[.string ⟨#[]⟩, .slice none 0 0, .string ⟨#[]⟩, .slice none 0 0] 32)
    have hge5 := HL0.out.size
    clear hb hst
    go_simp
    refine hK.out _ _ ?_ (fun hH119 => ?_)
    · exact HS.out _ HL119.out
    clear hK K hH0
    generalize V0.alloc (.cells #[.string ⟨#[]⟩, .slice none 0 0, .string ⟨#[]⟩, .slice none 0 0] 32) = V119 at *
    refine wpAnyH_ready (rs := [1, 3, 8]) (by kernel_rfl) (by simp) ?_
    refine AllReadyH.cons rfl (fun K hK => ?_) ?_
    go_simp
    go_wp2_with (go_at_call 11; (with_reducible refine (HLN.out _ HL119.out).mono ?_); rintro e V120 ⟨cs, rfl, hr, hb⟩; obtain ⟨A5, c5, D5, d5, rfl⟩ := RNod.shape hr)
    have hst := hb.mono HL119.out.size
    have HL120 := Lib.hid (HL119.out.trans hst)
    have HF120 := Lib.hid (HF119.out.below hb)
    have HR120 := Lib.hid hr
    clear hb hst hr
    refine hK.out _ _ ?_ (fun hH120 => ?_)
    · exact HS.out _ HL120.out
    clear hK K hH119
    refine wpAnyH_ready (rs := [3, 8]) (by kernel_rfl) (by simp) ?_
    refine AllReadyH.cons rfl (fun K hK => ?_) ?_
    have hb := (Below.refl V120.heap.size V120).alloc (Nat.le_refl _) (.cells #[.string i.name, .int .i64 i.kind, .slice E i.dims.length e0] 38)
    have hst := hb.mono HL120.out.size
    have HL121 := Lib.hid (HL120.out.trans hst)
    have HR121 := Lib.hid (er_nod.keep HR120.out hb HL120.out.size)
    have HF121 := Lib.hid (HF120.out.below hb)
    have HD121 := Lib.hid (dr_litX V120 V0.heap.size i E e0 38 HL120.out.size (ek_inf.below HI0.out HL120.out))
    clear hb hst
    go_simp
    refine hK.out _ _ ?_ (fun hH121 => ?_)
    · exact HS.out _ HL121.out
    clear hK K hH120
    generalize V120.alloc (.cells #[.string i.name, .int .i64 i.kind, .slice E i.dims.length e0] 38) = V121 at *
    refine wpAnyH_ready (rs := [4, 8]) (by kernel_rfl) (by simp) ?_
    refine AllReadyH.cons rfl (fun K hK => ?_) ?_
    go_simp
    go_wp2_with (go_at_call 13; (with_reducible refine (HLX.out _ _ HL121.out HD121.out).mono ?_); rintro e V122 ⟨v, rfl, hr, hgb, hb⟩; obtain ⟨g, cg, E6, e6, rfl, hgu, j0, j1, j2, hia⟩ := rr_oneX hr)
    have hst := hb.mono HL121.out.size
    have hgl := hgb g rfl
    have hn5 : V0.heap.size ≠ g := by have := HF121.out.2.1; omega
    have HL122 := Lib.hid (HL121.out.trans hst)
    have HR122 := Lib.hid (er_nod.keep HR121.out hb HL121.out.size)
    have HF122 := Lib.hid (HF121.out.below hb)
    refine hK.out _ _ ?_ (fun hH122 => ?_)
    · exact HS.out _ HL122.out
    have HJ122 : Hid (J3 g i E6 e6 V122) := Lib.hid ⟨hgu, j0, j1, j2⟩
    have HI122 := Lib.hid hia
    clear hb hst hr hgb hgu hgl hia hK K hH121 hH122 j0 j1 j2
    refine wpAnyH_weaken (S' := S3 n i A c D d E e0 w g E6 e6) (fun W h => h.1) _ _ _ _ ?_
    have hH122 : S3 n i A c D d E e0 w g E6 e6 V122 := ⟨HS.out _ HL122.out, HJ122.out.2⟩
    refine n_take (i := 5) (v := .pointer (some ⟨g, 0, none⟩)) rfl (by rfl) (by kernel_rfl) (by kernel_rfl) (by kernel_rfl) (fun _ _ _ h => h) (Or.inl ⟨by rfl, ?_⟩) (by assumption) ?_
    · (intro w' hSw; simp only [S3, S2] at hSw; go_simp)
    simp only [Act.put, List.setIfInBounds_toArray, List.set_cons_zero, List.set_cons_succ]
    refine n_take (i := 6) (v := .agg #[.string i.name, .int .i64 i.kind, .slice E6 i.dims.length e6]) rfl (by rfl) (by kernel_rfl) (by kernel_rfl) (by kernel_rfl) (fun _ _ _ h => h) (Or.inl ⟨by rfl, ?_⟩) (by assumption) ?_
    · (intro w' hSw; simp only [S3, S2] at hSw; go_simp)
    simp only [Act.put, List.setIfInBounds_toArray, List.set_cons_zero, List.set_cons_succ]
    refine wpAnyH_ready (rs := [8]) (by kernel_rfl) (by simp) ?_
    refine AllReadyH.cons rfl (fun K hK => ?_) ?_
    have hb := (Below.refl V122.heap.size V122).alloc (Nat.le_refl _) (.cells #[.string ⟨#[]⟩, .int .i64 0, .slice none 0 0] 42)
    have hst := hb.mono HL122.out.size
    have HL123 := Lib.hid (HL122.out.trans hst)
    have HR123 := Lib.hid (er_nod.keep HR122.out hb HL122.out.size)
    have HF123 := Lib.hid (HF122.out.below hb)
    have HJ123 := Lib.hid (j3_below HJ122.out hb)
    have HI123 := Lib.hid (ek_inf.below HI122.out hst)
    have HG123 := Lib.hid ((HBX.out _ HL122.out).1.next #[.string ⟨#[]⟩, .int .i64 0, .slice none 0 0] 42)
    have hge6 := HL122.out.size
    have hn6 : V122.heap.size ≠ g := Nat.ne_of_gt HJ122.out.1
    have hn56 : V0.heap.size ≠ V122.heap.size := Nat.ne_of_lt HF122.out.2.1
    clear hb hst
    go_simp
    refine hK.out _ _ ?_ (fun hH123 => ?_)
    · exact ⟨HS.out _ HL123.out, HJ123.out.2⟩
    clear hK K hH122
    generalize V122.alloc (.cells #[.string ⟨#[]⟩, .int .i64 0, .slice none 0 0] 42) = V123 at *
    have hw5 : w.heap.size ≤ V0.heap.size := Nat.le_trans HW0.out hge5
    have hw6 : w.heap.size ≤ V122.heap.size := Nat.le_trans HW0.out hge6
    refine wpAnyH_ready (rs := [9]) (by kernel_rfl) (by simp) ?_
    refine AllReadyH.cons rfl (fun K hK => ?_) ?_
    obtain ⟨z0, z1, z2, z3⟩ := HF123.out.four
    have zf := fun j => HF123.out.free j
    obtain ⟨V124, hV, hK1⟩ := n_name (P := Fa w V0 V0.heap.size V122.heap.size g n i A5 c5 D5 d5 E6 e6) (fin2 HL123.out HR123.out HF123.out HG123.out HJ123.out HI123.out hge5 hw5 hn56 hn5)
    have HK1 := Lib.hid hK1
    clear hK1
    go_simp
    refine hK.out _ _ ?_ (fun hH124 => ?_)
    · exact ⟨HS.out _ HK1.out.1, HK1.out.2.2.2.2.1.2⟩
    clear hK K hH123 z0 z1 z2 z3 zf hV
    refine wpAnyH_ready (rs := [10]) (by kernel_rfl) (by simp) ?_
    refine AllReadyH.cons rfl (fun K hK => ?_) ?_
    obtain ⟨z0, z1, z2⟩ := HK1.out.2.2.2.1.three
    have zf := fun j => HK1.out.2.2.2.1.free j
    obtain ⟨V125, hV, hK2⟩ := n_name (P := Fb w V0.heap.size V122.heap.size g n i A c D d E e0 A5 c5 D5 d5 E6 e6) (fin3 HS.out HBX.out HN0.out HI0.out HK1.out hge6 hw6 hn56 hn6)
    have HK2 := Lib.hid hK2
    clear hK2
    go_simp
    refine hK.out _ _ ?_ (fun hH125 => ?_)
    · exact ⟨HK2.out.1, HK2.out.2.1⟩
    clear hK K z0 z1 z2 zf hV
    refine wpAnyH_done (by kernel_rfl) ?_ _
    go_wp2_with fail
    go_meet
    exact ⟨_, _, _, _, _, _, _, _, rfl, rfl, HK2.out.2.2⟩
    exact AllReadyH.nil
    exact AllReadyH.nil
    exact AllReadyH.nil
    refine AllReadyH.cons rfl (fun K hK => ?_) ?_
    have hb := (Below.refl V121.heap.size V121).alloc (Nat.le_refl _) (.cells #[.string ⟨#[]⟩, .int .i64 0, .slice none 0 0] 42)
    have hst := hb.mono HL121.out.size
    have HL126 := Lib.hid (HL121.out.trans hst)
    have HR126 := Lib.hid (er_nod.keep HR121.out hb HL121.out.size)
    have HD126 := Lib.hid ((HD121.out.below (ek_infB _) hb).more (ek_infB _) hb.size)
    have HF126 := Lib.hid (HF121.out.below hb)
    have HG126 := Lib.hid ((HBX.out _ HL121.out).1.next #[.string ⟨#[]⟩, .int .i64 0, .slice none 0 0] 42)
    have hge6 := HL121.out.size
    have hn56 : V0.heap.size ≠ V121.heap.size := Nat.ne_of_lt HF121.out.2.1
    clear hb hst
    go_simp
    refine hK.out _ _ ?_ (fun hH126 => ?_)
    · exact HS.out _ HL126.out
    clear hK K hH121
    generalize V121.alloc (.cells #[.string ⟨#[]⟩, .int .i64 0, .slice none 0 0] 42) = V126 at *
    refine wpAnyH_ready (rs := [4]) (by kernel_rfl) (by simp) ?_
    refine AllReadyH.cons rfl (fun K hK => ?_) ?_
    go_simp
    go_wp2_with (go_at_call 13; (with_reducible refine (HLX.out _ _ HL126.out HD126.out).mono ?_); rintro e V127 ⟨v, rfl, hr, hgb, hb⟩; obtain ⟨g, cg, E6, e6, rfl, hgu, j0, j1, j2, hia⟩ := rr_oneX hr)
    have hst := hb.mono HL126.out.size
    have hgl := hgb g rfl
    have hn5 : V0.heap.size ≠ g := by have := HF126.out.2.1; omega
    have hn6 : V121.heap.size ≠ g := by have := HG126.out.2.1; omega
    have HL127 := Lib.hid (HL126.out.trans hst)
    have HR127 := Lib.hid (er_nod.keep HR126.out hb HL126.out.size)
    have HF127 := Lib.hid (HF126.out.below hb)
    have HG127 := Lib.hid (HG126.out.below hb)
    refine hK.out _ _ ?_ (fun hH127 => ?_)
    · exact HS.out _ HL127.out
    have HJ127 : Hid (J3 g i E6 e6 V127) := Lib.hid ⟨hgu, j0, j1, j2⟩
    have HI127 := Lib.hid hia
    clear hb hst hr hgb hgu hgl hia hK K hH126 hH127 j0 j1 j2
    refine wpAnyH_weaken (S' := S3 n i A c D d E e0 w g E6 e6) (fun W h => h.1) _ _ _ _ ?_
    have hH127 : S3 n i A c D d E e0 w g E6 e6 V127 := ⟨HS.out _ HL127.out, HJ127.out.2⟩
    refine n_take (i := 5) (v := .pointer (some ⟨g, 0, none⟩)) rfl (by rfl) (by kernel_rfl) (by kernel_rfl) (by kernel_rfl) (fun _ _ _ h => h) (Or.inl ⟨by rfl, ?_⟩) (by assumption) ?_
    · (intro w' hSw; simp only [S3, S2] at hSw; go_simp)
    simp only [Act.put, List.setIfInBounds_toArray, List.set_cons_zero, List.set_cons_succ]
    refine n_take (i := 6) (v := .agg #[.string i.name, .int .i64 i.kind, .slice E6 i.dims.length e6]) rfl (by rfl) (by kernel_rfl) (by kernel_rfl) (by kernel_rfl) (fun _ _ _ h => h) (Or.inl ⟨by rfl, ?_⟩) (by assumption) ?_
    · (intro w' hSw; simp only [S3, S2] at hSw; go_simp)
    simp only [Act.put, List.setIfInBounds_toArray, List.set_cons_zero, List.set_cons_succ]
    have hw5 : w.heap.size ≤ V0.heap.size := Nat.le_trans HW0.out hge5
    have hw6 : w.heap.size ≤ V121.heap.size := Nat.le_trans HW0.out hge6
    refine wpAnyH_ready (rs := [9]) (by kernel_rfl) (by simp) ?_
    refine AllReadyH.cons rfl (fun K hK => ?_) ?_
    obtain ⟨z0, z1, z2, z3⟩ := HF127.out.four
    have zf := fun j => HF127.out.free j
    obtain ⟨V128, hV, hK1⟩ := n_name (P := Fa w V0 V0.heap.size V121.heap.size g n i A5 c5 D5 d5 E6 e6) (fin2 HL127.out HR127.out HF127.out HG127.out HJ127.out HI127.out hge5 hw5 hn56 hn5)
    have HK1 := Lib.hid hK1
    clear hK1
    go_simp
    refine hK.out _ _ ?_ (fun hH128 => ?_)
    · exact ⟨HS.out _ HK1.out.1, HK1.out.2.2.2.2.1.2⟩
    clear hK K hH127 z0 z1 z2 z3 zf hV
    refine wpAnyH_ready (rs := [10]) (by kernel_rfl) (by simp) ?_
    refine AllReadyH.cons rfl (fun K hK => ?_) ?_
    obtain ⟨z0, z1, z2⟩ := HK1.out.2.2.2.1.three
    have zf := fun j => HK1.out.2.2.2.1.free j
    obtain ⟨V129, hV, hK2⟩ := n_name (P := Fb w V0.heap.size V121.heap.size g n i A c D d E e0 A5 c5 D5 d5 E6 e6) (fin3 HS.out HBX.out HN0.out HI0.out HK1.out hge6 hw6 hn56 hn6)
    have HK2 := Lib.hid hK2
    clear hK2
    go_simp
    refine hK.out _ _ ?_ (fun hH129 => ?_)
    · exact ⟨HK2.out.1, HK2.out.2.1⟩
    clear hK K z0 z1 z2 zf hV
    refine wpAnyH_done (by kernel_rfl) ?_ _
    go_wp2_with fail
    go_meet
    exact ⟨_, _, _, _, _, _, _, _, rfl, rfl, HK2.out.2.2⟩
    exact AllReadyH.nil
    exact AllReadyH.nil
    exact AllReadyH.nil
    exact AllReadyH.nil
    refine AllReadyH.cons rfl (fun K hK => ?_) ?_
    have hb := (Below.refl V120.heap.size V120).alloc (Nat.le_refl _) (.cells #[.string ⟨#[]⟩, .int .i64 0, .slice none 0 0] 42)
    have hst := hb.mono HL120.out.size
    have HL130 := Lib.hid (HL120.out.trans hst)
    have HR130 := Lib.hid (er_nod.keep HR120.out hb HL120.out.size)
    have HF130 := Lib.hid (HF120.out.below hb)
    have HG130 := Lib.hid ((HBX.out _ HL120.out).1.next #[.string ⟨#[]⟩, .int .i64 0, .slice none 0 0] 42)
    have hge6 := HL120.out.size
    have hn56 : V0.heap.size ≠ V120.heap.size := Nat.ne_of_lt HF120.out.2.1
    clear hb hst
    go_simp
    refine hK.out _ _ ?_ (fun hH130 => ?_)
    · exact HS.out _ HL130.out
    clear hK K hH120
    generalize V120.alloc (.cells #[.string ⟨#[]⟩, .int .i64 0, .slice none 0 0] 42) = V130 at *
    refine wpAnyH_ready (rs := [3]) (by kernel_rfl) (by simp) ?_
    refine AllReadyH.cons rfl (fun K hK => ?_) ?_
    have hb := (Below.refl V130.heap.size V130).alloc (Nat.le_refl _) (.cells #[.string i.name, .int .i64 i.kind, .slice E i.dims.length e0] 38)
    have hst := hb.mono HL130.out.size
    have HL131 := Lib.hid (HL130.out.trans hst)
    have HR131 := Lib.hid (er_nod.keep HR130.out hb HL130.out.size)
    have HF131 := Lib.hid (HF130.out.below hb)
    have HG131 := Lib.hid (HG130.out.below hb)
    have HD131 := Lib.hid (dr_litX V130 V0.heap.size i E e0 38 HL130.out.size (ek_inf.below HI0.out HL130.out))
    clear hb hst
    go_simp
    refine hK.out _ _ ?_ (fun hH131 => ?_)
    · exact HS.out _ HL131.out
    clear hK K hH130
    generalize V130.alloc (.cells #[.string i.name, .int .i64 i.kind, .slice E i.dims.length e0] 38) = V131 at *
    refine wpAnyH_ready (rs := [4]) (by kernel_rfl) (by simp) ?_
    refine AllReadyH.cons rfl (fun K hK => ?_) ?_
    go_simp
    go_wp2_with (go_at_call 13; (with_reducible refine (HLX.out _ _ HL131.out HD131.out).mono ?_); rintro e V132 ⟨v, rfl, hr, hgb, hb⟩; obtain ⟨g, cg, E6, e6, rfl, hgu, j0, j1, j2, hia⟩ := rr_oneX hr)
    have hst := hb.mono HL131.out.size
    have hgl := hgb g rfl
    have hn5 : V0.heap.size ≠ g := by have := HF131.out.2.1; omega
    have hn6 : V120.heap.size ≠ g := by have := HG131.out.2.1; omega
    have HL132 := Lib.hid (HL131.out.trans hst)
    have HR132 := Lib.hid (er_nod.keep HR131.out hb HL131.out.size)
    have HF132 := Lib.hid (HF131.out.below hb)
    have HG132 := Lib.hid (HG131.out.below hb)
    refine hK.out _ _ ?_ (fun hH132 => ?_)
    · exact HS.out _ HL132.out
    have HJ132 : Hid (J3 g i E6 e6 V132) := Lib.hid ⟨hgu, j0, j1, j2⟩
    have HI132 := Lib.hid hia
    clear hb hst hr hgb hgu hgl hia hK K hH131 hH132 j0 j1 j2
    refine wpAnyH_weaken (S' := S3 n i A c D d E e0 w g E6 e6) (fun W h => h.1) _ _ _ _ ?_
    have hH132 : S3 n i A c D d E e0 w g E6 e6 V132 := ⟨HS.out _ HL132.out, HJ132.out.2⟩
    refine n_take (i := 5) (v := .pointer (some ⟨g, 0, none⟩)) rfl (by rfl) (by kernel_rfl) (by kernel_rfl) (by kernel_rfl) (fun _ _ _ h => h) (Or.inl ⟨by rfl, ?_⟩) (by assumption) ?_
    · (intro w' hSw; simp only [S3, S2] at hSw; go_simp)
    simp only [Act.put, List.setIfInBounds_toArray, List.set_cons_zero, List.set_cons_succ]
    refine n_take (i := 6) (v := .agg #[.string i.name, .int .i64 i.kind, .slice E6 i.dims.length e6]) rfl (by rfl) (by kernel_rfl) (by kernel_rfl) (by kernel_rfl) (fun _ _ _ h => h) (Or.inl ⟨by rfl, ?_⟩) (by assumption) ?_
    · (intro w' hSw; simp only [S3, S2] at hSw; go_simp)
    simp only [Act.put, List.setIfInBounds_toArray, List.set_cons_zero, List.set_cons_succ]
    have hw5 : w.heap.size ≤ V0.heap.size := Nat.le_trans HW0.out hge5
    have hw6 : w.heap.size ≤ V120.heap.size := Nat.le_trans HW0.out hge6
    refine wpAnyH_ready (rs := [9]) (by kernel_rfl) (by simp) ?_
    refine AllReadyH.cons rfl (fun K hK => ?_) ?_
    obtain ⟨z0, z1, z2, z3⟩ := HF132.out.four
    have zf := fun j => HF132.out.free j
    obtain ⟨V133, hV, hK1⟩ := n_name (P := Fa w V0 V0.heap.size V120.heap.size g n i A5 c5 D5 d5 E6 e6) (fin2 HL132.out HR132.out HF132.out HG132.out HJ132.out HI132.out hge5 hw5 hn56 hn5)
    have HK1 := Lib.hid hK1
    clear hK1
    go_simp
    refine hK.out _ _ ?_ (fun hH133 => ?_)
    · exact ⟨HS.out _ HK1.out.1, HK1.out.2.2.2.2.1.2⟩
    clear hK K hH132 z0 z1 z2 z3 zf hV
    refine wpAnyH_ready (rs := [10]) (by kernel_rfl) (by simp) ?_
    refine AllReadyH.cons rfl (fun K hK => ?_) ?_
    obtain ⟨z0, z1, z2⟩ := HK1.out.2.2.2.1.three
    have zf := fun j => HK1.out.2.2.2.1.free j
    obtain ⟨V134, hV, hK2⟩ := n_name (P := Fb w V0.heap.size V120.heap.size g n i A c D d E e0 A5 c5 D5 d5 E6 e6) (fin3 HS.out HBX.out HN0.out HI0.out HK1.out hge6 hw6 hn56 hn6)
    have HK2 := Lib.hid hK2
    clear hK2
    go_simp
    refine hK.out _ _ ?_ (fun hH134 => ?_)
    · exact ⟨HK2.out.1, HK2.out.2.1⟩
    clear hK K z0 z1 z2 zf hV
    refine wpAnyH_done (by kernel_rfl) ?_ _
    go_wp2_with fail
    go_meet
    exact ⟨_, _, _, _, _, _, _, _, rfl, rfl, HK2.out.2.2⟩
    exact AllReadyH.nil
    exact AllReadyH.nil
    exact AllReadyH.nil
    exact AllReadyH.nil
    exact AllReadyH.nil
    refine AllReadyH.cons rfl (fun K hK => ?_) ?_
    have hb := (Below.refl V119.heap.size V119).alloc (Nat.le_refl _) (.cells #[.string i.name, .int .i64 i.kind, .slice E i.dims.length e0] 38)
    have hst := hb.mono HL119.out.size
    have HL135 := Lib.hid (HL119.out.trans hst)
    have HF135 := Lib.hid (HF119.out.below hb)
    have HD135 := Lib.hid (dr_litX V119 V0.heap.size i E e0 38 HL119.out.size (ek_inf.below HI0.out HL119.out))
    clear hb hst
    go_simp
    refine hK.out _ _ ?_ (fun hH135 => ?_)
    · exact HS.out _ HL135.out
    clear hK K hH119
    generalize V119.alloc (.cells #[.string i.name, .int .i64 i.kind, .slice E i.dims.length e0] 38) = V135 at *
    refine wpAnyH_ready (rs := [1, 8]) (by kernel_rfl) (by simp) ?_
    refine AllReadyH.cons rfl (fun K hK => ?_) ?_
    go_simp
    go_wp2_with (go_at_call 11; (with_reducible refine (HLN.out _ HL135.out).mono ?_); rintro e V136 ⟨cs, rfl, hr, hb⟩; obtain ⟨A5, c5, D5, d5, rfl⟩ := RNod.shape hr)
    have hst := hb.mono HL135.out.size
    have HL136 := Lib.hid (HL135.out.trans hst)
    have HD136 := Lib.hid ((HD135.out.below (ek_infB _) hb).more (ek_infB _) hb.size)
    have HF136 := Lib.hid (HF135.out.below hb)
    have HR136 := Lib.hid hr
    clear hb hst hr
    refine hK.out _ _ ?_ (fun hH136 => ?_)
    · exact HS.out _ HL136.out
    clear hK K hH135
    refine wpAnyH_ready (rs := [4, 8]) (by kernel_rfl) (by simp) ?_
    refine AllReadyH.cons rfl (fun K hK => ?_) ?_
    go_simp
    go_wp2_with (go_at_call 13; (with_reducible refine (HLX.out _ _ HL136.out HD136.out).mono ?_); rintro e V137 ⟨v, rfl, hr, hgb, hb⟩; obtain ⟨g, cg, E6, e6, rfl, hgu, j0, j1, j2, hia⟩ := rr_oneX hr)
    have hst := hb.mono HL136.out.size
    have hgl := hgb g rfl
    have hn5 : V0.heap.size ≠ g := by have := HF136.out.2.1; omega
    have HL137 := Lib.hid (HL136.out.trans hst)
    have HR137 := Lib.hid (er_nod.keep HR136.out hb HL136.out.size)
    have HF137 := Lib.hid (HF136.out.below hb)
    refine hK.out _ _ ?_ (fun hH137 => ?_)
    · exact HS.out _ HL137.out
    have HJ137 : Hid (J3 g i E6 e6 V137) := Lib.hid ⟨hgu, j0, j1, j2⟩
    have HI137 := Lib.hid hia
    clear hb hst hr hgb hgu hgl hia hK K hH136 hH137 j0 j1 j2
    refine wpAnyH_weaken (S' := S3 n i A c D d E e0 w g E6 e6) (fun W h => h.1) _ _ _ _ ?_
    have hH137 : S3 n i A c D d E e0 w g E6 e6 V137 := ⟨HS.out _ HL137.out, HJ137.out.2⟩
    refine n_take (i := 5) (v := .pointer (some ⟨g, 0, none⟩)) rfl (by rfl) (by kernel_rfl) (by kernel_rfl) (by kernel_rfl) (fun _ _ _ h => h) (Or.inl ⟨by rfl, ?_⟩) (by assumption) ?_
    · (intro w' hSw; simp only [S3, S2] at hSw; go_simp)
    simp only [Act.put, List.setIfInBounds_toArray, List.set_cons_zero, List.set_cons_succ]
    refine n_take (i := 6) (v := .agg #[.string i.name, .int .i64 i.kind, .slice E6 i.dims.length e6]) rfl (by rfl) (by kernel_rfl) (by kernel_rfl) (by kernel_rfl) (fun _ _ _ h => h) (Or.inl ⟨by rfl, ?_⟩) (by assumption) ?_
    · (intro w' hSw; simp only [S3, S2] at hSw; go_simp)
    simp only [Act.put, List.setIfInBounds_toArray, List.set_cons_zero, List.set_cons_succ]
    refine wpAnyH_ready (rs := [8]) (by kernel_rfl) (by simp) ?_
    refine AllReadyH.cons rfl (fun K hK => ?_) ?_
    have hb := (Below.refl V137.heap.size V137).alloc (Nat.le_refl _) (.cells #[.string ⟨#[]⟩, .int .i64 0, .slice none 0 0] 42)
    have hst := hb.mono HL137.out.size
    have HL138 := Lib.hid (HL137.out.trans hst)
    have HR138 := Lib.hid (er_nod.keep HR137.out hb HL137.out.size)
    have HF138 := Lib.hid (HF137.out.below hb)
    have HJ138 := Lib.hid (j3_below HJ137.out hb)
    have HI138 := Lib.hid (ek_inf.below HI137.out hst)
    have HG138 := Lib.hid ((HBX.out _ HL137.out).1.next #[.string ⟨#[]⟩, .int .i64 0, .slice none 0 0] 42)
    have hge6 := HL137.out.size
    have hn6 : V137.heap.size ≠ g := Nat.ne_of_gt HJ137.out.1
    have hn56 : V0.heap.size ≠ V137.heap.size := Nat.ne_of_lt HF137.out.2.1
    clear hb hst
    go_simp
    refine hK.out _ _ ?_ (fun hH138 => ?_)
    · exact ⟨HS.out _ HL138.out, HJ138.out.2⟩
    clear hK K hH137
    generalize V137.alloc (.cells #[.string ⟨#[]⟩, .int .i64 0, .slice none 0 0] 42) = V138 at *
    have hw5 : w.heap.size ≤ V0.heap.size := Nat.le_trans HW0.out hge5
    have hw6 : w.heap.size ≤ V137.heap.size := Nat.le_trans HW0.out hge6
    refine wpAnyH_ready (rs := [9]) (by kernel_rfl) (by simp) ?_
    refine AllReadyH.cons rfl (fun K hK => ?_) ?_
    obtain ⟨z0, z1, z2, z3⟩ := HF138.out.four
    have zf := fun j => HF138.out.free j
    obtain ⟨V139, hV, hK1⟩ := n_name (P := Fa w V0 V0.heap.size V137.heap.size g n i A5 c5 D5 d5 E6 e6) (fin2 HL138.out HR138.out HF138.out HG138.out HJ138.out HI138.out hge5 hw5 hn56 hn5)
    have HK1 := Lib.hid hK1
    clear hK1
    go_simp
    refine hK.out _ _ ?_ (fun hH139 => ?_)
    · exact ⟨HS.out _ HK1.out.1, HK1.out.2.2.2.2.1.2⟩
    clear hK K hH138 z0 z1 z2 z3 zf hV
    refine wpAnyH_ready (rs := [10]) (by kernel_rfl) (by simp) ?_
    refine AllReadyH.cons rfl (fun K hK => ?_) ?_
    obtain ⟨z0, z1, z2⟩ := HK1.out.2.2.2.1.three
    have zf := fun j => HK1.out.2.2.2.1.free j
    obtain ⟨V140, hV, hK2⟩ := n_name (P := Fb w V0.heap.size V137.heap.size g n i A c D d E e0 A5 c5 D5 d5 E6 e6) (fin3 HS.out HBX.out HN0.out HI0.out HK1.out hge6 hw6 hn56 hn6)
    have HK2 := Lib.hid hK2
    clear hK2
    go_simp
    refine hK.out _ _ ?_ (fun hH140 => ?_)
    · exact ⟨HK2.out.1, HK2.out.2.1⟩
    clear hK K z0 z1 z2 zf hV
    refine wpAnyH_done (by kernel_rfl) ?_ _
    go_wp2_with fail
    go_meet
    exact ⟨_, _, _, _, _, _, _, _, rfl, rfl, HK2.out.2.2⟩
    exact AllReadyH.nil
    exact AllReadyH.nil
    exact AllReadyH.nil
    refine AllReadyH.cons rfl (fun K hK => ?_) ?_
    have hb := (Below.refl V136.heap.size V136).alloc (Nat.le_refl _) (.cells #[.string ⟨#[]⟩, .int .i64 0, .slice none 0 0] 42)
    have hst := hb.mono HL136.out.size
    have HL141 := Lib.hid (HL136.out.trans hst)
    have HR141 := Lib.hid (er_nod.keep HR136.out hb HL136.out.size)
    have HD141 := Lib.hid ((HD136.out.below (ek_infB _) hb).more (ek_infB _) hb.size)
    have HF141 := Lib.hid (HF136.out.below hb)
    have HG141 := Lib.hid ((HBX.out _ HL136.out).1.next #[.string ⟨#[]⟩, .int .i64 0, .slice none 0 0] 42)
    have hge6 := HL136.out.size
    have hn56 : V0.heap.size ≠ V136.heap.size := Nat.ne_of_lt HF136.out.2.1
    clear hb hst
    go_simp
    refine hK.out _ _ ?_ (fun hH141 => ?_)
    · exact HS.out _ HL141.out
    clear hK K hH136
    generalize V136.alloc (.cells #[.string ⟨#[]⟩, .int .i64 0, .slice none 0 0] 42) = V141 at *
    refine wpAnyH_ready (rs := [4]) (by kernel_rfl) (by simp) ?_
    refine AllReadyH.cons rfl (fun K hK => ?_) ?_
    go_simp
    go_wp2_with (go_at_call 13; (with_reducible refine (HLX.out _ _ HL141.out HD141.out).mono ?_); rintro e V142 ⟨v, rfl, hr, hgb, hb⟩; obtain ⟨g, cg, E6, e6, rfl, hgu, j0, j1, j2, hia⟩ := rr_oneX hr)
    have hst := hb.mono HL141.out.size
    have hgl := hgb g rfl
    have hn5 : V0.heap.size ≠ g := by have := HF141.out.2.1; omega
    have hn6 : V136.heap.size ≠ g := by have := HG141.out.2.1; omega
    have HL142 := Lib.hid (HL141.out.trans hst)
    have HR142 := Lib.hid (er_nod.keep HR141.out hb HL141.out.size)
    have HF142 := Lib.hid (HF141.out.below hb)
    have HG142 := Lib.hid (HG141.out.below hb)
    refine hK.out _ _ ?_ (fun hH142 => ?_)
    · exact HS.out _ HL142.out
    have HJ142 : Hid (J3 g i E6 e6 V142) := Lib.hid ⟨hgu, j0, j1, j2⟩
    have HI142 := Lib.hid hia
    clear hb hst hr hgb hgu hgl hia hK K hH141 hH142 j0 j1 j2
    refine wpAnyH_weaken (S' := S3 n i A c D d E e0 w g E6 e6) (fun W h => h.1) _ _ _ _ ?_
    have hH142 : S3 n i A c D d E e0 w g E6 e6 V142 := ⟨HS.out _ HL142.out, HJ142.out.2⟩
    refine n_take (i := 5) (v := .pointer (some ⟨g, 0, none⟩)) rfl (by rfl) (by kernel_rfl) (by kernel_rfl) (by kernel_rfl) (fun _ _ _ h => h) (Or.inl ⟨by rfl, ?_⟩) (by assumption) ?_
    · (intro w' hSw; simp only [S3, S2] at hSw; go_simp)
    simp only [Act.put, List.setIfInBounds_toArray, List.set_cons_zero, List.set_cons_succ]
    refine n_take (i := 6) (v := .agg #[.string i.name, .int .i64 i.kind, .slice E6 i.dims.length e6]) rfl (by rfl) (by kernel_rfl) (by kernel_rfl) (by kernel_rfl) (fun _ _ _ h => h) (Or.inl ⟨by rfl, ?_⟩) (by assumption) ?_
    · (intro w' hSw; simp only [S3, S2] at hSw; go_simp)
    simp only [Act.put, List.setIfInBounds_toArray, List.set_cons_zero, List.set_cons_succ]
    have hw5 : w.heap.size ≤ V0.heap.size := Nat.le_trans HW0.out hge5
    have hw6 : w.heap.size ≤ V136.heap.size := Nat.le_trans HW0.out hge6
    refine wpAnyH_ready (rs := [9]) (by kernel_rfl) (by simp) ?_
    refine AllReadyH.cons rfl (fun K hK => ?_) ?_
    obtain ⟨z0, z1, z2, z3⟩ := HF142.out.four
    have zf := fun j => HF142.out.free j
    obtain ⟨V143, hV, hK1⟩ := n_name (P := Fa w V0 V0.heap.size V136.heap.size g n i A5 c5 D5 d5 E6 e6) (fin2 HL142.out HR142.out HF142.out HG142.out HJ142.out HI142.out hge5 hw5 hn56 hn5)
    have HK1 := Lib.hid hK1
    clear hK1
    go_simp
    refine hK.out _ _ ?_ (fun hH143 => ?_)
    · exact ⟨HS.out _ HK1.out.1, HK1.out.2.2.2.2.1.2⟩
    clear hK K hH142 z0 z1 z2 z3 zf hV
    refine wpAnyH_ready (rs := [10]) (by kernel_rfl) (by simp) ?_
    refine AllReadyH.cons rfl (fun K hK => ?_) ?_
    obtain ⟨z0, z1, z2⟩ := HK1.out.2.2.2.1.three
    have zf := fun j => HK1.out.2.2.2.1.free j
    obtain ⟨V144, hV, hK2⟩ := n_name (P := Fb w V0.heap.size V136.heap.size g n i A c D d E e0 A5 c5 D5 d5 E6 e6) (fin3 HS.out HBX.out HN0.out HI0.out HK1.out hge6 hw6 hn56 hn6)
    have HK2 := Lib.hid hK2
    clear hK2
    go_simp
    refine hK.out _ _ ?_ (fun hH144 => ?_)
    · exact ⟨HK2.out.1, HK2.out.2.1⟩
    clear hK K z0 z1 z2 zf hV
    refine wpAnyH_done (by kernel_rfl) ?_ _
    go_wp2_with fail
    go_meet
    exact ⟨_, _, _, _, _, _, _, _, rfl, rfl, HK2.out.2.2⟩
    exact AllReadyH.nil
    exact AllReadyH.nil
    exact AllReadyH.nil
    exact AllReadyH.nil
    refine AllReadyH.cons rfl (fun K hK => ?_) ?_
    have hb := (Below.refl V135.heap.size V135).alloc (Nat.le_refl _) (.cells #[.string ⟨#[]⟩, .int .i64 0, .slice none 0 0] 42)
    have hst := hb.mono HL135.out.size
    have HL145 := Lib.hid (HL135.out.trans hst)
    have HD145 := Lib.hid ((HD135.out.below (ek_infB _) hb).more (ek_infB _) hb.size)
    have HF145 := Lib.hid (HF135.out.below hb)
    have HG145 := Lib.hid ((HBX.out _ HL135.out).1.next #[.string ⟨#[]⟩, .int .i64 0, .slice none 0 0] 42)
    have hge6 := HL135.out.size
    have hn56 : V0.heap.size ≠ V135.heap.size := Nat.ne_of_lt HF135.out.2.1
    clear hb hst
    go_simp
    refine hK.out _ _ ?_ (fun hH145 => ?_)
    · exact HS.out _ HL145.out
    clear hK K hH135
    generalize V135.alloc (.cells #[.string ⟨#[]⟩, .int .i64 0, .slice none 0 0] 42) = V145 at *
    refine wpAnyH_ready (rs := [1]) (by kernel_rfl) (by simp) ?_
    refine AllReadyH.cons rfl (fun K hK => ?_) ?_
    go_simp
    go_wp2_with (go_at_call 11; (with_reducible refine (HLN.out _ HL145.out).mono ?_); rintro e V146 ⟨cs, rfl, hr, hb⟩; obtain ⟨A5, c5, D5, d5, rfl⟩ := RNod.shape hr)
    have hst := hb.mono HL145.out.size
    have HL146 := Lib.hid (HL145.out.trans hst)
    have HD146 := Lib.hid ((HD145.out.below (ek_infB _) hb).more (ek_infB _) hb.size)
    have HF146 := Lib.hid (HF145.out.below hb)
    have HG146 := Lib.hid (HG145.out.below hb)
    have HR146 := Lib.hid hr
    clear hb hst hr
    refine hK.out _ _ ?_ (fun hH146 => ?_)
    · exact HS.out _ HL146.out
    clear hK K hH145
    refine wpAnyH_ready (rs := [4]) (by kernel_rfl) (by simp) ?_
    refine AllReadyH.cons rfl (fun K hK => ?_) ?_
    go_simp
    go_wp2_with (go_at_call 13; (with_reducible refine (HLX.out _ _ HL146.out HD146.out).mono ?_); rintro e V147 ⟨v, rfl, hr, hgb, hb⟩; obtain ⟨g, cg, E6, e6, rfl, hgu, j0, j1, j2, hia⟩ := rr_oneX hr)
    have hst := hb.mono HL146.out.size
    have hgl := hgb g rfl
    have hn5 : V0.heap.size ≠ g := by have := HF146.out.2.1; omega
    have hn6 : V135.heap.size ≠ g := by have := HG146.out.2.1; omega
    have HL147 := Lib.hid (HL146.out.trans hst)
    have HR147 := Lib.hid (er_nod.keep HR146.out hb HL146.out.size)
    have HF147 := Lib.hid (HF146.out.below hb)
    have HG147 := Lib.hid (HG146.out.below hb)
    refine hK.out _ _ ?_ (fun hH147 => ?_)
    · exact HS.out _ HL147.out
    have HJ147 : Hid (J3 g i E6 e6 V147) := Lib.hid ⟨hgu, j0, j1, j2⟩
    have HI147 := Lib.hid hia
    clear hb hst hr hgb hgu hgl hia hK K hH146 hH147 j0 j1 j2
    refine wpAnyH_weaken (S' := S3 n i A c D d E e0 w g E6 e6) (fun W h => h.1) _ _ _ _ ?_
    have hH147 : S3 n i A c D d E e0 w g E6 e6 V147 := ⟨HS.out _ HL147.out, HJ147.out.2⟩
    refine n_take (i := 5) (v := .pointer (some ⟨g, 0, none⟩)) rfl (by rfl) (by kernel_rfl) (by kernel_rfl) (by kernel_rfl) (fun _ _ _ h => h) (Or.inl ⟨by rfl, ?_⟩) (by assumption) ?_
    · (intro w' hSw; simp only [S3, S2] at hSw; go_simp)
    simp only [Act.put, List.setIfInBounds_toArray, List.set_cons_zero, List.set_cons_succ]
    refine n_take (i := 6) (v := .agg #[.string i.name, .int .i64 i.kind, .slice E6 i.dims.length e6]) rfl (by rfl) (by kernel_rfl) (by kernel_rfl) (by kernel_rfl) (fun _ _ _ h => h) (Or.inl ⟨by rfl, ?_⟩) (by assumption) ?_
    · (intro w' hSw; simp only [S3, S2] at hSw; go_simp)
    simp only [Act.put, List.setIfInBounds_toArray, List.set_cons_zero, List.set_cons_succ]
    have hw5 : w.heap.size ≤ V0.heap.size := Nat.le_trans HW0.out hge5
    have hw6 : w.heap.size ≤ V135.heap.size := Nat.le_trans HW0.out hge6
    refine wpAnyH_ready (rs := [9]) (by kernel_rfl) (by simp) ?_
    refine AllReadyH.cons rfl (fun K hK => ?_) ?_
    obtain ⟨z0, z1, z2, z3⟩ := HF147.out.four
    have zf := fun j => HF147.out.free j
    obtain ⟨V148, hV, hK1⟩ := n_name (P := Fa w V0 V0.heap.size V135.heap.size g n i A5 c5 D5 d5 E6 e6) (fin2 HL147.out HR147.out HF147.out HG147.out HJ147.out HI147.out hge5 hw5 hn56 hn5)
    have HK1 := Lib.hid hK1
    clear hK1
    go_simp
    refine hK.out _ _ ?_ (fun hH148 => ?_)
    · exact ⟨HS.out _ HK1.out.1, HK1.out.2.2.2.2.1.2⟩
    clear hK K hH147 z0 z1 z2 z3 zf hV
    refine wpAnyH_ready (rs := [10]) (by kernel_rfl) (by simp) ?_
    refine AllReadyH.cons rfl (fun K hK => ?_) ?_
    obtain ⟨z0, z1, z2⟩ := HK1.out.2.2.2.1.three
    have zf := fun j => HK1.out.2.2.2.1.free j
    obtain ⟨V149, hV, hK2⟩ := n_name (P := Fb w V0.heap.size V135.heap.size g n i A c D d E e0 A5 c5 D5 d5 E6 e6) (fin3 HS.out HBX.out HN0.out HI0.out HK1.out hge6 hw6 hn56 hn6)
    have HK2 := Lib.hid hK2
    clear hK2
    go_simp
    refine hK.out _ _ ?_ (fun hH149 => ?_)
    · exact ⟨HK2.out.1, HK2.out.2.1⟩
    clear hK K z0 z1 z2 zf hV
    refine wpAnyH_done (by kernel_rfl) ?_ _
    go_wp2_with fail
    go_meet
    exact ⟨_, _, _, _, _, _, _, _, rfl, rfl, HK2.out.2.2⟩
    exact AllReadyH.nil
    exact AllReadyH.nil
    exact AllReadyH.nil
    exact AllReadyH.nil
    exact AllReadyH.nil
    refine AllReadyH.cons rfl (fun K hK => ?_) ?_
    have hb := (Below.refl V119.heap.size V119).alloc (Nat.le_refl _) (.cells #[.string ⟨#[]⟩, .int .i64 0, .slice none 0 0] 42)
    have hst := hb.mono HL119.out.size
    have HL150 := Lib.hid (HL119.out.trans hst)
    have HF150 := Lib.hid (HF119.out.below hb)
    have HG150 := Lib.hid ((HBX.out _ HL119.out).1.next #[.string ⟨#[]⟩, .int .i64 0, .slice none 0 0] 42)
    have hge6 := HL119.out.size
    have hn56 : V0.heap.size ≠ V119.heap.size := Nat.ne_of_lt HF119.out.2.1
    clear hb hst
    go_simp
    refine hK.out _ _ ?_ (fun hH150 => ?_)
    · exact HS.out _ HL150.out
    clear hK K hH119
    generalize V119.alloc (.cells #[.string ⟨#[]⟩, .int .i64 0, .slice none 0 0] 42) = V150 at *
    refine wpAnyH_ready (rs := [1, 3]) (by kernel_rfl) (by simp) ?_
    refine AllReadyH.cons rfl (fun K hK => ?_) ?_
    go_simp
    go_wp2_with (go_at_call 11; (with_reducible refine (HLN.out _ HL150.out).mono ?_); rintro e V151 ⟨cs, rfl, hr, hb⟩; obtain ⟨A5, c5, D5, d5, rfl⟩ := RNod.shape hr)
    have hst := hb.mono HL150.out.size
    have HL151 := Lib.hid (HL150.out.trans hst)
    have HF151 := Lib.hid (HF150.out.below hb)
    have HG151 := Lib.hid (HG150.out.below hb)
    have HR151 := Lib.hid hr
    clear hb hst hr
    refine hK.out _ _ ?_ (fun hH151 => ?_)
    · exact HS.out _ HL151.out
    clear hK K hH150
    refine wpAnyH_ready (rs := [3]) (by kernel_rfl) (by simp) ?_
    refine AllReadyH.cons rfl (fun K hK => ?_) ?_
    have hb := (Below.refl V151.heap.size V151).alloc (Nat.le_refl _) (.cells #[.string i.name, .int .i64 i.kind, .slice E i.dims.length e0] 38)
    have hst := hb.mono HL151.out.size
    have HL152 := Lib.hid (HL151.out.trans hst)
    have HR152 := Lib.hid (er_nod.keep HR151.out hb HL151.out.size)
    have HF152 := Lib.hid (HF151.out.below hb)
    have HG152 := Lib.hid (HG151.out.below hb)
    have HD152 := Lib.hid (dr_litX V151 V0.heap.size i E e0 38 HL151.out.size (ek_inf.below HI0.out HL151.out))
    clear hb hst
    go_simp
    refine hK.out _ _ ?_ (fun hH152 => ?_)
    · exact HS.out _ HL152.out
    clear hK K hH151
    generalize V151.alloc (.cells #[.string i.name, .int .i64 i.kind, .slice E i.dims.length e0] 38) = V152 at *
    refine wpAnyH_ready (rs := [4]) (by kernel_rfl) (by simp) ?_
    refine AllReadyH.cons rfl (fun K hK => ?_) ?_
    go_simp
    go_wp2_with (go_at_call 13; (with_reducible refine (HLX.out _ _ HL152.out HD152.out).mono ?_); rintro e V153 ⟨v, rfl, hr, hgb, hb⟩; obtain ⟨g, cg, E6, e6, rfl, hgu, j0, j1, j2, hia⟩ := rr_oneX hr)
    have hst := hb.mono HL152.out.size
    have hgl := hgb g rfl
    have hn5 : V0.heap.size ≠ g := by have := HF152.out.2.1; omega
    have hn6 : V119.heap.size ≠ g := by have := HG152.out.2.1; omega
    have HL153 := Lib.hid (HL152.out.trans hst)
    have HR153 := Lib.hid (er_nod.keep HR152.out hb HL152.out.size)
    have HF153 := Lib.hid (HF152.out.below hb)
    have HG153 := Lib.hid (HG152.out.below hb)
    refine hK.out _ _ ?_ (fun hH153 => ?_)
    · exact HS.out _ HL153.out
    have HJ153 : Hid (J3 g i E6 e6 V153) := Lib.hid ⟨hgu, j0, j1, j2⟩
    have HI153 := Lib.hid hia
    clear hb hst hr hgb hgu hgl hia hK K hH152 hH153 j0 j1 j2
    refine wpAnyH_weaken (S' := S3 n i A c D d E e0 w g E6 e6) (fun W h => h.1) _ _ _ _ ?_
    have hH153 : S3 n i A c D d E e0 w g E6 e6 V153 := ⟨HS.out _ HL153.out, HJ153.out.2⟩
    refine n_take (i := 5) (v := .pointer (some ⟨g, 0, none⟩)) rfl (by rfl) (by kernel_rfl) (by kernel_rfl) (by kernel_rfl) (fun _ _ _ h => h) (Or.inl ⟨by rfl, ?_⟩) (by assumption) ?_
    · (intro w' hSw; simp only [S3, S2] at hSw; go_simp)
    simp only [Act.put, List.setIfInBounds_toArray, List.set_cons_zero, List.set_cons_succ]
    refine n_take (i := 6) (v := .agg #[.string i.name, .int .i64 i.kind, .slice E6 i.dims.length e6]) rfl (by rfl) (by kernel_rfl) (by kernel_rfl) (by kernel_rfl) (fun _ _ _ h => h) (Or.inl ⟨by rfl, ?_⟩) (by assumption) ?_
    · (intro w' hSw; simp only [S3, S2] at hSw; go_simp)
    simp only [Act.put, List.setIfInBounds_toArray, List.set_cons_zero, List.set_cons_succ]
    have hw5 : w.heap.size ≤ V0.heap.size := Nat.le_trans HW0.out hge5
    have hw6 : w.heap.size ≤ V119.heap.size := Nat.le_trans HW0.out hge6
    refine wpAnyH_ready (rs := [9]) (by kernel_rfl) (by simp) ?_
    refine AllReadyH.cons rfl (fun K hK => ?_) ?_
    obtain ⟨z0, z1, z2, z3⟩ := HF153.out.four
    have zf := fun j => HF153.out.free j
    obtain ⟨V154, hV, hK1⟩ := n_name (P := Fa w V0 V0.heap.size V119.heap.size g n i A5 c5 D5 d5 E6 e6) (fin2 HL153.out HR153.out HF153.out HG153.out HJ153.out HI153.out hge5 hw5 hn56 hn5)
    have HK1 := Lib.hid hK1
    clear hK1
    go_simp
    refine hK.out _ _ ?_ (fun hH154 => ?_)
    · exact ⟨HS.out _ HK1.out.1, HK1.out.2.2.2.2.1.2⟩
    clear hK K hH153 z0 z1 z2 z3 zf hV
    refine wpAnyH_ready (rs := [10]) (by kernel_rfl) (by simp) ?_
    refine AllReadyH.cons rfl (fun K hK => ?_) ?_
    obtain ⟨z0, z1, z2⟩ := HK1.out.2.2.2.1.three
    have zf := fun j => HK1.out.2.2.2.1.free j
    obtain ⟨V155, hV, hK2⟩ := n_name (P := Fb w V0.heap.size V119.heap.size g n i A c D d E e0 A5 c5 D5 d5 E6 e6) (fin3 HS.out HBX.out HN0.out HI0.out HK1.out hge6 hw6 hn56 hn6)
    have HK2 := Lib.hid hK2
    clear hK2
    go_simp
    refine hK.out _ _ ?_ (fun hH155 => ?_)
    · exact ⟨HK2.out.1, HK2.out.2.1⟩
    clear hK K z0 z1 z2 zf hV
    refine wpAnyH_done (by kernel_rfl) ?_ _
    go_wp2_with fail
    go_meet
    exact ⟨_, _, _, _, _, _, _, _, rfl, rfl, HK2.out.2.2⟩
    exact AllReadyH.nil
    exact AllReadyH.nil
    exact AllReadyH.nil
    exact AllReadyH.nil
    refine AllReadyH.cons rfl (fun K hK => ?_) ?_
    have hb := (Below.refl V150.heap.size V150).alloc (Nat.le_refl _) (.cells #[.string i.name, .int .i64 i.kind, .slice E i.dims.length e0] 38)
    have hst := hb.mono HL150.out.size
    have HL156 := Lib.hid (HL150.out.trans hst)
    have HF156 := Lib.hid (HF150.out.below hb)
    have HG156 := Lib.hid (HG150.out.below hb)
    have HD156 := Lib.hid (dr_litX V150 V0.heap.size i E e0 38 HL150.out.size (ek_inf.below HI0.out HL150.out))
    clear hb hst
    go_simp
    refine hK.out _ _ ?_ (fun hH156 => ?_)
    · exact HS.out _ HL156.out
    clear hK K hH150
    generalize V150.alloc (.cells #[.string i.name, .int .i64 i.kind, .slice E i.dims.length e0] 38) = V156 at *
    refine wpAnyH_ready (rs := [1]) (by kernel_rfl) (by simp) ?_
    refine AllReadyH.cons rfl (fun K hK => ?_) ?_
    go_simp
    go_wp2_with (go_at_call 11; (with_reducible refine (HLN.out _ HL156.out).mono ?_); rintro e V157 ⟨cs, rfl, hr, hb⟩; obtain ⟨A5, c5, D5, d5, rfl⟩ := RNod.shape hr)
    have hst := hb.mono HL156.out.size
    have HL157 := Lib.hid (HL156.out.trans hst)
    have HD157 := Lib.hid ((HD156.out.below (ek_infB _) hb).more (ek_infB _) hb.size)
    have HF157 := Lib.hid (HF156.out.below hb)
    have HG157 := Lib.hid (HG156.out.below hb)
    have HR157 := Lib.hid hr
    clear hb hst hr
    refine hK.out _ _ ?_ (fun hH157 => ?_)
    · exact HS.out _ HL157.out
    clear hK K hH156
    refine wpAnyH_ready (rs := [4]) (by kernel_rfl) (by simp) ?_
    refine AllReadyH.cons rfl (fun K hK => ?_) ?_
    go_simp
    go_wp2_with (go_at_call 13; (with_reducible refine (HLX.out _ _ HL157.out HD157.out).mono ?_); rintro e V158 ⟨v, rfl, hr, hgb, hb⟩; obtain ⟨g, cg, E6, e6, rfl, hgu, j0, j1, j2, hia⟩ := rr_oneX hr)
    have hst := hb.mono HL157.out.size
    have hgl := hgb g rfl
    have hn5 : V0.heap.size ≠ g := by have := HF157.out.2.1; omega
    have hn6 : V119.heap.size ≠ g := by have := HG157.out.2.1; omega
    have HL158 := Lib.hid (HL157.out.trans hst)
    have HR158 := Lib.hid (er_nod.keep HR157.out hb HL157.out.size)
    have HF158 := Lib.hid (HF157.out.below hb)
    have HG158 := Lib.hid (HG157.out.below hb)
    refine hK.out _ _ ?_ (fun hH158 => ?_)
    · exact HS.out _ HL158.out
    have HJ158 : Hid (J3 g i E6 e6 V158) := Lib.hid ⟨hgu, j0, j1, j2⟩
    have HI158 := Lib.hid hia
    clear hb hst hr hgb hgu hgl hia hK K hH157 hH158 j0 j1 j2
    refine wpAnyH_weaken (S' := S3 n i A c D d E e0 w g E6 e6) (fun W h => h.1) _ _ _ _ ?_
    have hH158 : S3 n i A c D d E e0 w g E6 e6 V158 := ⟨HS.out _ HL158.out, HJ158.out.2⟩
    refine n_take (i := 5) (v := .pointer (some ⟨g, 0, none⟩)) rfl (by rfl) (by kernel_rfl) (by kernel_rfl) (by kernel_rfl) (fun _ _ _ h => h) (Or.inl ⟨by rfl, ?_⟩) (by assumption) ?_
    · (intro w' hSw; simp only [S3, S2] at hSw; go_simp)
    simp only [Act.put, List.setIfInBounds_toArray, List.set_cons_zero, List.set_cons_succ]
    refine n_take (i := 6) (v := .agg #[.string i.name, .int .i64 i.kind, .slice E6 i.dims.length e6]) rfl (by rfl) (by kernel_rfl) (by kernel_rfl) (by kernel_rfl) (fun _ _ _ h => h) (Or.inl ⟨by rfl, ?_⟩) (by assumption) ?_
    · (intro w' hSw; simp only [S3, S2] at hSw; go_simp)
    simp only [Act.put, List.setIfInBounds_toArray, List.set_cons_zero, List.set_cons_succ]
    have hw5 : w.heap.size ≤ V0.heap.size := Nat.le_trans HW0.out hge5
    have hw6 : w.heap.size ≤ V119.heap.size := Nat.le_trans HW0.out hge6
    refine wpAnyH_ready (rs := [9]) (by kernel_rfl) (by simp) ?_
    refine AllReadyH.cons rfl (fun K hK => ?_) ?_
    obtain ⟨z0, z1, z2, z3⟩ := HF158.out.four
    have zf := fun j => HF158.out.free j
    obtain ⟨V159, hV, hK1⟩ := n_name (P := Fa w V0 V0.heap.size V119.heap.size g n i A5 c5 D5 d5 E6 e6) (fin2 HL158.out HR158.out HF158.out HG158.out HJ158.out HI158.out hge5 hw5 hn56 hn5)
    have HK1 := Lib.hid hK1
    clear hK1
    go_simp
    refine hK.out _ _ ?_ (fun hH159 => ?_)
    · exact ⟨HS.out _ HK1.out.1, HK1.out.2.2.2.2.1.2⟩
    clear hK K hH158 z0 z1 z2 z3 zf hV
    refine wpAnyH_ready (rs := [10]) (by kernel_rfl) (by simp) ?_
    refine AllReadyH.cons rfl (fun K hK => ?_) ?_
    obtain ⟨z0, z1, z2⟩ := HK1.out.2.2.2.1.three
    have zf := fun j => HK1.out.2.2.2.1.free j
    obtain ⟨V160, hV, hK2⟩ := n_name (P := Fb w V0.heap.size V119.heap.size g n i A c D d E e0 A5 c5 D5 d5 E6 e6) (fin3 HS.out HBX.out HN0.out HI0.out HK1.out hge6 hw6 hn56 hn6)
    have HK2 := Lib.hid hK2
    clear hK2
    go_simp
    refine hK.out _ _ ?_ (fun hH160 => ?_)
    · exact ⟨HK2.out.1, HK2.out.2.1⟩
    clear hK K z0 z1 z2 zf hV
    refine wpAnyH_done (by kernel_rfl) ?_ _
    go_wp2_with fail
    go_meet
    exact ⟨_, _, _, _, _, _, _, _, rfl, rfl, HK2.out.2.2⟩
    exact AllReadyH.nil
    exact AllReadyH.nil
    exact AllReadyH.nil
    exact AllReadyH.nil
    exact AllReadyH.nil
    exact AllReadyH.nil
    refine AllReadyH.cons rfl (fun K hK => ?_) ?_
    have hb := (Below.refl V0.heap.size V0).alloc (Nat.le_refl _) (.cells #[.string ⟨#[]⟩, .int .i64 0, .slice none 0 0] 42)
    have hst := hb.mono HL0.out.size
    have HL161 := Lib.hid (HL0.out.trans hst)
    have HG161 := Lib.hid ((HBX.out _ HL0.out).1.next #[.string ⟨#[]⟩, .int .i64 0, .slice none 0 0] 42)
    have hge6 := HL0.out.size
    clear hb hst
    go_simp
    refine hK.out _ _ ?_ (fun hH161 => ?_)
    · exact HS.out _ HL161.out
    clear hK K hH0
    generalize V0.alloc (.cells #[.string ⟨#[]⟩, .int .i64 0, .slice none 0 0] 42) = V161 at *
    refine wpAnyH_ready (rs := [1, 3, 7]) (by kernel_rfl) (by simp) ?_
    refine AllReadyH.cons rfl (fun K hK => ?_) ?_
    go_simp
    go_wp2_with (go_at_call 11; (with_reducible refine (HLN.out _ HL161.out).mono ?_); rintro e V162 ⟨cs, rfl, hr, hb⟩; obtain ⟨A5, c5, D5, d5, rfl⟩ := RNod.shape hr)
    have hst := hb.mono HL161.out.size
    have HL162 := Lib.hid (HL161.out.trans hst)
    have HG162 := Lib.hid (HG161.out.below hb)
    have HR162 := Lib.hid hr
    clear hb hst hr
    refine hK.out _ _ ?_ (fun hH162 => ?_)
    · exact HS.out _ HL162.out
    clear hK K hH161
    refine wpAnyH_ready (rs := [3, 7]) (by kernel_rfl) (by simp) ?_
    refine AllReadyH.cons rfl (fun K hK => ?_) ?_
    have hb := (Below.refl V162.heap.size V162).alloc (Nat.le_refl _) (.cells #[.string i.name, .int .i64 i.kind, .slice E i.dims.length e0] 38)
    have hst := hb.mono HL162.out.size
    have HL163 := Lib.hid (HL162.out.trans hst)
    have HR163 := Lib.hid (er_nod.keep HR162.out hb HL162.out.size)
    have HG163 := Lib.hid (HG162.out.below hb)
    have HD163 := Lib.hid (dr_litX V162 V0.heap.size i E e0 38 HL162.out.size (ek_inf.below HI0.out HL162.out))
    clear hb hst
    go_simp
    refine hK.out _ _ ?_ (fun hH163 => ?_)
    · exact HS.out _ HL163.out
    clear hK K hH162
    generalize V162.alloc (.cells #[.string i.name, .int .i64 i.kind, .slice E i.dims.length e0] 38) = V163 at *
    refine wpAnyH_ready (rs := [4, 7]) (by kernel_rfl) (by simp) ?_
    refine AllReadyH.cons rfl (fun K hK => ?_) ?_
    go_simp
    go_wp2_with (go_at_call 13; (with_reducible refine (HLX.out _ _ HL163.out HD163.out).mono ?_); rintro e V164 ⟨v, rfl, hr, hgb, hb⟩; obtain ⟨g, cg, E6, e6, rfl, hgu, j0, j1, j2, hia⟩ := rr_oneX hr)
    have hst := hb.mono HL163.out.size
    have hgl := hgb g rfl
    have hn6 : V0.heap.size ≠ g := by have := HG163.out.2.1; omega
    have HL164 := Lib.hid (HL163.out.trans hst)
    have HR164 := Lib.hid (er_nod.keep HR163.out hb HL163.out.size)
    have HG164 := Lib.hid (HG163.out.below hb)
    refine hK.out _ _ ?_ (fun hH164 => ?_)
    · exact HS.out _ HL164.out
    have HJ164 : Hid (J3 g i E6 e6 V164) := Lib.hid ⟨hgu, j0, j1, j2⟩
    have HI164 := Lib.hid hia
    clear hb hst hr hgb hgu hgl hia hK K hH163 hH164 j0 j1 j2
    refine wpAnyH_weaken (S' := S3 n i A c D d E e0 w g E6 e6) (fun W h => h.1) _ _ _ _ ?_
    have hH164 : S3 n i A c D d E e0 w g E6 e6 V164 := ⟨HS.out _ HL164.out, HJ164.out.2⟩
    refine n_take (i := 5) (v := .pointer (some ⟨g, 0, none⟩)) rfl (by rfl) (by kernel_rfl) (by kernel_rfl) (by kernel_rfl) (fun _ _ _ h => h) (Or.inl ⟨by rfl, ?_⟩) (by assumption) ?_
    · (intro w' hSw; simp only [S3, S2] at hSw; go_simp)
    simp only [Act.put, List.setIfInBounds_toArray, List.set_cons_zero, List.set_cons_succ]
    refine n_take (i := 6) (v := .agg #[.string i.name, .int .i64 i.kind, .slice E6 i.dims.length e6]) rfl (by rfl) (by kernel_rfl) (by kernel_rfl) (by kernel_rfl) (fun _ _ _ h => h) (Or.inl ⟨by rfl, ?_⟩) (by assumption) ?_
    · (intro w' hSw; simp only [S3, S2] at hSw; go_simp)
    simp only [Act.put, List.setIfInBounds_toArray, List.set_cons_zero, List.set_cons_succ]
    refine wpAnyH_ready (rs := [7]) (by kernel_rfl) (by simp) ?_
    refine AllReadyH.cons rfl (fun K hK => ?_) ?_
    have hb := (Below.refl V164.heap.size V164).alloc (Nat.le_refl _) (.cells #[.string ⟨#[]⟩, .slice none 0 0, .string ⟨#[]⟩, .slice none 0 0] 32)
    have hst := hb.mono HL164.out.size
    have HL165 := Lib.hid (HL164.out.trans hst)
    have HR165 := Lib.hid (er_nod.keep HR164.out hb HL164.out.size)
    have HG165 := Lib.hid (HG164.out.below hb)
    have HJ165 := Lib.hid (j3_below HJ164.out hb)
    have HI165 := Lib.hid (ek_inf.below HI164.out hst)
    have HF165 := Lib.hid ((HBX.out _ HL164.out).1.next #[.string ⟨#[]⟩, .slice none 0 0, .string ⟨#[]⟩, .slice none 0 0] 32)
    have hge5 := HL164.out.size
    have hn5 : V164.heap.size ≠ g := Nat.ne_of_gt HJ164.out.1
    have hn56 : V164.heap.size ≠ V0.heap.size := Nat.ne_of_gt HG164.out.2.1
    clear hb hst
    go_simp
    refine hK.out _ _ ?_ (fun hH165 => ?_)
    · exact ⟨HS.out _ HL165.out, HJ165.out.2⟩
    clear hK K hH164
    generalize V164.alloc (.cells #[.string ⟨#[]⟩, .slice none 0 0, .string ⟨#[]⟩, .slice none 0 0] 32) = V165 at *
    have hw5 : w.heap.size ≤ V164.heap.size := Nat.le_trans HW0.out hge5
    have hw6 : w.heap.size ≤ V0.heap.size := Nat.le_trans HW0.out hge6
    refine wpAnyH_ready (rs := [9]) (by kernel_rfl) (by simp) ?_
    refine AllReadyH.cons rfl (fun K hK => ?_) ?_
    obtain ⟨z0, z1, z2, z3⟩ := HF165.out.four
    have zf := fun j => HF165.out.free j
    obtain ⟨V166, hV, hK1⟩ := n_name (P := Fa w V0 V164.heap.size V0.heap.size g n i A5 c5 D5 d5 E6 e6) (fin2 HL165.out HR165.out HF165.out HG165.out HJ165.out HI165.out hge5 hw5 hn56 hn5)
    have HK1 := Lib.hid hK1
    clear hK1
    go_simp
    refine hK.out _ _ ?_ (fun hH166 => ?_)
    · exact ⟨HS.out _ HK1.out.1, HK1.out.2.2.2.2.1.2⟩
    clear hK K hH165 z0 z1 z2 z3 zf hV
    refine wpAnyH_ready (rs := [10]) (by kernel_rfl) (by simp) ?_
    refine AllReadyH.cons rfl (fun K hK => ?_) ?_
    obtain ⟨z0, z1, z2⟩ := HK1.out.2.2.2.1.three
    have zf := fun j => HK1.out.2.2.2.1.free j
    obtain ⟨V167, hV, hK2⟩ := n_name (P := Fb w V164.heap.size V0.heap.size g n i A c D d E e0 A5 c5 D5 d5 E6 e6) (fin3 HS.out HBX.out HN0.out HI0.out HK1.out hge6 hw6 hn56 hn6)
    have HK2 := Lib.hid hK2
    clear hK2
    go_simp
    refine hK.out _ _ ?_ (fun hH167 => ?_)
    · exact ⟨HK2.out.1, HK2.out.2.1⟩
    clear hK K z0 z1 z2 zf hV
    refine wpAnyH_done (by kernel_rfl) ?_ _
    go_wp2_with fail
    go_meet
    exact ⟨_, _, _, _, _, _, _, _, rfl, rfl, HK2.out.2.2⟩
    exact AllReadyH.nil
    exact AllReadyH.nil
    exact AllReadyH.nil
    refine AllReadyH.cons rfl (fun K hK => ?_) ?_
    have hb := (Below.refl V163.heap.size V163).alloc (Nat.le_refl _) (.cells #[.string ⟨#[]⟩, .slice none 0 0, .string ⟨#[]⟩, .slice none 0 0] 32)
    have hst := hb.mono HL163.out.size
    have HL168 := Lib.hid (HL163.out.trans hst)
    have HR168 := Lib.hid (er_nod.keep HR163.out hb HL163.out.size)
    have HD168 := Lib.hid ((HD163.out.below (ek_infB _) hb).more (ek_infB _) hb.size)
    have HG168 := Lib.hid (HG163.out.below hb)
    have HF168 := Lib.hid ((HBX.out _ HL163.out).1.next #[.string ⟨#[]⟩, .slice none 0 0, .string ⟨#[]⟩, .slice none 0 0] 32)
    have hge5 := HL163.out.size
    have hn56 : V163.heap.size ≠ V0.heap.size := Nat.ne_of_gt HG163.out.2.1
    clear hb hst
    go_simp
    refine hK.out _ _ ?_ (fun hH168 => ?_)
    · exact HS.out _ HL168.out
    clear hK K hH163
    generalize V163.alloc (.cells #[.string ⟨#[]⟩, .slice none 0 0, .string ⟨#[]⟩, .slice none 0 0] 32) = V168 at *
    refine wpAnyH_ready (rs := [4]) (by kernel_rfl) (by simp) ?_
    refine AllReadyH.cons rfl (fun K hK => ?_) ?_
    go_simp
    go_wp2_with (go_at_call 13; (with_reducible refine (HLX.out _ _ HL168.out HD168.out).mono ?_); rintro e V169 ⟨v, rfl, hr, hgb, hb⟩; obtain ⟨g, cg, E6, e6, rfl, hgu, j0, j1, j2, hia⟩ := rr_oneX hr)
    have hst := hb.mono HL168.out.size
    have hgl := hgb g rfl
    have hn5 : V163.heap.size ≠ g := by have := HF168.out.2.1; omega
    have hn6 : V0.heap.size ≠ g := by have := HG168.out.2.1; omega
    have HL169 := Lib.hid (HL168.out.trans hst)
    have HR169 := Lib.hid (er_nod.keep HR168.out hb HL168.out.size)
    have HF169 := Lib.hid (HF168.out.below hb)
    have HG169 := Lib.hid (HG168.out.below hb)
    refine hK.out _ _ ?_ (fun hH169 => ?_)
    · exact HS.out _ HL169.out
    have HJ169 : Hid (J3 g i E6 e6 V169) := Lib.hid ⟨hgu, j0, j1, j2⟩
    have HI169 := Lib.hid hia
    clear hb hst hr hgb hgu hgl hia hK K hH168 hH169 j0 j1 j2
    refine wpAnyH_weaken (S' := S3 n i A c D d E e0 w g E6 e6) (fun W h => h.1) _ _ _ _ ?_
    have hH169 : S3 n i A c D d E e0 w g E6 e6 V169 := ⟨HS.out _ HL169.out, HJ169.out.2⟩
    refine n_take (i := 5) (v := .pointer (some ⟨g, 0, none⟩)) rfl (by rfl) (by kernel_rfl) (by kernel_rfl) (by kernel_rfl) (fun _ _ _ h => h) (Or.inl ⟨by rfl, ?_⟩) (by assumption) ?_
    · (intro w' hSw; simp only [S3, S2] at hSw; go_simp)
    simp only [Act.put, List.setIfInBounds_toArray, List.set_cons_zero, List.set_cons_succ]
    refine n_take (i := 6) (v := .agg #[.string i.name, .int .i64 i.kind, .slice E6 i.dims.length e6]) rfl (by rfl) (by kernel_rfl) (by kernel_rfl) (by kernel_rfl) (fun _ _ _ h => h) (Or.inl ⟨by rfl, ?_⟩) (by assumption) ?_
    · (intro w' hSw; simp only [S3, S2] at hSw; go_simp)
    simp only [Act.put, List.setIfInBounds_toArray, List.set_cons_zero, List.set_cons_succ]
    have hw5 : w.heap.size ≤ V163.heap.size := Nat.le_trans HW0.out hge5
    have hw6 : w.heap.size ≤ V0.heap.size := Nat.le_trans HW0.out hge6
    refine wpAnyH_ready (rs := [9]) (by kernel_rfl) (by simp) ?_
    refine AllReadyH.cons rfl (fun K hK => ?_) ?_
    obtain ⟨z0, z1, z2, z3⟩ := HF169.out.four
    have zf := fun j => HF169.out.free j
    obtain ⟨V170, hV, hK1⟩ := n_name (P := Fa w V0 V163.heap.size V0.heap.size g n i A5 c5 D5 d5 E6 e6) (fin2 HL169.out HR169.out HF169.out HG169.out HJ169.out HI169.out hge5 hw5 hn56 hn5)
    have HK1 := Lib.hid hK1
    clear hK1
    go_simp
    refine hK.out _ _ ?_ (fun hH170 => ?_)
    · exact ⟨HS.out _ HK1.out.1, HK1.out.2.2.2.2.1.2⟩
    clear hK K hH169 z0 z1 z2 z3 zf hV
    refine wpAnyH_ready (rs := [10]) (by kernel_rfl) (by simp) ?_
    refine AllReadyH.cons rfl (fun K hK => ?_) ?_
    obtain ⟨z0, z1, z2⟩ := HK1.out.2.2.2.1.three
    have zf := fun j => HK1.out.2.2.2.1.free j
    obtain ⟨V171, hV, hK2⟩ := n_name (P := Fb w V163.heap.size V0.heap.size g n i A c D d E e0 A5 c5 D5 d5 E6 e6) (fin3 HS.out HBX.out HN0.out HI0.out HK1.out hge6 hw6 hn56 hn6)
    have HK2 := Lib.hid hK2
    clear hK2
    go_simp
    refine hK.out _ _ ?_ (fun hH171 => ?_)
    · exact ⟨HK2.out.1, HK2.out.2.1⟩
    clear hK K z0 z1 z2 zf hV
    refine wpAnyH_done (by kernel_rfl) ?_ _
    go_wp2_with fail
    go_meet
    exact ⟨_, _, _, _, _, _, _, _, rfl, rfl, HK2.out.2.2⟩
    exact AllReadyH.nil
    exact AllReadyH.nil
    exact AllReadyH.nil
    exact AllReadyH.nil
    refine AllReadyH.cons rfl (fun K hK => ?_) ?_
    have hb := (Below.refl V162.heap.size V162).alloc (Nat.le_refl _) (.cells #[.string ⟨#[]⟩, .slice none 0 0, .string ⟨#[]⟩, .slice none 0 0] 32)
    have hst := hb.mono HL162.out.size
    have HL172 := Lib.hid (HL162.out.trans hst)
    have HR172 := Lib.hid (er_nod.keep HR162.out hb HL162.out.size)
    have HG172 := Lib.hid (HG162.out.below hb)
    have HF172 := Lib.hid ((HBX.out _ HL162.out).1.next #[.string ⟨#[]⟩, .slice none 0 0, .string ⟨#[]⟩, .slice none 0 0] 32)
    have hge5 := HL162.out.size
    have hn56 : V162.heap.size ≠ V0.heap.size := Nat.ne_of_gt HG162.out.2.1
    clear hb hst
    go_simp
    refine hK.out _ _ ?_ (fun hH172 => ?_)
    · exact HS.out _ HL172.out
    clear hK K hH162
    generalize V162.alloc (.cells #[.string ⟨#[]⟩, .slice none 0 0, .string ⟨#[]⟩, .slice none 0 0] 32) = V172 at *
    refine wpAnyH_ready (rs := [3]) (by kernel_rfl) (by simp) ?_
    refine AllReadyH.cons rfl (fun K hK => ?_) ?_
    have hb := (Below.refl V172.heap.size V172).alloc (Nat.le_refl _) (.cells #[.string i.name, .int .i64 i.kind, .slice E i.dims.length e0] 38)
    have hst := hb.mono HL172.out.size
    have HL173 := Lib.hid (HL172.out.trans hst)
    have HR173 := Lib.hid (er_nod.keep HR172.out hb HL172.out.size)
    have HF173 := Lib.hid (HF172.out.below hb)
    have HG173 := Lib.hid (HG172.out.below hb)
    have HD173 := Lib.hid (dr_litX V172 V0.heap.size i E e0 38 HL172.out.size (ek_inf.below HI0.out HL172.out))
    clear hb hst
    go_simp
    refine hK.out _ _ ?_ (fun hH173 => ?_)
    · exact HS.out _ HL173.out
    clear hK K hH172
    generalize V172.alloc (.cells #[.string i.name, .int .i64 i.kind, .slice E i.dims.length e0] 38) = V173 at *
    refine wpAnyH_ready (rs := [4]) (by kernel_rfl) (by simp) ?_
    refine AllReadyH.cons rfl (fun K hK => ?_) ?_
    go_simp
    go_wp2_with (go_at_call 13; (with_reducible refine (HLX.out _ _ HL173.out HD173.out).mono ?_); rintro e V174 ⟨v, rfl, hr, hgb, hb⟩; obtain ⟨g, cg, E6, e6, rfl, hgu, j0, j1, j2, hia⟩ := rr_oneX hr)
    have hst := hb.mono HL173.out.size
    have hgl := hgb g rfl
    have hn5 : V162.heap.size ≠ g := by have := HF173.out.2.1; omega
    have hn6 : V0.heap.size ≠ g := by have := HG173.out.2.1; omega
    have HL174 := Lib.hid (HL173.out.trans hst)
    have HR174 := Lib.hid (er_nod.keep HR173.out hb HL173.out.size)
    have HF174 := Lib.hid (HF173.out.below hb)
    have HG174 := Lib.hid (HG173.out.below hb)
    refine hK.out _ _ ?_ (fun hH174 => ?_)
    · exact HS.out _ HL174.out
    have HJ174 : Hid (J3 g i E6 e6 V174) := Lib.hid ⟨hgu, j0, j1, j2⟩
    have HI174 := Lib.hid hia
    clear hb hst hr hgb hgu hgl hia hK K hH173 hH174 j0 j1 j2
    refine wpAnyH_weaken (S' := S3 n i A c D d E e0 w g E6 e6) (fun W h => h.1) _ _ _ _ ?_
    have hH174 : S3 n i A c D d E e0 w g E6 e6 V174 := ⟨HS.out _ HL174.out, HJ174.out.2⟩
    refine n_take (i := 5) (v := .pointer (some ⟨g, 0, none⟩)) rfl (by rfl) (by kernel_rfl) (by kernel_rfl) (by kernel_rfl) (fun _ _ _ h => h) (Or.inl ⟨by rfl, ?_⟩) (by assumption) ?_
    · (intro w' hSw; simp only [S3, S2] at hSw; go_simp)
    simp only [Act.put, List.setIfInBounds_toArray, List.set_cons_zero, List.set_cons_succ]
    refine n_take (i := 6) (v := .agg #[.string i.name, .int .i64 i.kind, .slice E6 i.dims.length e6]) rfl (by rfl) (by kernel_rfl) (by kernel_rfl) (by kernel_rfl) (fun _ _ _ h => h) (Or.inl ⟨by rfl, ?_⟩) (by assumption) ?_
    · (intro w' hSw; simp only [S3, S2] at hSw; go_simp)
    simp only [Act.put, List.setIfInBounds_toArray, List.set_cons_zero, List.set_cons_succ]
    have hw5 : w.heap.size ≤ V162.heap.size := Nat.le_trans HW0.out hge5
    have hw6 : w.heap.size ≤ V0.heap.size := Nat.le_trans HW0.out hge6
    refine wpAnyH_ready (rs := [9]) (by kernel_rfl) (by simp) ?_
    refine AllReadyH.cons rfl (fun K hK => ?_) ?_
    obtain ⟨z0, z1, z2, z3⟩ := HF174.out.four
    have zf := fun j => HF174.out.free j
    obtain ⟨V175, hV, hK1⟩ := n_name (P := Fa w V0 V162.heap.size V0.heap.size g n i A5 c5 D5 d5 E6 e6) (fin2 HL174.out HR174.out HF174.out HG174.out HJ174.out HI174.out hge5 hw5 hn56 hn5)
    have HK1 := Lib.hid hK1
    clear hK1
    go_simp
    refine hK.out _ _ ?_ (fun hH175 => ?_)
    · exact ⟨HS.out _ HK1.out.1, HK1.out.2.2.2.2.1.2⟩
    clear hK K hH174 z0 z1 z2 z3 zf hV
    refine wpAnyH_ready (rs := [10]) (by kernel_rfl) (by simp) ?_
    refine AllReadyH.cons rfl (fun K hK => ?_) ?_
    obtain ⟨z0, z1, z2⟩ := HK1.out.2.2.2.1.three
    have zf := fun j => HK1.out.2.2.2.1.free j
    obtain ⟨V176, hV, hK2⟩ := n_name (P := Fb w V162.heap.size V0.heap.size g n i A c D d E e0 A5 c5 D5 d5 E6 e6) (fin3 HS.out HBX.out HN0.out HI0.out HK1.out hge6 hw6 hn56 hn6)
    have HK2 := Lib.hid hK2
    clear hK2
    go_simp
    refine hK.out _ _ ?_ (fun hH176 => ?_)
    · exact ⟨HK2.out.1, HK2.out.2.1⟩
    clear hK K z0 z1 z2 zf hV
    refine wpAnyH_done (by kernel_rfl) ?_ _
    go_wp2_with fail
    go_meet
    exact ⟨_, _, _, _, _, _, _, _, rfl, rfl, HK2.out.2.2⟩
    exact AllReadyH.nil
    exact AllReadyH.nil
    exact AllReadyH.nil
    exact AllReadyH.nil
    exact AllReadyH.nil
    refine AllReadyH.cons rfl (fun K hK => ?_) ?_
    have hb := (Below.refl V161.heap.size V161).alloc (Nat.le_refl _) (.cells #[.string i.name, .int .i64 i.kind, .slice E i.dims.length e0] 38)
    have hst := hb.mono HL161.out.size
    have HL177 := Lib.hid (HL161.out.trans hst)
    have HG177 := Lib.hid (HG161.out.below hb)
    have HD177 := Lib.hid (dr_litX V161 V0.heap.size i E e0 38 HL161.out.size (ek_inf.below HI0.out HL161.out))
    clear hb hst
    go_simp
    refine hK.out _ _ ?_ (fun hH177 => ?_)
    · exact HS.out _ HL177.out
    clear hK K hH161
    generalize V161.alloc (.cells #[.string i.name, .int .i64 i.kind, .slice E i.dims.length e0] 38) = V177 at *
    refine wpAnyH_ready (rs := [1, 7]) (by kernel_rfl) (by simp) ?_
    refine AllReadyH.cons rfl (fun K hK => ?_) ?_
    go_simp
    go_wp2_with (go_at_call 11; (with_reducible refine (HLN.out _ HL177.out).mono ?_); rintro e V178 ⟨cs, rfl, hr, hb⟩; obtain ⟨A5, c5, D5, d5, rfl⟩ := RNod.shape hr)
    have hst := hb.mono HL177.out.size
    have HL178 := Lib.hid (HL177.out.trans hst)
    have HD178 := Lib.hid ((HD177.out.below (ek_infB _) hb).more (ek_infB _) hb.size)
    have HG178 := Lib.hid (HG177.out.below hb)
    have HR178 := Lib.hid hr
    clear hb hst hr
    refine hK.out _ _ ?_ (fun hH178 => ?_)
    · exact HS.out _ HL178.out
    clear hK K hH177
    refine wpAnyH_ready (rs := [4, 7]) (by kernel_rfl) (by simp) ?_
    refine AllReadyH.cons rfl (fun K hK => ?_) ?_
    go_simp
    go_wp2_with (go_at_call 13; (with_reducible refine (HLX.out _ _ HL178.out HD178.out).mono ?_); rintro e V179 ⟨v, rfl, hr, hgb, hb⟩; obtain ⟨g, cg, E6, e6, rfl, hgu, j0, j1, j2, hia⟩ := rr_oneX hr)
    have hst := hb.mono HL178.out.size
    have hgl := hgb g rfl
    have hn6 : V0.heap.size ≠ g := by have := HG178.out.2.1; omega
    have HL179 := Lib.hid (HL178.out.trans hst)
    have HR179 := Lib.hid (er_nod.keep HR178.out hb HL178.out.size)
    have HG179 := Lib.hid (HG178.out.below hb)
    refine hK.out _ _ ?_ (fun hH179 => ?_)
    · exact HS.out _ HL179.out
    have HJ179 : Hid (J3 g i E6 e6 V179) := Lib.hid ⟨hgu, j0, j1, j2⟩
    have HI179 := Lib.hid hia
    clear hb hst hr hgb hgu hgl hia hK K hH178 hH179 j0 j1 j2
    refine wpAnyH_weaken (S' := S3 n i A c D d E e0 w g E6 e6) (fun W h => h.1) _ _ _ _ ?_
    have hH179 : S3 n i A c D d E e0 w g E6 e6 V179 := ⟨HS.out _ HL179.out, HJ179.out.2⟩
    refine n_take (i := 5) (v := .pointer (some ⟨g, 0, none⟩)) rfl (by rfl) (by kernel_rfl) (by kernel_rfl) (by kernel_rfl) (fun _ _ _ h => h) (Or.inl ⟨by rfl, ?_⟩) (by assumption) ?_
    · (intro w' hSw; simp only [S3, S2] at hSw; go_simp)
    simp only [Act.put, List.setIfInBounds_toArray, List.set_cons_zero, List.set_cons_succ]
    refine n_take (i := 6) (v := .agg #[.string i.name, .int .i64 i.kind, .slice E6 i.dims.length e6]) rfl (by rfl) (by kernel_rfl) (by kernel_rfl) (by kernel_rfl) (fun _ _ _ h => h) (Or.inl ⟨by rfl, ?_⟩) (by assumption) ?_
    · (intro w' hSw; simp only [S3, S2] at hSw; go_simp)
    simp only [Act.put, List.setIfInBounds_toArray, List.set_cons_zero, List.set_cons_succ]
    refine wpAnyH_ready (rs := [7]) (by kernel_rfl) (by simp) ?_
    refine AllReadyH.cons rfl (fun K hK => ?_) ?_
    have hb := (Below.refl V179.heap.size V179).alloc (Nat.le_refl _) (.cells #[.string ⟨#[]⟩, .slice none 0 0, .string ⟨#[]⟩, .slice none 0 0] 32)
    have hst := hb.mono HL179.out.size
    have HL180 := Lib.hid (HL179.out.trans hst)
    have HR180 := Lib.hid (er_nod.keep HR179.out hb HL179.out.size)
    have HG180 := Lib.hid (HG179.out.below hb)
    have HJ180 := Lib.hid (j3_below HJ179.out hb)
    have HI180 := Lib.hid (ek_inf.below HI179.out hst)
    have HF180 := Lib.hid ((HBX.out _ HL179.out).1.next #[.string ⟨#[]⟩, .slice none 0 0, .string ⟨#[]⟩, .slice none 0 0] 32)
    have hge5 := HL179.out.size
    have hn5 : V179.heap.size ≠ g := Nat.ne_of_gt HJ179.out.1
    have hn56 : V179.heap.size ≠ V0.heap.size := Nat.ne_of_gt HG179.out.2.1
    clear hb hst
    go_simp
    refine hK.out _ _ ?_ (fun hH180 => ?_)
    · exact ⟨HS.out _ HL180.out, HJ180.out.2⟩
    clear hK K hH179
    generalize V179.alloc (.cells #[.string ⟨#[]⟩, .slice none 0 0, .string ⟨#[]⟩, .slice none 0 0] 32) = V180 at *
    have hw5 : w.heap.size ≤ V179.heap.size := Nat.le_trans HW0.out hge5
    have hw6 : w.heap.size ≤ V0.heap.size := Nat.le_trans HW0.out hge6
    refine wpAnyH_ready (rs := [9]) (by kernel_rfl) (by simp) ?_
    refine AllReadyH.cons rfl (fun K hK => ?_) ?_
    obtain ⟨z0, z1, z2, z3⟩ := HF180.out.four
    have zf := fun j => HF180.out.free j
    obtain ⟨V181, hV, hK1⟩ := n_name (P := Fa w V0 V179.heap.size V0.heap.size g n i A5 c5 D5 d5 E6 e6) (fin2 HL180.out HR180.out HF180.out HG180.out HJ180.out HI180.out hge5 hw5 hn56 hn5)
    have HK1 := Lib.hid hK1
    clear hK1
    go_simp
    refine hK.out _ _ ?_ (fun hH181 => ?_)
    · exact ⟨HS.out _ HK1.out.1, HK1.out.2.2.2.2.1.2⟩
    clear hK K hH180 z0 z1 z2 z3 zf hV
    refine wpAnyH_ready (rs := [10]) (by kernel_rfl) (by simp) ?_
    refine AllReadyH.cons rfl (fun K hK => ?_) ?_
    obtain ⟨z0, z1, z2⟩ := HK1.out.2.2.2.1.three
    have zf := fun j => HK1.out.2.2.2.1.free j
    obtain ⟨V182, hV, hK2⟩ := n_name (P := Fb w V179.heap.size V0.heap.size g n i A c D d E e0 A5 c5 D5 d5 E6 e6) (fin3 HS.out HBX.out HN0.out HI0.out HK1.out hge6 hw6 hn56 hn6)
    have HK2 := Lib.hid hK2
    clear hK2
    go_simp
    refine hK.out _ _ ?_ (fun hH182 => ?_)
    · exact ⟨HK2.out.1, HK2.out.2.1⟩
    clear hK K z0 z1 z2 zf hV
    refine wpAnyH_done (by kernel_rfl) ?_ _
    go_wp2_with fail
    go_meet
    exact ⟨_, _, _, _, _, _, _, _, rfl, rfl, HK2.out.2.2⟩
    exact AllReadyH.nil
    exact AllReadyH.nil
    exact AllReadyH.nil
    refine AllReadyH.cons rfl (fun K hK => ?_) ?_
    have hb := (Below.refl V178.heap.size V178).alloc (Nat.le_refl _) (.cells #[.string ⟨#[]⟩, .slice none 0 0, .string ⟨#[]⟩, .slice none 0 0] 32)
    have hst := hb.mono HL178.out.size
    have HL183 := Lib.hid (HL178.out.trans hst)
    have HR183 := Lib.hid (er_nod.keep HR178.out hb HL178.out.size)
    have HD183 := Lib.hid ((HD178.out.below (ek_infB _) hb).more (ek_infB _) hb.size)
    have HG183 := Lib.hid (HG178.out.below hb)
    have HF183 := Lib.hid ((HBX.out _ HL178.out).1.next #[.string ⟨#[]⟩, .slice none 0 0, .string ⟨#[]⟩, .slice none 0 0] 32)
    have hge5 := HL178.out.size
    have hn56 : V178.heap.size ≠ V0.heap.size := Nat.ne_of_gt HG178.out.2.1
    clear hb hst
    go_simp
    refine hK.out _ _ ?_ (fun hH183 => ?_)
    · exact HS.out _ HL183.out
    clear hK K hH178
    generalize V178.alloc (.cells #[.string ⟨#[]⟩, .slice none 0 0, .string ⟨#[]⟩, .slice none 0 0] 32) = V183 at *
    refine wpAnyH_ready (rs := [4]) (by kernel_rfl) (by simp) ?_
    refine AllReadyH.cons rfl (fun K hK => ?_) ?_
    go_simp
    go_wp2_with (go_at_call 13; (with_reducible refine (HLX.out _ _ HL183.out HD183.out).mono ?_); rintro e V184 ⟨v, rfl, hr, hgb, hb⟩; obtain ⟨g, cg, E6, e6, rfl, hgu, j0, j1, j2, hia⟩ := rr_oneX hr)
    have hst := hb.mono HL183.out.size
    have hgl := hgb g rfl
    have hn5 : V178.heap.size ≠ g := by have := HF183.out.2.1; omega
    have hn6 : V0.heap.size ≠ g := by have := HG183.out.2.1; omega
    have HL184 := Lib.hid (HL183.out.trans hst)
    have HR184 := Lib.hid (er_nod.keep HR183.out hb HL183.out.size)
    have HF184 := Lib.hid (HF183.out.below hb)
    have HG184 := Lib.hid (HG183.out.below hb)
    refine hK.out _ _ ?_ (fun hH184 => ?_)
    · exact HS.out _ HL184.out
    have HJ184 : Hid (J3 g i E6 e6 V184) := Lib.hid ⟨hgu, j0, j1, j2⟩
    have HI184 := Lib.hid hia
    clear hb hst hr hgb hgu hgl hia hK K hH183 hH184 j0 j1 j2
    refine wpAnyH_weaken (S' := S3 n i A c D d E e0 w g E6 e6) (fun W h => h.1) _ _ _ _ ?_
    have hH184 : S3 n i A c D d E e0 w g E6 e6 V184 := ⟨HS.out _ HL184.out, HJ184.out.2⟩
    refine n_take (i := 5) (v := .pointer (some ⟨g, 0, none⟩)) rfl (by rfl) (by kernel_rfl) (by kernel_rfl) (by kernel_rfl) (fun _ _ _ h => h) (Or.inl ⟨by rfl, ?_⟩) (by assumption) ?_
    · (intro w' hSw; simp only [S3, S2] at hSw; go_simp)
    simp only [Act.put, List.setIfInBounds_toArray, List.set_cons_zero, List.set_cons_succ]
    refine n_take (i := 6) (v := .agg #[.string i.name, .int .i64 i.kind, .slice E6 i.dims.length e6]) rfl (by rfl) (by kernel_rfl) (by kernel_rfl) (by kernel_rfl) (fun _ _ _ h => h) (Or.inl ⟨by rfl, ?_⟩) (by assumption) ?_
    · (intro w' hSw; simp only [S3, S2] at hSw; go_simp)
    simp only [Act.put, List.setIfInBounds_toArray, List.set_cons_zero, List.set_cons_succ]
    have hw5 : w.heap.size ≤ V178.heap.size := Nat.le_trans HW0.out hge5
    have hw6 : w.heap.size ≤ V0.heap.size := Nat.le_trans HW0.out hge6
    refine wpAnyH_ready (rs := [9]) (by kernel_rfl) (by simp) ?_
    refine AllReadyH.cons rfl (fun K hK => ?_) ?_
    obtain ⟨z0, z1, z2, z3⟩ := HF184.out.four
    have zf := fun j => HF184.out.free j
    obtain ⟨V185, hV, hK1⟩ := n_name (P := Fa w V0 V178.heap.size V0.heap.size g n i A5 c5 D5 d5 E6 e6) (fin2 HL184.out HR184.out HF184.out HG184.out HJ184.out HI184.out hge5 hw5 hn56 hn5)
    have HK1 := Lib.hid hK1
    clear hK1
    go_simp
    refine hK.out _ _ ?_ (fun hH185 => ?_)
    · exact ⟨HS.out _ HK1.out.1, HK1.out.2.2.2.2.1.2⟩
    clear hK K hH184 z0 z1 z2 z3 zf hV
    refine wpAnyH_ready (rs := [10]) (by kernel_rfl) (by simp) ?_
    refine AllReadyH.cons rfl (fun K hK => ?_) ?_
    obtain ⟨z0, z1, z2⟩ := HK1.out.2.2.2.1.three
    have zf := fun j => HK1.out.2.2.2.1.free j
    obtain ⟨V186, hV, hK2⟩ := n_name (P := Fb w V178.heap.size V0.heap.size g n i A c D d E e0 A5 c5 D5 d5 E6 e6) (fin3 HS.out HBX.out HN0.out HI0.out HK1.out hge6 hw6 hn56 hn6)
    have HK2 := Lib.hid hK2
    clear hK2
    go_simp
    refine hK.out _ _ ?_ (fun hH186 => ?_)
    · exact ⟨HK2.out.1, HK2.out.2.1⟩
    clear hK K z0 z1 z2 zf hV
    refine wpAnyH_done (by kernel_rfl) ?_ _
    go_wp2_with fail
    go_meet
    exact ⟨_, _, _, _, _, _, _, _, rfl, rfl, HK2.out.2.2⟩
    exact AllReadyH.nil
    exact AllReadyH.nil
    exact AllReadyH.nil
    exact AllReadyH.nil
    refine AllReadyH.cons rfl (fun K hK => ?_) ?_
    have hb := (Below.refl V177.heap.size V177).alloc (Nat.le_refl _) (.cells #[.string ⟨#[]⟩, .slice none 0 0, .string ⟨#[]⟩, .slice none 0 0] 32)
    have hst := hb.mono HL177.out.size
    have HL187 := Lib.hid (HL177.out.trans hst)
    have HD187 := Lib.hid ((HD177.out.below (ek_infB _) hb).more (ek_infB _) hb.size)
    have HG187 := Lib.hid (HG177.out.below hb)
    have HF187 := Lib.hid ((HBX.out _ HL177.out).1.next #[.string ⟨#[]⟩, .slice none 0 0, .string ⟨#[]⟩, .slice none 0 0] 32)
    have hge5 := HL177.out.size
    have hn56 : V177.heap.size ≠ V0.heap.size := Nat.ne_of_gt HG177.out.2.1
    clear hb hst
    go_simp
    refine hK.out _ _ ?_ (fun hH187 => ?_)
    · exact HS.out _ HL187.out
    clear hK K hH177
    generalize V177.alloc (.cells #[.string ⟨#[]⟩, .slice none 0 0, .string ⟨#[]⟩, .slice none 0 0] 32) = V187 at *
    refine wpAnyH_ready (rs := [1]) (by kernel_rfl) (by simp) ?_
    refine AllReadyH.cons rfl (fun K hK => ?_) ?_
    go_simp
    go_wp2_with (go_at_call 11; (with_reducible refine (HLN.out _ HL187.out).mono ?_); rintro e V188 ⟨cs, rfl, hr, hb⟩; obtain ⟨A5, c5, D5, d5, rfl⟩ := RNod.shape hr)
    have hst := hb.mono HL187.out.size
    have HL188 := Lib.hid (HL187.out.trans hst)
    have HD188 := Lib.hid ((HD187.out.below (ek_infB _) hb).more (ek_infB _) hb.size)
    have HF188 := Lib.hid (HF187.out.below hb)
    have HG188 := Lib.hid (HG187.out.below hb)
    have HR188 := Lib.hid hr
    clear hb hst hr
    refine hK.out _ _ ?_ (fun hH188 => ?_)
    · exact HS.out _ HL188.out
    clear hK K hH187
    refine wpAnyH_ready (rs := [4]) (by kernel_rfl) (by simp) ?_
    refine AllReadyH.cons rfl (fun K hK => ?_) ?_
    go_simp
    go_wp2_with (go_at_call 13; (with_reducible refine (HLX.out _ _ HL188.out HD188.out).mono ?_); rintro e V189 ⟨v, rfl, hr, hgb, hb⟩; obtain ⟨g, cg, E6, e6, rfl, hgu, j0, j1, j2, hia⟩ := rr_oneX hr)
    have hst := hb.mono HL188.out.size
    have hgl := hgb g rfl
    have hn5 : V177.heap.size ≠ g := by have := HF188.out.2.1; omega
    have hn6 : V0.heap.size ≠ g := by have := HG188.out.2.1; omega
    have HL189 := Lib.hid (HL188.out.trans hst)
    have HR189 := Lib.hid (er_nod.keep HR188.out hb HL188.out.size)
    have HF189 := Lib.hid (HF188.out.below hb)
    have HG189 := Lib.hid (HG188.out.below hb)
    refine hK.out _ _ ?_ (fun hH189 => ?_)
    · exact HS.out _ HL189.out
    have HJ189 : Hid (J3 g i E6 e6 V189) := Lib.hid ⟨hgu, j0, j1, j2⟩
    have HI189 := Lib.hid hia
    clear hb hst hr hgb hgu hgl hia hK K hH188 hH189 j0 j1 j2
    refine wpAnyH_weaken (S' := S3 n i A c D d E e0 w g E6 e6) (fun W h => h.1) _ _ _ _ ?_
    have hH189 : S3 n i A c D d E e0 w g E6 e6 V189 := ⟨HS.out _ HL189.out, HJ189.out.2⟩
    refine n_take (i := 5) (v := .pointer (some ⟨g, 0, none⟩)) rfl (by rfl) (by kernel_rfl) (by kernel_rfl) (by kernel_rfl) (fun _ _ _ h => h) (Or.inl ⟨by rfl, ?_⟩) (by assumption) ?_
    · (intro w' hSw; simp only [S3, S2] at hSw; go_simp)
    simp only [Act.put, List.setIfInBounds_toArray, List.set_cons_zero, List.set_cons_succ]
    refine n_take (i := 6) (v := .agg #[.string i.name, .int .i64 i.kind, .slice E6 i.dims.length e6]) rfl (by rfl) (by kernel_rfl) (by kernel_rfl) (by kernel_rfl) (fun _ _ _ h => h) (Or.inl ⟨by rfl, ?_⟩) (by assumption) ?_
    · (intro w' hSw; simp only [S3, S2] at hSw; go_simp)
    simp only [Act.put, List.setIfInBounds_toArray, List.set_cons_zero, List.set_cons_succ]
    have hw5 : w.heap.size ≤ V177.heap.size := Nat.le_trans HW0.out hge5
    have hw6 : w.heap.size ≤ V0.heap.size := Nat.le_trans HW0.out hge6
    refine wpAnyH_ready (rs := [9]) (by kernel_rfl) (by simp) ?_
    refine AllReadyH.cons rfl (fun K hK => ?_) ?_
    obtain ⟨z0, z1, z2, z3⟩ := HF189.out.four
    have zf := fun j => HF189.out.free j
    obtain ⟨V190, hV, hK1⟩ := n_name (P := Fa w V0 V177.heap.size V0.heap.size g n i A5 c5 D5 d5 E6 e6) (fin2 HL189.out HR189.out HF189.out HG189.out HJ189.out HI189.out hge5 hw5 hn56 hn5)
    have HK1 := Lib.hid hK1
    clear hK1
    go_simp
    refine hK.out _ _ ?_ (fun hH190 => ?_)
    · exact ⟨HS.out _ HK1.out.1, HK1.out.2.2.2.2.1.2⟩
    clear hK K hH189 z0 z1 z2 z3 zf hV
    refine wpAnyH_ready (rs := [10]) (by kernel_rfl) (by simp) ?_
    refine AllReadyH.cons rfl (fun K hK => ?_) ?_
    obtain ⟨z0, z1, z2⟩ := HK1.out.2.2.2.1.three
    have zf := fun j => HK1.out.2.2.2.1.free j
    obtain ⟨V191, hV, hK2⟩ := n_name (P := Fb w V177.heap.size V0.heap.size g n i A c D d E e0 A5 c5 D5 d5 E6 e6) (fin3 HS.out HBX.out HN0.out HI0.out HK1.out hge6 hw6 hn56 hn6)
    have HK2 := Lib.hid hK2
    clear hK2
    go_simp
    refine hK.out _ _ ?_ (fun hH191 => ?_)
    · exact ⟨HK2.out.1, HK2.out.2.1⟩
    clear hK K z0 z1 z2 zf hV
    refine wpAnyH_done (by kernel_rfl) ?_ _
    go_wp2_with fail
    go_meet
    exact ⟨_, _, _, _, _, _, _, _, rfl, rfl, HK2.out.2.2⟩
    exact AllReadyH.nil
    exact AllReadyH.nil
    exact AllReadyH.nil
    exact AllReadyH.nil
    exact AllReadyH.nil
    refine AllReadyH.cons rfl (fun K hK => ?_) ?_
    have hb := (Below.refl V161.heap.size V161).alloc (Nat.le_refl _) (.cells #[.string ⟨#[]⟩, .slice none 0 0, .string ⟨#[]⟩, .slice none 0 0] 32)
    have hst := hb.mono HL161.out.size
    have HL192 := Lib.hid (HL161.out.trans hst)
    have HG192 := Lib.hid (HG161.out.below hb)
    have HF192 := Lib.hid ((HBX.out _ HL161.out).1.next #[.string ⟨#[]⟩, .slice none 0 0, .string ⟨#[]⟩, .slice none 0 0] 32)
    have hge5 := HL161.out.size
    have hn56 : V161.heap.size ≠ V0.heap.size := Nat.ne_of_gt HG161.out.2.1
    clear hb hst
    go_simp
    refine hK.out _ _ ?_ (fun hH192 => ?_)
    · exact HS.out _ HL192.out
    clear hK K hH161
    generalize V161.alloc (.cells #[.string ⟨#[]⟩, .slice none 0 0, .string ⟨#[]⟩, .slice none 0 0] 32) = V192 at *
    refine wpAnyH_ready (rs := [1, 3]) (by kernel_rfl) (by simp) ?_
    refine AllReadyH.cons rfl (fun K hK => ?_) ?_
    go_simp
    go_wp2_with (go_at_call 11; (with_reducible refine (HLN.out _ HL192.out).mono ?_); rintro e V193 ⟨cs, rfl, hr, hb⟩; obtain ⟨A5, c5, D5, d5, rfl⟩ := RNod.shape hr)
    have hst := hb.mono HL192.out.size
    have HL193 := Lib.hid (HL192.out.trans hst)
    have HF193 := Lib.hid (HF192.out.below hb)
    have HG193 := Lib.hid (HG192.out.below hb)
    have HR193 := Lib.hid hr
    clear hb hst hr
    refine hK.out _ _ ?_ (fun hH193 => ?_)
    · exact HS.out _ HL193.out
    clear hK K hH192
    refine wpAnyH_ready (rs := [3]) (by kernel_rfl) (by simp) ?_
    refine AllReadyH.cons rfl (fun K hK => ?_) ?_
    have hb := (Below.refl V193.heap.size V193).alloc (Nat.le_refl _) (.cells #[.string i.name, .int .i64 i.kind, .slice E i.dims.length e0] 38)
    have hst := hb.mono HL193.out.size
    have HL194 := Lib.hid (HL193.out.trans hst)
    have HR194 := Lib.hid (er_nod.keep HR193.out hb HL193.out.size)
    have HF194 := Lib.hid (HF193.out.below hb)
    have HG194 := Lib.hid (HG193.out.below hb)
    have HD194 := Lib.hid (dr_litX V193 V0.heap.size i E e0 38 HL193.out.size (ek_inf.below HI0.out HL193.out))
    clear hb hst
    go_simp
    refine hK.out _ _ ?_ (fun hH194 => ?_)
    · exact HS.out _ HL194.out
    clear hK K hH193
    generalize V193.alloc (.cells #[.string i.name, .int .i64 i.kind, .slice E i.dims.length e0] 38) = V194 at *
    refine wpAnyH_ready (rs := [4]) (by kernel_rfl) (by simp) ?_
    refine AllReadyH.cons rfl (fun K hK => ?_) ?_
    go_simp
    go_wp2_with (go_at_call 13; (with_reducible refine (HLX.out _ _ HL194.out HD194.out).mono ?_); rintro e V195 ⟨v, rfl, hr, hgb, hb⟩; obtain ⟨g, cg, E6, e6, rfl, hgu, j0, j1, j2, hia⟩ := rr_oneX hr)
    have hst := hb.mono HL194.out.size
    have hgl := hgb g rfl
    have hn5 : V161.heap.size ≠ g := by have := HF194.out.2.1; omega
    have hn6 : V0.heap.size ≠ g := by have := HG194.out.2.1; omega
    have HL195 := Lib.hid (HL194.out.trans hst)
    have HR195 := Lib.hid (er_nod.keep HR194.out hb HL194.out.size)
    have HF195 := Lib.hid (HF194.out.below hb)
    have HG195 := Lib.hid (HG194.out.below hb)
    refine hK.out _ _ ?_ (fun hH195 => ?_)
    · exact HS.out _ HL195.out
    have HJ195 : Hid (J3 g i E6 e6 V195) := Lib.hid ⟨hgu, j0, j1, j2⟩
    have HI195 := Lib.hid hia
    clear hb hst hr hgb hgu hgl hia hK K hH194 hH195 j0 j1 j2
    refine wpAnyH_weaken (S' := S3 n i A c D d E e0 w g E6 e6) (fun W h => h.1) _ _ _ _ ?_
    have hH195 : S3 n i A c D d E e0 w g E6 e6 V195 := ⟨HS.out _ HL195.out, HJ195.out.2⟩
    refine n_take (i := 5) (v := .pointer (some ⟨g, 0, none⟩)) rfl (by rfl) (by kernel_rfl) (by kernel_rfl) (by kernel_rfl) (fun _ _ _ h => h) (Or.inl ⟨by rfl, ?_⟩) (by assumption) ?_
    · (intro w' hSw; simp only [S3, S2] at hSw; go_simp)
    simp only [Act.put, List.setIfInBounds_toArray, List.set_cons_zero, List.set_cons_succ]
    refine n_take (i := 6) (v := .agg #[.string i.name, .int .i64 i.kind, .slice E6 i.dims.length e6]) rfl (by rfl) (by kernel_rfl) (by kernel_rfl) (by kernel_rfl) (fun _ _ _ h => h) (Or.inl ⟨by rfl, ?_⟩) (by assumption) ?_
    · (intro w' hSw; simp only [S3, S2] at hSw; go_simp)
    simp only [Act.put, List.setIfInBounds_toArray, List.set_cons_zero, List.set_cons_succ]
    have hw5 : w.heap.size ≤ V161.heap.size := Nat.le_trans HW0.out hge5
    have hw6 : w.heap.size ≤ V0.heap.size := Nat.le_trans HW0.out hge6
    refine wpAnyH_ready (rs := [9]) (by kernel_rfl) (by simp) ?_
    refine AllReadyH.cons rfl (fun K hK => ?_) ?_
    obtain ⟨z0, z1, z2, z3⟩ := HF195.out.four
    have zf := fun j => HF195.out.free j
    obtain ⟨V196, hV, hK1⟩ := n_name (P := Fa w V0 V161.heap.size V0.heap.size g n i A5 c5 D5 d5 E6 e6) (fin2 HL195.out HR195.out HF195.out HG195.out HJ195.out HI195.out hge5 hw5 hn56 hn5)
    have HK1 := Lib.hid hK1
    clear hK1
    go_simp
    refine hK.out _ _ ?_ (fun hH196 => ?_)
    · exact ⟨HS.out _ HK1.out.1, HK1.out.2.2.2.2.1.2⟩
    clear hK K hH195 z0 z1 z2 z3 zf hV
    refine wpAnyH_ready (rs := [10]) (by kernel_rfl) (by simp) ?_
    refine AllReadyH.cons rfl (fun K hK => ?_) ?_
    obtain ⟨z0, z1, z2⟩ := HK1.out.2.2.2.1.three
    have zf := fun j => HK1.out.2.2.2.1.free j
    obtain ⟨V197, hV, hK2⟩ := n_name (P := Fb w V161.heap.size V0.heap.size g n i A c D d E e0 A5 c5 D5 d5 E6 e6) (fin3 HS.out HBX.out HN0.out HI0.out HK1.out hge6 hw6 hn56 hn6)
    have HK2 := Lib.hid hK2
    clear hK2
    go_simp
    refine hK.out _ _ ?_ (fun hH197 => ?_)
    · exact ⟨HK2.out.1, HK2.out.2.1⟩
    clear hK K z0 z1 z2 zf hV
    refine wpAnyH_done (by kernel_rfl) ?_ _
    go_wp2_with fail
    go_meet
    exact ⟨_, _, _, _, _, _, _, _, rfl, rfl, HK2.out.2.2⟩
    exact AllReadyH.nil
    exact AllReadyH.nil
    exact AllReadyH.nil
    exact AllReadyH.nil
    refine AllReadyH.cons rfl (fun K hK => ?_) ?_
    have hb := (Below.refl V192.heap.size V192).alloc (Nat.le_refl _) (.cells #[.string i.name, .int .i64 i.kind, .slice E i.dims.length e0] 38)
    have hst := hb.mono HL192.out.size
    have HL198 := Lib.hid (HL192.out.trans hst)
    have HF198 := Lib.hid (HF192.out.below hb)
    have HG198 := Lib.hid (HG192.out.below hb)
    have HD198 := Lib.hid (dr_litX V192 V0.heap.size i E e0 38 HL192.out.size (ek_inf.below HI0.out HL192.out))
    clear hb hst
    go_simp
    refine hK.out _ _ ?_ (fun hH198 => ?_)
    · exact HS.out _ HL198.out
    clear hK K hH192
    generalize V192.alloc (.cells #[.string i.name, .int .i64 i.kind, .slice E i.dims.length e0] 38) = V198 at *
    refine wpAnyH_ready (rs := [1]) (by kernel_rfl) (by simp) ?_
    refine AllReadyH.cons rfl (fun K hK => ?_) ?_
    go_simp
    go_wp2_with (go_at_call 11; (with_reducible refine (HLN.out _ HL198.out).mono ?_); rintro e V199 ⟨cs, rfl, hr, hb⟩; obtain ⟨A5, c5, D5, d5, rfl⟩ := RNod.shape hr)
    have hst := hb.mono HL198.out.size
    have HL199 := Lib.hid (HL198.out.trans hst)
    have HD199 := Lib.hid ((HD198.out.below (ek_infB _) hb).more (ek_infB _) hb.size)
    have HF199 := Lib.hid (HF198.out.below hb)
    have HG199 := Lib.hid (HG198.out.below hb)
    have HR199 := Lib.hid hr
    clear hb hst hr
    refine hK.out _ _ ?_ (fun hH199 => ?_)
    · exact HS.out _ HL199.out
    clear hK K hH198
    refine wpAnyH_ready (rs := [4]) (by kernel_rfl) (by simp) ?_
    refine AllReadyH.cons rfl (fun K hK => ?_) ?_
    go_simp
    go_wp2_with (go_at_call 13; (with_reducible refine (HLX.out _ _ HL199.out HD199.out).mono ?_); rintro e V200 ⟨v, rfl, hr, hgb, hb⟩; obtain ⟨g, cg, E6, e6, rfl, hgu, j0, j1, j2, hia⟩ := rr_oneX hr)
    have hst := hb.mono HL199.out.size
    have hgl := hgb g rfl
    have hn5 : V161.heap.size ≠ g := by have := HF199.out.2.1; omega
    have hn6 : V0.heap.size ≠ g := by have := HG199.out.2.1; omega
    have HL200 := Lib.hid (HL199.out.trans hst)
    have HR200 := Lib.hid (er_nod.keep HR199.out hb HL199.out.size)
    have HF200 := Lib.hid (HF199.out.below hb)
    have HG200 := Lib.hid (HG199.out.below hb)
    refine hK.out _ _ ?_ (fun hH200 => ?_)
    · exact HS.out _ HL200.out
    have HJ200 : Hid (J3 g i E6 e6 V200) := Lib.hid ⟨hgu, j0, j1, j2⟩
    have HI200 := Lib.hid hia
    clear hb hst hr hgb hgu hgl hia hK K hH199 hH200 j0 j1 j2
    refine wpAnyH_weaken (S' := S3 n i A c D d E e0 w g E6 e6) (fun W h => h.1) _ _ _ _ ?_
    have hH200 : S3 n i A c D d E e0 w g E6 e6 V200 := ⟨HS.out _ HL200.out, HJ200.out.2⟩
    refine n_take (i := 5) (v := .pointer (some ⟨g, 0, none⟩)) rfl (by rfl) (by kernel_rfl) (by kernel_rfl) (by kernel_rfl) (fun _ _ _ h => h) (Or.inl ⟨by rfl, ?_⟩) (by assumption) ?_
    · (intro w' hSw; simp only [S3, S2] at hSw; go_simp)
    simp only [Act.put, List.setIfInBounds_toArray, List.set_cons_zero, List.set_cons_succ]
    refine n_take (i := 6) (v := .agg #[.string i.name, .int .i64 i.kind, .slice E6 i.dims.length e6]) rfl (by rfl) (by kernel_rfl) (by kernel_rfl) (by kernel_rfl) (fun _ _ _ h => h) (Or.inl ⟨by rfl, ?_⟩) (by assumption) ?_
    · (intro w' hSw; simp only [S3, S2] at hSw; go_simp)
    simp only [Act.put, List.setIfInBounds_toArray, List.set_cons_zero, List.set_cons_succ]
    have hw5 : w.heap.size ≤ V161.heap.size := Nat.le_trans HW0.out hge5
    have hw6 : w.heap.size ≤ V0.heap.size := Nat.le_trans HW0.out hge6
    refine wpAnyH_ready (rs := [9]) (by kernel_rfl) (by simp) ?_
    refine AllReadyH.cons rfl (fun K hK => ?_) ?_
    obtain ⟨z0, z1, z2, z3⟩ := HF200.out.four
    have zf := fun j => HF200.out.free j
    obtain ⟨V201, hV, hK1⟩ := n_name (P := Fa w V0 V161.heap.size V0.heap.size g n i A5 c5 D5 d5 E6 e6) (fin2 HL200.out HR200.out HF200.out HG200.out HJ200.out HI200.out hge5 hw5 hn56 hn5)
    have HK1 := Lib.hid hK1
    clear hK1
    go_simp
    refine hK.out _ _ ?_ (fun hH201 => ?_)
    · exact ⟨HS.out _ HK1.out.1, HK1.out.2.2.2.2.1.2⟩
    clear hK K hH200 z0 z1 z2 z3 zf hV
    refine wpAnyH_ready (rs := [10]) (by kernel_rfl) (by simp) ?_
    refine AllReadyH.cons rfl (fun K hK => ?_) ?_
    obtain ⟨z0, z1, z2⟩ := HK1.out.2.2.2.1.three
    have zf := fun j => HK1.out.2.2.2.1.free j
    obtain ⟨V202, hV, hK2⟩ := n_name (P := Fb w V161.heap.size V0.heap.size g n i A c D d E e0 A5 c5 D5 d5 E6 e6) (fin3 HS.out HBX.out HN0.out HI0.out HK1.out hge6 hw6 hn56 hn6)
    have HK2 := Lib.hid hK2
    clear hK2
    go_simp
    refine hK.out _ _ ?_ (fun hH202 => ?_)
    · exact ⟨HK2.out.1, HK2.out.2.1⟩
    clear hK K z0 z1 z2 zf hV
    refine wpAnyH_done (by kernel_rfl) ?_ _
    go_wp2_with fail
    go_meet
    exact ⟨_, _, _, _, _, _, _, _, rfl, rfl, HK2.out.2.2⟩
    exact AllReadyH.nil
    exact AllReadyH.nil
    exact AllReadyH.nil
    exact AllReadyH.nil
    exact AllReadyH.nil
    exact AllReadyH.nil
    exact AllReadyH.nil
  case rest =>
    obtain ⟨g5, g6, A5, c5, D5, d5, E6, e6, rfl, rfl, hpw⟩ := hcut
    have HP := Lib.hid hpw
    clear hpw HQ0 HA0 HD0 HDL HLN
    have HSM2 := Lib.hid (fun W' (h : PW w g5 g6 #[.string n.op, .slice A n.ins.length c, .string n.out, .slice D n.attrs.length d] #[.string i.name, .int .i64 i.kind, .slice E i.dims.length e0] #[.string n.op, .slice A5 n.ins.length c5, .string n.out, .slice D5 n.attrs.length d5] #[.string i.name, .int .i64 i.kind, .slice E6 i.dims.length e6] n i W') cs (hr : InfAt W'.heap.size W' i cs) => (same11_any i cs _ W' hr h.i6 : Calls Tryz.prog 12 #[.agg cs.toArray, .agg #[.string i.name, .int .i64 i.kind, .slice E6 i.dims.length e6]] W' fun e w' => e = .returned (.bool true) ∧ Below W'.heap.size W' w'))
    have hcil : i.dims.length ≤ 6000 ∧ i.name.size ≤ 6000 := by have := HCI.out; unfold cI at this; omega
    obtain ⟨hcil, hcin⟩ := hcil
    go_upto_region 4 with fail
    obtain ⟨x0, x1, x2, x3⟩ := HP.out.a.four
    obtain ⟨y0, y1, y2⟩ := HP.out.b.three
    have r0 := fun dd os => cell_regrown x0 dd os
    have r1 := fun dd os => cell_regrown x1 dd os
    have r2 := fun dd os => cell_regrown x2 dd os
    have r3 := fun dd os => cell_regrown x3 dd os
    have t0 := fun dd os => cell_regrown y0 dd os
    have t1 := fun dd os => cell_regrown y1 dd os
    have t2 := fun dd os => cell_regrown y2 dd os
    have HPN : Hid (∀ dd os, Calls Tryz.prog 15 #[.agg #[.string n.op, .slice A n.ins.length c, .string n.out, .slice D n.attrs.length d]] (grow (redrawn wc dd) os) fun e w' => e = .returned (.string (wrN n)) ∧ Below (grow (redrawn wc dd) os).heap.size (grow (redrawn wc dd) os) w') := Lib.hid (fun dd os => putNode_any n _ _ (HP.out.below (below_regrown wc dd os)).n2 HSMN.out)
    have HPI : Hid (∀ dd os, Calls Tryz.prog 16 #[.agg #[.string i.name, .int .i64 i.kind, .slice E i.dims.length e0]] (grow (redrawn wc dd) os) fun e w' => e = .returned (.string (wrI i)) ∧ Below (grow (redrawn wc dd) os).heap.size (grow (redrawn wc dd) os) w') := Lib.hid (fun dd os => putInfo_any i _ _ (HP.out.below (below_regrown wc dd os)).i3 (by omega) (by omega))
    have HRN : Hid (∀ W, PW w g5 g6 #[.string n.op, .slice A n.ins.length c, .string n.out, .slice D n.attrs.length d] #[.string i.name, .int .i64 i.kind, .slice E i.dims.length e0] #[.string n.op, .slice A5 n.ins.length c5, .string n.out, .slice D5 n.attrs.length d5] #[.string i.name, .int .i64 i.kind, .slice E6 i.dims.length e6] n i W → Calls Tryz.prog 17 #[.agg #[.string n.op, .slice A5 n.ins.length c5, .string n.out, .slice D5 n.attrs.length d5]] W fun e w' => e = .returned (.string (wrN n)) ∧ Below W.heap.size W w') := Lib.hid (fun W h => rputnode_any n _ W h.n5 HSMN.out)
    have HRI : Hid (∀ W, PW w g5 g6 #[.string n.op, .slice A n.ins.length c, .string n.out, .slice D n.attrs.length d] #[.string i.name, .int .i64 i.kind, .slice E i.dims.length e0] #[.string n.op, .slice A5 n.ins.length c5, .string n.out, .slice D5 n.attrs.length d5] #[.string i.name, .int .i64 i.kind, .slice E6 i.dims.length e6] n i W → Calls Tryz.prog 18 #[.agg #[.string i.name, .int .i64 i.kind, .slice E6 i.dims.length e6]] W fun e w' => e = .returned (.string (wrI i)) ∧ Below W.heap.size W w') := Lib.hid (fun W h => rputinfo_any i _ W h.i6 (by omega) (by omega))
    have HBN := Lib.hid (fun h => back_node (n := n) h HAO.out HCN.out)
    have HBI := Lib.hid (fun h1 h2 => back_info (i := i) h1 h2 HIO.out HCI.out)
    have HWN := Lib.hid (show (wrN n).size ≤ maxLen by have := wrN_size n; have := HCN.out; unfold maxLen; omega)
    have HWI := Lib.hid (show (wrI i).size ≤ maxLen by have := wrI_size i; have := HCI.out; unfold maxLen; omega)
    generalize wrN n = SN at *
    generalize wrI i = SI at *
    clear x0 x1 x2 x3 y0 y1 y2
    refine wp_region_quiet_below (by kernel_rfl) (by kernel_rfl) ?_
    repeat (go_big_quiet_step ((first
      | (go_at_call 15; with_reducible exact Calls.regrown_of (HPN.out _ _))
      | (go_at_call 16; with_reducible exact Calls.regrown_of (HPI.out _ _)))))
    refine wpQuiet_nil ?_
    rintro w5 ⟨p, rfl⟩
    have HP5 := Lib.hid (HP.out.below (below_regrown wc p.d p.os))
    clear r0 r1 r2 r3 t0 t1 t2 HPN HPI HP
    generalize grow (redrawn wc p.d) p.os = w5 at *
    clear p
    obtain ⟨x0, x1, x2, x3⟩ := HP5.out.c.four
    have e1 := teq_yes (rfl : SN = SN)
    have e2 := teq_yes (rfl : SI = SI)
    go_wp2_with fail
    refine (HRN.out _ HP5.out).mono ?_
    rintro e w6 ⟨rfl, hb⟩
    have HP6 := Lib.hid (HP5.out.below hb)
    clear hb x0 x1 x2 x3 HP5 HRN
    obtain ⟨y0, y1, y2⟩ := HP6.out.d.three
    go_wp2_with fail
    refine (HRI.out _ HP6.out).mono ?_
    rintro e w7 ⟨rfl, hb⟩
    have HP7 := Lib.hid (HP6.out.below hb)
    clear hb y0 y1 y2 HP6 HRI
    obtain ⟨x0, x1, x2, x3⟩ := HP7.out.a.four
    obtain ⟨z0, z1, z2, z3⟩ := HP7.out.c.four
    have HM0 := Lib.hid (show decide ((n.ins.length : Int) ≤ 64) = mayK n 0 by rw [mayK_zero, decide_eq_decide]; omega)
    have hal := HSMN.out.al
    go_wp2_with fail
    clear x0 x1 x2 x3 z0 z1 z2 z3
    go_loopw [9, 52] (fun s9 j wr => ∃ (k : Nat) (K : Int), j = .int .i64 K ∧ s9 = .bool (mayK n k) ∧ K = (k : Nat) ∧ k ≤ n.attrs.length ∧ PW w g5 g6 #[.string n.op, .slice A n.ins.length c, .string n.out, .slice D n.attrs.length d] #[.string i.name, .int .i64 i.kind, .slice E i.dims.length e0] #[.string n.op, .slice A5 n.ins.length c5, .string n.out, .slice D5 n.attrs.length d5] #[.string i.name, .int .i64 i.kind, .slice E6 i.dims.length e6] n i wr) (fun _ j _ => n.attrs.length - (intOf j).toNat)
    case atStart => exact ⟨0, _, rfl, by rw [← HM0.out], rfl, by omega, HP7.out⟩
    case round =>
      obtain ⟨k, K, rfl, rfl, rfl, hk, hpw⟩ := hrel
      have HP := Lib.hid hpw
      clear HP7 HM0
      by_cases hlt : k < n.attrs.length
      · obtain ⟨bb, oo, ca, rfl, hbb, hpa, hcx⟩ := (nodat_dr hpw.n5).at_ ek_att hlt
        obtain ⟨A1, c1, rfl⟩ := AttAt.shape hpa
        have p0 := hcx 0 _ rfl
        have p1 := hcx 1 _ rfl
        have p2 := hcx 2 _ rfl
        have p3 := hcx 3 _ rfl
        simp only [Nat.add_zero] at p0
        have hns := (HAO.out _ (List.getElem_mem hlt)).name
        have HMS := Lib.hid (mayK_succ hlt)
        have HFI := Lib.hid (fun W (h : PW w g5 g6 #[.string n.op, .slice A n.ins.length c, .string n.out, .slice D n.attrs.length d] #[.string i.name, .int .i64 i.kind, .slice E i.dims.length e0] #[.string n.op, .slice A5 n.ins.length c5, .string n.out, .slice (some ⟨bb, oo, none⟩) n.attrs.length d5] #[.string i.name, .int .i64 i.kind, .slice E6 i.dims.length e6] n i W) => rfind_any (some ⟨bb, oo, none⟩) d5 n.attrs n.attrs[k].name W (by unfold maxLen; omega) (nodat_dr h.n5))
        clear hpw hcx hpa
        have HPa := Lib.hid (HP.out.below ((Below.refl wr.heap.size wr).alloc (Nat.le_refl _) (.cells #[.string n.attrs[k].name, .bool n.attrs[k].one, .int .i64 n.attrs[k].int, .slice A1 n.attrs[k].ints.length c1] 62)))
        have HXa := Lib.hid (HP.out.a.next #[.string n.attrs[k].name, .bool n.attrs[k].one, .int .i64 n.attrs[k].int, .slice A1 n.attrs[k].ints.length c1] 62)
        obtain ⟨q0, q1, q2, q3⟩ := HXa.out.four
        obtain ⟨z0, z1, z2, z3⟩ := HPa.out.c.four
        generalize n.attrs[k] = u at *
        cases hmk : mayK n k
        · rw [hmk] at HMS
          go_wp2_with fail
          go_roundw
          case rel => exact ⟨k + 1, _, rfl, by rw [HMS.out]; rfl, by omega, by omega, HPa.out⟩
          case measure => simp [intOf]; omega
        rw [hmk] at HMS
        go_wp2_with fail
        refine (rname_any u.name _ (by unfold maxLen; omega)).mono ?_
        rintro e w8 ⟨rfl, rfl⟩
        cases hnm : nm u.name
        · rw [hnm] at HMS
          go_wp2_with fail
          go_roundw
          case rel => exact ⟨k + 1, _, rfl, by rw [HMS.out]; rfl, by omega, by omega, HPa.out⟩
          case measure => simp [intOf]; omega
        rw [hnm] at HMS
        have HFW := Lib.hid (HFI.out _ HPa.out)
        generalize fndI (fun a => decide (a.name = u.name)) n.attrs = fd at *
        go_wp2_with fail
        refine HFW.out.mono ?_
        rintro e w9 ⟨rfl, hb⟩
        have HP9 := Lib.hid (HPa.out.below hb)
        clear hb p0 p1 p2 p3 q0 q1 q2 q3 z0 z1 z2 z3 HPa HXa HFI HFW
        go_wp2_with fail
        go_roundw
        case rel => exact ⟨k + 1, _, rfl, by rw [HMS.out]; rfl, by omega, by omega, HP9.out⟩
        case measure => simp [intOf]; omega
      · obtain rfl : k = n.attrs.length := by omega
        clear hpw hlt hk
        cases hmk : mayK n n.attrs.length
        · obtain ⟨y0, y1, y2⟩ := HP.out.b.three
          obtain ⟨z0, z1, z2⟩ := HP.out.d.three
          go_wp2_with fail
          refine (rname_any i.name _ (by unfold maxLen; omega)).mono ?_
          rintro e w20 ⟨rfl, rfl⟩
          cases hnm : nm i.name
          · go_wp2_with fail
            refine (HAW.out _).mono ?_
            rintro e w30 ⟨rfl, hb⟩
            have HB := Lib.hid (HP.out.below hb).a.all
            clear hb
            go_wp2_with fail
            go_ret
            exact ⟨rfl, HB.out⟩
          go_wp2_with fail
          refine (refSize_any i.kind _).mono ?_
          rintro e w21 ⟨rfl, rfl⟩
          by_cases hks : 0 < kSize i.kind
          case neg =>
            have hkb : decide ((0 : Int) < kSize i.kind) = false := decide_eq_false hks
            go_wp2_with fail
            refine (HAW.out _).mono ?_
            rintro e w30 ⟨rfl, hb⟩
            have HB := Lib.hid (HP.out.below hb).a.all
            clear hb
            go_wp2_with fail
            go_ret
            exact ⟨rfl, HB.out⟩
          have hkb : decide ((0 : Int) < kSize i.kind) = true := decide_eq_true hks
          have HIB := Lib.hid (HBI.out hnm (by omega))
          have HRI2 := Lib.hid (fun W => readInfo_any SI W HWI.out)
          rw [HIB.out] at HRI2
          clear hks hnm
          go_wp2_with fail
          refine (HRI2.out _).mono ?_
          rintro e w22 ⟨cs, rfl, ho, hb⟩
          dsimp only at ho
          obtain ⟨E14, e14, rfl⟩ := OInf.shape ho
          have hbl := (Below.refl w22.heap.size w22).alloc (Nat.le_refl _) (.cells #[.string i.name, .int .i64 i.kind, .slice E14 i.dims.length e14] 38)
          have HPc := Lib.hid (HP.out.below (step_below hb hbl))
          have HXc := Lib.hid ((HP.out.below hb).a.next #[.string i.name, .int .i64 i.kind, .slice E14 i.dims.length e14] 38)
          have HIO2 := Lib.hid (eo_inf.keep ho hbl).at_
          clear ho hb hbl HRI2 HIB HP y0 y1 y2 z0 z1 z2
          go_upto_region 19 with fail
          generalize hW : w22.alloc (.cells #[.string i.name, .int .i64 i.kind, .slice E14 i.dims.length e14] 38) = W22 at *
          clear hW
          have HP23 := Lib.hid HPc.out.drew
          have HX23 := Lib.hid HXc.out.drew10
          have HD24 : Hid (DR InfAt (W22.alloc (.cells #[.string i.name, .int .i64 i.kind, .slice E14 i.dims.length e14] 38)).drew (W22.alloc (.cells #[.string i.name, .int .i64 i.kind, .slice E14 i.dims.length e14] 38)).drew.heap.size 3 (some ⟨W22.heap.size, 0, none⟩) [i]) := Lib.hid (((dr_lit W22 i E14 e14 38 HIO2.out).below (w' := (W22.alloc (.cells #[.string i.name, .int .i64 i.kind, .slice E14 i.dims.length e14] 38)).drew) ek_inf (Below.refl _ _).drew).more ek_inf (show W22.heap.size + 1 ≤ (W22.alloc (.cells #[.string i.name, .int .i64 i.kind, .slice E14 i.dims.length e14] 38)).heap.size by simp))
          have hba := (Below.refl W22.heap.size W22).alloc (Nat.le_refl _) (.cells #[.string i.name, .int .i64 i.kind, .slice E14 i.dims.length e14] 38)
          have HP24 := Lib.hid (HPc.out.below hba).drew
          have HX24 := Lib.hid (HXc.out.below hba).drew10
          clear hba HPc HXc HIO2
          obtain ⟨p0, p1, p2⟩ := HX23.out.three
          obtain ⟨q0, q1, q2⟩ := HP23.out.d.three
          obtain ⟨r0, r1, r2⟩ := HX24.out.three
          obtain ⟨s0, s1, s2⟩ := HP24.out.d.three
          go_region_with (first
            | (go_at_call 13; (with_reducible refine (HLI.out _ _ HD24.out).mono ?_); rintro e w24 ⟨v, rfl, hr, hb⟩; have HP25 := Lib.hid (HP24.out.below hb); have HX25 := Lib.hid (HX24.out.below hb); obtain ⟨g, cg, A15, k15, rfl, j0, j1, j2, hy⟩ := rr_one hr; have HIA := Lib.hid (ek_inf.more hy hb.size); clear hb hr hy; obtain ⟨k0, k1, k2⟩ := HX25.out.three; obtain ⟨l0, l1, l2⟩ := HP25.out.d.three)
            | (go_at_call 12; (with_reducible refine (HSM2.out _ HP25.out _ HIA.out).mono ?_); rintro e w25 ⟨rfl, hb⟩; have HP26 := Lib.hid (HP25.out.below hb); clear hb))
          all_goals
            go_wp2_with fail
            refine (HAW.out _).mono ?_
            rintro e w30 ⟨rfl, hb⟩
            have HB := Lib.hid (HP26.out.below hb).a.all
            clear hb
            go_wp2_with fail
            go_ret
            exact ⟨rfl, HB.out⟩
        have HNB := Lib.hid (HBN.out hmk)
        have HRD := Lib.hid (fun W => readNode_any SN W HWN.out)
        rw [HNB.out] at HRD
        have HSN2 := Lib.hid (sameN_nN n)
        clear hmk HNB
        generalize nN n = N2 at *
        go_wp2_with fail
        refine (HRD.out _).mono ?_
        rintro e w10 ⟨cs, rfl, ho, hb⟩
        dsimp only at ho
        obtain ⟨A12, c12, D12, d12, rfl⟩ := ONod.shape ho
        have hba := step_below hb ((Below.refl w10.heap.size w10).alloc (Nat.le_refl _) (.cells #[.string N2.op, .slice A12 N2.ins.length c12, .string N2.out, .slice D12 N2.attrs.length d12] 26))
        have HPb := Lib.hid (HP.out.below hba)
        have HXb := Lib.hid ((HP.out.below hb).a.next #[.string N2.op, .slice A12 N2.ins.length c12, .string N2.out, .slice D12 N2.attrs.length d12] 26)
        have HNO := Lib.hid (eo_nod.keep ho ((Below.refl w10.heap.size w10).alloc (Nat.le_refl _) (.cells #[.string N2.op, .slice A12 N2.ins.length c12, .string N2.out, .slice D12 N2.attrs.length d12] 26))).at_
        clear ho hb hba HRD HP
        go_upto_region 15 with fail
        generalize hW : w10.alloc (.cells #[.string N2.op, .slice A12 N2.ins.length c12, .string N2.out, .slice D12 N2.attrs.length d12] 26) = W10 at *
        clear hW
        have HP11 := Lib.hid HPb.out.drew
        have HX11 := Lib.hid HXb.out.drew10
        have HL11 : Hid (Below W10.heap.size W10 W10.drew) := Lib.hid (Below.refl _ _).drew
        have HLN2 := Lib.hid (fun W' (h : Below W10.heap.size W10 W') => lnode_any W10.heap.size N2 _ W' h.size (ek_nod.below HNO.out h))
        have HNS := Lib.hid (fun W' (h : PW w g5 g6 #[.string n.op, .slice A n.ins.length c, .string n.out, .slice D n.attrs.length d] #[.string i.name, .int .i64 i.kind, .slice E i.dims.length e0] #[.string n.op, .slice A5 n.ins.length c5, .string n.out, .slice D5 n.attrs.length d5] #[.string i.name, .int .i64 i.kind, .slice E6 i.dims.length e6] n i W') cs (hr : NodAt W'.heap.size W' N2 cs) => (by have q := rnode_any N2 n cs _ W' hr h.n5; rwa [HSN2.out] at q : Calls Tryz.prog 10 #[.agg cs.toArray, .agg #[.string n.op, .slice A5 n.ins.length c5, .string n.out, .slice D5 n.attrs.length d5]] W' fun e w' => e = .returned (.bool true) ∧ Below W'.heap.size W' w'))
        clear HPb HXb HNO HSN2
        go_region_held (fun W => (W.cell? ⟨w10.heap.size, 0, none⟩ = some (.string N2.op) ∧ W.cell? ⟨w10.heap.size, 1, none⟩ = some (.slice A12 N2.ins.length c12) ∧ W.cell? ⟨w10.heap.size, 2, none⟩ = some (.string N2.out) ∧ W.cell? ⟨w10.heap.size, 3, none⟩ = some (.slice D12 N2.attrs.length d12)) ∧ (W.cell? ⟨g5, 0, none⟩ = some (.string n.op) ∧ W.cell? ⟨g5, 1, none⟩ = some (.slice A5 n.ins.length c5) ∧ W.cell? ⟨g5, 2, none⟩ = some (.string n.out) ∧ W.cell? ⟨g5, 3, none⟩ = some (.slice D5 n.attrs.length d5)))
          (first | exact ⟨HX13.out.four, HP13.out.c.four⟩ | exact ⟨HX12.out.four, HP12.out.c.four⟩ | exact ⟨HX11.out.four, HP11.out.c.four⟩)
          (first
            | (go_at_call 11; (with_reducible refine (HLN2.out _ HL11.out).mono ?_); rintro e w11 ⟨cs, rfl, hr, hb⟩; have HP12 := Lib.hid (HP11.out.below hb); have HX12 := Lib.hid (HX11.out.below hb); have HRA := Lib.hid (hr.at_ (Nat.le_trans HL11.out.size hb.size)); obtain ⟨A13, c13, D13, d13, rfl⟩ := RNod.shape hr; clear hb hr)
            | (go_at_call 10; (with_reducible refine (HNS.out _ HP12.out _ HRA.out).mono ?_); rintro e w12 ⟨rfl, hb⟩; have HP13 := Lib.hid (HP12.out.below hb); have HX13 := Lib.hid (HX12.out.below hb); clear hb))
        all_goals
          clear HX11 HX12 HX13 HP11 HP12 HL11 HLN2 HNS HRA
          obtain ⟨y0, y1, y2⟩ := HP13.out.b.three
          obtain ⟨z0, z1, z2⟩ := HP13.out.d.three
          go_wp2_with fail
          refine (rname_any i.name _ (by unfold maxLen; omega)).mono ?_
          rintro e w20 ⟨rfl, rfl⟩
          cases hnm : nm i.name
          · go_wp2_with fail
            refine (HAW.out _).mono ?_
            rintro e w30 ⟨rfl, hb⟩
            have HB := Lib.hid (HP13.out.below hb).a.all
            clear hb
            go_wp2_with fail
            go_ret
            exact ⟨rfl, HB.out⟩
          go_wp2_with fail
          refine (refSize_any i.kind _).mono ?_
          rintro e w21 ⟨rfl, rfl⟩
          by_cases hks : 0 < kSize i.kind
          case neg =>
            have hkb : decide ((0 : Int) < kSize i.kind) = false := decide_eq_false hks
            go_wp2_with fail
            refine (HAW.out _).mono ?_
            rintro e w30 ⟨rfl, hb⟩
            have HB := Lib.hid (HP13.out.below hb).a.all
            clear hb
            go_wp2_with fail
            go_ret
            exact ⟨rfl, HB.out⟩
          have hkb : decide ((0 : Int) < kSize i.kind) = true := decide_eq_true hks
          have HIB := Lib.hid (HBI.out hnm (by omega))
          have HRI2 := Lib.hid (fun W => readInfo_any SI W HWI.out)
          rw [HIB.out] at HRI2
          clear hks hnm
          go_wp2_with fail
          refine (HRI2.out _).mono ?_
          rintro e w22 ⟨cs, rfl, ho, hb⟩
          dsimp only at ho
          obtain ⟨E14, e14, rfl⟩ := OInf.shape ho
          have hbl := (Below.refl w22.heap.size w22).alloc (Nat.le_refl _) (.cells #[.string i.name, .int .i64 i.kind, .slice E14 i.dims.length e14] 38)
          have HPc := Lib.hid (HP13.out.below (step_below hb hbl))
          have HXc := Lib.hid ((HP13.out.below hb).a.next #[.string i.name, .int .i64 i.kind, .slice E14 i.dims.length e14] 38)
          have HIO2 := Lib.hid (eo_inf.keep ho hbl).at_
          clear ho hb hbl HRI2 HIB HP13 y0 y1 y2 z0 z1 z2
          go_upto_region 19 with fail
          generalize hW : w22.alloc (.cells #[.string i.name, .int .i64 i.kind, .slice E14 i.dims.length e14] 38) = W22 at *
          clear hW
          have HP23 := Lib.hid HPc.out.drew
          have HX23 := Lib.hid HXc.out.drew10
          have HD24 : Hid (DR InfAt (W22.alloc (.cells #[.string i.name, .int .i64 i.kind, .slice E14 i.dims.length e14] 38)).drew (W22.alloc (.cells #[.string i.name, .int .i64 i.kind, .slice E14 i.dims.length e14] 38)).drew.heap.size 3 (some ⟨W22.heap.size, 0, none⟩) [i]) := Lib.hid (((dr_lit W22 i E14 e14 38 HIO2.out).below (w' := (W22.alloc (.cells #[.string i.name, .int .i64 i.kind, .slice E14 i.dims.length e14] 38)).drew) ek_inf (Below.refl _ _).drew).more ek_inf (show W22.heap.size + 1 ≤ (W22.alloc (.cells #[.string i.name, .int .i64 i.kind, .slice E14 i.dims.length e14] 38)).heap.size by simp))
          have hba := (Below.refl W22.heap.size W22).alloc (Nat.le_refl _) (.cells #[.string i.name, .int .i64 i.kind, .slice E14 i.dims.length e14] 38)
          have HP24 := Lib.hid (HPc.out.below hba).drew
          have HX24 := Lib.hid (HXc.out.below hba).drew10
          clear hba HPc HXc HIO2
          obtain ⟨p0, p1, p2⟩ := HX23.out.three
          obtain ⟨q0, q1, q2⟩ := HP23.out.d.three
          obtain ⟨r0, r1, r2⟩ := HX24.out.three
          obtain ⟨s0, s1, s2⟩ := HP24.out.d.three
          go_region_with (first
            | (go_at_call 13; (with_reducible refine (HLI.out _ _ HD24.out).mono ?_); rintro e w24 ⟨v, rfl, hr, hb⟩; have HP25 := Lib.hid (HP24.out.below hb); have HX25 := Lib.hid (HX24.out.below hb); obtain ⟨g, cg, A15, k15, rfl, j0, j1, j2, hy⟩ := rr_one hr; have HIA := Lib.hid (ek_inf.more hy hb.size); clear hb hr hy; obtain ⟨k0, k1, k2⟩ := HX25.out.three; obtain ⟨l0, l1, l2⟩ := HP25.out.d.three)
            | (go_at_call 12; (with_reducible refine (HSM2.out _ HP25.out _ HIA.out).mono ?_); rintro e w25 ⟨rfl, hb⟩; have HP26 := Lib.hid (HP25.out.below hb); clear hb))
          all_goals
            go_wp2_with fail
            refine (HAW.out _).mono ?_
            rintro e w30 ⟨rfl, hb⟩
            have HB := Lib.hid (HP26.out.below hb).a.all
            clear hb
            go_wp2_with fail
            go_ret
            exact ⟨rfl, HB.out⟩
end Go.Proofs.YtiniicehfjgpgaaGreat
