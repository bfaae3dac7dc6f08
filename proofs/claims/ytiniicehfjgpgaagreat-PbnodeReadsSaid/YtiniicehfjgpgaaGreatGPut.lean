/- The walks of putPart and Put: a number's bytes. -/
import Derived.Test.YtiniicehfjgpgaaGreatGWhole
import Derived.Test.YtiniicehfjgpgaaGreatMath
namespace Go.Proofs.YtiniicehfjgpgaaGreat
open Go.RowKit M6

/-- a byte of a number, the lowest first -/
def bt (v j : Nat) : Nat := v / 256 ^ j % 256
theorem bt_lt (v j : Nat) : bt v j < 256 := Nat.mod_lt _ (by decide)
/-- four bytes of a number, the lowest first -/
def ls (v : Nat) : List UInt8 := [UInt8.ofNat (bt v 0), UInt8.ofNat (bt v 1), UInt8.ofNat (bt v 2), UInt8.ofNat (bt v 3)]
def bs (v : Nat) : ByteArray := ⟨(ls v).toArray⟩
theorem run_bytes_cells {P : Program} (w : World) (src dst e : TypeId) (hs : P.underlying src = some (.slice e)) (he : P.underlying e = some (.int .u8)) (hd : P.underlying dst = some .string)
    {g cap : Nat} {l : List UInt8} (h : ∀ j u, (bv l)[j]? = some u → w.cell? ((⟨g, 0, none⟩ : Addr).add j) = some u) : (convert src dst (.slice (some ⟨g, 0, none⟩) l.length cap)).run P w = .ok (.string ⟨l.toArray⟩) w := by
  rw [run_convert_bytes_string w src dst e _ l.length cap hs he hd]
  have hc : (loadCells ⟨g, 0, none⟩ l.length).run P w = .ok ((l.map fun b => ((b.toNat : Nat) : Int)).map (Value.int .u8)).toArray w := by
    have h2 := run_loadCells_list (P := P) (w := w) ⟨g, 0, none⟩ (bv l) h
    rw [bv_len] at h2
    rw [h2]; simp [bv]
  rw [run_bytesToString w _ l.length cap _ hc, foldl_bytes]
  simp
/-- the cells of an array of four bytes, the first k of them laid -/
def c4 (v k : Nat) : Array Value := #[.int .u8 (if 0 < k then bt v 0 else 0 : Nat), .int .u8 (if 1 < k then bt v 1 else 0 : Nat), .int .u8 (if 2 < k then bt v 2 else 0 : Nat), .int .u8 (if 3 < k then bt v 3 else 0 : Nat)]

theorem bt_shift (v k : Nat) : (v : Int) / 2 ^ (8 * k) % 256 = ((bt v k : Nat) : Int) := by
  have e8 : (2 : Int) ^ (8 * k) = ((256 ^ k : Nat) : Int) := by
    rw [show (256 : Nat) = 2 ^ 8 from rfl, ← Nat.pow_mul, Int.natCast_pow]; rfl
  rw [e8, bt, ← Int.natCast_ediv]
  rfl
theorem c4_next {v k : Nat} (hk : k < 4) : (c4 v k).setIfInBounds k (.int .u8 ((v : Int) / 2 ^ (8 * k) % 256)) = c4 v (k + 1) := by
  rw [bt_shift]
  rcases (by omega : k = 0 ∨ k = 1 ∨ k = 2 ∨ k = 3) with rfl | rfl | rfl | rfl <;> rfl
theorem c4_cells (v : Nat) {w : World} {g : Nat} {t : TypeId} (h : w.heap[g]? = some (.cells (c4 v 4) t (0, 0))) : ∀ j u, (bv (ls v))[j]? = some u → w.cell? ((⟨g, 0, none⟩ : Addr).add j) = some u := by
  intro j u hj
  have e : (c4 v 4) = (bv (ls v)).toArray := by
    have hb : ∀ k, ((UInt8.ofNat (bt v k)).toNat) = bt v k := fun k => by
      have := bt_lt v k
      simp; omega
    simp [bv, ls, c4, hb]
  rw [Addr.add_mid, cell_of_row _ _ _ _ _ _ h, e]
  simpa using hj
theorem conv_narrow {n : Int} (hn : n.natAbs ≤ 1048576) (w : World) : (convert 205 216 (.float .f64 (fz n))).run Tryz.prog w = .ok (.float .f32 (sz n)) w := by
  have hs : (Tryz.prog.underlying 205).isSome = true := by kernel_rfl
  have hd : Tryz.prog.underlying 216 = some (.float .f32) := by kernel_rfl
  refine run_convert_float_float w _ _ .f64 .f32 _ _ hs hd ?_
  obtain ⟨s, m, e, h1, h2⟩ := narrow_read hn
  have h3 := narrow hn
  unfold floatToFloatBits
  rw [if_neg (by decide)]
  show (match (Ieee.double.read (fz n)) with
    | .nan _ _ => none
    | .infinity s => some (Ieee.single.write (.infinity s))
    | .number s m e => if (Ieee.single.read (Ieee.single.write (.number s m e))).isInfinity then none else some (Ieee.single.write (.number s m e))) = _
  rw [h1] at h3 ⊢
  dsimp only
  rw [h2, h3]; rfl

end Go.Proofs.YtiniicehfjgpgaaGreat
