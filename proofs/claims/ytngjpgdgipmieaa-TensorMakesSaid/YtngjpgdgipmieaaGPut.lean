/- The walks of putPart and Put: a number's bytes. -/
import Derived.Test.YtngjpgdgipmieaaGPart
import Derived.Test.YtngjpgdgipmieaaRow
namespace Go.Proofs.Ytngjpgdgipmieaa
open Go.RowKit M6

/-- a byte of a number, the lowest first -/
def bt (v j : Nat) : Nat := v / 256 ^ j % 256
theorem bt_lt (v j : Nat) : bt v j < 256 := Nat.mod_lt _ (by decide)
/-- four bytes of a number, the lowest first -/
def ls (v : Nat) : List UInt8 := [UInt8.ofNat (bt v 0), UInt8.ofNat (bt v 1), UInt8.ofNat (bt v 2), UInt8.ofNat (bt v 3)]
def bs (v : Nat) : ByteArray := ⟨(ls v).toArray⟩
theorem run_bytes_cells {P : Program} (w : World) (src dst e : TypeId) (hs : P.underlying src = some (.slice e)) (he : P.underlying e = some (.int .u8)) (hd : P.underlying dst = some .string)
    {g cap : Nat} {l : List UInt8} (h : ∀ j u, (bv l)[j]? = some u → w.cell? ((⟨g, 0, none⟩ : Addr).add j) = some u) : (convert src dst (.slice (some ⟨g, 0, none⟩) l.length cap)).run P w = .ok (.string ⟨l.toArray⟩) w := by
  rw [run_convert_bytes_string w src dst e _ l.length cap hs he hd]
  have hc : (loadCells ⟨g, 0, none⟩ l.length).run P w = .ok ((l.map fun b => ((b.toNat : Nat) : Int)).map (Value.int .u8)).toArray w := by
    have h2 := run_loadCells_list (P := P) (w := w) ⟨g, 0, none⟩ (bv l) h
    rw [bv_len] at h2
    rw [h2]; simp [bv]
  rw [run_bytesToString w _ l.length cap _ hc, foldl_bytes]
  simp
/-- the cells of an array of four bytes, the first k of them laid -/
def c4 (v k : Nat) : Array Value := #[.int .u8 (if 0 < k then bt v 0 else 0 : Nat), .int .u8 (if 1 < k then bt v 1 else 0 : Nat), .int .u8 (if 2 < k then bt v 2 else 0 : Nat), .int .u8 (if 3 < k then bt v 3 else 0 : Nat)]

theorem bt_shift (v k : Nat) : (v : Int) / 2 ^ (8 * k) % 256 = ((bt v k : Nat) : Int) := by
  have e8 : (2 : Int) ^ (8 * k) = ((256 ^ k : Nat) : Int) := by
    rw [show (256 : Nat) = 2 ^ 8 from rfl, ← Nat.pow_mul, Int.natCast_pow]; rfl
  rw [e8, bt, ← Int.natCast_ediv]
  rfl
theorem c4_next {v k : Nat} (hk : k < 4) : (c4 v k).setIfInBounds k (.int .u8 ((v : Int) / 2 ^ (8 * k) % 256)) = c4 v (k + 1) := by
  rw [bt_shift]
  rcases (by omega : k = 0 ∨ k = 1 ∨ k = 2 ∨ k = 3) with rfl | rfl | rfl | rfl <;> rfl
theorem c4_cells (v : Nat) {w : World} {g : Nat} {t : TypeId} (h : w.heap[g]? = some (.cells (c4 v 4) t (0, 0))) : ∀ j u, (bv (ls v))[j]? = some u → w.cell? ((⟨g, 0, none⟩ : Addr).add j) = some u := by
  intro j u hj
  have e : (c4 v 4) = (bv (ls v)).toArray := by
    have hb : ∀ k, ((UInt8.ofNat (bt v k)).toNat) = bt v k := fun k => by
      have := bt_lt v k
      simp; omega
    simp [bv, ls, c4, hb]
  rw [Addr.add_mid, cell_of_row _ _ _ _ _ _ h, e]
  simpa using hj
theorem conv_narrow {n : Int} (hn : n.natAbs ≤ 1048576) (w : World) : (convert 82 125 (.float .f64 (fz n))).run Try.prog w = .ok (.float .f32 (sz n)) w := by
  have hs : (Try.prog.underlying 82).isSome = true := by kernel_rfl
  have hd : Try.prog.underlying 125 = some (.float .f32) := by kernel_rfl
  refine run_convert_float_float w _ _ .f64 .f32 _ _ hs hd ?_
  obtain ⟨s, m, e, h1, h2⟩ := narrow_read hn
  have h3 := narrow hn
  unfold floatToFloatBits
  rw [if_neg (by decide)]
  show (match (Ieee.double.read (fz n)) with
    | .nan _ _ => none
    | .infinity s => some (Ieee.single.write (.infinity s))
    | .number s m e => if (Ieee.single.read (Ieee.single.write (.number s m e))).isInfinity then none else some (Ieee.single.write (.number s m e))) = _
  rw [h1] at h3 ⊢
  dsimp only
  rw [h2, h3]; rfl

set_option maxRecDepth 100000 in
theorem putPart_any (n : Int) (w : World) (hn : n.natAbs ≤ 1048576) :
    Calls Try.prog 73 #[.float .f64 (fz n)] w fun e w' => e = .returned (.string (bs (sz n))) ∧ Below w.heap.size w w' := by
  have hx := x_f32bits
  have hc := conv_narrow hn
  have hlt := sz_lt n
  generalize sz n = v at *
  generalize fz n = x at *
  go_enter Try.func73, Try.ntmps73
  go_wp2_with fail
  have hblk := heap_alloc_new w (Obj.cells #[Value.int IntKind.u8 0, Value.int IntKind.u8 0, Value.int IntKind.u8 0, Value.int IntKind.u8 0] 131)
  have HBK := Lib.hid hblk
  clear hblk
  go_loopw [5, 9] (fun _ i wr => ∃ (k : Nat) (K : Int), i = .int .i64 K ∧ K = k ∧ k ≤ 4 ∧ wr.heap[w.heap.size]? = some (.cells (c4 v k) 131 (0, 0)) ∧ Below w.heap.size w wr) (fun _ i _ => 4 - (intOf i).toNat)
  case atStart => exact ⟨0, _, rfl, rfl, by omega, HBK.out, (Below.refl _ _).alloc (Nat.le_refl _) _⟩
  case round =>
    obtain ⟨k, K, rfl, rfl, hk, hb, hbl⟩ := hrel
    have HBL := Lib.hid hbl
    have hsz := hbl.size
    clear hbl
    by_cases hlt : k < 4
    · have hsz4 : (c4 v k).size = 4 := rfl
      have hcell := cell_of_row wr w.heap.size k _ _ _ hb
      have hkc : ∃ u, (c4 v k)[k]? = some u := ⟨_, Array.getElem?_eq_getElem (by omega)⟩
      obtain ⟨u, hu⟩ := hkc
      have hc1 := cell_of_row wr w.heap.size k _ _ _ hb
      rw [hu] at hc1
      have HH := Lib.hid hb
      have hfz : wr.frozen? ⟨w.heap.size, k, none⟩ = false := by
        unfold World.frozen?; dsimp only; rw [hb]; simp
      clear hb hcell
      go_wp2_with fail
      go_round
      case rel => exact ⟨k + 1, _, rfl, by omega, by omega, by rw [← c4_next hlt]; exact heap_setCell_same _ _ _ _ _ _ HH.out, HBL.out.setCell (Nat.le_refl _) _⟩
      case measure => simp [intOf]; omega
    · obtain rfl : k = 4 := by omega
      have hs := run_bytes_cells (P := Try.prog) wr 84 9 5 Try.underlying84 Try.underlying5 Try.underlying9 (cap := 4) (c4_cells v hb)
      rw [show (ls v).length = 4 from rfl] at hs
      go_wp2_with fail
      go_ret
      exact ⟨rfl, HBL.out⟩
end Go.Proofs.Ytngjpgdgipmieaa
