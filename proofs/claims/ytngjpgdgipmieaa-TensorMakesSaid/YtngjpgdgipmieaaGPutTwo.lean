/- The walk of Put; the document's own bytes: laid. -/
import Derived.Test.YtngjpgdgipmieaaGPut
import Derived.Test.YtngjpgdgipmieaaGRead
import Derived.BigQuiet
namespace Go.Proofs.Ytngjpgdgipmieaa
open Go.RowKit M6

theorem whole_fz {n : Int} (h : n.natAbs ≤ 1048576) : wb (fz n) = true := (wb_iff (fz_lt n)).2 ⟨n, h, rfl⟩
set_option maxRecDepth 100000 in
theorem gput_yes (n m : Int) (w : World) (hn : n.natAbs ≤ 1048576) (hm : m.natAbs ≤ 1048576) :
    Calls Try.prog 65 #[.complex .f64 (fz n) (fz m)] w fun e w' => e = .returned (.tuple #[.string (bs (sz n) ++ bs (sz m)), .int .i64 0]) ∧ Below w.heap.size w w' := by
  have HC := Lib.hid (checked_yes (fz n) (fz m) w (fz_lt n) (fz_lt m) (whole_fz hn) (whole_fz hm))
  go_enter Try.func65, Try.ntmps65
  go_wp2_with fail
  refine HC.out.mono ?_; rintro e w1 ⟨rfl, rfl⟩; go_wp2_with fail
  refine (putPart_any n _ hn).mono ?_; rintro e w2 ⟨rfl, hb⟩
  have HB := Lib.hid hb
  clear hb
  go_wp2_with fail
  refine (putPart_any m _ hm).mono ?_; rintro e w3 ⟨rfl, hb⟩
  have HB2 := Lib.hid (HB.out.trans (hb.mono HB.out.size))
  clear hb
  go_wp2_with fail
  go_ret2
  exact ⟨rfl, HB2.out⟩
set_option maxRecDepth 100000 in
theorem gput_no (x y : Nat) (w : World) (hx : x < 18446744073709551616) (hy : y < 18446744073709551616) (h : wb x = false ∨ wb y = false) :
    Calls Try.prog 65 #[.complex .f64 x y] w fun e w' => e = .returned (.tuple #[.string ⟨#[]⟩, .int .i64 17]) ∧ w = w' := by
  have HC := Lib.hid (checked_no x y w hx hy h)
  clear hx hy h
  go_enter Try.func65, Try.ntmps65
  go_wp2_with fail
  refine HC.out.mono ?_; rintro e w1 ⟨rfl, rfl⟩; go_wp2_with fail
  go_ret2
  exact ⟨rfl, rfl⟩

theorem laid_cells (v : Nat) (hv : v < 4294967296) : (#[.int .u8 ((v : Int) % 256), .int .u8 ((v : Int) / 256 % 256), .int .u8 ((v : Int) / 65536 % 256), .int .u8 ((v : Int) / 16777216)] : Array Value) = c4 v 4 := by
  have e0 : (v : Int) % 256 = ((bt v 0 : Nat) : Int) := by simp [bt]
  have e1 : (v : Int) / 256 % 256 = ((bt v 1 : Nat) : Int) := by simp [bt]
  have e2 : (v : Int) / 65536 % 256 = ((bt v 2 : Nat) : Int) := by simp [bt]
  have e3 : (v : Int) / 16777216 = ((bt v 3 : Nat) : Int) := by
    have : bt v 3 = v / 16777216 := by
      unfold bt
      rw [show (256 : Nat) ^ 3 = 16777216 from by decide]
      omega
    rw [this]; simp
  rw [e0, e1, e2, e3]
  rfl
set_option maxRecDepth 100000 in
theorem laid_any (v : Nat) (w : World) (hv : v < 4294967296) :
    Calls Try.prog 50 #[.int .u32 (v : Int)] w fun e w' => e = .returned (.string (bs v)) ∧ Below w.heap.size w w' := by
  have hs := run_bytes_cells (P := Try.prog) (w.alloc (Obj.cells #[.int .u8 ((v : Int) % 256), .int .u8 ((v : Int) / 256 % 256), .int .u8 ((v : Int) / 65536 % 256), .int .u8 ((v : Int) / 16777216)] 5)) 84 9 5 Try.underlying84 Try.underlying5 Try.underlying9 (g := w.heap.size) (cap := 4) (l := ls v) (by
    intro j u hj
    have h2 := c4_cells v (w := w.alloc (Obj.cells (c4 v 4) 5)) (t := 5) (heap_alloc_new w _) j u hj
    rwa [← laid_cells v hv] at h2)
  rw [show (ls v).length = 4 from rfl] at hs
  go_enter Try.func50, Try.ntmps50
  go_wp2_with fail
  go_ret
  exact ⟨rfl, (Below.refl _ _).alloc (Nat.le_refl _) _⟩

set_option maxRecDepth 100000 in
theorem word_any (s : ByteArray) (w : World) (hs : s.size = 4) :
    Calls Try.prog 45 #[.string s] w fun e w' => e = .returned (.int .u32 ((pr s 4 : Nat) : Int)) ∧ Below w.heap.size w w' := by
  have h0 : 0 < s.size := by omega
  have h1 : 1 < s.size := by omega
  have h2 : 2 < s.size := by omega
  have h3 : 3 < s.size := by omega
  have b0 := UInt8.toNat_lt s[0]
  have b1 := UInt8.toNat_lt s[1]
  have b2 := UInt8.toNat_lt s[2]
  have b3 := UInt8.toNat_lt s[3]
  have hp := pr_four hs
  have HP := Lib.hid hp
  clear hp
  go_enter Try.func45, Try.ntmps45
  go_wp2_with fail
  go_quiet (fail)
  go_wp2_with fail
  go_ret
  exact ⟨ret_eq (int_eq (by rw [HP.out]; simp)), below_drewN (Below.refl _ _) nq⟩
end Go.Proofs.Ytngjpgdgipmieaa
