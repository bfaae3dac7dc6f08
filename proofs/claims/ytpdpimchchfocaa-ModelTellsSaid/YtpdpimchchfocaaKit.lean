/- Small laws for all layers. No program is imported. -/
import Derived.WalkKit
import Derived.Maps.AppendAt
import Derived.Laws.BytesString
import Derived.Lib.Hide
namespace Go.Proofs.Ytpdpimchchfocaa
open Go.RowKit
theorem ret_eq {a b : Value} (h : a = b) : Ending.returned a = .returned b := by rw [h]
theorem int_eq {k : IntKind} {a b : Int} (h : a = b) : Value.int k a = .int k b := by rw [h]
theorem str_eq {a b : ByteArray} (h : a = b) : Value.string a = .string b := by rw [h]

/-- Bytes as cells. -/
def bv (l : List UInt8) : List Value := l.map fun b => .int .u8 b.toNat
theorem bv_append (a b : List UInt8) : bv (a ++ b) = bv a ++ bv b := by simp [bv]
theorem bv_one {n : Nat} (h : n < 256) : [Value.int .u8 (n : Int)] = bv [UInt8.ofNat n] := by
  simp [bv]; omega
theorem bv_one' {n : Int} (h0 : 0 ≤ n) (h : n < 256) : [Value.int .u8 n] = bv [UInt8.ofNat n.toNat] := by
  obtain ⟨m, rfl⟩ := Int.eq_ofNat_of_zero_le h0
  rw [Int.toNat_natCast]
  exact bv_one (by omega)
theorem bv_len (l : List UInt8) : (bv l).length = l.length := by simp [bv]
theorem bv_oneCell {l : List UInt8} : ∀ u ∈ bv l, u.oneCell' = true := by
  intro u hu; simp only [bv, List.mem_map] at hu; obtain ⟨b, _, rfl⟩ := hu; rfl
theorem foldl_bytes (l : List UInt8) : ∀ r : ByteArray, (l.map fun b => ((b.toNat : Nat) : Int)).foldl (fun (r : ByteArray) n => r.push (UInt8.ofNat n.toNat)) r = ⟨r.data ++ l.toArray⟩ := by
  induction l with
  | nil => intro r; simp
  | cons b l ih =>
    intro r
    rw [List.map_cons, List.foldl_cons, ih]
    congr 1
    simp [ByteArray.push]

theorem run_bytes_own {P : Program} (w : World) (src dst e : TypeId) (hs : P.underlying src = some (.slice e)) (he : P.underlying e = some (.int .u8)) (hd : P.underlying dst = some .string)
    {B : Nat} {v : Value} {n : Nat} {l : List UInt8} (h : w.ownsRow B e 1 v n (bv l)) : (convert src dst v).run P w = .ok (.string ⟨l.toArray⟩) w := by
  obtain ⟨hlen, h⟩ := h
  have hn : n = l.length := by rw [bv_len] at hlen; omega
  rcases h with ⟨rfl, h0⟩ | ⟨g, cap, cur, rfl, hB, hg, hnc, hcap, hsz, hcur⟩
  · have : l = [] := List.length_eq_zero_iff.1 (by omega)
    subst this
    rw [run_convert_bytes_string w src dst e none 0 0 hs he hd]
    rfl
  · rw [run_convert_bytes_string w src dst e _ n cap hs he hd]
    have hc : (loadCells ⟨g, 0, none⟩ n).run P w = .ok ((l.map fun b => ((b.toNat : Nat) : Int)).map (Value.int .u8)).toArray w := by
      have h2 := run_loadCells_list (P := P) (w := w) ⟨g, 0, none⟩ (bv l) (fun j u hj => by
        have := World.ownsRow.cells (base := B) (e := e) (size := 1) (v := .slice (some ⟨g, 0, none⟩) n cap) (n := n) (xs := bv l) (w := w) ⟨hlen, .inr ⟨g, cap, cur, rfl, hB, hg, hnc, hcap, hsz, hcur⟩⟩ (g := g) rfl j u hj
        exact this)
      rw [bv_len, ← hn] at h2
      rw [h2]; simp [bv]
    rw [run_bytesToString w _ n cap _ hc, foldl_bytes]
    simp
end Go.Proofs.Ytpdpimchchfocaa
