import Derived.Test.YtjjfdlgoacockaaGreatTMade
import Derived.Test.YtjjfdlgoacockaaGreatBSmall
import Derived.Test.YtjjfdlgoacockaaGreatBFile
import Derived.Test.YtjjfdlgoacockaaGreatRows
import Derived.WalkKit
import Derived.Test.YtjjfdlgoacockaaGreatMath
import Derived.Test.YtjjfdlgoacockaaGreatWHigh
import Derived.Test.YtjjfdlgoacockaaGreatPuts
namespace Go.Proofs.YtjjfdlgoacockaaGreat
open Go.RowKit M1 M2 M3 M8 M9

structure MsgOk (m : Msg) : Prop where
  name : m.t.name.size ≤ 1048576
  data0 : m.t.data = ⟨#[]⟩
  kind0 : 0 ≤ m.t.kind
  kind1 : m.t.kind ≤ 14
  dl : m.t.dims.length ≤ 65536
  di : ∀ n ∈ m.t.dims, I64 n
  sl : m.s.length ≤ 65536
  il : m.i.length ≤ 65536
  tl : m.b.length ≤ 1048576
  tb : ∀ b ∈ m.b, b.size ≤ 1048576
  sz0 : 0 ≤ m.size
  sz1 : m.size ≤ 524288
  d : m.d.size ≤ 1048576
theorem zm_ok : MsgOk zm := ⟨et_le _, rfl, by decide, by decide, by decide, by simp [zm, z9], by decide, by decide, by decide, by simp [zm], by decide, by decide, et_le _⟩
theorem chk_in (wh : Nat) (s : ByteArray) (k : Int) (l : List Int) : 0 ≤ (chk wh s k l).1 ∧ (chk wh s k l).1 ≤ 524288 := by
  unfold chk
  split
  · decide
  · split
    · decide
    · split
      · decide
      · obtain ⟨s, hs, hs8⟩ := size_nat k
        obtain ⟨n, hn, hn6⟩ := count_nat l
        dsimp only
        rw [hs, hn]
        exact small_prod hn6 hs8
theorem msgL_is {l : List WFd} (hl : l.length ≤ 1048576) (h : ∀ f ∈ l, FOk f ∧ f.data.size ≤ 1048576) : MsgOk (msgL l).1 := by
  unfold msgL
  split
  · exact zm_ok
  · split
    · exact zm_ok
    · split
      · exact zm_ok
      · have hr := rows_ok hl h
        have hc := chk_in (lastF l 14).n (lastF l 8).data (kindN (lastF l 2).n) (rows l).1.d
        have hk := kindN_in (lastF l 2).n
        exact ⟨(lastF_ok h 8).2, rfl, hk.1, hk.2, hr.dl, hr.di, hr.sl, hr.il, hr.tl, hr.tb, hc.1, hc.2, (lastF_ok h 9).2⟩
theorem msg_ok (b : ByteArray) : MsgOk (msg b).1 := by
  unfold msg
  split
  · exact zm_ok
  · exact msgL_is (fields_len b) fields_ok
theorem smallD_size (s : List Int) (m : Int) : (smallD s m).1.size ≤ s.length := by
  unfold smallD
  split
  · show (s.map fun n => UInt8.ofNat n.toNat).toArray.size ≤ _
    simp
  · exact et_le _
theorem here_size {k : Int} {d : ByteArray} {hs : Bool} {s i : List Int} (hd : d.size ≤ 1048576) (hsl : s.length ≤ 65536) (hil : i.length ≤ 65536) : (here k d hs s i).1.size ≤ 1048576 := by
  unfold here
  split
  · split
    · exact et_le _
    · exact hd
  · split
    · exact et_le _
    · split
      · exact et_le _
      · split
        · show (flat (fun n => l8 (M7.us n)) 8 i).toArray.size ≤ _
          rw [List.size_toArray, flat_len (fun n => l8 (M7.us n)) 8 (fun _ _ => rfl) (by omega)]
          omega
        · exact Nat.le_trans (smallD_size _ _) (by omega)
theorem rdC_size (fs : List Fl) (key : ByteArray) (off : Int) {n : Int} (hn : 0 ≤ n) : ((rdC fs key off n).1.size : Int) ≤ n := by
  unfold rdC
  split
  · exact hn
  · split
    · exact hn
    · rename_i h1 h2
      split
      · exact hn
      · split
        · exact hn
        · dsimp only
          rw [ByteArray.size_extract]
          omega
theorem inFile_size {size : Int} {hs : Bool} {s i : List Int} {bs : List ByteArray} {fs : List Fl} (h0 : 0 ≤ size) (h1 : size ≤ 524288) : (inFile size hs s i bs fs).1.size ≤ 1048576 := by
  unfold inFile
  split
  · exact et_le _
  · split
    · exact et_le _
    · split
      · exact et_le _
      · split
        · exact et_le _
        · split
          · exact et_le _
          · split
            · exact et_le _
            · rename_i key _ _ _ _
              have := rdC_size fs key (num (kvs bs []).1 kOff 0) h0
              omega
theorem elems_size {m : Msg} (h : MsgOk m) (fs : List Fl) : (elems m fs).1.size ≤ 1048576 := by
  unfold elems
  split
  · exact inFile_size h.sz0 h.sz1
  · exact here_size h.d h.sl h.il
end Go.Proofs.YtjjfdlgoacockaaGreat
namespace Go.Proofs.YtjjfdlgoacockaaGreat
open Go.RowKit
end Go.Proofs.YtjjfdlgoacockaaGreat
namespace Go.Proofs.YtjjfdlgoacockaaGreat
open Go.RowKit M1 M2

end Go.Proofs.YtjjfdlgoacockaaGreat
namespace Go.Proofs.YtjjfdlgoacockaaGreat
open Go.RowKit M1 M2

end Go.Proofs.YtjjfdlgoacockaaGreat
