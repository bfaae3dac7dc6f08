/- A contract of the library, laid at this program: maps.Keys[map[string]string,string,string]. -/
import Derived.Test.YtkhenedpdfmlbaaRows
import Derived.Shelf.SlIter.Nil
namespace Go.Proofs.Ytkhenedpdfmlbaa
open Go.Shelf
/-- the numbers of the library and of this program -/
def keysLay_ren : Go.Shelf.Ren := ⟨fun | 7 => 14 | 10 => 20 | n => n, fun | 23 => 28 | 26 => 9 | 3 => 9 | 28 => 47 | 0 => 0 | 27 => 46 | 33 => 41 | 4 => 4 | n => n, fun | n => n⟩
theorem keysLay : Go.Proofs.SlLaysZ.n7 Try.prog keysLay_ren := {
  mixed := by kernel_rfl
  f7 := ⟨Try.f14.name, by decide, Try.func14.trans (congrArg some (by kernel_rfl))⟩
  f10 := ⟨Try.f20.name, by decide, Try.func20.trans (congrArg some (by kernel_rfl))⟩
  t0 := Try.underlying0
  a0 := Try.isAgg0
  z0 := Try.sizeOf0
  v0 := Try.zeroValue0
  t4 := Try.underlying4
  a4 := Try.isAgg4
  z4 := Try.sizeOf4
  v4 := Try.zeroValue4
  t23 := Try.underlying28
  a23 := Try.isAgg28
  z23 := Try.sizeOf28
  v23 := Try.zeroValue28
  t26 := Try.underlying9
  a26 := Try.isAgg9
  z26 := Try.sizeOf9
  v26 := Try.zeroValue9
  t27 := Try.underlying46
  a27 := Try.isAgg46
  z27 := Try.sizeOf46
  v27 := Try.zeroValue46
  t28 := Try.underlying47
  a28 := Try.isAgg47
  z28 := Try.sizeOf47
  v28 := Try.zeroValue47
  t33 := Try.underlying41
  a33 := Try.isAgg41
  z33 := Try.sizeOf41
  v33 := Try.zeroValue41 }
end Go.Proofs.Ytkhenedpdfmlbaa
