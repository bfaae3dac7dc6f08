/- A contract of the library, laid at this program: slices.Sorted[string]. -/
import Derived.Test.YtkhenedpdfmlbaaRows
import Derived.Shelf.SlIter.Nil
namespace Go.Proofs.Ytkhenedpdfmlbaa
open Go.Shelf
/-- the numbers of the library and of this program -/
def sortedLay_ren : Go.Shelf.Ren := ⟨fun | 6 => 13 | 8 => 18 | 9 => 19 | 11 => 24 | 13 => 26 | 12 => 25 | 23 => 37 | 24 => 38 | 14 => 28 | 15 => 29 | 16 => 30 | 17 => 31 | 18 => 32 | 19 => 33 | 20 => 34 | 21 => 35 | 22 => 36 | 25 => 40 | 26 => 41 | 27 => 42 | 28 => 43 | 29 => 44 | 30 => 45 | 31 => 50 | n => n, fun | 26 => 9 | 28 => 47 | 24 => 39 | 0 => 0 | 3 => 3 | 37 => 57 | 48 => 68 | 50 => 70 | 4 => 4 | 40 => 60 | 39 => 59 | 45 => 65 | 5 => 5 | 9 => 9 | 51 => 72 | 55 => 76 | 57 => 80 | 58 => 81 | 33 => 41 | n => n, fun | n => n⟩
theorem sortedLay : Go.Proofs.SlLaysZ.n6 Try.prog sortedLay_ren := {
  mixed := by kernel_rfl
  f6 := ⟨Try.f13.name, by decide, Try.func13.trans (congrArg some (by kernel_rfl))⟩
  f8 := ⟨Try.f18.name, by decide, Try.func18.trans (congrArg some (by kernel_rfl))⟩
  f11 := ⟨Try.f24.name, by decide, Try.func24.trans (congrArg some (by kernel_rfl))⟩
  t0 := Try.underlying0
  a0 := Try.isAgg0
  z0 := Try.sizeOf0
  v0 := Try.zeroValue0
  t24 := Try.underlying39
  a24 := Try.isAgg39
  z24 := Try.sizeOf39
  v24 := Try.zeroValue39
  t26 := Try.underlying9
  a26 := Try.isAgg9
  z26 := Try.sizeOf9
  v26 := Try.zeroValue9
  t28 := Try.underlying47
  a28 := Try.isAgg47
  z28 := Try.sizeOf47
  v28 := Try.zeroValue47
  i26 := by kernel_rfl }
end Go.Proofs.Ytkhenedpdfmlbaa
