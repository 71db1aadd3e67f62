/- Contracts of the library as they lie at this program: laid by the guide's own command, in plain words. -/
import Derived.Shelf.SlLaysF
import Derived.Test.YtmefjflponcfhaeProg
namespace Go.Proofs
open Go.Shelf
def Try.insInts_ren : Go.Shelf.Ren := ⟨fun | 20 => 35 | n => n, fun | 24 => 3 | 22 => 26 | 3 => 3 | 25 => 45 | 4 => 4 | 0 => 0 | n => n, fun | n => n⟩
theorem Try.insInts : Go.Proofs.SlLaysF.n20 Try.prog Try.insInts_ren := {
  mixed := by kernel_rfl
  f20 := ⟨Try.f35.name, by decide, Try.func35.trans (congrArg some (by kernel_rfl))⟩
  t0 := Try.underlying0
  a0 := Try.isAgg0
  z0 := Try.sizeOf0
  v0 := Try.zeroValue0
  t3 := Try.underlying3
  a3 := Try.isAgg3
  z3 := Try.sizeOf3
  v3 := Try.zeroValue3
  t4 := Try.underlying4
  a4 := Try.isAgg4
  z4 := Try.sizeOf4
  v4 := Try.zeroValue4
  t22 := Try.underlying26
  a22 := Try.isAgg26
  z22 := Try.sizeOf26
  v22 := Try.zeroValue26
  a24 := Try.isAgg3
  z24 := Try.sizeOf3
  t25 := Try.underlying45
  a25 := Try.isAgg45
  z25 := Try.sizeOf45
  v25 := Try.zeroValue45 }
end Go.Proofs
