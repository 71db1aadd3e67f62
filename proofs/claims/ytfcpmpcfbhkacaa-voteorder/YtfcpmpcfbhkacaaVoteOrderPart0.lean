/- Several texts of one proof, in their order. -/
import Derived.Test.YtfcpmpcfbhkacaaVb4
import Derived.Shelf.SlLaysE0
import Derived.Shelf.SlicesQ.Reverse
import Derived.Test.YtfcpmpcfbhkacaaProg

/- Contracts of the library as they lie at this program: laid by the guide's own command, in plain words. -/
namespace Go.Proofs

open Go.Shelf

def Try.reverseShares_ren : Go.Shelf.Ren := ⟨fun | 35 => 36 | n => n, fun | 22 => 25 | 23 => 27 | 3 => 3 | 4 => 4 | 0 => 0 | n => n, fun | n => n⟩

theorem Try.reverseShares : Go.Proofs.SlLaysE0.n35 Try.prog Try.reverseShares_ren := {
  mixed := by kernel_rfl
  f35 := ⟨Try.f36.name, by decide, Try.func36.trans (congrArg some (by kernel_rfl))⟩
  t0 := Try.underlying0
  a0 := Try.isAgg0
  z0 := Try.sizeOf0
  v0 := Try.zeroValue0
  t3 := Try.underlying3
  a3 := Try.isAgg3
  z3 := Try.sizeOf3
  v3 := Try.zeroValue3
  t4 := Try.underlying4
  a4 := Try.isAgg4
  z4 := Try.sizeOf4
  v4 := Try.zeroValue4
  t22 := Try.underlying25
  a22 := Try.isAgg25
  z22 := Try.sizeOf25
  v22 := Try.zeroValue25 }

theorem Try.sortLists : Go.Proofs.SlLaysF.n6 Try.prog Try.laysSlF6_f52_ren := Try.laysSlF6_f52

end Go.Proofs
