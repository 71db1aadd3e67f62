/- Several texts of one proof, in their order. -/
import Derived.Shelf.Spec.SlicesGrow
import Derived.Test.YtajmnlhfnhbleaaGreatProg
namespace Go.Proofs
open Go.Shelf
set_option linter.unusedVariables false
def Tryz.growErr_ren:Go.Shelf.Ren:=⟨fun|4=>69|n=>n,fun|22=>46|25=>31|3=>3|4=>4|9=>9|20=>20|0=>0|n=>n,fun|n=>n⟩
theorem Tryz.growErr:Go.Proofs.Lays8.n4 Tryz.prog Tryz.growErr_ren:={
 mixed:=by kernel_rfl
 f4:=⟨Tryz.f69.name,by decide,Tryz.func69.trans (congrArg some (by kernel_rfl))⟩
 t0:=Tryz.underlying0
 a0:=Tryz.isAgg0
 z0:=Tryz.sizeOf0
 v0:=Tryz.zeroValue0
 t3:=Tryz.underlying3
 a3:=Tryz.isAgg3
 z3:=Tryz.sizeOf3
 v3:=Tryz.zeroValue3
 t4:=Tryz.underlying4
 a4:=Tryz.isAgg4
 z4:=Tryz.sizeOf4
 v4:=Tryz.zeroValue4
 t9:=Tryz.underlying9
 a9:=Tryz.isAgg9
 z9:=Tryz.sizeOf9
 v9:=Tryz.zeroValue9
 t20:=Tryz.underlying20
 a20:=Tryz.isAgg20
 z20:=Tryz.sizeOf20
 v20:=Tryz.zeroValue20
 t22:=Tryz.underlying46
 a22:=Tryz.isAgg46
 z22:=Tryz.sizeOf46
 v22:=Tryz.zeroValue46 }
end Go.Proofs
