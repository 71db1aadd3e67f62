/-
  No cell of these rows narrows 'for every input' (looked for: loops, veiled, ifaces, maps, wideKeys, modest, calm, conditions, laid).
  DERIVED. THE GIVEN ROWS OF THIS SEAT. 7 by the template 'for every input the law returns true; each argument reads behind the call as it read before'; 0 by the template 'total and deterministic' (their statements: YtikchpffkhohlaaGreatTotals.lean).
  GIVEN WITH THE SEED: the statements are not yours to turn. If you find one false, say at which input.
  Laid BY PROGRAM, IN A SANDBOX (cutbox-rows.mjs): the forced cells as the released guide's own fill.sh prints them over the translation 21a7a4bd354706aa… (all of the seat's roots in one cut). By AI agents, Wed Nov 11 2026. No macro, syntax, notation, axiom, sorry.
-/
import Derived.Test.YtikchpffkhohlaaGreatChecked
import GoSem.Claim
import GoSem.ClaimJoined
import GoSem.ClaimMapViews
import Derived.JoinedTies
import Derived.KernelRfl
namespace Go.Proofs.YtikchpffkhohlaaGreat
/- THE CELL 'sum', in the pinned program and in every row, IS THE sha256 OF THE DUMP (.gsa) THAT YtikchpffkhohlaaGreatProg.lean LOADS. Nothing in Lean hashes anything: it is a label: what it is worth is what the hold of that sum in a sandbox is worth. -/
noncomputable def Tryz.pinned : Pinned := { name := "ytikchpffkhohlaagreat", sum := "21a7a4bd354706aa6ab684eeb024afe8fd9f41a338e402c3a2b90cd8a7d13a73", checked := Tryz.checked }
namespace Rows
def none {H : Type} : Left H := { results := [], args := [] }

/-- 'cellarmanlaw.MeshSays': WHATEVER THE INPUT: true; the input reads as it did. -/
def meshSaysSpec : ChangeSpec := { name := "meshSays", fn := fun _ => fun
  | [d1, d2, d3, d4, d5, d6, d7] => { results := [.lit (.bool true)], args := [d1, d2, d3, d4, d5, d6, d7] }
  | _ => none }
def meshSaysRow : OpenClaim := { program := "ytikchpffkhohlaagreat", sum := "21a7a4bd354706aa6ab684eeb024afe8fd9f41a338e402c3a2b90cd8a7d13a73", func := "cellarman/cellarmanlaw.MeshSays", spec := "meshSays", unfollowed := true, recurses := true, apart := false }
def MeshSaysSaid : Prop := meshSaysRow.holds Tryz.pinned (OpenSpec.ofChange meshSaysSpec)

/-- ITS FALSE NEIGHBOUR: 'it returns false'. Refute it at one input. -/
def meshSaysWrong : ChangeSpec := { name := "meshSays", fn := fun _ => fun
  | [d1, d2, d3, d4, d5, d6, d7] => { results := [.lit (.bool false)], args := [d1, d2, d3, d4, d5, d6, d7] }
  | _ => none }
def MeshSaysWrongFalsely : Prop := meshSaysRow.holds Tryz.pinned (OpenSpec.ofChange meshSaysWrong)

/-- 'cellarmanlaw.MeshSaves': WHATEVER THE INPUT: true; the input reads as it did. -/
def meshSavesSpec : ChangeSpec := { name := "meshSaves", fn := fun _ => fun
  | [d1, d2, d3, d4, d5, d6] => { results := [.lit (.bool true)], args := [d1, d2, d3, d4, d5, d6] }
  | _ => none }
def meshSavesRow : OpenClaim := { program := "ytikchpffkhohlaagreat", sum := "21a7a4bd354706aa6ab684eeb024afe8fd9f41a338e402c3a2b90cd8a7d13a73", func := "cellarman/cellarmanlaw.MeshSaves", spec := "meshSaves", unfollowed := true, recurses := true, apart := false }
def MeshSavesSaid : Prop := meshSavesRow.holds Tryz.pinned (OpenSpec.ofChange meshSavesSpec)

/-- ITS FALSE NEIGHBOUR: 'it returns false'. Refute it at one input. -/
def meshSavesWrong : ChangeSpec := { name := "meshSaves", fn := fun _ => fun
  | [d1, d2, d3, d4, d5, d6] => { results := [.lit (.bool false)], args := [d1, d2, d3, d4, d5, d6] }
  | _ => none }
def MeshSavesWrongFalsely : Prop := meshSavesRow.holds Tryz.pinned (OpenSpec.ofChange meshSavesWrong)

/-- 'cellarmanlaw.MeshMends': WHATEVER THE INPUT: true; the input reads as it did. -/
def meshMendsSpec : ChangeSpec := { name := "meshMends", fn := fun _ => fun
  | [d1, d2] => { results := [.lit (.bool true)], args := [d1, d2] }
  | _ => none }
def meshMendsRow : OpenClaim := { program := "ytikchpffkhohlaagreat", sum := "21a7a4bd354706aa6ab684eeb024afe8fd9f41a338e402c3a2b90cd8a7d13a73", func := "cellarman/cellarmanlaw.MeshMends", spec := "meshMends", unfollowed := true, recurses := true, apart := false }
def MeshMendsSaid : Prop := meshMendsRow.holds Tryz.pinned (OpenSpec.ofChange meshMendsSpec)

/-- ITS FALSE NEIGHBOUR: 'it returns false'. Refute it at one input. -/
def meshMendsWrong : ChangeSpec := { name := "meshMends", fn := fun _ => fun
  | [d1, d2] => { results := [.lit (.bool false)], args := [d1, d2] }
  | _ => none }
def MeshMendsWrongFalsely : Prop := meshMendsRow.holds Tryz.pinned (OpenSpec.ofChange meshMendsWrong)

/-- 'cellarmanlaw.MeshAway': WHATEVER THE INPUT: true; the input reads as it did. -/
def meshAwaySpec : ChangeSpec := { name := "meshAway", fn := fun _ => fun
  | [d1, d2] => { results := [.lit (.bool true)], args := [d1, d2] }
  | _ => none }
def meshAwayRow : OpenClaim := { program := "ytikchpffkhohlaagreat", sum := "21a7a4bd354706aa6ab684eeb024afe8fd9f41a338e402c3a2b90cd8a7d13a73", func := "cellarman/cellarmanlaw.MeshAway", spec := "meshAway", unfollowed := true, recurses := true, apart := false }
def MeshAwaySaid : Prop := meshAwayRow.holds Tryz.pinned (OpenSpec.ofChange meshAwaySpec)

/-- ITS FALSE NEIGHBOUR: 'it returns false'. Refute it at one input. -/
def meshAwayWrong : ChangeSpec := { name := "meshAway", fn := fun _ => fun
  | [d1, d2] => { results := [.lit (.bool false)], args := [d1, d2] }
  | _ => none }
def MeshAwayWrongFalsely : Prop := meshAwayRow.holds Tryz.pinned (OpenSpec.ofChange meshAwayWrong)

/-- 'cellarmanlaw.AuditSays': WHATEVER THE INPUT: true; the input reads as it did. -/
def auditSaysSpec : ChangeSpec := { name := "auditSays", fn := fun _ => fun
  | [d1, d2] => { results := [.lit (.bool true)], args := [d1, d2] }
  | _ => none }
def auditSaysRow : OpenClaim := { program := "ytikchpffkhohlaagreat", sum := "21a7a4bd354706aa6ab684eeb024afe8fd9f41a338e402c3a2b90cd8a7d13a73", func := "cellarman/cellarmanlaw.AuditSays", spec := "auditSays", unfollowed := true, recurses := true, apart := false }
def AuditSaysSaid : Prop := auditSaysRow.holds Tryz.pinned (OpenSpec.ofChange auditSaysSpec)

/-- ITS FALSE NEIGHBOUR: 'it returns false'. Refute it at one input. -/
def auditSaysWrong : ChangeSpec := { name := "auditSays", fn := fun _ => fun
  | [d1, d2] => { results := [.lit (.bool false)], args := [d1, d2] }
  | _ => none }
def AuditSaysWrongFalsely : Prop := auditSaysRow.holds Tryz.pinned (OpenSpec.ofChange auditSaysWrong)

/-- 'cellarmanlaw.AuditFinds': WHATEVER THE INPUT: true; the input reads as it did. -/
def auditFindsSpec : ChangeSpec := { name := "auditFinds", fn := fun _ => fun
  | [d1, d2, d3, d4, d5] => { results := [.lit (.bool true)], args := [d1, d2, d3, d4, d5] }
  | _ => none }
def auditFindsRow : OpenClaim := { program := "ytikchpffkhohlaagreat", sum := "21a7a4bd354706aa6ab684eeb024afe8fd9f41a338e402c3a2b90cd8a7d13a73", func := "cellarman/cellarmanlaw.AuditFinds", spec := "auditFinds", unfollowed := true, recurses := true, apart := false }
def AuditFindsSaid : Prop := auditFindsRow.holds Tryz.pinned (OpenSpec.ofChange auditFindsSpec)

/-- ITS FALSE NEIGHBOUR: 'it returns false'. Refute it at one input. -/
def auditFindsWrong : ChangeSpec := { name := "auditFinds", fn := fun _ => fun
  | [d1, d2, d3, d4, d5] => { results := [.lit (.bool false)], args := [d1, d2, d3, d4, d5] }
  | _ => none }
def AuditFindsWrongFalsely : Prop := auditFindsRow.holds Tryz.pinned (OpenSpec.ofChange auditFindsWrong)

/-- 'cellarmanlaw.AuditMends': WHATEVER THE INPUT: true; the input reads as it did. -/
def auditMendsSpec : ChangeSpec := { name := "auditMends", fn := fun _ => fun
  | [d1, d2] => { results := [.lit (.bool true)], args := [d1, d2] }
  | _ => none }
def auditMendsRow : OpenClaim := { program := "ytikchpffkhohlaagreat", sum := "21a7a4bd354706aa6ab684eeb024afe8fd9f41a338e402c3a2b90cd8a7d13a73", func := "cellarman/cellarmanlaw.AuditMends", spec := "auditMends", unfollowed := true, recurses := true, apart := false }
def AuditMendsSaid : Prop := auditMendsRow.holds Tryz.pinned (OpenSpec.ofChange auditMendsSpec)

/-- ITS FALSE NEIGHBOUR: 'it returns false'. Refute it at one input. -/
def auditMendsWrong : ChangeSpec := { name := "auditMends", fn := fun _ => fun
  | [d1, d2] => { results := [.lit (.bool false)], args := [d1, d2] }
  | _ => none }
def AuditMendsWrongFalsely : Prop := auditMendsRow.holds Tryz.pinned (OpenSpec.ofChange auditMendsWrong)

/- THE SECOND FORM. 'bulk': how many values and letters a reading holds, each counted each time it is reached (what is shared counts as often as it is met; a slice's spare places count too). A statement '..UptoSaid' is the law's where the arguments, and the package variables that the reading takes, are together of bulk at most 1048576: NARROWER than '..Said'. Prove '..Said' where nothing that the law and all that it calls make is longer than what came in: it says more and counts as full. Else prove '..UptoSaid'. A law counts once. -/
mutual
def uptoBulk {H : Type} : DataW H → Nat
  | .lit (.string bytes) => bytes.length + 1
  | .lit _ => 1
  | .nil => 1
  | .ptr d => uptoBulk d + 1
  | .slice elems spare => uptoBulkAll elems + uptoBulkAll spare + 1
  | .agg parts => uptoBulkAll parts + 1
  | .iface _ d => uptoBulk d + 1
  | .map entries => uptoBulkEntries entries + 1
  | .held _ => 1
def uptoBulkAll {H : Type} : List (DataW H) → Nat
  | [] => 0
  | d :: r => uptoBulk d + uptoBulkAll r
def uptoBulkEntries {H : Type} : List (Lit × DataW H) → Nat
  | [] => 0
  | x :: r => uptoBulkEntry x + uptoBulkEntries r
def uptoBulkEntry {H : Type} : Lit × DataW H → Nat
  | (.string bytes, d) => bytes.length + uptoBulk d + 1
  | (_, d) => uptoBulk d + 1
 end
def uptoSmall : (H : Type) → List (DataW H) → Bool := fun _ ds => decide (uptoBulkAll ds ≤ 1048576)
def OpenSpec.upto (s : _root_.Go.ChangeSpec) : _root_.Go.OpenSpec := { _root_.Go.OpenSpec.ofChange s with cond := some uptoSmall }

/-- 'cellarmanlaw.MeshSays', WHERE WHAT IT READS IS OF BULK AT MOST 1048576: true; the input reads as it did. -/
def meshSaysUptoRow : OpenClaim := { program := "ytikchpffkhohlaagreat", sum := "21a7a4bd354706aa6ab684eeb024afe8fd9f41a338e402c3a2b90cd8a7d13a73", func := "cellarman/cellarmanlaw.MeshSays", spec := "meshSays", unfollowed := true, recurses := true, apart := false, narrowed := true }
def MeshSaysUptoSaid : Prop := meshSaysUptoRow.holds Tryz.pinned (OpenSpec.upto meshSaysSpec)

/-- 'cellarmanlaw.MeshSaves', WHERE WHAT IT READS IS OF BULK AT MOST 1048576: true; the input reads as it did. -/
def meshSavesUptoRow : OpenClaim := { program := "ytikchpffkhohlaagreat", sum := "21a7a4bd354706aa6ab684eeb024afe8fd9f41a338e402c3a2b90cd8a7d13a73", func := "cellarman/cellarmanlaw.MeshSaves", spec := "meshSaves", unfollowed := true, recurses := true, apart := false, narrowed := true }
def MeshSavesUptoSaid : Prop := meshSavesUptoRow.holds Tryz.pinned (OpenSpec.upto meshSavesSpec)

/-- 'cellarmanlaw.MeshMends', WHERE WHAT IT READS IS OF BULK AT MOST 1048576: true; the input reads as it did. -/
def meshMendsUptoRow : OpenClaim := { program := "ytikchpffkhohlaagreat", sum := "21a7a4bd354706aa6ab684eeb024afe8fd9f41a338e402c3a2b90cd8a7d13a73", func := "cellarman/cellarmanlaw.MeshMends", spec := "meshMends", unfollowed := true, recurses := true, apart := false, narrowed := true }
def MeshMendsUptoSaid : Prop := meshMendsUptoRow.holds Tryz.pinned (OpenSpec.upto meshMendsSpec)

/-- 'cellarmanlaw.MeshAway', WHERE WHAT IT READS IS OF BULK AT MOST 1048576: true; the input reads as it did. -/
def meshAwayUptoRow : OpenClaim := { program := "ytikchpffkhohlaagreat", sum := "21a7a4bd354706aa6ab684eeb024afe8fd9f41a338e402c3a2b90cd8a7d13a73", func := "cellarman/cellarmanlaw.MeshAway", spec := "meshAway", unfollowed := true, recurses := true, apart := false, narrowed := true }
def MeshAwayUptoSaid : Prop := meshAwayUptoRow.holds Tryz.pinned (OpenSpec.upto meshAwaySpec)

/-- 'cellarmanlaw.AuditSays', WHERE WHAT IT READS IS OF BULK AT MOST 1048576: true; the input reads as it did. -/
def auditSaysUptoRow : OpenClaim := { program := "ytikchpffkhohlaagreat", sum := "21a7a4bd354706aa6ab684eeb024afe8fd9f41a338e402c3a2b90cd8a7d13a73", func := "cellarman/cellarmanlaw.AuditSays", spec := "auditSays", unfollowed := true, recurses := true, apart := false, narrowed := true }
def AuditSaysUptoSaid : Prop := auditSaysUptoRow.holds Tryz.pinned (OpenSpec.upto auditSaysSpec)

/-- 'cellarmanlaw.AuditFinds', WHERE WHAT IT READS IS OF BULK AT MOST 1048576: true; the input reads as it did. -/
def auditFindsUptoRow : OpenClaim := { program := "ytikchpffkhohlaagreat", sum := "21a7a4bd354706aa6ab684eeb024afe8fd9f41a338e402c3a2b90cd8a7d13a73", func := "cellarman/cellarmanlaw.AuditFinds", spec := "auditFinds", unfollowed := true, recurses := true, apart := false, narrowed := true }
def AuditFindsUptoSaid : Prop := auditFindsUptoRow.holds Tryz.pinned (OpenSpec.upto auditFindsSpec)

/-- 'cellarmanlaw.AuditMends', WHERE WHAT IT READS IS OF BULK AT MOST 1048576: true; the input reads as it did. -/
def auditMendsUptoRow : OpenClaim := { program := "ytikchpffkhohlaagreat", sum := "21a7a4bd354706aa6ab684eeb024afe8fd9f41a338e402c3a2b90cd8a7d13a73", func := "cellarman/cellarmanlaw.AuditMends", spec := "auditMends", unfollowed := true, recurses := true, apart := false, narrowed := true }
def AuditMendsUptoSaid : Prop := auditMendsUptoRow.holds Tryz.pinned (OpenSpec.upto auditMendsSpec)

end Rows
end Go.Proofs.YtikchpffkhohlaaGreat
