/-
  No cell of these rows narrows 'for every input' (looked for: loops, veiled, ifaces, maps, wideKeys, modest, calm, conditions, laid).
  DERIVED. THE GIVEN ROWS OF THIS SEAT. 9 by the template 'for every input the law returns true; each argument reads behind the call as it read before'; 0 by the template 'total and deterministic' (their statements: YtfcpmpcfbhkacaaTotals.lean).
  GIVEN WITH THE SEED: the statements are not yours to turn. If you find one false, say at which input.
  Laid BY PROGRAM, IN A SANDBOX (cutbox-rows.mjs): the forced cells as the released guide's own fill.sh prints them over the translation 4035982de4e78a3d… (all of the seat's roots in one cut). By AI agents, Wed Nov 11 2026. No macro, syntax, notation, axiom, sorry.
-/
import Derived.Test.YtfcpmpcfbhkacaaChecked
import GoSem.Claim
import GoSem.ClaimJoined
import GoSem.ClaimMapViews
import Derived.JoinedTies
import Derived.KernelRfl
namespace Go.Proofs.Ytfcpmpcfbhkacaa
/- THE CELL 'sum', in the pinned program and in every row, IS THE sha256 OF THE DUMP (.gsa) THAT YtfcpmpcfbhkacaaProg.lean LOADS. Nothing in Lean hashes anything: it is a label: what it is worth is what the hold of that sum in a sandbox is worth. -/
noncomputable def Try.pinned : Pinned := { name := "ytfcpmpcfbhkacaa", sum := "4035982de4e78a3d5cff9839964152f2fb8dd8427b9ea8bae2aef3643717831d", checked := Try.checked }
namespace Rows
def none {H : Type} : Left H := { results := [], args := [] }

/-- 'cellarmanlaw.ShareSays': WHATEVER THE INPUT: true; the input reads as it did. -/
def shareSaysSpec : ChangeSpec := { name := "shareSays", fn := fun _ => fun
  | [d1, d2, d3, d4, d5] => { results := [.lit (.bool true)], args := [d1, d2, d3, d4, d5] }
  | _ => none }
def shareSaysRow : OpenClaim := { program := "ytfcpmpcfbhkacaa", sum := "4035982de4e78a3d5cff9839964152f2fb8dd8427b9ea8bae2aef3643717831d", func := "cellarman/cellarmanlaw.ShareSays", spec := "shareSays", unfollowed := true, recurses := true, apart := false }
def ShareSaysSaid : Prop := shareSaysRow.holds Try.pinned (OpenSpec.ofChange shareSaysSpec)

/-- ITS FALSE NEIGHBOUR: 'it returns false'. Refute it at one input. -/
def shareSaysWrong : ChangeSpec := { name := "shareSays", fn := fun _ => fun
  | [d1, d2, d3, d4, d5] => { results := [.lit (.bool false)], args := [d1, d2, d3, d4, d5] }
  | _ => none }
def ShareSaysWrongFalsely : Prop := shareSaysRow.holds Try.pinned (OpenSpec.ofChange shareSaysWrong)

/-- 'cellarmanlaw.ShareAny': WHATEVER THE INPUT: true; the input reads as it did. -/
def shareAnySpec : ChangeSpec := { name := "shareAny", fn := fun _ => fun
  | [d1, d2, d3, d4] => { results := [.lit (.bool true)], args := [d1, d2, d3, d4] }
  | _ => none }
def shareAnyRow : OpenClaim := { program := "ytfcpmpcfbhkacaa", sum := "4035982de4e78a3d5cff9839964152f2fb8dd8427b9ea8bae2aef3643717831d", func := "cellarman/cellarmanlaw.ShareAny", spec := "shareAny", unfollowed := true, recurses := true, apart := false }
def ShareAnySaid : Prop := shareAnyRow.holds Try.pinned (OpenSpec.ofChange shareAnySpec)

/-- ITS FALSE NEIGHBOUR: 'it returns false'. Refute it at one input. -/
def shareAnyWrong : ChangeSpec := { name := "shareAny", fn := fun _ => fun
  | [d1, d2, d3, d4] => { results := [.lit (.bool false)], args := [d1, d2, d3, d4] }
  | _ => none }
def ShareAnyWrongFalsely : Prop := shareAnyRow.holds Try.pinned (OpenSpec.ofChange shareAnyWrong)

/-- 'cellarmanlaw.ShareTorn': WHATEVER THE INPUT: true; the input reads as it did. -/
def shareTornSpec : ChangeSpec := { name := "shareTorn", fn := fun _ => fun
  | [d1, d2, d3, d4, d5, d6] => { results := [.lit (.bool true)], args := [d1, d2, d3, d4, d5, d6] }
  | _ => none }
def shareTornRow : OpenClaim := { program := "ytfcpmpcfbhkacaa", sum := "4035982de4e78a3d5cff9839964152f2fb8dd8427b9ea8bae2aef3643717831d", func := "cellarman/cellarmanlaw.ShareTorn", spec := "shareTorn", unfollowed := true, recurses := true, apart := false }
def ShareTornSaid : Prop := shareTornRow.holds Try.pinned (OpenSpec.ofChange shareTornSpec)

/-- ITS FALSE NEIGHBOUR: 'it returns false'. Refute it at one input. -/
def shareTornWrong : ChangeSpec := { name := "shareTorn", fn := fun _ => fun
  | [d1, d2, d3, d4, d5, d6] => { results := [.lit (.bool false)], args := [d1, d2, d3, d4, d5, d6] }
  | _ => none }
def ShareTornWrongFalsely : Prop := shareTornRow.holds Try.pinned (OpenSpec.ofChange shareTornWrong)

/-- 'cellarmanlaw.ShareAdds': WHATEVER THE INPUT: true; the input reads as it did. -/
def shareAddsSpec : ChangeSpec := { name := "shareAdds", fn := fun _ => fun
  | [d1, d2, d3] => { results := [.lit (.bool true)], args := [d1, d2, d3] }
  | _ => none }
def shareAddsRow : OpenClaim := { program := "ytfcpmpcfbhkacaa", sum := "4035982de4e78a3d5cff9839964152f2fb8dd8427b9ea8bae2aef3643717831d", func := "cellarman/cellarmanlaw.ShareAdds", spec := "shareAdds", unfollowed := true, recurses := true, apart := false }
def ShareAddsSaid : Prop := shareAddsRow.holds Try.pinned (OpenSpec.ofChange shareAddsSpec)

/-- ITS FALSE NEIGHBOUR: 'it returns false'. Refute it at one input. -/
def shareAddsWrong : ChangeSpec := { name := "shareAdds", fn := fun _ => fun
  | [d1, d2, d3] => { results := [.lit (.bool false)], args := [d1, d2, d3] }
  | _ => none }
def ShareAddsWrongFalsely : Prop := shareAddsRow.holds Try.pinned (OpenSpec.ofChange shareAddsWrong)

/-- 'cellarmanlaw.ShareBegins': WHATEVER THE INPUT: true; the input reads as it did. -/
def shareBeginsSpec : ChangeSpec := { name := "shareBegins", fn := fun _ => fun
  | [d1, d2] => { results := [.lit (.bool true)], args := [d1, d2] }
  | _ => none }
def shareBeginsRow : OpenClaim := { program := "ytfcpmpcfbhkacaa", sum := "4035982de4e78a3d5cff9839964152f2fb8dd8427b9ea8bae2aef3643717831d", func := "cellarman/cellarmanlaw.ShareBegins", spec := "shareBegins", unfollowed := true, recurses := true, apart := false }
def ShareBeginsSaid : Prop := shareBeginsRow.holds Try.pinned (OpenSpec.ofChange shareBeginsSpec)

/-- ITS FALSE NEIGHBOUR: 'it returns false'. Refute it at one input. -/
def shareBeginsWrong : ChangeSpec := { name := "shareBegins", fn := fun _ => fun
  | [d1, d2] => { results := [.lit (.bool false)], args := [d1, d2] }
  | _ => none }
def ShareBeginsWrongFalsely : Prop := shareBeginsRow.holds Try.pinned (OpenSpec.ofChange shareBeginsWrong)

/-- 'cellarmanlaw.VoteSays': WHATEVER THE INPUT: true; the input reads as it did. -/
def voteSaysSpec : ChangeSpec := { name := "voteSays", fn := fun _ => fun
  | [d1, d2] => { results := [.lit (.bool true)], args := [d1, d2] }
  | _ => none }
def voteSaysRow : OpenClaim := { program := "ytfcpmpcfbhkacaa", sum := "4035982de4e78a3d5cff9839964152f2fb8dd8427b9ea8bae2aef3643717831d", func := "cellarman/cellarmanlaw.VoteSays", spec := "voteSays", unfollowed := true, recurses := true, apart := false }
def VoteSaysSaid : Prop := voteSaysRow.holds Try.pinned (OpenSpec.ofChange voteSaysSpec)

/-- ITS FALSE NEIGHBOUR: 'it returns false'. Refute it at one input. -/
def voteSaysWrong : ChangeSpec := { name := "voteSays", fn := fun _ => fun
  | [d1, d2] => { results := [.lit (.bool false)], args := [d1, d2] }
  | _ => none }
def VoteSaysWrongFalsely : Prop := voteSaysRow.holds Try.pinned (OpenSpec.ofChange voteSaysWrong)

/-- 'cellarmanlaw.VoteFinds': WHATEVER THE INPUT: true; the input reads as it did. -/
def voteFindsSpec : ChangeSpec := { name := "voteFinds", fn := fun _ => fun
  | [d1, d2, d3, d4, d5] => { results := [.lit (.bool true)], args := [d1, d2, d3, d4, d5] }
  | _ => none }
def voteFindsRow : OpenClaim := { program := "ytfcpmpcfbhkacaa", sum := "4035982de4e78a3d5cff9839964152f2fb8dd8427b9ea8bae2aef3643717831d", func := "cellarman/cellarmanlaw.VoteFinds", spec := "voteFinds", unfollowed := true, recurses := true, apart := false }
def VoteFindsSaid : Prop := voteFindsRow.holds Try.pinned (OpenSpec.ofChange voteFindsSpec)

/-- ITS FALSE NEIGHBOUR: 'it returns false'. Refute it at one input. -/
def voteFindsWrong : ChangeSpec := { name := "voteFinds", fn := fun _ => fun
  | [d1, d2, d3, d4, d5] => { results := [.lit (.bool false)], args := [d1, d2, d3, d4, d5] }
  | _ => none }
def VoteFindsWrongFalsely : Prop := voteFindsRow.holds Try.pinned (OpenSpec.ofChange voteFindsWrong)

/-- 'cellarmanlaw.VoteMost': WHATEVER THE INPUT: true; the input reads as it did. -/
def voteMostSpec : ChangeSpec := { name := "voteMost", fn := fun _ => fun
  | [d1, d2, d3] => { results := [.lit (.bool true)], args := [d1, d2, d3] }
  | _ => none }
def voteMostRow : OpenClaim := { program := "ytfcpmpcfbhkacaa", sum := "4035982de4e78a3d5cff9839964152f2fb8dd8427b9ea8bae2aef3643717831d", func := "cellarman/cellarmanlaw.VoteMost", spec := "voteMost", unfollowed := true, recurses := true, apart := false }
def VoteMostSaid : Prop := voteMostRow.holds Try.pinned (OpenSpec.ofChange voteMostSpec)

/-- ITS FALSE NEIGHBOUR: 'it returns false'. Refute it at one input. -/
def voteMostWrong : ChangeSpec := { name := "voteMost", fn := fun _ => fun
  | [d1, d2, d3] => { results := [.lit (.bool false)], args := [d1, d2, d3] }
  | _ => none }
def VoteMostWrongFalsely : Prop := voteMostRow.holds Try.pinned (OpenSpec.ofChange voteMostWrong)

/-- 'cellarmanlaw.VoteOrder': WHATEVER THE INPUT: true; the input reads as it did. -/
def voteOrderSpec : ChangeSpec := { name := "voteOrder", fn := fun _ => fun
  | [d1, d2, d3, d4] => { results := [.lit (.bool true)], args := [d1, d2, d3, d4] }
  | _ => none }
def voteOrderRow : OpenClaim := { program := "ytfcpmpcfbhkacaa", sum := "4035982de4e78a3d5cff9839964152f2fb8dd8427b9ea8bae2aef3643717831d", func := "cellarman/cellarmanlaw.VoteOrder", spec := "voteOrder", unfollowed := true, recurses := true, apart := false }
def VoteOrderSaid : Prop := voteOrderRow.holds Try.pinned (OpenSpec.ofChange voteOrderSpec)

/-- ITS FALSE NEIGHBOUR: 'it returns false'. Refute it at one input. -/
def voteOrderWrong : ChangeSpec := { name := "voteOrder", fn := fun _ => fun
  | [d1, d2, d3, d4] => { results := [.lit (.bool false)], args := [d1, d2, d3, d4] }
  | _ => none }
def VoteOrderWrongFalsely : Prop := voteOrderRow.holds Try.pinned (OpenSpec.ofChange voteOrderWrong)

/- THE SECOND FORM. 'bulk': how many values and letters a reading holds, each counted each time it is reached (what is shared counts as often as it is met; a slice's spare places count too). A statement '..UptoSaid' is the law's where the arguments, and the package variables that the reading takes, are together of bulk at most 1048576: NARROWER than '..Said'. Prove '..Said' where nothing that the law and all that it calls make is longer than what came in: it says more and counts as full. Else prove '..UptoSaid'. A law counts once. -/
mutual
def uptoBulk {H : Type} : DataW H → Nat
  | .lit (.string bytes) => bytes.length + 1
  | .lit _ => 1
  | .nil => 1
  | .ptr d => uptoBulk d + 1
  | .slice elems spare => uptoBulkAll elems + uptoBulkAll spare + 1
  | .agg parts => uptoBulkAll parts + 1
  | .iface _ d => uptoBulk d + 1
  | .map entries => uptoBulkEntries entries + 1
  | .held _ => 1
def uptoBulkAll {H : Type} : List (DataW H) → Nat
  | [] => 0
  | d :: r => uptoBulk d + uptoBulkAll r
def uptoBulkEntries {H : Type} : List (Lit × DataW H) → Nat
  | [] => 0
  | x :: r => uptoBulkEntry x + uptoBulkEntries r
def uptoBulkEntry {H : Type} : Lit × DataW H → Nat
  | (.string bytes, d) => bytes.length + uptoBulk d + 1
  | (_, d) => uptoBulk d + 1
 end
def uptoSmall : (H : Type) → List (DataW H) → Bool := fun _ ds => decide (uptoBulkAll ds ≤ 1048576)
def OpenSpec.upto (s : _root_.Go.ChangeSpec) : _root_.Go.OpenSpec := { _root_.Go.OpenSpec.ofChange s with cond := some uptoSmall }

/-- 'cellarmanlaw.ShareSays', WHERE WHAT IT READS IS OF BULK AT MOST 1048576: true; the input reads as it did. -/
def shareSaysUptoRow : OpenClaim := { program := "ytfcpmpcfbhkacaa", sum := "4035982de4e78a3d5cff9839964152f2fb8dd8427b9ea8bae2aef3643717831d", func := "cellarman/cellarmanlaw.ShareSays", spec := "shareSays", unfollowed := true, recurses := true, apart := false, narrowed := true }
def ShareSaysUptoSaid : Prop := shareSaysUptoRow.holds Try.pinned (OpenSpec.upto shareSaysSpec)

/-- 'cellarmanlaw.ShareAny', WHERE WHAT IT READS IS OF BULK AT MOST 1048576: true; the input reads as it did. -/
def shareAnyUptoRow : OpenClaim := { program := "ytfcpmpcfbhkacaa", sum := "4035982de4e78a3d5cff9839964152f2fb8dd8427b9ea8bae2aef3643717831d", func := "cellarman/cellarmanlaw.ShareAny", spec := "shareAny", unfollowed := true, recurses := true, apart := false, narrowed := true }
def ShareAnyUptoSaid : Prop := shareAnyUptoRow.holds Try.pinned (OpenSpec.upto shareAnySpec)

/-- 'cellarmanlaw.ShareTorn', WHERE WHAT IT READS IS OF BULK AT MOST 1048576: true; the input reads as it did. -/
def shareTornUptoRow : OpenClaim := { program := "ytfcpmpcfbhkacaa", sum := "4035982de4e78a3d5cff9839964152f2fb8dd8427b9ea8bae2aef3643717831d", func := "cellarman/cellarmanlaw.ShareTorn", spec := "shareTorn", unfollowed := true, recurses := true, apart := false, narrowed := true }
def ShareTornUptoSaid : Prop := shareTornUptoRow.holds Try.pinned (OpenSpec.upto shareTornSpec)

/-- 'cellarmanlaw.ShareAdds', WHERE WHAT IT READS IS OF BULK AT MOST 1048576: true; the input reads as it did. -/
def shareAddsUptoRow : OpenClaim := { program := "ytfcpmpcfbhkacaa", sum := "4035982de4e78a3d5cff9839964152f2fb8dd8427b9ea8bae2aef3643717831d", func := "cellarman/cellarmanlaw.ShareAdds", spec := "shareAdds", unfollowed := true, recurses := true, apart := false, narrowed := true }
def ShareAddsUptoSaid : Prop := shareAddsUptoRow.holds Try.pinned (OpenSpec.upto shareAddsSpec)

/-- 'cellarmanlaw.ShareBegins', WHERE WHAT IT READS IS OF BULK AT MOST 1048576: true; the input reads as it did. -/
def shareBeginsUptoRow : OpenClaim := { program := "ytfcpmpcfbhkacaa", sum := "4035982de4e78a3d5cff9839964152f2fb8dd8427b9ea8bae2aef3643717831d", func := "cellarman/cellarmanlaw.ShareBegins", spec := "shareBegins", unfollowed := true, recurses := true, apart := false, narrowed := true }
def ShareBeginsUptoSaid : Prop := shareBeginsUptoRow.holds Try.pinned (OpenSpec.upto shareBeginsSpec)

/-- 'cellarmanlaw.VoteSays', WHERE WHAT IT READS IS OF BULK AT MOST 1048576: true; the input reads as it did. -/
def voteSaysUptoRow : OpenClaim := { program := "ytfcpmpcfbhkacaa", sum := "4035982de4e78a3d5cff9839964152f2fb8dd8427b9ea8bae2aef3643717831d", func := "cellarman/cellarmanlaw.VoteSays", spec := "voteSays", unfollowed := true, recurses := true, apart := false, narrowed := true }
def VoteSaysUptoSaid : Prop := voteSaysUptoRow.holds Try.pinned (OpenSpec.upto voteSaysSpec)

/-- 'cellarmanlaw.VoteFinds', WHERE WHAT IT READS IS OF BULK AT MOST 1048576: true; the input reads as it did. -/
def voteFindsUptoRow : OpenClaim := { program := "ytfcpmpcfbhkacaa", sum := "4035982de4e78a3d5cff9839964152f2fb8dd8427b9ea8bae2aef3643717831d", func := "cellarman/cellarmanlaw.VoteFinds", spec := "voteFinds", unfollowed := true, recurses := true, apart := false, narrowed := true }
def VoteFindsUptoSaid : Prop := voteFindsUptoRow.holds Try.pinned (OpenSpec.upto voteFindsSpec)

/-- 'cellarmanlaw.VoteMost', WHERE WHAT IT READS IS OF BULK AT MOST 1048576: true; the input reads as it did. -/
def voteMostUptoRow : OpenClaim := { program := "ytfcpmpcfbhkacaa", sum := "4035982de4e78a3d5cff9839964152f2fb8dd8427b9ea8bae2aef3643717831d", func := "cellarman/cellarmanlaw.VoteMost", spec := "voteMost", unfollowed := true, recurses := true, apart := false, narrowed := true }
def VoteMostUptoSaid : Prop := voteMostUptoRow.holds Try.pinned (OpenSpec.upto voteMostSpec)

/-- 'cellarmanlaw.VoteOrder', WHERE WHAT IT READS IS OF BULK AT MOST 1048576: true; the input reads as it did. -/
def voteOrderUptoRow : OpenClaim := { program := "ytfcpmpcfbhkacaa", sum := "4035982de4e78a3d5cff9839964152f2fb8dd8427b9ea8bae2aef3643717831d", func := "cellarman/cellarmanlaw.VoteOrder", spec := "voteOrder", unfollowed := true, recurses := true, apart := false, narrowed := true }
def VoteOrderUptoSaid : Prop := voteOrderUptoRow.holds Try.pinned (OpenSpec.upto voteOrderSpec)

end Rows
end Go.Proofs.Ytfcpmpcfbhkacaa
