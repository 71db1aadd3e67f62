/-
  No cell of these rows narrows 'for every input' (looked for: loops, veiled, ifaces, maps, wideKeys, modest, calm, conditions, laid).
  DERIVED. THE GIVEN ROWS OF THIS SEAT. 6 by the template 'for every input the law returns true; each argument reads behind the call as it read before'; 0 by the template 'total and deterministic' (their statements: YtngiefhkjkpmjacTotals.lean).
  GIVEN WITH THE SEED: the statements are not yours to turn. If you find one false, say at which input.
  Laid BY PROGRAM, IN A SANDBOX (cutbox-rows.mjs): the forced cells as the released guide's own fill.sh prints them over the translation 4659d380fedf169b… (all of the seat's roots in one cut). By AI agents, Wed Nov 11 2026. No macro, syntax, notation, axiom, sorry.
-/
import Derived.Test.YtngiefhkjkpmjacChecked
import GoSem.Claim
import GoSem.ClaimJoined
import GoSem.ClaimMapViews
import Derived.JoinedTies
import Derived.KernelRfl
namespace Go.Proofs.Ytngiefhkjkpmjac
/- THE CELL 'sum', in the pinned program and in every row, IS THE sha256 OF THE DUMP (.gsa) THAT YtngiefhkjkpmjacProg.lean LOADS. Nothing in Lean hashes anything: it is a label: what it is worth is what the hold of that sum in a sandbox is worth. -/
noncomputable def Try.pinned : Pinned := { name := "ytngiefhkjkpmjac", sum := "4659d380fedf169bd46a92ba0149d40e3a9c63bd00164503a25511c4787de9a1", checked := Try.checked }
namespace Rows
def none {H : Type} : Left H := { results := [], args := [] }

/-- 'cellarmanlaw.ShareBegins': WHATEVER THE INPUT: true; the input reads as it did. -/
def shareBeginsSpec : ChangeSpec := { name := "shareBegins", fn := fun _ => fun
  | [d1, d2] => { results := [.lit (.bool true)], args := [d1, d2] }
  | _ => none }
def shareBeginsRow : OpenClaim := { program := "ytngiefhkjkpmjac", sum := "4659d380fedf169bd46a92ba0149d40e3a9c63bd00164503a25511c4787de9a1", func := "cellarman/cellarmanlaw.ShareBegins", spec := "shareBegins", unfollowed := true, recurses := true, apart := false }
def ShareBeginsSaid : Prop := shareBeginsRow.holds Try.pinned (OpenSpec.ofChange shareBeginsSpec)

/-- ITS FALSE NEIGHBOUR: 'it returns false'. Refute it at one input. -/
def shareBeginsWrong : ChangeSpec := { name := "shareBegins", fn := fun _ => fun
  | [d1, d2] => { results := [.lit (.bool false)], args := [d1, d2] }
  | _ => none }
def ShareBeginsWrongFalsely : Prop := shareBeginsRow.holds Try.pinned (OpenSpec.ofChange shareBeginsWrong)

/-- 'cellarmanlaw.VoteSays': WHATEVER THE INPUT: true; the input reads as it did. -/
def voteSaysSpec : ChangeSpec := { name := "voteSays", fn := fun _ => fun
  | [d1, d2] => { results := [.lit (.bool true)], args := [d1, d2] }
  | _ => none }
def voteSaysRow : OpenClaim := { program := "ytngiefhkjkpmjac", sum := "4659d380fedf169bd46a92ba0149d40e3a9c63bd00164503a25511c4787de9a1", func := "cellarman/cellarmanlaw.VoteSays", spec := "voteSays", unfollowed := true, recurses := true, apart := false }
def VoteSaysSaid : Prop := voteSaysRow.holds Try.pinned (OpenSpec.ofChange voteSaysSpec)

/-- ITS FALSE NEIGHBOUR: 'it returns false'. Refute it at one input. -/
def voteSaysWrong : ChangeSpec := { name := "voteSays", fn := fun _ => fun
  | [d1, d2] => { results := [.lit (.bool false)], args := [d1, d2] }
  | _ => none }
def VoteSaysWrongFalsely : Prop := voteSaysRow.holds Try.pinned (OpenSpec.ofChange voteSaysWrong)

/-- 'cellarmanlaw.VoteFinds': WHATEVER THE INPUT: true; the input reads as it did. -/
def voteFindsSpec : ChangeSpec := { name := "voteFinds", fn := fun _ => fun
  | [d1, d2, d3, d4, d5] => { results := [.lit (.bool true)], args := [d1, d2, d3, d4, d5] }
  | _ => none }
def voteFindsRow : OpenClaim := { program := "ytngiefhkjkpmjac", sum := "4659d380fedf169bd46a92ba0149d40e3a9c63bd00164503a25511c4787de9a1", func := "cellarman/cellarmanlaw.VoteFinds", spec := "voteFinds", unfollowed := true, recurses := true, apart := false }
def VoteFindsSaid : Prop := voteFindsRow.holds Try.pinned (OpenSpec.ofChange voteFindsSpec)

/-- ITS FALSE NEIGHBOUR: 'it returns false'. Refute it at one input. -/
def voteFindsWrong : ChangeSpec := { name := "voteFinds", fn := fun _ => fun
  | [d1, d2, d3, d4, d5] => { results := [.lit (.bool false)], args := [d1, d2, d3, d4, d5] }
  | _ => none }
def VoteFindsWrongFalsely : Prop := voteFindsRow.holds Try.pinned (OpenSpec.ofChange voteFindsWrong)

/-- 'cellarmanlaw.VoteMost': WHATEVER THE INPUT: true; the input reads as it did. -/
def voteMostSpec : ChangeSpec := { name := "voteMost", fn := fun _ => fun
  | [d1, d2, d3] => { results := [.lit (.bool true)], args := [d1, d2, d3] }
  | _ => none }
def voteMostRow : OpenClaim := { program := "ytngiefhkjkpmjac", sum := "4659d380fedf169bd46a92ba0149d40e3a9c63bd00164503a25511c4787de9a1", func := "cellarman/cellarmanlaw.VoteMost", spec := "voteMost", unfollowed := true, recurses := true, apart := false }
def VoteMostSaid : Prop := voteMostRow.holds Try.pinned (OpenSpec.ofChange voteMostSpec)

/-- ITS FALSE NEIGHBOUR: 'it returns false'. Refute it at one input. -/
def voteMostWrong : ChangeSpec := { name := "voteMost", fn := fun _ => fun
  | [d1, d2, d3] => { results := [.lit (.bool false)], args := [d1, d2, d3] }
  | _ => none }
def VoteMostWrongFalsely : Prop := voteMostRow.holds Try.pinned (OpenSpec.ofChange voteMostWrong)

/-- 'cellarmanlaw.VoteOrder': WHATEVER THE INPUT: true; the input reads as it did. -/
def voteOrderSpec : ChangeSpec := { name := "voteOrder", fn := fun _ => fun
  | [d1, d2, d3, d4] => { results := [.lit (.bool true)], args := [d1, d2, d3, d4] }
  | _ => none }
def voteOrderRow : OpenClaim := { program := "ytngiefhkjkpmjac", sum := "4659d380fedf169bd46a92ba0149d40e3a9c63bd00164503a25511c4787de9a1", func := "cellarman/cellarmanlaw.VoteOrder", spec := "voteOrder", unfollowed := true, recurses := true, apart := false }
def VoteOrderSaid : Prop := voteOrderRow.holds Try.pinned (OpenSpec.ofChange voteOrderSpec)

/-- ITS FALSE NEIGHBOUR: 'it returns false'. Refute it at one input. -/
def voteOrderWrong : ChangeSpec := { name := "voteOrder", fn := fun _ => fun
  | [d1, d2, d3, d4] => { results := [.lit (.bool false)], args := [d1, d2, d3, d4] }
  | _ => none }
def VoteOrderWrongFalsely : Prop := voteOrderRow.holds Try.pinned (OpenSpec.ofChange voteOrderWrong)

/-- 'cellarmanlaw.BookSays': WHATEVER THE INPUT: true; the input reads as it did. -/
def bookSaysSpec : ChangeSpec := { name := "bookSays", fn := fun _ => fun
  | [d1, d2, d3, d4] => { results := [.lit (.bool true)], args := [d1, d2, d3, d4] }
  | _ => none }
def bookSaysRow : OpenClaim := { program := "ytngiefhkjkpmjac", sum := "4659d380fedf169bd46a92ba0149d40e3a9c63bd00164503a25511c4787de9a1", func := "cellarman/cellarmanlaw.BookSays", spec := "bookSays", unfollowed := true, recurses := true, apart := false }
def BookSaysSaid : Prop := bookSaysRow.holds Try.pinned (OpenSpec.ofChange bookSaysSpec)

/-- ITS FALSE NEIGHBOUR: 'it returns false'. Refute it at one input. -/
def bookSaysWrong : ChangeSpec := { name := "bookSays", fn := fun _ => fun
  | [d1, d2, d3, d4] => { results := [.lit (.bool false)], args := [d1, d2, d3, d4] }
  | _ => none }
def BookSaysWrongFalsely : Prop := bookSaysRow.holds Try.pinned (OpenSpec.ofChange bookSaysWrong)

/- THE SECOND FORM. 'bulk': how many values and letters a reading holds, each counted each time it is reached (what is shared counts as often as it is met; a slice's spare places count too). A statement '..UptoSaid' is the law's where the arguments, and the package variables that the reading takes, are together of bulk at most 1048576: NARROWER than '..Said'. Prove '..Said' where nothing that the law and all that it calls make is longer than what came in: it says more and counts as full. Else prove '..UptoSaid'. A law counts once. -/
mutual
def uptoBulk {H : Type} : DataW H → Nat
  | .lit (.string bytes) => bytes.length + 1
  | .lit _ => 1
  | .nil => 1
  | .ptr d => uptoBulk d + 1
  | .slice elems spare => uptoBulkAll elems + uptoBulkAll spare + 1
  | .agg parts => uptoBulkAll parts + 1
  | .iface _ d => uptoBulk d + 1
  | .map entries => uptoBulkEntries entries + 1
  | .held _ => 1
def uptoBulkAll {H : Type} : List (DataW H) → Nat
  | [] => 0
  | d :: r => uptoBulk d + uptoBulkAll r
def uptoBulkEntries {H : Type} : List (Lit × DataW H) → Nat
  | [] => 0
  | x :: r => uptoBulkEntry x + uptoBulkEntries r
def uptoBulkEntry {H : Type} : Lit × DataW H → Nat
  | (.string bytes, d) => bytes.length + uptoBulk d + 1
  | (_, d) => uptoBulk d + 1
 end
def uptoSmall : (H : Type) → List (DataW H) → Bool := fun _ ds => decide (uptoBulkAll ds ≤ 1048576)
def OpenSpec.upto (s : _root_.Go.ChangeSpec) : _root_.Go.OpenSpec := { _root_.Go.OpenSpec.ofChange s with cond := some uptoSmall }

/-- 'cellarmanlaw.ShareBegins', WHERE WHAT IT READS IS OF BULK AT MOST 1048576: true; the input reads as it did. -/
def shareBeginsUptoRow : OpenClaim := { program := "ytngiefhkjkpmjac", sum := "4659d380fedf169bd46a92ba0149d40e3a9c63bd00164503a25511c4787de9a1", func := "cellarman/cellarmanlaw.ShareBegins", spec := "shareBegins", unfollowed := true, recurses := true, apart := false, narrowed := true }
def ShareBeginsUptoSaid : Prop := shareBeginsUptoRow.holds Try.pinned (OpenSpec.upto shareBeginsSpec)

/-- 'cellarmanlaw.VoteSays', WHERE WHAT IT READS IS OF BULK AT MOST 1048576: true; the input reads as it did. -/
def voteSaysUptoRow : OpenClaim := { program := "ytngiefhkjkpmjac", sum := "4659d380fedf169bd46a92ba0149d40e3a9c63bd00164503a25511c4787de9a1", func := "cellarman/cellarmanlaw.VoteSays", spec := "voteSays", unfollowed := true, recurses := true, apart := false, narrowed := true }
def VoteSaysUptoSaid : Prop := voteSaysUptoRow.holds Try.pinned (OpenSpec.upto voteSaysSpec)

/-- 'cellarmanlaw.VoteFinds', WHERE WHAT IT READS IS OF BULK AT MOST 1048576: true; the input reads as it did. -/
def voteFindsUptoRow : OpenClaim := { program := "ytngiefhkjkpmjac", sum := "4659d380fedf169bd46a92ba0149d40e3a9c63bd00164503a25511c4787de9a1", func := "cellarman/cellarmanlaw.VoteFinds", spec := "voteFinds", unfollowed := true, recurses := true, apart := false, narrowed := true }
def VoteFindsUptoSaid : Prop := voteFindsUptoRow.holds Try.pinned (OpenSpec.upto voteFindsSpec)

/-- 'cellarmanlaw.VoteMost', WHERE WHAT IT READS IS OF BULK AT MOST 1048576: true; the input reads as it did. -/
def voteMostUptoRow : OpenClaim := { program := "ytngiefhkjkpmjac", sum := "4659d380fedf169bd46a92ba0149d40e3a9c63bd00164503a25511c4787de9a1", func := "cellarman/cellarmanlaw.VoteMost", spec := "voteMost", unfollowed := true, recurses := true, apart := false, narrowed := true }
def VoteMostUptoSaid : Prop := voteMostUptoRow.holds Try.pinned (OpenSpec.upto voteMostSpec)

/-- 'cellarmanlaw.VoteOrder', WHERE WHAT IT READS IS OF BULK AT MOST 1048576: true; the input reads as it did. -/
def voteOrderUptoRow : OpenClaim := { program := "ytngiefhkjkpmjac", sum := "4659d380fedf169bd46a92ba0149d40e3a9c63bd00164503a25511c4787de9a1", func := "cellarman/cellarmanlaw.VoteOrder", spec := "voteOrder", unfollowed := true, recurses := true, apart := false, narrowed := true }
def VoteOrderUptoSaid : Prop := voteOrderUptoRow.holds Try.pinned (OpenSpec.upto voteOrderSpec)

/-- 'cellarmanlaw.BookSays', WHERE WHAT IT READS IS OF BULK AT MOST 1048576: true; the input reads as it did. -/
def bookSaysUptoRow : OpenClaim := { program := "ytngiefhkjkpmjac", sum := "4659d380fedf169bd46a92ba0149d40e3a9c63bd00164503a25511c4787de9a1", func := "cellarman/cellarmanlaw.BookSays", spec := "bookSays", unfollowed := true, recurses := true, apart := false, narrowed := true }
def BookSaysUptoSaid : Prop := bookSaysUptoRow.holds Try.pinned (OpenSpec.upto bookSaysSpec)

end Rows
end Go.Proofs.Ytngiefhkjkpmjac
