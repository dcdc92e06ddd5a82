/-
  No cell of these rows narrows 'for every input' (looked for: loops, veiled, ifaces, maps, wideKeys, modest, calm, conditions, laid).
  DERIVED. THE GIVEN ROWS OF THIS SEAT. 5 by the template 'for every input the law returns true; each argument reads behind the call as it read before'; 0 by the template 'total and deterministic' (their statements: YtdfjmnckgcpmgaaTotals.lean).
  GIVEN WITH THE SEED: the statements are not yours to turn. If you find one false, say at which input.
  Laid BY PROGRAM, IN A SANDBOX (cutbox-rows.mjs): the forced cells as the released guide's own fill.sh prints them over the translation 345b90895355819a… (all of the seat's roots in one cut). By AI agents, Wed Nov 11 2026. No macro, syntax, notation, axiom, sorry.
-/
import Derived.Test.YtdfjmnckgcpmgaaChecked
import GoSem.Claim
import GoSem.ClaimJoined
import GoSem.ClaimMapViews
import Derived.JoinedTies
import Derived.KernelRfl
namespace Go.Proofs.Ytdfjmnckgcpmgaa
/- THE CELL 'sum', in the pinned program and in every row, IS THE sha256 OF THE DUMP (.gsa) THAT YtdfjmnckgcpmgaaProg.lean LOADS. Nothing in Lean hashes anything: it is a label: what it is worth is what the hold of that sum in a sandbox is worth. -/
noncomputable def Try.pinned : Pinned := { name := "ytdfjmnckgcpmgaa", sum := "345b90895355819a227f65664de22d0fb666c28ad76370e2484c3141e2dddf45", checked := Try.checked }
namespace Rows
def none {H : Type} : Left H := { results := [], args := [] }

/-- 'pacelinelaw16.CutScript': WHATEVER THE INPUT: true; the input reads as it did. -/
def cutScriptSpec : ChangeSpec := { name := "cutScript", fn := fun _ => fun
  | [d1, d2] => { results := [.lit (.bool true)], args := [d1, d2] }
  | _ => none }
def cutScriptRow : OpenClaim := { program := "ytdfjmnckgcpmgaa", sum := "345b90895355819a227f65664de22d0fb666c28ad76370e2484c3141e2dddf45", func := "paceline/pacelinelaw16.CutScript", spec := "cutScript", unfollowed := true, recurses := true, apart := false }
def CutScriptSaid : Prop := cutScriptRow.holds Try.pinned (OpenSpec.ofChange cutScriptSpec)

/-- ITS FALSE NEIGHBOUR: 'it returns false'. Refute it at one input. -/
def cutScriptWrong : ChangeSpec := { name := "cutScript", fn := fun _ => fun
  | [d1, d2] => { results := [.lit (.bool false)], args := [d1, d2] }
  | _ => none }
def CutScriptWrongFalsely : Prop := cutScriptRow.holds Try.pinned (OpenSpec.ofChange cutScriptWrong)

/-- 'pacelinelaw16.CutBelow': WHATEVER THE INPUT: true; the input reads as it did. -/
def cutBelowSpec : ChangeSpec := { name := "cutBelow", fn := fun _ => fun
  | [d1, d2] => { results := [.lit (.bool true)], args := [d1, d2] }
  | _ => none }
def cutBelowRow : OpenClaim := { program := "ytdfjmnckgcpmgaa", sum := "345b90895355819a227f65664de22d0fb666c28ad76370e2484c3141e2dddf45", func := "paceline/pacelinelaw16.CutBelow", spec := "cutBelow", unfollowed := true, recurses := true, apart := false }
def CutBelowSaid : Prop := cutBelowRow.holds Try.pinned (OpenSpec.ofChange cutBelowSpec)

/-- ITS FALSE NEIGHBOUR: 'it returns false'. Refute it at one input. -/
def cutBelowWrong : ChangeSpec := { name := "cutBelow", fn := fun _ => fun
  | [d1, d2] => { results := [.lit (.bool false)], args := [d1, d2] }
  | _ => none }
def CutBelowWrongFalsely : Prop := cutBelowRow.holds Try.pinned (OpenSpec.ofChange cutBelowWrong)

/-- 'pacelinelaw16.CutQuiet': WHATEVER THE INPUT: true; the input reads as it did. -/
def cutQuietSpec : ChangeSpec := { name := "cutQuiet", fn := fun _ => fun
  | [d1, d2] => { results := [.lit (.bool true)], args := [d1, d2] }
  | _ => none }
def cutQuietRow : OpenClaim := { program := "ytdfjmnckgcpmgaa", sum := "345b90895355819a227f65664de22d0fb666c28ad76370e2484c3141e2dddf45", func := "paceline/pacelinelaw16.CutQuiet", spec := "cutQuiet", unfollowed := true, recurses := true, apart := false }
def CutQuietSaid : Prop := cutQuietRow.holds Try.pinned (OpenSpec.ofChange cutQuietSpec)

/-- ITS FALSE NEIGHBOUR: 'it returns false'. Refute it at one input. -/
def cutQuietWrong : ChangeSpec := { name := "cutQuiet", fn := fun _ => fun
  | [d1, d2] => { results := [.lit (.bool false)], args := [d1, d2] }
  | _ => none }
def CutQuietWrongFalsely : Prop := cutQuietRow.holds Try.pinned (OpenSpec.ofChange cutQuietWrong)

/-- 'pacelinelaw16.CutColours': WHATEVER THE INPUT: true; the input reads as it did. -/
def cutColoursSpec : ChangeSpec := { name := "cutColours", fn := fun _ => fun
  | [d1, d2, d3] => { results := [.lit (.bool true)], args := [d1, d2, d3] }
  | _ => none }
def cutColoursRow : OpenClaim := { program := "ytdfjmnckgcpmgaa", sum := "345b90895355819a227f65664de22d0fb666c28ad76370e2484c3141e2dddf45", func := "paceline/pacelinelaw16.CutColours", spec := "cutColours", unfollowed := true, recurses := true, apart := false }
def CutColoursSaid : Prop := cutColoursRow.holds Try.pinned (OpenSpec.ofChange cutColoursSpec)

/-- ITS FALSE NEIGHBOUR: 'it returns false'. Refute it at one input. -/
def cutColoursWrong : ChangeSpec := { name := "cutColours", fn := fun _ => fun
  | [d1, d2, d3] => { results := [.lit (.bool false)], args := [d1, d2, d3] }
  | _ => none }
def CutColoursWrongFalsely : Prop := cutColoursRow.holds Try.pinned (OpenSpec.ofChange cutColoursWrong)

/-- 'pacelinelaw16.CutWaits': WHATEVER THE INPUT: true; the input reads as it did. -/
def cutWaitsSpec : ChangeSpec := { name := "cutWaits", fn := fun _ => fun
  | [d1, d2, d3, d4, d5, d6] => { results := [.lit (.bool true)], args := [d1, d2, d3, d4, d5, d6] }
  | _ => none }
def cutWaitsRow : OpenClaim := { program := "ytdfjmnckgcpmgaa", sum := "345b90895355819a227f65664de22d0fb666c28ad76370e2484c3141e2dddf45", func := "paceline/pacelinelaw16.CutWaits", spec := "cutWaits", unfollowed := true, recurses := true, apart := false }
def CutWaitsSaid : Prop := cutWaitsRow.holds Try.pinned (OpenSpec.ofChange cutWaitsSpec)

/-- ITS FALSE NEIGHBOUR: 'it returns false'. Refute it at one input. -/
def cutWaitsWrong : ChangeSpec := { name := "cutWaits", fn := fun _ => fun
  | [d1, d2, d3, d4, d5, d6] => { results := [.lit (.bool false)], args := [d1, d2, d3, d4, d5, d6] }
  | _ => none }
def CutWaitsWrongFalsely : Prop := cutWaitsRow.holds Try.pinned (OpenSpec.ofChange cutWaitsWrong)

/- THE SECOND FORM. 'bulk': how many values and letters a reading holds, each counted each time it is reached (what is shared counts as often as it is met; a slice's spare places count too). A statement '..UptoSaid' is the law's where the arguments, and the package variables that the reading takes, are together of bulk at most 1048576: NARROWER than '..Said'. Prove '..Said' where nothing that the law and all that it calls make is longer than what came in: it says more and counts as full. Else prove '..UptoSaid'. A law counts once. -/
mutual
def uptoBulk {H : Type} : DataW H → Nat
  | .lit (.string bytes) => bytes.length + 1
  | .lit _ => 1
  | .nil => 1
  | .ptr d => uptoBulk d + 1
  | .slice elems spare => uptoBulkAll elems + uptoBulkAll spare + 1
  | .agg parts => uptoBulkAll parts + 1
  | .iface _ d => uptoBulk d + 1
  | .map entries => uptoBulkEntries entries + 1
  | .held _ => 1
def uptoBulkAll {H : Type} : List (DataW H) → Nat
  | [] => 0
  | d :: r => uptoBulk d + uptoBulkAll r
def uptoBulkEntries {H : Type} : List (Lit × DataW H) → Nat
  | [] => 0
  | x :: r => uptoBulkEntry x + uptoBulkEntries r
def uptoBulkEntry {H : Type} : Lit × DataW H → Nat
  | (.string bytes, d) => bytes.length + uptoBulk d + 1
  | (_, d) => uptoBulk d + 1
 end
def uptoSmall : (H : Type) → List (DataW H) → Bool := fun _ ds => decide (uptoBulkAll ds ≤ 1048576)
def OpenSpec.upto (s : _root_.Go.ChangeSpec) : _root_.Go.OpenSpec := { _root_.Go.OpenSpec.ofChange s with cond := some uptoSmall }

/-- 'pacelinelaw16.CutScript', WHERE WHAT IT READS IS OF BULK AT MOST 1048576: true; the input reads as it did. -/
def cutScriptUptoRow : OpenClaim := { program := "ytdfjmnckgcpmgaa", sum := "345b90895355819a227f65664de22d0fb666c28ad76370e2484c3141e2dddf45", func := "paceline/pacelinelaw16.CutScript", spec := "cutScript", unfollowed := true, recurses := true, apart := false, narrowed := true }
def CutScriptUptoSaid : Prop := cutScriptUptoRow.holds Try.pinned (OpenSpec.upto cutScriptSpec)

/-- 'pacelinelaw16.CutBelow', WHERE WHAT IT READS IS OF BULK AT MOST 1048576: true; the input reads as it did. -/
def cutBelowUptoRow : OpenClaim := { program := "ytdfjmnckgcpmgaa", sum := "345b90895355819a227f65664de22d0fb666c28ad76370e2484c3141e2dddf45", func := "paceline/pacelinelaw16.CutBelow", spec := "cutBelow", unfollowed := true, recurses := true, apart := false, narrowed := true }
def CutBelowUptoSaid : Prop := cutBelowUptoRow.holds Try.pinned (OpenSpec.upto cutBelowSpec)

/-- 'pacelinelaw16.CutQuiet', WHERE WHAT IT READS IS OF BULK AT MOST 1048576: true; the input reads as it did. -/
def cutQuietUptoRow : OpenClaim := { program := "ytdfjmnckgcpmgaa", sum := "345b90895355819a227f65664de22d0fb666c28ad76370e2484c3141e2dddf45", func := "paceline/pacelinelaw16.CutQuiet", spec := "cutQuiet", unfollowed := true, recurses := true, apart := false, narrowed := true }
def CutQuietUptoSaid : Prop := cutQuietUptoRow.holds Try.pinned (OpenSpec.upto cutQuietSpec)

/-- 'pacelinelaw16.CutColours', WHERE WHAT IT READS IS OF BULK AT MOST 1048576: true; the input reads as it did. -/
def cutColoursUptoRow : OpenClaim := { program := "ytdfjmnckgcpmgaa", sum := "345b90895355819a227f65664de22d0fb666c28ad76370e2484c3141e2dddf45", func := "paceline/pacelinelaw16.CutColours", spec := "cutColours", unfollowed := true, recurses := true, apart := false, narrowed := true }
def CutColoursUptoSaid : Prop := cutColoursUptoRow.holds Try.pinned (OpenSpec.upto cutColoursSpec)

/-- 'pacelinelaw16.CutWaits', WHERE WHAT IT READS IS OF BULK AT MOST 1048576: true; the input reads as it did. -/
def cutWaitsUptoRow : OpenClaim := { program := "ytdfjmnckgcpmgaa", sum := "345b90895355819a227f65664de22d0fb666c28ad76370e2484c3141e2dddf45", func := "paceline/pacelinelaw16.CutWaits", spec := "cutWaits", unfollowed := true, recurses := true, apart := false, narrowed := true }
def CutWaitsUptoSaid : Prop := cutWaitsUptoRow.holds Try.pinned (OpenSpec.upto cutWaitsSpec)

end Rows
end Go.Proofs.Ytdfjmnckgcpmgaa
