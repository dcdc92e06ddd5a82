/-
  No cell of these rows narrows 'for every input' (looked for: loops, veiled, ifaces, maps, wideKeys, modest, calm, conditions, laid).
  DERIVED. THE GIVEN ROWS OF THIS SEAT. 2 by the template 'for every input the law returns true; each argument reads behind the call as it read before'; 0 by the template 'total and deterministic' (their statements: YtpibcfhfhejloaaTotals.lean).
  GIVEN WITH THE SEED: the statements are not yours to turn. If you find one false, say at which input.
  Laid BY PROGRAM, IN A SANDBOX (cutbox-rows.mjs): the forced cells as the released guide's own fill.sh prints them over the translation 24f94b074b581b13… (all of the seat's roots in one cut). By AI agents, Wed Nov 11 2026. No macro, syntax, notation, axiom, sorry.
-/
import Derived.Test.YtpibcfhfhejloaaChecked
import GoSem.Claim
import GoSem.ClaimJoined
import GoSem.ClaimMapViews
import Derived.JoinedTies
import Derived.KernelRfl
namespace Go.Proofs.Ytpibcfhfhejloaa
/- THE CELL 'sum', in the pinned program and in every row, IS THE sha256 OF THE DUMP (.gsa) THAT YtpibcfhfhejloaaProg.lean LOADS. Nothing in Lean hashes anything: it is a label: what it is worth is what the hold of that sum in a sandbox is worth. -/
noncomputable def Try.pinned : Pinned := { name := "ytpibcfhfhejloaa", sum := "24f94b074b581b13cd587db27058995759f9d90c5d283cb66d61746d42ecfb0b", checked := Try.checked }
namespace Rows
def none {H : Type} : Left H := { results := [], args := [] }

/-- 'pacelinelaw09.SoloRises': WHATEVER THE INPUT: true; the input reads as it did. -/
def soloRisesSpec : ChangeSpec := { name := "soloRises", fn := fun _ => fun
  | [d1, d2] => { results := [.lit (.bool true)], args := [d1, d2] }
  | _ => none }
def soloRisesRow : OpenClaim := { program := "ytpibcfhfhejloaa", sum := "24f94b074b581b13cd587db27058995759f9d90c5d283cb66d61746d42ecfb0b", func := "paceline/pacelinelaw09.SoloRises", spec := "soloRises", unfollowed := true, recurses := true, plainKeys := false, apart := false }
def SoloRisesSaid : Prop := soloRisesRow.holds Try.pinned (OpenSpec.ofChange soloRisesSpec)

/-- ITS FALSE NEIGHBOUR: 'it returns false'. Refute it at one input. -/
def soloRisesWrong : ChangeSpec := { name := "soloRises", fn := fun _ => fun
  | [d1, d2] => { results := [.lit (.bool false)], args := [d1, d2] }
  | _ => none }
def SoloRisesWrongFalsely : Prop := soloRisesRow.holds Try.pinned (OpenSpec.ofChange soloRisesWrong)

/-- 'pacelinelaw09.SoloEnds': WHATEVER THE INPUT: true; the input reads as it did. -/
def soloEndsSpec : ChangeSpec := { name := "soloEnds", fn := fun _ => fun
  | [d1, d2] => { results := [.lit (.bool true)], args := [d1, d2] }
  | _ => none }
def soloEndsRow : OpenClaim := { program := "ytpibcfhfhejloaa", sum := "24f94b074b581b13cd587db27058995759f9d90c5d283cb66d61746d42ecfb0b", func := "paceline/pacelinelaw09.SoloEnds", spec := "soloEnds", unfollowed := true, recurses := true, plainKeys := false, apart := false }
def SoloEndsSaid : Prop := soloEndsRow.holds Try.pinned (OpenSpec.ofChange soloEndsSpec)

/-- ITS FALSE NEIGHBOUR: 'it returns false'. Refute it at one input. -/
def soloEndsWrong : ChangeSpec := { name := "soloEnds", fn := fun _ => fun
  | [d1, d2] => { results := [.lit (.bool false)], args := [d1, d2] }
  | _ => none }
def SoloEndsWrongFalsely : Prop := soloEndsRow.holds Try.pinned (OpenSpec.ofChange soloEndsWrong)

/- THE SECOND FORM. 'bulk': how many values and letters a reading holds, each counted each time it is reached (what is shared counts as often as it is met; a slice's spare places count too). A statement '..UptoSaid' is the law's where the arguments, and the package variables that the reading takes, are together of bulk at most 1048576: NARROWER than '..Said'. Prove '..Said' where nothing that the law and all that it calls make is longer than what came in: it says more and counts as full. Else prove '..UptoSaid'. A law counts once. -/
mutual
def uptoBulk {H : Type} : DataW H → Nat
  | .lit (.string bytes) => bytes.length + 1
  | .lit _ => 1
  | .nil => 1
  | .ptr d => uptoBulk d + 1
  | .slice elems spare => uptoBulkAll elems + uptoBulkAll spare + 1
  | .agg parts => uptoBulkAll parts + 1
  | .iface _ d => uptoBulk d + 1
  | .map entries => uptoBulkEntries entries + 1
  | .held _ => 1
def uptoBulkAll {H : Type} : List (DataW H) → Nat
  | [] => 0
  | d :: r => uptoBulk d + uptoBulkAll r
def uptoBulkEntries {H : Type} : List (Lit × DataW H) → Nat
  | [] => 0
  | x :: r => uptoBulkEntry x + uptoBulkEntries r
def uptoBulkEntry {H : Type} : Lit × DataW H → Nat
  | (.string bytes, d) => bytes.length + uptoBulk d + 1
  | (_, d) => uptoBulk d + 1
 end
def uptoSmall : (H : Type) → List (DataW H) → Bool := fun _ ds => decide (uptoBulkAll ds ≤ 1048576)
def OpenSpec.upto (s : _root_.Go.ChangeSpec) : _root_.Go.OpenSpec := { _root_.Go.OpenSpec.ofChange s with cond := some uptoSmall }

/-- 'pacelinelaw09.SoloRises', WHERE WHAT IT READS IS OF BULK AT MOST 1048576: true; the input reads as it did. -/
def soloRisesUptoRow : OpenClaim := { program := "ytpibcfhfhejloaa", sum := "24f94b074b581b13cd587db27058995759f9d90c5d283cb66d61746d42ecfb0b", func := "paceline/pacelinelaw09.SoloRises", spec := "soloRises", unfollowed := true, recurses := true, plainKeys := false, apart := false, narrowed := true }
def SoloRisesUptoSaid : Prop := soloRisesUptoRow.holds Try.pinned (OpenSpec.upto soloRisesSpec)

/-- 'pacelinelaw09.SoloEnds', WHERE WHAT IT READS IS OF BULK AT MOST 1048576: true; the input reads as it did. -/
def soloEndsUptoRow : OpenClaim := { program := "ytpibcfhfhejloaa", sum := "24f94b074b581b13cd587db27058995759f9d90c5d283cb66d61746d42ecfb0b", func := "paceline/pacelinelaw09.SoloEnds", spec := "soloEnds", unfollowed := true, recurses := true, plainKeys := false, apart := false, narrowed := true }
def SoloEndsUptoSaid : Prop := soloEndsUptoRow.holds Try.pinned (OpenSpec.upto soloEndsSpec)

end Rows
end Go.Proofs.Ytpibcfhfhejloaa
