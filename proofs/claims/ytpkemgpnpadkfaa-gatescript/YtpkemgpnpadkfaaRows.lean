/-
  No cell of these rows narrows 'for every input' (looked for: loops, veiled, ifaces, maps, wideKeys, modest, calm, conditions, laid).
  DERIVED. THE GIVEN ROWS OF THIS SEAT. 6 by the template 'for every input the law returns true; each argument reads behind the call as it read before'; 0 by the template 'total and deterministic' (their statements: YtpkemgpnpadkfaaTotals.lean).
  GIVEN WITH THE SEED: the statements are not yours to turn. If you find one false, say at which input.
  Laid BY PROGRAM, IN A SANDBOX (cutbox-rows.mjs): the forced cells as the released guide's own fill.sh prints them over the translation 58a3992a0be079c3… (all of the seat's roots in one cut). By AI agents, Wed Nov 11 2026. No macro, syntax, notation, axiom, sorry.
-/
import Derived.Test.YtpkemgpnpadkfaaChecked
import GoSem.Claim
import GoSem.ClaimJoined
import GoSem.ClaimMapViews
import Derived.JoinedTies
import Derived.KernelRfl
namespace Go.Proofs.Ytpkemgpnpadkfaa
/- THE CELL 'sum', in the pinned program and in every row, IS THE sha256 OF THE DUMP (.gsa) THAT YtpkemgpnpadkfaaProg.lean LOADS. Nothing in Lean hashes anything: it is a label: what it is worth is what the hold of that sum in a sandbox is worth. -/
noncomputable def Try.pinned : Pinned := { name := "ytpkemgpnpadkfaa", sum := "58a3992a0be079c35a5eee29635374ad9288071e45469c25888f103a07b9810d", checked := Try.checked }
namespace Rows
def none {H : Type} : Left H := { results := [], args := [] }

/-- 'pacelinelaw14.GateScript': WHATEVER THE INPUT: true; the input reads as it did. -/
def gateScriptSpec : ChangeSpec := { name := "gateScript", fn := fun _ => fun
  | [d] => { results := [.lit (.bool true)], args := [d] }
  | _ => none }
def gateScriptRow : OpenClaim := { program := "ytpkemgpnpadkfaa", sum := "58a3992a0be079c35a5eee29635374ad9288071e45469c25888f103a07b9810d", func := "paceline/pacelinelaw14.GateScript", spec := "gateScript", unfollowed := true, recurses := true, apart := false }
def GateScriptSaid : Prop := gateScriptRow.holds Try.pinned (OpenSpec.ofChange gateScriptSpec)

/-- ITS FALSE NEIGHBOUR: 'it returns false'. Refute it at one input. -/
def gateScriptWrong : ChangeSpec := { name := "gateScript", fn := fun _ => fun
  | [d] => { results := [.lit (.bool false)], args := [d] }
  | _ => none }
def GateScriptWrongFalsely : Prop := gateScriptRow.holds Try.pinned (OpenSpec.ofChange gateScriptWrong)

/-- 'pacelinelaw14.GateOnce': WHATEVER THE INPUT: true; the input reads as it did. -/
def gateOnceSpec : ChangeSpec := { name := "gateOnce", fn := fun _ => fun
  | [d] => { results := [.lit (.bool true)], args := [d] }
  | _ => none }
def gateOnceRow : OpenClaim := { program := "ytpkemgpnpadkfaa", sum := "58a3992a0be079c35a5eee29635374ad9288071e45469c25888f103a07b9810d", func := "paceline/pacelinelaw14.GateOnce", spec := "gateOnce", unfollowed := true, recurses := true, apart := false }
def GateOnceSaid : Prop := gateOnceRow.holds Try.pinned (OpenSpec.ofChange gateOnceSpec)

/-- ITS FALSE NEIGHBOUR: 'it returns false'. Refute it at one input. -/
def gateOnceWrong : ChangeSpec := { name := "gateOnce", fn := fun _ => fun
  | [d] => { results := [.lit (.bool false)], args := [d] }
  | _ => none }
def GateOnceWrongFalsely : Prop := gateOnceRow.holds Try.pinned (OpenSpec.ofChange gateOnceWrong)

/-- 'pacelinelaw14.GateOpens': WHATEVER THE INPUT: true; the input reads as it did. -/
def gateOpensSpec : ChangeSpec := { name := "gateOpens", fn := fun _ => fun
  | [d1, d2] => { results := [.lit (.bool true)], args := [d1, d2] }
  | _ => none }
def gateOpensRow : OpenClaim := { program := "ytpkemgpnpadkfaa", sum := "58a3992a0be079c35a5eee29635374ad9288071e45469c25888f103a07b9810d", func := "paceline/pacelinelaw14.GateOpens", spec := "gateOpens", unfollowed := true, recurses := true, apart := false }
def GateOpensSaid : Prop := gateOpensRow.holds Try.pinned (OpenSpec.ofChange gateOpensSpec)

/-- ITS FALSE NEIGHBOUR: 'it returns false'. Refute it at one input. -/
def gateOpensWrong : ChangeSpec := { name := "gateOpens", fn := fun _ => fun
  | [d1, d2] => { results := [.lit (.bool false)], args := [d1, d2] }
  | _ => none }
def GateOpensWrongFalsely : Prop := gateOpensRow.holds Try.pinned (OpenSpec.ofChange gateOpensWrong)

/-- 'pacelinelaw14.GateParts': WHATEVER THE INPUT: true; the input reads as it did. -/
def gatePartsSpec : ChangeSpec := { name := "gateParts", fn := fun _ => fun
  | [d1, d2, d3] => { results := [.lit (.bool true)], args := [d1, d2, d3] }
  | _ => none }
def gatePartsRow : OpenClaim := { program := "ytpkemgpnpadkfaa", sum := "58a3992a0be079c35a5eee29635374ad9288071e45469c25888f103a07b9810d", func := "paceline/pacelinelaw14.GateParts", spec := "gateParts", unfollowed := true, recurses := true, apart := false }
def GatePartsSaid : Prop := gatePartsRow.holds Try.pinned (OpenSpec.ofChange gatePartsSpec)

/-- ITS FALSE NEIGHBOUR: 'it returns false'. Refute it at one input. -/
def gatePartsWrong : ChangeSpec := { name := "gateParts", fn := fun _ => fun
  | [d1, d2, d3] => { results := [.lit (.bool false)], args := [d1, d2, d3] }
  | _ => none }
def GatePartsWrongFalsely : Prop := gatePartsRow.holds Try.pinned (OpenSpec.ofChange gatePartsWrong)

/-- 'pacelinelaw14.GateRetracts': WHATEVER THE INPUT: true; the input reads as it did. -/
def gateRetractsSpec : ChangeSpec := { name := "gateRetracts", fn := fun _ => fun
  | [d1, d2] => { results := [.lit (.bool true)], args := [d1, d2] }
  | _ => none }
def gateRetractsRow : OpenClaim := { program := "ytpkemgpnpadkfaa", sum := "58a3992a0be079c35a5eee29635374ad9288071e45469c25888f103a07b9810d", func := "paceline/pacelinelaw14.GateRetracts", spec := "gateRetracts", unfollowed := true, recurses := true, apart := false }
def GateRetractsSaid : Prop := gateRetractsRow.holds Try.pinned (OpenSpec.ofChange gateRetractsSpec)

/-- ITS FALSE NEIGHBOUR: 'it returns false'. Refute it at one input. -/
def gateRetractsWrong : ChangeSpec := { name := "gateRetracts", fn := fun _ => fun
  | [d1, d2] => { results := [.lit (.bool false)], args := [d1, d2] }
  | _ => none }
def GateRetractsWrongFalsely : Prop := gateRetractsRow.holds Try.pinned (OpenSpec.ofChange gateRetractsWrong)

/-- 'pacelinelaw14.GateDrops': WHATEVER THE INPUT: true; the input reads as it did. -/
def gateDropsSpec : ChangeSpec := { name := "gateDrops", fn := fun _ => fun
  | [d1, d2] => { results := [.lit (.bool true)], args := [d1, d2] }
  | _ => none }
def gateDropsRow : OpenClaim := { program := "ytpkemgpnpadkfaa", sum := "58a3992a0be079c35a5eee29635374ad9288071e45469c25888f103a07b9810d", func := "paceline/pacelinelaw14.GateDrops", spec := "gateDrops", unfollowed := true, recurses := true, apart := false }
def GateDropsSaid : Prop := gateDropsRow.holds Try.pinned (OpenSpec.ofChange gateDropsSpec)

/-- ITS FALSE NEIGHBOUR: 'it returns false'. Refute it at one input. -/
def gateDropsWrong : ChangeSpec := { name := "gateDrops", fn := fun _ => fun
  | [d1, d2] => { results := [.lit (.bool false)], args := [d1, d2] }
  | _ => none }
def GateDropsWrongFalsely : Prop := gateDropsRow.holds Try.pinned (OpenSpec.ofChange gateDropsWrong)

/- THE SECOND FORM. 'bulk': how many values and letters a reading holds, each counted each time it is reached (what is shared counts as often as it is met; a slice's spare places count too). A statement '..UptoSaid' is the law's where the arguments, and the package variables that the reading takes, are together of bulk at most 1048576: NARROWER than '..Said'. Prove '..Said' where nothing that the law and all that it calls make is longer than what came in: it says more and counts as full. Else prove '..UptoSaid'. A law counts once. -/
mutual
def uptoBulk {H : Type} : DataW H → Nat
  | .lit (.string bytes) => bytes.length + 1
  | .lit _ => 1
  | .nil => 1
  | .ptr d => uptoBulk d + 1
  | .slice elems spare => uptoBulkAll elems + uptoBulkAll spare + 1
  | .agg parts => uptoBulkAll parts + 1
  | .iface _ d => uptoBulk d + 1
  | .map entries => uptoBulkEntries entries + 1
  | .held _ => 1
def uptoBulkAll {H : Type} : List (DataW H) → Nat
  | [] => 0
  | d :: r => uptoBulk d + uptoBulkAll r
def uptoBulkEntries {H : Type} : List (Lit × DataW H) → Nat
  | [] => 0
  | x :: r => uptoBulkEntry x + uptoBulkEntries r
def uptoBulkEntry {H : Type} : Lit × DataW H → Nat
  | (.string bytes, d) => bytes.length + uptoBulk d + 1
  | (_, d) => uptoBulk d + 1
 end
def uptoSmall : (H : Type) → List (DataW H) → Bool := fun _ ds => decide (uptoBulkAll ds ≤ 1048576)
def OpenSpec.upto (s : _root_.Go.ChangeSpec) : _root_.Go.OpenSpec := { _root_.Go.OpenSpec.ofChange s with cond := some uptoSmall }

/-- 'pacelinelaw14.GateScript', WHERE WHAT IT READS IS OF BULK AT MOST 1048576: true; the input reads as it did. -/
def gateScriptUptoRow : OpenClaim := { program := "ytpkemgpnpadkfaa", sum := "58a3992a0be079c35a5eee29635374ad9288071e45469c25888f103a07b9810d", func := "paceline/pacelinelaw14.GateScript", spec := "gateScript", unfollowed := true, recurses := true, apart := false, narrowed := true }
def GateScriptUptoSaid : Prop := gateScriptUptoRow.holds Try.pinned (OpenSpec.upto gateScriptSpec)

/-- 'pacelinelaw14.GateOnce', WHERE WHAT IT READS IS OF BULK AT MOST 1048576: true; the input reads as it did. -/
def gateOnceUptoRow : OpenClaim := { program := "ytpkemgpnpadkfaa", sum := "58a3992a0be079c35a5eee29635374ad9288071e45469c25888f103a07b9810d", func := "paceline/pacelinelaw14.GateOnce", spec := "gateOnce", unfollowed := true, recurses := true, apart := false, narrowed := true }
def GateOnceUptoSaid : Prop := gateOnceUptoRow.holds Try.pinned (OpenSpec.upto gateOnceSpec)

/-- 'pacelinelaw14.GateOpens', WHERE WHAT IT READS IS OF BULK AT MOST 1048576: true; the input reads as it did. -/
def gateOpensUptoRow : OpenClaim := { program := "ytpkemgpnpadkfaa", sum := "58a3992a0be079c35a5eee29635374ad9288071e45469c25888f103a07b9810d", func := "paceline/pacelinelaw14.GateOpens", spec := "gateOpens", unfollowed := true, recurses := true, apart := false, narrowed := true }
def GateOpensUptoSaid : Prop := gateOpensUptoRow.holds Try.pinned (OpenSpec.upto gateOpensSpec)

/-- 'pacelinelaw14.GateParts', WHERE WHAT IT READS IS OF BULK AT MOST 1048576: true; the input reads as it did. -/
def gatePartsUptoRow : OpenClaim := { program := "ytpkemgpnpadkfaa", sum := "58a3992a0be079c35a5eee29635374ad9288071e45469c25888f103a07b9810d", func := "paceline/pacelinelaw14.GateParts", spec := "gateParts", unfollowed := true, recurses := true, apart := false, narrowed := true }
def GatePartsUptoSaid : Prop := gatePartsUptoRow.holds Try.pinned (OpenSpec.upto gatePartsSpec)

/-- 'pacelinelaw14.GateRetracts', WHERE WHAT IT READS IS OF BULK AT MOST 1048576: true; the input reads as it did. -/
def gateRetractsUptoRow : OpenClaim := { program := "ytpkemgpnpadkfaa", sum := "58a3992a0be079c35a5eee29635374ad9288071e45469c25888f103a07b9810d", func := "paceline/pacelinelaw14.GateRetracts", spec := "gateRetracts", unfollowed := true, recurses := true, apart := false, narrowed := true }
def GateRetractsUptoSaid : Prop := gateRetractsUptoRow.holds Try.pinned (OpenSpec.upto gateRetractsSpec)

/-- 'pacelinelaw14.GateDrops', WHERE WHAT IT READS IS OF BULK AT MOST 1048576: true; the input reads as it did. -/
def gateDropsUptoRow : OpenClaim := { program := "ytpkemgpnpadkfaa", sum := "58a3992a0be079c35a5eee29635374ad9288071e45469c25888f103a07b9810d", func := "paceline/pacelinelaw14.GateDrops", spec := "gateDrops", unfollowed := true, recurses := true, apart := false, narrowed := true }
def GateDropsUptoSaid : Prop := gateDropsUptoRow.holds Try.pinned (OpenSpec.upto gateDropsSpec)

end Rows
end Go.Proofs.Ytpkemgpnpadkfaa
