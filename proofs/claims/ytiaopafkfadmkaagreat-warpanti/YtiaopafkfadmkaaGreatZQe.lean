/- Joined: the texts that follow, each with its own sentence. -/
import Derived.Test.YtiaopafkfadmkaaGreatZQc
/- Proved: how one message is put behind others; the contract of a Queue's Below. -/
namespace Go.Proofs.YtiaopafkfadmkaaGreat.Q
open Go.RowKit Go.Sort
set_option linter.unusedVariables false
set_option maxRecDepth 100000

end Go.Proofs.YtiaopafkfadmkaaGreat.Q
/- Proved: the contract of the document's own comparison of keys, with what it leaves in memory. -/
namespace Go.Proofs.YtiaopafkfadmkaaGreat.Q
open Go.RowKit Go.Sort
set_option linter.unusedVariables false
set_option maxRecDepth 100000

end Go.Proofs.YtiaopafkfadmkaaGreat.Q
/- Proved: contracts of the document's Insert and Without. -/
namespace Go.Proofs.YtiaopafkfadmkaaGreat.Q
open Go.RowKit Go.Sort
set_option linter.unusedVariables false
set_option maxRecDepth 100000

def anyLt (l : List M) (m : M) : Bool := l.any (fun x => klt m.1 x.1)
theorem ins_end {l : List M} {m : M} (h : anyLt l m = false) : ins l m = l ++ [m] := by
  induction l with
  | nil => rfl
  | cons y r ih =>
    simp only [anyLt, List.any_cons, Bool.or_eq_false_iff] at h
    simp only [ins]
    rw [if_neg (by rw [h.1]; simp), ih h.2]; rfl
theorem below_drewN {B : Nat} {w0 W : World} (hb : Below B w0 W) (n : Nat) : Below B w0 (W.drewN n) := ⟨hb.os, hb.tape, hb.output, hb.size, hb.block⟩

end Go.Proofs.YtiaopafkfadmkaaGreat.Q
