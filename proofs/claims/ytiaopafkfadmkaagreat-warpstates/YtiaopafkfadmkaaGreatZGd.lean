/- Joined: the texts that follow, each with its own sentence. -/
import Derived.Test.YtiaopafkfadmkaaGreatZGc
/- Proved: the contract of symMerge where more than one stands on either side. -/
namespace Go.Proofs.YtiaopafkfadmkaaGreat.B.Stb
end Go.Proofs.YtiaopafkfadmkaaGreat.B.Stb
namespace Go.Proofs.YtiaopafkfadmkaaGreat.G
open Go.Proofs.YtiaopafkfadmkaaGreat.B
open Go.RowKit Go.Shelf Go.Lib Go.Sort
set_option linter.unusedVariables false
end Go.Proofs.YtiaopafkfadmkaaGreat.G
