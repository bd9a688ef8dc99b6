import Derived.Test.YtcejmfgbfdhflaaGreatJa
import Derived.Test.YtcejmfgbfdhflaaGreatJb
import Derived.Test.YtcejmfgbfdhflaaGreatJc
import Derived.Test.YtcejmfgbfdhflaaGreatJd
import Derived.Test.YtcejmfgbfdhflaaGreatRows
import Derived.Test.YtcejmfgbfdhflaaGreatDs
import Derived.Carry
import Derived.SizedLaws
import Derived.WalkKit
import Derived.ProofKit
import Derived.OpenShut
import Derived.Lib.SmallJoins
import Derived.Deep.Slices
import Derived.Deep.Strs
namespace Go.Proofs.YtcejmfgbfdhflaaGreat
open Go Go.ChangeShapes Go.WideShapes Go.RowKit Go.Joins Go.Deep
theorem few_iff {x : WA} : fewB x = true ↔ x.cs.length ≤ 40 ∧ x.ps.length + x.rs.length ≤ 80 := by simp [fewB]
theorem jf_lift (x : Bool) (h : x = Rows.chainageChecksRow.lifted) : (x == Tryz.pinned.checked.prog.liftsFinal) = true := by rw [h]; exact jf_lift0
end Go.Proofs.YtcejmfgbfdhflaaGreat
