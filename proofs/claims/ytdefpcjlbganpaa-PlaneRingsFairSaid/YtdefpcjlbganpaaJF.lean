import Derived.Test.YtdefpcjlbganpaaRdL
import Derived.WalkKit
import Derived.ProofKit
import Derived.OpenShut
import Derived.Lib.SmallJoins
namespace Go.Proofs.Ytdefpcjlbganpaa
open Go Go.ChangeShapes Go.WideShapes Go.RowKit Go.Joins Go.Deep
theorem and_mk {a b : Bool} (h : a = true) (k : b = true) : (a && b) = true := by rw [h, k]; rfl
theorem jf_laid : laidOutB Try.pinned.checked.prog = true := by kernel_rfl
theorem jf_stops : Try.pinned.checked.prog.stopsHeard = true := by kernel_rfl
theorem jf_enter : Try.pinned.checked.prog.mayEnter = true := by kernel_rfl
theorem jf_lift0 : (Rows.planeCutsDivideRow.lifted == Try.pinned.checked.prog.liftsFinal) = true := by kernel_rfl
theorem jf_make0 : (Try.pinned.checked.prog.make == some Rows.planeCutsDivideRow.make) = true := by kernel_rfl
theorem jf_lift (x : Bool) (h : x = Rows.planeCutsDivideRow.lifted) : (x == Try.pinned.checked.prog.liftsFinal) = true := by rw [h]; exact jf_lift0
end Go.Proofs.Ytdefpcjlbganpaa
