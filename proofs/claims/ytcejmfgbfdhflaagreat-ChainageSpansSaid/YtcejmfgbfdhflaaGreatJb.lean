import Derived.Test.YtcejmfgbfdhflaaGreatRows
import Derived.Carry
import Derived.SizedLaws
import Derived.WalkKit
import Derived.ProofKit
import Derived.OpenShut
import Derived.Lib.SmallJoins
import Derived.Deep.Slices
import Derived.Deep.Strs
namespace Go.Proofs.YtcejmfgbfdhflaaGreat
open Go Go.ChangeShapes Go.WideShapes Go.RowKit Go.Joins Go.Deep
theorem jm_head : (behindMainWord (wordsSigns Tryz.pinned.checked.prog.initOrder.toList)).head? = some "cut".toList := by kernel_rfl
theorem jm_lays : Tryz.pinned.checked.prog.laysLater = false := by kernel_rfl
theorem jm_refl : Tryz.pinned.checked.prog.bearsReflect = false := by kernel_rfl
theorem jm_door : Tryz.pinned.checked.prog.doorFits [] = true := by kernel_rfl
theorem mayEnter_of (P : Program) (h : (behindMainWord (wordsSigns P.initOrder.toList)).head? = some "cut".toList) (h1 : P.laysLater = false) (h2 : P.bearsReflect = false) (h3 : P.doorFits [] = true) : P.mayEnter = true := by
  unfold Program.mayEnter
  cases hh : behindMainWord (wordsSigns P.initOrder.toList) with
  | nil => rw [hh] at h; cases h
  | cons c rest =>
    rw [hh] at h
    obtain rfl : c = "cut".toList := Option.some.inj h
    have e : stripLifts liftWords ("cut".toList :: rest) = ([], "cut".toList :: rest) := by rfl
    simp only [e, h1, h2, h3]
    rfl
theorem jf_enter : Tryz.pinned.checked.prog.mayEnter = true := mayEnter_of _ jm_head jm_lays jm_refl jm_door
end Go.Proofs.YtcejmfgbfdhflaaGreat
