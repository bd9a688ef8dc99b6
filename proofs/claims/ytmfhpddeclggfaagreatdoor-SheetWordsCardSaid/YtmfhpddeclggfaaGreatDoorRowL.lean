import Derived.Test.YtmfhpddeclggfaaGreatDoorRowK
namespace Go.Proofs.YtmfhpddeclggfaaGreatDoor
open Go
theorem card_looks : true = Tryz.pinned.checked.prog.looks [] := by kernel_rfl
end Go.Proofs.YtmfhpddeclggfaaGreatDoor
