import Derived.Test.YtmfhpddeclggfaaGreatDoorKr
namespace Go.Proofs.YtmfhpddeclggfaaGreatDoor
open Go
theorem card_main : Tryz.pinned.checked.prog.mainIs = some (true, "579cf3a5525c14e527e2965c6884570c30245bf59aac7b721ab1a1de346900bd".toList) := by kernel_rfl
end Go.Proofs.YtmfhpddeclggfaaGreatDoor
