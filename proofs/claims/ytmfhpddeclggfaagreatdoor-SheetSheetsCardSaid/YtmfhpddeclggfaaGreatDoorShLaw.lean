import Derived.Test.YtmfhpddeclggfaaGreatDoorKf
import Derived.Test.YtmfhpddeclggfaaGreatDoorSheetsOf
namespace Go.Proofs.YtmfhpddeclggfaaGreatDoor
open Go Go.RowKit
theorem sheetSheets_law (p : Option Addr) (cap : Nat) (ls : List GL) (w : World) (he : Env w) (hl : ls.length ≤ maxLen) (hs : ∀ j, j < ls.length → (ls.getD j default).small) (hp : ListsAt w p ls) :
    Calls Tryz.prog 5 #[.slice p ls.length cap] w fun e w' => e = .returned (.bool true) ∧ Below w.heap.size w w' := sheetSheets_of p cap ls w he hl hs hp (Lib.hid sanity_any)
end Go.Proofs.YtmfhpddeclggfaaGreatDoor
