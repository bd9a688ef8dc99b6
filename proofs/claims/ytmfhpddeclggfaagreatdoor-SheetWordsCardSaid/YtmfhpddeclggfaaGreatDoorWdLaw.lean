import Derived.Test.YtmfhpddeclggfaaGreatDoorKf
import Derived.Test.YtmfhpddeclggfaaGreatDoorKg
namespace Go.Proofs.YtmfhpddeclggfaaGreatDoor
open Go Go.RowKit
theorem sheetWords_law (s : ByteArray) (n : Int) (w : World) (he : Env w) (_ : s.size ≤ maxLen) (hn : -9223372036854775808 ≤ n ∧ n ≤ 9223372036854775807) :
    Calls Tryz.prog 3 #[.string s, .int .i64 n] w fun e w' => e = .returned (.bool true) ∧ Below w.heap.size w w' := sheetWords_of s n w he hn sanity_any
end Go.Proofs.YtmfhpddeclggfaaGreatDoor
