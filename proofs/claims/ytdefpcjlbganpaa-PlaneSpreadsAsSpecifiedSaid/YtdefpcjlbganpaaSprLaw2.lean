import Derived.Test.YtdefpcjlbganpaaSprLaw
import Derived.Test.YtdefpcjlbganpaaMBxs
namespace Go.Proofs.Ytdefpcjlbganpaa
open Go.RowKit
/-- The law of spreads answers true. -/
theorem sprLaw (a b c : Bx) (w : World) : Calls Try.prog 8 #[a.v, b.v, c.v] w fun e w' => e = .returned (.bool true) ∧ Below w.heap.size w w' := spreadsLaw boxes_is a b c w
end Go.Proofs.Ytdefpcjlbganpaa
