import Derived.Test.YtmfhpddeclggfaaGreatDoorVXe
import Derived.Test.YtmfhpddeclggfaaGreatDoorVNoLaw
import Derived.Test.YtmfhpddeclggfaaGreatDoorVTd0
import Derived.Test.YtmfhpddeclggfaaGreatDoorVTb
import Derived.Test.YtmfhpddeclggfaaGreatDoorVIia
import Derived.Test.YtmfhpddeclggfaaGreatDoorTf
import Derived.Test.YtmfhpddeclggfaaGreatDoorVTc
import Derived.Test.YtmfhpddeclggfaaGreatDoorVTa
import Derived.Test.YtmfhpddeclggfaaGreatDoorVIfb
import Derived.Test.YtmfhpddeclggfaaGreatDoorVc
import Derived.Test.YtmfhpddeclggfaaGreatDoorKf
import Derived.Test.YtmfhpddeclggfaaGreatDoorOm
import Derived.Lib.ConvBytes
import Derived.Laws.IdiomStrings
import Derived.WalkKit
import Derived.LoopTactic
import Derived.WalkSpells
import Derived.WalkLawsBesides
import Derived.Lib.Hide
import Derived.BigQuiet
import Derived.IntWalk
import Derived.Deep.DeepMust
import Derived.WalkSmall
import Derived.StillTailTactics
import Derived.Deep.RegionLaw
import Derived.Deep.QuietTactic
import Derived.Deep.Cut
import Derived.Deep.DeepCutAuto
import Derived.Deep.LoopGhost
import Derived.Deep.RegionHeld3
import Derived.Laws.OwnMore
import Derived.Laws.RangeAny
import Derived.Laws.RangeString
import Derived.Lib.OthersKept
import Derived.Test.YtmfhpddeclggfaaGreatDoorVUd
namespace Go.Proofs.YtmfhpddeclggfaaGreatDoor
open Go Go.RowKit Go.BigFrame
theorem RdB.iter {B b : Nat} {W : World} {l : List Bool} (h : RdB B W b l) {k : Nat} (hk : k ≠ b) (c : ByteArray) (p : Nat) : RdB B (W.iterAt k c p) b l := by
  have e : (W.iterAt k c p).heap[b]? = W.heap[b]? := by
    unfold World.iterAt
    show (W.heap.setIfInBounds k _)[b]? = _
    rw [Array.getElem?_setIfInBounds_ne hk]
  refine ⟨h.ge, by unfold World.iterAt; simpa using h.lt, fun j hj => ?_, fun j hj => ?_⟩
  · rw [← h.at' j hj]
    simp only [World.cell?, e]
  · rw [← h.fz j hj]
    simp only [World.frozen?, e]
theorem iter_set {W : World} {b k : Nat} (hk : k ≠ b) (j : Nat) (v : Value) : (W.setCell ⟨b, j, none⟩ v).heap[k]? = W.heap[k]? := heap_setCell_other W ⟨b, j, none⟩ k v hk
/-- Flags, as far as they are known of a string. -/
def LP (l l' : List Bool) (c : List UInt8) : Prop := ∀ p, l'.getD p false = true → l.getD p false = true ∨ c.getD p 0 ≠ 63
theorem LP.set {l l' : List Bool} {c : List UInt8} (h : LP l l' c) {pos : Nat} {b : Bool} (hp : pos < l'.length) (hb : b = true → l'.getD pos false = true ∨ c.getD pos 0 ≠ 63) : LP l (l'.set pos b) c := fun p hl => by
  by_cases e : pos = p
  · subst e
    rw [List.getD, List.getElem?_set_self hp] at hl
    rcases hb hl with h1 | h1
    · exact h pos h1
    · exact .inr h1
  · rw [List.getD, List.getElem?_set_ne e] at hl
    exact h p hl
end Go.Proofs.YtmfhpddeclggfaaGreatDoor
