import Derived.Test.YtmfhpddeclggfaaGreatDoorVXg
import Derived.Test.YtmfhpddeclggfaaGreatDoorVNoLaw
import Derived.Test.YtmfhpddeclggfaaGreatDoorVTd0
import Derived.Test.YtmfhpddeclggfaaGreatDoorVTb
import Derived.Test.YtmfhpddeclggfaaGreatDoorVIia
import Derived.Test.YtmfhpddeclggfaaGreatDoorTf
import Derived.Test.YtmfhpddeclggfaaGreatDoorVTc
import Derived.Test.YtmfhpddeclggfaaGreatDoorVTa
import Derived.Test.YtmfhpddeclggfaaGreatDoorVIfb
import Derived.Test.YtmfhpddeclggfaaGreatDoorVc
import Derived.Test.YtmfhpddeclggfaaGreatDoorKf
import Derived.Test.YtmfhpddeclggfaaGreatDoorOm
import Derived.Lib.ConvBytes
import Derived.Laws.IdiomStrings
import Derived.WalkKit
import Derived.LoopTactic
import Derived.WalkSpells
import Derived.WalkLawsBesides
import Derived.Lib.Hide
import Derived.BigQuiet
import Derived.IntWalk
import Derived.Deep.DeepMust
import Derived.WalkSmall
import Derived.StillTailTactics
import Derived.Deep.RegionLaw
import Derived.Deep.QuietTactic
import Derived.Deep.Cut
import Derived.Deep.DeepCutAuto
import Derived.Deep.LoopGhost
import Derived.Deep.RegionHeld3
import Derived.Laws.OwnMore
import Derived.Laws.RangeAny
import Derived.Laws.RangeString
import Derived.Lib.OthersKept
import Derived.Test.YtmfhpddeclggfaaGreatDoorVUd
namespace Go.Proofs.YtmfhpddeclggfaaGreatDoor
open Go Go.RowKit Go.BigFrame
def cnQ (s : ByteArray) (n : Int) (l : List ByteArray) (j : Nat) : Nat := ((l.take j).filter (qP s n)).length
theorem cnQ_succ {s : ByteArray} {n : Int} {l : List ByteArray} {j : Nat} (h : j < l.length) : cnQ s n l (j + 1) = cnQ s n l j + if qP s n (l.getD j ByteArray.empty) = true then 1 else 0 := by
  unfold cnQ
  have e : l.take (j + 1) = l.take j ++ [l.getD j ByteArray.empty] := by
    rw [List.take_add_one, List.getD, List.getElem?_eq_getElem h]; rfl
  rw [e, List.filter_append, List.length_append, List.filter_cons]
  split <;> rfl
theorem cnQ_le (s : ByteArray) (n : Int) (l : List ByteArray) (j : Nat) : cnQ s n l j ≤ l.length := Nat.le_trans (List.length_filter_le _ _) (by rw [List.length_take]; omega)
theorem cnQ_all (s : ByteArray) (n : Int) (l : List ByteArray) : cnQ s n l l.length = (l.filter (qP s n)).length := by unfold cnQ; rw [List.take_length]
theorem sumA_le {f : Nat → Nat} {b : Nat} (h : ∀ k, f k ≤ b) : ∀ k, sumN f k ≤ k * b
  | 0 => by simp [sumN]
  | k + 1 => by
    show sumN f k + f k ≤ _
    have := sumA_le h k
    have := h k
    rw [Nat.succ_mul]; omega
theorem whl_nil {ts : List ByteArray} {H : List (List (Option (List UInt8)))} {i : Nat} {s : ByteArray} (hs : ts.getD i ByteArray.empty = s)
    (hg : ∀ k, k < H.length → ∀ c, (H.getD k [])[i]? = some (some c) → c ≠ s.data.toList) : whl ts H i = [] := by
  refine Classical.byContradiction fun hw => ?_
  obtain ⟨h, hh, e⟩ := whl_ne.1 hw
  obtain ⟨k, hk, rfl⟩ := List.getElem_of_mem hh
  have e' : (H.getD k [])[i]? = some (some (ts.getD i ByteArray.empty).data.toList) := by rw [List.getD, List.getElem?_eq_getElem hk]; exact e
  exact hg k hk _ e' (by rw [hs])
end Go.Proofs.YtmfhpddeclggfaaGreatDoor
