import Derived.Test.YtmfhpddeclggfaaGreatDoorVXb
import Derived.Test.YtmfhpddeclggfaaGreatDoorVNoLaw
import Derived.Test.YtmfhpddeclggfaaGreatDoorVTd0
import Derived.Test.YtmfhpddeclggfaaGreatDoorVTb
import Derived.Test.YtmfhpddeclggfaaGreatDoorVIia
import Derived.Test.YtmfhpddeclggfaaGreatDoorTf
import Derived.Test.YtmfhpddeclggfaaGreatDoorVTc
import Derived.Test.YtmfhpddeclggfaaGreatDoorVTa
import Derived.Test.YtmfhpddeclggfaaGreatDoorVIfb
import Derived.Test.YtmfhpddeclggfaaGreatDoorVc
import Derived.Test.YtmfhpddeclggfaaGreatDoorKf
import Derived.Test.YtmfhpddeclggfaaGreatDoorOm
import Derived.Lib.ConvBytes
import Derived.Laws.IdiomStrings
import Derived.WalkKit
import Derived.LoopTactic
import Derived.WalkSpells
import Derived.WalkLawsBesides
import Derived.Lib.Hide
import Derived.BigQuiet
import Derived.IntWalk
import Derived.Deep.DeepMust
import Derived.WalkSmall
import Derived.StillTailTactics
import Derived.Deep.RegionLaw
import Derived.Deep.QuietTactic
import Derived.Deep.Cut
import Derived.Deep.DeepCutAuto
import Derived.Deep.LoopGhost
import Derived.Deep.RegionHeld3
import Derived.Laws.OwnMore
import Derived.Laws.RangeAny
import Derived.Laws.RangeString
import Derived.Lib.OthersKept
import Derived.Test.YtmfhpddeclggfaaGreatDoorVUd
namespace Go.Proofs.YtmfhpddeclggfaaGreatDoor
open Go Go.RowKit Go.BigFrame
/-! What is restored: the law's walk. -/
theorem info4B : (Tryz.prog.info? 4).map (fun i => (i.zero, i.size, i.bytes)) = some (some (.bool false), 1, 1) := by kernel_rfl
theorem und117 : Tryz.prog.underlying 117 = some (.slice 4) := by kernel_rfl
theorem make4 (u : World) (n : Nat) (h : n ≤ 1000000) : (Instr.makeSlice 117 (.int .i64 (n : Int)) (.int .i64 (n : Int))).run Tryz.prog u = .ok (.slice (some ⟨u.heap.size, 0, none⟩) n n) (u.alloc (.cells (madeCells #[.bool false] n) 4)) := by
  have hi := info4B
  cases h0 : Tryz.prog.info? 4 with
  | none => rw [h0] at hi; cases hi
  | some i =>
    rw [h0] at hi
    simp only [Option.map_some, Option.some.injEq, Prod.mk.injEq] at hi
    obtain ⟨h1, h2, h3⟩ := hi
    have := run_make (P := Tryz.prog) u 117 4 i _ und117 h0 h1 .i64 .i64 n n (by omega) (Int.le_refl _) (by rw [h3]; omega) (by omega)
    rw [h2, Nat.mul_one] at this
    simpa [Value.cells] using this
/-- Flags in a block of the call's own. -/
structure RdB (B : Nat) (W : World) (b : Nat) (l : List Bool) : Prop where
  ge : B ≤ b
  lt : b < W.heap.size
  at' : ∀ j, j < l.length → W.cell? ⟨b, j, none⟩ = some (.bool (l.getD j false))
  fz : ∀ j, j < l.length → W.frozen? ⟨b, j, none⟩ = false
theorem RdB.next {B b : Nat} {W W' : World} {l : List Bool} (h : RdB B W b l) (hb : Below W.heap.size W W') : RdB B W' b l :=
  ⟨h.ge, Nat.lt_of_lt_of_le h.lt hb.size, fun j hj => (hb.cell (p := ⟨b, j, none⟩) h.lt).trans (h.at' j hj), fun j hj => (hb.frozen (p := ⟨b, j, none⟩) h.lt).trans (h.fz j hj)⟩
theorem RdB.set {B b : Nat} {W : World} {l : List Bool} (h : RdB B W b l) {i : Nat} (hi : i < l.length) (c : Bool) : RdB B (W.setCell ⟨b, i, none⟩ (.bool c)) b (l.set i c) := by
  refine ⟨h.ge, by rw [World.size_setCell]; exact h.lt, fun j hj => ?_, fun j hj => by rw [World.frozen?_setCell]; exact h.fz j (by rwa [List.length_set] at hj)⟩
  rw [List.length_set] at hj
  by_cases e : i = j
  · subst e
    rw [World.cell?_setCell_same _ _ _ (h.at' i hi)]
    simp [List.getD, hi]
  · rw [World.cell?_setCell_other _ _ _ _ (addr_ne e), h.at' j hj]
    simp [List.getD, e]
theorem RdB.mk0 (W : World) (n : Nat) : RdB W.heap.size (W.alloc (.cells (madeCells #[.bool false] n) 4)) W.heap.size (List.replicate n false) :=
  ⟨Nat.le_refl _, by simp, fun j hj => by
    rw [List.length_replicate] at hj
    have h1 : j < (madeCells #[.bool false] n).size := by rw [size_madeCells]; exact hj
    have h2 := cells_new W (madeCells #[.bool false] n) 4 j _ (by rw [Array.getElem?_toList]; exact Array.getElem?_eq_getElem h1)
    rw [show (⟨W.heap.size, 0, none⟩ : Addr).add j = ⟨W.heap.size, j, none⟩ from by simp [Addr.add]; omega] at h2
    rw [h2]
    simp [madeCells, hj, List.getD, Nat.mod_one], fun j hj => frozen_new _ _ _ _⟩
end Go.Proofs.YtmfhpddeclggfaaGreatDoor
