import Derived.RangeFuncNested
import Derived.RangeFuncBound
import Derived.RangeFuncCalls
import Derived.RangeFuncLeaves
import Derived.Test.YtmfhpddeclggfaaGreatDoorWHf
import Derived.RangeFuncBox
import Derived.Shelf.Abstract
import Derived.Shelf.RegionOpen
import Derived.OwnWalkIn
import Derived.TacticsInMore
import Derived.LoopNIn
import Derived.LoopIn
import Derived.Maps.AppendAt
import Derived.Maps.OwnIn
import Derived.RegionIn
import Derived.BigRegionIn
import Derived.Stop.RegionWithIn
import Derived.WalkKit
import Derived.LoopTactic
import Derived.WalkSpells
import Derived.WalkLawsBesides
import Derived.Lib.Hide
import Derived.BigQuiet
import Derived.IntWalk
import Derived.Deep.DeepMust
import Derived.WalkSmall
import Derived.StillTailTactics
import Derived.Deep.RegionLaw
import Derived.Deep.QuietTactic
import Derived.Deep.Cut
import Derived.Deep.DeepCutAuto
import Derived.Deep.LoopGhost
import Derived.Laws.AppendOwn
namespace Go.Proofs.YtmfhpddeclggfaaGreatDoor
open Go.RowKit
/-! The reference's restored lines: how they lie. -/
open Go.Shelf
theorem StrsAt.keep {W W' : World} {q : Option Addr} {zs : List ByteArray} (h : StrsAt W q zs) (hs : W.heap.size ≤ W'.heap.size) (hc : zs = [] ∨ ∀ ad, q = some ad → ∀ i, W'.cell? ⟨ad.block, i, none⟩ = W.cell? ⟨ad.block, i, none⟩) : StrsAt W' q zs := by
  rcases h with h | ⟨b, o, h1, h2, h3⟩
  · exact .inl h
  · rcases hc with hc | hc
    · exact .inl hc
    · exact .inr ⟨b, o, h1, Nat.lt_of_lt_of_le h2 hs, fun j hj => (hc _ h1 _).trans (h3 j hj)⟩
theorem IntsAt.keep2 {W W' : World} {q : Option Addr} {zs : List Int} (h : IntsAt W q zs) (hs : W.heap.size ≤ W'.heap.size) (hc : zs = [] ∨ ∀ ad, q = some ad → ∀ i, W'.cell? ⟨ad.block, i, none⟩ = W.cell? ⟨ad.block, i, none⟩) : IntsAt W' q zs := by
  rcases hc with hc | hc
  · exact .inl hc
  · exact h.keep hs hc
/-- A block that lies there and is none of two rows. -/
def Off (W : World) (vo vs : Value) (q : Option Addr) : Prop := ∀ ad, q = some ad → ad.block < W.heap.size ∧ some ad.block ≠ vo.ownBlock ∧ some ad.block ≠ vs.ownBlock
theorem Off.next {W W' : World} {vo vs : Value} {q : Option Addr} (h : Off W vo vs q) (hs : W.heap.size ≤ W'.heap.size) : Off W' vo vs q := fun ad e => ⟨Nat.lt_of_lt_of_le (h ad e).1 hs, (h ad e).2⟩
/-- Two rows of one's own: readings, with what lies behind them, and numbers. -/
structure RT (w W : World) (vo vs : Value) (fs : List (FL × List Int)) (seen : List Int) : Prop where
  bel : Below w.heap.size w W
  ro : W.ownsRow w.heap.size 87 4 vo fs.length (flatF fs)
  rs : W.ownsRow w.heap.size 3 1 vs seen.length (cellsI seen)
  ne : vo.ownBlock = none ∨ vo.ownBlock ≠ vs.ownBlock
  at' : ∀ k, k < fs.length → StrsAt W (fs.getD k default).1.g.p (fs.getD k default).1.g.ws ∧ ((fs.getD k default).1.g.ws = [] ∨ Off W vo vs (fs.getD k default).1.g.p) ∧ IntsAt W (fs.getD k default).1.cp (fs.getD k default).2 ∧ ((fs.getD k default).2 = [] ∨ Off W vo vs (fs.getD k default).1.cp) ∧ (fs.getD k default).1.cn = (fs.getD k default).2.length
theorem RT.mk0 (w : World) : RT w w (.slice none 0 0) (.slice none 0 0) [] [] :=
  ⟨Below.refl _ _, World.ownsRow_nil _ _ _ _, World.ownsRow_nil _ _ _ _, .inl rfl, fun _ h => absurd h (Nat.not_lt_zero _)⟩
theorem RT.next {w W W' : World} {vo vs : Value} {fs : List (FL × List Int)} {seen : List Int} (h : RT w W vo vs fs seen) (hb : Below W.heap.size W W') : RT w W' vo vs fs seen :=
  ⟨h.bel.trans (hb.mono h.bel.size), ownsRow_keep h.ro hb, ownsRow_keep h.rs hb, h.ne, fun k hk => by
    obtain ⟨g1, g2, g3, g4, g5⟩ := h.at' k hk
    exact ⟨g1.below hb, g2.imp id (fun h => h.next hb.size), g3.below hb, g4.imp id (fun h => h.next hb.size), g5⟩⟩
/-- One number more. -/
theorem RT.see {w W W' : World} {vo vs v' : Value} {fs : List (FL × List Int)} {seen : List Int} {z : Int} (h : RT w W vo vs fs seen)
    (hown : W'.ownsRow w.heap.size 3 1 v' (seen.length + 1) (cellsI seen ++ cellsI [z])) (hgr : W.grownBy W' vs.ownBlock) (hat : v'.ownBlock = vs.ownBlock ∨ v'.ownBlock = some W.heap.size) : RT w W' vo v' fs (seen ++ [z]) := by
  have hoff : ∀ q, Off W vo vs q → Off W' vo v' q ∧ ∀ ad, q = some ad → ∀ i, W'.cell? ⟨ad.block, i, none⟩ = W.cell? ⟨ad.block, i, none⟩ := fun q hq => by
    refine ⟨fun ad e => ?_, fun ad e i => World.cell?_of_block (a := ⟨ad.block, i, none⟩) (hgr.block _ (hq ad e).1 (hq ad e).2.2)⟩
    obtain ⟨g1, g2, g3⟩ := hq ad e
    refine ⟨Nat.lt_of_lt_of_le g1 hgr.size, g2, ?_⟩
    rcases hat with hat | hat <;> rw [hat]
    · exact g3
    · exact fun e => by have := Option.some.inj e; omega
  refine ⟨h.bel.grown hgr h.bel.size (fun k e => (h.rs.lt k e).1), h.ro.kept hgr h.ne, ?_, ?_, fun k hk => ?_⟩
  · rw [List.length_append, cellsI, List.map_append]; exact hown
  · cases hv : vo.ownBlock with
    | none => exact .inl rfl
    | some g =>
      refine .inr ?_
      have g1 := (h.ro.lt g hv).2
      rcases hat with hat | hat <;> rw [hat]
      · rcases h.ne with e | e
        · rw [hv] at e; cases e
        · rw [← hv]; exact e
      · exact fun e => by have := Option.some.inj e; omega
  · obtain ⟨g1, g2, g3, g4, g5⟩ := h.at' k hk
    exact ⟨g1.keep hgr.size (g2.imp id (fun h => (hoff _ h).2)), g2.imp id (fun h => (hoff _ h).1), g3.keep2 hgr.size (g4.imp id (fun h => (hoff _ h).2)), g4.imp id (fun h => (hoff _ h).1), g5⟩
/-- One reading more. -/
theorem RT.out {w W W' : World} {vo vs v' : Value} {fs : List (FL × List Int)} {seen : List Int} {f : FL} {zs : List Int} (h : RT w W vo vs fs seen)
    (hs : StrsAt W f.g.p f.g.ws) (hs2 : f.g.ws = [] ∨ Off W vo vs f.g.p) (hi : IntsAt W f.cp zs) (hi2 : zs = [] ∨ Off W vo vs f.cp) (hn : f.cn = zs.length)
    (hown : W'.ownsRow w.heap.size 87 4 v' (fs.length + 1) (flatF fs ++ flatF [(f, zs)])) (hgr : W.grownBy W' vo.ownBlock) (hat : v'.ownBlock = vo.ownBlock ∨ v'.ownBlock = some W.heap.size) : RT w W' v' vs (fs ++ [(f, zs)]) seen := by
  have hoff : ∀ q, Off W vo vs q → Off W' v' vs q ∧ ∀ ad, q = some ad → ∀ i, W'.cell? ⟨ad.block, i, none⟩ = W.cell? ⟨ad.block, i, none⟩ := fun q hq => by
    refine ⟨fun ad e => ?_, fun ad e i => World.cell?_of_block (a := ⟨ad.block, i, none⟩) (hgr.block _ (hq ad e).1 (hq ad e).2.1)⟩
    obtain ⟨g1, g2, g3⟩ := hq ad e
    refine ⟨Nat.lt_of_lt_of_le g1 hgr.size, ?_, g3⟩
    rcases hat with hat | hat <;> rw [hat]
    · exact g2
    · exact fun e => by have := Option.some.inj e; omega
  have hne : vs.ownBlock = none ∨ vs.ownBlock ≠ vo.ownBlock := by
    rcases h.ne with e | e
    · cases hv : vs.ownBlock with
      | none => exact .inl rfl
      | some g => exact .inr (by rw [e]; exact fun e => by cases e)
    · exact .inr e.symm
  refine ⟨h.bel.grown hgr h.bel.size (fun k e => (h.ro.lt k e).1), ?_, h.rs.kept hgr hne, ?_, fun k hk => ?_⟩
  · rw [List.length_append, flatF_snoc]; exact hown
  · cases hv : vs.ownBlock with
    | none => 
      cases hv2 : v'.ownBlock with
      | none => exact .inl rfl
      | some g => exact .inr (fun e => by cases e)
    | some g =>
      refine .inr ?_
      have g1 := (h.rs.lt g hv).2
      rcases hat with hat | hat <;> rw [hat]
      · rcases hne with e | e
        · rw [hv] at e; cases e
        · rw [← hv]; exact e.symm
      · exact fun e => by have := Option.some.inj e; omega
  · by_cases hlt : k < fs.length
    · rw [List.getD, List.getElem?_append_left hlt]
      obtain ⟨g1, g2, g3, g4, g5⟩ := h.at' k hlt
      exact ⟨g1.keep hgr.size (g2.imp id (fun h => (hoff _ h).2)), g2.imp id (fun h => (hoff _ h).1), g3.keep2 hgr.size (g4.imp id (fun h => (hoff _ h).2)), g4.imp id (fun h => (hoff _ h).1), g5⟩
    · rw [snoc_at _ _ (by rw [List.length_append] at hk; simp at hk; omega)]
      exact ⟨hs.keep hgr.size (hs2.imp id (fun h => (hoff _ h).2)), hs2.imp id (fun h => (hoff _ h).1), hi.keep2 hgr.size (hi2.imp id (fun h => (hoff _ h).2)), hi2.imp id (fun h => (hoff _ h).1), hn⟩
theorem RT.lt {w W : World} {vo vs : Value} {fs : List (FL × List Int)} {seen : List Int} (h : RT w W vo vs fs seen) : (∀ g, vo.ownBlock = some g → g < W.heap.size) ∧ ∀ g, vs.ownBlock = some g → g < W.heap.size := ⟨fun g e => (h.ro.lt g e).2, fun g e => (h.rs.lt g e).2⟩
/-- Words in a block that is newer than both rows. -/
theorem RT.offS {w W W' : World} {vo vs : Value} {fs : List (FL × List Int)} {seen : List Int} (h : RT w W vo vs fs seen) {p : Option Addr} {ws : List ByteArray} (hs : StrsAt W' p ws) (hp : PFrom W.heap.size p) : ws = [] ∨ Off W' vo vs p := by
  rcases hs with h1 | ⟨b, o, h1, h2, -⟩
  · exact .inl h1
  · refine .inr (fun ad e => ?_)
    rw [e] at h1; cases h1
    have h3 := hp _ e
    exact ⟨h2, fun e => by have := h.lt.1 _ e.symm; omega, fun e => by have := h.lt.2 _ e.symm; omega⟩
theorem RT.offI {w W W' : World} {vo vs : Value} {fs : List (FL × List Int)} {seen : List Int} (h : RT w W vo vs fs seen) {p : Option Addr} {ws : List Int} (hs : IntsAt W' p ws) (hp : PFrom W.heap.size p) : ws = [] ∨ Off W' vo vs p := by
  rcases hs with h1 | ⟨b, o, h1, h2, -⟩
  · exact .inl h1
  · refine .inr (fun ad e => ?_)
    rw [e] at h1; cases h1
    have h3 := hp _ e
    exact ⟨h2, fun e => by have := h.lt.1 _ e.symm; omega, fun e => by have := h.lt.2 _ e.symm; omega⟩
end Go.Proofs.YtmfhpddeclggfaaGreatDoor
