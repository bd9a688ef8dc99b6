import Derived.Test.YtmfhpddeclggfaaGreatDoorWIfa
import Derived.Maps.Own
import Derived.Maps.OwnOps
import Derived.Maps.OwnSet
import Derived.Lib.SlKeysI
import Derived.RangeFuncNested
import Derived.RangeFuncBound
import Derived.RangeFuncCalls
import Derived.RangeFuncLeaves
import Derived.RangeFuncBox
import Derived.Shelf.Abstract
import Derived.Shelf.RegionOpen
import Derived.OwnWalkIn
import Derived.TacticsInMore
import Derived.LoopNIn
import Derived.LoopIn
import Derived.Maps.AppendAt
import Derived.Maps.OwnIn
import Derived.RegionIn
import Derived.BigRegionIn
import Derived.Stop.RegionWithIn
import Derived.WalkKit
import Derived.LoopTactic
import Derived.WalkSpells
import Derived.WalkLawsBesides
import Derived.Lib.Hide
import Derived.BigQuiet
import Derived.IntWalk
import Derived.Deep.DeepMust
import Derived.WalkSmall
import Derived.StillTailTactics
import Derived.Deep.RegionLaw
import Derived.Deep.QuietTactic
import Derived.Deep.Cut
import Derived.Deep.DeepCutAuto
import Derived.Deep.LoopGhost
import Derived.Laws.AppendOwn
import Derived.Deep.RegionHeld3
import Derived.Deep.AppendLies
import Derived.Test.YtmfhpddeclggfaaGreatDoorIfk
import Derived.Test.YtmfhpddeclggfaaGreatDoorWIfb
import Derived.Test.YtmfhpddeclggfaaGreatDoorWIg
import Derived.Test.YtmfhpddeclggfaaGreatDoorWIh
import Derived.Test.YtmfhpddeclggfaaGreatDoorWIia
import Derived.Test.YtmfhpddeclggfaaGreatDoorWIib
import Derived.Test.YtmfhpddeclggfaaGreatDoorKf
import Derived.Test.YtmfhpddeclggfaaGreatDoorWIic
import Derived.Test.YtmfhpddeclggfaaGreatDoorWc
import Derived.Test.YtmfhpddeclggfaaGreatDoorWMa
import Derived.Test.YtmfhpddeclggfaaGreatDoorWMb
import Derived.Test.YtmfhpddeclggfaaGreatDoorWCz
import Derived.Test.YtmfhpddeclggfaaGreatDoorWMc
import Derived.Test.YtmfhpddeclggfaaGreatDoorWHa
import Derived.Laws.OwnMore
import Derived.Test.YtmfhpddeclggfaaGreatDoorWCx
import Derived.Test.YtmfhpddeclggfaaGreatDoorWHh
import Derived.Test.YtmfhpddeclggfaaGreatDoorWHf
import Derived.Test.YtmfhpddeclggfaaGreatDoorWHe
import Derived.Test.YtmfhpddeclggfaaGreatDoorWHi
import Derived.Test.YtmfhpddeclggfaaGreatDoorWHd
import Derived.Test.YtmfhpddeclggfaaGreatDoorWNa
import Derived.Test.YtmfhpddeclggfaaGreatDoorWNb
import Derived.Test.YtmfhpddeclggfaaGreatDoorWNc
import Derived.Test.YtmfhpddeclggfaaGreatDoorWHj
namespace Go.Proofs.YtmfhpddeclggfaaGreatDoor
open Go.RowKit Go.Shelf
/-! What the reference found lies beside the book. -/
theorem parts_len (c : ByteArray) : (partsN c).length ≤ c.size + 1 := Nat.le_trans (List.length_filter_le _ _) (Lib.splitB_length_le ⟨#[10]⟩ 0 c.size c)
theorem ss_small {s : SS} {c : ByteArray} (h : SKey s c) (hc : c.size ≤ 99999) : s.ls.length ≤ 100000 ∧ (∀ g ∈ s.ls, g.ws.length ≤ 40) ∧ s.os.length ≤ 100000 ∧ ∀ i, (s.os.getD i ByteArray.empty).size ≤ 1000000 := by
  have hp := parts_len c
  refine ⟨?_, fun g hg => ?_, ?_, fun i => ?_⟩
  · have h1 := congrArg List.length h.ls
    rw [List.length_map, List.length_map] at h1
    have h2 : (lnsOf (partsN c)).length ≤ (partsN c).length := List.length_filter_le _ _
    omega
  · have h1 : glKey g ∈ (lnsOf (partsN c)).map rdKey := by rw [← h.ls]; exact List.mem_map.2 ⟨g, hg, rfl⟩
    obtain ⟨x, -, hx⟩ := List.mem_map.1 h1
    have h2 : rdw x = g.ws := congrArg Prod.snd hx
    rw [← h2]
    unfold rdw
    split
    · exact lineWs_len x
    · exact Nat.zero_le _
  · rw [h.os]
    have := ot_len (partsN c)
    omega
  · rw [h.os]
    by_cases hi : i < (otsOf (partsN c)).length
    · rw [List.getD, List.getElem?_eq_getElem hi]
      have h1 := partsN_size (List.mem_filter.1 (List.getElem_mem hi)).1
      exact Nat.le_trans h1 (by omega)
    · rw [List.getD, List.getElem?_eq_none (by omega)]
      exact Nat.zero_le _
theorem fok_rd {w W W' : World} {vs : Fin 3 → Value} {ls cs : List (FL × List Int)} {gs : List (Int × Int)} {v : Value} {fs : List (FL × List Int)} {n : Int} {st : List (List ByteArray × List Int)} (h : BkS w W vs ls cs gs) (hR : RK w.heap.size W W' v fs n st) : ∀ f ∈ fs, FOk W' w.heap.size vs f := fun f hf => by
  obtain ⟨k, hk, e⟩ := List.getElem_of_mem hf
  have g1 := hR.r.wds k hk
  have g2 := hR.r.cps k hk
  have g3 := hR.r.nw k hk
  rw [List.getD, List.getElem?_eq_getElem hk] at g1 g2 g3
  simp only [Option.getD_some, e] at g1 g2 g3
  have hsz : W.heap.size ≤ W'.heap.size := hR.r.bel.size
  have hlt := h.lt
  refine ⟨g1.1.below hR.r.bel, g1.2.imp id (fun h2 ad e => ?_), g2.1, .inr (fun ad e => ?_), g2.2.1⟩
  · have h5 := h2 ad e
    exact ⟨by omega, by omega, fun i e2 => by have := (h.own i _ e2.symm).1; omega⟩
  · have h5 := (g2.2.2 ad e).1
    have h6 := g3 ad e
    exact ⟨h5, by omega, fun i e2 => by have := (h.own i _ e2.symm).2; omega⟩
theorem fok_rs {w W W' : World} {vs : Fin 3 → Value} {ls cs : List (FL × List Int)} {gs : List (Int × Int)} {vo v2 : Value} {fs : List (FL × List Int)} {seen : List Int} (h : BkS w W vs ls cs gs) (hR : RT W W' vo v2 fs seen) (hP : ∀ k, k < fs.length → PFrom W.heap.size (fs.getD k default).1.g.p ∧ PFrom W.heap.size (fs.getD k default).1.cp) : ∀ f ∈ fs, FOk W' w.heap.size vs f := fun f hf => by
  obtain ⟨k, hk, e⟩ := List.getElem_of_mem hf
  have hg := hR.at' k hk
  have hp := hP k hk
  rw [List.getD, List.getElem?_eq_getElem hk] at hg hp
  simp only [Option.getD_some, e] at hg hp
  obtain ⟨g1, g2, g3, g4, g5⟩ := hg
  obtain ⟨p1, p2⟩ := hp
  have new : ∀ q, PFrom W.heap.size q → (∀ ad, q = some ad → ad.block < W'.heap.size) → Off3 W' w.heap.size vs q := fun q hq hlt ad e => ⟨hlt ad e, by have := hq ad e; have := h.lt; omega, fun i e2 => by have := (h.own i _ e2.symm).2; have := hq ad e; omega⟩
  exact ⟨g1, g2.imp id (fun h2 => new _ p1 (fun ad e => (h2 ad e).1)), g3, g4.imp id (fun h2 => new _ p2 (fun ad e => (h2 ad e).1)), g5⟩
theorem sorts_from {W : World} {q : Option Addr} {ss : List SS} (h : SortsAt W q ss) : ∀ j, j < ss.length → ∀ i, i < (ss.getD j default).ls.length → ((ss.getD j default).ls.getD i default).ws = [] ∨ ∀ ad, ((ss.getD j default).ls.getD i default).p = some ad → ad.block < W.heap.size := fun j hj i hi => by
  obtain ⟨b, o, -, -, -, -, h1, -⟩ := sort_at h hj
  rcases h1.2 i hi with h2 | ⟨b2, o2, h2, h3, -⟩
  · exact .inl h2
  · refine .inr fun ad e => ?_
    rw [e] at h2
    cases h2
    exact h3
end Go.Proofs.YtmfhpddeclggfaaGreatDoor
