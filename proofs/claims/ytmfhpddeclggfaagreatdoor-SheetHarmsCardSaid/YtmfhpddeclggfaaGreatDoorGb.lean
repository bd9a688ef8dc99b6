import Derived.RangeFuncNested
import Derived.RangeFuncBound
import Derived.RangeFuncCalls
import Derived.RangeFuncLeaves
import Derived.Test.YtmfhpddeclggfaaGreatDoorGa
import Derived.RangeFuncBox
import Derived.Shelf.Abstract
import Derived.Shelf.RegionOpen
import Derived.OwnWalkIn
import Derived.TacticsInMore
import Derived.LoopNIn
import Derived.LoopIn
import Derived.Maps.AppendAt
import Derived.Maps.OwnIn
import Derived.RegionIn
import Derived.BigRegionIn
import Derived.Stop.RegionWithIn
import Derived.WalkKit
import Derived.LoopTactic
import Derived.WalkSpells
import Derived.WalkLawsBesides
import Derived.Lib.Hide
import Derived.BigQuiet
import Derived.IntWalk
import Derived.Deep.DeepMust
import Derived.WalkSmall
import Derived.StillTailTactics
import Derived.Deep.RegionLaw
import Derived.Deep.QuietTactic
import Derived.Deep.Cut
import Derived.Deep.DeepCutAuto
import Derived.Deep.LoopGhost
import Derived.Laws.AppendOwn
namespace Go.Proofs.YtmfhpddeclggfaaGreatDoor
open Go.RowKit
/-! Harms in the program: has, suffer. -/
open Go.Shelf
def hasB (n : Nat) (h : HM) : Bool :=
  if h.k = 2 then decide (0 ≤ h.b) && decide (h.b ≤ n)
  else if h.k = 3 then decide (0 ≤ h.b) && decide (h.b < n)
  else if h.k = 4 then ((decide (0 ≤ h.b) && decide (h.b < n)) && decide (0 ≤ h.d)) && decide (h.d ≤ 255)
  else if h.k = 5 then decide (0 ≤ h.b) && decide (h.b < (n : Int) - 1)
  else true
abbrev hmV (h : HM) : Value := .agg #[.int .i64 h.k, .int .i64 h.a, .int .i64 h.b, .int .i64 h.d]
set_option maxRecDepth 100000 in
set_option maxHeartbeats 4000000 in
theorem sHas2 (g o b cap n : Nat) (a x d : Int) (w : World) (_hn : n ≤ 1000000) (hc : w.cell? ⟨g, o, none⟩ = some (.slice (some ⟨b, 0, none⟩) n cap)) :
    Calls Tryz.prog 137 #[.pointer (some ⟨g, o, none⟩), hmV ⟨2, a, x, d⟩] w fun e w' => e = .returned (.bool (hasB n ⟨2, a, x, d⟩)) ∧ Below w.heap.size w w' := by
  unfold hmV
  have hc2 : ∀ X, (w.alloc X).cell? ⟨g, o, none⟩ = some (.slice (some ⟨b, 0, none⟩) n cap) := fun X => Lib.cell?_alloc_some X hc
  by_cases h0 : 0 ≤ x
  · by_cases h1 : x ≤ (n : Int)
    · go_enter Tryz.func137, Tryz.ntmps137
      go_wp2_with fail
      go_ret
      exact ⟨by simp [hasB] <;> omega, below_alloc1 _ _⟩
    · go_enter Tryz.func137, Tryz.ntmps137
      go_wp2_with fail
      go_ret
      exact ⟨by simp [hasB] <;> omega, below_alloc1 _ _⟩
  · go_enter Tryz.func137, Tryz.ntmps137
    go_wp2_with fail
    go_ret
    exact ⟨by simp [hasB] <;> omega, below_alloc1 _ _⟩
set_option maxRecDepth 100000 in
set_option maxHeartbeats 4000000 in
theorem sHas3 (g o b cap n : Nat) (a x d : Int) (w : World) (_hn : n ≤ 1000000) (hc : w.cell? ⟨g, o, none⟩ = some (.slice (some ⟨b, 0, none⟩) n cap)) :
    Calls Tryz.prog 137 #[.pointer (some ⟨g, o, none⟩), hmV ⟨3, a, x, d⟩] w fun e w' => e = .returned (.bool (hasB n ⟨3, a, x, d⟩)) ∧ Below w.heap.size w w' := by
  unfold hmV
  have hc2 : ∀ X, (w.alloc X).cell? ⟨g, o, none⟩ = some (.slice (some ⟨b, 0, none⟩) n cap) := fun X => Lib.cell?_alloc_some X hc
  by_cases h0 : 0 ≤ x
  · by_cases h1 : x < (n : Int)
    · go_enter Tryz.func137, Tryz.ntmps137
      go_wp2_with fail
      go_ret
      exact ⟨by simp [hasB] <;> omega, below_alloc1 _ _⟩
    · go_enter Tryz.func137, Tryz.ntmps137
      go_wp2_with fail
      go_ret
      exact ⟨by simp [hasB] <;> omega, below_alloc1 _ _⟩
  · go_enter Tryz.func137, Tryz.ntmps137
    go_wp2_with fail
    go_ret
    exact ⟨by simp [hasB] <;> omega, below_alloc1 _ _⟩
set_option maxRecDepth 100000 in
set_option maxHeartbeats 4000000 in
theorem sHas4 (g o b cap n : Nat) (a x d : Int) (w : World) (_hn : n ≤ 1000000) (hc : w.cell? ⟨g, o, none⟩ = some (.slice (some ⟨b, 0, none⟩) n cap)) :
    Calls Tryz.prog 137 #[.pointer (some ⟨g, o, none⟩), hmV ⟨4, a, x, d⟩] w fun e w' => e = .returned (.bool (hasB n ⟨4, a, x, d⟩)) ∧ Below w.heap.size w w' := by
  unfold hmV
  have hc2 : ∀ X, (w.alloc X).cell? ⟨g, o, none⟩ = some (.slice (some ⟨b, 0, none⟩) n cap) := fun X => Lib.cell?_alloc_some X hc
  by_cases h0 : 0 ≤ x
  · by_cases h1 : x < (n : Int)
    · by_cases h2 : 0 ≤ d
      · by_cases h3 : d ≤ 255
        · go_enter Tryz.func137, Tryz.ntmps137
          go_wp2_with fail
          go_ret
          exact ⟨by simp [hasB] <;> omega, below_alloc1 _ _⟩
        · go_enter Tryz.func137, Tryz.ntmps137
          go_wp2_with fail
          go_ret
          exact ⟨by simp [hasB] <;> omega, below_alloc1 _ _⟩
      · go_enter Tryz.func137, Tryz.ntmps137
        go_wp2_with fail
        go_ret
        exact ⟨by simp [hasB] <;> omega, below_alloc1 _ _⟩
    · go_enter Tryz.func137, Tryz.ntmps137
      go_wp2_with fail
      go_ret
      exact ⟨by simp [hasB] <;> omega, below_alloc1 _ _⟩
  · go_enter Tryz.func137, Tryz.ntmps137
    go_wp2_with fail
    go_ret
    exact ⟨by simp [hasB] <;> omega, below_alloc1 _ _⟩
set_option maxRecDepth 100000 in
set_option maxHeartbeats 4000000 in
theorem sHas5 (g o b cap n : Nat) (a x d : Int) (w : World) (hn : n ≤ 1000000) (hc : w.cell? ⟨g, o, none⟩ = some (.slice (some ⟨b, 0, none⟩) n cap)) :
    Calls Tryz.prog 137 #[.pointer (some ⟨g, o, none⟩), hmV ⟨5, a, x, d⟩] w fun e w' => e = .returned (.bool (hasB n ⟨5, a, x, d⟩)) ∧ Below w.heap.size w w' := by
  unfold hmV
  have hc2 : ∀ X, (w.alloc X).cell? ⟨g, o, none⟩ = some (.slice (some ⟨b, 0, none⟩) n cap) := fun X => Lib.cell?_alloc_some X hc
  by_cases h0 : 0 ≤ x
  · by_cases h1 : x < (n : Int) - 1
    · go_enter Tryz.func137, Tryz.ntmps137
      go_wp2_with fail
      go_ret
      exact ⟨by simp [hasB] <;> omega, below_alloc1 _ _⟩
    · go_enter Tryz.func137, Tryz.ntmps137
      go_wp2_with fail
      go_ret
      exact ⟨by simp [hasB] <;> omega, below_alloc1 _ _⟩
  · go_enter Tryz.func137, Tryz.ntmps137
    go_wp2_with fail
    go_ret
    exact ⟨by simp [hasB] <;> omega, below_alloc1 _ _⟩
set_option maxRecDepth 100000 in
set_option maxHeartbeats 4000000 in
theorem sHaso (g o b cap n : Nat) (k a x d : Int) (w : World) (_hn : n ≤ 1000000) (hc : w.cell? ⟨g, o, none⟩ = some (.slice (some ⟨b, 0, none⟩) n cap)) (k2 : k ≠ 2) (k3 : k ≠ 3) (k4 : k ≠ 4) (k5 : k ≠ 5) :
    Calls Tryz.prog 137 #[.pointer (some ⟨g, o, none⟩), hmV ⟨k, a, x, d⟩] w fun e w' => e = .returned (.bool (hasB n ⟨k, a, x, d⟩)) ∧ Below w.heap.size w w' := by
  unfold hmV
  have hc2 : ∀ X, (w.alloc X).cell? ⟨g, o, none⟩ = some (.slice (some ⟨b, 0, none⟩) n cap) := fun X => Lib.cell?_alloc_some X hc
  have e2 : (k == 2) = false := by rw [beq_eq_false_iff_ne]; exact k2
  have e3 : (k == 3) = false := by rw [beq_eq_false_iff_ne]; exact k3
  have e4 : (k == 4) = false := by rw [beq_eq_false_iff_ne]; exact k4
  have e5 : (k == 5) = false := by rw [beq_eq_false_iff_ne]; exact k5
  go_enter Tryz.func137, Tryz.ntmps137
  go_wp2_with fail
  go_ret
  exact ⟨by simp [hasB, k2, k3, k4, k5] <;> omega, below_alloc1 _ _⟩
theorem sHas (g o b cap n : Nat) (h : HM) (w : World) (hn : n ≤ 1000000) (hc : w.cell? ⟨g, o, none⟩ = some (.slice (some ⟨b, 0, none⟩) n cap)) :
    Calls Tryz.prog 137 #[.pointer (some ⟨g, o, none⟩), hmV h] w fun e w' => e = .returned (.bool (hasB n h)) ∧ Below w.heap.size w w' := by
  obtain ⟨k, a, x, d⟩ := h
  by_cases k2 : k = 2
  · subst k2; exact sHas2 g o b cap n a x d w hn hc
  by_cases k3 : k = 3
  · subst k3; exact sHas3 g o b cap n a x d w hn hc
  by_cases k4 : k = 4
  · subst k4; exact sHas4 g o b cap n a x d w hn hc
  by_cases k5 : k = 5
  · subst k5; exact sHas5 g o b cap n a x d w hn hc
  exact sHaso g o b cap n k a x d w hn hc k2 k3 k4 k5
/-- Nothing but this part, and its bytes, has changed. -/
structure Only (W W' : World) (g o b : Nat) : Prop where
  cel : ∀ r i, r < W.heap.size → r ≠ b → (r ≠ g ∨ (i ≠ o ∧ i ≠ o + 2)) → W'.cell? ⟨r, i, none⟩ = W.cell? ⟨r, i, none⟩
  frz : ∀ r i, r < W.heap.size → W'.frozen? ⟨r, i, none⟩ = W.frozen? ⟨r, i, none⟩
  bel : ∀ B, B ≤ g → B ≤ b → B ≤ W.heap.size → Below B W W'
theorem Only.below {W W' : World} {g o b : Nat} (h : Below W.heap.size W W') : Only W W' g o b :=
  ⟨fun r i hr _ _ => h.cell (p := ⟨r, i, none⟩) hr, fun r i hr => h.frozen (p := ⟨r, i, none⟩) hr, fun _B _ _ h3 => h.mono h3⟩
theorem Only.set0 {W W' : World} {g o b : Nat} (h : Only W W' g o b) (v : Value) : Only W (W'.setCell ⟨g, o, none⟩ v) g o b :=
  ⟨fun r i hr h1 h2 => by
    rw [World.cell?_setCell_other _ _ _ _ (fun e => by
      have e1 := congrArg Addr.block e
      have e2 := congrArg Addr.off e
      simp only at e1 e2
      rcases h2 with h2 | h2
      · exact h2 e1.symm
      · exact h2.1 e2.symm)]
    exact h.cel r i hr h1 h2, fun r i hr => by rw [World.frozen?_setCell]; exact h.frz r i hr, fun B h1 h2 h3 => (h.bel B h1 h2 h3).setCell (p := ⟨g, o, none⟩) h1 _⟩
theorem Only.set2 {W W' : World} {g o b : Nat} (h : Only W W' g o b) (v : Value) : Only W (W'.setCell ⟨g, o + 2, none⟩ v) g o b :=
  ⟨fun r i hr h1 h2 => by
    rw [World.cell?_setCell_other _ _ _ _ (fun e => by
      have e1 := congrArg Addr.block e
      have e2 := congrArg Addr.off e
      simp only at e1 e2
      rcases h2 with h2 | h2
      · exact h2 e1.symm
      · exact h2.2 e2.symm)]
    exact h.cel r i hr h1 h2, fun r i hr => by rw [World.frozen?_setCell]; exact h.frz r i hr, fun B h1 h2 h3 => (h.bel B h1 h2 h3).setCell (p := ⟨g, o + 2, none⟩) h1 _⟩
theorem Only.setb {W W' : World} {g o b : Nat} (h : Only W W' g o b) (i : Nat) (v : Value) : Only W (W'.setCell ⟨b, i, none⟩ v) g o b :=
  ⟨fun r j hr h1 h2 => by
    rw [World.cell?_setCell_other _ _ _ _ (fun e => h1 (congrArg Addr.block e).symm)]
    exact h.cel r j hr h1 h2, fun r j hr => by rw [World.frozen?_setCell]; exact h.frz r j hr, fun B h1 h2 h3 => (h.bel B h1 h2 h3).setCell (p := ⟨b, i, none⟩) h2 _⟩
/-- A part lies there. -/
structure PartAt (W : World) (g o b cap : Nat) (p : PT) : Prop where
  ltg : g < W.heap.size
  ltb : b < W.heap.size
  ne : b ≠ g
  s0 : W.cell? ⟨g, o, none⟩ = some (.slice (some ⟨b, 0, none⟩) p.c.length cap)
  s2 : W.cell? ⟨g, o + 2, none⟩ = some (.bool p.lo)
  fg : ∀ i, W.frozen? ⟨g, i, none⟩ = false
  cb : ∀ i, i < p.c.length → W.cell? ⟨b, i, none⟩ = some (.int .u8 ((p.c.getD i 0).toNat : Int))
  fb : ∀ i, i < p.c.length → W.frozen? ⟨b, i, none⟩ = false
  hc : p.c.length ≤ cap
  hl : p.c.length ≤ 1000000
theorem PartAt.below {W W' : World} {g o b cap : Nat} {p : PT} (h : PartAt W g o b cap p) (hb : Below W.heap.size W W') : PartAt W' g o b cap p :=
  ⟨Nat.lt_of_lt_of_le h.ltg hb.size, Nat.lt_of_lt_of_le h.ltb hb.size, h.ne, (hb.cell (p := ⟨g, o, none⟩) h.ltg).trans h.s0, (hb.cell (p := ⟨g, o + 2, none⟩) h.ltg).trans h.s2, fun i => (hb.frozen (p := ⟨g, i, none⟩) h.ltg).trans (h.fg i),
    fun i hi => (hb.cell (p := ⟨b, i, none⟩) h.ltb).trans (h.cb i hi), fun i hi => (hb.frozen (p := ⟨b, i, none⟩) h.ltb).trans (h.fb i hi), h.hc, h.hl⟩
theorem PartAt.lost {W : World} {g o b cap : Nat} {p : PT} (h : PartAt W g o b cap p) : PartAt (W.setCell ⟨g, o + 2, none⟩ (.bool true)) g o b cap ⟨p.c, p.fd, true⟩ := by
  have k0 := h.s2
  refine ⟨by rw [World.size_setCell]; exact h.ltg, by rw [World.size_setCell]; exact h.ltb, h.ne, ?_, World.cell?_setCell_same _ _ _ k0, fun i => by rw [World.frozen?_setCell]; exact h.fg i, fun i hi => ?_, fun i hi => by rw [World.frozen?_setCell]; exact h.fb i hi, h.hc, h.hl⟩
  · rw [World.cell?_setCell_other _ _ _ _ (addr_ne (by omega))]; exact h.s0
  · rw [World.cell?_setCell_other _ _ _ _ (fun e => h.ne (congrArg Addr.block e).symm)]; exact h.cb i hi
theorem PartAt.cut {W : World} {g o b cap : Nat} {p : PT} (h : PartAt W g o b cap p) (n : Nat) (hn : n ≤ p.c.length) : PartAt (W.setCell ⟨g, o, none⟩ (.slice (some ⟨b, 0, none⟩) n cap)) g o b cap ⟨p.c.take n, p.fd, p.lo⟩ := by
  have k0 := h.s0
  have hl : (p.c.take n).length = n := by rw [List.length_take]; omega
  refine ⟨by rw [World.size_setCell]; exact h.ltg, by rw [World.size_setCell]; exact h.ltb, h.ne, ?_, ?_, fun i => by rw [World.frozen?_setCell]; exact h.fg i, fun i hi => ?_, fun i hi => by rw [World.frozen?_setCell]; exact h.fb i (by have h9 : i < (p.c.take n).length := hi; omega), by show (p.c.take n).length ≤ cap; have := h.hc; omega, by show (p.c.take n).length ≤ 1000000; have := h.hl; omega⟩
  · rw [World.cell?_setCell_same _ _ _ k0, hl]
  · rw [World.cell?_setCell_other _ _ _ _ (addr_ne (by omega))]; exact h.s2
  · have hi' : i < n := by rw [← hl]; exact hi
    rw [World.cell?_setCell_other _ _ _ _ (fun e => h.ne (congrArg Addr.block e).symm), h.cb i (by omega)]
    show _ = some (Value.int .u8 (((p.c.take n).getD i 0).toNat : Int))
    rw [List.getD, List.getD, List.getElem?_take_of_lt hi']
theorem PartAt.put {W : World} {g o b cap : Nat} {p : PT} (h : PartAt W g o b cap p) (n : Nat) (hn : n < p.c.length) (x : UInt8) : PartAt (W.setCell ⟨b, n, none⟩ (.int .u8 (x.toNat : Int))) g o b cap ⟨p.c.set n x, p.fd, p.lo⟩ := by
  have k0 := h.cb n hn
  refine ⟨by rw [World.size_setCell]; exact h.ltg, by rw [World.size_setCell]; exact h.ltb, h.ne, ?_, ?_, fun i => by rw [World.frozen?_setCell]; exact h.fg i, fun i hi => ?_, fun i hi => by rw [World.frozen?_setCell]; exact h.fb i (by rw [List.length_set] at hi; exact hi), by rw [List.length_set]; exact h.hc, by rw [List.length_set]; exact h.hl⟩
  · rw [World.cell?_setCell_other _ _ _ _ (fun e => h.ne (congrArg Addr.block e)), List.length_set]; exact h.s0
  · rw [World.cell?_setCell_other _ _ _ _ (fun e => h.ne (congrArg Addr.block e))]; exact h.s2
  · rw [List.length_set] at hi
    by_cases e : i = n
    · subst e
      rw [World.cell?_setCell_same _ _ _ k0, List.getD, List.getElem?_set_self hn]
      rfl
    · rw [World.cell?_setCell_other _ _ _ _ (addr_ne (Ne.symm e)), h.cb i hi, List.getD, List.getD, List.getElem?_set_ne (Ne.symm e)]
end Go.Proofs.YtmfhpddeclggfaaGreatDoor
