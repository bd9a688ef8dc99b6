import Derived.RangeFuncNested
import Derived.RangeFuncBound
import Derived.RangeFuncCalls
import Derived.RangeFuncLeaves
import Derived.Test.YtmfhpddeclggfaaGreatDoorGc
import Derived.RangeFuncBox
import Derived.Shelf.Abstract
import Derived.Shelf.RegionOpen
import Derived.OwnWalkIn
import Derived.TacticsInMore
import Derived.LoopNIn
import Derived.LoopIn
import Derived.Maps.AppendAt
import Derived.Maps.OwnIn
import Derived.RegionIn
import Derived.BigRegionIn
import Derived.Stop.RegionWithIn
import Derived.WalkKit
import Derived.Deep.RegionHeld3
import Derived.LoopTactic
import Derived.WalkSpells
import Derived.WalkLawsBesides
import Derived.Lib.Hide
import Derived.BigQuiet
import Derived.IntWalk
import Derived.Deep.DeepMust
import Derived.WalkSmall
import Derived.StillTailTactics
import Derived.Deep.RegionLaw
import Derived.Deep.QuietTactic
import Derived.Deep.Cut
import Derived.Deep.DeepCutAuto
import Derived.Deep.LoopGhost
import Derived.Laws.AppendOwn
namespace Go.Proofs.YtmfhpddeclggfaaGreatDoor
open Go.RowKit
/-! suffer. -/
open Go.Shelf
set_option maxRecDepth 100000 in
set_option maxHeartbeats 4000000 in
theorem sSuf_5 (g o b cap : Nat) (p : PT) (a x d : Int) (w : World) (hp : PartAt w g o b cap p) (hl : p.lo = false) (hh : hasB p.c.length ⟨5, a, x, d⟩ = true) :
    Calls Tryz.prog 102 #[.pointer (some ⟨g, o, none⟩), hmV ⟨5, a, x, d⟩] w fun e w' => e = .returned (.bool true) ∧ Only w w' g o b ∧ PartAt w' g o b cap ⟨swapAt p.c x.toNat, p.fd, p.lo⟩ := by
  unfold hmV
  have S2 := fun X => (PartAt.below hp (below_alloc1 w X)).s2
  rw [hl] at S2
  have HS := fun X => Lib.hid (sHas g o b cap p.c.length ⟨5, a, x, d⟩ (w.alloc X) hp.hl (PartAt.below hp (below_alloc1 w X)).s0)
  rw [hh] at HS
  unfold hmV at HS
  have P0 := Lib.hid hp
  have hx : 0 ≤ x ∧ x < (p.c.length : Int) - 1 := by simpa [hasB] using hh
  obtain ⟨n, rfl⟩ := Int.eq_ofNat_of_zero_le hx.1
  have hxn : n + 1 < p.c.length := by omega
  have HX := Lib.hid hxn
  clear hp hh
  go_enter Tryz.func102, Tryz.ntmps102
  go_wp2_with fail
  refine (HS _).out.mono ?_
  rintro e w1 ⟨rfl, hb⟩
  have B1 : Hid (Below w.heap.size w w1) := (below_alloc1 w _).trans (hb.mono (by simp))
  have P1 := Lib.hid (P0.out.below B1.out)
  have q0 := (hb.cell (p := ⟨w.heap.size, 0, none⟩) (by simp)).trans (nw_at w #[.int .i64 5, .int .i64 a, .int .i64 (n : Int), .int .i64 d] 154 0 _ rfl)
  have q2 := (hb.cell (p := ⟨w.heap.size, 2, none⟩) (by simp)).trans (nw_at w #[.int .i64 5, .int .i64 a, .int .i64 (n : Int), .int .i64 d] 154 2 _ rfl)
  have q3 := (hb.cell (p := ⟨w.heap.size, 3, none⟩) (by simp)).trans (nw_at w #[.int .i64 5, .int .i64 a, .int .i64 (n : Int), .int .i64 d] 154 3 _ rfl)
  have s0 := P1.out.s0
  have s2 := P1.out.s2
  have f0 := P1.out.fg o
  have f2 := P1.out.fg (o + 2)
  clear hb HS
  obtain ⟨L, hL⟩ : ∃ L, Hid (p.c.length = L) := ⟨_, rfl⟩
  have HX1 : Hid (n < p.c.length) := by have := HX.out; unfold Hid; omega
  have cb := P1.out.cb n HX1.out
  have cb1 := P1.out.cb (n + 1) HX.out
  have fb := P1.out.fb n HX1.out
  have fb1 := P1.out.fb (n + 1) HX.out
  have hLl := P1.out.hl
  obtain ⟨u, hu⟩ : ∃ u, Hid (p.c.getD n 0 = u) := ⟨_, rfl⟩
  obtain ⟨v, hv⟩ : ∃ v, Hid (p.c.getD (n + 1) 0 = v) := ⟨_, rfl⟩
  rw [hL.out] at s0 hxn hLl
  rw [hu.out] at cb
  rw [hv.out] at cb1
  have hx0 : (0 : Int) ≤ (n : Int) := by omega
  have hx1 : (n : Int) < (L : Int) := by omega
  have hx2 : (0 : Int) ≤ (n : Int) + 1 := by omega
  have hx3 : (n : Int) + 1 < (L : Int) := by omega
  have hx4 : ((n : Int) + 1).toNat = n + 1 := by omega
  have hbne : b ≠ w.heap.size := by have := P0.out.ltb; omega
  have hbg := P1.out.ne
  have z2 : ∀ i X, (w1.setCell ⟨b, i, none⟩ X).cell? ⟨w.heap.size, 2, none⟩ = some (.int .i64 (n : Int)) := fun i X => by
    rw [World.cell?_setCell_other _ _ _ _ (fun e => hbne (congrArg Addr.block e))]; exact q2
  have z0 : ∀ i X, (w1.setCell ⟨b, i, none⟩ X).cell? ⟨g, o, none⟩ = some (.slice (some ⟨b, 0, none⟩) L cap) := fun i X => by
    rw [World.cell?_setCell_other _ _ _ _ (fun e => hbg (congrArg Addr.block e))]; exact s0
  have zc : ∀ X, (w1.setCell ⟨b, n, none⟩ X).cell? ⟨b, n + 1, none⟩ = some (.int .u8 (v.toNat : Int)) := fun X => by
    rw [World.cell?_setCell_other _ _ _ _ (addr_ne (by omega))]; exact cb1
  have zd : ∀ X, (w1.setCell ⟨b, n + 1, none⟩ X).cell? ⟨b, n, none⟩ = some (.int .u8 (u.toNat : Int)) := fun X => by
    rw [World.cell?_setCell_other _ _ _ _ (addr_ne (by omega))]; exact cb
  have y2 : ∀ i X j Y, ((w1.setCell ⟨b, i, none⟩ X).setCell ⟨b, j, none⟩ Y).cell? ⟨w.heap.size, 2, none⟩ = some (.int .i64 (n : Int)) := fun i X j Y => by
    rw [World.cell?_setCell_other _ _ _ _ (fun e => hbne (congrArg Addr.block e))]; exact z2 i X
  have y0 : ∀ i X j Y, ((w1.setCell ⟨b, i, none⟩ X).setCell ⟨b, j, none⟩ Y).cell? ⟨g, o, none⟩ = some (.slice (some ⟨b, 0, none⟩) L cap) := fun i X j Y => by
    rw [World.cell?_setCell_other _ _ _ _ (fun e => hbg (congrArg Addr.block e))]; exact z0 i X
  have hw : IntKind.i64.wrap ((n : Int) + 1) = (n : Int) + 1 := by
    exact IntWalk.i64_in _ ⟨by omega, by omega⟩
  clear hbne hbg
  go_wp2_with fail
  rw [show Op.load 5 (Operand.tmp 83) = id (Op.load 5 (Operand.tmp 83)) from rfl, show Op.load 5 (Operand.tmp 91) = id (Op.load 5 (Operand.tmp 91)) from rfl]
  go_region_held3 (fun w' => w'.cell? ⟨w.heap.size, 2, none⟩ = some (.int .i64 (n : Int)) ∧ w'.cell? ⟨g, o, none⟩ = some (.slice (some ⟨b, 0, none⟩) L cap)) (first | exact ⟨q2, s0⟩ | exact ⟨z2 _ _, z0 _ _⟩ | exact ⟨y2 _ _ _ _, y0 _ _ _ _⟩) (fail)
  all_goals
    go_wp2
    go_ret
    refine ⟨rfl, ((Only.below B1.out.drew).setb n _).setb (n + 1) _, ?_⟩
    have h := ((P1.out.put n HX1.out v).put (n + 1) (by show n + 1 < (p.c.set n v).length; rw [List.length_set]; exact HX.out) u).below (Below.refl _ _).drew
    rw [Int.toNat_natCast]
    unfold swapAt
    rw [hu.out, hv.out]
    exact h
end Go.Proofs.YtmfhpddeclggfaaGreatDoor
