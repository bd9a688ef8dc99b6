import Derived.RangeFuncNested
import Derived.RangeFuncBound
import Derived.RangeFuncCalls
import Derived.RangeFuncLeaves
import Derived.Test.YtmfhpddeclggfaaGreatDoorGb
import Derived.RangeFuncBox
import Derived.Shelf.Abstract
import Derived.Shelf.RegionOpen
import Derived.OwnWalkIn
import Derived.TacticsInMore
import Derived.LoopNIn
import Derived.LoopIn
import Derived.Maps.AppendAt
import Derived.Maps.OwnIn
import Derived.RegionIn
import Derived.BigRegionIn
import Derived.Stop.RegionWithIn
import Derived.WalkKit
import Derived.LoopTactic
import Derived.WalkSpells
import Derived.WalkLawsBesides
import Derived.Lib.Hide
import Derived.BigQuiet
import Derived.IntWalk
import Derived.Deep.DeepMust
import Derived.WalkSmall
import Derived.StillTailTactics
import Derived.Deep.RegionLaw
import Derived.Deep.QuietTactic
import Derived.Deep.Cut
import Derived.Deep.DeepCutAuto
import Derived.Deep.LoopGhost
import Derived.Laws.AppendOwn
namespace Go.Proofs.YtmfhpddeclggfaaGreatDoor
open Go.RowKit
/-! suffer. -/
open Go.Shelf
set_option maxRecDepth 100000 in
set_option maxHeartbeats 4000000 in
theorem sSuf_bad (g o : Nat) (k a x d : Int) (w : World) (hk : k < 1 ∨ 5 < k) :
    Calls Tryz.prog 102 #[.pointer (some ⟨g, o, none⟩), hmV ⟨k, a, x, d⟩] w fun e w' => e = .returned (.bool false) ∧ Below w.heap.size w w' := by
  unfold hmV
  by_cases h1 : k < 1
  · clear hk
    go_enter Tryz.func102, Tryz.ntmps102
    go_wp2_with fail
    go_ret
    exact ⟨rfl, below_alloc1 _ _⟩
  · have h2 : 5 < k := by omega
    clear hk
    go_enter Tryz.func102, Tryz.ntmps102
    go_wp2_with fail
    go_ret
    exact ⟨rfl, below_alloc1 _ _⟩
set_option maxRecDepth 100000 in
set_option maxHeartbeats 4000000 in
theorem sSuf_lost (g o b cap : Nat) (p : PT) (k a x d : Int) (w : World) (hk : ¬ k < 1) (hk5 : ¬ 5 < k) (hp : PartAt w g o b cap p) (hl : p.lo = true) :
    Calls Tryz.prog 102 #[.pointer (some ⟨g, o, none⟩), hmV ⟨k, a, x, d⟩] w fun e w' => e = .returned (.bool true) ∧ Below w.heap.size w w' := by
  unfold hmV
  have S2 := fun X => (PartAt.below hp (below_alloc1 w X)).s2
  rw [hl] at S2
  clear hp
  go_enter Tryz.func102, Tryz.ntmps102
  go_wp2_with fail
  go_ret
  exact ⟨rfl, below_alloc1 _ _⟩
set_option maxRecDepth 100000 in
set_option maxHeartbeats 4000000 in
theorem sSuf_no (g o b cap : Nat) (p : PT) (k a x d : Int) (w : World) (hk : ¬ k < 1) (hk5 : ¬ 5 < k) (hp : PartAt w g o b cap p) (hl : p.lo = false) (hh : hasB p.c.length ⟨k, a, x, d⟩ = false) :
    Calls Tryz.prog 102 #[.pointer (some ⟨g, o, none⟩), hmV ⟨k, a, x, d⟩] w fun e w' => e = .returned (.bool false) ∧ Below w.heap.size w w' := by
  unfold hmV
  have S2 := fun X => (PartAt.below hp (below_alloc1 w X)).s2
  rw [hl] at S2
  have HS := fun X => Lib.hid (sHas g o b cap p.c.length ⟨k, a, x, d⟩ (w.alloc X) hp.hl (PartAt.below hp (below_alloc1 w X)).s0)
  rw [hh] at HS
  unfold hmV at HS
  clear hp hh
  go_enter Tryz.func102, Tryz.ntmps102
  go_wp2_with fail
  refine (HS _).out.mono ?_
  rintro e w1 ⟨rfl, hb⟩
  have B1 : Hid (Below w.heap.size w w1) := (below_alloc1 w _).trans (hb.mono (by simp))
  clear hb HS
  go_wp2_with fail
  go_ret
  exact ⟨rfl, B1.out⟩
set_option maxRecDepth 100000 in
set_option maxHeartbeats 4000000 in
theorem sSuf_1 (g o b cap : Nat) (p : PT) (a x d : Int) (w : World) (hp : PartAt w g o b cap p) (hl : p.lo = false) (hh : hasB p.c.length ⟨1, a, x, d⟩ = true) :
    Calls Tryz.prog 102 #[.pointer (some ⟨g, o, none⟩), hmV ⟨1, a, x, d⟩] w fun e w' => e = .returned (.bool true) ∧ Only w w' g o b ∧ PartAt w' g o b cap ⟨p.c, p.fd, true⟩ := by
  unfold hmV
  have S2 := fun X => (PartAt.below hp (below_alloc1 w X)).s2
  rw [hl] at S2
  have HS := fun X => Lib.hid (sHas g o b cap p.c.length ⟨1, a, x, d⟩ (w.alloc X) hp.hl (PartAt.below hp (below_alloc1 w X)).s0)
  rw [hh] at HS
  unfold hmV at HS
  have P0 := Lib.hid hp
  clear hp hh
  go_enter Tryz.func102, Tryz.ntmps102
  go_wp2_with fail
  refine (HS _).out.mono ?_
  rintro e w1 ⟨rfl, hb⟩
  have B1 : Hid (Below w.heap.size w w1) := (below_alloc1 w _).trans (hb.mono (by simp))
  have P1 := Lib.hid (P0.out.below B1.out)
  have q0 := (hb.cell (p := ⟨w.heap.size, 0, none⟩) (by simp)).trans (nw_at w #[.int .i64 1, .int .i64 a, .int .i64 x, .int .i64 d] 154 0 _ rfl)
  have q2 := (hb.cell (p := ⟨w.heap.size, 2, none⟩) (by simp)).trans (nw_at w #[.int .i64 1, .int .i64 a, .int .i64 x, .int .i64 d] 154 2 _ rfl)
  have q3 := (hb.cell (p := ⟨w.heap.size, 3, none⟩) (by simp)).trans (nw_at w #[.int .i64 1, .int .i64 a, .int .i64 x, .int .i64 d] 154 3 _ rfl)
  have s0 := P1.out.s0
  have s2 := P1.out.s2
  have f0 := P1.out.fg o
  have f2 := P1.out.fg (o + 2)
  clear hb HS
  go_wp2_with fail
  go_ret
  exact ⟨rfl, (Only.below B1.out).set2 _, P1.out.lost⟩
set_option maxRecDepth 100000 in
set_option maxHeartbeats 4000000 in
theorem sSuf_2 (g o b cap : Nat) (p : PT) (a x d : Int) (w : World) (hp : PartAt w g o b cap p) (hl : p.lo = false) (hh : hasB p.c.length ⟨2, a, x, d⟩ = true) :
    Calls Tryz.prog 102 #[.pointer (some ⟨g, o, none⟩), hmV ⟨2, a, x, d⟩] w fun e w' => e = .returned (.bool true) ∧ Only w w' g o b ∧ PartAt w' g o b cap ⟨p.c.take x.toNat, p.fd, p.lo⟩ := by
  unfold hmV
  have S2 := fun X => (PartAt.below hp (below_alloc1 w X)).s2
  rw [hl] at S2
  have HS := fun X => Lib.hid (sHas g o b cap p.c.length ⟨2, a, x, d⟩ (w.alloc X) hp.hl (PartAt.below hp (below_alloc1 w X)).s0)
  rw [hh] at HS
  unfold hmV at HS
  have P0 := Lib.hid hp
  have hx : 0 ≤ x ∧ x ≤ p.c.length := by simpa [hasB] using hh
  obtain ⟨n, rfl⟩ := Int.eq_ofNat_of_zero_le hx.1
  have hcl := hp.hc
  have hxn : n ≤ p.c.length := by omega
  have hxl : (n : Int) ≤ (cap : Int) := by omega
  have hxc : n ≤ cap := by omega
  have HX := Lib.hid hxn
  clear hp hh
  go_enter Tryz.func102, Tryz.ntmps102
  go_wp2_with fail
  refine (HS _).out.mono ?_
  rintro e w1 ⟨rfl, hb⟩
  have B1 : Hid (Below w.heap.size w w1) := (below_alloc1 w _).trans (hb.mono (by simp))
  have P1 := Lib.hid (P0.out.below B1.out)
  have q0 := (hb.cell (p := ⟨w.heap.size, 0, none⟩) (by simp)).trans (nw_at w #[.int .i64 2, .int .i64 a, .int .i64 (n : Int), .int .i64 d] 154 0 _ rfl)
  have q2 := (hb.cell (p := ⟨w.heap.size, 2, none⟩) (by simp)).trans (nw_at w #[.int .i64 2, .int .i64 a, .int .i64 (n : Int), .int .i64 d] 154 2 _ rfl)
  have q3 := (hb.cell (p := ⟨w.heap.size, 3, none⟩) (by simp)).trans (nw_at w #[.int .i64 2, .int .i64 a, .int .i64 (n : Int), .int .i64 d] 154 3 _ rfl)
  have s0 := P1.out.s0
  have s2 := P1.out.s2
  have f0 := P1.out.fg o
  have f2 := P1.out.fg (o + 2)
  clear hb HS
  obtain ⟨L, hL⟩ : ∃ L, Hid (p.c.length = L) := ⟨_, rfl⟩
  rw [hL.out] at s0 hxn
  go_wp2_with fail
  go_region
  all_goals
    go_wp2
    go_ret
    exact ⟨rfl, (Only.below B1.out.drew).set0 _, by rw [Int.toNat_natCast]; exact (P1.out.cut n HX.out).below (Below.refl _ _).drew⟩
set_option maxRecDepth 100000 in
set_option maxHeartbeats 4000000 in
theorem sSuf_3 (g o b cap : Nat) (p : PT) (a x d : Int) (w : World) (hp : PartAt w g o b cap p) (hl : p.lo = false) (hh : hasB p.c.length ⟨3, a, x, d⟩ = true) :
    Calls Tryz.prog 102 #[.pointer (some ⟨g, o, none⟩), hmV ⟨3, a, x, d⟩] w fun e w' => e = .returned (.bool true) ∧ Only w w' g o b ∧ PartAt w' g o b cap ⟨p.c.set x.toNat 63, p.fd, p.lo⟩ := by
  unfold hmV
  have S2 := fun X => (PartAt.below hp (below_alloc1 w X)).s2
  rw [hl] at S2
  have HS := fun X => Lib.hid (sHas g o b cap p.c.length ⟨3, a, x, d⟩ (w.alloc X) hp.hl (PartAt.below hp (below_alloc1 w X)).s0)
  rw [hh] at HS
  unfold hmV at HS
  have P0 := Lib.hid hp
  have hx : 0 ≤ x ∧ x < p.c.length := by simpa [hasB] using hh
  obtain ⟨n, rfl⟩ := Int.eq_ofNat_of_zero_le hx.1
  have hxn : n < p.c.length := by omega
  have HX := Lib.hid hxn
  clear hp hh
  go_enter Tryz.func102, Tryz.ntmps102
  go_wp2_with fail
  refine (HS _).out.mono ?_
  rintro e w1 ⟨rfl, hb⟩
  have B1 : Hid (Below w.heap.size w w1) := (below_alloc1 w _).trans (hb.mono (by simp))
  have P1 := Lib.hid (P0.out.below B1.out)
  have q0 := (hb.cell (p := ⟨w.heap.size, 0, none⟩) (by simp)).trans (nw_at w #[.int .i64 3, .int .i64 a, .int .i64 (n : Int), .int .i64 d] 154 0 _ rfl)
  have q2 := (hb.cell (p := ⟨w.heap.size, 2, none⟩) (by simp)).trans (nw_at w #[.int .i64 3, .int .i64 a, .int .i64 (n : Int), .int .i64 d] 154 2 _ rfl)
  have q3 := (hb.cell (p := ⟨w.heap.size, 3, none⟩) (by simp)).trans (nw_at w #[.int .i64 3, .int .i64 a, .int .i64 (n : Int), .int .i64 d] 154 3 _ rfl)
  have s0 := P1.out.s0
  have s2 := P1.out.s2
  have f0 := P1.out.fg o
  have f2 := P1.out.fg (o + 2)
  clear hb HS
  obtain ⟨L, hL⟩ : ∃ L, Hid (p.c.length = L) := ⟨_, rfl⟩
  have cb := P1.out.cb n HX.out
  have fb := P1.out.fb n HX.out
  rw [hL.out] at s0 hxn
  have hx0 : (0 : Int) ≤ (n : Int) := by omega
  have hx1 : (n : Int) < (L : Int) := by omega
  go_wp2_with fail
  go_region
  all_goals
    go_wp2
    go_ret
    exact ⟨rfl, (Only.below B1.out.drew).setb n _, by rw [Int.toNat_natCast]; exact (P1.out.put n HX.out 63).below (Below.refl _ _).drew⟩
set_option maxRecDepth 100000 in
set_option maxHeartbeats 4000000 in
theorem sSuf_4 (g o b cap : Nat) (p : PT) (a x d : Int) (w : World) (hp : PartAt w g o b cap p) (hl : p.lo = false) (hh : hasB p.c.length ⟨4, a, x, d⟩ = true) :
    Calls Tryz.prog 102 #[.pointer (some ⟨g, o, none⟩), hmV ⟨4, a, x, d⟩] w fun e w' => e = .returned (.bool true) ∧ Only w w' g o b ∧ PartAt w' g o b cap ⟨p.c.set x.toNat (UInt8.ofNat d.toNat), p.fd, p.lo⟩ := by
  unfold hmV
  have S2 := fun X => (PartAt.below hp (below_alloc1 w X)).s2
  rw [hl] at S2
  have HS := fun X => Lib.hid (sHas g o b cap p.c.length ⟨4, a, x, d⟩ (w.alloc X) hp.hl (PartAt.below hp (below_alloc1 w X)).s0)
  rw [hh] at HS
  unfold hmV at HS
  have P0 := Lib.hid hp
  have hx0 : (0 ≤ x ∧ x < p.c.length) ∧ 0 ≤ d ∧ d ≤ 255 := by simpa [hasB, and_assoc] using hh
  have hx := hx0.1
  obtain ⟨e, rfl⟩ := Int.eq_ofNat_of_zero_le hx0.2.1
  have he : e < 256 := by omega
  obtain ⟨n, rfl⟩ := Int.eq_ofNat_of_zero_le hx.1
  have hxn : n < p.c.length := by omega
  have HX := Lib.hid hxn
  clear hp hh
  go_enter Tryz.func102, Tryz.ntmps102
  go_wp2_with fail
  refine (HS _).out.mono ?_
  rintro e w1 ⟨rfl, hb⟩
  have B1 : Hid (Below w.heap.size w w1) := (below_alloc1 w _).trans (hb.mono (by simp))
  have P1 := Lib.hid (P0.out.below B1.out)
  have q0 := (hb.cell (p := ⟨w.heap.size, 0, none⟩) (by simp)).trans (nw_at w #[.int .i64 4, .int .i64 a, .int .i64 (n : Int), .int .i64 (e : Int)] 154 0 _ rfl)
  have q2 := (hb.cell (p := ⟨w.heap.size, 2, none⟩) (by simp)).trans (nw_at w #[.int .i64 4, .int .i64 a, .int .i64 (n : Int), .int .i64 (e : Int)] 154 2 _ rfl)
  have q3 := (hb.cell (p := ⟨w.heap.size, 3, none⟩) (by simp)).trans (nw_at w #[.int .i64 4, .int .i64 a, .int .i64 (n : Int), .int .i64 (e : Int)] 154 3 _ rfl)
  have s0 := P1.out.s0
  have s2 := P1.out.s2
  have f0 := P1.out.fg o
  have f2 := P1.out.fg (o + 2)
  clear hb HS
  obtain ⟨L, hL⟩ : ∃ L, Hid (p.c.length = L) := ⟨_, rfl⟩
  have cb := P1.out.cb n HX.out
  have fb := P1.out.fb n HX.out
  rw [hL.out] at s0 hxn
  have hx0 : (0 : Int) ≤ (n : Int) := by omega
  have hx1 : (n : Int) < (L : Int) := by omega
  have HU : Hid (((UInt8.ofNat e).toNat : Int) = e) := by
    unfold Hid
    rw [UInt8.toNat_ofNat']
    omega
  go_wp2_with fail
  go_region
  all_goals
    go_wp2
    go_ret
    exact ⟨rfl, (Only.below B1.out.drew).setb n _, by
      rw [Int.toNat_natCast, Int.toNat_natCast]
      have h := P1.out.put n HX.out (UInt8.ofNat e)
      rw [HU.out] at h
      exact h.below (Below.refl _ _).drew⟩
end Go.Proofs.YtmfhpddeclggfaaGreatDoor
