import Derived.RangeFuncNested
import Derived.RangeFuncBox
import Derived.RangeFuncBound
import Derived.RangeFuncCalls
import Derived.RangeFuncLeaves
import Derived.Shelf.Abstract
import Derived.Shelf.RegionOpen
import Derived.BigRegionIn
import Derived.Stop.RegionWithIn
import Derived.WalkKit
import Derived.OwnWalkIn
import Derived.TacticsInMore
import Derived.LoopNIn
import Derived.LoopIn
import Derived.Lib.Hide
import Derived.IntWalk
import Derived.Deep.QuietTactic
import Derived.Deep.RegionHeld3
import Derived.Deep.RegionLaw
import Derived.StillTailTactics
import Derived.WalkSmall
import Derived.Deep.DeepMust
import Derived.BigQuiet
import Derived.WalkLawsBesides
import Derived.WalkSpells
import Derived.LoopTactic
import Derived.Test.YtdefpcjlbganpaaMBox
import Derived.Deep.DeepCutAuto
import Derived.Deep.CutBlock
import Derived.Lib.MinMax
namespace Go.Proofs.Ytdefpcjlbganpaa
open Go.RowKit Go.Shelf Go.BigFrame
attribute [local go_sem] Oper.semAt_some
attribute [local go_sem] World.cell?_alloc_some
set_option maxHeartbeats 4000000 in
theorem rHolds_any (b : Bx) (p : Pt) (w : World) : Calls Try.prog 56 #[b.v, p.v] w fun e w' => e = .returned (.bool (hds b p)) ∧ Below w.heap.size w w' := by
  have C1 := fun W => rProper_any b W
  have C2 := fun W => rwithin_any p.x b.x.lo b.x.hi W
  have C3 := fun W => rwithin_any p.y b.y.lo b.y.hi W
  obtain ⟨z, hz⟩ : ∃ z, okB b = z := ⟨_, rfl⟩
  obtain ⟨u, hu⟩ : ∃ z, (decide (b.x.lo ≤ p.x) && decide (p.x ≤ b.x.hi)) = z := ⟨_, rfl⟩
  obtain ⟨v, hv⟩ : ∃ z, (decide (b.y.lo ≤ p.y) && decide (p.y ≤ b.y.hi)) = z := ⟨_, rfl⟩
  have HR : Hid (hds b p = (z && (u && v))) := by unfold Hid; rw [hds, hz, inS, inS, hu, hv]
  rw [HR.out]
  simp only [hz] at C1
  simp only [hu] at C2
  simp only [hv] at C3
  clear HR hz hu hv
  go_enter Try.func56, Try.ntmps56
  go_wp2_with fail
  obtain ⟨W0, hW0⟩ : ∃ W0, ((w).alloc (.cells #[.int .i64 b.x.lo, .int .i64 b.x.hi, .int .i64 b.y.lo, .int .i64 b.y.hi] 60)).alloc (.cells #[.int .i64 p.x, .int .i64 p.y] 23) = W0 := ⟨_, rfl⟩
  have S0 : St w W0 [(w.heap.size + 1, 0, .int .i64 p.x), (w.heap.size + 1, 1, .int .i64 p.y), (w.heap.size, 0, .int .i64 b.x.lo), (w.heap.size, 1, .int .i64 b.x.hi), (w.heap.size, 2, .int .i64 b.y.lo), (w.heap.size, 3, .int .i64 b.y.hi)] := by rw [← hW0]; exact (((St.nil w)).box #[.int .i64 b.x.lo, .int .i64 b.x.hi, .int .i64 b.y.lo, .int .i64 b.y.hi] 60 (w.heap.size) (by simp)).box #[.int .i64 p.x, .int .i64 p.y] 23 (w.heap.size + 1) (by simp)
  rw [hW0]
  clear hW0
  obtain ⟨C, hC0, HC, LC, BC, hne⟩ := cls S0
  haveI := hne
  obtain ⟨c0, rfl⟩ : ∃ n : Wd C, W0 = n.w := ⟨⟨_, hC0⟩, rfl⟩
  have fC0 : ∀ n : Wd C, n.w.cell? ⟨w.heap.size + 1, 0, none⟩ = some (.int .i64 p.x) := fun n => (LC.out n).1.2.1
  have fC1 : ∀ n : Wd C, n.w.cell? ⟨w.heap.size + 1, 1, none⟩ = some (.int .i64 p.y) := fun n => (LC.out n).2.1.2.1
  have fC2 : ∀ n : Wd C, n.w.cell? ⟨w.heap.size, 0, none⟩ = some (.int .i64 b.x.lo) := fun n => (LC.out n).2.2.1.2.1
  have fC3 : ∀ n : Wd C, n.w.cell? ⟨w.heap.size, 1, none⟩ = some (.int .i64 b.x.hi) := fun n => (LC.out n).2.2.2.1.2.1
  have fC4 : ∀ n : Wd C, n.w.cell? ⟨w.heap.size, 2, none⟩ = some (.int .i64 b.y.lo) := fun n => (LC.out n).2.2.2.2.1.2.1
  have fC5 : ∀ n : Wd C, n.w.cell? ⟨w.heap.size, 3, none⟩ = some (.int .i64 b.y.hi) := fun n => (LC.out n).2.2.2.2.2.1.2.1
  clear S0 hC0
  have D1 := cin HC C1
  have D2 := csame (C := C) C2
  have D3 := csame (C := C) C3
  clear C1 C2 C3
  cases z <;> cases u <;> cases v
  all_goals
    go_wp2_with (first | (go_at_call 54; with_reducible refine (D1 _).out.mono ?_; rintro e w' ⟨rfl, n, rfl⟩) | (go_at_call 77; with_reducible refine (D2 _).out.mono ?_; rintro e w' ⟨rfl, n, rfl⟩) | (go_at_call 77; with_reducible refine (D3 _).out.mono ?_; rintro e w' ⟨rfl, n, rfl⟩))
    go_ret
    exact ⟨rfl, BC.out _⟩
set_option maxHeartbeats 4000000 in
theorem rCorners_any (b : Bx) (w : World) : Calls Try.prog 58 #[b.v] w fun e w' => e = .returned (c4 (cr b 0) (cr b 1) (cr b 2) (cr b 3)) ∧ Below w.heap.size w w' := by
  have C1 := fun W => rProper_any b W
  cases hz : okB b
  · rw [hz] at C1
    obtain ⟨R, hR⟩ : ∃ R, c4 (cr b 0) (cr b 1) (cr b 2) (cr b 3) = R := ⟨_, rfl⟩
    have hR1 : R = c4 ⟨0, 0⟩ ⟨0, 0⟩ ⟨0, 0⟩ ⟨0, 0⟩ := by rw [← hR]; simp [c4, cr, hz]
    rw [hR, hR1]
    clear hR hR1 hz
    go_enter Try.func58, Try.ntmps58
    go_wp2_with fail
    obtain ⟨W0, hW0⟩ : ∃ W0, ((w).alloc (.cells #[.int .i64 b.x.lo, .int .i64 b.x.hi, .int .i64 b.y.lo, .int .i64 b.y.hi] 60)).alloc (.cells #[.int .i64 (0), .int .i64 (0), .int .i64 (0), .int .i64 (0), .int .i64 (0), .int .i64 (0), .int .i64 (0), .int .i64 (0)] 68) = W0 := ⟨_, rfl⟩
    have S0 : St w W0 [(w.heap.size + 1, 0, .int .i64 (0)), (w.heap.size + 1, 1, .int .i64 (0)), (w.heap.size + 1, 2, .int .i64 (0)), (w.heap.size + 1, 3, .int .i64 (0)), (w.heap.size + 1, 4, .int .i64 (0)), (w.heap.size + 1, 5, .int .i64 (0)), (w.heap.size + 1, 6, .int .i64 (0)), (w.heap.size + 1, 7, .int .i64 (0)), (w.heap.size, 0, .int .i64 b.x.lo), (w.heap.size, 1, .int .i64 b.x.hi), (w.heap.size, 2, .int .i64 b.y.lo), (w.heap.size, 3, .int .i64 b.y.hi)] := by rw [← hW0]; exact (((St.nil w)).box #[.int .i64 b.x.lo, .int .i64 b.x.hi, .int .i64 b.y.lo, .int .i64 b.y.hi] 60 (w.heap.size) (by simp)).box #[.int .i64 (0), .int .i64 (0), .int .i64 (0), .int .i64 (0), .int .i64 (0), .int .i64 (0), .int .i64 (0), .int .i64 (0)] 68 (w.heap.size + 1) (by simp)
    rw [hW0]
    clear hW0
    obtain ⟨C, hC0, HC, LC, BC, hne⟩ := cls S0
    haveI := hne
    obtain ⟨c0, rfl⟩ : ∃ n : Wd C, W0 = n.w := ⟨⟨_, hC0⟩, rfl⟩
    have fC0 : ∀ n : Wd C, n.w.cell? ⟨w.heap.size + 1, 0, none⟩ = some (.int .i64 (0)) := fun n => (LC.out n).1.2.1
    have zC0 : ∀ n : Wd C, n.w.frozen? ⟨w.heap.size + 1, 0, none⟩ = false := fun n => (LC.out n).1.2.2
    have fC1 : ∀ n : Wd C, n.w.cell? ⟨w.heap.size + 1, 1, none⟩ = some (.int .i64 (0)) := fun n => (LC.out n).2.1.2.1
    have zC1 : ∀ n : Wd C, n.w.frozen? ⟨w.heap.size + 1, 1, none⟩ = false := fun n => (LC.out n).2.1.2.2
    have fC2 : ∀ n : Wd C, n.w.cell? ⟨w.heap.size + 1, 2, none⟩ = some (.int .i64 (0)) := fun n => (LC.out n).2.2.1.2.1
    have zC2 : ∀ n : Wd C, n.w.frozen? ⟨w.heap.size + 1, 2, none⟩ = false := fun n => (LC.out n).2.2.1.2.2
    have fC3 : ∀ n : Wd C, n.w.cell? ⟨w.heap.size + 1, 3, none⟩ = some (.int .i64 (0)) := fun n => (LC.out n).2.2.2.1.2.1
    have zC3 : ∀ n : Wd C, n.w.frozen? ⟨w.heap.size + 1, 3, none⟩ = false := fun n => (LC.out n).2.2.2.1.2.2
    have fC4 : ∀ n : Wd C, n.w.cell? ⟨w.heap.size + 1, 4, none⟩ = some (.int .i64 (0)) := fun n => (LC.out n).2.2.2.2.1.2.1
    have zC4 : ∀ n : Wd C, n.w.frozen? ⟨w.heap.size + 1, 4, none⟩ = false := fun n => (LC.out n).2.2.2.2.1.2.2
    have fC5 : ∀ n : Wd C, n.w.cell? ⟨w.heap.size + 1, 5, none⟩ = some (.int .i64 (0)) := fun n => (LC.out n).2.2.2.2.2.1.2.1
    have zC5 : ∀ n : Wd C, n.w.frozen? ⟨w.heap.size + 1, 5, none⟩ = false := fun n => (LC.out n).2.2.2.2.2.1.2.2
    have fC6 : ∀ n : Wd C, n.w.cell? ⟨w.heap.size + 1, 6, none⟩ = some (.int .i64 (0)) := fun n => (LC.out n).2.2.2.2.2.2.1.2.1
    have zC6 : ∀ n : Wd C, n.w.frozen? ⟨w.heap.size + 1, 6, none⟩ = false := fun n => (LC.out n).2.2.2.2.2.2.1.2.2
    have fC7 : ∀ n : Wd C, n.w.cell? ⟨w.heap.size + 1, 7, none⟩ = some (.int .i64 (0)) := fun n => (LC.out n).2.2.2.2.2.2.2.1.2.1
    have zC7 : ∀ n : Wd C, n.w.frozen? ⟨w.heap.size + 1, 7, none⟩ = false := fun n => (LC.out n).2.2.2.2.2.2.2.1.2.2
    have fC8 : ∀ n : Wd C, n.w.cell? ⟨w.heap.size, 0, none⟩ = some (.int .i64 b.x.lo) := fun n => (LC.out n).2.2.2.2.2.2.2.2.1.2.1
    have fC9 : ∀ n : Wd C, n.w.cell? ⟨w.heap.size, 1, none⟩ = some (.int .i64 b.x.hi) := fun n => (LC.out n).2.2.2.2.2.2.2.2.2.1.2.1
    have fC10 : ∀ n : Wd C, n.w.cell? ⟨w.heap.size, 2, none⟩ = some (.int .i64 b.y.lo) := fun n => (LC.out n).2.2.2.2.2.2.2.2.2.2.1.2.1
    have fC11 : ∀ n : Wd C, n.w.cell? ⟨w.heap.size, 3, none⟩ = some (.int .i64 b.y.hi) := fun n => (LC.out n).2.2.2.2.2.2.2.2.2.2.2.1.2.1
    clear S0 hC0
    have D1 := cin HC C1
    clear C1
    go_wp2_with (first | (go_at_call 54; with_reducible refine (D1 _).out.mono ?_; rintro e w' ⟨rfl, n, rfl⟩))
    refine bodyPost_ret (v := c4 ⟨0, 0⟩ ⟨0, 0⟩ ⟨0, 0⟩ ⟨0, 0⟩) (by simp [results, Try.results58, go_sem, fC0, fC1, fC2, fC3, fC4, fC5, fC6, fC7]) rfl ⟨rfl, ?_⟩
    exact below_set8 (BC.out _) _ _ _ _ _ _ _ _ _ (by omega)
  · rw [hz] at C1
    obtain ⟨R, hR⟩ : ∃ R, c4 (cr b 0) (cr b 1) (cr b 2) (cr b 3) = R := ⟨_, rfl⟩
    have hR1 : R = c4 ⟨b.x.lo, b.y.lo⟩ ⟨b.x.hi, b.y.lo⟩ ⟨b.x.hi, b.y.hi⟩ ⟨b.x.lo, b.y.hi⟩ := by rw [← hR]; simp [c4, cr, hz]
    rw [hR, hR1]
    clear hR hR1 hz
    go_enter Try.func58, Try.ntmps58
    go_wp2_with fail
    obtain ⟨W0, hW0⟩ : ∃ W0, ((w).alloc (.cells #[.int .i64 b.x.lo, .int .i64 b.x.hi, .int .i64 b.y.lo, .int .i64 b.y.hi] 60)).alloc (.cells #[.int .i64 (0), .int .i64 (0), .int .i64 (0), .int .i64 (0), .int .i64 (0), .int .i64 (0), .int .i64 (0), .int .i64 (0)] 68) = W0 := ⟨_, rfl⟩
    have S0 : St w W0 [(w.heap.size + 1, 0, .int .i64 (0)), (w.heap.size + 1, 1, .int .i64 (0)), (w.heap.size + 1, 2, .int .i64 (0)), (w.heap.size + 1, 3, .int .i64 (0)), (w.heap.size + 1, 4, .int .i64 (0)), (w.heap.size + 1, 5, .int .i64 (0)), (w.heap.size + 1, 6, .int .i64 (0)), (w.heap.size + 1, 7, .int .i64 (0)), (w.heap.size, 0, .int .i64 b.x.lo), (w.heap.size, 1, .int .i64 b.x.hi), (w.heap.size, 2, .int .i64 b.y.lo), (w.heap.size, 3, .int .i64 b.y.hi)] := by rw [← hW0]; exact (((St.nil w)).box #[.int .i64 b.x.lo, .int .i64 b.x.hi, .int .i64 b.y.lo, .int .i64 b.y.hi] 60 (w.heap.size) (by simp)).box #[.int .i64 (0), .int .i64 (0), .int .i64 (0), .int .i64 (0), .int .i64 (0), .int .i64 (0), .int .i64 (0), .int .i64 (0)] 68 (w.heap.size + 1) (by simp)
    rw [hW0]
    clear hW0
    obtain ⟨C, hC0, HC, LC, BC, hne⟩ := cls S0
    haveI := hne
    obtain ⟨c0, rfl⟩ : ∃ n : Wd C, W0 = n.w := ⟨⟨_, hC0⟩, rfl⟩
    have fC0 : ∀ n : Wd C, n.w.cell? ⟨w.heap.size + 1, 0, none⟩ = some (.int .i64 (0)) := fun n => (LC.out n).1.2.1
    have zC0 : ∀ n : Wd C, n.w.frozen? ⟨w.heap.size + 1, 0, none⟩ = false := fun n => (LC.out n).1.2.2
    have fC1 : ∀ n : Wd C, n.w.cell? ⟨w.heap.size + 1, 1, none⟩ = some (.int .i64 (0)) := fun n => (LC.out n).2.1.2.1
    have zC1 : ∀ n : Wd C, n.w.frozen? ⟨w.heap.size + 1, 1, none⟩ = false := fun n => (LC.out n).2.1.2.2
    have fC2 : ∀ n : Wd C, n.w.cell? ⟨w.heap.size + 1, 2, none⟩ = some (.int .i64 (0)) := fun n => (LC.out n).2.2.1.2.1
    have zC2 : ∀ n : Wd C, n.w.frozen? ⟨w.heap.size + 1, 2, none⟩ = false := fun n => (LC.out n).2.2.1.2.2
    have fC3 : ∀ n : Wd C, n.w.cell? ⟨w.heap.size + 1, 3, none⟩ = some (.int .i64 (0)) := fun n => (LC.out n).2.2.2.1.2.1
    have zC3 : ∀ n : Wd C, n.w.frozen? ⟨w.heap.size + 1, 3, none⟩ = false := fun n => (LC.out n).2.2.2.1.2.2
    have fC4 : ∀ n : Wd C, n.w.cell? ⟨w.heap.size + 1, 4, none⟩ = some (.int .i64 (0)) := fun n => (LC.out n).2.2.2.2.1.2.1
    have zC4 : ∀ n : Wd C, n.w.frozen? ⟨w.heap.size + 1, 4, none⟩ = false := fun n => (LC.out n).2.2.2.2.1.2.2
    have fC5 : ∀ n : Wd C, n.w.cell? ⟨w.heap.size + 1, 5, none⟩ = some (.int .i64 (0)) := fun n => (LC.out n).2.2.2.2.2.1.2.1
    have zC5 : ∀ n : Wd C, n.w.frozen? ⟨w.heap.size + 1, 5, none⟩ = false := fun n => (LC.out n).2.2.2.2.2.1.2.2
    have fC6 : ∀ n : Wd C, n.w.cell? ⟨w.heap.size + 1, 6, none⟩ = some (.int .i64 (0)) := fun n => (LC.out n).2.2.2.2.2.2.1.2.1
    have zC6 : ∀ n : Wd C, n.w.frozen? ⟨w.heap.size + 1, 6, none⟩ = false := fun n => (LC.out n).2.2.2.2.2.2.1.2.2
    have fC7 : ∀ n : Wd C, n.w.cell? ⟨w.heap.size + 1, 7, none⟩ = some (.int .i64 (0)) := fun n => (LC.out n).2.2.2.2.2.2.2.1.2.1
    have zC7 : ∀ n : Wd C, n.w.frozen? ⟨w.heap.size + 1, 7, none⟩ = false := fun n => (LC.out n).2.2.2.2.2.2.2.1.2.2
    have fC8 : ∀ n : Wd C, n.w.cell? ⟨w.heap.size, 0, none⟩ = some (.int .i64 b.x.lo) := fun n => (LC.out n).2.2.2.2.2.2.2.2.1.2.1
    have fC9 : ∀ n : Wd C, n.w.cell? ⟨w.heap.size, 1, none⟩ = some (.int .i64 b.x.hi) := fun n => (LC.out n).2.2.2.2.2.2.2.2.2.1.2.1
    have fC10 : ∀ n : Wd C, n.w.cell? ⟨w.heap.size, 2, none⟩ = some (.int .i64 b.y.lo) := fun n => (LC.out n).2.2.2.2.2.2.2.2.2.2.1.2.1
    have fC11 : ∀ n : Wd C, n.w.cell? ⟨w.heap.size, 3, none⟩ = some (.int .i64 b.y.hi) := fun n => (LC.out n).2.2.2.2.2.2.2.2.2.2.2.1.2.1
    clear S0 hC0
    have D1 := cin HC C1
    clear C1
    go_wp2_with (first | (go_at_call 54; with_reducible refine (D1 _).out.mono ?_; rintro e w' ⟨rfl, n, rfl⟩))
    refine bodyPost_ret (v := c4 ⟨b.x.lo, b.y.lo⟩ ⟨b.x.hi, b.y.lo⟩ ⟨b.x.hi, b.y.hi⟩ ⟨b.x.lo, b.y.hi⟩) (by simp [results, Try.results58, go_sem, fC0, fC1, fC2, fC3, fC4, fC5, fC6, fC7]) rfl ⟨rfl, ?_⟩
    exact below_set8 (BC.out _) _ _ _ _ _ _ _ _ _ (by omega)
end Go.Proofs.Ytdefpcjlbganpaa
namespace Go.Proofs.Ytdefpcjlbganpaa
open Go.RowKit Go.Shelf Go.BigFrame
attribute [local go_sem] Oper.semAt_some
attribute [local go_sem] World.cell?_alloc_some
set_option maxHeartbeats 4000000 in
theorem rMeet_any (a b : Bx) (w : World) : Calls Try.prog 46 #[a.v, b.v] w fun e w' => e = .returned (bxRes (meetB a b)) ∧ Below w.heap.size w w' := by
  have C1 := fun W => rProper_any a W
  have C2 := fun W => rProper_any b W
  have C3 := fun W => rProper_any ⟨⟨max a.x.lo b.x.lo, min a.x.hi b.x.hi⟩, ⟨max a.y.lo b.y.lo, min a.y.hi b.y.hi⟩⟩ W
  obtain ⟨za, hza⟩ : ∃ z, okB a = z := ⟨_, rfl⟩
  obtain ⟨zb, hzb⟩ : ∃ z, okB b = z := ⟨_, rfl⟩
  obtain ⟨zc, hzc⟩ : ∃ z, okB ⟨⟨max a.x.lo b.x.lo, min a.x.hi b.x.hi⟩, ⟨max a.y.lo b.y.lo, min a.y.hi b.y.hi⟩⟩ = z := ⟨_, rfl⟩
  have HR : meetB a b = if za && (zb && zc) then some ⟨⟨max a.x.lo b.x.lo, min a.x.hi b.x.hi⟩, ⟨max a.y.lo b.y.lo, min a.y.hi b.y.hi⟩⟩ else none := by
    unfold meetB mxB mxS
    rw [hza, hzb, hzc]
  obtain ⟨R, hR⟩ : ∃ R, meetB a b = R := ⟨_, rfl⟩
  rw [hR] at HR ⊢
  have HR := Lib.hid HR
  simp only [hza] at C1
  simp only [hzb] at C2
  simp only [hzc] at C3
  clear hza hzb hzc hR
  go_enter Try.func46, Try.ntmps46
  go_wp2_with fail
  obtain ⟨W0, hW0⟩ : ∃ W0, (((w).alloc (.cells #[.int .i64 a.x.lo, .int .i64 a.x.hi, .int .i64 a.y.lo, .int .i64 a.y.hi] 60)).alloc (.cells #[.int .i64 b.x.lo, .int .i64 b.x.hi, .int .i64 b.y.lo, .int .i64 b.y.hi] 60)).alloc (.cells #[.int .i64 (0), .int .i64 (0), .int .i64 (0), .int .i64 (0)] 60) = W0 := ⟨_, rfl⟩
  have S0 : St w W0 [(w.heap.size + 1 + 1, 0, .int .i64 (0)), (w.heap.size + 1 + 1, 1, .int .i64 (0)), (w.heap.size + 1 + 1, 2, .int .i64 (0)), (w.heap.size + 1 + 1, 3, .int .i64 (0)), (w.heap.size + 1, 0, .int .i64 b.x.lo), (w.heap.size + 1, 1, .int .i64 b.x.hi), (w.heap.size + 1, 2, .int .i64 b.y.lo), (w.heap.size + 1, 3, .int .i64 b.y.hi), (w.heap.size, 0, .int .i64 a.x.lo), (w.heap.size, 1, .int .i64 a.x.hi), (w.heap.size, 2, .int .i64 a.y.lo), (w.heap.size, 3, .int .i64 a.y.hi)] := by rw [← hW0]; exact ((((St.nil w)).box #[.int .i64 a.x.lo, .int .i64 a.x.hi, .int .i64 a.y.lo, .int .i64 a.y.hi] 60 (w.heap.size) (by simp)).box #[.int .i64 b.x.lo, .int .i64 b.x.hi, .int .i64 b.y.lo, .int .i64 b.y.hi] 60 (w.heap.size + 1) (by simp)).box #[.int .i64 (0), .int .i64 (0), .int .i64 (0), .int .i64 (0)] 60 (w.heap.size + 1 + 1) (by simp)
  rw [hW0]
  clear hW0
  obtain ⟨C, hC0, HC, LC, BC, hne⟩ := cls S0
  haveI := hne
  obtain ⟨c0, rfl⟩ : ∃ n : Wd C, W0 = n.w := ⟨⟨_, hC0⟩, rfl⟩
  have fC0 : ∀ n : Wd C, n.w.cell? ⟨w.heap.size + 1 + 1, 0, none⟩ = some (.int .i64 (0)) := fun n => (LC.out n).1.2.1
  have zC0 : ∀ n : Wd C, n.w.frozen? ⟨w.heap.size + 1 + 1, 0, none⟩ = false := fun n => (LC.out n).1.2.2
  have fC1 : ∀ n : Wd C, n.w.cell? ⟨w.heap.size + 1 + 1, 1, none⟩ = some (.int .i64 (0)) := fun n => (LC.out n).2.1.2.1
  have zC1 : ∀ n : Wd C, n.w.frozen? ⟨w.heap.size + 1 + 1, 1, none⟩ = false := fun n => (LC.out n).2.1.2.2
  have fC2 : ∀ n : Wd C, n.w.cell? ⟨w.heap.size + 1 + 1, 2, none⟩ = some (.int .i64 (0)) := fun n => (LC.out n).2.2.1.2.1
  have zC2 : ∀ n : Wd C, n.w.frozen? ⟨w.heap.size + 1 + 1, 2, none⟩ = false := fun n => (LC.out n).2.2.1.2.2
  have fC3 : ∀ n : Wd C, n.w.cell? ⟨w.heap.size + 1 + 1, 3, none⟩ = some (.int .i64 (0)) := fun n => (LC.out n).2.2.2.1.2.1
  have zC3 : ∀ n : Wd C, n.w.frozen? ⟨w.heap.size + 1 + 1, 3, none⟩ = false := fun n => (LC.out n).2.2.2.1.2.2
  have fC4 : ∀ n : Wd C, n.w.cell? ⟨w.heap.size + 1, 0, none⟩ = some (.int .i64 b.x.lo) := fun n => (LC.out n).2.2.2.2.1.2.1
  have fC5 : ∀ n : Wd C, n.w.cell? ⟨w.heap.size + 1, 1, none⟩ = some (.int .i64 b.x.hi) := fun n => (LC.out n).2.2.2.2.2.1.2.1
  have fC6 : ∀ n : Wd C, n.w.cell? ⟨w.heap.size + 1, 2, none⟩ = some (.int .i64 b.y.lo) := fun n => (LC.out n).2.2.2.2.2.2.1.2.1
  have fC7 : ∀ n : Wd C, n.w.cell? ⟨w.heap.size + 1, 3, none⟩ = some (.int .i64 b.y.hi) := fun n => (LC.out n).2.2.2.2.2.2.2.1.2.1
  have fC8 : ∀ n : Wd C, n.w.cell? ⟨w.heap.size, 0, none⟩ = some (.int .i64 a.x.lo) := fun n => (LC.out n).2.2.2.2.2.2.2.2.1.2.1
  have fC9 : ∀ n : Wd C, n.w.cell? ⟨w.heap.size, 1, none⟩ = some (.int .i64 a.x.hi) := fun n => (LC.out n).2.2.2.2.2.2.2.2.2.1.2.1
  have fC10 : ∀ n : Wd C, n.w.cell? ⟨w.heap.size, 2, none⟩ = some (.int .i64 a.y.lo) := fun n => (LC.out n).2.2.2.2.2.2.2.2.2.2.1.2.1
  have fC11 : ∀ n : Wd C, n.w.cell? ⟨w.heap.size, 3, none⟩ = some (.int .i64 a.y.hi) := fun n => (LC.out n).2.2.2.2.2.2.2.2.2.2.2.1.2.1
  clear S0 hC0
  have D1 := cin HC C1
  have D2 := cin HC C2
  clear C1 C2
  go_wp2_with (first | (go_at_call 54; with_reducible refine (D1 _).out.mono ?_; rintro e w' ⟨rfl, n, rfl⟩) | (go_at_call 54; with_reducible refine (D2 _).out.mono ?_; rintro e w' ⟨rfl, n, rfl⟩))
  obtain ⟨W0, hW0⟩ : ∃ W0, (n.w).alloc (.cells #[.int .i64 (max a.x.lo b.x.lo), .int .i64 (min a.x.hi b.x.hi), .int .i64 (max a.y.lo b.y.lo), .int .i64 (min a.y.hi b.y.hi)] 60) = W0 := ⟨_, rfl⟩
  have S0 : St w W0 [(n.w.heap.size, 0, .int .i64 (max a.x.lo b.x.lo)), (n.w.heap.size, 1, .int .i64 (min a.x.hi b.x.hi)), (n.w.heap.size, 2, .int .i64 (max a.y.lo b.y.lo)), (n.w.heap.size, 3, .int .i64 (min a.y.hi b.y.hi)), (w.heap.size + 1 + 1, 0, .int .i64 (0)), (w.heap.size + 1 + 1, 1, .int .i64 (0)), (w.heap.size + 1 + 1, 2, .int .i64 (0)), (w.heap.size + 1 + 1, 3, .int .i64 (0)), (w.heap.size + 1, 0, .int .i64 b.x.lo), (w.heap.size + 1, 1, .int .i64 b.x.hi), (w.heap.size + 1, 2, .int .i64 b.y.lo), (w.heap.size + 1, 3, .int .i64 b.y.hi), (w.heap.size, 0, .int .i64 a.x.lo), (w.heap.size, 1, .int .i64 a.x.hi), (w.heap.size, 2, .int .i64 a.y.lo), (w.heap.size, 3, .int .i64 a.y.hi)] := by rw [← hW0]; exact ((⟨BC.out n, LC.out n⟩ : St w n.w _)).box #[.int .i64 (max a.x.lo b.x.lo), .int .i64 (min a.x.hi b.x.hi), .int .i64 (max a.y.lo b.y.lo), .int .i64 (min a.y.hi b.y.hi)] 60 (n.w.heap.size) (by simp)
  rw [hW0]
  clear hW0
  obtain ⟨kD, hkk⟩ : ∃ k, n.w.heap.size = k := ⟨_, rfl⟩
  rw [hkk] at S0 ⊢
  have eD1 : kD ≠ w.heap.size + 1 + 1 := by have h := (LC.out n).1.1; omega
  have dD1 : w.heap.size + 1 + 1 ≠ kD := Ne.symm eD1
  clear hkk
  obtain ⟨D, hC0, HD, LD, BD, hne⟩ := cls S0
  haveI := hne
  obtain ⟨d0, rfl⟩ : ∃ n : Wd D, W0 = n.w := ⟨⟨_, hC0⟩, rfl⟩
  have fD0 : ∀ n : Wd D, n.w.cell? ⟨kD, 0, none⟩ = some (.int .i64 (max a.x.lo b.x.lo)) := fun n => (LD.out n).1.2.1
  have fD1 : ∀ n : Wd D, n.w.cell? ⟨kD, 1, none⟩ = some (.int .i64 (min a.x.hi b.x.hi)) := fun n => (LD.out n).2.1.2.1
  have fD2 : ∀ n : Wd D, n.w.cell? ⟨kD, 2, none⟩ = some (.int .i64 (max a.y.lo b.y.lo)) := fun n => (LD.out n).2.2.1.2.1
  have fD3 : ∀ n : Wd D, n.w.cell? ⟨kD, 3, none⟩ = some (.int .i64 (min a.y.hi b.y.hi)) := fun n => (LD.out n).2.2.2.1.2.1
  have fD4 : ∀ n : Wd D, n.w.cell? ⟨w.heap.size + 1 + 1, 0, none⟩ = some (.int .i64 (0)) := fun n => (LD.out n).2.2.2.2.1.2.1
  have zD4 : ∀ n : Wd D, n.w.frozen? ⟨w.heap.size + 1 + 1, 0, none⟩ = false := fun n => (LD.out n).2.2.2.2.1.2.2
  have fD5 : ∀ n : Wd D, n.w.cell? ⟨w.heap.size + 1 + 1, 1, none⟩ = some (.int .i64 (0)) := fun n => (LD.out n).2.2.2.2.2.1.2.1
  have zD5 : ∀ n : Wd D, n.w.frozen? ⟨w.heap.size + 1 + 1, 1, none⟩ = false := fun n => (LD.out n).2.2.2.2.2.1.2.2
  have fD6 : ∀ n : Wd D, n.w.cell? ⟨w.heap.size + 1 + 1, 2, none⟩ = some (.int .i64 (0)) := fun n => (LD.out n).2.2.2.2.2.2.1.2.1
  have zD6 : ∀ n : Wd D, n.w.frozen? ⟨w.heap.size + 1 + 1, 2, none⟩ = false := fun n => (LD.out n).2.2.2.2.2.2.1.2.2
  have fD7 : ∀ n : Wd D, n.w.cell? ⟨w.heap.size + 1 + 1, 3, none⟩ = some (.int .i64 (0)) := fun n => (LD.out n).2.2.2.2.2.2.2.1.2.1
  have zD7 : ∀ n : Wd D, n.w.frozen? ⟨w.heap.size + 1 + 1, 3, none⟩ = false := fun n => (LD.out n).2.2.2.2.2.2.2.1.2.2
  have fD8 : ∀ n : Wd D, n.w.cell? ⟨w.heap.size + 1, 0, none⟩ = some (.int .i64 b.x.lo) := fun n => (LD.out n).2.2.2.2.2.2.2.2.1.2.1
  have fD9 : ∀ n : Wd D, n.w.cell? ⟨w.heap.size + 1, 1, none⟩ = some (.int .i64 b.x.hi) := fun n => (LD.out n).2.2.2.2.2.2.2.2.2.1.2.1
  have fD10 : ∀ n : Wd D, n.w.cell? ⟨w.heap.size + 1, 2, none⟩ = some (.int .i64 b.y.lo) := fun n => (LD.out n).2.2.2.2.2.2.2.2.2.2.1.2.1
  have fD11 : ∀ n : Wd D, n.w.cell? ⟨w.heap.size + 1, 3, none⟩ = some (.int .i64 b.y.hi) := fun n => (LD.out n).2.2.2.2.2.2.2.2.2.2.2.1.2.1
  have fD12 : ∀ n : Wd D, n.w.cell? ⟨w.heap.size, 0, none⟩ = some (.int .i64 a.x.lo) := fun n => (LD.out n).2.2.2.2.2.2.2.2.2.2.2.2.1.2.1
  have fD13 : ∀ n : Wd D, n.w.cell? ⟨w.heap.size, 1, none⟩ = some (.int .i64 a.x.hi) := fun n => (LD.out n).2.2.2.2.2.2.2.2.2.2.2.2.2.1.2.1
  have fD14 : ∀ n : Wd D, n.w.cell? ⟨w.heap.size, 2, none⟩ = some (.int .i64 a.y.lo) := fun n => (LD.out n).2.2.2.2.2.2.2.2.2.2.2.2.2.2.1.2.1
  have fD15 : ∀ n : Wd D, n.w.cell? ⟨w.heap.size, 3, none⟩ = some (.int .i64 a.y.hi) := fun n => (LD.out n).2.2.2.2.2.2.2.2.2.2.2.2.2.2.2.1.2.1
  clear S0 hC0
  have D3 := cin HD C3
  clear C3 D1 D2
  cases za <;> cases zb <;> cases zc
  all_goals
    go_wp2_with (first | (go_at_call 54; with_reducible refine (D3 _).out.mono ?_; rintro e w' ⟨rfl, n, rfl⟩))
    first
    | (have hRR : R = none := by simpa using HR.out
       subst hRR
       refine bodyPost_ret (v := bxRes none) (by simp [results, Try.results46, go_sem, bxRes, bx0, fD4, fD5, fD6, fD7]) rfl ⟨rfl, ?_⟩
       exact below_set4 (BD.out _) _ _ _ _ _ (by omega))
    | (have hRR : R = some ⟨⟨max a.x.lo b.x.lo, min a.x.hi b.x.hi⟩, ⟨max a.y.lo b.y.lo, min a.y.hi b.y.hi⟩⟩ := by simpa using HR.out
       subst hRR
       refine bodyPost_ret (v := bxRes (some ⟨⟨max a.x.lo b.x.lo, min a.x.hi b.x.hi⟩, ⟨max a.y.lo b.y.lo, min a.y.hi b.y.hi⟩⟩)) (by simp [results, Try.results46, go_sem, bxRes, fD4, fD5, fD6, fD7]) rfl ⟨rfl, ?_⟩
       exact below_set4 (BD.out _) _ _ _ _ _ (by omega))
set_option maxHeartbeats 4000000 in
theorem rCover_any (a b : Bx) (w : World) : Calls Try.prog 48 #[a.v, b.v] w fun e w' => e = .returned (bxRes (cvB a b)) ∧ Below w.heap.size w w' := by
  have C1 := fun W => rProper_any a W
  have C2 := fun W => rProper_any b W
  obtain ⟨za, hza⟩ : ∃ z, okB a = z := ⟨_, rfl⟩
  obtain ⟨zb, hzb⟩ : ∃ z, okB b = z := ⟨_, rfl⟩
  have HR : cvB a b = if za && zb then some ⟨⟨min a.x.lo b.x.lo, max a.x.hi b.x.hi⟩, ⟨min a.y.lo b.y.lo, max a.y.hi b.y.hi⟩⟩ else none := by
    unfold cvB cvS
    rw [hza, hzb]
  obtain ⟨R, hR⟩ : ∃ R, cvB a b = R := ⟨_, rfl⟩
  rw [hR] at HR ⊢
  have HR := Lib.hid HR
  simp only [hza] at C1
  simp only [hzb] at C2
  clear hza hzb hR
  go_enter Try.func48, Try.ntmps48
  go_wp2_with fail
  obtain ⟨W0, hW0⟩ : ∃ W0, (((w).alloc (.cells #[.int .i64 a.x.lo, .int .i64 a.x.hi, .int .i64 a.y.lo, .int .i64 a.y.hi] 60)).alloc (.cells #[.int .i64 b.x.lo, .int .i64 b.x.hi, .int .i64 b.y.lo, .int .i64 b.y.hi] 60)).alloc (.cells #[.int .i64 (0), .int .i64 (0), .int .i64 (0), .int .i64 (0)] 60) = W0 := ⟨_, rfl⟩
  have S0 : St w W0 [(w.heap.size + 1 + 1, 0, .int .i64 (0)), (w.heap.size + 1 + 1, 1, .int .i64 (0)), (w.heap.size + 1 + 1, 2, .int .i64 (0)), (w.heap.size + 1 + 1, 3, .int .i64 (0)), (w.heap.size + 1, 0, .int .i64 b.x.lo), (w.heap.size + 1, 1, .int .i64 b.x.hi), (w.heap.size + 1, 2, .int .i64 b.y.lo), (w.heap.size + 1, 3, .int .i64 b.y.hi), (w.heap.size, 0, .int .i64 a.x.lo), (w.heap.size, 1, .int .i64 a.x.hi), (w.heap.size, 2, .int .i64 a.y.lo), (w.heap.size, 3, .int .i64 a.y.hi)] := by rw [← hW0]; exact ((((St.nil w)).box #[.int .i64 a.x.lo, .int .i64 a.x.hi, .int .i64 a.y.lo, .int .i64 a.y.hi] 60 (w.heap.size) (by simp)).box #[.int .i64 b.x.lo, .int .i64 b.x.hi, .int .i64 b.y.lo, .int .i64 b.y.hi] 60 (w.heap.size + 1) (by simp)).box #[.int .i64 (0), .int .i64 (0), .int .i64 (0), .int .i64 (0)] 60 (w.heap.size + 1 + 1) (by simp)
  rw [hW0]
  clear hW0
  obtain ⟨C, hC0, HC, LC, BC, hne⟩ := cls S0
  haveI := hne
  obtain ⟨c0, rfl⟩ : ∃ n : Wd C, W0 = n.w := ⟨⟨_, hC0⟩, rfl⟩
  have fC0 : ∀ n : Wd C, n.w.cell? ⟨w.heap.size + 1 + 1, 0, none⟩ = some (.int .i64 (0)) := fun n => (LC.out n).1.2.1
  have zC0 : ∀ n : Wd C, n.w.frozen? ⟨w.heap.size + 1 + 1, 0, none⟩ = false := fun n => (LC.out n).1.2.2
  have fC1 : ∀ n : Wd C, n.w.cell? ⟨w.heap.size + 1 + 1, 1, none⟩ = some (.int .i64 (0)) := fun n => (LC.out n).2.1.2.1
  have zC1 : ∀ n : Wd C, n.w.frozen? ⟨w.heap.size + 1 + 1, 1, none⟩ = false := fun n => (LC.out n).2.1.2.2
  have fC2 : ∀ n : Wd C, n.w.cell? ⟨w.heap.size + 1 + 1, 2, none⟩ = some (.int .i64 (0)) := fun n => (LC.out n).2.2.1.2.1
  have zC2 : ∀ n : Wd C, n.w.frozen? ⟨w.heap.size + 1 + 1, 2, none⟩ = false := fun n => (LC.out n).2.2.1.2.2
  have fC3 : ∀ n : Wd C, n.w.cell? ⟨w.heap.size + 1 + 1, 3, none⟩ = some (.int .i64 (0)) := fun n => (LC.out n).2.2.2.1.2.1
  have zC3 : ∀ n : Wd C, n.w.frozen? ⟨w.heap.size + 1 + 1, 3, none⟩ = false := fun n => (LC.out n).2.2.2.1.2.2
  have fC4 : ∀ n : Wd C, n.w.cell? ⟨w.heap.size + 1, 0, none⟩ = some (.int .i64 b.x.lo) := fun n => (LC.out n).2.2.2.2.1.2.1
  have fC5 : ∀ n : Wd C, n.w.cell? ⟨w.heap.size + 1, 1, none⟩ = some (.int .i64 b.x.hi) := fun n => (LC.out n).2.2.2.2.2.1.2.1
  have fC6 : ∀ n : Wd C, n.w.cell? ⟨w.heap.size + 1, 2, none⟩ = some (.int .i64 b.y.lo) := fun n => (LC.out n).2.2.2.2.2.2.1.2.1
  have fC7 : ∀ n : Wd C, n.w.cell? ⟨w.heap.size + 1, 3, none⟩ = some (.int .i64 b.y.hi) := fun n => (LC.out n).2.2.2.2.2.2.2.1.2.1
  have fC8 : ∀ n : Wd C, n.w.cell? ⟨w.heap.size, 0, none⟩ = some (.int .i64 a.x.lo) := fun n => (LC.out n).2.2.2.2.2.2.2.2.1.2.1
  have fC9 : ∀ n : Wd C, n.w.cell? ⟨w.heap.size, 1, none⟩ = some (.int .i64 a.x.hi) := fun n => (LC.out n).2.2.2.2.2.2.2.2.2.1.2.1
  have fC10 : ∀ n : Wd C, n.w.cell? ⟨w.heap.size, 2, none⟩ = some (.int .i64 a.y.lo) := fun n => (LC.out n).2.2.2.2.2.2.2.2.2.2.1.2.1
  have fC11 : ∀ n : Wd C, n.w.cell? ⟨w.heap.size, 3, none⟩ = some (.int .i64 a.y.hi) := fun n => (LC.out n).2.2.2.2.2.2.2.2.2.2.2.1.2.1
  clear S0 hC0
  have D1 := cin HC C1
  have D2 := cin HC C2
  clear C1 C2
  cases za <;> cases zb
  all_goals
    go_wp2_with (first | (go_at_call 54; with_reducible refine (D1 _).out.mono ?_; rintro e w' ⟨rfl, n, rfl⟩) | (go_at_call 54; with_reducible refine (D2 _).out.mono ?_; rintro e w' ⟨rfl, n, rfl⟩))
    first
    | (have hRR : R = none := by simpa using HR.out
       subst hRR
       refine bodyPost_ret (v := bxRes none) (by simp [results, Try.results48, go_sem, bxRes, bx0, fC0, fC1, fC2, fC3]) rfl ⟨rfl, ?_⟩
       exact below_set4 (BC.out _) _ _ _ _ _ (by omega))
    | (have hRR : R = some ⟨⟨min a.x.lo b.x.lo, max a.x.hi b.x.hi⟩, ⟨min a.y.lo b.y.lo, max a.y.hi b.y.hi⟩⟩ := by simpa using HR.out
       subst hRR
       refine bodyPost_ret (v := bxRes (some ⟨⟨min a.x.lo b.x.lo, max a.x.hi b.x.hi⟩, ⟨min a.y.lo b.y.lo, max a.y.hi b.y.hi⟩⟩)) (by simp [results, Try.results48, go_sem, bxRes, fC0, fC1, fC2, fC3]) rfl ⟨rfl, ?_⟩
       exact below_set4 (BC.out _) _ _ _ _ _ (by omega))
set_option maxHeartbeats 4000000 in
theorem rGrow_any (b : Bx) (m : Int) (w : World) : Calls Try.prog 50 #[b.v, .int .i64 m] w fun e w' => e = .returned (bxRes (grwB b m)) ∧ Below w.heap.size w w' := by
  have C1 := fun W => rProper_any b W
  obtain ⟨za, hza⟩ : ∃ z, okB b = z := ⟨_, rfl⟩
  obtain ⟨R, hR⟩ : ∃ R, grwB b m = R := ⟨_, rfl⟩
  have HR : Hid (R = if za && decide (0 ≤ m) then some ⟨⟨max (-1048576) (b.x.lo - min m 2097152), min 1048576 (b.x.hi + min m 2097152)⟩, ⟨max (-1048576) (b.y.lo - min m 2097152), min 1048576 (b.y.hi + min m 2097152)⟩⟩ else none) := by
    rw [← hR]
    unfold Hid grwB grwS
    rw [hza]
    simp only [Int.max_comm, Int.min_comm]
  rw [hR]
  simp only [hza] at C1
  have HW : Hid (za = true → 0 ≤ m → wrap64 (b.x.lo - min m 2097152) = b.x.lo - min m 2097152 ∧ wrap64 (b.x.hi + min m 2097152) = b.x.hi + min m 2097152 ∧ wrap64 (b.y.lo - min m 2097152) = b.y.lo - min m 2097152 ∧ wrap64 (b.y.hi + min m 2097152) = b.y.hi + min m 2097152) := by
    intro h hn
    rw [h] at hza
    obtain ⟨h1, h2⟩ := okB_iff.1 hza
    have h1 := okS_sm h1
    have h2 := okS_sm h2
    exact ⟨w64 (by omega), w64 (by omega), w64 (by omega), w64 (by omega)⟩
  clear hza hR
  go_enter Try.func50, Try.ntmps50
  go_wp2_with fail
  obtain ⟨W0, hW0⟩ : ∃ W0, ((w).alloc (.cells #[.int .i64 b.x.lo, .int .i64 b.x.hi, .int .i64 b.y.lo, .int .i64 b.y.hi] 60)).alloc (.cells #[.int .i64 (0), .int .i64 (0), .int .i64 (0), .int .i64 (0)] 60) = W0 := ⟨_, rfl⟩
  have S0 : St w W0 [(w.heap.size + 1, 0, .int .i64 (0)), (w.heap.size + 1, 1, .int .i64 (0)), (w.heap.size + 1, 2, .int .i64 (0)), (w.heap.size + 1, 3, .int .i64 (0)), (w.heap.size, 0, .int .i64 b.x.lo), (w.heap.size, 1, .int .i64 b.x.hi), (w.heap.size, 2, .int .i64 b.y.lo), (w.heap.size, 3, .int .i64 b.y.hi)] := by rw [← hW0]; exact (((St.nil w)).box #[.int .i64 b.x.lo, .int .i64 b.x.hi, .int .i64 b.y.lo, .int .i64 b.y.hi] 60 (w.heap.size) (by simp)).box #[.int .i64 (0), .int .i64 (0), .int .i64 (0), .int .i64 (0)] 60 (w.heap.size + 1) (by simp)
  rw [hW0]
  clear hW0
  obtain ⟨C, hC0, HC, LC, BC, hne⟩ := cls S0
  haveI := hne
  obtain ⟨c0, rfl⟩ : ∃ n : Wd C, W0 = n.w := ⟨⟨_, hC0⟩, rfl⟩
  have fC0 : ∀ n : Wd C, n.w.cell? ⟨w.heap.size + 1, 0, none⟩ = some (.int .i64 (0)) := fun n => (LC.out n).1.2.1
  have zC0 : ∀ n : Wd C, n.w.frozen? ⟨w.heap.size + 1, 0, none⟩ = false := fun n => (LC.out n).1.2.2
  have fC1 : ∀ n : Wd C, n.w.cell? ⟨w.heap.size + 1, 1, none⟩ = some (.int .i64 (0)) := fun n => (LC.out n).2.1.2.1
  have zC1 : ∀ n : Wd C, n.w.frozen? ⟨w.heap.size + 1, 1, none⟩ = false := fun n => (LC.out n).2.1.2.2
  have fC2 : ∀ n : Wd C, n.w.cell? ⟨w.heap.size + 1, 2, none⟩ = some (.int .i64 (0)) := fun n => (LC.out n).2.2.1.2.1
  have zC2 : ∀ n : Wd C, n.w.frozen? ⟨w.heap.size + 1, 2, none⟩ = false := fun n => (LC.out n).2.2.1.2.2
  have fC3 : ∀ n : Wd C, n.w.cell? ⟨w.heap.size + 1, 3, none⟩ = some (.int .i64 (0)) := fun n => (LC.out n).2.2.2.1.2.1
  have zC3 : ∀ n : Wd C, n.w.frozen? ⟨w.heap.size + 1, 3, none⟩ = false := fun n => (LC.out n).2.2.2.1.2.2
  have fC4 : ∀ n : Wd C, n.w.cell? ⟨w.heap.size, 0, none⟩ = some (.int .i64 b.x.lo) := fun n => (LC.out n).2.2.2.2.1.2.1
  have fC5 : ∀ n : Wd C, n.w.cell? ⟨w.heap.size, 1, none⟩ = some (.int .i64 b.x.hi) := fun n => (LC.out n).2.2.2.2.2.1.2.1
  have fC6 : ∀ n : Wd C, n.w.cell? ⟨w.heap.size, 2, none⟩ = some (.int .i64 b.y.lo) := fun n => (LC.out n).2.2.2.2.2.2.1.2.1
  have fC7 : ∀ n : Wd C, n.w.cell? ⟨w.heap.size, 3, none⟩ = some (.int .i64 b.y.hi) := fun n => (LC.out n).2.2.2.2.2.2.2.1.2.1
  clear S0 hC0
  have D1 := cin HC C1
  clear C1
  cases za
  · go_wp2_with (first | (go_at_call 54; with_reducible refine (D1 _).out.mono ?_; rintro e w' ⟨rfl, n, rfl⟩))
    have hRR : R = none := by simpa using HR.out
    subst hRR
    refine bodyPost_ret (v := bxRes none) (by simp [results, Try.results50, go_sem, bxRes, bx0, fC0, fC1, fC2, fC3]) rfl ⟨rfl, ?_⟩
    exact below_set4 (BC.out _) _ _ _ _ _ (by omega)
  · by_cases hn : 0 ≤ m
    · obtain ⟨k1, k2, k3, k4⟩ := HW.out rfl hn
      have hn' : ¬ m < 0 := by omega
      have HN := Lib.hid hn
      clear HW hn
      go_wp2_with (first | (go_at_call 54; with_reducible refine (D1 _).out.mono ?_; rintro e w' ⟨rfl, n, rfl⟩))
      obtain rfl : R = some ⟨⟨max (-1048576) (b.x.lo - min m 2097152), min 1048576 (b.x.hi + min m 2097152)⟩, ⟨max (-1048576) (b.y.lo - min m 2097152), min 1048576 (b.y.hi + min m 2097152)⟩⟩ := HR.out.trans (by simp [HN.out])
      refine bodyPost_ret (v := bxRes (some ⟨⟨max (-1048576) (b.x.lo - min m 2097152), min 1048576 (b.x.hi + min m 2097152)⟩, ⟨max (-1048576) (b.y.lo - min m 2097152), min 1048576 (b.y.hi + min m 2097152)⟩⟩)) (by simp [results, Try.results50, go_sem, bxRes, fC0, fC1, fC2, fC3]) rfl ⟨rfl, ?_⟩
      exact below_set4 (BC.out _) _ _ _ _ _ (by omega)
    · have hn' : m < 0 := by omega
      have HN := Lib.hid hn
      clear HW hn
      go_wp2_with (first | (go_at_call 54; with_reducible refine (D1 _).out.mono ?_; rintro e w' ⟨rfl, n, rfl⟩))
      obtain rfl : R = none := HR.out.trans (by simp [HN.out])
      refine bodyPost_ret (v := bxRes none) (by simp [results, Try.results50, go_sem, bxRes, bx0, fC0, fC1, fC2, fC3]) rfl ⟨rfl, ?_⟩
      exact below_set4 (BC.out _) _ _ _ _ _ (by omega)
set_option maxHeartbeats 1000000 in
theorem middle_any (s : Sp) (w : World) (h : okS s = true) : Calls Try.prog 124 #[s.v] w fun e w' => e = .returned (.int .i64 (midS s)) ∧ Below w.heap.size w w' := by
  have hs := okS_sm h
  have hlh := (okS_iff.1 h).1
  have h1 : wrap64 (s.hi - s.lo) = s.hi - s.lo := w64 (by omega)
  have ht : (s.hi - s.lo).tdiv 2 = (s.hi - s.lo) / 2 := Int.tdiv_eq_ediv_of_nonneg (by omega)
  have h3 : wrap64 ((s.hi - s.lo) / 2) = (s.hi - s.lo) / 2 := w64 (by omega)
  have h2 : wrap64 (s.lo + (s.hi - s.lo) / 2) = s.lo + (s.hi - s.lo) / 2 := w64 (by omega)
  have hm : Hid (midS s = s.lo + (s.hi - s.lo) / 2) := by unfold Hid midS; omega
  rw [hm.out]
  obtain ⟨q, hq⟩ : ∃ q, (s.hi - s.lo) / 2 = q := ⟨_, rfl⟩
  rw [hq] at ht h2 h3 ⊢
  clear hs hlh h hm hq
  go_enter Try.func124, Try.ntmps124
  go_wp2_with fail
  go_ret
  exact ⟨ret_int h2, ((St.nil w).al _).b⟩
end Go.Proofs.Ytdefpcjlbganpaa
