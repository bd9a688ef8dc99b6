import Derived.RangeFuncNested
import Derived.RangeFuncBox
import Derived.RangeFuncBound
import Derived.RangeFuncCalls
import Derived.RangeFuncLeaves
import Derived.Shelf.Abstract
import Derived.Shelf.RegionOpen
import Derived.BigRegionIn
import Derived.Stop.RegionWithIn
import Derived.WalkKit
import Derived.OwnWalkIn
import Derived.TacticsInMore
import Derived.LoopNIn
import Derived.LoopIn
import Derived.Lib.Hide
import Derived.IntWalk
import Derived.Deep.QuietTactic
import Derived.Deep.RegionHeld3
import Derived.Deep.RegionLaw
import Derived.StillTailTactics
import Derived.WalkSmall
import Derived.Deep.DeepMust
import Derived.BigQuiet
import Derived.LoopTactic
import Derived.Test.YtdefpcjlbganpaaMDist
import Derived.Test.YtdefpcjlbganpaaMRef
import Derived.Lib.MinMax
import Derived.Deep.DeepCutAuto
import Derived.Deep.CutBlock
namespace Go.Proofs.Ytdefpcjlbganpaa
open Go.RowKit Go.Shelf Go.BigFrame
attribute [local go_sem] Oper.semAt_some
attribute [local go_sem] World.cell?_alloc_some
theorem all_nil {b o : Nat} : ∀ x ∈ ([] : List (Nat × Nat × Value)), x.1 ≠ b ∨ x.2.1 ≠ o := by simp
theorem all_cons {b o b' o' : Nat} {v : Value} {l : List (Nat × Nat × Value)} (h : b' ≠ b ∨ o' ≠ o) (t : ∀ x ∈ l, x.1 ≠ b ∨ x.2.1 ≠ o) : ∀ x ∈ (b', o', v) :: l, x.1 ≠ b ∨ x.2.1 ≠ o := by
  intro x hx
  rcases List.mem_cons.1 hx with rfl | hx
  · exact h
  · exact t x hx
theorem all_app {b o : Nat} {l m : List (Nat × Nat × Value)} (h : ∀ x ∈ l, x.1 ≠ b ∨ x.2.1 ≠ o) (t : ∀ x ∈ m, x.1 ≠ b ∨ x.2.1 ≠ o) : ∀ x ∈ l ++ m, x.1 ≠ b ∨ x.2.1 ≠ o := by
  intro x hx
  rcases List.mem_append.1 hx with hx | hx
  · exact h x hx
  · exact t x hx
theorem sgl_eq {b : Bx} (h : okB b = true) : sgl b = (decide (b.x.lo = b.x.hi) && decide (b.y.lo = b.y.hi)) := by
  rw [Bool.eq_iff_iff, sgl_iff b h]; simp
set_option maxRecDepth 100000 in
set_option maxHeartbeats 8000000 in
theorem rCut_any (b : Bx) (w : World) : Calls Try.prog 52 #[b.v] w fun e w' => e = .returned (bx2Res (cutB b)) ∧ Below w.heap.size w w' := by
  have C1 := fun W => rProper_any b W
  obtain ⟨R, hR⟩ : ∃ R, cutB b = R := ⟨_, rfl⟩
  rw [hR]
  cases hz : okB b
  · rw [hz] at C1
    obtain rfl : R = none := by rw [← hR, cutB, hz]; rfl
    clear hz hR
    go_enter Try.func52, Try.ntmps52
    go_wp2_with fail
    obtain ⟨W0, hW0⟩ : ∃ W0, (((w).alloc (.cells #[.int .i64 b.x.lo, .int .i64 b.x.hi, .int .i64 b.y.lo, .int .i64 b.y.hi] 60)).alloc (.cells #[.int .i64 (0), .int .i64 (0), .int .i64 (0), .int .i64 (0)] 60)).alloc (.cells #[.int .i64 (0), .int .i64 (0), .int .i64 (0), .int .i64 (0)] 60) = W0 := ⟨_, rfl⟩
    have S0 : St w W0 [(w.heap.size + 1 + 1, 0, .int .i64 (0)), (w.heap.size + 1 + 1, 1, .int .i64 (0)), (w.heap.size + 1 + 1, 2, .int .i64 (0)), (w.heap.size + 1 + 1, 3, .int .i64 (0)), (w.heap.size + 1, 0, .int .i64 (0)), (w.heap.size + 1, 1, .int .i64 (0)), (w.heap.size + 1, 2, .int .i64 (0)), (w.heap.size + 1, 3, .int .i64 (0)), (w.heap.size, 0, .int .i64 b.x.lo), (w.heap.size, 1, .int .i64 b.x.hi), (w.heap.size, 2, .int .i64 b.y.lo), (w.heap.size, 3, .int .i64 b.y.hi)] := by rw [← hW0]; exact ((((St.nil w)).box #[.int .i64 b.x.lo, .int .i64 b.x.hi, .int .i64 b.y.lo, .int .i64 b.y.hi] 60 (w.heap.size) (by simp)).box #[.int .i64 (0), .int .i64 (0), .int .i64 (0), .int .i64 (0)] 60 (w.heap.size + 1) (by simp)).box #[.int .i64 (0), .int .i64 (0), .int .i64 (0), .int .i64 (0)] 60 (w.heap.size + 1 + 1) (by simp)
    rw [hW0]
    clear hW0
    obtain ⟨C, hC0, HC, LC, BC, hne⟩ := cls S0
    haveI := hne
    obtain ⟨c0, rfl⟩ : ∃ n : Wd C, W0 = n.w := ⟨⟨_, hC0⟩, rfl⟩
    have fC0 : ∀ n : Wd C, n.w.cell? ⟨w.heap.size + 1 + 1, 0, none⟩ = some (.int .i64 (0)) := fun n => (LC.out n).1.2.1
    have zC0 : ∀ n : Wd C, n.w.frozen? ⟨w.heap.size + 1 + 1, 0, none⟩ = false := fun n => (LC.out n).1.2.2
    have fC1 : ∀ n : Wd C, n.w.cell? ⟨w.heap.size + 1 + 1, 1, none⟩ = some (.int .i64 (0)) := fun n => (LC.out n).2.1.2.1
    have zC1 : ∀ n : Wd C, n.w.frozen? ⟨w.heap.size + 1 + 1, 1, none⟩ = false := fun n => (LC.out n).2.1.2.2
    have fC2 : ∀ n : Wd C, n.w.cell? ⟨w.heap.size + 1 + 1, 2, none⟩ = some (.int .i64 (0)) := fun n => (LC.out n).2.2.1.2.1
    have zC2 : ∀ n : Wd C, n.w.frozen? ⟨w.heap.size + 1 + 1, 2, none⟩ = false := fun n => (LC.out n).2.2.1.2.2
    have fC3 : ∀ n : Wd C, n.w.cell? ⟨w.heap.size + 1 + 1, 3, none⟩ = some (.int .i64 (0)) := fun n => (LC.out n).2.2.2.1.2.1
    have zC3 : ∀ n : Wd C, n.w.frozen? ⟨w.heap.size + 1 + 1, 3, none⟩ = false := fun n => (LC.out n).2.2.2.1.2.2
    have fC4 : ∀ n : Wd C, n.w.cell? ⟨w.heap.size + 1, 0, none⟩ = some (.int .i64 (0)) := fun n => (LC.out n).2.2.2.2.1.2.1
    have zC4 : ∀ n : Wd C, n.w.frozen? ⟨w.heap.size + 1, 0, none⟩ = false := fun n => (LC.out n).2.2.2.2.1.2.2
    have fC5 : ∀ n : Wd C, n.w.cell? ⟨w.heap.size + 1, 1, none⟩ = some (.int .i64 (0)) := fun n => (LC.out n).2.2.2.2.2.1.2.1
    have zC5 : ∀ n : Wd C, n.w.frozen? ⟨w.heap.size + 1, 1, none⟩ = false := fun n => (LC.out n).2.2.2.2.2.1.2.2
    have fC6 : ∀ n : Wd C, n.w.cell? ⟨w.heap.size + 1, 2, none⟩ = some (.int .i64 (0)) := fun n => (LC.out n).2.2.2.2.2.2.1.2.1
    have zC6 : ∀ n : Wd C, n.w.frozen? ⟨w.heap.size + 1, 2, none⟩ = false := fun n => (LC.out n).2.2.2.2.2.2.1.2.2
    have fC7 : ∀ n : Wd C, n.w.cell? ⟨w.heap.size + 1, 3, none⟩ = some (.int .i64 (0)) := fun n => (LC.out n).2.2.2.2.2.2.2.1.2.1
    have zC7 : ∀ n : Wd C, n.w.frozen? ⟨w.heap.size + 1, 3, none⟩ = false := fun n => (LC.out n).2.2.2.2.2.2.2.1.2.2
    have fC8 : ∀ n : Wd C, n.w.cell? ⟨w.heap.size, 0, none⟩ = some (.int .i64 b.x.lo) := fun n => (LC.out n).2.2.2.2.2.2.2.2.1.2.1
    have fC9 : ∀ n : Wd C, n.w.cell? ⟨w.heap.size, 1, none⟩ = some (.int .i64 b.x.hi) := fun n => (LC.out n).2.2.2.2.2.2.2.2.2.1.2.1
    have fC10 : ∀ n : Wd C, n.w.cell? ⟨w.heap.size, 2, none⟩ = some (.int .i64 b.y.lo) := fun n => (LC.out n).2.2.2.2.2.2.2.2.2.2.1.2.1
    have fC11 : ∀ n : Wd C, n.w.cell? ⟨w.heap.size, 3, none⟩ = some (.int .i64 b.y.hi) := fun n => (LC.out n).2.2.2.2.2.2.2.2.2.2.2.1.2.1
    clear S0 hC0
    have D1 := cin HC C1
    clear C1
    go_wp2_with (first | (go_at_call 54; with_reducible refine (D1 _).out.mono ?_; rintro e w' ⟨rfl, n, rfl⟩))
    refine bodyPost_ret (v := bx2Res none) (by simp [results, Try.results52, go_sem, bx2Res, bx0, fC0, fC1, fC2, fC3, fC4, fC5, fC6, fC7]) rfl ⟨rfl, ?_⟩
    exact below_set4' (below_set4' (BC.out _) _ _ _ _ _ (by omega)) _ _ _ _ _ (by omega)
  · rw [hz] at C1
    have hR2 : R = if !(decide (b.x.lo = b.x.hi) && decide (b.y.lo = b.y.hi)) then some (if b.y.hi - b.y.lo ≤ b.x.hi - b.x.lo then (⟨hlo b.x, b.y⟩, ⟨hhi b.x, b.y⟩) else (⟨b.x, hlo b.y⟩, ⟨b.x, hhi b.y⟩)) else none := by
      rw [← hR, cutB, hz, sgl_eq hz, Bool.true_and]
    obtain ⟨k1, k2⟩ := okB_iff.1 hz
    have M1 := fun W => middle_any b.x W k1
    have M2 := fun W => middle_any b.y W k2
    have h1 := (okS_iff.1 k1).1
    have h2 := (okS_iff.1 k2).1
    have k1 := okS_sm k1
    have k2 := okS_sm k2
    have w1 : wrap64 (b.x.hi - b.x.lo) = b.x.hi - b.x.lo := w64 (by omega)
    have w2 : wrap64 (b.y.hi - b.y.lo) = b.y.hi - b.y.lo := w64 (by omega)
    have w3 : wrap64 (midS b.x + 1) = midS b.x + 1 := w64 (by unfold midS; omega)
    have w4 : wrap64 (midS b.y + 1) = midS b.y + 1 := w64 (by unfold midS; omega)
    have e1 : hlo b.x = ⟨b.x.lo, midS b.x⟩ := rfl
    have e2 : hlo b.y = ⟨b.y.lo, midS b.y⟩ := rfl
    have e3 : hhi b.x = ⟨midS b.x + 1, b.x.hi⟩ := rfl
    have e4 : hhi b.y = ⟨midS b.y + 1, b.y.hi⟩ := rfl
    rw [e1, e2, e3, e4] at hR2
    obtain ⟨mx, hmx⟩ : ∃ m, midS b.x = m := ⟨_, rfl⟩
    obtain ⟨my, hmy⟩ : ∃ m, midS b.y = m := ⟨_, rfl⟩
    rw [hmx] at hR2 w3
    rw [hmy] at hR2 w4
    simp only [hmx] at M1
    simp only [hmy] at M2
    have HR := Lib.hid hR2
    clear hR hR2 hz h1 h2 k1 k2 e1 e2 e3 e4 hmx hmy
    obtain ⟨u, hu⟩ : ∃ u, (b.x.lo == b.x.hi) = u := ⟨_, rfl⟩
    obtain ⟨v, hv⟩ : ∃ u, (b.y.lo == b.y.hi) = u := ⟨_, rfl⟩
    have HR2 : Hid (R = if !(u && v) then some (if b.y.hi - b.y.lo ≤ b.x.hi - b.x.lo then (⟨⟨b.x.lo, mx⟩, b.y⟩, ⟨⟨mx + 1, b.x.hi⟩, b.y⟩) else (⟨b.x, ⟨b.y.lo, my⟩⟩, ⟨b.x, ⟨my + 1, b.y.hi⟩⟩)) else none) := by
      rw [← hu, ← hv]; exact HR.out
    clear HR
    go_enter Try.func52, Try.ntmps52
    go_wp2_with fail
    obtain ⟨W0, hW0⟩ : ∃ W0, (((w).alloc (.cells #[.int .i64 b.x.lo, .int .i64 b.x.hi, .int .i64 b.y.lo, .int .i64 b.y.hi] 60)).alloc (.cells #[.int .i64 (0), .int .i64 (0), .int .i64 (0), .int .i64 (0)] 60)).alloc (.cells #[.int .i64 (0), .int .i64 (0), .int .i64 (0), .int .i64 (0)] 60) = W0 := ⟨_, rfl⟩
    have S0 : St w W0 [(w.heap.size + 1 + 1, 0, .int .i64 (0)), (w.heap.size + 1 + 1, 1, .int .i64 (0)), (w.heap.size + 1 + 1, 2, .int .i64 (0)), (w.heap.size + 1 + 1, 3, .int .i64 (0)), (w.heap.size + 1, 0, .int .i64 (0)), (w.heap.size + 1, 1, .int .i64 (0)), (w.heap.size + 1, 2, .int .i64 (0)), (w.heap.size + 1, 3, .int .i64 (0)), (w.heap.size, 0, .int .i64 b.x.lo), (w.heap.size, 1, .int .i64 b.x.hi), (w.heap.size, 2, .int .i64 b.y.lo), (w.heap.size, 3, .int .i64 b.y.hi)] := by rw [← hW0]; exact ((((St.nil w)).box #[.int .i64 b.x.lo, .int .i64 b.x.hi, .int .i64 b.y.lo, .int .i64 b.y.hi] 60 (w.heap.size) (by simp)).box #[.int .i64 (0), .int .i64 (0), .int .i64 (0), .int .i64 (0)] 60 (w.heap.size + 1) (by simp)).box #[.int .i64 (0), .int .i64 (0), .int .i64 (0), .int .i64 (0)] 60 (w.heap.size + 1 + 1) (by simp)
    rw [hW0]
    clear hW0
    obtain ⟨C, hC0, HC, LC, BC, hne⟩ := cls S0
    haveI := hne
    obtain ⟨c0, rfl⟩ : ∃ n : Wd C, W0 = n.w := ⟨⟨_, hC0⟩, rfl⟩
    have fC0 : ∀ n : Wd C, n.w.cell? ⟨w.heap.size + 1 + 1, 0, none⟩ = some (.int .i64 (0)) := fun n => (LC.out n).1.2.1
    have zC0 : ∀ n : Wd C, n.w.frozen? ⟨w.heap.size + 1 + 1, 0, none⟩ = false := fun n => (LC.out n).1.2.2
    have fC1 : ∀ n : Wd C, n.w.cell? ⟨w.heap.size + 1 + 1, 1, none⟩ = some (.int .i64 (0)) := fun n => (LC.out n).2.1.2.1
    have zC1 : ∀ n : Wd C, n.w.frozen? ⟨w.heap.size + 1 + 1, 1, none⟩ = false := fun n => (LC.out n).2.1.2.2
    have fC2 : ∀ n : Wd C, n.w.cell? ⟨w.heap.size + 1 + 1, 2, none⟩ = some (.int .i64 (0)) := fun n => (LC.out n).2.2.1.2.1
    have zC2 : ∀ n : Wd C, n.w.frozen? ⟨w.heap.size + 1 + 1, 2, none⟩ = false := fun n => (LC.out n).2.2.1.2.2
    have fC3 : ∀ n : Wd C, n.w.cell? ⟨w.heap.size + 1 + 1, 3, none⟩ = some (.int .i64 (0)) := fun n => (LC.out n).2.2.2.1.2.1
    have zC3 : ∀ n : Wd C, n.w.frozen? ⟨w.heap.size + 1 + 1, 3, none⟩ = false := fun n => (LC.out n).2.2.2.1.2.2
    have fC4 : ∀ n : Wd C, n.w.cell? ⟨w.heap.size + 1, 0, none⟩ = some (.int .i64 (0)) := fun n => (LC.out n).2.2.2.2.1.2.1
    have zC4 : ∀ n : Wd C, n.w.frozen? ⟨w.heap.size + 1, 0, none⟩ = false := fun n => (LC.out n).2.2.2.2.1.2.2
    have fC5 : ∀ n : Wd C, n.w.cell? ⟨w.heap.size + 1, 1, none⟩ = some (.int .i64 (0)) := fun n => (LC.out n).2.2.2.2.2.1.2.1
    have zC5 : ∀ n : Wd C, n.w.frozen? ⟨w.heap.size + 1, 1, none⟩ = false := fun n => (LC.out n).2.2.2.2.2.1.2.2
    have fC6 : ∀ n : Wd C, n.w.cell? ⟨w.heap.size + 1, 2, none⟩ = some (.int .i64 (0)) := fun n => (LC.out n).2.2.2.2.2.2.1.2.1
    have zC6 : ∀ n : Wd C, n.w.frozen? ⟨w.heap.size + 1, 2, none⟩ = false := fun n => (LC.out n).2.2.2.2.2.2.1.2.2
    have fC7 : ∀ n : Wd C, n.w.cell? ⟨w.heap.size + 1, 3, none⟩ = some (.int .i64 (0)) := fun n => (LC.out n).2.2.2.2.2.2.2.1.2.1
    have zC7 : ∀ n : Wd C, n.w.frozen? ⟨w.heap.size + 1, 3, none⟩ = false := fun n => (LC.out n).2.2.2.2.2.2.2.1.2.2
    have fC8 : ∀ n : Wd C, n.w.cell? ⟨w.heap.size, 0, none⟩ = some (.int .i64 b.x.lo) := fun n => (LC.out n).2.2.2.2.2.2.2.2.1.2.1
    have zC8 : ∀ n : Wd C, n.w.frozen? ⟨w.heap.size, 0, none⟩ = false := fun n => (LC.out n).2.2.2.2.2.2.2.2.1.2.2
    have fC9 : ∀ n : Wd C, n.w.cell? ⟨w.heap.size, 1, none⟩ = some (.int .i64 b.x.hi) := fun n => (LC.out n).2.2.2.2.2.2.2.2.2.1.2.1
    have zC9 : ∀ n : Wd C, n.w.frozen? ⟨w.heap.size, 1, none⟩ = false := fun n => (LC.out n).2.2.2.2.2.2.2.2.2.1.2.2
    have fC10 : ∀ n : Wd C, n.w.cell? ⟨w.heap.size, 2, none⟩ = some (.int .i64 b.y.lo) := fun n => (LC.out n).2.2.2.2.2.2.2.2.2.2.1.2.1
    have zC10 : ∀ n : Wd C, n.w.frozen? ⟨w.heap.size, 2, none⟩ = false := fun n => (LC.out n).2.2.2.2.2.2.2.2.2.2.1.2.2
    have fC11 : ∀ n : Wd C, n.w.cell? ⟨w.heap.size, 3, none⟩ = some (.int .i64 b.y.hi) := fun n => (LC.out n).2.2.2.2.2.2.2.2.2.2.2.1.2.1
    have zC11 : ∀ n : Wd C, n.w.frozen? ⟨w.heap.size, 3, none⟩ = false := fun n => (LC.out n).2.2.2.2.2.2.2.2.2.2.2.1.2.2
    clear S0 hC0
    have D1 := cin HC C1
    clear C1
    by_cases huv : u = true ∧ v = true
    · obtain ⟨rfl, rfl⟩ := huv
      obtain rfl : R = none := HR2.out.trans (by simp)
      go_wp2_with (first | (go_at_call 54; with_reducible refine (D1 _).out.mono ?_; rintro e w' ⟨rfl, n, rfl⟩))
      refine bodyPost_ret (v := bx2Res none) (by simp [results, Try.results52, go_sem, bx2Res, bx0, fC0, fC1, fC2, fC3, fC4, fC5, fC6, fC7]) rfl ⟨rfl, ?_⟩
      exact below_set4' (below_set4' (BC.out _) _ _ _ _ _ (by omega)) _ _ _ _ _ (by omega)
    · have huv2 : (u && v) = false := by cases u <;> cases v <;> simp_all
      by_cases hd : b.y.hi - b.y.lo ≤ b.x.hi - b.x.lo
      · have HR3 : Hid (R = some (⟨⟨b.x.lo, mx⟩, b.y⟩, ⟨⟨mx + 1, b.x.hi⟩, b.y⟩)) := by have := HR2.out; rw [huv2, if_pos hd] at this; exact this
        clear HR2 huv2
        cases u <;> cases v
        all_goals first
        | (exfalso; exact huv ⟨rfl, rfl⟩)
        | skip
        all_goals
          clear huv
          go_wp2_with (first | (go_at_call 54; with_reducible refine (D1 _).out.mono ?_; rintro e w' ⟨rfl, n, rfl⟩))
          obtain ⟨W0, hW0⟩ : ∃ W0, ((n.w).alloc (.cells #[.int .i64 b.x.lo, .int .i64 b.x.hi, .int .i64 b.y.lo, .int .i64 b.y.hi] 60)).alloc (.cells #[.int .i64 b.x.lo, .int .i64 b.x.hi, .int .i64 b.y.lo, .int .i64 b.y.hi] 60) = W0 := ⟨_, rfl⟩
          have S0 : St w W0 [(n.w.heap.size + 1, 0, .int .i64 b.x.lo), (n.w.heap.size + 1, 1, .int .i64 b.x.hi), (n.w.heap.size + 1, 2, .int .i64 b.y.lo), (n.w.heap.size + 1, 3, .int .i64 b.y.hi), (n.w.heap.size, 0, .int .i64 b.x.lo), (n.w.heap.size, 1, .int .i64 b.x.hi), (n.w.heap.size, 2, .int .i64 b.y.lo), (n.w.heap.size, 3, .int .i64 b.y.hi), (w.heap.size + 1 + 1, 0, .int .i64 (0)), (w.heap.size + 1 + 1, 1, .int .i64 (0)), (w.heap.size + 1 + 1, 2, .int .i64 (0)), (w.heap.size + 1 + 1, 3, .int .i64 (0)), (w.heap.size + 1, 0, .int .i64 (0)), (w.heap.size + 1, 1, .int .i64 (0)), (w.heap.size + 1, 2, .int .i64 (0)), (w.heap.size + 1, 3, .int .i64 (0)), (w.heap.size, 0, .int .i64 b.x.lo), (w.heap.size, 1, .int .i64 b.x.hi), (w.heap.size, 2, .int .i64 b.y.lo), (w.heap.size, 3, .int .i64 b.y.hi)] := by rw [← hW0]; exact (((⟨BC.out n, LC.out n⟩ : St w n.w _)).box #[.int .i64 b.x.lo, .int .i64 b.x.hi, .int .i64 b.y.lo, .int .i64 b.y.hi] 60 (n.w.heap.size) (by simp)).box #[.int .i64 b.x.lo, .int .i64 b.x.hi, .int .i64 b.y.lo, .int .i64 b.y.hi] 60 (n.w.heap.size + 1) (by simp)
          rw [hW0]
          clear hW0
          obtain ⟨kD, hkk⟩ : ∃ k, n.w.heap.size = k := ⟨_, rfl⟩
          have gkD : w.heap.size ≤ kD := by rw [← hkk]; exact (BC.out n).size
          rw [hkk] at S0 ⊢
          have eD1 : kD ≠ w.heap.size + 1 + 1 := by have h := (LC.out n).1.1; omega
          have dD1 : w.heap.size + 1 + 1 ≠ kD := Ne.symm eD1
          have eD2 : kD ≠ w.heap.size + 1 := by have h := (LC.out n).2.2.2.2.1.1; omega
          have dD2 : w.heap.size + 1 ≠ kD := Ne.symm eD2
          have eD3 : kD ≠ w.heap.size := by have h := (LC.out n).2.2.2.2.2.2.2.2.1.1; omega
          have dD3 : w.heap.size ≠ kD := Ne.symm eD3
          clear hkk
          obtain ⟨D, hC0, HD, LD, BD, hne⟩ := cls S0
          haveI := hne
          obtain ⟨d0, rfl⟩ : ∃ n : Wd D, W0 = n.w := ⟨⟨_, hC0⟩, rfl⟩
          have fD0 : ∀ n : Wd D, n.w.cell? ⟨kD + 1, 0, none⟩ = some (.int .i64 b.x.lo) := fun n => (LD.out n).1.2.1
          have zD0 : ∀ n : Wd D, n.w.frozen? ⟨kD + 1, 0, none⟩ = false := fun n => (LD.out n).1.2.2
          have fD1 : ∀ n : Wd D, n.w.cell? ⟨kD + 1, 1, none⟩ = some (.int .i64 b.x.hi) := fun n => (LD.out n).2.1.2.1
          have zD1 : ∀ n : Wd D, n.w.frozen? ⟨kD + 1, 1, none⟩ = false := fun n => (LD.out n).2.1.2.2
          have fD2 : ∀ n : Wd D, n.w.cell? ⟨kD + 1, 2, none⟩ = some (.int .i64 b.y.lo) := fun n => (LD.out n).2.2.1.2.1
          have zD2 : ∀ n : Wd D, n.w.frozen? ⟨kD + 1, 2, none⟩ = false := fun n => (LD.out n).2.2.1.2.2
          have fD3 : ∀ n : Wd D, n.w.cell? ⟨kD + 1, 3, none⟩ = some (.int .i64 b.y.hi) := fun n => (LD.out n).2.2.2.1.2.1
          have zD3 : ∀ n : Wd D, n.w.frozen? ⟨kD + 1, 3, none⟩ = false := fun n => (LD.out n).2.2.2.1.2.2
          have fD4 : ∀ n : Wd D, n.w.cell? ⟨kD, 0, none⟩ = some (.int .i64 b.x.lo) := fun n => (LD.out n).2.2.2.2.1.2.1
          have zD4 : ∀ n : Wd D, n.w.frozen? ⟨kD, 0, none⟩ = false := fun n => (LD.out n).2.2.2.2.1.2.2
          have fD5 : ∀ n : Wd D, n.w.cell? ⟨kD, 1, none⟩ = some (.int .i64 b.x.hi) := fun n => (LD.out n).2.2.2.2.2.1.2.1
          have zD5 : ∀ n : Wd D, n.w.frozen? ⟨kD, 1, none⟩ = false := fun n => (LD.out n).2.2.2.2.2.1.2.2
          have fD6 : ∀ n : Wd D, n.w.cell? ⟨kD, 2, none⟩ = some (.int .i64 b.y.lo) := fun n => (LD.out n).2.2.2.2.2.2.1.2.1
          have zD6 : ∀ n : Wd D, n.w.frozen? ⟨kD, 2, none⟩ = false := fun n => (LD.out n).2.2.2.2.2.2.1.2.2
          have fD7 : ∀ n : Wd D, n.w.cell? ⟨kD, 3, none⟩ = some (.int .i64 b.y.hi) := fun n => (LD.out n).2.2.2.2.2.2.2.1.2.1
          have zD7 : ∀ n : Wd D, n.w.frozen? ⟨kD, 3, none⟩ = false := fun n => (LD.out n).2.2.2.2.2.2.2.1.2.2
          have fD8 : ∀ n : Wd D, n.w.cell? ⟨w.heap.size + 1 + 1, 0, none⟩ = some (.int .i64 (0)) := fun n => (LD.out n).2.2.2.2.2.2.2.2.1.2.1
          have zD8 : ∀ n : Wd D, n.w.frozen? ⟨w.heap.size + 1 + 1, 0, none⟩ = false := fun n => (LD.out n).2.2.2.2.2.2.2.2.1.2.2
          have fD9 : ∀ n : Wd D, n.w.cell? ⟨w.heap.size + 1 + 1, 1, none⟩ = some (.int .i64 (0)) := fun n => (LD.out n).2.2.2.2.2.2.2.2.2.1.2.1
          have zD9 : ∀ n : Wd D, n.w.frozen? ⟨w.heap.size + 1 + 1, 1, none⟩ = false := fun n => (LD.out n).2.2.2.2.2.2.2.2.2.1.2.2
          have fD10 : ∀ n : Wd D, n.w.cell? ⟨w.heap.size + 1 + 1, 2, none⟩ = some (.int .i64 (0)) := fun n => (LD.out n).2.2.2.2.2.2.2.2.2.2.1.2.1
          have zD10 : ∀ n : Wd D, n.w.frozen? ⟨w.heap.size + 1 + 1, 2, none⟩ = false := fun n => (LD.out n).2.2.2.2.2.2.2.2.2.2.1.2.2
          have fD11 : ∀ n : Wd D, n.w.cell? ⟨w.heap.size + 1 + 1, 3, none⟩ = some (.int .i64 (0)) := fun n => (LD.out n).2.2.2.2.2.2.2.2.2.2.2.1.2.1
          have zD11 : ∀ n : Wd D, n.w.frozen? ⟨w.heap.size + 1 + 1, 3, none⟩ = false := fun n => (LD.out n).2.2.2.2.2.2.2.2.2.2.2.1.2.2
          have fD12 : ∀ n : Wd D, n.w.cell? ⟨w.heap.size + 1, 0, none⟩ = some (.int .i64 (0)) := fun n => (LD.out n).2.2.2.2.2.2.2.2.2.2.2.2.1.2.1
          have zD12 : ∀ n : Wd D, n.w.frozen? ⟨w.heap.size + 1, 0, none⟩ = false := fun n => (LD.out n).2.2.2.2.2.2.2.2.2.2.2.2.1.2.2
          have fD13 : ∀ n : Wd D, n.w.cell? ⟨w.heap.size + 1, 1, none⟩ = some (.int .i64 (0)) := fun n => (LD.out n).2.2.2.2.2.2.2.2.2.2.2.2.2.1.2.1
          have zD13 : ∀ n : Wd D, n.w.frozen? ⟨w.heap.size + 1, 1, none⟩ = false := fun n => (LD.out n).2.2.2.2.2.2.2.2.2.2.2.2.2.1.2.2
          have fD14 : ∀ n : Wd D, n.w.cell? ⟨w.heap.size + 1, 2, none⟩ = some (.int .i64 (0)) := fun n => (LD.out n).2.2.2.2.2.2.2.2.2.2.2.2.2.2.1.2.1
          have zD14 : ∀ n : Wd D, n.w.frozen? ⟨w.heap.size + 1, 2, none⟩ = false := fun n => (LD.out n).2.2.2.2.2.2.2.2.2.2.2.2.2.2.1.2.2
          have fD15 : ∀ n : Wd D, n.w.cell? ⟨w.heap.size + 1, 3, none⟩ = some (.int .i64 (0)) := fun n => (LD.out n).2.2.2.2.2.2.2.2.2.2.2.2.2.2.2.1.2.1
          have zD15 : ∀ n : Wd D, n.w.frozen? ⟨w.heap.size + 1, 3, none⟩ = false := fun n => (LD.out n).2.2.2.2.2.2.2.2.2.2.2.2.2.2.2.1.2.2
          have fD16 : ∀ n : Wd D, n.w.cell? ⟨w.heap.size, 0, none⟩ = some (.int .i64 b.x.lo) := fun n => (LD.out n).2.2.2.2.2.2.2.2.2.2.2.2.2.2.2.2.1.2.1
          have zD16 : ∀ n : Wd D, n.w.frozen? ⟨w.heap.size, 0, none⟩ = false := fun n => (LD.out n).2.2.2.2.2.2.2.2.2.2.2.2.2.2.2.2.1.2.2
          have fD17 : ∀ n : Wd D, n.w.cell? ⟨w.heap.size, 1, none⟩ = some (.int .i64 b.x.hi) := fun n => (LD.out n).2.2.2.2.2.2.2.2.2.2.2.2.2.2.2.2.2.1.2.1
          have zD17 : ∀ n : Wd D, n.w.frozen? ⟨w.heap.size, 1, none⟩ = false := fun n => (LD.out n).2.2.2.2.2.2.2.2.2.2.2.2.2.2.2.2.2.1.2.2
          have fD18 : ∀ n : Wd D, n.w.cell? ⟨w.heap.size, 2, none⟩ = some (.int .i64 b.y.lo) := fun n => (LD.out n).2.2.2.2.2.2.2.2.2.2.2.2.2.2.2.2.2.2.1.2.1
          have zD18 : ∀ n : Wd D, n.w.frozen? ⟨w.heap.size, 2, none⟩ = false := fun n => (LD.out n).2.2.2.2.2.2.2.2.2.2.2.2.2.2.2.2.2.2.1.2.2
          have fD19 : ∀ n : Wd D, n.w.cell? ⟨w.heap.size, 3, none⟩ = some (.int .i64 b.y.hi) := fun n => (LD.out n).2.2.2.2.2.2.2.2.2.2.2.2.2.2.2.2.2.2.2.1.2.1
          have zD19 : ∀ n : Wd D, n.w.frozen? ⟨w.heap.size, 3, none⟩ = false := fun n => (LD.out n).2.2.2.2.2.2.2.2.2.2.2.2.2.2.2.2.2.2.2.1.2.2
          clear S0 hC0
          have E1 := cin HD M1
          clear hu hv
          go_wp2_with (first | (go_at_call 124; with_reducible refine (E1 _).out.mono ?_; rintro e w' ⟨rfl, n, rfl⟩))
          obtain ⟨W0, hW0⟩ : ∃ W0, (n.w).setCell ⟨kD, 1, none⟩ (.int .i64 mx) = W0 := ⟨_, rfl⟩
          have S0 : St w W0 [(kD + 1, 0, .int .i64 b.x.lo), (kD + 1, 1, .int .i64 b.x.hi), (kD + 1, 2, .int .i64 b.y.lo), (kD + 1, 3, .int .i64 b.y.hi), (kD, 0, .int .i64 b.x.lo), (kD, 1, .int .i64 mx), (kD, 2, .int .i64 b.y.lo), (kD, 3, .int .i64 b.y.hi), (w.heap.size + 1 + 1, 0, .int .i64 (0)), (w.heap.size + 1 + 1, 1, .int .i64 (0)), (w.heap.size + 1 + 1, 2, .int .i64 (0)), (w.heap.size + 1 + 1, 3, .int .i64 (0)), (w.heap.size + 1, 0, .int .i64 (0)), (w.heap.size + 1, 1, .int .i64 (0)), (w.heap.size + 1, 2, .int .i64 (0)), (w.heap.size + 1, 3, .int .i64 (0)), (w.heap.size, 0, .int .i64 b.x.lo), (w.heap.size, 1, .int .i64 b.x.hi), (w.heap.size, 2, .int .i64 b.y.lo), (w.heap.size, 3, .int .i64 b.y.hi)] := by rw [← hW0]; exact (St.setAt [(kD + 1, 0, .int .i64 b.x.lo), (kD + 1, 1, .int .i64 b.x.hi), (kD + 1, 2, .int .i64 b.y.lo), (kD + 1, 3, .int .i64 b.y.hi), (kD, 0, .int .i64 b.x.lo)] [(kD, 2, .int .i64 b.y.lo), (kD, 3, .int .i64 b.y.hi), (w.heap.size + 1 + 1, 0, .int .i64 (0)), (w.heap.size + 1 + 1, 1, .int .i64 (0)), (w.heap.size + 1 + 1, 2, .int .i64 (0)), (w.heap.size + 1 + 1, 3, .int .i64 (0)), (w.heap.size + 1, 0, .int .i64 (0)), (w.heap.size + 1, 1, .int .i64 (0)), (w.heap.size + 1, 2, .int .i64 (0)), (w.heap.size + 1, 3, .int .i64 (0)), (w.heap.size, 0, .int .i64 b.x.lo), (w.heap.size, 1, .int .i64 b.x.hi), (w.heap.size, 2, .int .i64 b.y.lo), (w.heap.size, 3, .int .i64 b.y.hi)] (kD) 1 (.int .i64 b.x.hi) (.int .i64 mx) (⟨BD.out n, LD.out n⟩ : St w n.w _) (by omega) (all_app (all_cons (by omega) (all_cons (by omega) (all_cons (by omega) (all_cons (by omega) (all_cons (by omega) all_nil))))) (all_cons (by omega) (all_cons (by omega) (all_cons (by omega) (all_cons (by omega) (all_cons (by omega) (all_cons (by omega) (all_cons (by omega) (all_cons (by omega) (all_cons (by omega) (all_cons (by omega) (all_cons (by omega) (all_cons (by omega) (all_cons (by omega) (all_cons (by omega) all_nil))))))))))))))))
          rw [hW0]
          clear hW0
          obtain ⟨E, hC0, HE, LE, BE, hne⟩ := cls S0
          haveI := hne
          obtain ⟨e0, rfl⟩ : ∃ n : Wd E, W0 = n.w := ⟨⟨_, hC0⟩, rfl⟩
          have fE0 : ∀ n : Wd E, n.w.cell? ⟨kD + 1, 0, none⟩ = some (.int .i64 b.x.lo) := fun n => (LE.out n).1.2.1
          have zE0 : ∀ n : Wd E, n.w.frozen? ⟨kD + 1, 0, none⟩ = false := fun n => (LE.out n).1.2.2
          have fE1 : ∀ n : Wd E, n.w.cell? ⟨kD + 1, 1, none⟩ = some (.int .i64 b.x.hi) := fun n => (LE.out n).2.1.2.1
          have zE1 : ∀ n : Wd E, n.w.frozen? ⟨kD + 1, 1, none⟩ = false := fun n => (LE.out n).2.1.2.2
          have fE2 : ∀ n : Wd E, n.w.cell? ⟨kD + 1, 2, none⟩ = some (.int .i64 b.y.lo) := fun n => (LE.out n).2.2.1.2.1
          have zE2 : ∀ n : Wd E, n.w.frozen? ⟨kD + 1, 2, none⟩ = false := fun n => (LE.out n).2.2.1.2.2
          have fE3 : ∀ n : Wd E, n.w.cell? ⟨kD + 1, 3, none⟩ = some (.int .i64 b.y.hi) := fun n => (LE.out n).2.2.2.1.2.1
          have zE3 : ∀ n : Wd E, n.w.frozen? ⟨kD + 1, 3, none⟩ = false := fun n => (LE.out n).2.2.2.1.2.2
          have fE4 : ∀ n : Wd E, n.w.cell? ⟨kD, 0, none⟩ = some (.int .i64 b.x.lo) := fun n => (LE.out n).2.2.2.2.1.2.1
          have zE4 : ∀ n : Wd E, n.w.frozen? ⟨kD, 0, none⟩ = false := fun n => (LE.out n).2.2.2.2.1.2.2
          have fE5 : ∀ n : Wd E, n.w.cell? ⟨kD, 1, none⟩ = some (.int .i64 mx) := fun n => (LE.out n).2.2.2.2.2.1.2.1
          have zE5 : ∀ n : Wd E, n.w.frozen? ⟨kD, 1, none⟩ = false := fun n => (LE.out n).2.2.2.2.2.1.2.2
          have fE6 : ∀ n : Wd E, n.w.cell? ⟨kD, 2, none⟩ = some (.int .i64 b.y.lo) := fun n => (LE.out n).2.2.2.2.2.2.1.2.1
          have zE6 : ∀ n : Wd E, n.w.frozen? ⟨kD, 2, none⟩ = false := fun n => (LE.out n).2.2.2.2.2.2.1.2.2
          have fE7 : ∀ n : Wd E, n.w.cell? ⟨kD, 3, none⟩ = some (.int .i64 b.y.hi) := fun n => (LE.out n).2.2.2.2.2.2.2.1.2.1
          have zE7 : ∀ n : Wd E, n.w.frozen? ⟨kD, 3, none⟩ = false := fun n => (LE.out n).2.2.2.2.2.2.2.1.2.2
          have fE8 : ∀ n : Wd E, n.w.cell? ⟨w.heap.size + 1 + 1, 0, none⟩ = some (.int .i64 (0)) := fun n => (LE.out n).2.2.2.2.2.2.2.2.1.2.1
          have zE8 : ∀ n : Wd E, n.w.frozen? ⟨w.heap.size + 1 + 1, 0, none⟩ = false := fun n => (LE.out n).2.2.2.2.2.2.2.2.1.2.2
          have fE9 : ∀ n : Wd E, n.w.cell? ⟨w.heap.size + 1 + 1, 1, none⟩ = some (.int .i64 (0)) := fun n => (LE.out n).2.2.2.2.2.2.2.2.2.1.2.1
          have zE9 : ∀ n : Wd E, n.w.frozen? ⟨w.heap.size + 1 + 1, 1, none⟩ = false := fun n => (LE.out n).2.2.2.2.2.2.2.2.2.1.2.2
          have fE10 : ∀ n : Wd E, n.w.cell? ⟨w.heap.size + 1 + 1, 2, none⟩ = some (.int .i64 (0)) := fun n => (LE.out n).2.2.2.2.2.2.2.2.2.2.1.2.1
          have zE10 : ∀ n : Wd E, n.w.frozen? ⟨w.heap.size + 1 + 1, 2, none⟩ = false := fun n => (LE.out n).2.2.2.2.2.2.2.2.2.2.1.2.2
          have fE11 : ∀ n : Wd E, n.w.cell? ⟨w.heap.size + 1 + 1, 3, none⟩ = some (.int .i64 (0)) := fun n => (LE.out n).2.2.2.2.2.2.2.2.2.2.2.1.2.1
          have zE11 : ∀ n : Wd E, n.w.frozen? ⟨w.heap.size + 1 + 1, 3, none⟩ = false := fun n => (LE.out n).2.2.2.2.2.2.2.2.2.2.2.1.2.2
          have fE12 : ∀ n : Wd E, n.w.cell? ⟨w.heap.size + 1, 0, none⟩ = some (.int .i64 (0)) := fun n => (LE.out n).2.2.2.2.2.2.2.2.2.2.2.2.1.2.1
          have zE12 : ∀ n : Wd E, n.w.frozen? ⟨w.heap.size + 1, 0, none⟩ = false := fun n => (LE.out n).2.2.2.2.2.2.2.2.2.2.2.2.1.2.2
          have fE13 : ∀ n : Wd E, n.w.cell? ⟨w.heap.size + 1, 1, none⟩ = some (.int .i64 (0)) := fun n => (LE.out n).2.2.2.2.2.2.2.2.2.2.2.2.2.1.2.1
          have zE13 : ∀ n : Wd E, n.w.frozen? ⟨w.heap.size + 1, 1, none⟩ = false := fun n => (LE.out n).2.2.2.2.2.2.2.2.2.2.2.2.2.1.2.2
          have fE14 : ∀ n : Wd E, n.w.cell? ⟨w.heap.size + 1, 2, none⟩ = some (.int .i64 (0)) := fun n => (LE.out n).2.2.2.2.2.2.2.2.2.2.2.2.2.2.1.2.1
          have zE14 : ∀ n : Wd E, n.w.frozen? ⟨w.heap.size + 1, 2, none⟩ = false := fun n => (LE.out n).2.2.2.2.2.2.2.2.2.2.2.2.2.2.1.2.2
          have fE15 : ∀ n : Wd E, n.w.cell? ⟨w.heap.size + 1, 3, none⟩ = some (.int .i64 (0)) := fun n => (LE.out n).2.2.2.2.2.2.2.2.2.2.2.2.2.2.2.1.2.1
          have zE15 : ∀ n : Wd E, n.w.frozen? ⟨w.heap.size + 1, 3, none⟩ = false := fun n => (LE.out n).2.2.2.2.2.2.2.2.2.2.2.2.2.2.2.1.2.2
          have fE16 : ∀ n : Wd E, n.w.cell? ⟨w.heap.size, 0, none⟩ = some (.int .i64 b.x.lo) := fun n => (LE.out n).2.2.2.2.2.2.2.2.2.2.2.2.2.2.2.2.1.2.1
          have zE16 : ∀ n : Wd E, n.w.frozen? ⟨w.heap.size, 0, none⟩ = false := fun n => (LE.out n).2.2.2.2.2.2.2.2.2.2.2.2.2.2.2.2.1.2.2
          have fE17 : ∀ n : Wd E, n.w.cell? ⟨w.heap.size, 1, none⟩ = some (.int .i64 b.x.hi) := fun n => (LE.out n).2.2.2.2.2.2.2.2.2.2.2.2.2.2.2.2.2.1.2.1
          have zE17 : ∀ n : Wd E, n.w.frozen? ⟨w.heap.size, 1, none⟩ = false := fun n => (LE.out n).2.2.2.2.2.2.2.2.2.2.2.2.2.2.2.2.2.1.2.2
          have fE18 : ∀ n : Wd E, n.w.cell? ⟨w.heap.size, 2, none⟩ = some (.int .i64 b.y.lo) := fun n => (LE.out n).2.2.2.2.2.2.2.2.2.2.2.2.2.2.2.2.2.2.1.2.1
          have zE18 : ∀ n : Wd E, n.w.frozen? ⟨w.heap.size, 2, none⟩ = false := fun n => (LE.out n).2.2.2.2.2.2.2.2.2.2.2.2.2.2.2.2.2.2.1.2.2
          have fE19 : ∀ n : Wd E, n.w.cell? ⟨w.heap.size, 3, none⟩ = some (.int .i64 b.y.hi) := fun n => (LE.out n).2.2.2.2.2.2.2.2.2.2.2.2.2.2.2.2.2.2.2.1.2.1
          have zE19 : ∀ n : Wd E, n.w.frozen? ⟨w.heap.size, 3, none⟩ = false := fun n => (LE.out n).2.2.2.2.2.2.2.2.2.2.2.2.2.2.2.2.2.2.2.1.2.2
          clear S0 hC0
          have E2 := cin HE M1
          go_wp2_with (first | (go_at_call 124; with_reducible refine (E2 _).out.mono ?_; rintro e w' ⟨rfl, n, rfl⟩))
          obtain ⟨W0, hW0⟩ : ∃ W0, (n.w).setCell ⟨kD + 1, 0, none⟩ (.int .i64 (mx + 1)) = W0 := ⟨_, rfl⟩
          have S0 : St w W0 [(kD + 1, 0, .int .i64 (mx + 1)), (kD + 1, 1, .int .i64 b.x.hi), (kD + 1, 2, .int .i64 b.y.lo), (kD + 1, 3, .int .i64 b.y.hi), (kD, 0, .int .i64 b.x.lo), (kD, 1, .int .i64 mx), (kD, 2, .int .i64 b.y.lo), (kD, 3, .int .i64 b.y.hi), (w.heap.size + 1 + 1, 0, .int .i64 (0)), (w.heap.size + 1 + 1, 1, .int .i64 (0)), (w.heap.size + 1 + 1, 2, .int .i64 (0)), (w.heap.size + 1 + 1, 3, .int .i64 (0)), (w.heap.size + 1, 0, .int .i64 (0)), (w.heap.size + 1, 1, .int .i64 (0)), (w.heap.size + 1, 2, .int .i64 (0)), (w.heap.size + 1, 3, .int .i64 (0)), (w.heap.size, 0, .int .i64 b.x.lo), (w.heap.size, 1, .int .i64 b.x.hi), (w.heap.size, 2, .int .i64 b.y.lo), (w.heap.size, 3, .int .i64 b.y.hi)] := by rw [← hW0]; exact (St.setAt [] [(kD + 1, 1, .int .i64 b.x.hi), (kD + 1, 2, .int .i64 b.y.lo), (kD + 1, 3, .int .i64 b.y.hi), (kD, 0, .int .i64 b.x.lo), (kD, 1, .int .i64 mx), (kD, 2, .int .i64 b.y.lo), (kD, 3, .int .i64 b.y.hi), (w.heap.size + 1 + 1, 0, .int .i64 (0)), (w.heap.size + 1 + 1, 1, .int .i64 (0)), (w.heap.size + 1 + 1, 2, .int .i64 (0)), (w.heap.size + 1 + 1, 3, .int .i64 (0)), (w.heap.size + 1, 0, .int .i64 (0)), (w.heap.size + 1, 1, .int .i64 (0)), (w.heap.size + 1, 2, .int .i64 (0)), (w.heap.size + 1, 3, .int .i64 (0)), (w.heap.size, 0, .int .i64 b.x.lo), (w.heap.size, 1, .int .i64 b.x.hi), (w.heap.size, 2, .int .i64 b.y.lo), (w.heap.size, 3, .int .i64 b.y.hi)] (kD + 1) 0 (.int .i64 b.x.lo) (.int .i64 (mx + 1)) (⟨BE.out n, LE.out n⟩ : St w n.w _) (by omega) (all_app all_nil (all_cons (by omega) (all_cons (by omega) (all_cons (by omega) (all_cons (by omega) (all_cons (by omega) (all_cons (by omega) (all_cons (by omega) (all_cons (by omega) (all_cons (by omega) (all_cons (by omega) (all_cons (by omega) (all_cons (by omega) (all_cons (by omega) (all_cons (by omega) (all_cons (by omega) (all_cons (by omega) (all_cons (by omega) (all_cons (by omega) (all_cons (by omega) all_nil)))))))))))))))))))))
          rw [hW0]
          clear hW0
          obtain ⟨F, hC0, HF, LF, BF, hne⟩ := cls S0
          haveI := hne
          obtain ⟨f0, rfl⟩ : ∃ n : Wd F, W0 = n.w := ⟨⟨_, hC0⟩, rfl⟩
          have fF0 : ∀ n : Wd F, n.w.cell? ⟨kD + 1, 0, none⟩ = some (.int .i64 (mx + 1)) := fun n => (LF.out n).1.2.1
          have zF0 : ∀ n : Wd F, n.w.frozen? ⟨kD + 1, 0, none⟩ = false := fun n => (LF.out n).1.2.2
          have fF1 : ∀ n : Wd F, n.w.cell? ⟨kD + 1, 1, none⟩ = some (.int .i64 b.x.hi) := fun n => (LF.out n).2.1.2.1
          have zF1 : ∀ n : Wd F, n.w.frozen? ⟨kD + 1, 1, none⟩ = false := fun n => (LF.out n).2.1.2.2
          have fF2 : ∀ n : Wd F, n.w.cell? ⟨kD + 1, 2, none⟩ = some (.int .i64 b.y.lo) := fun n => (LF.out n).2.2.1.2.1
          have zF2 : ∀ n : Wd F, n.w.frozen? ⟨kD + 1, 2, none⟩ = false := fun n => (LF.out n).2.2.1.2.2
          have fF3 : ∀ n : Wd F, n.w.cell? ⟨kD + 1, 3, none⟩ = some (.int .i64 b.y.hi) := fun n => (LF.out n).2.2.2.1.2.1
          have zF3 : ∀ n : Wd F, n.w.frozen? ⟨kD + 1, 3, none⟩ = false := fun n => (LF.out n).2.2.2.1.2.2
          have fF4 : ∀ n : Wd F, n.w.cell? ⟨kD, 0, none⟩ = some (.int .i64 b.x.lo) := fun n => (LF.out n).2.2.2.2.1.2.1
          have zF4 : ∀ n : Wd F, n.w.frozen? ⟨kD, 0, none⟩ = false := fun n => (LF.out n).2.2.2.2.1.2.2
          have fF5 : ∀ n : Wd F, n.w.cell? ⟨kD, 1, none⟩ = some (.int .i64 mx) := fun n => (LF.out n).2.2.2.2.2.1.2.1
          have zF5 : ∀ n : Wd F, n.w.frozen? ⟨kD, 1, none⟩ = false := fun n => (LF.out n).2.2.2.2.2.1.2.2
          have fF6 : ∀ n : Wd F, n.w.cell? ⟨kD, 2, none⟩ = some (.int .i64 b.y.lo) := fun n => (LF.out n).2.2.2.2.2.2.1.2.1
          have zF6 : ∀ n : Wd F, n.w.frozen? ⟨kD, 2, none⟩ = false := fun n => (LF.out n).2.2.2.2.2.2.1.2.2
          have fF7 : ∀ n : Wd F, n.w.cell? ⟨kD, 3, none⟩ = some (.int .i64 b.y.hi) := fun n => (LF.out n).2.2.2.2.2.2.2.1.2.1
          have zF7 : ∀ n : Wd F, n.w.frozen? ⟨kD, 3, none⟩ = false := fun n => (LF.out n).2.2.2.2.2.2.2.1.2.2
          have fF8 : ∀ n : Wd F, n.w.cell? ⟨w.heap.size + 1 + 1, 0, none⟩ = some (.int .i64 (0)) := fun n => (LF.out n).2.2.2.2.2.2.2.2.1.2.1
          have zF8 : ∀ n : Wd F, n.w.frozen? ⟨w.heap.size + 1 + 1, 0, none⟩ = false := fun n => (LF.out n).2.2.2.2.2.2.2.2.1.2.2
          have fF9 : ∀ n : Wd F, n.w.cell? ⟨w.heap.size + 1 + 1, 1, none⟩ = some (.int .i64 (0)) := fun n => (LF.out n).2.2.2.2.2.2.2.2.2.1.2.1
          have zF9 : ∀ n : Wd F, n.w.frozen? ⟨w.heap.size + 1 + 1, 1, none⟩ = false := fun n => (LF.out n).2.2.2.2.2.2.2.2.2.1.2.2
          have fF10 : ∀ n : Wd F, n.w.cell? ⟨w.heap.size + 1 + 1, 2, none⟩ = some (.int .i64 (0)) := fun n => (LF.out n).2.2.2.2.2.2.2.2.2.2.1.2.1
          have zF10 : ∀ n : Wd F, n.w.frozen? ⟨w.heap.size + 1 + 1, 2, none⟩ = false := fun n => (LF.out n).2.2.2.2.2.2.2.2.2.2.1.2.2
          have fF11 : ∀ n : Wd F, n.w.cell? ⟨w.heap.size + 1 + 1, 3, none⟩ = some (.int .i64 (0)) := fun n => (LF.out n).2.2.2.2.2.2.2.2.2.2.2.1.2.1
          have zF11 : ∀ n : Wd F, n.w.frozen? ⟨w.heap.size + 1 + 1, 3, none⟩ = false := fun n => (LF.out n).2.2.2.2.2.2.2.2.2.2.2.1.2.2
          have fF12 : ∀ n : Wd F, n.w.cell? ⟨w.heap.size + 1, 0, none⟩ = some (.int .i64 (0)) := fun n => (LF.out n).2.2.2.2.2.2.2.2.2.2.2.2.1.2.1
          have zF12 : ∀ n : Wd F, n.w.frozen? ⟨w.heap.size + 1, 0, none⟩ = false := fun n => (LF.out n).2.2.2.2.2.2.2.2.2.2.2.2.1.2.2
          have fF13 : ∀ n : Wd F, n.w.cell? ⟨w.heap.size + 1, 1, none⟩ = some (.int .i64 (0)) := fun n => (LF.out n).2.2.2.2.2.2.2.2.2.2.2.2.2.1.2.1
          have zF13 : ∀ n : Wd F, n.w.frozen? ⟨w.heap.size + 1, 1, none⟩ = false := fun n => (LF.out n).2.2.2.2.2.2.2.2.2.2.2.2.2.1.2.2
          have fF14 : ∀ n : Wd F, n.w.cell? ⟨w.heap.size + 1, 2, none⟩ = some (.int .i64 (0)) := fun n => (LF.out n).2.2.2.2.2.2.2.2.2.2.2.2.2.2.1.2.1
          have zF14 : ∀ n : Wd F, n.w.frozen? ⟨w.heap.size + 1, 2, none⟩ = false := fun n => (LF.out n).2.2.2.2.2.2.2.2.2.2.2.2.2.2.1.2.2
          have fF15 : ∀ n : Wd F, n.w.cell? ⟨w.heap.size + 1, 3, none⟩ = some (.int .i64 (0)) := fun n => (LF.out n).2.2.2.2.2.2.2.2.2.2.2.2.2.2.2.1.2.1
          have zF15 : ∀ n : Wd F, n.w.frozen? ⟨w.heap.size + 1, 3, none⟩ = false := fun n => (LF.out n).2.2.2.2.2.2.2.2.2.2.2.2.2.2.2.1.2.2
          have fF16 : ∀ n : Wd F, n.w.cell? ⟨w.heap.size, 0, none⟩ = some (.int .i64 b.x.lo) := fun n => (LF.out n).2.2.2.2.2.2.2.2.2.2.2.2.2.2.2.2.1.2.1
          have zF16 : ∀ n : Wd F, n.w.frozen? ⟨w.heap.size, 0, none⟩ = false := fun n => (LF.out n).2.2.2.2.2.2.2.2.2.2.2.2.2.2.2.2.1.2.2
          have fF17 : ∀ n : Wd F, n.w.cell? ⟨w.heap.size, 1, none⟩ = some (.int .i64 b.x.hi) := fun n => (LF.out n).2.2.2.2.2.2.2.2.2.2.2.2.2.2.2.2.2.1.2.1
          have zF17 : ∀ n : Wd F, n.w.frozen? ⟨w.heap.size, 1, none⟩ = false := fun n => (LF.out n).2.2.2.2.2.2.2.2.2.2.2.2.2.2.2.2.2.1.2.2
          have fF18 : ∀ n : Wd F, n.w.cell? ⟨w.heap.size, 2, none⟩ = some (.int .i64 b.y.lo) := fun n => (LF.out n).2.2.2.2.2.2.2.2.2.2.2.2.2.2.2.2.2.2.1.2.1
          have zF18 : ∀ n : Wd F, n.w.frozen? ⟨w.heap.size, 2, none⟩ = false := fun n => (LF.out n).2.2.2.2.2.2.2.2.2.2.2.2.2.2.2.2.2.2.1.2.2
          have fF19 : ∀ n : Wd F, n.w.cell? ⟨w.heap.size, 3, none⟩ = some (.int .i64 b.y.hi) := fun n => (LF.out n).2.2.2.2.2.2.2.2.2.2.2.2.2.2.2.2.2.2.2.1.2.1
          have zF19 : ∀ n : Wd F, n.w.frozen? ⟨w.heap.size, 3, none⟩ = false := fun n => (LF.out n).2.2.2.2.2.2.2.2.2.2.2.2.2.2.2.2.2.2.2.1.2.2
          clear S0 hC0
          clear E1 E2 M1 M2 HE HD LE LD HC LC
          go_region
          all_goals
            go_wp2_with fail
            obtain rfl : R = _ := HR3.out
            refine bodyPost_ret (v := bx2Res (some (⟨⟨b.x.lo, mx⟩, b.y⟩, ⟨⟨mx + 1, b.x.hi⟩, b.y⟩))) (by simp [results, Try.results52, go_sem, bx2Res, fF8, fF9, fF10, fF11, fF12, fF13, fF14, fF15]) rfl ⟨rfl, ?_⟩
            exact (below_set4' (below_set4' (BF.out _) _ _ _ _ _ (by omega)) _ _ _ _ _ (by omega)).drew
      · have HR3 : Hid (R = some (⟨b.x, ⟨b.y.lo, my⟩⟩, ⟨b.x, ⟨my + 1, b.y.hi⟩⟩)) := by have := HR2.out; rw [huv2, if_neg hd] at this; exact this
        clear HR2 huv2
        cases u <;> cases v
        all_goals first
        | (exfalso; exact huv ⟨rfl, rfl⟩)
        | skip
        all_goals
          clear huv
          go_wp2_with (first | (go_at_call 54; with_reducible refine (D1 _).out.mono ?_; rintro e w' ⟨rfl, n, rfl⟩))
          obtain ⟨W0, hW0⟩ : ∃ W0, ((n.w).alloc (.cells #[.int .i64 b.x.lo, .int .i64 b.x.hi, .int .i64 b.y.lo, .int .i64 b.y.hi] 60)).alloc (.cells #[.int .i64 b.x.lo, .int .i64 b.x.hi, .int .i64 b.y.lo, .int .i64 b.y.hi] 60) = W0 := ⟨_, rfl⟩
          have S0 : St w W0 [(n.w.heap.size + 1, 0, .int .i64 b.x.lo), (n.w.heap.size + 1, 1, .int .i64 b.x.hi), (n.w.heap.size + 1, 2, .int .i64 b.y.lo), (n.w.heap.size + 1, 3, .int .i64 b.y.hi), (n.w.heap.size, 0, .int .i64 b.x.lo), (n.w.heap.size, 1, .int .i64 b.x.hi), (n.w.heap.size, 2, .int .i64 b.y.lo), (n.w.heap.size, 3, .int .i64 b.y.hi), (w.heap.size + 1 + 1, 0, .int .i64 (0)), (w.heap.size + 1 + 1, 1, .int .i64 (0)), (w.heap.size + 1 + 1, 2, .int .i64 (0)), (w.heap.size + 1 + 1, 3, .int .i64 (0)), (w.heap.size + 1, 0, .int .i64 (0)), (w.heap.size + 1, 1, .int .i64 (0)), (w.heap.size + 1, 2, .int .i64 (0)), (w.heap.size + 1, 3, .int .i64 (0)), (w.heap.size, 0, .int .i64 b.x.lo), (w.heap.size, 1, .int .i64 b.x.hi), (w.heap.size, 2, .int .i64 b.y.lo), (w.heap.size, 3, .int .i64 b.y.hi)] := by rw [← hW0]; exact (((⟨BC.out n, LC.out n⟩ : St w n.w _)).box #[.int .i64 b.x.lo, .int .i64 b.x.hi, .int .i64 b.y.lo, .int .i64 b.y.hi] 60 (n.w.heap.size) (by simp)).box #[.int .i64 b.x.lo, .int .i64 b.x.hi, .int .i64 b.y.lo, .int .i64 b.y.hi] 60 (n.w.heap.size + 1) (by simp)
          rw [hW0]
          clear hW0
          obtain ⟨kD, hkk⟩ : ∃ k, n.w.heap.size = k := ⟨_, rfl⟩
          have gkD : w.heap.size ≤ kD := by rw [← hkk]; exact (BC.out n).size
          rw [hkk] at S0 ⊢
          have eD1 : kD ≠ w.heap.size + 1 + 1 := by have h := (LC.out n).1.1; omega
          have dD1 : w.heap.size + 1 + 1 ≠ kD := Ne.symm eD1
          have eD2 : kD ≠ w.heap.size + 1 := by have h := (LC.out n).2.2.2.2.1.1; omega
          have dD2 : w.heap.size + 1 ≠ kD := Ne.symm eD2
          have eD3 : kD ≠ w.heap.size := by have h := (LC.out n).2.2.2.2.2.2.2.2.1.1; omega
          have dD3 : w.heap.size ≠ kD := Ne.symm eD3
          clear hkk
          obtain ⟨D, hC0, HD, LD, BD, hne⟩ := cls S0
          haveI := hne
          obtain ⟨d0, rfl⟩ : ∃ n : Wd D, W0 = n.w := ⟨⟨_, hC0⟩, rfl⟩
          have fD0 : ∀ n : Wd D, n.w.cell? ⟨kD + 1, 0, none⟩ = some (.int .i64 b.x.lo) := fun n => (LD.out n).1.2.1
          have zD0 : ∀ n : Wd D, n.w.frozen? ⟨kD + 1, 0, none⟩ = false := fun n => (LD.out n).1.2.2
          have fD1 : ∀ n : Wd D, n.w.cell? ⟨kD + 1, 1, none⟩ = some (.int .i64 b.x.hi) := fun n => (LD.out n).2.1.2.1
          have zD1 : ∀ n : Wd D, n.w.frozen? ⟨kD + 1, 1, none⟩ = false := fun n => (LD.out n).2.1.2.2
          have fD2 : ∀ n : Wd D, n.w.cell? ⟨kD + 1, 2, none⟩ = some (.int .i64 b.y.lo) := fun n => (LD.out n).2.2.1.2.1
          have zD2 : ∀ n : Wd D, n.w.frozen? ⟨kD + 1, 2, none⟩ = false := fun n => (LD.out n).2.2.1.2.2
          have fD3 : ∀ n : Wd D, n.w.cell? ⟨kD + 1, 3, none⟩ = some (.int .i64 b.y.hi) := fun n => (LD.out n).2.2.2.1.2.1
          have zD3 : ∀ n : Wd D, n.w.frozen? ⟨kD + 1, 3, none⟩ = false := fun n => (LD.out n).2.2.2.1.2.2
          have fD4 : ∀ n : Wd D, n.w.cell? ⟨kD, 0, none⟩ = some (.int .i64 b.x.lo) := fun n => (LD.out n).2.2.2.2.1.2.1
          have zD4 : ∀ n : Wd D, n.w.frozen? ⟨kD, 0, none⟩ = false := fun n => (LD.out n).2.2.2.2.1.2.2
          have fD5 : ∀ n : Wd D, n.w.cell? ⟨kD, 1, none⟩ = some (.int .i64 b.x.hi) := fun n => (LD.out n).2.2.2.2.2.1.2.1
          have zD5 : ∀ n : Wd D, n.w.frozen? ⟨kD, 1, none⟩ = false := fun n => (LD.out n).2.2.2.2.2.1.2.2
          have fD6 : ∀ n : Wd D, n.w.cell? ⟨kD, 2, none⟩ = some (.int .i64 b.y.lo) := fun n => (LD.out n).2.2.2.2.2.2.1.2.1
          have zD6 : ∀ n : Wd D, n.w.frozen? ⟨kD, 2, none⟩ = false := fun n => (LD.out n).2.2.2.2.2.2.1.2.2
          have fD7 : ∀ n : Wd D, n.w.cell? ⟨kD, 3, none⟩ = some (.int .i64 b.y.hi) := fun n => (LD.out n).2.2.2.2.2.2.2.1.2.1
          have zD7 : ∀ n : Wd D, n.w.frozen? ⟨kD, 3, none⟩ = false := fun n => (LD.out n).2.2.2.2.2.2.2.1.2.2
          have fD8 : ∀ n : Wd D, n.w.cell? ⟨w.heap.size + 1 + 1, 0, none⟩ = some (.int .i64 (0)) := fun n => (LD.out n).2.2.2.2.2.2.2.2.1.2.1
          have zD8 : ∀ n : Wd D, n.w.frozen? ⟨w.heap.size + 1 + 1, 0, none⟩ = false := fun n => (LD.out n).2.2.2.2.2.2.2.2.1.2.2
          have fD9 : ∀ n : Wd D, n.w.cell? ⟨w.heap.size + 1 + 1, 1, none⟩ = some (.int .i64 (0)) := fun n => (LD.out n).2.2.2.2.2.2.2.2.2.1.2.1
          have zD9 : ∀ n : Wd D, n.w.frozen? ⟨w.heap.size + 1 + 1, 1, none⟩ = false := fun n => (LD.out n).2.2.2.2.2.2.2.2.2.1.2.2
          have fD10 : ∀ n : Wd D, n.w.cell? ⟨w.heap.size + 1 + 1, 2, none⟩ = some (.int .i64 (0)) := fun n => (LD.out n).2.2.2.2.2.2.2.2.2.2.1.2.1
          have zD10 : ∀ n : Wd D, n.w.frozen? ⟨w.heap.size + 1 + 1, 2, none⟩ = false := fun n => (LD.out n).2.2.2.2.2.2.2.2.2.2.1.2.2
          have fD11 : ∀ n : Wd D, n.w.cell? ⟨w.heap.size + 1 + 1, 3, none⟩ = some (.int .i64 (0)) := fun n => (LD.out n).2.2.2.2.2.2.2.2.2.2.2.1.2.1
          have zD11 : ∀ n : Wd D, n.w.frozen? ⟨w.heap.size + 1 + 1, 3, none⟩ = false := fun n => (LD.out n).2.2.2.2.2.2.2.2.2.2.2.1.2.2
          have fD12 : ∀ n : Wd D, n.w.cell? ⟨w.heap.size + 1, 0, none⟩ = some (.int .i64 (0)) := fun n => (LD.out n).2.2.2.2.2.2.2.2.2.2.2.2.1.2.1
          have zD12 : ∀ n : Wd D, n.w.frozen? ⟨w.heap.size + 1, 0, none⟩ = false := fun n => (LD.out n).2.2.2.2.2.2.2.2.2.2.2.2.1.2.2
          have fD13 : ∀ n : Wd D, n.w.cell? ⟨w.heap.size + 1, 1, none⟩ = some (.int .i64 (0)) := fun n => (LD.out n).2.2.2.2.2.2.2.2.2.2.2.2.2.1.2.1
          have zD13 : ∀ n : Wd D, n.w.frozen? ⟨w.heap.size + 1, 1, none⟩ = false := fun n => (LD.out n).2.2.2.2.2.2.2.2.2.2.2.2.2.1.2.2
          have fD14 : ∀ n : Wd D, n.w.cell? ⟨w.heap.size + 1, 2, none⟩ = some (.int .i64 (0)) := fun n => (LD.out n).2.2.2.2.2.2.2.2.2.2.2.2.2.2.1.2.1
          have zD14 : ∀ n : Wd D, n.w.frozen? ⟨w.heap.size + 1, 2, none⟩ = false := fun n => (LD.out n).2.2.2.2.2.2.2.2.2.2.2.2.2.2.1.2.2
          have fD15 : ∀ n : Wd D, n.w.cell? ⟨w.heap.size + 1, 3, none⟩ = some (.int .i64 (0)) := fun n => (LD.out n).2.2.2.2.2.2.2.2.2.2.2.2.2.2.2.1.2.1
          have zD15 : ∀ n : Wd D, n.w.frozen? ⟨w.heap.size + 1, 3, none⟩ = false := fun n => (LD.out n).2.2.2.2.2.2.2.2.2.2.2.2.2.2.2.1.2.2
          have fD16 : ∀ n : Wd D, n.w.cell? ⟨w.heap.size, 0, none⟩ = some (.int .i64 b.x.lo) := fun n => (LD.out n).2.2.2.2.2.2.2.2.2.2.2.2.2.2.2.2.1.2.1
          have zD16 : ∀ n : Wd D, n.w.frozen? ⟨w.heap.size, 0, none⟩ = false := fun n => (LD.out n).2.2.2.2.2.2.2.2.2.2.2.2.2.2.2.2.1.2.2
          have fD17 : ∀ n : Wd D, n.w.cell? ⟨w.heap.size, 1, none⟩ = some (.int .i64 b.x.hi) := fun n => (LD.out n).2.2.2.2.2.2.2.2.2.2.2.2.2.2.2.2.2.1.2.1
          have zD17 : ∀ n : Wd D, n.w.frozen? ⟨w.heap.size, 1, none⟩ = false := fun n => (LD.out n).2.2.2.2.2.2.2.2.2.2.2.2.2.2.2.2.2.1.2.2
          have fD18 : ∀ n : Wd D, n.w.cell? ⟨w.heap.size, 2, none⟩ = some (.int .i64 b.y.lo) := fun n => (LD.out n).2.2.2.2.2.2.2.2.2.2.2.2.2.2.2.2.2.2.1.2.1
          have zD18 : ∀ n : Wd D, n.w.frozen? ⟨w.heap.size, 2, none⟩ = false := fun n => (LD.out n).2.2.2.2.2.2.2.2.2.2.2.2.2.2.2.2.2.2.1.2.2
          have fD19 : ∀ n : Wd D, n.w.cell? ⟨w.heap.size, 3, none⟩ = some (.int .i64 b.y.hi) := fun n => (LD.out n).2.2.2.2.2.2.2.2.2.2.2.2.2.2.2.2.2.2.2.1.2.1
          have zD19 : ∀ n : Wd D, n.w.frozen? ⟨w.heap.size, 3, none⟩ = false := fun n => (LD.out n).2.2.2.2.2.2.2.2.2.2.2.2.2.2.2.2.2.2.2.1.2.2
          clear S0 hC0
          have E1 := cin HD M2
          clear hu hv
          go_wp2_with (first | (go_at_call 124; with_reducible refine (E1 _).out.mono ?_; rintro e w' ⟨rfl, n, rfl⟩))
          obtain ⟨W0, hW0⟩ : ∃ W0, (n.w).setCell ⟨kD, 3, none⟩ (.int .i64 my) = W0 := ⟨_, rfl⟩
          have S0 : St w W0 [(kD + 1, 0, .int .i64 b.x.lo), (kD + 1, 1, .int .i64 b.x.hi), (kD + 1, 2, .int .i64 b.y.lo), (kD + 1, 3, .int .i64 b.y.hi), (kD, 0, .int .i64 b.x.lo), (kD, 1, .int .i64 b.x.hi), (kD, 2, .int .i64 b.y.lo), (kD, 3, .int .i64 my), (w.heap.size + 1 + 1, 0, .int .i64 (0)), (w.heap.size + 1 + 1, 1, .int .i64 (0)), (w.heap.size + 1 + 1, 2, .int .i64 (0)), (w.heap.size + 1 + 1, 3, .int .i64 (0)), (w.heap.size + 1, 0, .int .i64 (0)), (w.heap.size + 1, 1, .int .i64 (0)), (w.heap.size + 1, 2, .int .i64 (0)), (w.heap.size + 1, 3, .int .i64 (0)), (w.heap.size, 0, .int .i64 b.x.lo), (w.heap.size, 1, .int .i64 b.x.hi), (w.heap.size, 2, .int .i64 b.y.lo), (w.heap.size, 3, .int .i64 b.y.hi)] := by rw [← hW0]; exact (St.setAt [(kD + 1, 0, .int .i64 b.x.lo), (kD + 1, 1, .int .i64 b.x.hi), (kD + 1, 2, .int .i64 b.y.lo), (kD + 1, 3, .int .i64 b.y.hi), (kD, 0, .int .i64 b.x.lo), (kD, 1, .int .i64 b.x.hi), (kD, 2, .int .i64 b.y.lo)] [(w.heap.size + 1 + 1, 0, .int .i64 (0)), (w.heap.size + 1 + 1, 1, .int .i64 (0)), (w.heap.size + 1 + 1, 2, .int .i64 (0)), (w.heap.size + 1 + 1, 3, .int .i64 (0)), (w.heap.size + 1, 0, .int .i64 (0)), (w.heap.size + 1, 1, .int .i64 (0)), (w.heap.size + 1, 2, .int .i64 (0)), (w.heap.size + 1, 3, .int .i64 (0)), (w.heap.size, 0, .int .i64 b.x.lo), (w.heap.size, 1, .int .i64 b.x.hi), (w.heap.size, 2, .int .i64 b.y.lo), (w.heap.size, 3, .int .i64 b.y.hi)] (kD) 3 (.int .i64 b.y.hi) (.int .i64 my) (⟨BD.out n, LD.out n⟩ : St w n.w _) (by omega) (all_app (all_cons (by omega) (all_cons (by omega) (all_cons (by omega) (all_cons (by omega) (all_cons (by omega) (all_cons (by omega) (all_cons (by omega) all_nil))))))) (all_cons (by omega) (all_cons (by omega) (all_cons (by omega) (all_cons (by omega) (all_cons (by omega) (all_cons (by omega) (all_cons (by omega) (all_cons (by omega) (all_cons (by omega) (all_cons (by omega) (all_cons (by omega) (all_cons (by omega) all_nil))))))))))))))
          rw [hW0]
          clear hW0
          obtain ⟨E, hC0, HE, LE, BE, hne⟩ := cls S0
          haveI := hne
          obtain ⟨e0, rfl⟩ : ∃ n : Wd E, W0 = n.w := ⟨⟨_, hC0⟩, rfl⟩
          have fE0 : ∀ n : Wd E, n.w.cell? ⟨kD + 1, 0, none⟩ = some (.int .i64 b.x.lo) := fun n => (LE.out n).1.2.1
          have zE0 : ∀ n : Wd E, n.w.frozen? ⟨kD + 1, 0, none⟩ = false := fun n => (LE.out n).1.2.2
          have fE1 : ∀ n : Wd E, n.w.cell? ⟨kD + 1, 1, none⟩ = some (.int .i64 b.x.hi) := fun n => (LE.out n).2.1.2.1
          have zE1 : ∀ n : Wd E, n.w.frozen? ⟨kD + 1, 1, none⟩ = false := fun n => (LE.out n).2.1.2.2
          have fE2 : ∀ n : Wd E, n.w.cell? ⟨kD + 1, 2, none⟩ = some (.int .i64 b.y.lo) := fun n => (LE.out n).2.2.1.2.1
          have zE2 : ∀ n : Wd E, n.w.frozen? ⟨kD + 1, 2, none⟩ = false := fun n => (LE.out n).2.2.1.2.2
          have fE3 : ∀ n : Wd E, n.w.cell? ⟨kD + 1, 3, none⟩ = some (.int .i64 b.y.hi) := fun n => (LE.out n).2.2.2.1.2.1
          have zE3 : ∀ n : Wd E, n.w.frozen? ⟨kD + 1, 3, none⟩ = false := fun n => (LE.out n).2.2.2.1.2.2
          have fE4 : ∀ n : Wd E, n.w.cell? ⟨kD, 0, none⟩ = some (.int .i64 b.x.lo) := fun n => (LE.out n).2.2.2.2.1.2.1
          have zE4 : ∀ n : Wd E, n.w.frozen? ⟨kD, 0, none⟩ = false := fun n => (LE.out n).2.2.2.2.1.2.2
          have fE5 : ∀ n : Wd E, n.w.cell? ⟨kD, 1, none⟩ = some (.int .i64 b.x.hi) := fun n => (LE.out n).2.2.2.2.2.1.2.1
          have zE5 : ∀ n : Wd E, n.w.frozen? ⟨kD, 1, none⟩ = false := fun n => (LE.out n).2.2.2.2.2.1.2.2
          have fE6 : ∀ n : Wd E, n.w.cell? ⟨kD, 2, none⟩ = some (.int .i64 b.y.lo) := fun n => (LE.out n).2.2.2.2.2.2.1.2.1
          have zE6 : ∀ n : Wd E, n.w.frozen? ⟨kD, 2, none⟩ = false := fun n => (LE.out n).2.2.2.2.2.2.1.2.2
          have fE7 : ∀ n : Wd E, n.w.cell? ⟨kD, 3, none⟩ = some (.int .i64 my) := fun n => (LE.out n).2.2.2.2.2.2.2.1.2.1
          have zE7 : ∀ n : Wd E, n.w.frozen? ⟨kD, 3, none⟩ = false := fun n => (LE.out n).2.2.2.2.2.2.2.1.2.2
          have fE8 : ∀ n : Wd E, n.w.cell? ⟨w.heap.size + 1 + 1, 0, none⟩ = some (.int .i64 (0)) := fun n => (LE.out n).2.2.2.2.2.2.2.2.1.2.1
          have zE8 : ∀ n : Wd E, n.w.frozen? ⟨w.heap.size + 1 + 1, 0, none⟩ = false := fun n => (LE.out n).2.2.2.2.2.2.2.2.1.2.2
          have fE9 : ∀ n : Wd E, n.w.cell? ⟨w.heap.size + 1 + 1, 1, none⟩ = some (.int .i64 (0)) := fun n => (LE.out n).2.2.2.2.2.2.2.2.2.1.2.1
          have zE9 : ∀ n : Wd E, n.w.frozen? ⟨w.heap.size + 1 + 1, 1, none⟩ = false := fun n => (LE.out n).2.2.2.2.2.2.2.2.2.1.2.2
          have fE10 : ∀ n : Wd E, n.w.cell? ⟨w.heap.size + 1 + 1, 2, none⟩ = some (.int .i64 (0)) := fun n => (LE.out n).2.2.2.2.2.2.2.2.2.2.1.2.1
          have zE10 : ∀ n : Wd E, n.w.frozen? ⟨w.heap.size + 1 + 1, 2, none⟩ = false := fun n => (LE.out n).2.2.2.2.2.2.2.2.2.2.1.2.2
          have fE11 : ∀ n : Wd E, n.w.cell? ⟨w.heap.size + 1 + 1, 3, none⟩ = some (.int .i64 (0)) := fun n => (LE.out n).2.2.2.2.2.2.2.2.2.2.2.1.2.1
          have zE11 : ∀ n : Wd E, n.w.frozen? ⟨w.heap.size + 1 + 1, 3, none⟩ = false := fun n => (LE.out n).2.2.2.2.2.2.2.2.2.2.2.1.2.2
          have fE12 : ∀ n : Wd E, n.w.cell? ⟨w.heap.size + 1, 0, none⟩ = some (.int .i64 (0)) := fun n => (LE.out n).2.2.2.2.2.2.2.2.2.2.2.2.1.2.1
          have zE12 : ∀ n : Wd E, n.w.frozen? ⟨w.heap.size + 1, 0, none⟩ = false := fun n => (LE.out n).2.2.2.2.2.2.2.2.2.2.2.2.1.2.2
          have fE13 : ∀ n : Wd E, n.w.cell? ⟨w.heap.size + 1, 1, none⟩ = some (.int .i64 (0)) := fun n => (LE.out n).2.2.2.2.2.2.2.2.2.2.2.2.2.1.2.1
          have zE13 : ∀ n : Wd E, n.w.frozen? ⟨w.heap.size + 1, 1, none⟩ = false := fun n => (LE.out n).2.2.2.2.2.2.2.2.2.2.2.2.2.1.2.2
          have fE14 : ∀ n : Wd E, n.w.cell? ⟨w.heap.size + 1, 2, none⟩ = some (.int .i64 (0)) := fun n => (LE.out n).2.2.2.2.2.2.2.2.2.2.2.2.2.2.1.2.1
          have zE14 : ∀ n : Wd E, n.w.frozen? ⟨w.heap.size + 1, 2, none⟩ = false := fun n => (LE.out n).2.2.2.2.2.2.2.2.2.2.2.2.2.2.1.2.2
          have fE15 : ∀ n : Wd E, n.w.cell? ⟨w.heap.size + 1, 3, none⟩ = some (.int .i64 (0)) := fun n => (LE.out n).2.2.2.2.2.2.2.2.2.2.2.2.2.2.2.1.2.1
          have zE15 : ∀ n : Wd E, n.w.frozen? ⟨w.heap.size + 1, 3, none⟩ = false := fun n => (LE.out n).2.2.2.2.2.2.2.2.2.2.2.2.2.2.2.1.2.2
          have fE16 : ∀ n : Wd E, n.w.cell? ⟨w.heap.size, 0, none⟩ = some (.int .i64 b.x.lo) := fun n => (LE.out n).2.2.2.2.2.2.2.2.2.2.2.2.2.2.2.2.1.2.1
          have zE16 : ∀ n : Wd E, n.w.frozen? ⟨w.heap.size, 0, none⟩ = false := fun n => (LE.out n).2.2.2.2.2.2.2.2.2.2.2.2.2.2.2.2.1.2.2
          have fE17 : ∀ n : Wd E, n.w.cell? ⟨w.heap.size, 1, none⟩ = some (.int .i64 b.x.hi) := fun n => (LE.out n).2.2.2.2.2.2.2.2.2.2.2.2.2.2.2.2.2.1.2.1
          have zE17 : ∀ n : Wd E, n.w.frozen? ⟨w.heap.size, 1, none⟩ = false := fun n => (LE.out n).2.2.2.2.2.2.2.2.2.2.2.2.2.2.2.2.2.1.2.2
          have fE18 : ∀ n : Wd E, n.w.cell? ⟨w.heap.size, 2, none⟩ = some (.int .i64 b.y.lo) := fun n => (LE.out n).2.2.2.2.2.2.2.2.2.2.2.2.2.2.2.2.2.2.1.2.1
          have zE18 : ∀ n : Wd E, n.w.frozen? ⟨w.heap.size, 2, none⟩ = false := fun n => (LE.out n).2.2.2.2.2.2.2.2.2.2.2.2.2.2.2.2.2.2.1.2.2
          have fE19 : ∀ n : Wd E, n.w.cell? ⟨w.heap.size, 3, none⟩ = some (.int .i64 b.y.hi) := fun n => (LE.out n).2.2.2.2.2.2.2.2.2.2.2.2.2.2.2.2.2.2.2.1.2.1
          have zE19 : ∀ n : Wd E, n.w.frozen? ⟨w.heap.size, 3, none⟩ = false := fun n => (LE.out n).2.2.2.2.2.2.2.2.2.2.2.2.2.2.2.2.2.2.2.1.2.2
          clear S0 hC0
          have E2 := cin HE M2
          go_wp2_with (first | (go_at_call 124; with_reducible refine (E2 _).out.mono ?_; rintro e w' ⟨rfl, n, rfl⟩))
          obtain ⟨W0, hW0⟩ : ∃ W0, (n.w).setCell ⟨kD + 1, 2, none⟩ (.int .i64 (my + 1)) = W0 := ⟨_, rfl⟩
          have S0 : St w W0 [(kD + 1, 0, .int .i64 b.x.lo), (kD + 1, 1, .int .i64 b.x.hi), (kD + 1, 2, .int .i64 (my + 1)), (kD + 1, 3, .int .i64 b.y.hi), (kD, 0, .int .i64 b.x.lo), (kD, 1, .int .i64 b.x.hi), (kD, 2, .int .i64 b.y.lo), (kD, 3, .int .i64 my), (w.heap.size + 1 + 1, 0, .int .i64 (0)), (w.heap.size + 1 + 1, 1, .int .i64 (0)), (w.heap.size + 1 + 1, 2, .int .i64 (0)), (w.heap.size + 1 + 1, 3, .int .i64 (0)), (w.heap.size + 1, 0, .int .i64 (0)), (w.heap.size + 1, 1, .int .i64 (0)), (w.heap.size + 1, 2, .int .i64 (0)), (w.heap.size + 1, 3, .int .i64 (0)), (w.heap.size, 0, .int .i64 b.x.lo), (w.heap.size, 1, .int .i64 b.x.hi), (w.heap.size, 2, .int .i64 b.y.lo), (w.heap.size, 3, .int .i64 b.y.hi)] := by rw [← hW0]; exact (St.setAt [(kD + 1, 0, .int .i64 b.x.lo), (kD + 1, 1, .int .i64 b.x.hi)] [(kD + 1, 3, .int .i64 b.y.hi), (kD, 0, .int .i64 b.x.lo), (kD, 1, .int .i64 b.x.hi), (kD, 2, .int .i64 b.y.lo), (kD, 3, .int .i64 my), (w.heap.size + 1 + 1, 0, .int .i64 (0)), (w.heap.size + 1 + 1, 1, .int .i64 (0)), (w.heap.size + 1 + 1, 2, .int .i64 (0)), (w.heap.size + 1 + 1, 3, .int .i64 (0)), (w.heap.size + 1, 0, .int .i64 (0)), (w.heap.size + 1, 1, .int .i64 (0)), (w.heap.size + 1, 2, .int .i64 (0)), (w.heap.size + 1, 3, .int .i64 (0)), (w.heap.size, 0, .int .i64 b.x.lo), (w.heap.size, 1, .int .i64 b.x.hi), (w.heap.size, 2, .int .i64 b.y.lo), (w.heap.size, 3, .int .i64 b.y.hi)] (kD + 1) 2 (.int .i64 b.y.lo) (.int .i64 (my + 1)) (⟨BE.out n, LE.out n⟩ : St w n.w _) (by omega) (all_app (all_cons (by omega) (all_cons (by omega) all_nil)) (all_cons (by omega) (all_cons (by omega) (all_cons (by omega) (all_cons (by omega) (all_cons (by omega) (all_cons (by omega) (all_cons (by omega) (all_cons (by omega) (all_cons (by omega) (all_cons (by omega) (all_cons (by omega) (all_cons (by omega) (all_cons (by omega) (all_cons (by omega) (all_cons (by omega) (all_cons (by omega) (all_cons (by omega) all_nil)))))))))))))))))))
          rw [hW0]
          clear hW0
          obtain ⟨F, hC0, HF, LF, BF, hne⟩ := cls S0
          haveI := hne
          obtain ⟨f0, rfl⟩ : ∃ n : Wd F, W0 = n.w := ⟨⟨_, hC0⟩, rfl⟩
          have fF0 : ∀ n : Wd F, n.w.cell? ⟨kD + 1, 0, none⟩ = some (.int .i64 b.x.lo) := fun n => (LF.out n).1.2.1
          have zF0 : ∀ n : Wd F, n.w.frozen? ⟨kD + 1, 0, none⟩ = false := fun n => (LF.out n).1.2.2
          have fF1 : ∀ n : Wd F, n.w.cell? ⟨kD + 1, 1, none⟩ = some (.int .i64 b.x.hi) := fun n => (LF.out n).2.1.2.1
          have zF1 : ∀ n : Wd F, n.w.frozen? ⟨kD + 1, 1, none⟩ = false := fun n => (LF.out n).2.1.2.2
          have fF2 : ∀ n : Wd F, n.w.cell? ⟨kD + 1, 2, none⟩ = some (.int .i64 (my + 1)) := fun n => (LF.out n).2.2.1.2.1
          have zF2 : ∀ n : Wd F, n.w.frozen? ⟨kD + 1, 2, none⟩ = false := fun n => (LF.out n).2.2.1.2.2
          have fF3 : ∀ n : Wd F, n.w.cell? ⟨kD + 1, 3, none⟩ = some (.int .i64 b.y.hi) := fun n => (LF.out n).2.2.2.1.2.1
          have zF3 : ∀ n : Wd F, n.w.frozen? ⟨kD + 1, 3, none⟩ = false := fun n => (LF.out n).2.2.2.1.2.2
          have fF4 : ∀ n : Wd F, n.w.cell? ⟨kD, 0, none⟩ = some (.int .i64 b.x.lo) := fun n => (LF.out n).2.2.2.2.1.2.1
          have zF4 : ∀ n : Wd F, n.w.frozen? ⟨kD, 0, none⟩ = false := fun n => (LF.out n).2.2.2.2.1.2.2
          have fF5 : ∀ n : Wd F, n.w.cell? ⟨kD, 1, none⟩ = some (.int .i64 b.x.hi) := fun n => (LF.out n).2.2.2.2.2.1.2.1
          have zF5 : ∀ n : Wd F, n.w.frozen? ⟨kD, 1, none⟩ = false := fun n => (LF.out n).2.2.2.2.2.1.2.2
          have fF6 : ∀ n : Wd F, n.w.cell? ⟨kD, 2, none⟩ = some (.int .i64 b.y.lo) := fun n => (LF.out n).2.2.2.2.2.2.1.2.1
          have zF6 : ∀ n : Wd F, n.w.frozen? ⟨kD, 2, none⟩ = false := fun n => (LF.out n).2.2.2.2.2.2.1.2.2
          have fF7 : ∀ n : Wd F, n.w.cell? ⟨kD, 3, none⟩ = some (.int .i64 my) := fun n => (LF.out n).2.2.2.2.2.2.2.1.2.1
          have zF7 : ∀ n : Wd F, n.w.frozen? ⟨kD, 3, none⟩ = false := fun n => (LF.out n).2.2.2.2.2.2.2.1.2.2
          have fF8 : ∀ n : Wd F, n.w.cell? ⟨w.heap.size + 1 + 1, 0, none⟩ = some (.int .i64 (0)) := fun n => (LF.out n).2.2.2.2.2.2.2.2.1.2.1
          have zF8 : ∀ n : Wd F, n.w.frozen? ⟨w.heap.size + 1 + 1, 0, none⟩ = false := fun n => (LF.out n).2.2.2.2.2.2.2.2.1.2.2
          have fF9 : ∀ n : Wd F, n.w.cell? ⟨w.heap.size + 1 + 1, 1, none⟩ = some (.int .i64 (0)) := fun n => (LF.out n).2.2.2.2.2.2.2.2.2.1.2.1
          have zF9 : ∀ n : Wd F, n.w.frozen? ⟨w.heap.size + 1 + 1, 1, none⟩ = false := fun n => (LF.out n).2.2.2.2.2.2.2.2.2.1.2.2
          have fF10 : ∀ n : Wd F, n.w.cell? ⟨w.heap.size + 1 + 1, 2, none⟩ = some (.int .i64 (0)) := fun n => (LF.out n).2.2.2.2.2.2.2.2.2.2.1.2.1
          have zF10 : ∀ n : Wd F, n.w.frozen? ⟨w.heap.size + 1 + 1, 2, none⟩ = false := fun n => (LF.out n).2.2.2.2.2.2.2.2.2.2.1.2.2
          have fF11 : ∀ n : Wd F, n.w.cell? ⟨w.heap.size + 1 + 1, 3, none⟩ = some (.int .i64 (0)) := fun n => (LF.out n).2.2.2.2.2.2.2.2.2.2.2.1.2.1
          have zF11 : ∀ n : Wd F, n.w.frozen? ⟨w.heap.size + 1 + 1, 3, none⟩ = false := fun n => (LF.out n).2.2.2.2.2.2.2.2.2.2.2.1.2.2
          have fF12 : ∀ n : Wd F, n.w.cell? ⟨w.heap.size + 1, 0, none⟩ = some (.int .i64 (0)) := fun n => (LF.out n).2.2.2.2.2.2.2.2.2.2.2.2.1.2.1
          have zF12 : ∀ n : Wd F, n.w.frozen? ⟨w.heap.size + 1, 0, none⟩ = false := fun n => (LF.out n).2.2.2.2.2.2.2.2.2.2.2.2.1.2.2
          have fF13 : ∀ n : Wd F, n.w.cell? ⟨w.heap.size + 1, 1, none⟩ = some (.int .i64 (0)) := fun n => (LF.out n).2.2.2.2.2.2.2.2.2.2.2.2.2.1.2.1
          have zF13 : ∀ n : Wd F, n.w.frozen? ⟨w.heap.size + 1, 1, none⟩ = false := fun n => (LF.out n).2.2.2.2.2.2.2.2.2.2.2.2.2.1.2.2
          have fF14 : ∀ n : Wd F, n.w.cell? ⟨w.heap.size + 1, 2, none⟩ = some (.int .i64 (0)) := fun n => (LF.out n).2.2.2.2.2.2.2.2.2.2.2.2.2.2.1.2.1
          have zF14 : ∀ n : Wd F, n.w.frozen? ⟨w.heap.size + 1, 2, none⟩ = false := fun n => (LF.out n).2.2.2.2.2.2.2.2.2.2.2.2.2.2.1.2.2
          have fF15 : ∀ n : Wd F, n.w.cell? ⟨w.heap.size + 1, 3, none⟩ = some (.int .i64 (0)) := fun n => (LF.out n).2.2.2.2.2.2.2.2.2.2.2.2.2.2.2.1.2.1
          have zF15 : ∀ n : Wd F, n.w.frozen? ⟨w.heap.size + 1, 3, none⟩ = false := fun n => (LF.out n).2.2.2.2.2.2.2.2.2.2.2.2.2.2.2.1.2.2
          have fF16 : ∀ n : Wd F, n.w.cell? ⟨w.heap.size, 0, none⟩ = some (.int .i64 b.x.lo) := fun n => (LF.out n).2.2.2.2.2.2.2.2.2.2.2.2.2.2.2.2.1.2.1
          have zF16 : ∀ n : Wd F, n.w.frozen? ⟨w.heap.size, 0, none⟩ = false := fun n => (LF.out n).2.2.2.2.2.2.2.2.2.2.2.2.2.2.2.2.1.2.2
          have fF17 : ∀ n : Wd F, n.w.cell? ⟨w.heap.size, 1, none⟩ = some (.int .i64 b.x.hi) := fun n => (LF.out n).2.2.2.2.2.2.2.2.2.2.2.2.2.2.2.2.2.1.2.1
          have zF17 : ∀ n : Wd F, n.w.frozen? ⟨w.heap.size, 1, none⟩ = false := fun n => (LF.out n).2.2.2.2.2.2.2.2.2.2.2.2.2.2.2.2.2.1.2.2
          have fF18 : ∀ n : Wd F, n.w.cell? ⟨w.heap.size, 2, none⟩ = some (.int .i64 b.y.lo) := fun n => (LF.out n).2.2.2.2.2.2.2.2.2.2.2.2.2.2.2.2.2.2.1.2.1
          have zF18 : ∀ n : Wd F, n.w.frozen? ⟨w.heap.size, 2, none⟩ = false := fun n => (LF.out n).2.2.2.2.2.2.2.2.2.2.2.2.2.2.2.2.2.2.1.2.2
          have fF19 : ∀ n : Wd F, n.w.cell? ⟨w.heap.size, 3, none⟩ = some (.int .i64 b.y.hi) := fun n => (LF.out n).2.2.2.2.2.2.2.2.2.2.2.2.2.2.2.2.2.2.2.1.2.1
          have zF19 : ∀ n : Wd F, n.w.frozen? ⟨w.heap.size, 3, none⟩ = false := fun n => (LF.out n).2.2.2.2.2.2.2.2.2.2.2.2.2.2.2.2.2.2.2.1.2.2
          clear S0 hC0
          clear E1 E2 M1 M2 HE HD LE LD HC LC
          go_region
          all_goals
            go_wp2_with fail
            obtain rfl : R = _ := HR3.out
            refine bodyPost_ret (v := bx2Res (some (⟨b.x, ⟨b.y.lo, my⟩⟩, ⟨b.x, ⟨my + 1, b.y.hi⟩⟩))) (by simp [results, Try.results52, go_sem, bx2Res, fF8, fF9, fF10, fF11, fF12, fF13, fF14, fF15]) rfl ⟨rfl, ?_⟩
            exact (below_set4' (below_set4' (BF.out _) _ _ _ _ _ (by omega)) _ _ _ _ _ (by omega)).drew
end Go.Proofs.Ytdefpcjlbganpaa
