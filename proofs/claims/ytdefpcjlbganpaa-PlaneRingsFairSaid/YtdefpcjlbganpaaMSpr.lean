import Derived.RangeFuncNested
import Derived.RangeFuncBox
import Derived.RangeFuncBound
import Derived.RangeFuncCalls
import Derived.RangeFuncLeaves
import Derived.Shelf.Abstract
import Derived.Shelf.RegionOpen
import Derived.BigRegionIn
import Derived.Stop.RegionWithIn
import Derived.WalkKit
import Derived.OwnWalkIn
import Derived.TacticsInMore
import Derived.LoopNIn
import Derived.LoopIn
import Derived.Lib.Hide
import Derived.IntWalk
import Derived.Deep.QuietTactic
import Derived.Deep.RegionHeld3
import Derived.Deep.RegionLaw
import Derived.StillTailTactics
import Derived.WalkSmall
import Derived.Deep.DeepMust
import Derived.BigQuiet
import Derived.WalkLawsBesides
import Derived.WalkSpells
import Derived.LoopTactic
import Derived.Test.YtdefpcjlbganpaaMDist
import Derived.Deep.DeepCutAuto
import Derived.Deep.CutBlock
namespace Go.Proofs.Ytdefpcjlbganpaa
open Go.RowKit Go.Shelf Go.BigFrame Go.Sort
attribute [local go_sem] Oper.semAt_some
attribute [local go_sem] World.cell?_alloc_some
set_option maxRecDepth 100000 in
set_option maxHeartbeats 32000000 in
theorem Spread_yes (a b c : Bx) (w : World) (ha : okB a = true) (hb : okB b = true) (hc : okB c = true) : Calls Try.prog 59 #[a.v, b.v, c.v] w fun e w' => e = .returned (spRes (some (sprd (cr a) (cr b) (cr c)))) ∧ Below w.heap.size w w' := by
  have C1 := fun W => Proper_any a W
  have C2 := fun W => Proper_any b W
  have C3 := fun W => Proper_any c W
  rw [ha] at C1
  rw [hb] at C2
  rw [hc] at C3
  have C4 := fun W => Corners_any a W
  have C5 := fun W => Corners_any b W
  have C6 := fun W => Corners_any c W
  have OA := cr_ok ha
  have OB := cr_ok hb
  have OC := cr_ok hc
  obtain ⟨pa, hpa⟩ : ∃ p, cr a = p := ⟨_, rfl⟩
  obtain ⟨pb, hpb⟩ : ∃ p, cr b = p := ⟨_, rfl⟩
  obtain ⟨pc, hpc⟩ : ∃ p, cr c = p := ⟨_, rfl⟩
  rw [hpa] at OA ⊢
  rw [hpb] at OB ⊢
  rw [hpc] at OC ⊢
  simp only [hpa] at C4
  simp only [hpb] at C5
  simp only [hpc] at C6
  have C7 := Lib.hid (fun i j k W => twiceArea_any (pa i) (pb j) (pc k) W (OA i) (OB j) (OC k))
  clear hpa hpb hpc OA OB OC ha hb hc
  have HFIN : Hid (spI pa pb pc ⟨ar (pa 0) (pb 0) (pc 0), ar (pa 0) (pb 0) (pc 0)⟩ 4 = sprd pa pb pc) := rfl
  obtain ⟨R, hR⟩ : ∃ R, sprd pa pb pc = R := ⟨_, rfl⟩
  rw [hR] at HFIN ⊢
  clear hR
  obtain ⟨n0v, hn0⟩ : ∃ n, ar (pa 0) (pb 0) (pc 0) = n := ⟨_, rfl⟩
  rw [hn0] at HFIN
  have HN0 := Lib.hid hn0
  clear hn0
  go_enter Try.func59, Try.ntmps59
  go_wp2_with fail
  obtain ⟨W0, hW0⟩ : ∃ W0, ((((w).alloc (.cells #[.int .i64 a.x.lo, .int .i64 a.x.hi, .int .i64 a.y.lo, .int .i64 a.y.hi] 60)).alloc (.cells #[.int .i64 b.x.lo, .int .i64 b.x.hi, .int .i64 b.y.lo, .int .i64 b.y.hi] 60)).alloc (.cells #[.int .i64 c.x.lo, .int .i64 c.x.hi, .int .i64 c.y.lo, .int .i64 c.y.hi] 60)).alloc (.cells #[.int .i64 (0), .int .i64 (0)] 58) = W0 := ⟨_, rfl⟩
  have S0 : St w W0 [(w.heap.size + 1 + 1 + 1, 0, .int .i64 (0)), (w.heap.size + 1 + 1 + 1, 1, .int .i64 (0)), (w.heap.size + 1 + 1, 0, .int .i64 c.x.lo), (w.heap.size + 1 + 1, 1, .int .i64 c.x.hi), (w.heap.size + 1 + 1, 2, .int .i64 c.y.lo), (w.heap.size + 1 + 1, 3, .int .i64 c.y.hi), (w.heap.size + 1, 0, .int .i64 b.x.lo), (w.heap.size + 1, 1, .int .i64 b.x.hi), (w.heap.size + 1, 2, .int .i64 b.y.lo), (w.heap.size + 1, 3, .int .i64 b.y.hi), (w.heap.size, 0, .int .i64 a.x.lo), (w.heap.size, 1, .int .i64 a.x.hi), (w.heap.size, 2, .int .i64 a.y.lo), (w.heap.size, 3, .int .i64 a.y.hi)] := by rw [← hW0]; exact (((((St.nil w)).box #[.int .i64 a.x.lo, .int .i64 a.x.hi, .int .i64 a.y.lo, .int .i64 a.y.hi] 60 (w.heap.size) (by simp)).box #[.int .i64 b.x.lo, .int .i64 b.x.hi, .int .i64 b.y.lo, .int .i64 b.y.hi] 60 (w.heap.size + 1) (by simp)).box #[.int .i64 c.x.lo, .int .i64 c.x.hi, .int .i64 c.y.lo, .int .i64 c.y.hi] 60 (w.heap.size + 1 + 1) (by simp)).box #[.int .i64 (0), .int .i64 (0)] 58 (w.heap.size + 1 + 1 + 1) (by simp)
  rw [hW0]
  clear hW0
  obtain ⟨C, hC0, HC, LC, BC, hne⟩ := cls S0
  haveI := hne
  obtain ⟨c0, rfl⟩ : ∃ n : Wd C, W0 = n.w := ⟨⟨_, hC0⟩, rfl⟩
  have fC0 : ∀ n : Wd C, n.w.cell? ⟨w.heap.size + 1 + 1 + 1, 0, none⟩ = some (.int .i64 (0)) := fun n => (LC.out n).1.2.1
  have zC0 : ∀ n : Wd C, n.w.frozen? ⟨w.heap.size + 1 + 1 + 1, 0, none⟩ = false := fun n => (LC.out n).1.2.2
  have fC1 : ∀ n : Wd C, n.w.cell? ⟨w.heap.size + 1 + 1 + 1, 1, none⟩ = some (.int .i64 (0)) := fun n => (LC.out n).2.1.2.1
  have zC1 : ∀ n : Wd C, n.w.frozen? ⟨w.heap.size + 1 + 1 + 1, 1, none⟩ = false := fun n => (LC.out n).2.1.2.2
  have fC2 : ∀ n : Wd C, n.w.cell? ⟨w.heap.size + 1 + 1, 0, none⟩ = some (.int .i64 c.x.lo) := fun n => (LC.out n).2.2.1.2.1
  have fC3 : ∀ n : Wd C, n.w.cell? ⟨w.heap.size + 1 + 1, 1, none⟩ = some (.int .i64 c.x.hi) := fun n => (LC.out n).2.2.2.1.2.1
  have fC4 : ∀ n : Wd C, n.w.cell? ⟨w.heap.size + 1 + 1, 2, none⟩ = some (.int .i64 c.y.lo) := fun n => (LC.out n).2.2.2.2.1.2.1
  have fC5 : ∀ n : Wd C, n.w.cell? ⟨w.heap.size + 1 + 1, 3, none⟩ = some (.int .i64 c.y.hi) := fun n => (LC.out n).2.2.2.2.2.1.2.1
  have fC6 : ∀ n : Wd C, n.w.cell? ⟨w.heap.size + 1, 0, none⟩ = some (.int .i64 b.x.lo) := fun n => (LC.out n).2.2.2.2.2.2.1.2.1
  have fC7 : ∀ n : Wd C, n.w.cell? ⟨w.heap.size + 1, 1, none⟩ = some (.int .i64 b.x.hi) := fun n => (LC.out n).2.2.2.2.2.2.2.1.2.1
  have fC8 : ∀ n : Wd C, n.w.cell? ⟨w.heap.size + 1, 2, none⟩ = some (.int .i64 b.y.lo) := fun n => (LC.out n).2.2.2.2.2.2.2.2.1.2.1
  have fC9 : ∀ n : Wd C, n.w.cell? ⟨w.heap.size + 1, 3, none⟩ = some (.int .i64 b.y.hi) := fun n => (LC.out n).2.2.2.2.2.2.2.2.2.1.2.1
  have fC10 : ∀ n : Wd C, n.w.cell? ⟨w.heap.size, 0, none⟩ = some (.int .i64 a.x.lo) := fun n => (LC.out n).2.2.2.2.2.2.2.2.2.2.1.2.1
  have fC11 : ∀ n : Wd C, n.w.cell? ⟨w.heap.size, 1, none⟩ = some (.int .i64 a.x.hi) := fun n => (LC.out n).2.2.2.2.2.2.2.2.2.2.2.1.2.1
  have fC12 : ∀ n : Wd C, n.w.cell? ⟨w.heap.size, 2, none⟩ = some (.int .i64 a.y.lo) := fun n => (LC.out n).2.2.2.2.2.2.2.2.2.2.2.2.1.2.1
  have fC13 : ∀ n : Wd C, n.w.cell? ⟨w.heap.size, 3, none⟩ = some (.int .i64 a.y.hi) := fun n => (LC.out n).2.2.2.2.2.2.2.2.2.2.2.2.2.1.2.1
  clear S0 hC0
  have D1 := cin HC C1
  have D2 := cin HC C2
  have D3 := cin HC C3
  go_upto_region 3 with (first | (go_at_call 53; with_reducible refine (D1 _).out.mono ?_; rintro e w' ⟨rfl, n, rfl⟩) | (go_at_call 53; with_reducible refine (D2 _).out.mono ?_; rintro e w' ⟨rfl, n, rfl⟩) | (go_at_call 53; with_reducible refine (D3 _).out.mono ?_; rintro e w' ⟨rfl, n, rfl⟩))
  clear D1 D2 D3 C1 C2 C3
  refine wp_region_vars 9 6 C (fun i => i + 2) (fun _ => Z68) HC.out (HC.out _ _ (Wd.h _) (below_dr _)) (by kernel_rfl) (by kernel_rfl) (by omega) ?hal ?hsl ?hq
  case hal =>
    intro i h1 h2
    have hi : i = 6 ∨ i = 7 ∨ i = 8 := by omega
    rcases hi with rfl | rfl | rfl
    · exact ⟨_, rfl, rfl, rfl, fun a w => alloc68 a w _ rfl⟩
    · exact ⟨_, rfl, rfl, rfl, fun a w => alloc68 a w _ rfl⟩
    · exact ⟨_, rfl, rfl, rfl, fun a w => alloc68 a w _ rfl⟩
  case hsl => rfl
  case hq =>
   apply Exists.intro
   apply And.intro
   · intro D hD hDC hne
     have HD := Lib.hid hD
     have g2 : ∀ n : Wd D, n.w.cell? ⟨w.heap.size + 1 + 1, 0, none⟩ = some (.int .i64 c.x.lo) := fun n => (LC.out ⟨n.w, hDC _ n.h⟩).2.2.1.2.1
     have g3 : ∀ n : Wd D, n.w.cell? ⟨w.heap.size + 1 + 1, 1, none⟩ = some (.int .i64 c.x.hi) := fun n => (LC.out ⟨n.w, hDC _ n.h⟩).2.2.2.1.2.1
     have g4 : ∀ n : Wd D, n.w.cell? ⟨w.heap.size + 1 + 1, 2, none⟩ = some (.int .i64 c.y.lo) := fun n => (LC.out ⟨n.w, hDC _ n.h⟩).2.2.2.2.1.2.1
     have g5 : ∀ n : Wd D, n.w.cell? ⟨w.heap.size + 1 + 1, 3, none⟩ = some (.int .i64 c.y.hi) := fun n => (LC.out ⟨n.w, hDC _ n.h⟩).2.2.2.2.2.1.2.1
     have g6 : ∀ n : Wd D, n.w.cell? ⟨w.heap.size + 1, 0, none⟩ = some (.int .i64 b.x.lo) := fun n => (LC.out ⟨n.w, hDC _ n.h⟩).2.2.2.2.2.2.1.2.1
     have g7 : ∀ n : Wd D, n.w.cell? ⟨w.heap.size + 1, 1, none⟩ = some (.int .i64 b.x.hi) := fun n => (LC.out ⟨n.w, hDC _ n.h⟩).2.2.2.2.2.2.2.1.2.1
     have g8 : ∀ n : Wd D, n.w.cell? ⟨w.heap.size + 1, 2, none⟩ = some (.int .i64 b.y.lo) := fun n => (LC.out ⟨n.w, hDC _ n.h⟩).2.2.2.2.2.2.2.2.1.2.1
     have g9 : ∀ n : Wd D, n.w.cell? ⟨w.heap.size + 1, 3, none⟩ = some (.int .i64 b.y.hi) := fun n => (LC.out ⟨n.w, hDC _ n.h⟩).2.2.2.2.2.2.2.2.2.1.2.1
     have g10 : ∀ n : Wd D, n.w.cell? ⟨w.heap.size, 0, none⟩ = some (.int .i64 a.x.lo) := fun n => (LC.out ⟨n.w, hDC _ n.h⟩).2.2.2.2.2.2.2.2.2.2.1.2.1
     have g11 : ∀ n : Wd D, n.w.cell? ⟨w.heap.size, 1, none⟩ = some (.int .i64 a.x.hi) := fun n => (LC.out ⟨n.w, hDC _ n.h⟩).2.2.2.2.2.2.2.2.2.2.2.1.2.1
     have g12 : ∀ n : Wd D, n.w.cell? ⟨w.heap.size, 2, none⟩ = some (.int .i64 a.y.lo) := fun n => (LC.out ⟨n.w, hDC _ n.h⟩).2.2.2.2.2.2.2.2.2.2.2.2.1.2.1
     have g13 : ∀ n : Wd D, n.w.cell? ⟨w.heap.size, 3, none⟩ = some (.int .i64 a.y.hi) := fun n => (LC.out ⟨n.w, hDC _ n.h⟩).2.2.2.2.2.2.2.2.2.2.2.2.2.1.2.1
     have D4 := cin HD C4
     have D5 := cin HD C5
     have D6 := cin HD C6
     haveI := hne
     simp only [List.take_succ_cons, List.take_zero]
     repeat (go_big_quiet_step (first | with_reducible exact (D4 _).out | with_reducible exact (D5 _).out | with_reducible exact (D6 _).out))
     exact wpQuiet_nil rfl
   · intro W bl hW hb hd
     obtain ⟨m0, rfl⟩ : ∃ n : Wd C, W = n.w := ⟨⟨W, hW⟩, rfl⟩
     obtain ⟨p1, q1⟩ := hb 6 (by omega) (by omega)
     obtain ⟨p2, q2⟩ := hb 7 (by omega) (by omega)
     obtain ⟨p3, q3⟩ := hb 8 (by omega) (by omega)
     have e12 := hd 6 7 (by omega) (by omega) (by omega) (by omega) (by omega)
     have e13 := hd 6 8 (by omega) (by omega) (by omega) (by omega) (by omega)
     have e23 := hd 7 8 (by omega) (by omega) (by omega) (by omega) (by omega)
     simp only [List.drop_succ_cons, List.drop_zero, putAll, Act.put]
     obtain ⟨k1, hk1⟩ : ∃ k, bl 6 = k := ⟨_, rfl⟩
     obtain ⟨k2, hk2⟩ : ∃ k, bl 7 = k := ⟨_, rfl⟩
     obtain ⟨k3, hk3⟩ : ∃ k, bl 8 = k := ⟨_, rfl⟩
     rw [hk1] at p1 q1 e12 e13
     rw [hk2] at p2 q2 e12 e23
     rw [hk3] at p3 q3 e13 e23
     simp only [hk1, hk2, hk3]
     go_simp
     have kb : w.heap.size + 1 + 1 + 1 < n.w.heap.size := (LC.out n).1.1
     have L2 : Cs m0.w [(w.heap.size + 1 + 1 + 1, 0, .int .i64 0), (w.heap.size + 1 + 1 + 1, 1, .int .i64 0)] := ⟨(LC.out m0).1, (LC.out m0).2.1, trivial⟩
     have hL : ∀ k, n.w.heap.size ≤ k → ∀ x ∈ ([(w.heap.size + 1 + 1 + 1, 0, .int .i64 0), (w.heap.size + 1 + 1 + 1, 1, .int .i64 0)] : List (Nat × Nat × Value)), x.1 ≠ k := fun k hk x hx => by simp at hx; rcases hx with rfl | rfl <;> simp only <;> omega
     have S1 := St.put ⟨BC.out m0, L2⟩ k1 (by omega) (hL k1 p1) _ 68 q1 (fun q => (((((((q.setIfInBounds 0 (.int .i64 (pa 0).x)).setIfInBounds 1 (.int .i64 (pa 0).y)).setIfInBounds 2 (.int .i64 (pa 1).x)).setIfInBounds 3 (.int .i64 (pa 1).y)).setIfInBounds 4 (.int .i64 (pa 2).x)).setIfInBounds 5 (.int .i64 (pa 2).y)).setIfInBounds 6 (.int .i64 (pa 3).x)).setIfInBounds 7 (.int .i64 (pa 3).y)) #[.int .i64 (pa 0).x, .int .i64 (pa 0).y, .int .i64 (pa 1).x, .int .i64 (pa 1).y, .int .i64 (pa 2).x, .int .i64 (pa 2).y, .int .i64 (pa 3).x, .int .i64 (pa 3).y] rfl
     have q2' := ((grown_map m0.w k1 (fun q => (((((((q.setIfInBounds 0 (.int .i64 (pa 0).x)).setIfInBounds 1 (.int .i64 (pa 0).y)).setIfInBounds 2 (.int .i64 (pa 1).x)).setIfInBounds 3 (.int .i64 (pa 1).y)).setIfInBounds 4 (.int .i64 (pa 2).x)).setIfInBounds 5 (.int .i64 (pa 2).y)).setIfInBounds 6 (.int .i64 (pa 3).x)).setIfInBounds 7 (.int .i64 (pa 3).y))).block k2 (Array.getElem?_eq_some_iff.1 q2).1 (fun e => e12 (by injection e with e; exact e.symm))).trans q2
     have S2 := St.put S1 k2 (by omega) (fun x hx => by
       simp only [blk, List.cons_append, List.nil_append, List.mem_cons] at hx
       rcases hx with rfl | rfl | rfl | rfl | rfl | rfl | rfl | rfl | hx
       all_goals first | exact e12 | exact hL k2 p2 x (by simpa using hx)) _ 68 q2' (fun q => (((((((q.setIfInBounds 0 (.int .i64 (pb 0).x)).setIfInBounds 1 (.int .i64 (pb 0).y)).setIfInBounds 2 (.int .i64 (pb 1).x)).setIfInBounds 3 (.int .i64 (pb 1).y)).setIfInBounds 4 (.int .i64 (pb 2).x)).setIfInBounds 5 (.int .i64 (pb 2).y)).setIfInBounds 6 (.int .i64 (pb 3).x)).setIfInBounds 7 (.int .i64 (pb 3).y)) #[.int .i64 (pb 0).x, .int .i64 (pb 0).y, .int .i64 (pb 1).x, .int .i64 (pb 1).y, .int .i64 (pb 2).x, .int .i64 (pb 2).y, .int .i64 (pb 3).x, .int .i64 (pb 3).y] rfl
     have q3' := ((grown_map _ k2 (fun q => (((((((q.setIfInBounds 0 (.int .i64 (pb 0).x)).setIfInBounds 1 (.int .i64 (pb 0).y)).setIfInBounds 2 (.int .i64 (pb 1).x)).setIfInBounds 3 (.int .i64 (pb 1).y)).setIfInBounds 4 (.int .i64 (pb 2).x)).setIfInBounds 5 (.int .i64 (pb 2).y)).setIfInBounds 6 (.int .i64 (pb 3).x)).setIfInBounds 7 (.int .i64 (pb 3).y))).block k3 (by have h := (grown_map m0.w k1 (fun q => (((((((q.setIfInBounds 0 (.int .i64 (pa 0).x)).setIfInBounds 1 (.int .i64 (pa 0).y)).setIfInBounds 2 (.int .i64 (pa 1).x)).setIfInBounds 3 (.int .i64 (pa 1).y)).setIfInBounds 4 (.int .i64 (pa 2).x)).setIfInBounds 5 (.int .i64 (pa 2).y)).setIfInBounds 6 (.int .i64 (pa 3).x)).setIfInBounds 7 (.int .i64 (pa 3).y))).size; have h' := (Array.getElem?_eq_some_iff.1 q3).1; omega) (fun e => e23 (by injection e with e; exact e.symm))).trans (((grown_map m0.w k1 (fun q => (((((((q.setIfInBounds 0 (.int .i64 (pa 0).x)).setIfInBounds 1 (.int .i64 (pa 0).y)).setIfInBounds 2 (.int .i64 (pa 1).x)).setIfInBounds 3 (.int .i64 (pa 1).y)).setIfInBounds 4 (.int .i64 (pa 2).x)).setIfInBounds 5 (.int .i64 (pa 2).y)).setIfInBounds 6 (.int .i64 (pa 3).x)).setIfInBounds 7 (.int .i64 (pa 3).y))).block k3 (Array.getElem?_eq_some_iff.1 q3).1 (fun e => e13 (by injection e with e; exact e.symm))).trans q3)
     have S3 := St.put S2 k3 (by omega) (fun x hx => by
       simp only [blk, List.cons_append, List.nil_append, List.mem_cons] at hx
       rcases hx with rfl | rfl | rfl | rfl | rfl | rfl | rfl | rfl | rfl | rfl | rfl | rfl | rfl | rfl | rfl | rfl | hx
       all_goals first | exact e13 | exact e23 | exact hL k3 p3 x (by simpa using hx)) _ 68 q3' (fun q => (((((((q.setIfInBounds 0 (.int .i64 (pc 0).x)).setIfInBounds 1 (.int .i64 (pc 0).y)).setIfInBounds 2 (.int .i64 (pc 1).x)).setIfInBounds 3 (.int .i64 (pc 1).y)).setIfInBounds 4 (.int .i64 (pc 2).x)).setIfInBounds 5 (.int .i64 (pc 2).y)).setIfInBounds 6 (.int .i64 (pc 3).x)).setIfInBounds 7 (.int .i64 (pc 3).y)) #[.int .i64 (pc 0).x, .int .i64 (pc 0).y, .int .i64 (pc 1).x, .int .i64 (pc 1).y, .int .i64 (pc 2).x, .int .i64 (pc 2).y, .int .i64 (pc 3).x, .int .i64 (pc 3).y] rfl
     have hb1 : w.heap.size + 1 + 1 + 1 < k1 := by omega
     have hb2 : w.heap.size + 1 + 1 + 1 < k2 := by omega
     have hb3 : w.heap.size + 1 + 1 + 1 < k3 := by omega
     obtain ⟨⟨_, r0, zr0⟩, ⟨_, r1, zr1⟩, ⟨_, r2, zr2⟩, ⟨_, r3, zr3⟩, ⟨_, r4, zr4⟩, ⟨_, r5, zr5⟩, ⟨_, r6, zr6⟩, ⟨_, r7, zr7⟩, _⟩ := cs_heap m0.w k1 _ 68 q1 _ 0 rfl
     obtain ⟨⟨_, s0, zs0⟩, ⟨_, s1, zs1⟩, ⟨_, s2, zs2⟩, ⟨_, s3, zs3⟩, ⟨_, s4, zs4⟩, ⟨_, s5, zs5⟩, ⟨_, s6, zs6⟩, ⟨_, s7, zs7⟩, _⟩ := cs_heap m0.w k2 _ 68 q2 _ 0 rfl
     obtain ⟨⟨_, t0, zt0⟩, ⟨_, t1, zt1⟩, ⟨_, t2, zt2⟩, ⟨_, t3, zt3⟩, ⟨_, t4, zt4⟩, ⟨_, t5, zt5⟩, ⟨_, t6, zt6⟩, ⟨_, t7, zt7⟩, _⟩ := cs_heap m0.w k3 _ 68 q3 _ 0 rfl
     have d12 := Ne.symm e12
     have d13 := Ne.symm e13
     have d23 := Ne.symm e23
     have HS := Lib.hid S3
     have HB := Lib.hid (And.intro hb1 (And.intro hb2 hb3))
     clear hL S1 S2 S3 q2' q3' hb1 hb2 hb3 kb p1 p2 p3 q1 q2 q3 hb hd hk1 hk2 hk3 C4 C5 C6
     go_upto_region 4 with fail
     obtain ⟨W1, hW1⟩ : ∃ W1, ((((((((((((((((((((((((m0.w.setCell { block := k1, off := 0 } (Value.int IntKind.i64 (pa 0).x)).setCell { block := k1, off := 1 } (Value.int IntKind.i64 (pa 0).y)).setCell { block := k1, off := 2 } (Value.int IntKind.i64 (pa 1).x)).setCell { block := k1, off := 3 } (Value.int IntKind.i64 (pa 1).y)).setCell { block := k1, off := 4 } (Value.int IntKind.i64 (pa 2).x)).setCell { block := k1, off := 5 } (Value.int IntKind.i64 (pa 2).y)).setCell { block := k1, off := 6 } (Value.int IntKind.i64 (pa 3).x)).setCell { block := k1, off := 7 } (Value.int IntKind.i64 (pa 3).y)).setCell { block := k2, off := 0 } (Value.int IntKind.i64 (pb 0).x)).setCell { block := k2, off := 1 } (Value.int IntKind.i64 (pb 0).y)).setCell { block := k2, off := 2 } (Value.int IntKind.i64 (pb 1).x)).setCell { block := k2, off := 3 } (Value.int IntKind.i64 (pb 1).y)).setCell { block := k2, off := 4 } (Value.int IntKind.i64 (pb 2).x)).setCell { block := k2, off := 5 } (Value.int IntKind.i64 (pb 2).y)).setCell { block := k2, off := 6 } (Value.int IntKind.i64 (pb 3).x)).setCell { block := k2, off := 7 } (Value.int IntKind.i64 (pb 3).y)).setCell { block := k3, off := 0 } (Value.int IntKind.i64 (pc 0).x)).setCell { block := k3, off := 1 } (Value.int IntKind.i64 (pc 0).y)).setCell { block := k3, off := 2 } (Value.int IntKind.i64 (pc 1).x)).setCell { block := k3, off := 3 } (Value.int IntKind.i64 (pc 1).y)).setCell { block := k3, off := 4 } (Value.int IntKind.i64 (pc 2).x)).setCell { block := k3, off := 5 } (Value.int IntKind.i64 (pc 2).y)).setCell { block := k3, off := 6 } (Value.int IntKind.i64 (pc 3).x)).setCell { block := k3, off := 7 } (Value.int IntKind.i64 (pc 3).y)) = W1 := ⟨_, rfl⟩
     have S4 : St w W1 [(k3, 0, .int .i64 (pc 0).x), (k3, 1, .int .i64 (pc 0).y), (k3, 2, .int .i64 (pc 1).x), (k3, 3, .int .i64 (pc 1).y), (k3, 4, .int .i64 (pc 2).x), (k3, 5, .int .i64 (pc 2).y), (k3, 6, .int .i64 (pc 3).x), (k3, 7, .int .i64 (pc 3).y), (k2, 0, .int .i64 (pb 0).x), (k2, 1, .int .i64 (pb 0).y), (k2, 2, .int .i64 (pb 1).x), (k2, 3, .int .i64 (pb 1).y), (k2, 4, .int .i64 (pb 2).x), (k2, 5, .int .i64 (pb 2).y), (k2, 6, .int .i64 (pb 3).x), (k2, 7, .int .i64 (pb 3).y), (k1, 0, .int .i64 (pa 0).x), (k1, 1, .int .i64 (pa 0).y), (k1, 2, .int .i64 (pa 1).x), (k1, 3, .int .i64 (pa 1).y), (k1, 4, .int .i64 (pa 2).x), (k1, 5, .int .i64 (pa 2).y), (k1, 6, .int .i64 (pa 3).x), (k1, 7, .int .i64 (pa 3).y), (w.heap.size + 1 + 1 + 1, 0, .int .i64 0), (w.heap.size + 1 + 1 + 1, 1, .int .i64 0)] := by
       rw [← hW1]
       simp only [setCell_eq, mapBlock_mapBlock]
       exact HS.out
     rw [hW1]
     clear hW1 HS r0 zr0 r1 zr1 r2 zr2 r3 zr3 r4 zr4 r5 zr5 r6 zr6 r7 zr7 s0 zs0 s1 zs1 s2 zs2 s3 zs3 s4 zs4 s5 zs5 s6 zs6 s7 zs7 t0 zt0 t1 zt1 t2 zt2 t3 zt3 t4 zt4 t5 zt5 t6 zt6 t7 zt7 e12 e13 e23 d12 d13 d23
     obtain ⟨E, hC0, HE, LE, BE, hneE⟩ := cls S4
     haveI := hneE
     obtain ⟨e0, rfl⟩ : ∃ n : Wd E, W1 = n.w := ⟨⟨_, hC0⟩, rfl⟩
     have fE0 : ∀ n : Wd E, n.w.cell? ⟨k3, 0, none⟩ = some (.int .i64 (pc 0).x) := fun n => (LE.out n).1.2.1
     have fE1 : ∀ n : Wd E, n.w.cell? ⟨k3, 1, none⟩ = some (.int .i64 (pc 0).y) := fun n => (LE.out n).2.1.2.1
     have fE2 : ∀ n : Wd E, n.w.cell? ⟨k3, 2, none⟩ = some (.int .i64 (pc 1).x) := fun n => (LE.out n).2.2.1.2.1
     have fE3 : ∀ n : Wd E, n.w.cell? ⟨k3, 3, none⟩ = some (.int .i64 (pc 1).y) := fun n => (LE.out n).2.2.2.1.2.1
     have fE4 : ∀ n : Wd E, n.w.cell? ⟨k3, 4, none⟩ = some (.int .i64 (pc 2).x) := fun n => (LE.out n).2.2.2.2.1.2.1
     have fE5 : ∀ n : Wd E, n.w.cell? ⟨k3, 5, none⟩ = some (.int .i64 (pc 2).y) := fun n => (LE.out n).2.2.2.2.2.1.2.1
     have fE6 : ∀ n : Wd E, n.w.cell? ⟨k3, 6, none⟩ = some (.int .i64 (pc 3).x) := fun n => (LE.out n).2.2.2.2.2.2.1.2.1
     have fE7 : ∀ n : Wd E, n.w.cell? ⟨k3, 7, none⟩ = some (.int .i64 (pc 3).y) := fun n => (LE.out n).2.2.2.2.2.2.2.1.2.1
     have fE8 : ∀ n : Wd E, n.w.cell? ⟨k2, 0, none⟩ = some (.int .i64 (pb 0).x) := fun n => (LE.out n).2.2.2.2.2.2.2.2.1.2.1
     have fE9 : ∀ n : Wd E, n.w.cell? ⟨k2, 1, none⟩ = some (.int .i64 (pb 0).y) := fun n => (LE.out n).2.2.2.2.2.2.2.2.2.1.2.1
     have fE10 : ∀ n : Wd E, n.w.cell? ⟨k2, 2, none⟩ = some (.int .i64 (pb 1).x) := fun n => (LE.out n).2.2.2.2.2.2.2.2.2.2.1.2.1
     have fE11 : ∀ n : Wd E, n.w.cell? ⟨k2, 3, none⟩ = some (.int .i64 (pb 1).y) := fun n => (LE.out n).2.2.2.2.2.2.2.2.2.2.2.1.2.1
     have fE12 : ∀ n : Wd E, n.w.cell? ⟨k2, 4, none⟩ = some (.int .i64 (pb 2).x) := fun n => (LE.out n).2.2.2.2.2.2.2.2.2.2.2.2.1.2.1
     have fE13 : ∀ n : Wd E, n.w.cell? ⟨k2, 5, none⟩ = some (.int .i64 (pb 2).y) := fun n => (LE.out n).2.2.2.2.2.2.2.2.2.2.2.2.2.1.2.1
     have fE14 : ∀ n : Wd E, n.w.cell? ⟨k2, 6, none⟩ = some (.int .i64 (pb 3).x) := fun n => (LE.out n).2.2.2.2.2.2.2.2.2.2.2.2.2.2.1.2.1
     have fE15 : ∀ n : Wd E, n.w.cell? ⟨k2, 7, none⟩ = some (.int .i64 (pb 3).y) := fun n => (LE.out n).2.2.2.2.2.2.2.2.2.2.2.2.2.2.2.1.2.1
     have fE16 : ∀ n : Wd E, n.w.cell? ⟨k1, 0, none⟩ = some (.int .i64 (pa 0).x) := fun n => (LE.out n).2.2.2.2.2.2.2.2.2.2.2.2.2.2.2.2.1.2.1
     have fE17 : ∀ n : Wd E, n.w.cell? ⟨k1, 1, none⟩ = some (.int .i64 (pa 0).y) := fun n => (LE.out n).2.2.2.2.2.2.2.2.2.2.2.2.2.2.2.2.2.1.2.1
     have fE18 : ∀ n : Wd E, n.w.cell? ⟨k1, 2, none⟩ = some (.int .i64 (pa 1).x) := fun n => (LE.out n).2.2.2.2.2.2.2.2.2.2.2.2.2.2.2.2.2.2.1.2.1
     have fE19 : ∀ n : Wd E, n.w.cell? ⟨k1, 3, none⟩ = some (.int .i64 (pa 1).y) := fun n => (LE.out n).2.2.2.2.2.2.2.2.2.2.2.2.2.2.2.2.2.2.2.1.2.1
     have fE20 : ∀ n : Wd E, n.w.cell? ⟨k1, 4, none⟩ = some (.int .i64 (pa 2).x) := fun n => (LE.out n).2.2.2.2.2.2.2.2.2.2.2.2.2.2.2.2.2.2.2.2.1.2.1
     have fE21 : ∀ n : Wd E, n.w.cell? ⟨k1, 5, none⟩ = some (.int .i64 (pa 2).y) := fun n => (LE.out n).2.2.2.2.2.2.2.2.2.2.2.2.2.2.2.2.2.2.2.2.2.1.2.1
     have fE22 : ∀ n : Wd E, n.w.cell? ⟨k1, 6, none⟩ = some (.int .i64 (pa 3).x) := fun n => (LE.out n).2.2.2.2.2.2.2.2.2.2.2.2.2.2.2.2.2.2.2.2.2.2.1.2.1
     have fE23 : ∀ n : Wd E, n.w.cell? ⟨k1, 7, none⟩ = some (.int .i64 (pa 3).y) := fun n => (LE.out n).2.2.2.2.2.2.2.2.2.2.2.2.2.2.2.2.2.2.2.2.2.2.2.1.2.1
     have fE24 : ∀ n : Wd E, n.w.cell? ⟨w.heap.size + 1 + 1 + 1, 0, none⟩ = some (.int .i64 0) := fun n => (LE.out n).2.2.2.2.2.2.2.2.2.2.2.2.2.2.2.2.2.2.2.2.2.2.2.2.1.2.1
     have fE25 : ∀ n : Wd E, n.w.cell? ⟨w.heap.size + 1 + 1 + 1, 1, none⟩ = some (.int .i64 0) := fun n => (LE.out n).2.2.2.2.2.2.2.2.2.2.2.2.2.2.2.2.2.2.2.2.2.2.2.2.2.1.2.1
     clear S4 hC0
     clear fC0 fC1 fC2 fC3 fC4 fC5 fC6 fC7 fC8 fC9 fC10 fC11 fC12 fC13 zC0 zC1 HC BC LC hW
     have C70 : ∀ W, Calls Try.prog 79 #[(pa 0).v, (pb 0).v, (pc 0).v] W fun e w' => e = .returned (.int .i64 n0v) ∧ Below W.heap.size W w' := fun W => by have h := C7.out 0 0 0 W; rwa [HN0.out] at h
     have D7 := cin HE C70
     clear C70
     go_wp2_with (first | (go_at_call 79; with_reducible refine (D7 _).out.mono ?_; rintro e w' ⟨rfl, n, rfl⟩))
     obtain ⟨kt, hkt⟩ : ∃ kt, n.w.heap.size = kt := ⟨_, rfl⟩
     obtain ⟨LL, hLL⟩ : ∃ LL : List (Nat × Nat × Value), [(k3, 0, .int .i64 (pc 0).x), (k3, 1, .int .i64 (pc 0).y), (k3, 2, .int .i64 (pc 1).x), (k3, 3, .int .i64 (pc 1).y), (k3, 4, .int .i64 (pc 2).x), (k3, 5, .int .i64 (pc 2).y), (k3, 6, .int .i64 (pc 3).x), (k3, 7, .int .i64 (pc 3).y), (k2, 0, .int .i64 (pb 0).x), (k2, 1, .int .i64 (pb 0).y), (k2, 2, .int .i64 (pb 1).x), (k2, 3, .int .i64 (pb 1).y), (k2, 4, .int .i64 (pb 2).x), (k2, 5, .int .i64 (pb 2).y), (k2, 6, .int .i64 (pb 3).x), (k2, 7, .int .i64 (pb 3).y), (k1, 0, .int .i64 (pa 0).x), (k1, 1, .int .i64 (pa 0).y), (k1, 2, .int .i64 (pa 1).x), (k1, 3, .int .i64 (pa 1).y), (k1, 4, .int .i64 (pa 2).x), (k1, 5, .int .i64 (pa 2).y), (k1, 6, .int .i64 (pa 3).x), (k1, 7, .int .i64 (pa 3).y), (w.heap.size + 1 + 1 + 1, 0, .int .i64 0), (w.heap.size + 1 + 1 + 1, 1, .int .i64 0)] = LL := ⟨_, rfl⟩
     have S5 := St.box (⟨BE.out n, LE.out n⟩ : St w n.w _) #[.int .i64 n0v, .int .i64 n0v] 58 kt hkt
     have hlt0 := Cs.lt (LE.out n)
     have XB : Hid (∀ W, Cs W LL → Cs W [(k2, 0, .int .i64 (pb 0).x), (k2, 1, .int .i64 (pb 0).y), (k2, 2, .int .i64 (pb 1).x), (k2, 3, .int .i64 (pb 1).y), (k2, 4, .int .i64 (pb 2).x), (k2, 5, .int .i64 (pb 2).y), (k2, 6, .int .i64 (pb 3).x), (k2, 7, .int .i64 (pb 3).y)]) := by
       unfold Hid
       rw [← hLL]
       exact fun W h => ⟨h.2.2.2.2.2.2.2.2.1, h.2.2.2.2.2.2.2.2.2.1, h.2.2.2.2.2.2.2.2.2.2.1, h.2.2.2.2.2.2.2.2.2.2.2.1, h.2.2.2.2.2.2.2.2.2.2.2.2.1, h.2.2.2.2.2.2.2.2.2.2.2.2.2.1, h.2.2.2.2.2.2.2.2.2.2.2.2.2.2.1, h.2.2.2.2.2.2.2.2.2.2.2.2.2.2.2.1, trivial⟩
     have XC : Hid (∀ W, Cs W LL → Cs W [(k3, 0, .int .i64 (pc 0).x), (k3, 1, .int .i64 (pc 0).y), (k3, 2, .int .i64 (pc 1).x), (k3, 3, .int .i64 (pc 1).y), (k3, 4, .int .i64 (pc 2).x), (k3, 5, .int .i64 (pc 2).y), (k3, 6, .int .i64 (pc 3).x), (k3, 7, .int .i64 (pc 3).y)]) := by
       unfold Hid
       rw [← hLL]
       exact fun W h => ⟨h.1, h.2.1, h.2.2.1, h.2.2.2.1, h.2.2.2.2.1, h.2.2.2.2.2.1, h.2.2.2.2.2.2.1, h.2.2.2.2.2.2.2.1, trivial⟩
     have XT : Hid (∀ W, Cs W LL → Cs W [(w.heap.size + 1 + 1 + 1, 0, .int .i64 0), (w.heap.size + 1 + 1 + 1, 1, .int .i64 0)]) := by
       unfold Hid
       rw [← hLL]
       exact fun W h => ⟨h.2.2.2.2.2.2.2.2.2.2.2.2.2.2.2.2.2.2.2.2.2.2.2.2.1, h.2.2.2.2.2.2.2.2.2.2.2.2.2.2.2.2.2.2.2.2.2.2.2.2.2.1, trivial⟩
     rw [hLL, hkt] at hlt0
     change St w _ ((kt, 0, .int .i64 n0v) :: (kt, 1, .int .i64 n0v) :: [(k3, 0, .int .i64 (pc 0).x), (k3, 1, .int .i64 (pc 0).y), (k3, 2, .int .i64 (pc 1).x), (k3, 3, .int .i64 (pc 1).y), (k3, 4, .int .i64 (pc 2).x), (k3, 5, .int .i64 (pc 2).y), (k3, 6, .int .i64 (pc 3).x), (k3, 7, .int .i64 (pc 3).y), (k2, 0, .int .i64 (pb 0).x), (k2, 1, .int .i64 (pb 0).y), (k2, 2, .int .i64 (pb 1).x), (k2, 3, .int .i64 (pb 1).y), (k2, 4, .int .i64 (pb 2).x), (k2, 5, .int .i64 (pb 2).y), (k2, 6, .int .i64 (pb 3).x), (k2, 7, .int .i64 (pb 3).y), (k1, 0, .int .i64 (pa 0).x), (k1, 1, .int .i64 (pa 0).y), (k1, 2, .int .i64 (pa 1).x), (k1, 3, .int .i64 (pa 1).y), (k1, 4, .int .i64 (pa 2).x), (k1, 5, .int .i64 (pa 2).y), (k1, 6, .int .i64 (pa 3).x), (k1, 7, .int .i64 (pa 3).y), (w.heap.size + 1 + 1 + 1, 0, .int .i64 0), (w.heap.size + 1 + 1 + 1, 1, .int .i64 0)]) at S5
     rw [hLL] at S5
     rw [hkt]
     have HLT := Lib.hid hlt0
     have HS5 := Lib.hid S5
     have HKW : Hid (w.heap.size ≤ kt) := by unfold Hid; rw [← hkt]; exact (BE.out n).size
     clear hlt0 S5 hkt hLL D7 HE BE LE
     clear fE0 fE1 fE2 fE3 fE4 fE5 fE6 fE7 fE8 fE9 fE10 fE11 fE12 fE13 fE14 fE15 fE16 fE17 fE18 fE19 fE20 fE21 fE22 fE23 fE24 fE25
     go_loopw [51] (fun i wr => ∃ k : Nat, i = .int .i64 (k : Int) ∧ k ≤ 4 ∧ St w wr ((kt, 0, .int .i64 (spI pa pb pc ⟨n0v, n0v⟩ k).lo) :: (kt, 1, .int .i64 (spI pa pb pc ⟨n0v, n0v⟩ k).hi) :: LL)) (fun i _ => 4 - (intOf i).toNat)
     case atStart => exact ⟨0, rfl, by omega, HS5.out⟩
     case round =>
       obtain ⟨i, rfl, hi, hS⟩ := hrel
       clear HS5
       by_cases hlt : i < 4
       · obtain ⟨s1, hs1⟩ : ∃ s, spI pa pb pc ⟨n0v, n0v⟩ i = s := ⟨_, rfl⟩
         have H1 : Hid (spI pa pb pc ⟨n0v, n0v⟩ (i + 1) = spJ (pa i) pb pc s1 4) := by unfold Hid; rw [spI, hs1]
         rw [hs1] at hS
         obtain ⟨p, hp⟩ : ∃ p, pa i = p := ⟨_, rfl⟩
         have kx : ∀ W, (Instr.index 68 (c4 (pa 0) (pa 1) (pa 2) (pa 3)) (.int .i64 (i : Int))).run Try.prog W = .ok p.v W := fun W => by rw [idx68 pa i hlt W, hp]
         have C8 := fun j k W => C7.out i j k W
         rw [hp] at H1
         simp only [hp] at C8
         have HC8 := Lib.hid C8
         clear hs1 hp C8
         obtain ⟨F, hC0, HF, LF, BF, hneF⟩ := cls hS
         haveI := hneF
         obtain ⟨f0, rfl⟩ : ∃ n : Wd F, wr = n.w := ⟨⟨_, hC0⟩, rfl⟩
         have fF0 : ∀ n : Wd F, n.w.cell? ⟨k2, 0, none⟩ = some (.int .i64 (pb 0).x) := fun n => (XB.out _ (LF.out n).2.2).1.2.1
         have fF1 : ∀ n : Wd F, n.w.cell? ⟨k2, 1, none⟩ = some (.int .i64 (pb 0).y) := fun n => (XB.out _ (LF.out n).2.2).2.1.2.1
         have fF2 : ∀ n : Wd F, n.w.cell? ⟨k2, 2, none⟩ = some (.int .i64 (pb 1).x) := fun n => (XB.out _ (LF.out n).2.2).2.2.1.2.1
         have fF3 : ∀ n : Wd F, n.w.cell? ⟨k2, 3, none⟩ = some (.int .i64 (pb 1).y) := fun n => (XB.out _ (LF.out n).2.2).2.2.2.1.2.1
         have fF4 : ∀ n : Wd F, n.w.cell? ⟨k2, 4, none⟩ = some (.int .i64 (pb 2).x) := fun n => (XB.out _ (LF.out n).2.2).2.2.2.2.1.2.1
         have fF5 : ∀ n : Wd F, n.w.cell? ⟨k2, 5, none⟩ = some (.int .i64 (pb 2).y) := fun n => (XB.out _ (LF.out n).2.2).2.2.2.2.2.1.2.1
         have fF6 : ∀ n : Wd F, n.w.cell? ⟨k2, 6, none⟩ = some (.int .i64 (pb 3).x) := fun n => (XB.out _ (LF.out n).2.2).2.2.2.2.2.2.1.2.1
         have fF7 : ∀ n : Wd F, n.w.cell? ⟨k2, 7, none⟩ = some (.int .i64 (pb 3).y) := fun n => (XB.out _ (LF.out n).2.2).2.2.2.2.2.2.2.1.2.1
         clear hS hC0
         have hdi : decide ((i : Int) < 4) = true := decide_eq_true (by omega)
         go_wp2_with fail
         obtain ⟨b1, hb1⟩ : ∃ b, f0.w.heap.size = b := ⟨_, rfl⟩
         have S' := St.box (⟨BF.out f0, LF.out f0⟩ : St w f0.w _) #[.int .i64 p.x, .int .i64 p.y] 23 b1 hb1
         have S2 : Hid (St w (f0.w.alloc (.cells #[.int .i64 p.x, .int .i64 p.y] 23)) ((kt, 0, .int .i64 s1.lo) :: (kt, 1, .int .i64 s1.hi) :: (b1, 0, .int .i64 p.x) :: (b1, 1, .int .i64 p.y) :: LL)) := ⟨S'.b, S'.c.2.2.1, S'.c.2.2.2.1, S'.c.1, S'.c.2.1, S'.c.2.2.2.2⟩
         have HK1 : Hid (kt < b1) := by unfold Hid; rw [← hb1]; exact (LF.out f0).1.1
         rw [hb1]
         clear S' hb1 kx HF LF BF fF0 fF1 fF2 fF3 fF4 fF5 fF6 fF7
         go_loopw [55] (fun i wx => ∃ k : Nat, i = .int .i64 (k : Int) ∧ k ≤ 4 ∧ St w wx ((kt, 0, .int .i64 (spJ p pb pc s1 k).lo) :: (kt, 1, .int .i64 (spJ p pb pc s1 k).hi) :: (b1, 0, .int .i64 p.x) :: (b1, 1, .int .i64 p.y) :: LL)) (fun i _ => 4 - (intOf i).toNat)
         case atStart => exact ⟨0, rfl, by omega, S2.out⟩
         case round =>
           obtain ⟨j, rfl, hj, hS⟩ := hrel
           clear S2
           by_cases hlj : j < 4
           · obtain ⟨s2, hs2⟩ : ∃ s, spJ p pb pc s1 j = s := ⟨_, rfl⟩
             have H2 : Hid (spJ p pb pc s1 (j + 1) = spK p (pb j) pc s2 4) := by unfold Hid; rw [spJ, hs2]
             rw [hs2] at hS
             obtain ⟨q, hq⟩ : ∃ p, pb j = p := ⟨_, rfl⟩
             have kx : ∀ W, (Instr.index 68 (c4 (pb 0) (pb 1) (pb 2) (pb 3)) (.int .i64 (j : Int))).run Try.prog W = .ok q.v W := fun W => by rw [idx68 pb j hlj W, hq]
             have C9 := fun k W => HC8.out j k W
             rw [hq] at H2
             simp only [hq] at C9
             have HC9 := Lib.hid C9
             clear hs2 hq C9
             obtain ⟨G, hC0, HG, LG, BG, hneG⟩ := cls hS
             haveI := hneG
             obtain ⟨g0, rfl⟩ : ∃ n : Wd G, wr = n.w := ⟨⟨_, hC0⟩, rfl⟩
             have fG0 : ∀ n : Wd G, n.w.cell? ⟨k3, 0, none⟩ = some (.int .i64 (pc 0).x) := fun n => (XC.out _ (LG.out n).2.2.2.2).1.2.1
             have fG1 : ∀ n : Wd G, n.w.cell? ⟨k3, 1, none⟩ = some (.int .i64 (pc 0).y) := fun n => (XC.out _ (LG.out n).2.2.2.2).2.1.2.1
             have fG2 : ∀ n : Wd G, n.w.cell? ⟨k3, 2, none⟩ = some (.int .i64 (pc 1).x) := fun n => (XC.out _ (LG.out n).2.2.2.2).2.2.1.2.1
             have fG3 : ∀ n : Wd G, n.w.cell? ⟨k3, 3, none⟩ = some (.int .i64 (pc 1).y) := fun n => (XC.out _ (LG.out n).2.2.2.2).2.2.2.1.2.1
             have fG4 : ∀ n : Wd G, n.w.cell? ⟨k3, 4, none⟩ = some (.int .i64 (pc 2).x) := fun n => (XC.out _ (LG.out n).2.2.2.2).2.2.2.2.1.2.1
             have fG5 : ∀ n : Wd G, n.w.cell? ⟨k3, 5, none⟩ = some (.int .i64 (pc 2).y) := fun n => (XC.out _ (LG.out n).2.2.2.2).2.2.2.2.2.1.2.1
             have fG6 : ∀ n : Wd G, n.w.cell? ⟨k3, 6, none⟩ = some (.int .i64 (pc 3).x) := fun n => (XC.out _ (LG.out n).2.2.2.2).2.2.2.2.2.2.1.2.1
             have fG7 : ∀ n : Wd G, n.w.cell? ⟨k3, 7, none⟩ = some (.int .i64 (pc 3).y) := fun n => (XC.out _ (LG.out n).2.2.2.2).2.2.2.2.2.2.2.1.2.1
             clear hS hC0
             have hdj : decide ((j : Int) < 4) = true := decide_eq_true (by omega)
             go_wp2_with fail
             obtain ⟨b2, hb2⟩ : ∃ b, g0.w.heap.size = b := ⟨_, rfl⟩
             have S' := St.box (⟨BG.out g0, LG.out g0⟩ : St w g0.w _) #[.int .i64 q.x, .int .i64 q.y] 23 b2 hb2
             have S3 : Hid (St w (g0.w.alloc (.cells #[.int .i64 q.x, .int .i64 q.y] 23)) ((kt, 0, .int .i64 s2.lo) :: (kt, 1, .int .i64 s2.hi) :: (b2, 0, .int .i64 q.x) :: (b2, 1, .int .i64 q.y) :: (b1, 0, .int .i64 p.x) :: (b1, 1, .int .i64 p.y) :: LL)) := ⟨S'.b, S'.c.2.2.1, S'.c.2.2.2.1, S'.c.1, S'.c.2.1, S'.c.2.2.2.2⟩
             have HK2 : Hid (kt < b2) := by unfold Hid; rw [← hb2]; exact (LG.out g0).1.1
             rw [hb2]
             clear S' hb2 kx HG LG BG fG0 fG1 fG2 fG3 fG4 fG5 fG6 fG7
             go_loopw [59] (fun i wy => ∃ k : Nat, i = .int .i64 (k : Int) ∧ k ≤ 4 ∧ St w wy ((kt, 0, .int .i64 (spK p q pc s2 k).lo) :: (kt, 1, .int .i64 (spK p q pc s2 k).hi) :: (b2, 0, .int .i64 q.x) :: (b2, 1, .int .i64 q.y) :: (b1, 0, .int .i64 p.x) :: (b1, 1, .int .i64 p.y) :: LL)) (fun i _ => 4 - (intOf i).toNat)
             case atStart => exact ⟨0, rfl, by omega, S3.out⟩
             case round =>
               obtain ⟨k, rfl, hk, hS⟩ := hrel
               clear S3
               by_cases hlk : k < 4
               · obtain ⟨s3, hs3⟩ : ∃ s, spK p q pc s2 k = s := ⟨_, rfl⟩
                 obtain ⟨m, hm⟩ : ∃ m, ar p q (pc k) = m := ⟨_, rfl⟩
                 obtain ⟨T, hT⟩ : ∃ T, cvS s3 ⟨m, m⟩ = T := ⟨_, rfl⟩
                 have H3 : Hid (spK p q pc s2 (k + 1) = T) := by unfold Hid; rw [spK, hs3, acc, hm, hT]
                 rw [hs3] at hS
                 have CA := fun W => HC9.out k W
                 simp only [hm] at CA
                 have CB := fun W => coverSpan_any s3 ⟨m, m⟩ W
                 simp only [hT] at CB
                 obtain ⟨r, hr⟩ : ∃ p, pc k = p := ⟨_, rfl⟩
                 have kx : ∀ W, (Instr.index 68 (c4 (pc 0) (pc 1) (pc 2) (pc 3)) (.int .i64 (k : Int))).run Try.prog W = .ok r.v W := fun W => by rw [idx68 pc k hlk W, hr]
                 simp only [hr] at CA
                 have HS := Lib.hid hS
                 clear hs3 hm hT hr hS
                 go_upto_region 15 with fail
                 obtain ⟨b3, hb3⟩ : ∃ b, wr.heap.size = b := ⟨_, rfl⟩
                 obtain ⟨WW, hWW⟩ : ∃ WW, wr.alloc (.cells #[.int .i64 r.x, .int .i64 r.y] 23) = WW := ⟨_, rfl⟩
                 have S' := St.box HS.out #[.int .i64 r.x, .int .i64 r.y] 23 b3 hb3
                 rw [hWW] at S' ⊢
                 rw [hb3]
                 clear hb3 hWW kx
                 obtain ⟨M, hC0, HM, LM, BM, hneM⟩ := cls S'
                 haveI := hneM
                 obtain ⟨m0, rfl⟩ : ∃ n : Wd M, WW = n.w := ⟨⟨_, hC0⟩, rfl⟩
                 have fM0 : ∀ n : Wd M, n.w.cell? ⟨b3, 0, none⟩ = some (.int .i64 r.x) := fun n => (LM.out n).1.2.1
                 have fM1 : ∀ n : Wd M, n.w.cell? ⟨b3, 1, none⟩ = some (.int .i64 r.y) := fun n => (LM.out n).2.1.2.1
                 have fM2 : ∀ n : Wd M, n.w.cell? ⟨kt, 0, none⟩ = some (.int .i64 s3.lo) := fun n => (LM.out n).2.2.1.2.1
                 have zM2 : ∀ n : Wd M, n.w.frozen? ⟨kt, 0, none⟩ = false := fun n => (LM.out n).2.2.1.2.2
                 have fM3 : ∀ n : Wd M, n.w.cell? ⟨kt, 1, none⟩ = some (.int .i64 s3.hi) := fun n => (LM.out n).2.2.2.1.2.1
                 have zM3 : ∀ n : Wd M, n.w.frozen? ⟨kt, 1, none⟩ = false := fun n => (LM.out n).2.2.2.1.2.2
                 have fM4 : ∀ n : Wd M, n.w.cell? ⟨b2, 0, none⟩ = some (.int .i64 q.x) := fun n => (LM.out n).2.2.2.2.1.2.1
                 have fM5 : ∀ n : Wd M, n.w.cell? ⟨b2, 1, none⟩ = some (.int .i64 q.y) := fun n => (LM.out n).2.2.2.2.2.1.2.1
                 have fM6 : ∀ n : Wd M, n.w.cell? ⟨b1, 0, none⟩ = some (.int .i64 p.x) := fun n => (LM.out n).2.2.2.2.2.2.1.2.1
                 have fM7 : ∀ n : Wd M, n.w.cell? ⟨b1, 1, none⟩ = some (.int .i64 p.y) := fun n => (LM.out n).2.2.2.2.2.2.2.1.2.1
                 clear S' hC0
                 have DA := cin HM CA
                 have DB := cin HM CB
                 clear CA CB
                 go_wp2_with (first | (go_at_call 79; with_reducible refine (DA _).out.mono ?_; rintro e w' ⟨rfl, n, rfl⟩) | (go_at_call 117; with_reducible refine (DB _).out.mono ?_; rintro e w' ⟨rfl, n, rfl⟩))
                 go_roundw
                 case rel =>
                   refine ⟨k + 1, by simp, by omega, ?_⟩
                   rw [H3.out]
                   refine St.set2 ⟨BM.out _, (LM.out _).2.2⟩ HKW.out (fun x hx => ?_) _ _
                   have h1 := HK1.out
                   have h2 := HK2.out
                   simp only [List.mem_cons] at hx
                   rcases hx with rfl | rfl | rfl | rfl | hx
                   · simp only; omega
                   · simp only; omega
                   · simp only; omega
                   · simp only; omega
                   · have := HLT.out x hx; omega
                 case measure => simp [intOf]; omega
               · have HS := Lib.hid hS
                 clear hS
                 go_wp2_with fail
                 go_roundw
                 case rel =>
                   refine ⟨j + 1, by simp, by omega, ?_⟩
                   obtain rfl : k = 4 := by omega
                   rw [H2.out]
                   exact ⟨HS.out.b, HS.out.c.1, HS.out.c.2.1, HS.out.c.2.2.2.2⟩
                 case measure => simp [intOf]; omega
           · have HS := Lib.hid hS
             clear hS
             go_wp2_with fail
             go_roundw
             case rel =>
               refine ⟨i + 1, by simp, by omega, ?_⟩
               obtain rfl : j = 4 := by omega
               rw [H1.out]
               exact ⟨HS.out.b, HS.out.c.1, HS.out.c.2.1, HS.out.c.2.2.2.2⟩
             case measure => simp [intOf]; omega
       · have HI : Hid (i = 4) := by unfold Hid; omega
         rw [HI.out, HFIN.out] at hS
         obtain ⟨U, hC0, HU, LU, BU, hneU⟩ := cls hS
         haveI := hneU
         obtain ⟨u0, rfl⟩ : ∃ n : Wd U, wr = n.w := ⟨⟨_, hC0⟩, rfl⟩
         have fU0 : ∀ n : Wd U, n.w.cell? ⟨kt, 0, none⟩ = some (.int .i64 R.lo) := fun n => (LU.out n).1.2.1
         have fU1 : ∀ n : Wd U, n.w.cell? ⟨kt, 1, none⟩ = some (.int .i64 R.hi) := fun n => (LU.out n).2.1.2.1
         have fU2 : ∀ n : Wd U, n.w.cell? ⟨w.heap.size + 1 + 1 + 1, 0, none⟩ = some (.int .i64 0) := fun n => (XT.out _ (LU.out n).2.2).1.2.1
         have fU3 : ∀ n : Wd U, n.w.cell? ⟨w.heap.size + 1 + 1 + 1, 1, none⟩ = some (.int .i64 0) := fun n => (XT.out _ (LU.out n).2.2).2.1.2.1
         have zU2 : ∀ n : Wd U, n.w.frozen? ⟨w.heap.size + 1 + 1 + 1, 0, none⟩ = false := fun n => (XT.out _ (LU.out n).2.2).1.2.2
         have zU3 : ∀ n : Wd U, n.w.frozen? ⟨w.heap.size + 1 + 1 + 1, 1, none⟩ = false := fun n => (XT.out _ (LU.out n).2.2).2.1.2.2
         clear hS hC0
         go_wp2_with fail
         refine bodyPost_ret (v := spRes (some R)) (by simp [results, Try.results59, go_sem, spRes, fU2, fU3]) rfl ⟨rfl, ?_⟩
         exact below_set (below_set (BU.out _) _ _ _ (by omega)) _ _ _ (by omega)
end Go.Proofs.Ytdefpcjlbganpaa
namespace Go.Proofs.Ytdefpcjlbganpaa
open Go.RowKit Go.Shelf Go.BigFrame Go.Sort
attribute [local go_sem] Oper.semAt_some
attribute [local go_sem] World.cell?_alloc_some
set_option maxRecDepth 100000 in
set_option maxHeartbeats 8000000 in
theorem Spread_any (a b c : Bx) (w : World) : Calls Try.prog 59 #[a.v, b.v, c.v] w fun e w' => e = .returned (spRes (sprO a b c)) ∧ Below w.heap.size w w' := by
  cases ha : okB a
  · skip
    have C1 := fun W => Proper_any a W
    rw [ha] at C1
    rw [show sprO a b c = none from by rw [sprO, ha]; rfl]
    clear ha
    go_enter Try.func59, Try.ntmps59
    go_wp2_with fail
    obtain ⟨W0, hW0⟩ : ∃ W0, ((((w).alloc (.cells #[.int .i64 a.x.lo, .int .i64 a.x.hi, .int .i64 a.y.lo, .int .i64 a.y.hi] 60)).alloc (.cells #[.int .i64 b.x.lo, .int .i64 b.x.hi, .int .i64 b.y.lo, .int .i64 b.y.hi] 60)).alloc (.cells #[.int .i64 c.x.lo, .int .i64 c.x.hi, .int .i64 c.y.lo, .int .i64 c.y.hi] 60)).alloc (.cells #[.int .i64 (0), .int .i64 (0)] 58) = W0 := ⟨_, rfl⟩
    have S0 : St w W0 [(w.heap.size + 1 + 1 + 1, 0, .int .i64 (0)), (w.heap.size + 1 + 1 + 1, 1, .int .i64 (0)), (w.heap.size + 1 + 1, 0, .int .i64 c.x.lo), (w.heap.size + 1 + 1, 1, .int .i64 c.x.hi), (w.heap.size + 1 + 1, 2, .int .i64 c.y.lo), (w.heap.size + 1 + 1, 3, .int .i64 c.y.hi), (w.heap.size + 1, 0, .int .i64 b.x.lo), (w.heap.size + 1, 1, .int .i64 b.x.hi), (w.heap.size + 1, 2, .int .i64 b.y.lo), (w.heap.size + 1, 3, .int .i64 b.y.hi), (w.heap.size, 0, .int .i64 a.x.lo), (w.heap.size, 1, .int .i64 a.x.hi), (w.heap.size, 2, .int .i64 a.y.lo), (w.heap.size, 3, .int .i64 a.y.hi)] := by rw [← hW0]; exact (((((St.nil w)).box #[.int .i64 a.x.lo, .int .i64 a.x.hi, .int .i64 a.y.lo, .int .i64 a.y.hi] 60 (w.heap.size) (by simp)).box #[.int .i64 b.x.lo, .int .i64 b.x.hi, .int .i64 b.y.lo, .int .i64 b.y.hi] 60 (w.heap.size + 1) (by simp)).box #[.int .i64 c.x.lo, .int .i64 c.x.hi, .int .i64 c.y.lo, .int .i64 c.y.hi] 60 (w.heap.size + 1 + 1) (by simp)).box #[.int .i64 (0), .int .i64 (0)] 58 (w.heap.size + 1 + 1 + 1) (by simp)
    rw [hW0]
    clear hW0
    obtain ⟨C, hC0, HC, LC, BC, hne⟩ := cls S0
    haveI := hne
    obtain ⟨c0, rfl⟩ : ∃ n : Wd C, W0 = n.w := ⟨⟨_, hC0⟩, rfl⟩
    have fC0 : ∀ n : Wd C, n.w.cell? ⟨w.heap.size + 1 + 1 + 1, 0, none⟩ = some (.int .i64 (0)) := fun n => (LC.out n).1.2.1
    have zC0 : ∀ n : Wd C, n.w.frozen? ⟨w.heap.size + 1 + 1 + 1, 0, none⟩ = false := fun n => (LC.out n).1.2.2
    have fC1 : ∀ n : Wd C, n.w.cell? ⟨w.heap.size + 1 + 1 + 1, 1, none⟩ = some (.int .i64 (0)) := fun n => (LC.out n).2.1.2.1
    have zC1 : ∀ n : Wd C, n.w.frozen? ⟨w.heap.size + 1 + 1 + 1, 1, none⟩ = false := fun n => (LC.out n).2.1.2.2
    have fC2 : ∀ n : Wd C, n.w.cell? ⟨w.heap.size + 1 + 1, 0, none⟩ = some (.int .i64 c.x.lo) := fun n => (LC.out n).2.2.1.2.1
    have fC3 : ∀ n : Wd C, n.w.cell? ⟨w.heap.size + 1 + 1, 1, none⟩ = some (.int .i64 c.x.hi) := fun n => (LC.out n).2.2.2.1.2.1
    have fC4 : ∀ n : Wd C, n.w.cell? ⟨w.heap.size + 1 + 1, 2, none⟩ = some (.int .i64 c.y.lo) := fun n => (LC.out n).2.2.2.2.1.2.1
    have fC5 : ∀ n : Wd C, n.w.cell? ⟨w.heap.size + 1 + 1, 3, none⟩ = some (.int .i64 c.y.hi) := fun n => (LC.out n).2.2.2.2.2.1.2.1
    have fC6 : ∀ n : Wd C, n.w.cell? ⟨w.heap.size + 1, 0, none⟩ = some (.int .i64 b.x.lo) := fun n => (LC.out n).2.2.2.2.2.2.1.2.1
    have fC7 : ∀ n : Wd C, n.w.cell? ⟨w.heap.size + 1, 1, none⟩ = some (.int .i64 b.x.hi) := fun n => (LC.out n).2.2.2.2.2.2.2.1.2.1
    have fC8 : ∀ n : Wd C, n.w.cell? ⟨w.heap.size + 1, 2, none⟩ = some (.int .i64 b.y.lo) := fun n => (LC.out n).2.2.2.2.2.2.2.2.1.2.1
    have fC9 : ∀ n : Wd C, n.w.cell? ⟨w.heap.size + 1, 3, none⟩ = some (.int .i64 b.y.hi) := fun n => (LC.out n).2.2.2.2.2.2.2.2.2.1.2.1
    have fC10 : ∀ n : Wd C, n.w.cell? ⟨w.heap.size, 0, none⟩ = some (.int .i64 a.x.lo) := fun n => (LC.out n).2.2.2.2.2.2.2.2.2.2.1.2.1
    have fC11 : ∀ n : Wd C, n.w.cell? ⟨w.heap.size, 1, none⟩ = some (.int .i64 a.x.hi) := fun n => (LC.out n).2.2.2.2.2.2.2.2.2.2.2.1.2.1
    have fC12 : ∀ n : Wd C, n.w.cell? ⟨w.heap.size, 2, none⟩ = some (.int .i64 a.y.lo) := fun n => (LC.out n).2.2.2.2.2.2.2.2.2.2.2.2.1.2.1
    have fC13 : ∀ n : Wd C, n.w.cell? ⟨w.heap.size, 3, none⟩ = some (.int .i64 a.y.hi) := fun n => (LC.out n).2.2.2.2.2.2.2.2.2.2.2.2.2.1.2.1
    clear S0 hC0
    have D1 := cin HC C1
    clear C1
    go_wp2_with (first | (go_at_call 53; with_reducible refine (D1 _).out.mono ?_; rintro e w' ⟨rfl, n, rfl⟩))
    refine bodyPost_ret (v := spRes none) (by simp [results, Try.results59, go_sem, spRes, fC0, fC1]) rfl ⟨rfl, ?_⟩
    exact below_set (below_set (BC.out _) _ _ _ (by omega)) _ _ _ (by omega)
  · cases hb : okB b
    · skip
      have C1 := fun W => Proper_any a W
      have C2 := fun W => Proper_any b W
      rw [ha] at C1
      rw [hb] at C2
      rw [show sprO a b c = none from by rw [sprO, ha, hb]; rfl]
      clear ha hb
      go_enter Try.func59, Try.ntmps59
      go_wp2_with fail
      obtain ⟨W0, hW0⟩ : ∃ W0, ((((w).alloc (.cells #[.int .i64 a.x.lo, .int .i64 a.x.hi, .int .i64 a.y.lo, .int .i64 a.y.hi] 60)).alloc (.cells #[.int .i64 b.x.lo, .int .i64 b.x.hi, .int .i64 b.y.lo, .int .i64 b.y.hi] 60)).alloc (.cells #[.int .i64 c.x.lo, .int .i64 c.x.hi, .int .i64 c.y.lo, .int .i64 c.y.hi] 60)).alloc (.cells #[.int .i64 (0), .int .i64 (0)] 58) = W0 := ⟨_, rfl⟩
      have S0 : St w W0 [(w.heap.size + 1 + 1 + 1, 0, .int .i64 (0)), (w.heap.size + 1 + 1 + 1, 1, .int .i64 (0)), (w.heap.size + 1 + 1, 0, .int .i64 c.x.lo), (w.heap.size + 1 + 1, 1, .int .i64 c.x.hi), (w.heap.size + 1 + 1, 2, .int .i64 c.y.lo), (w.heap.size + 1 + 1, 3, .int .i64 c.y.hi), (w.heap.size + 1, 0, .int .i64 b.x.lo), (w.heap.size + 1, 1, .int .i64 b.x.hi), (w.heap.size + 1, 2, .int .i64 b.y.lo), (w.heap.size + 1, 3, .int .i64 b.y.hi), (w.heap.size, 0, .int .i64 a.x.lo), (w.heap.size, 1, .int .i64 a.x.hi), (w.heap.size, 2, .int .i64 a.y.lo), (w.heap.size, 3, .int .i64 a.y.hi)] := by rw [← hW0]; exact (((((St.nil w)).box #[.int .i64 a.x.lo, .int .i64 a.x.hi, .int .i64 a.y.lo, .int .i64 a.y.hi] 60 (w.heap.size) (by simp)).box #[.int .i64 b.x.lo, .int .i64 b.x.hi, .int .i64 b.y.lo, .int .i64 b.y.hi] 60 (w.heap.size + 1) (by simp)).box #[.int .i64 c.x.lo, .int .i64 c.x.hi, .int .i64 c.y.lo, .int .i64 c.y.hi] 60 (w.heap.size + 1 + 1) (by simp)).box #[.int .i64 (0), .int .i64 (0)] 58 (w.heap.size + 1 + 1 + 1) (by simp)
      rw [hW0]
      clear hW0
      obtain ⟨C, hC0, HC, LC, BC, hne⟩ := cls S0
      haveI := hne
      obtain ⟨c0, rfl⟩ : ∃ n : Wd C, W0 = n.w := ⟨⟨_, hC0⟩, rfl⟩
      have fC0 : ∀ n : Wd C, n.w.cell? ⟨w.heap.size + 1 + 1 + 1, 0, none⟩ = some (.int .i64 (0)) := fun n => (LC.out n).1.2.1
      have zC0 : ∀ n : Wd C, n.w.frozen? ⟨w.heap.size + 1 + 1 + 1, 0, none⟩ = false := fun n => (LC.out n).1.2.2
      have fC1 : ∀ n : Wd C, n.w.cell? ⟨w.heap.size + 1 + 1 + 1, 1, none⟩ = some (.int .i64 (0)) := fun n => (LC.out n).2.1.2.1
      have zC1 : ∀ n : Wd C, n.w.frozen? ⟨w.heap.size + 1 + 1 + 1, 1, none⟩ = false := fun n => (LC.out n).2.1.2.2
      have fC2 : ∀ n : Wd C, n.w.cell? ⟨w.heap.size + 1 + 1, 0, none⟩ = some (.int .i64 c.x.lo) := fun n => (LC.out n).2.2.1.2.1
      have fC3 : ∀ n : Wd C, n.w.cell? ⟨w.heap.size + 1 + 1, 1, none⟩ = some (.int .i64 c.x.hi) := fun n => (LC.out n).2.2.2.1.2.1
      have fC4 : ∀ n : Wd C, n.w.cell? ⟨w.heap.size + 1 + 1, 2, none⟩ = some (.int .i64 c.y.lo) := fun n => (LC.out n).2.2.2.2.1.2.1
      have fC5 : ∀ n : Wd C, n.w.cell? ⟨w.heap.size + 1 + 1, 3, none⟩ = some (.int .i64 c.y.hi) := fun n => (LC.out n).2.2.2.2.2.1.2.1
      have fC6 : ∀ n : Wd C, n.w.cell? ⟨w.heap.size + 1, 0, none⟩ = some (.int .i64 b.x.lo) := fun n => (LC.out n).2.2.2.2.2.2.1.2.1
      have fC7 : ∀ n : Wd C, n.w.cell? ⟨w.heap.size + 1, 1, none⟩ = some (.int .i64 b.x.hi) := fun n => (LC.out n).2.2.2.2.2.2.2.1.2.1
      have fC8 : ∀ n : Wd C, n.w.cell? ⟨w.heap.size + 1, 2, none⟩ = some (.int .i64 b.y.lo) := fun n => (LC.out n).2.2.2.2.2.2.2.2.1.2.1
      have fC9 : ∀ n : Wd C, n.w.cell? ⟨w.heap.size + 1, 3, none⟩ = some (.int .i64 b.y.hi) := fun n => (LC.out n).2.2.2.2.2.2.2.2.2.1.2.1
      have fC10 : ∀ n : Wd C, n.w.cell? ⟨w.heap.size, 0, none⟩ = some (.int .i64 a.x.lo) := fun n => (LC.out n).2.2.2.2.2.2.2.2.2.2.1.2.1
      have fC11 : ∀ n : Wd C, n.w.cell? ⟨w.heap.size, 1, none⟩ = some (.int .i64 a.x.hi) := fun n => (LC.out n).2.2.2.2.2.2.2.2.2.2.2.1.2.1
      have fC12 : ∀ n : Wd C, n.w.cell? ⟨w.heap.size, 2, none⟩ = some (.int .i64 a.y.lo) := fun n => (LC.out n).2.2.2.2.2.2.2.2.2.2.2.2.1.2.1
      have fC13 : ∀ n : Wd C, n.w.cell? ⟨w.heap.size, 3, none⟩ = some (.int .i64 a.y.hi) := fun n => (LC.out n).2.2.2.2.2.2.2.2.2.2.2.2.2.1.2.1
      clear S0 hC0
      have D1 := cin HC C1
      have D2 := cin HC C2
      clear C1 C2
      go_wp2_with (first | (go_at_call 53; with_reducible refine (D1 _).out.mono ?_; rintro e w' ⟨rfl, n, rfl⟩) | (go_at_call 53; with_reducible refine (D2 _).out.mono ?_; rintro e w' ⟨rfl, n, rfl⟩))
      refine bodyPost_ret (v := spRes none) (by simp [results, Try.results59, go_sem, spRes, fC0, fC1]) rfl ⟨rfl, ?_⟩
      exact below_set (below_set (BC.out _) _ _ _ (by omega)) _ _ _ (by omega)
    · cases hc : okB c
      · skip
        have C1 := fun W => Proper_any a W
        have C2 := fun W => Proper_any b W
        have C3 := fun W => Proper_any c W
        rw [ha] at C1
        rw [hb] at C2
        rw [hc] at C3
        rw [show sprO a b c = none from by rw [sprO, ha, hb, hc]; rfl]
        clear ha hb hc
        go_enter Try.func59, Try.ntmps59
        go_wp2_with fail
        obtain ⟨W0, hW0⟩ : ∃ W0, ((((w).alloc (.cells #[.int .i64 a.x.lo, .int .i64 a.x.hi, .int .i64 a.y.lo, .int .i64 a.y.hi] 60)).alloc (.cells #[.int .i64 b.x.lo, .int .i64 b.x.hi, .int .i64 b.y.lo, .int .i64 b.y.hi] 60)).alloc (.cells #[.int .i64 c.x.lo, .int .i64 c.x.hi, .int .i64 c.y.lo, .int .i64 c.y.hi] 60)).alloc (.cells #[.int .i64 (0), .int .i64 (0)] 58) = W0 := ⟨_, rfl⟩
        have S0 : St w W0 [(w.heap.size + 1 + 1 + 1, 0, .int .i64 (0)), (w.heap.size + 1 + 1 + 1, 1, .int .i64 (0)), (w.heap.size + 1 + 1, 0, .int .i64 c.x.lo), (w.heap.size + 1 + 1, 1, .int .i64 c.x.hi), (w.heap.size + 1 + 1, 2, .int .i64 c.y.lo), (w.heap.size + 1 + 1, 3, .int .i64 c.y.hi), (w.heap.size + 1, 0, .int .i64 b.x.lo), (w.heap.size + 1, 1, .int .i64 b.x.hi), (w.heap.size + 1, 2, .int .i64 b.y.lo), (w.heap.size + 1, 3, .int .i64 b.y.hi), (w.heap.size, 0, .int .i64 a.x.lo), (w.heap.size, 1, .int .i64 a.x.hi), (w.heap.size, 2, .int .i64 a.y.lo), (w.heap.size, 3, .int .i64 a.y.hi)] := by rw [← hW0]; exact (((((St.nil w)).box #[.int .i64 a.x.lo, .int .i64 a.x.hi, .int .i64 a.y.lo, .int .i64 a.y.hi] 60 (w.heap.size) (by simp)).box #[.int .i64 b.x.lo, .int .i64 b.x.hi, .int .i64 b.y.lo, .int .i64 b.y.hi] 60 (w.heap.size + 1) (by simp)).box #[.int .i64 c.x.lo, .int .i64 c.x.hi, .int .i64 c.y.lo, .int .i64 c.y.hi] 60 (w.heap.size + 1 + 1) (by simp)).box #[.int .i64 (0), .int .i64 (0)] 58 (w.heap.size + 1 + 1 + 1) (by simp)
        rw [hW0]
        clear hW0
        obtain ⟨C, hC0, HC, LC, BC, hne⟩ := cls S0
        haveI := hne
        obtain ⟨c0, rfl⟩ : ∃ n : Wd C, W0 = n.w := ⟨⟨_, hC0⟩, rfl⟩
        have fC0 : ∀ n : Wd C, n.w.cell? ⟨w.heap.size + 1 + 1 + 1, 0, none⟩ = some (.int .i64 (0)) := fun n => (LC.out n).1.2.1
        have zC0 : ∀ n : Wd C, n.w.frozen? ⟨w.heap.size + 1 + 1 + 1, 0, none⟩ = false := fun n => (LC.out n).1.2.2
        have fC1 : ∀ n : Wd C, n.w.cell? ⟨w.heap.size + 1 + 1 + 1, 1, none⟩ = some (.int .i64 (0)) := fun n => (LC.out n).2.1.2.1
        have zC1 : ∀ n : Wd C, n.w.frozen? ⟨w.heap.size + 1 + 1 + 1, 1, none⟩ = false := fun n => (LC.out n).2.1.2.2
        have fC2 : ∀ n : Wd C, n.w.cell? ⟨w.heap.size + 1 + 1, 0, none⟩ = some (.int .i64 c.x.lo) := fun n => (LC.out n).2.2.1.2.1
        have fC3 : ∀ n : Wd C, n.w.cell? ⟨w.heap.size + 1 + 1, 1, none⟩ = some (.int .i64 c.x.hi) := fun n => (LC.out n).2.2.2.1.2.1
        have fC4 : ∀ n : Wd C, n.w.cell? ⟨w.heap.size + 1 + 1, 2, none⟩ = some (.int .i64 c.y.lo) := fun n => (LC.out n).2.2.2.2.1.2.1
        have fC5 : ∀ n : Wd C, n.w.cell? ⟨w.heap.size + 1 + 1, 3, none⟩ = some (.int .i64 c.y.hi) := fun n => (LC.out n).2.2.2.2.2.1.2.1
        have fC6 : ∀ n : Wd C, n.w.cell? ⟨w.heap.size + 1, 0, none⟩ = some (.int .i64 b.x.lo) := fun n => (LC.out n).2.2.2.2.2.2.1.2.1
        have fC7 : ∀ n : Wd C, n.w.cell? ⟨w.heap.size + 1, 1, none⟩ = some (.int .i64 b.x.hi) := fun n => (LC.out n).2.2.2.2.2.2.2.1.2.1
        have fC8 : ∀ n : Wd C, n.w.cell? ⟨w.heap.size + 1, 2, none⟩ = some (.int .i64 b.y.lo) := fun n => (LC.out n).2.2.2.2.2.2.2.2.1.2.1
        have fC9 : ∀ n : Wd C, n.w.cell? ⟨w.heap.size + 1, 3, none⟩ = some (.int .i64 b.y.hi) := fun n => (LC.out n).2.2.2.2.2.2.2.2.2.1.2.1
        have fC10 : ∀ n : Wd C, n.w.cell? ⟨w.heap.size, 0, none⟩ = some (.int .i64 a.x.lo) := fun n => (LC.out n).2.2.2.2.2.2.2.2.2.2.1.2.1
        have fC11 : ∀ n : Wd C, n.w.cell? ⟨w.heap.size, 1, none⟩ = some (.int .i64 a.x.hi) := fun n => (LC.out n).2.2.2.2.2.2.2.2.2.2.2.1.2.1
        have fC12 : ∀ n : Wd C, n.w.cell? ⟨w.heap.size, 2, none⟩ = some (.int .i64 a.y.lo) := fun n => (LC.out n).2.2.2.2.2.2.2.2.2.2.2.2.1.2.1
        have fC13 : ∀ n : Wd C, n.w.cell? ⟨w.heap.size, 3, none⟩ = some (.int .i64 a.y.hi) := fun n => (LC.out n).2.2.2.2.2.2.2.2.2.2.2.2.2.1.2.1
        clear S0 hC0
        have D1 := cin HC C1
        have D2 := cin HC C2
        have D3 := cin HC C3
        clear C1 C2 C3
        go_wp2_with (first | (go_at_call 53; with_reducible refine (D1 _).out.mono ?_; rintro e w' ⟨rfl, n, rfl⟩) | (go_at_call 53; with_reducible refine (D2 _).out.mono ?_; rintro e w' ⟨rfl, n, rfl⟩) | (go_at_call 53; with_reducible refine (D3 _).out.mono ?_; rintro e w' ⟨rfl, n, rfl⟩))
        refine bodyPost_ret (v := spRes none) (by simp [results, Try.results59, go_sem, spRes, fC0, fC1]) rfl ⟨rfl, ?_⟩
        exact below_set (below_set (BC.out _) _ _ _ (by omega)) _ _ _ (by omega)
      · rw [show sprO a b c = some (sprd (cr a) (cr b) (cr c)) from by rw [sprO, ha, hb, hc]; rfl]
        exact Spread_yes a b c w ha hb hc
end Go.Proofs.Ytdefpcjlbganpaa
