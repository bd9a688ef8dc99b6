import Derived.RangeFuncNested
import Derived.RangeFuncBox
import Derived.RangeFuncBound
import Derived.RangeFuncCalls
import Derived.RangeFuncLeaves
import Derived.Shelf.Abstract
import Derived.Shelf.RegionOpen
import Derived.BigRegionIn
import Derived.Stop.RegionWithIn
import Derived.WalkKit
import Derived.OwnWalkIn
import Derived.TacticsInMore
import Derived.LoopNIn
import Derived.LoopIn
import Derived.Lib.Hide
import Derived.IntWalk
import Derived.Deep.QuietTactic
import Derived.Deep.RegionHeld3
import Derived.Deep.RegionLaw
import Derived.StillTailTactics
import Derived.WalkSmall
import Derived.Deep.DeepMust
import Derived.BigQuiet
import Derived.LoopTactic
import Derived.Test.YtdefpcjlbganpaaMRd
import Derived.Test.YtdefpcjlbganpaaRCut
import Derived.Test.YtdefpcjlbganpaaMCut
import Derived.Test.YtdefpcjlbganpaaMBxs
import Derived.Lib.MinMax
import Derived.Deep.DeepCutAuto
import Derived.Deep.CutBlock
namespace Go.Proofs.Ytdefpcjlbganpaa
open Go.RowKit Go.Shelf Go.BigFrame
attribute [local go_sem] Oper.semAt_some
attribute [local go_sem] World.cell?_alloc_some
theorem eq23_in (p : Pt) (w : World) : (Op.equalIn 9999 23 p.v p.v).run Try.prog w = .ok true w := by
  simp [go_sem]
theorem eq68_run (a b c d : Pt) (w : World) : (binOp .eql 68 (c4 a b c d) (c4 a b c d)).run Try.prog w = .ok (.bool true) w := by
  have k0 : ∀ w, (part 23 #[.int .i64 a.x, .int .i64 a.y, .int .i64 b.x, .int .i64 b.y, .int .i64 c.x, .int .i64 c.y, .int .i64 d.x, .int .i64 d.y] 0).run Try.prog w = .ok a.v w := fun w => by kernel_rfl
  have k1 : ∀ w, (part 23 #[.int .i64 a.x, .int .i64 a.y, .int .i64 b.x, .int .i64 b.y, .int .i64 c.x, .int .i64 c.y, .int .i64 d.x, .int .i64 d.y] 2).run Try.prog w = .ok b.v w := fun w => by kernel_rfl
  have k2 : ∀ w, (part 23 #[.int .i64 a.x, .int .i64 a.y, .int .i64 b.x, .int .i64 b.y, .int .i64 c.x, .int .i64 c.y, .int .i64 d.x, .int .i64 d.y] 4).run Try.prog w = .ok c.v w := fun w => by kernel_rfl
  have k3 : ∀ w, (part 23 #[.int .i64 a.x, .int .i64 a.y, .int .i64 b.x, .int .i64 b.y, .int .i64 c.x, .int .i64 c.y, .int .i64 d.x, .int .i64 d.y] 6).run Try.prog w = .ok d.v w := fun w => by kernel_rfl
  have hs : ∀ w, (sizeOf 23).run Try.prog w = .ok 2 w := fun w => by exact Try.sizeOf23 w
  have e : (Op.equalIn 10000 68 (c4 a b c d) (c4 a b c d)).run Try.prog w = .ok true w := by
    show (Op.equalIn (9999 + 1) 68 _ _).run Try.prog w = _
    rw [Op.equalIn]
    simp only [Sem.run_bind, run_underlying Try.underlying68, Result.andThen_ok, hs]
    simp [List.range', k0, k1, k2, k3, eq23_in]
  simp [binOp, Op.equal, Op.maxDepth, e]
set_option maxRecDepth 100000 in
set_option maxHeartbeats 64000000 in
/-- The law of boxes answers true. -/
theorem boxesLaw (BX : ∀ W, Calls Try.prog 38 #[] W fun e w' => e = .returned (.bool true) ∧ Below W.heap.size W w') (a b : Bx) (p : Pt) (m : Int) (w : World) :
   Calls Try.prog 7 #[a.v, b.v, p.v, .int .i64 m] w fun e w' => e = .returned (.bool true) ∧ Below w.heap.size w w' := by
  obtain ⟨mm, hM⟩ : ∃ M, (meetB a b).getD bx0 = M := ⟨_, rfl⟩
  obtain ⟨e1, he⟩ : ∃ e, (meetB a b).isSome = e := ⟨_, rfl⟩
  obtain ⟨kk, hK⟩ : ∃ M, (cvB a b).getD bx0 = M := ⟨_, rfl⟩
  obtain ⟨e2, hg⟩ : ∃ e, (cvB a b).isSome = e := ⟨_, rfl⟩
  obtain ⟨gg, hG⟩ : ∃ M, (grwB a m).getD bx0 = M := ⟨_, rfl⟩
  obtain ⟨e3, hh⟩ : ∃ e, (grwB a m).isSome = e := ⟨_, rfl⟩
  obtain ⟨pp, hP⟩ : ∃ M, ((cutB a).getD (bx0, bx0)).1 = M := ⟨_, rfl⟩
  obtain ⟨qq, hQ⟩ : ∃ M, ((cutB a).getD (bx0, bx0)).2 = M := ⟨_, rfl⟩
  obtain ⟨e4, hi⟩ : ∃ e, (cutB a).isSome = e := ⟨_, rfl⟩
  have M1 : ∀ W, Calls Try.prog 45 #[a.v, b.v] W fun e' w' => e' = .returned (.tuple #[mm.v, .bool e1]) ∧ Below W.heap.size W w' := fun W => by rw [← hM, ← he]; exact Meet_any a b W
  have M2 : ∀ W, Calls Try.prog 46 #[a.v, b.v] W fun e' w' => e' = .returned (.tuple #[mm.v, .bool e1]) ∧ Below W.heap.size W w' := fun W => by rw [← hM, ← he]; exact rMeet_any a b W
  have K1 : ∀ W, Calls Try.prog 47 #[a.v, b.v] W fun e' w' => e' = .returned (.tuple #[kk.v, .bool e2]) ∧ Below W.heap.size W w' := fun W => by rw [← hK, ← hg]; exact Cover_any a b W
  have K2 : ∀ W, Calls Try.prog 48 #[a.v, b.v] W fun e' w' => e' = .returned (.tuple #[kk.v, .bool e2]) ∧ Below W.heap.size W w' := fun W => by rw [← hK, ← hg]; exact rCover_any a b W
  have G1 : ∀ W, Calls Try.prog 49 #[a.v, .int .i64 m] W fun e' w' => e' = .returned (.tuple #[gg.v, .bool e3]) ∧ Below W.heap.size W w' := fun W => by rw [← hG, ← hh]; exact Grow_any a m W
  have G2 : ∀ W, Calls Try.prog 50 #[a.v, .int .i64 m] W fun e' w' => e' = .returned (.tuple #[gg.v, .bool e3]) ∧ Below W.heap.size W w' := fun W => by rw [← hG, ← hh]; exact rGrow_any a m W
  have T1 : ∀ W, Calls Try.prog 51 #[a.v] W fun e' w' => e' = .returned (.tuple #[pp.v, qq.v, .bool e4]) ∧ Below W.heap.size W w' := fun W => by rw [← hP, ← hQ, ← hi]; exact Cut_any a W
  have T2 : ∀ W, Calls Try.prog 52 #[a.v] W fun e' w' => e' = .returned (.tuple #[pp.v, qq.v, .bool e4]) ∧ Below W.heap.size W w' := fun W => by rw [← hP, ← hQ, ← hi]; exact rCut_any a W
  have P1 := fun W => Proper_any a W
  have P2 := fun W => rProper_any a W
  have X1 := fun W => Holds_any a p W
  have X2 := fun W => rHolds_any a p W
  have Y1 := fun W => Corners_any a W
  have Y2 := fun W => rCorners_any a W
  obtain ⟨za, hza⟩ : ∃ z, okB a = z := ⟨_, rfl⟩
  obtain ⟨ha, hha⟩ : ∃ z, hds a p = z := ⟨_, rfl⟩
  simp only [hza] at P1 P2
  simp only [hha] at X1 X2
  obtain ⟨c0, h0⟩ : ∃ c, cr a 0 = c := ⟨_, rfl⟩
  obtain ⟨c1, h1⟩ : ∃ c, cr a 1 = c := ⟨_, rfl⟩
  obtain ⟨c2, h2⟩ : ∃ c, cr a 2 = c := ⟨_, rfl⟩
  obtain ⟨c3, h3⟩ : ∃ c, cr a 3 = c := ⟨_, rfl⟩
  simp only [h0, h1, h2, h3] at Y1 Y2
  clear h0 h1 h2 h3 hza hha hM he hK hg hG hh hP hQ hi
  have kM := fun W => eqB_run mm W
  have kK := fun W => eqB_run kk W
  have kG := fun W => eqB_run gg W
  have kP := fun W => eqB_run pp W
  have kQ := fun W => eqB_run qq W
  have kC := fun W => eq68_run c0 c1 c2 c3 W
  go_enter Try.func7, Try.ntmps7
  go_wp2_with fail
  obtain ⟨W0, hW0⟩ : ∃ W0, (((w).alloc (.cells #[.int .i64 a.x.lo, .int .i64 a.x.hi, .int .i64 a.y.lo, .int .i64 a.y.hi] 60)).alloc (.cells #[.int .i64 b.x.lo, .int .i64 b.x.hi, .int .i64 b.y.lo, .int .i64 b.y.hi] 60)).alloc (.cells #[.int .i64 p.x, .int .i64 p.y] 23) = W0 := ⟨_, rfl⟩
  have S0 : St w W0 [(w.heap.size + 1 + 1, 0, .int .i64 p.x), (w.heap.size + 1 + 1, 1, .int .i64 p.y), (w.heap.size + 1, 0, .int .i64 b.x.lo), (w.heap.size + 1, 1, .int .i64 b.x.hi), (w.heap.size + 1, 2, .int .i64 b.y.lo), (w.heap.size + 1, 3, .int .i64 b.y.hi), (w.heap.size, 0, .int .i64 a.x.lo), (w.heap.size, 1, .int .i64 a.x.hi), (w.heap.size, 2, .int .i64 a.y.lo), (w.heap.size, 3, .int .i64 a.y.hi)] := by rw [← hW0]; exact ((((St.nil w)).box #[.int .i64 a.x.lo, .int .i64 a.x.hi, .int .i64 a.y.lo, .int .i64 a.y.hi] 60 (w.heap.size) (by simp)).box #[.int .i64 b.x.lo, .int .i64 b.x.hi, .int .i64 b.y.lo, .int .i64 b.y.hi] 60 (w.heap.size + 1) (by simp)).box #[.int .i64 p.x, .int .i64 p.y] 23 (w.heap.size + 1 + 1) (by simp)
  rw [hW0]
  clear hW0
  obtain ⟨C, hC0, HC, LC, BC, hne⟩ := cls S0
  haveI := hne
  obtain ⟨c0, rfl⟩ : ∃ n : Wd C, W0 = n.w := ⟨⟨_, hC0⟩, rfl⟩
  have fC0 : ∀ n : Wd C, n.w.cell? ⟨w.heap.size + 1 + 1, 0, none⟩ = some (.int .i64 p.x) := fun n => (LC.out n).1.2.1
  have fC1 : ∀ n : Wd C, n.w.cell? ⟨w.heap.size + 1 + 1, 1, none⟩ = some (.int .i64 p.y) := fun n => (LC.out n).2.1.2.1
  have fC2 : ∀ n : Wd C, n.w.cell? ⟨w.heap.size + 1, 0, none⟩ = some (.int .i64 b.x.lo) := fun n => (LC.out n).2.2.1.2.1
  have fC3 : ∀ n : Wd C, n.w.cell? ⟨w.heap.size + 1, 1, none⟩ = some (.int .i64 b.x.hi) := fun n => (LC.out n).2.2.2.1.2.1
  have fC4 : ∀ n : Wd C, n.w.cell? ⟨w.heap.size + 1, 2, none⟩ = some (.int .i64 b.y.lo) := fun n => (LC.out n).2.2.2.2.1.2.1
  have fC5 : ∀ n : Wd C, n.w.cell? ⟨w.heap.size + 1, 3, none⟩ = some (.int .i64 b.y.hi) := fun n => (LC.out n).2.2.2.2.2.1.2.1
  have fC6 : ∀ n : Wd C, n.w.cell? ⟨w.heap.size, 0, none⟩ = some (.int .i64 a.x.lo) := fun n => (LC.out n).2.2.2.2.2.2.1.2.1
  have fC7 : ∀ n : Wd C, n.w.cell? ⟨w.heap.size, 1, none⟩ = some (.int .i64 a.x.hi) := fun n => (LC.out n).2.2.2.2.2.2.2.1.2.1
  have fC8 : ∀ n : Wd C, n.w.cell? ⟨w.heap.size, 2, none⟩ = some (.int .i64 a.y.lo) := fun n => (LC.out n).2.2.2.2.2.2.2.2.1.2.1
  have fC9 : ∀ n : Wd C, n.w.cell? ⟨w.heap.size, 3, none⟩ = some (.int .i64 a.y.hi) := fun n => (LC.out n).2.2.2.2.2.2.2.2.2.1.2.1
  clear S0 hC0
  have D1 := cin HC M1
  go_wp2_with (first | (go_at_call 45; with_reducible refine (D1 _).out.mono ?_; rintro e w' ⟨rfl, n, rfl⟩))
  obtain ⟨W0, hW0⟩ : ∃ W0, (n.w).alloc (.cells #[.int .i64 mm.x.lo, .int .i64 mm.x.hi, .int .i64 mm.y.lo, .int .i64 mm.y.hi] 60) = W0 := ⟨_, rfl⟩
  have S0 : St w W0 [(n.w.heap.size, 0, .int .i64 mm.x.lo), (n.w.heap.size, 1, .int .i64 mm.x.hi), (n.w.heap.size, 2, .int .i64 mm.y.lo), (n.w.heap.size, 3, .int .i64 mm.y.hi), (w.heap.size + 1 + 1, 0, .int .i64 p.x), (w.heap.size + 1 + 1, 1, .int .i64 p.y), (w.heap.size + 1, 0, .int .i64 b.x.lo), (w.heap.size + 1, 1, .int .i64 b.x.hi), (w.heap.size + 1, 2, .int .i64 b.y.lo), (w.heap.size + 1, 3, .int .i64 b.y.hi), (w.heap.size, 0, .int .i64 a.x.lo), (w.heap.size, 1, .int .i64 a.x.hi), (w.heap.size, 2, .int .i64 a.y.lo), (w.heap.size, 3, .int .i64 a.y.hi)] := by rw [← hW0]; exact ((⟨BC.out n, LC.out n⟩ : St w n.w _)).box #[.int .i64 mm.x.lo, .int .i64 mm.x.hi, .int .i64 mm.y.lo, .int .i64 mm.y.hi] 60 (n.w.heap.size) (by simp)
  rw [hW0]
  clear hW0
  obtain ⟨kD, hkk⟩ : ∃ k, n.w.heap.size = k := ⟨_, rfl⟩
  have gkD : w.heap.size ≤ kD := by rw [← hkk]; exact (BC.out n).size
  rw [hkk] at S0 ⊢
  clear hkk
  obtain ⟨D, hC0, HD, LD, BD, hne⟩ := cls S0
  haveI := hne
  obtain ⟨d0, rfl⟩ : ∃ n : Wd D, W0 = n.w := ⟨⟨_, hC0⟩, rfl⟩
  have fD0 : ∀ n : Wd D, n.w.cell? ⟨kD, 0, none⟩ = some (.int .i64 mm.x.lo) := fun n => (LD.out n).1.2.1
  have fD1 : ∀ n : Wd D, n.w.cell? ⟨kD, 1, none⟩ = some (.int .i64 mm.x.hi) := fun n => (LD.out n).2.1.2.1
  have fD2 : ∀ n : Wd D, n.w.cell? ⟨kD, 2, none⟩ = some (.int .i64 mm.y.lo) := fun n => (LD.out n).2.2.1.2.1
  have fD3 : ∀ n : Wd D, n.w.cell? ⟨kD, 3, none⟩ = some (.int .i64 mm.y.hi) := fun n => (LD.out n).2.2.2.1.2.1
  have fD4 : ∀ n : Wd D, n.w.cell? ⟨w.heap.size + 1 + 1, 0, none⟩ = some (.int .i64 p.x) := fun n => (LD.out n).2.2.2.2.1.2.1
  have fD5 : ∀ n : Wd D, n.w.cell? ⟨w.heap.size + 1 + 1, 1, none⟩ = some (.int .i64 p.y) := fun n => (LD.out n).2.2.2.2.2.1.2.1
  have fD6 : ∀ n : Wd D, n.w.cell? ⟨w.heap.size + 1, 0, none⟩ = some (.int .i64 b.x.lo) := fun n => (LD.out n).2.2.2.2.2.2.1.2.1
  have fD7 : ∀ n : Wd D, n.w.cell? ⟨w.heap.size + 1, 1, none⟩ = some (.int .i64 b.x.hi) := fun n => (LD.out n).2.2.2.2.2.2.2.1.2.1
  have fD8 : ∀ n : Wd D, n.w.cell? ⟨w.heap.size + 1, 2, none⟩ = some (.int .i64 b.y.lo) := fun n => (LD.out n).2.2.2.2.2.2.2.2.1.2.1
  have fD9 : ∀ n : Wd D, n.w.cell? ⟨w.heap.size + 1, 3, none⟩ = some (.int .i64 b.y.hi) := fun n => (LD.out n).2.2.2.2.2.2.2.2.2.1.2.1
  have fD10 : ∀ n : Wd D, n.w.cell? ⟨w.heap.size, 0, none⟩ = some (.int .i64 a.x.lo) := fun n => (LD.out n).2.2.2.2.2.2.2.2.2.2.1.2.1
  have fD11 : ∀ n : Wd D, n.w.cell? ⟨w.heap.size, 1, none⟩ = some (.int .i64 a.x.hi) := fun n => (LD.out n).2.2.2.2.2.2.2.2.2.2.2.1.2.1
  have fD12 : ∀ n : Wd D, n.w.cell? ⟨w.heap.size, 2, none⟩ = some (.int .i64 a.y.lo) := fun n => (LD.out n).2.2.2.2.2.2.2.2.2.2.2.2.1.2.1
  have fD13 : ∀ n : Wd D, n.w.cell? ⟨w.heap.size, 3, none⟩ = some (.int .i64 a.y.hi) := fun n => (LD.out n).2.2.2.2.2.2.2.2.2.2.2.2.2.1.2.1
  clear S0 hC0
  have D2 := cin HD M2
  clear M1 M2 D1
  go_wp2_with (first | (go_at_call 46; with_reducible refine (D2 _).out.mono ?_; rintro e w' ⟨rfl, n, rfl⟩))
  obtain ⟨W0, hW0⟩ : ∃ W0, (n.w).alloc (.cells #[.int .i64 mm.x.lo, .int .i64 mm.x.hi, .int .i64 mm.y.lo, .int .i64 mm.y.hi] 60) = W0 := ⟨_, rfl⟩
  have S0 : St w W0 [(n.w.heap.size, 0, .int .i64 mm.x.lo), (n.w.heap.size, 1, .int .i64 mm.x.hi), (n.w.heap.size, 2, .int .i64 mm.y.lo), (n.w.heap.size, 3, .int .i64 mm.y.hi), (kD, 0, .int .i64 mm.x.lo), (kD, 1, .int .i64 mm.x.hi), (kD, 2, .int .i64 mm.y.lo), (kD, 3, .int .i64 mm.y.hi), (w.heap.size + 1 + 1, 0, .int .i64 p.x), (w.heap.size + 1 + 1, 1, .int .i64 p.y), (w.heap.size + 1, 0, .int .i64 b.x.lo), (w.heap.size + 1, 1, .int .i64 b.x.hi), (w.heap.size + 1, 2, .int .i64 b.y.lo), (w.heap.size + 1, 3, .int .i64 b.y.hi), (w.heap.size, 0, .int .i64 a.x.lo), (w.heap.size, 1, .int .i64 a.x.hi), (w.heap.size, 2, .int .i64 a.y.lo), (w.heap.size, 3, .int .i64 a.y.hi)] := by rw [← hW0]; exact ((⟨BD.out n, LD.out n⟩ : St w n.w _)).box #[.int .i64 mm.x.lo, .int .i64 mm.x.hi, .int .i64 mm.y.lo, .int .i64 mm.y.hi] 60 (n.w.heap.size) (by simp)
  rw [hW0]
  clear hW0
  obtain ⟨kE, hkk⟩ : ∃ k, n.w.heap.size = k := ⟨_, rfl⟩
  have gkE : w.heap.size ≤ kE := by rw [← hkk]; exact (BD.out n).size
  rw [hkk] at S0 ⊢
  clear hkk
  obtain ⟨E, hC0, HE, LE, BE, hne⟩ := cls S0
  haveI := hne
  obtain ⟨e0, rfl⟩ : ∃ n : Wd E, W0 = n.w := ⟨⟨_, hC0⟩, rfl⟩
  have fE0 : ∀ n : Wd E, n.w.cell? ⟨kE, 0, none⟩ = some (.int .i64 mm.x.lo) := fun n => (LE.out n).1.2.1
  have fE1 : ∀ n : Wd E, n.w.cell? ⟨kE, 1, none⟩ = some (.int .i64 mm.x.hi) := fun n => (LE.out n).2.1.2.1
  have fE2 : ∀ n : Wd E, n.w.cell? ⟨kE, 2, none⟩ = some (.int .i64 mm.y.lo) := fun n => (LE.out n).2.2.1.2.1
  have fE3 : ∀ n : Wd E, n.w.cell? ⟨kE, 3, none⟩ = some (.int .i64 mm.y.hi) := fun n => (LE.out n).2.2.2.1.2.1
  have fE4 : ∀ n : Wd E, n.w.cell? ⟨kD, 0, none⟩ = some (.int .i64 mm.x.lo) := fun n => (LE.out n).2.2.2.2.1.2.1
  have fE5 : ∀ n : Wd E, n.w.cell? ⟨kD, 1, none⟩ = some (.int .i64 mm.x.hi) := fun n => (LE.out n).2.2.2.2.2.1.2.1
  have fE6 : ∀ n : Wd E, n.w.cell? ⟨kD, 2, none⟩ = some (.int .i64 mm.y.lo) := fun n => (LE.out n).2.2.2.2.2.2.1.2.1
  have fE7 : ∀ n : Wd E, n.w.cell? ⟨kD, 3, none⟩ = some (.int .i64 mm.y.hi) := fun n => (LE.out n).2.2.2.2.2.2.2.1.2.1
  have fE8 : ∀ n : Wd E, n.w.cell? ⟨w.heap.size + 1 + 1, 0, none⟩ = some (.int .i64 p.x) := fun n => (LE.out n).2.2.2.2.2.2.2.2.1.2.1
  have fE9 : ∀ n : Wd E, n.w.cell? ⟨w.heap.size + 1 + 1, 1, none⟩ = some (.int .i64 p.y) := fun n => (LE.out n).2.2.2.2.2.2.2.2.2.1.2.1
  have fE10 : ∀ n : Wd E, n.w.cell? ⟨w.heap.size + 1, 0, none⟩ = some (.int .i64 b.x.lo) := fun n => (LE.out n).2.2.2.2.2.2.2.2.2.2.1.2.1
  have fE11 : ∀ n : Wd E, n.w.cell? ⟨w.heap.size + 1, 1, none⟩ = some (.int .i64 b.x.hi) := fun n => (LE.out n).2.2.2.2.2.2.2.2.2.2.2.1.2.1
  have fE12 : ∀ n : Wd E, n.w.cell? ⟨w.heap.size + 1, 2, none⟩ = some (.int .i64 b.y.lo) := fun n => (LE.out n).2.2.2.2.2.2.2.2.2.2.2.2.1.2.1
  have fE13 : ∀ n : Wd E, n.w.cell? ⟨w.heap.size + 1, 3, none⟩ = some (.int .i64 b.y.hi) := fun n => (LE.out n).2.2.2.2.2.2.2.2.2.2.2.2.2.1.2.1
  have fE14 : ∀ n : Wd E, n.w.cell? ⟨w.heap.size, 0, none⟩ = some (.int .i64 a.x.lo) := fun n => (LE.out n).2.2.2.2.2.2.2.2.2.2.2.2.2.2.1.2.1
  have fE15 : ∀ n : Wd E, n.w.cell? ⟨w.heap.size, 1, none⟩ = some (.int .i64 a.x.hi) := fun n => (LE.out n).2.2.2.2.2.2.2.2.2.2.2.2.2.2.2.1.2.1
  have fE16 : ∀ n : Wd E, n.w.cell? ⟨w.heap.size, 2, none⟩ = some (.int .i64 a.y.lo) := fun n => (LE.out n).2.2.2.2.2.2.2.2.2.2.2.2.2.2.2.2.1.2.1
  have fE17 : ∀ n : Wd E, n.w.cell? ⟨w.heap.size, 3, none⟩ = some (.int .i64 a.y.hi) := fun n => (LE.out n).2.2.2.2.2.2.2.2.2.2.2.2.2.2.2.2.2.1.2.1
  clear S0 hC0
  have D1 := cin HE K1
  clear K1 D2 HC LC BC
  go_wp2_with (first | (go_at_call 47; with_reducible refine (D1 _).out.mono ?_; rintro e w' ⟨rfl, n, rfl⟩))
  obtain ⟨W0, hW0⟩ : ∃ W0, (n.w).alloc (.cells #[.int .i64 kk.x.lo, .int .i64 kk.x.hi, .int .i64 kk.y.lo, .int .i64 kk.y.hi] 60) = W0 := ⟨_, rfl⟩
  have S0 : St w W0 [(n.w.heap.size, 0, .int .i64 kk.x.lo), (n.w.heap.size, 1, .int .i64 kk.x.hi), (n.w.heap.size, 2, .int .i64 kk.y.lo), (n.w.heap.size, 3, .int .i64 kk.y.hi), (kE, 0, .int .i64 mm.x.lo), (kE, 1, .int .i64 mm.x.hi), (kE, 2, .int .i64 mm.y.lo), (kE, 3, .int .i64 mm.y.hi), (kD, 0, .int .i64 mm.x.lo), (kD, 1, .int .i64 mm.x.hi), (kD, 2, .int .i64 mm.y.lo), (kD, 3, .int .i64 mm.y.hi), (w.heap.size + 1 + 1, 0, .int .i64 p.x), (w.heap.size + 1 + 1, 1, .int .i64 p.y), (w.heap.size + 1, 0, .int .i64 b.x.lo), (w.heap.size + 1, 1, .int .i64 b.x.hi), (w.heap.size + 1, 2, .int .i64 b.y.lo), (w.heap.size + 1, 3, .int .i64 b.y.hi), (w.heap.size, 0, .int .i64 a.x.lo), (w.heap.size, 1, .int .i64 a.x.hi), (w.heap.size, 2, .int .i64 a.y.lo), (w.heap.size, 3, .int .i64 a.y.hi)] := by rw [← hW0]; exact ((⟨BE.out n, LE.out n⟩ : St w n.w _)).box #[.int .i64 kk.x.lo, .int .i64 kk.x.hi, .int .i64 kk.y.lo, .int .i64 kk.y.hi] 60 (n.w.heap.size) (by simp)
  rw [hW0]
  clear hW0
  obtain ⟨kF, hkk⟩ : ∃ k, n.w.heap.size = k := ⟨_, rfl⟩
  have gkF : w.heap.size ≤ kF := by rw [← hkk]; exact (BE.out n).size
  rw [hkk] at S0 ⊢
  clear hkk
  obtain ⟨F, hC0, HF, LF, BF, hne⟩ := cls S0
  haveI := hne
  obtain ⟨f0, rfl⟩ : ∃ n : Wd F, W0 = n.w := ⟨⟨_, hC0⟩, rfl⟩
  have fF0 : ∀ n : Wd F, n.w.cell? ⟨kF, 0, none⟩ = some (.int .i64 kk.x.lo) := fun n => (LF.out n).1.2.1
  have fF1 : ∀ n : Wd F, n.w.cell? ⟨kF, 1, none⟩ = some (.int .i64 kk.x.hi) := fun n => (LF.out n).2.1.2.1
  have fF2 : ∀ n : Wd F, n.w.cell? ⟨kF, 2, none⟩ = some (.int .i64 kk.y.lo) := fun n => (LF.out n).2.2.1.2.1
  have fF3 : ∀ n : Wd F, n.w.cell? ⟨kF, 3, none⟩ = some (.int .i64 kk.y.hi) := fun n => (LF.out n).2.2.2.1.2.1
  have fF4 : ∀ n : Wd F, n.w.cell? ⟨kE, 0, none⟩ = some (.int .i64 mm.x.lo) := fun n => (LF.out n).2.2.2.2.1.2.1
  have fF5 : ∀ n : Wd F, n.w.cell? ⟨kE, 1, none⟩ = some (.int .i64 mm.x.hi) := fun n => (LF.out n).2.2.2.2.2.1.2.1
  have fF6 : ∀ n : Wd F, n.w.cell? ⟨kE, 2, none⟩ = some (.int .i64 mm.y.lo) := fun n => (LF.out n).2.2.2.2.2.2.1.2.1
  have fF7 : ∀ n : Wd F, n.w.cell? ⟨kE, 3, none⟩ = some (.int .i64 mm.y.hi) := fun n => (LF.out n).2.2.2.2.2.2.2.1.2.1
  have fF8 : ∀ n : Wd F, n.w.cell? ⟨kD, 0, none⟩ = some (.int .i64 mm.x.lo) := fun n => (LF.out n).2.2.2.2.2.2.2.2.1.2.1
  have fF9 : ∀ n : Wd F, n.w.cell? ⟨kD, 1, none⟩ = some (.int .i64 mm.x.hi) := fun n => (LF.out n).2.2.2.2.2.2.2.2.2.1.2.1
  have fF10 : ∀ n : Wd F, n.w.cell? ⟨kD, 2, none⟩ = some (.int .i64 mm.y.lo) := fun n => (LF.out n).2.2.2.2.2.2.2.2.2.2.1.2.1
  have fF11 : ∀ n : Wd F, n.w.cell? ⟨kD, 3, none⟩ = some (.int .i64 mm.y.hi) := fun n => (LF.out n).2.2.2.2.2.2.2.2.2.2.2.1.2.1
  have fF12 : ∀ n : Wd F, n.w.cell? ⟨w.heap.size + 1 + 1, 0, none⟩ = some (.int .i64 p.x) := fun n => (LF.out n).2.2.2.2.2.2.2.2.2.2.2.2.1.2.1
  have fF13 : ∀ n : Wd F, n.w.cell? ⟨w.heap.size + 1 + 1, 1, none⟩ = some (.int .i64 p.y) := fun n => (LF.out n).2.2.2.2.2.2.2.2.2.2.2.2.2.1.2.1
  have fF14 : ∀ n : Wd F, n.w.cell? ⟨w.heap.size + 1, 0, none⟩ = some (.int .i64 b.x.lo) := fun n => (LF.out n).2.2.2.2.2.2.2.2.2.2.2.2.2.2.1.2.1
  have fF15 : ∀ n : Wd F, n.w.cell? ⟨w.heap.size + 1, 1, none⟩ = some (.int .i64 b.x.hi) := fun n => (LF.out n).2.2.2.2.2.2.2.2.2.2.2.2.2.2.2.1.2.1
  have fF16 : ∀ n : Wd F, n.w.cell? ⟨w.heap.size + 1, 2, none⟩ = some (.int .i64 b.y.lo) := fun n => (LF.out n).2.2.2.2.2.2.2.2.2.2.2.2.2.2.2.2.1.2.1
  have fF17 : ∀ n : Wd F, n.w.cell? ⟨w.heap.size + 1, 3, none⟩ = some (.int .i64 b.y.hi) := fun n => (LF.out n).2.2.2.2.2.2.2.2.2.2.2.2.2.2.2.2.2.1.2.1
  have fF18 : ∀ n : Wd F, n.w.cell? ⟨w.heap.size, 0, none⟩ = some (.int .i64 a.x.lo) := fun n => (LF.out n).2.2.2.2.2.2.2.2.2.2.2.2.2.2.2.2.2.2.1.2.1
  have fF19 : ∀ n : Wd F, n.w.cell? ⟨w.heap.size, 1, none⟩ = some (.int .i64 a.x.hi) := fun n => (LF.out n).2.2.2.2.2.2.2.2.2.2.2.2.2.2.2.2.2.2.2.1.2.1
  have fF20 : ∀ n : Wd F, n.w.cell? ⟨w.heap.size, 2, none⟩ = some (.int .i64 a.y.lo) := fun n => (LF.out n).2.2.2.2.2.2.2.2.2.2.2.2.2.2.2.2.2.2.2.2.1.2.1
  have fF21 : ∀ n : Wd F, n.w.cell? ⟨w.heap.size, 3, none⟩ = some (.int .i64 a.y.hi) := fun n => (LF.out n).2.2.2.2.2.2.2.2.2.2.2.2.2.2.2.2.2.2.2.2.2.1.2.1
  clear S0 hC0
  have D2 := cin HF K2
  clear K2 D1 HD LD BD
  go_wp2_with (first | (go_at_call 48; with_reducible refine (D2 _).out.mono ?_; rintro e w' ⟨rfl, n, rfl⟩))
  obtain ⟨W0, hW0⟩ : ∃ W0, (n.w).alloc (.cells #[.int .i64 kk.x.lo, .int .i64 kk.x.hi, .int .i64 kk.y.lo, .int .i64 kk.y.hi] 60) = W0 := ⟨_, rfl⟩
  have S0 : St w W0 [(n.w.heap.size, 0, .int .i64 kk.x.lo), (n.w.heap.size, 1, .int .i64 kk.x.hi), (n.w.heap.size, 2, .int .i64 kk.y.lo), (n.w.heap.size, 3, .int .i64 kk.y.hi), (kF, 0, .int .i64 kk.x.lo), (kF, 1, .int .i64 kk.x.hi), (kF, 2, .int .i64 kk.y.lo), (kF, 3, .int .i64 kk.y.hi), (kE, 0, .int .i64 mm.x.lo), (kE, 1, .int .i64 mm.x.hi), (kE, 2, .int .i64 mm.y.lo), (kE, 3, .int .i64 mm.y.hi), (kD, 0, .int .i64 mm.x.lo), (kD, 1, .int .i64 mm.x.hi), (kD, 2, .int .i64 mm.y.lo), (kD, 3, .int .i64 mm.y.hi), (w.heap.size + 1 + 1, 0, .int .i64 p.x), (w.heap.size + 1 + 1, 1, .int .i64 p.y), (w.heap.size + 1, 0, .int .i64 b.x.lo), (w.heap.size + 1, 1, .int .i64 b.x.hi), (w.heap.size + 1, 2, .int .i64 b.y.lo), (w.heap.size + 1, 3, .int .i64 b.y.hi), (w.heap.size, 0, .int .i64 a.x.lo), (w.heap.size, 1, .int .i64 a.x.hi), (w.heap.size, 2, .int .i64 a.y.lo), (w.heap.size, 3, .int .i64 a.y.hi)] := by rw [← hW0]; exact ((⟨BF.out n, LF.out n⟩ : St w n.w _)).box #[.int .i64 kk.x.lo, .int .i64 kk.x.hi, .int .i64 kk.y.lo, .int .i64 kk.y.hi] 60 (n.w.heap.size) (by simp)
  rw [hW0]
  clear hW0
  obtain ⟨kG, hkk⟩ : ∃ k, n.w.heap.size = k := ⟨_, rfl⟩
  have gkG : w.heap.size ≤ kG := by rw [← hkk]; exact (BF.out n).size
  rw [hkk] at S0 ⊢
  clear hkk
  obtain ⟨G, hC0, HG, LG, BG, hne⟩ := cls S0
  haveI := hne
  obtain ⟨g0, rfl⟩ : ∃ n : Wd G, W0 = n.w := ⟨⟨_, hC0⟩, rfl⟩
  have fG0 : ∀ n : Wd G, n.w.cell? ⟨kG, 0, none⟩ = some (.int .i64 kk.x.lo) := fun n => (LG.out n).1.2.1
  have fG1 : ∀ n : Wd G, n.w.cell? ⟨kG, 1, none⟩ = some (.int .i64 kk.x.hi) := fun n => (LG.out n).2.1.2.1
  have fG2 : ∀ n : Wd G, n.w.cell? ⟨kG, 2, none⟩ = some (.int .i64 kk.y.lo) := fun n => (LG.out n).2.2.1.2.1
  have fG3 : ∀ n : Wd G, n.w.cell? ⟨kG, 3, none⟩ = some (.int .i64 kk.y.hi) := fun n => (LG.out n).2.2.2.1.2.1
  have fG4 : ∀ n : Wd G, n.w.cell? ⟨kF, 0, none⟩ = some (.int .i64 kk.x.lo) := fun n => (LG.out n).2.2.2.2.1.2.1
  have fG5 : ∀ n : Wd G, n.w.cell? ⟨kF, 1, none⟩ = some (.int .i64 kk.x.hi) := fun n => (LG.out n).2.2.2.2.2.1.2.1
  have fG6 : ∀ n : Wd G, n.w.cell? ⟨kF, 2, none⟩ = some (.int .i64 kk.y.lo) := fun n => (LG.out n).2.2.2.2.2.2.1.2.1
  have fG7 : ∀ n : Wd G, n.w.cell? ⟨kF, 3, none⟩ = some (.int .i64 kk.y.hi) := fun n => (LG.out n).2.2.2.2.2.2.2.1.2.1
  have fG8 : ∀ n : Wd G, n.w.cell? ⟨kE, 0, none⟩ = some (.int .i64 mm.x.lo) := fun n => (LG.out n).2.2.2.2.2.2.2.2.1.2.1
  have fG9 : ∀ n : Wd G, n.w.cell? ⟨kE, 1, none⟩ = some (.int .i64 mm.x.hi) := fun n => (LG.out n).2.2.2.2.2.2.2.2.2.1.2.1
  have fG10 : ∀ n : Wd G, n.w.cell? ⟨kE, 2, none⟩ = some (.int .i64 mm.y.lo) := fun n => (LG.out n).2.2.2.2.2.2.2.2.2.2.1.2.1
  have fG11 : ∀ n : Wd G, n.w.cell? ⟨kE, 3, none⟩ = some (.int .i64 mm.y.hi) := fun n => (LG.out n).2.2.2.2.2.2.2.2.2.2.2.1.2.1
  have fG12 : ∀ n : Wd G, n.w.cell? ⟨kD, 0, none⟩ = some (.int .i64 mm.x.lo) := fun n => (LG.out n).2.2.2.2.2.2.2.2.2.2.2.2.1.2.1
  have fG13 : ∀ n : Wd G, n.w.cell? ⟨kD, 1, none⟩ = some (.int .i64 mm.x.hi) := fun n => (LG.out n).2.2.2.2.2.2.2.2.2.2.2.2.2.1.2.1
  have fG14 : ∀ n : Wd G, n.w.cell? ⟨kD, 2, none⟩ = some (.int .i64 mm.y.lo) := fun n => (LG.out n).2.2.2.2.2.2.2.2.2.2.2.2.2.2.1.2.1
  have fG15 : ∀ n : Wd G, n.w.cell? ⟨kD, 3, none⟩ = some (.int .i64 mm.y.hi) := fun n => (LG.out n).2.2.2.2.2.2.2.2.2.2.2.2.2.2.2.1.2.1
  have fG16 : ∀ n : Wd G, n.w.cell? ⟨w.heap.size + 1 + 1, 0, none⟩ = some (.int .i64 p.x) := fun n => (LG.out n).2.2.2.2.2.2.2.2.2.2.2.2.2.2.2.2.1.2.1
  have fG17 : ∀ n : Wd G, n.w.cell? ⟨w.heap.size + 1 + 1, 1, none⟩ = some (.int .i64 p.y) := fun n => (LG.out n).2.2.2.2.2.2.2.2.2.2.2.2.2.2.2.2.2.1.2.1
  have fG18 : ∀ n : Wd G, n.w.cell? ⟨w.heap.size + 1, 0, none⟩ = some (.int .i64 b.x.lo) := fun n => (LG.out n).2.2.2.2.2.2.2.2.2.2.2.2.2.2.2.2.2.2.1.2.1
  have fG19 : ∀ n : Wd G, n.w.cell? ⟨w.heap.size + 1, 1, none⟩ = some (.int .i64 b.x.hi) := fun n => (LG.out n).2.2.2.2.2.2.2.2.2.2.2.2.2.2.2.2.2.2.2.1.2.1
  have fG20 : ∀ n : Wd G, n.w.cell? ⟨w.heap.size + 1, 2, none⟩ = some (.int .i64 b.y.lo) := fun n => (LG.out n).2.2.2.2.2.2.2.2.2.2.2.2.2.2.2.2.2.2.2.2.1.2.1
  have fG21 : ∀ n : Wd G, n.w.cell? ⟨w.heap.size + 1, 3, none⟩ = some (.int .i64 b.y.hi) := fun n => (LG.out n).2.2.2.2.2.2.2.2.2.2.2.2.2.2.2.2.2.2.2.2.2.1.2.1
  have fG22 : ∀ n : Wd G, n.w.cell? ⟨w.heap.size, 0, none⟩ = some (.int .i64 a.x.lo) := fun n => (LG.out n).2.2.2.2.2.2.2.2.2.2.2.2.2.2.2.2.2.2.2.2.2.2.1.2.1
  have fG23 : ∀ n : Wd G, n.w.cell? ⟨w.heap.size, 1, none⟩ = some (.int .i64 a.x.hi) := fun n => (LG.out n).2.2.2.2.2.2.2.2.2.2.2.2.2.2.2.2.2.2.2.2.2.2.2.1.2.1
  have fG24 : ∀ n : Wd G, n.w.cell? ⟨w.heap.size, 2, none⟩ = some (.int .i64 a.y.lo) := fun n => (LG.out n).2.2.2.2.2.2.2.2.2.2.2.2.2.2.2.2.2.2.2.2.2.2.2.2.1.2.1
  have fG25 : ∀ n : Wd G, n.w.cell? ⟨w.heap.size, 3, none⟩ = some (.int .i64 a.y.hi) := fun n => (LG.out n).2.2.2.2.2.2.2.2.2.2.2.2.2.2.2.2.2.2.2.2.2.2.2.2.2.1.2.1
  clear S0 hC0
  have D1 := cin HG G1
  clear G1 D2 HE LE BE
  go_wp2_with (first | (go_at_call 49; with_reducible refine (D1 _).out.mono ?_; rintro e w' ⟨rfl, n, rfl⟩))
  obtain ⟨W0, hW0⟩ : ∃ W0, (n.w).alloc (.cells #[.int .i64 gg.x.lo, .int .i64 gg.x.hi, .int .i64 gg.y.lo, .int .i64 gg.y.hi] 60) = W0 := ⟨_, rfl⟩
  have S0 : St w W0 [(n.w.heap.size, 0, .int .i64 gg.x.lo), (n.w.heap.size, 1, .int .i64 gg.x.hi), (n.w.heap.size, 2, .int .i64 gg.y.lo), (n.w.heap.size, 3, .int .i64 gg.y.hi), (kG, 0, .int .i64 kk.x.lo), (kG, 1, .int .i64 kk.x.hi), (kG, 2, .int .i64 kk.y.lo), (kG, 3, .int .i64 kk.y.hi), (kF, 0, .int .i64 kk.x.lo), (kF, 1, .int .i64 kk.x.hi), (kF, 2, .int .i64 kk.y.lo), (kF, 3, .int .i64 kk.y.hi), (kE, 0, .int .i64 mm.x.lo), (kE, 1, .int .i64 mm.x.hi), (kE, 2, .int .i64 mm.y.lo), (kE, 3, .int .i64 mm.y.hi), (kD, 0, .int .i64 mm.x.lo), (kD, 1, .int .i64 mm.x.hi), (kD, 2, .int .i64 mm.y.lo), (kD, 3, .int .i64 mm.y.hi), (w.heap.size + 1 + 1, 0, .int .i64 p.x), (w.heap.size + 1 + 1, 1, .int .i64 p.y), (w.heap.size + 1, 0, .int .i64 b.x.lo), (w.heap.size + 1, 1, .int .i64 b.x.hi), (w.heap.size + 1, 2, .int .i64 b.y.lo), (w.heap.size + 1, 3, .int .i64 b.y.hi), (w.heap.size, 0, .int .i64 a.x.lo), (w.heap.size, 1, .int .i64 a.x.hi), (w.heap.size, 2, .int .i64 a.y.lo), (w.heap.size, 3, .int .i64 a.y.hi)] := by rw [← hW0]; exact ((⟨BG.out n, LG.out n⟩ : St w n.w _)).box #[.int .i64 gg.x.lo, .int .i64 gg.x.hi, .int .i64 gg.y.lo, .int .i64 gg.y.hi] 60 (n.w.heap.size) (by simp)
  rw [hW0]
  clear hW0
  obtain ⟨kI, hkk⟩ : ∃ k, n.w.heap.size = k := ⟨_, rfl⟩
  have gkI : w.heap.size ≤ kI := by rw [← hkk]; exact (BG.out n).size
  rw [hkk] at S0 ⊢
  clear hkk
  obtain ⟨I, hC0, HI, LI, BI, hne⟩ := cls S0
  haveI := hne
  obtain ⟨i0, rfl⟩ : ∃ n : Wd I, W0 = n.w := ⟨⟨_, hC0⟩, rfl⟩
  have fI0 : ∀ n : Wd I, n.w.cell? ⟨kI, 0, none⟩ = some (.int .i64 gg.x.lo) := fun n => (LI.out n).1.2.1
  have fI1 : ∀ n : Wd I, n.w.cell? ⟨kI, 1, none⟩ = some (.int .i64 gg.x.hi) := fun n => (LI.out n).2.1.2.1
  have fI2 : ∀ n : Wd I, n.w.cell? ⟨kI, 2, none⟩ = some (.int .i64 gg.y.lo) := fun n => (LI.out n).2.2.1.2.1
  have fI3 : ∀ n : Wd I, n.w.cell? ⟨kI, 3, none⟩ = some (.int .i64 gg.y.hi) := fun n => (LI.out n).2.2.2.1.2.1
  have fI4 : ∀ n : Wd I, n.w.cell? ⟨kG, 0, none⟩ = some (.int .i64 kk.x.lo) := fun n => (LI.out n).2.2.2.2.1.2.1
  have fI5 : ∀ n : Wd I, n.w.cell? ⟨kG, 1, none⟩ = some (.int .i64 kk.x.hi) := fun n => (LI.out n).2.2.2.2.2.1.2.1
  have fI6 : ∀ n : Wd I, n.w.cell? ⟨kG, 2, none⟩ = some (.int .i64 kk.y.lo) := fun n => (LI.out n).2.2.2.2.2.2.1.2.1
  have fI7 : ∀ n : Wd I, n.w.cell? ⟨kG, 3, none⟩ = some (.int .i64 kk.y.hi) := fun n => (LI.out n).2.2.2.2.2.2.2.1.2.1
  have fI8 : ∀ n : Wd I, n.w.cell? ⟨kF, 0, none⟩ = some (.int .i64 kk.x.lo) := fun n => (LI.out n).2.2.2.2.2.2.2.2.1.2.1
  have fI9 : ∀ n : Wd I, n.w.cell? ⟨kF, 1, none⟩ = some (.int .i64 kk.x.hi) := fun n => (LI.out n).2.2.2.2.2.2.2.2.2.1.2.1
  have fI10 : ∀ n : Wd I, n.w.cell? ⟨kF, 2, none⟩ = some (.int .i64 kk.y.lo) := fun n => (LI.out n).2.2.2.2.2.2.2.2.2.2.1.2.1
  have fI11 : ∀ n : Wd I, n.w.cell? ⟨kF, 3, none⟩ = some (.int .i64 kk.y.hi) := fun n => (LI.out n).2.2.2.2.2.2.2.2.2.2.2.1.2.1
  have fI12 : ∀ n : Wd I, n.w.cell? ⟨kE, 0, none⟩ = some (.int .i64 mm.x.lo) := fun n => (LI.out n).2.2.2.2.2.2.2.2.2.2.2.2.1.2.1
  have fI13 : ∀ n : Wd I, n.w.cell? ⟨kE, 1, none⟩ = some (.int .i64 mm.x.hi) := fun n => (LI.out n).2.2.2.2.2.2.2.2.2.2.2.2.2.1.2.1
  have fI14 : ∀ n : Wd I, n.w.cell? ⟨kE, 2, none⟩ = some (.int .i64 mm.y.lo) := fun n => (LI.out n).2.2.2.2.2.2.2.2.2.2.2.2.2.2.1.2.1
  have fI15 : ∀ n : Wd I, n.w.cell? ⟨kE, 3, none⟩ = some (.int .i64 mm.y.hi) := fun n => (LI.out n).2.2.2.2.2.2.2.2.2.2.2.2.2.2.2.1.2.1
  have fI16 : ∀ n : Wd I, n.w.cell? ⟨kD, 0, none⟩ = some (.int .i64 mm.x.lo) := fun n => (LI.out n).2.2.2.2.2.2.2.2.2.2.2.2.2.2.2.2.1.2.1
  have fI17 : ∀ n : Wd I, n.w.cell? ⟨kD, 1, none⟩ = some (.int .i64 mm.x.hi) := fun n => (LI.out n).2.2.2.2.2.2.2.2.2.2.2.2.2.2.2.2.2.1.2.1
  have fI18 : ∀ n : Wd I, n.w.cell? ⟨kD, 2, none⟩ = some (.int .i64 mm.y.lo) := fun n => (LI.out n).2.2.2.2.2.2.2.2.2.2.2.2.2.2.2.2.2.2.1.2.1
  have fI19 : ∀ n : Wd I, n.w.cell? ⟨kD, 3, none⟩ = some (.int .i64 mm.y.hi) := fun n => (LI.out n).2.2.2.2.2.2.2.2.2.2.2.2.2.2.2.2.2.2.2.1.2.1
  have fI20 : ∀ n : Wd I, n.w.cell? ⟨w.heap.size + 1 + 1, 0, none⟩ = some (.int .i64 p.x) := fun n => (LI.out n).2.2.2.2.2.2.2.2.2.2.2.2.2.2.2.2.2.2.2.2.1.2.1
  have fI21 : ∀ n : Wd I, n.w.cell? ⟨w.heap.size + 1 + 1, 1, none⟩ = some (.int .i64 p.y) := fun n => (LI.out n).2.2.2.2.2.2.2.2.2.2.2.2.2.2.2.2.2.2.2.2.2.1.2.1
  have fI22 : ∀ n : Wd I, n.w.cell? ⟨w.heap.size + 1, 0, none⟩ = some (.int .i64 b.x.lo) := fun n => (LI.out n).2.2.2.2.2.2.2.2.2.2.2.2.2.2.2.2.2.2.2.2.2.2.1.2.1
  have fI23 : ∀ n : Wd I, n.w.cell? ⟨w.heap.size + 1, 1, none⟩ = some (.int .i64 b.x.hi) := fun n => (LI.out n).2.2.2.2.2.2.2.2.2.2.2.2.2.2.2.2.2.2.2.2.2.2.2.1.2.1
  have fI24 : ∀ n : Wd I, n.w.cell? ⟨w.heap.size + 1, 2, none⟩ = some (.int .i64 b.y.lo) := fun n => (LI.out n).2.2.2.2.2.2.2.2.2.2.2.2.2.2.2.2.2.2.2.2.2.2.2.2.1.2.1
  have fI25 : ∀ n : Wd I, n.w.cell? ⟨w.heap.size + 1, 3, none⟩ = some (.int .i64 b.y.hi) := fun n => (LI.out n).2.2.2.2.2.2.2.2.2.2.2.2.2.2.2.2.2.2.2.2.2.2.2.2.2.1.2.1
  have fI26 : ∀ n : Wd I, n.w.cell? ⟨w.heap.size, 0, none⟩ = some (.int .i64 a.x.lo) := fun n => (LI.out n).2.2.2.2.2.2.2.2.2.2.2.2.2.2.2.2.2.2.2.2.2.2.2.2.2.2.1.2.1
  have fI27 : ∀ n : Wd I, n.w.cell? ⟨w.heap.size, 1, none⟩ = some (.int .i64 a.x.hi) := fun n => (LI.out n).2.2.2.2.2.2.2.2.2.2.2.2.2.2.2.2.2.2.2.2.2.2.2.2.2.2.2.1.2.1
  have fI28 : ∀ n : Wd I, n.w.cell? ⟨w.heap.size, 2, none⟩ = some (.int .i64 a.y.lo) := fun n => (LI.out n).2.2.2.2.2.2.2.2.2.2.2.2.2.2.2.2.2.2.2.2.2.2.2.2.2.2.2.2.1.2.1
  have fI29 : ∀ n : Wd I, n.w.cell? ⟨w.heap.size, 3, none⟩ = some (.int .i64 a.y.hi) := fun n => (LI.out n).2.2.2.2.2.2.2.2.2.2.2.2.2.2.2.2.2.2.2.2.2.2.2.2.2.2.2.2.2.1.2.1
  clear S0 hC0
  have D2 := cin HI G2
  clear G2 D1 HF LF BF
  go_wp2_with (first | (go_at_call 50; with_reducible refine (D2 _).out.mono ?_; rintro e w' ⟨rfl, n, rfl⟩))
  obtain ⟨W0, hW0⟩ : ∃ W0, (n.w).alloc (.cells #[.int .i64 gg.x.lo, .int .i64 gg.x.hi, .int .i64 gg.y.lo, .int .i64 gg.y.hi] 60) = W0 := ⟨_, rfl⟩
  have S0 : St w W0 [(n.w.heap.size, 0, .int .i64 gg.x.lo), (n.w.heap.size, 1, .int .i64 gg.x.hi), (n.w.heap.size, 2, .int .i64 gg.y.lo), (n.w.heap.size, 3, .int .i64 gg.y.hi), (kI, 0, .int .i64 gg.x.lo), (kI, 1, .int .i64 gg.x.hi), (kI, 2, .int .i64 gg.y.lo), (kI, 3, .int .i64 gg.y.hi), (kG, 0, .int .i64 kk.x.lo), (kG, 1, .int .i64 kk.x.hi), (kG, 2, .int .i64 kk.y.lo), (kG, 3, .int .i64 kk.y.hi), (kF, 0, .int .i64 kk.x.lo), (kF, 1, .int .i64 kk.x.hi), (kF, 2, .int .i64 kk.y.lo), (kF, 3, .int .i64 kk.y.hi), (kE, 0, .int .i64 mm.x.lo), (kE, 1, .int .i64 mm.x.hi), (kE, 2, .int .i64 mm.y.lo), (kE, 3, .int .i64 mm.y.hi), (kD, 0, .int .i64 mm.x.lo), (kD, 1, .int .i64 mm.x.hi), (kD, 2, .int .i64 mm.y.lo), (kD, 3, .int .i64 mm.y.hi), (w.heap.size + 1 + 1, 0, .int .i64 p.x), (w.heap.size + 1 + 1, 1, .int .i64 p.y), (w.heap.size + 1, 0, .int .i64 b.x.lo), (w.heap.size + 1, 1, .int .i64 b.x.hi), (w.heap.size + 1, 2, .int .i64 b.y.lo), (w.heap.size + 1, 3, .int .i64 b.y.hi), (w.heap.size, 0, .int .i64 a.x.lo), (w.heap.size, 1, .int .i64 a.x.hi), (w.heap.size, 2, .int .i64 a.y.lo), (w.heap.size, 3, .int .i64 a.y.hi)] := by rw [← hW0]; exact ((⟨BI.out n, LI.out n⟩ : St w n.w _)).box #[.int .i64 gg.x.lo, .int .i64 gg.x.hi, .int .i64 gg.y.lo, .int .i64 gg.y.hi] 60 (n.w.heap.size) (by simp)
  rw [hW0]
  clear hW0
  obtain ⟨kJ, hkk⟩ : ∃ k, n.w.heap.size = k := ⟨_, rfl⟩
  have gkJ : w.heap.size ≤ kJ := by rw [← hkk]; exact (BI.out n).size
  rw [hkk] at S0 ⊢
  clear hkk
  obtain ⟨J, hC0, HJ, LJ, BJ, hne⟩ := cls S0
  haveI := hne
  obtain ⟨j0, rfl⟩ : ∃ n : Wd J, W0 = n.w := ⟨⟨_, hC0⟩, rfl⟩
  have fJ0 : ∀ n : Wd J, n.w.cell? ⟨kJ, 0, none⟩ = some (.int .i64 gg.x.lo) := fun n => (LJ.out n).1.2.1
  have fJ1 : ∀ n : Wd J, n.w.cell? ⟨kJ, 1, none⟩ = some (.int .i64 gg.x.hi) := fun n => (LJ.out n).2.1.2.1
  have fJ2 : ∀ n : Wd J, n.w.cell? ⟨kJ, 2, none⟩ = some (.int .i64 gg.y.lo) := fun n => (LJ.out n).2.2.1.2.1
  have fJ3 : ∀ n : Wd J, n.w.cell? ⟨kJ, 3, none⟩ = some (.int .i64 gg.y.hi) := fun n => (LJ.out n).2.2.2.1.2.1
  have fJ4 : ∀ n : Wd J, n.w.cell? ⟨kI, 0, none⟩ = some (.int .i64 gg.x.lo) := fun n => (LJ.out n).2.2.2.2.1.2.1
  have fJ5 : ∀ n : Wd J, n.w.cell? ⟨kI, 1, none⟩ = some (.int .i64 gg.x.hi) := fun n => (LJ.out n).2.2.2.2.2.1.2.1
  have fJ6 : ∀ n : Wd J, n.w.cell? ⟨kI, 2, none⟩ = some (.int .i64 gg.y.lo) := fun n => (LJ.out n).2.2.2.2.2.2.1.2.1
  have fJ7 : ∀ n : Wd J, n.w.cell? ⟨kI, 3, none⟩ = some (.int .i64 gg.y.hi) := fun n => (LJ.out n).2.2.2.2.2.2.2.1.2.1
  have fJ8 : ∀ n : Wd J, n.w.cell? ⟨kG, 0, none⟩ = some (.int .i64 kk.x.lo) := fun n => (LJ.out n).2.2.2.2.2.2.2.2.1.2.1
  have fJ9 : ∀ n : Wd J, n.w.cell? ⟨kG, 1, none⟩ = some (.int .i64 kk.x.hi) := fun n => (LJ.out n).2.2.2.2.2.2.2.2.2.1.2.1
  have fJ10 : ∀ n : Wd J, n.w.cell? ⟨kG, 2, none⟩ = some (.int .i64 kk.y.lo) := fun n => (LJ.out n).2.2.2.2.2.2.2.2.2.2.1.2.1
  have fJ11 : ∀ n : Wd J, n.w.cell? ⟨kG, 3, none⟩ = some (.int .i64 kk.y.hi) := fun n => (LJ.out n).2.2.2.2.2.2.2.2.2.2.2.1.2.1
  have fJ12 : ∀ n : Wd J, n.w.cell? ⟨kF, 0, none⟩ = some (.int .i64 kk.x.lo) := fun n => (LJ.out n).2.2.2.2.2.2.2.2.2.2.2.2.1.2.1
  have fJ13 : ∀ n : Wd J, n.w.cell? ⟨kF, 1, none⟩ = some (.int .i64 kk.x.hi) := fun n => (LJ.out n).2.2.2.2.2.2.2.2.2.2.2.2.2.1.2.1
  have fJ14 : ∀ n : Wd J, n.w.cell? ⟨kF, 2, none⟩ = some (.int .i64 kk.y.lo) := fun n => (LJ.out n).2.2.2.2.2.2.2.2.2.2.2.2.2.2.1.2.1
  have fJ15 : ∀ n : Wd J, n.w.cell? ⟨kF, 3, none⟩ = some (.int .i64 kk.y.hi) := fun n => (LJ.out n).2.2.2.2.2.2.2.2.2.2.2.2.2.2.2.1.2.1
  have fJ16 : ∀ n : Wd J, n.w.cell? ⟨kE, 0, none⟩ = some (.int .i64 mm.x.lo) := fun n => (LJ.out n).2.2.2.2.2.2.2.2.2.2.2.2.2.2.2.2.1.2.1
  have fJ17 : ∀ n : Wd J, n.w.cell? ⟨kE, 1, none⟩ = some (.int .i64 mm.x.hi) := fun n => (LJ.out n).2.2.2.2.2.2.2.2.2.2.2.2.2.2.2.2.2.1.2.1
  have fJ18 : ∀ n : Wd J, n.w.cell? ⟨kE, 2, none⟩ = some (.int .i64 mm.y.lo) := fun n => (LJ.out n).2.2.2.2.2.2.2.2.2.2.2.2.2.2.2.2.2.2.1.2.1
  have fJ19 : ∀ n : Wd J, n.w.cell? ⟨kE, 3, none⟩ = some (.int .i64 mm.y.hi) := fun n => (LJ.out n).2.2.2.2.2.2.2.2.2.2.2.2.2.2.2.2.2.2.2.1.2.1
  have fJ20 : ∀ n : Wd J, n.w.cell? ⟨kD, 0, none⟩ = some (.int .i64 mm.x.lo) := fun n => (LJ.out n).2.2.2.2.2.2.2.2.2.2.2.2.2.2.2.2.2.2.2.2.1.2.1
  have fJ21 : ∀ n : Wd J, n.w.cell? ⟨kD, 1, none⟩ = some (.int .i64 mm.x.hi) := fun n => (LJ.out n).2.2.2.2.2.2.2.2.2.2.2.2.2.2.2.2.2.2.2.2.2.1.2.1
  have fJ22 : ∀ n : Wd J, n.w.cell? ⟨kD, 2, none⟩ = some (.int .i64 mm.y.lo) := fun n => (LJ.out n).2.2.2.2.2.2.2.2.2.2.2.2.2.2.2.2.2.2.2.2.2.2.1.2.1
  have fJ23 : ∀ n : Wd J, n.w.cell? ⟨kD, 3, none⟩ = some (.int .i64 mm.y.hi) := fun n => (LJ.out n).2.2.2.2.2.2.2.2.2.2.2.2.2.2.2.2.2.2.2.2.2.2.2.1.2.1
  have fJ24 : ∀ n : Wd J, n.w.cell? ⟨w.heap.size + 1 + 1, 0, none⟩ = some (.int .i64 p.x) := fun n => (LJ.out n).2.2.2.2.2.2.2.2.2.2.2.2.2.2.2.2.2.2.2.2.2.2.2.2.1.2.1
  have fJ25 : ∀ n : Wd J, n.w.cell? ⟨w.heap.size + 1 + 1, 1, none⟩ = some (.int .i64 p.y) := fun n => (LJ.out n).2.2.2.2.2.2.2.2.2.2.2.2.2.2.2.2.2.2.2.2.2.2.2.2.2.1.2.1
  have fJ26 : ∀ n : Wd J, n.w.cell? ⟨w.heap.size + 1, 0, none⟩ = some (.int .i64 b.x.lo) := fun n => (LJ.out n).2.2.2.2.2.2.2.2.2.2.2.2.2.2.2.2.2.2.2.2.2.2.2.2.2.2.1.2.1
  have fJ27 : ∀ n : Wd J, n.w.cell? ⟨w.heap.size + 1, 1, none⟩ = some (.int .i64 b.x.hi) := fun n => (LJ.out n).2.2.2.2.2.2.2.2.2.2.2.2.2.2.2.2.2.2.2.2.2.2.2.2.2.2.2.1.2.1
  have fJ28 : ∀ n : Wd J, n.w.cell? ⟨w.heap.size + 1, 2, none⟩ = some (.int .i64 b.y.lo) := fun n => (LJ.out n).2.2.2.2.2.2.2.2.2.2.2.2.2.2.2.2.2.2.2.2.2.2.2.2.2.2.2.2.1.2.1
  have fJ29 : ∀ n : Wd J, n.w.cell? ⟨w.heap.size + 1, 3, none⟩ = some (.int .i64 b.y.hi) := fun n => (LJ.out n).2.2.2.2.2.2.2.2.2.2.2.2.2.2.2.2.2.2.2.2.2.2.2.2.2.2.2.2.2.1.2.1
  have fJ30 : ∀ n : Wd J, n.w.cell? ⟨w.heap.size, 0, none⟩ = some (.int .i64 a.x.lo) := fun n => (LJ.out n).2.2.2.2.2.2.2.2.2.2.2.2.2.2.2.2.2.2.2.2.2.2.2.2.2.2.2.2.2.2.1.2.1
  have fJ31 : ∀ n : Wd J, n.w.cell? ⟨w.heap.size, 1, none⟩ = some (.int .i64 a.x.hi) := fun n => (LJ.out n).2.2.2.2.2.2.2.2.2.2.2.2.2.2.2.2.2.2.2.2.2.2.2.2.2.2.2.2.2.2.2.1.2.1
  have fJ32 : ∀ n : Wd J, n.w.cell? ⟨w.heap.size, 2, none⟩ = some (.int .i64 a.y.lo) := fun n => (LJ.out n).2.2.2.2.2.2.2.2.2.2.2.2.2.2.2.2.2.2.2.2.2.2.2.2.2.2.2.2.2.2.2.2.1.2.1
  have fJ33 : ∀ n : Wd J, n.w.cell? ⟨w.heap.size, 3, none⟩ = some (.int .i64 a.y.hi) := fun n => (LJ.out n).2.2.2.2.2.2.2.2.2.2.2.2.2.2.2.2.2.2.2.2.2.2.2.2.2.2.2.2.2.2.2.2.2.1.2.1
  clear S0 hC0
  have D1 := cin HJ T1
  clear T1 D2 HG LG BG
  go_wp2_with (first | (go_at_call 51; with_reducible refine (D1 _).out.mono ?_; rintro e w' ⟨rfl, n, rfl⟩))
  obtain ⟨W0, hW0⟩ : ∃ W0, ((n.w).alloc (.cells #[.int .i64 pp.x.lo, .int .i64 pp.x.hi, .int .i64 pp.y.lo, .int .i64 pp.y.hi] 60)).alloc (.cells #[.int .i64 qq.x.lo, .int .i64 qq.x.hi, .int .i64 qq.y.lo, .int .i64 qq.y.hi] 60) = W0 := ⟨_, rfl⟩
  have S0 : St w W0 [(n.w.heap.size + 1, 0, .int .i64 qq.x.lo), (n.w.heap.size + 1, 1, .int .i64 qq.x.hi), (n.w.heap.size + 1, 2, .int .i64 qq.y.lo), (n.w.heap.size + 1, 3, .int .i64 qq.y.hi), (n.w.heap.size, 0, .int .i64 pp.x.lo), (n.w.heap.size, 1, .int .i64 pp.x.hi), (n.w.heap.size, 2, .int .i64 pp.y.lo), (n.w.heap.size, 3, .int .i64 pp.y.hi), (kJ, 0, .int .i64 gg.x.lo), (kJ, 1, .int .i64 gg.x.hi), (kJ, 2, .int .i64 gg.y.lo), (kJ, 3, .int .i64 gg.y.hi), (kI, 0, .int .i64 gg.x.lo), (kI, 1, .int .i64 gg.x.hi), (kI, 2, .int .i64 gg.y.lo), (kI, 3, .int .i64 gg.y.hi), (kG, 0, .int .i64 kk.x.lo), (kG, 1, .int .i64 kk.x.hi), (kG, 2, .int .i64 kk.y.lo), (kG, 3, .int .i64 kk.y.hi), (kF, 0, .int .i64 kk.x.lo), (kF, 1, .int .i64 kk.x.hi), (kF, 2, .int .i64 kk.y.lo), (kF, 3, .int .i64 kk.y.hi), (kE, 0, .int .i64 mm.x.lo), (kE, 1, .int .i64 mm.x.hi), (kE, 2, .int .i64 mm.y.lo), (kE, 3, .int .i64 mm.y.hi), (kD, 0, .int .i64 mm.x.lo), (kD, 1, .int .i64 mm.x.hi), (kD, 2, .int .i64 mm.y.lo), (kD, 3, .int .i64 mm.y.hi), (w.heap.size + 1 + 1, 0, .int .i64 p.x), (w.heap.size + 1 + 1, 1, .int .i64 p.y), (w.heap.size + 1, 0, .int .i64 b.x.lo), (w.heap.size + 1, 1, .int .i64 b.x.hi), (w.heap.size + 1, 2, .int .i64 b.y.lo), (w.heap.size + 1, 3, .int .i64 b.y.hi), (w.heap.size, 0, .int .i64 a.x.lo), (w.heap.size, 1, .int .i64 a.x.hi), (w.heap.size, 2, .int .i64 a.y.lo), (w.heap.size, 3, .int .i64 a.y.hi)] := by rw [← hW0]; exact (((⟨BJ.out n, LJ.out n⟩ : St w n.w _)).box #[.int .i64 pp.x.lo, .int .i64 pp.x.hi, .int .i64 pp.y.lo, .int .i64 pp.y.hi] 60 (n.w.heap.size) (by simp)).box #[.int .i64 qq.x.lo, .int .i64 qq.x.hi, .int .i64 qq.y.lo, .int .i64 qq.y.hi] 60 (n.w.heap.size + 1) (by simp)
  rw [hW0]
  clear hW0
  obtain ⟨kK, hkk⟩ : ∃ k, n.w.heap.size = k := ⟨_, rfl⟩
  have gkK : w.heap.size ≤ kK := by rw [← hkk]; exact (BJ.out n).size
  rw [hkk] at S0 ⊢
  clear hkk
  obtain ⟨K, hC0, HK, LK, BK, hne⟩ := cls S0
  haveI := hne
  obtain ⟨k0, rfl⟩ : ∃ n : Wd K, W0 = n.w := ⟨⟨_, hC0⟩, rfl⟩
  have fK0 : ∀ n : Wd K, n.w.cell? ⟨kK + 1, 0, none⟩ = some (.int .i64 qq.x.lo) := fun n => (LK.out n).1.2.1
  have fK1 : ∀ n : Wd K, n.w.cell? ⟨kK + 1, 1, none⟩ = some (.int .i64 qq.x.hi) := fun n => (LK.out n).2.1.2.1
  have fK2 : ∀ n : Wd K, n.w.cell? ⟨kK + 1, 2, none⟩ = some (.int .i64 qq.y.lo) := fun n => (LK.out n).2.2.1.2.1
  have fK3 : ∀ n : Wd K, n.w.cell? ⟨kK + 1, 3, none⟩ = some (.int .i64 qq.y.hi) := fun n => (LK.out n).2.2.2.1.2.1
  have fK4 : ∀ n : Wd K, n.w.cell? ⟨kK, 0, none⟩ = some (.int .i64 pp.x.lo) := fun n => (LK.out n).2.2.2.2.1.2.1
  have fK5 : ∀ n : Wd K, n.w.cell? ⟨kK, 1, none⟩ = some (.int .i64 pp.x.hi) := fun n => (LK.out n).2.2.2.2.2.1.2.1
  have fK6 : ∀ n : Wd K, n.w.cell? ⟨kK, 2, none⟩ = some (.int .i64 pp.y.lo) := fun n => (LK.out n).2.2.2.2.2.2.1.2.1
  have fK7 : ∀ n : Wd K, n.w.cell? ⟨kK, 3, none⟩ = some (.int .i64 pp.y.hi) := fun n => (LK.out n).2.2.2.2.2.2.2.1.2.1
  have fK8 : ∀ n : Wd K, n.w.cell? ⟨kJ, 0, none⟩ = some (.int .i64 gg.x.lo) := fun n => (LK.out n).2.2.2.2.2.2.2.2.1.2.1
  have fK9 : ∀ n : Wd K, n.w.cell? ⟨kJ, 1, none⟩ = some (.int .i64 gg.x.hi) := fun n => (LK.out n).2.2.2.2.2.2.2.2.2.1.2.1
  have fK10 : ∀ n : Wd K, n.w.cell? ⟨kJ, 2, none⟩ = some (.int .i64 gg.y.lo) := fun n => (LK.out n).2.2.2.2.2.2.2.2.2.2.1.2.1
  have fK11 : ∀ n : Wd K, n.w.cell? ⟨kJ, 3, none⟩ = some (.int .i64 gg.y.hi) := fun n => (LK.out n).2.2.2.2.2.2.2.2.2.2.2.1.2.1
  have fK12 : ∀ n : Wd K, n.w.cell? ⟨kI, 0, none⟩ = some (.int .i64 gg.x.lo) := fun n => (LK.out n).2.2.2.2.2.2.2.2.2.2.2.2.1.2.1
  have fK13 : ∀ n : Wd K, n.w.cell? ⟨kI, 1, none⟩ = some (.int .i64 gg.x.hi) := fun n => (LK.out n).2.2.2.2.2.2.2.2.2.2.2.2.2.1.2.1
  have fK14 : ∀ n : Wd K, n.w.cell? ⟨kI, 2, none⟩ = some (.int .i64 gg.y.lo) := fun n => (LK.out n).2.2.2.2.2.2.2.2.2.2.2.2.2.2.1.2.1
  have fK15 : ∀ n : Wd K, n.w.cell? ⟨kI, 3, none⟩ = some (.int .i64 gg.y.hi) := fun n => (LK.out n).2.2.2.2.2.2.2.2.2.2.2.2.2.2.2.1.2.1
  have fK16 : ∀ n : Wd K, n.w.cell? ⟨kG, 0, none⟩ = some (.int .i64 kk.x.lo) := fun n => (LK.out n).2.2.2.2.2.2.2.2.2.2.2.2.2.2.2.2.1.2.1
  have fK17 : ∀ n : Wd K, n.w.cell? ⟨kG, 1, none⟩ = some (.int .i64 kk.x.hi) := fun n => (LK.out n).2.2.2.2.2.2.2.2.2.2.2.2.2.2.2.2.2.1.2.1
  have fK18 : ∀ n : Wd K, n.w.cell? ⟨kG, 2, none⟩ = some (.int .i64 kk.y.lo) := fun n => (LK.out n).2.2.2.2.2.2.2.2.2.2.2.2.2.2.2.2.2.2.1.2.1
  have fK19 : ∀ n : Wd K, n.w.cell? ⟨kG, 3, none⟩ = some (.int .i64 kk.y.hi) := fun n => (LK.out n).2.2.2.2.2.2.2.2.2.2.2.2.2.2.2.2.2.2.2.1.2.1
  have fK20 : ∀ n : Wd K, n.w.cell? ⟨kF, 0, none⟩ = some (.int .i64 kk.x.lo) := fun n => (LK.out n).2.2.2.2.2.2.2.2.2.2.2.2.2.2.2.2.2.2.2.2.1.2.1
  have fK21 : ∀ n : Wd K, n.w.cell? ⟨kF, 1, none⟩ = some (.int .i64 kk.x.hi) := fun n => (LK.out n).2.2.2.2.2.2.2.2.2.2.2.2.2.2.2.2.2.2.2.2.2.1.2.1
  have fK22 : ∀ n : Wd K, n.w.cell? ⟨kF, 2, none⟩ = some (.int .i64 kk.y.lo) := fun n => (LK.out n).2.2.2.2.2.2.2.2.2.2.2.2.2.2.2.2.2.2.2.2.2.2.1.2.1
  have fK23 : ∀ n : Wd K, n.w.cell? ⟨kF, 3, none⟩ = some (.int .i64 kk.y.hi) := fun n => (LK.out n).2.2.2.2.2.2.2.2.2.2.2.2.2.2.2.2.2.2.2.2.2.2.2.1.2.1
  have fK24 : ∀ n : Wd K, n.w.cell? ⟨kE, 0, none⟩ = some (.int .i64 mm.x.lo) := fun n => (LK.out n).2.2.2.2.2.2.2.2.2.2.2.2.2.2.2.2.2.2.2.2.2.2.2.2.1.2.1
  have fK25 : ∀ n : Wd K, n.w.cell? ⟨kE, 1, none⟩ = some (.int .i64 mm.x.hi) := fun n => (LK.out n).2.2.2.2.2.2.2.2.2.2.2.2.2.2.2.2.2.2.2.2.2.2.2.2.2.1.2.1
  have fK26 : ∀ n : Wd K, n.w.cell? ⟨kE, 2, none⟩ = some (.int .i64 mm.y.lo) := fun n => (LK.out n).2.2.2.2.2.2.2.2.2.2.2.2.2.2.2.2.2.2.2.2.2.2.2.2.2.2.1.2.1
  have fK27 : ∀ n : Wd K, n.w.cell? ⟨kE, 3, none⟩ = some (.int .i64 mm.y.hi) := fun n => (LK.out n).2.2.2.2.2.2.2.2.2.2.2.2.2.2.2.2.2.2.2.2.2.2.2.2.2.2.2.1.2.1
  have fK28 : ∀ n : Wd K, n.w.cell? ⟨kD, 0, none⟩ = some (.int .i64 mm.x.lo) := fun n => (LK.out n).2.2.2.2.2.2.2.2.2.2.2.2.2.2.2.2.2.2.2.2.2.2.2.2.2.2.2.2.1.2.1
  have fK29 : ∀ n : Wd K, n.w.cell? ⟨kD, 1, none⟩ = some (.int .i64 mm.x.hi) := fun n => (LK.out n).2.2.2.2.2.2.2.2.2.2.2.2.2.2.2.2.2.2.2.2.2.2.2.2.2.2.2.2.2.1.2.1
  have fK30 : ∀ n : Wd K, n.w.cell? ⟨kD, 2, none⟩ = some (.int .i64 mm.y.lo) := fun n => (LK.out n).2.2.2.2.2.2.2.2.2.2.2.2.2.2.2.2.2.2.2.2.2.2.2.2.2.2.2.2.2.2.1.2.1
  have fK31 : ∀ n : Wd K, n.w.cell? ⟨kD, 3, none⟩ = some (.int .i64 mm.y.hi) := fun n => (LK.out n).2.2.2.2.2.2.2.2.2.2.2.2.2.2.2.2.2.2.2.2.2.2.2.2.2.2.2.2.2.2.2.1.2.1
  have fK32 : ∀ n : Wd K, n.w.cell? ⟨w.heap.size + 1 + 1, 0, none⟩ = some (.int .i64 p.x) := fun n => (LK.out n).2.2.2.2.2.2.2.2.2.2.2.2.2.2.2.2.2.2.2.2.2.2.2.2.2.2.2.2.2.2.2.2.1.2.1
  have fK33 : ∀ n : Wd K, n.w.cell? ⟨w.heap.size + 1 + 1, 1, none⟩ = some (.int .i64 p.y) := fun n => (LK.out n).2.2.2.2.2.2.2.2.2.2.2.2.2.2.2.2.2.2.2.2.2.2.2.2.2.2.2.2.2.2.2.2.2.1.2.1
  have fK34 : ∀ n : Wd K, n.w.cell? ⟨w.heap.size + 1, 0, none⟩ = some (.int .i64 b.x.lo) := fun n => (LK.out n).2.2.2.2.2.2.2.2.2.2.2.2.2.2.2.2.2.2.2.2.2.2.2.2.2.2.2.2.2.2.2.2.2.2.1.2.1
  have fK35 : ∀ n : Wd K, n.w.cell? ⟨w.heap.size + 1, 1, none⟩ = some (.int .i64 b.x.hi) := fun n => (LK.out n).2.2.2.2.2.2.2.2.2.2.2.2.2.2.2.2.2.2.2.2.2.2.2.2.2.2.2.2.2.2.2.2.2.2.2.1.2.1
  have fK36 : ∀ n : Wd K, n.w.cell? ⟨w.heap.size + 1, 2, none⟩ = some (.int .i64 b.y.lo) := fun n => (LK.out n).2.2.2.2.2.2.2.2.2.2.2.2.2.2.2.2.2.2.2.2.2.2.2.2.2.2.2.2.2.2.2.2.2.2.2.2.1.2.1
  have fK37 : ∀ n : Wd K, n.w.cell? ⟨w.heap.size + 1, 3, none⟩ = some (.int .i64 b.y.hi) := fun n => (LK.out n).2.2.2.2.2.2.2.2.2.2.2.2.2.2.2.2.2.2.2.2.2.2.2.2.2.2.2.2.2.2.2.2.2.2.2.2.2.1.2.1
  have fK38 : ∀ n : Wd K, n.w.cell? ⟨w.heap.size, 0, none⟩ = some (.int .i64 a.x.lo) := fun n => (LK.out n).2.2.2.2.2.2.2.2.2.2.2.2.2.2.2.2.2.2.2.2.2.2.2.2.2.2.2.2.2.2.2.2.2.2.2.2.2.2.1.2.1
  have fK39 : ∀ n : Wd K, n.w.cell? ⟨w.heap.size, 1, none⟩ = some (.int .i64 a.x.hi) := fun n => (LK.out n).2.2.2.2.2.2.2.2.2.2.2.2.2.2.2.2.2.2.2.2.2.2.2.2.2.2.2.2.2.2.2.2.2.2.2.2.2.2.2.1.2.1
  have fK40 : ∀ n : Wd K, n.w.cell? ⟨w.heap.size, 2, none⟩ = some (.int .i64 a.y.lo) := fun n => (LK.out n).2.2.2.2.2.2.2.2.2.2.2.2.2.2.2.2.2.2.2.2.2.2.2.2.2.2.2.2.2.2.2.2.2.2.2.2.2.2.2.2.1.2.1
  have fK41 : ∀ n : Wd K, n.w.cell? ⟨w.heap.size, 3, none⟩ = some (.int .i64 a.y.hi) := fun n => (LK.out n).2.2.2.2.2.2.2.2.2.2.2.2.2.2.2.2.2.2.2.2.2.2.2.2.2.2.2.2.2.2.2.2.2.2.2.2.2.2.2.2.2.1.2.1
  clear S0 hC0
  have D2 := cin HK T2
  clear T2 D1 HI LI BI
  go_wp2_with (first | (go_at_call 52; with_reducible refine (D2 _).out.mono ?_; rintro e w' ⟨rfl, n, rfl⟩))
  obtain ⟨W0, hW0⟩ : ∃ W0, ((n.w).alloc (.cells #[.int .i64 pp.x.lo, .int .i64 pp.x.hi, .int .i64 pp.y.lo, .int .i64 pp.y.hi] 60)).alloc (.cells #[.int .i64 qq.x.lo, .int .i64 qq.x.hi, .int .i64 qq.y.lo, .int .i64 qq.y.hi] 60) = W0 := ⟨_, rfl⟩
  have S0 : St w W0 [(n.w.heap.size + 1, 0, .int .i64 qq.x.lo), (n.w.heap.size + 1, 1, .int .i64 qq.x.hi), (n.w.heap.size + 1, 2, .int .i64 qq.y.lo), (n.w.heap.size + 1, 3, .int .i64 qq.y.hi), (n.w.heap.size, 0, .int .i64 pp.x.lo), (n.w.heap.size, 1, .int .i64 pp.x.hi), (n.w.heap.size, 2, .int .i64 pp.y.lo), (n.w.heap.size, 3, .int .i64 pp.y.hi), (kK + 1, 0, .int .i64 qq.x.lo), (kK + 1, 1, .int .i64 qq.x.hi), (kK + 1, 2, .int .i64 qq.y.lo), (kK + 1, 3, .int .i64 qq.y.hi), (kK, 0, .int .i64 pp.x.lo), (kK, 1, .int .i64 pp.x.hi), (kK, 2, .int .i64 pp.y.lo), (kK, 3, .int .i64 pp.y.hi), (kJ, 0, .int .i64 gg.x.lo), (kJ, 1, .int .i64 gg.x.hi), (kJ, 2, .int .i64 gg.y.lo), (kJ, 3, .int .i64 gg.y.hi), (kI, 0, .int .i64 gg.x.lo), (kI, 1, .int .i64 gg.x.hi), (kI, 2, .int .i64 gg.y.lo), (kI, 3, .int .i64 gg.y.hi), (kG, 0, .int .i64 kk.x.lo), (kG, 1, .int .i64 kk.x.hi), (kG, 2, .int .i64 kk.y.lo), (kG, 3, .int .i64 kk.y.hi), (kF, 0, .int .i64 kk.x.lo), (kF, 1, .int .i64 kk.x.hi), (kF, 2, .int .i64 kk.y.lo), (kF, 3, .int .i64 kk.y.hi), (kE, 0, .int .i64 mm.x.lo), (kE, 1, .int .i64 mm.x.hi), (kE, 2, .int .i64 mm.y.lo), (kE, 3, .int .i64 mm.y.hi), (kD, 0, .int .i64 mm.x.lo), (kD, 1, .int .i64 mm.x.hi), (kD, 2, .int .i64 mm.y.lo), (kD, 3, .int .i64 mm.y.hi), (w.heap.size + 1 + 1, 0, .int .i64 p.x), (w.heap.size + 1 + 1, 1, .int .i64 p.y), (w.heap.size + 1, 0, .int .i64 b.x.lo), (w.heap.size + 1, 1, .int .i64 b.x.hi), (w.heap.size + 1, 2, .int .i64 b.y.lo), (w.heap.size + 1, 3, .int .i64 b.y.hi), (w.heap.size, 0, .int .i64 a.x.lo), (w.heap.size, 1, .int .i64 a.x.hi), (w.heap.size, 2, .int .i64 a.y.lo), (w.heap.size, 3, .int .i64 a.y.hi)] := by rw [← hW0]; exact (((⟨BK.out n, LK.out n⟩ : St w n.w _)).box #[.int .i64 pp.x.lo, .int .i64 pp.x.hi, .int .i64 pp.y.lo, .int .i64 pp.y.hi] 60 (n.w.heap.size) (by simp)).box #[.int .i64 qq.x.lo, .int .i64 qq.x.hi, .int .i64 qq.y.lo, .int .i64 qq.y.hi] 60 (n.w.heap.size + 1) (by simp)
  rw [hW0]
  clear hW0
  obtain ⟨kL, hkk⟩ : ∃ k, n.w.heap.size = k := ⟨_, rfl⟩
  have gkL : w.heap.size ≤ kL := by rw [← hkk]; exact (BK.out n).size
  rw [hkk] at S0 ⊢
  clear hkk
  obtain ⟨L, hC0, HL, LL, BL, hne⟩ := cls S0
  haveI := hne
  obtain ⟨l0, rfl⟩ : ∃ n : Wd L, W0 = n.w := ⟨⟨_, hC0⟩, rfl⟩
  have fL0 : ∀ n : Wd L, n.w.cell? ⟨kL + 1, 0, none⟩ = some (.int .i64 qq.x.lo) := fun n => (LL.out n).1.2.1
  have fL1 : ∀ n : Wd L, n.w.cell? ⟨kL + 1, 1, none⟩ = some (.int .i64 qq.x.hi) := fun n => (LL.out n).2.1.2.1
  have fL2 : ∀ n : Wd L, n.w.cell? ⟨kL + 1, 2, none⟩ = some (.int .i64 qq.y.lo) := fun n => (LL.out n).2.2.1.2.1
  have fL3 : ∀ n : Wd L, n.w.cell? ⟨kL + 1, 3, none⟩ = some (.int .i64 qq.y.hi) := fun n => (LL.out n).2.2.2.1.2.1
  have fL4 : ∀ n : Wd L, n.w.cell? ⟨kL, 0, none⟩ = some (.int .i64 pp.x.lo) := fun n => (LL.out n).2.2.2.2.1.2.1
  have fL5 : ∀ n : Wd L, n.w.cell? ⟨kL, 1, none⟩ = some (.int .i64 pp.x.hi) := fun n => (LL.out n).2.2.2.2.2.1.2.1
  have fL6 : ∀ n : Wd L, n.w.cell? ⟨kL, 2, none⟩ = some (.int .i64 pp.y.lo) := fun n => (LL.out n).2.2.2.2.2.2.1.2.1
  have fL7 : ∀ n : Wd L, n.w.cell? ⟨kL, 3, none⟩ = some (.int .i64 pp.y.hi) := fun n => (LL.out n).2.2.2.2.2.2.2.1.2.1
  have fL8 : ∀ n : Wd L, n.w.cell? ⟨kK + 1, 0, none⟩ = some (.int .i64 qq.x.lo) := fun n => (LL.out n).2.2.2.2.2.2.2.2.1.2.1
  have fL9 : ∀ n : Wd L, n.w.cell? ⟨kK + 1, 1, none⟩ = some (.int .i64 qq.x.hi) := fun n => (LL.out n).2.2.2.2.2.2.2.2.2.1.2.1
  have fL10 : ∀ n : Wd L, n.w.cell? ⟨kK + 1, 2, none⟩ = some (.int .i64 qq.y.lo) := fun n => (LL.out n).2.2.2.2.2.2.2.2.2.2.1.2.1
  have fL11 : ∀ n : Wd L, n.w.cell? ⟨kK + 1, 3, none⟩ = some (.int .i64 qq.y.hi) := fun n => (LL.out n).2.2.2.2.2.2.2.2.2.2.2.1.2.1
  have fL12 : ∀ n : Wd L, n.w.cell? ⟨kK, 0, none⟩ = some (.int .i64 pp.x.lo) := fun n => (LL.out n).2.2.2.2.2.2.2.2.2.2.2.2.1.2.1
  have fL13 : ∀ n : Wd L, n.w.cell? ⟨kK, 1, none⟩ = some (.int .i64 pp.x.hi) := fun n => (LL.out n).2.2.2.2.2.2.2.2.2.2.2.2.2.1.2.1
  have fL14 : ∀ n : Wd L, n.w.cell? ⟨kK, 2, none⟩ = some (.int .i64 pp.y.lo) := fun n => (LL.out n).2.2.2.2.2.2.2.2.2.2.2.2.2.2.1.2.1
  have fL15 : ∀ n : Wd L, n.w.cell? ⟨kK, 3, none⟩ = some (.int .i64 pp.y.hi) := fun n => (LL.out n).2.2.2.2.2.2.2.2.2.2.2.2.2.2.2.1.2.1
  have fL16 : ∀ n : Wd L, n.w.cell? ⟨kJ, 0, none⟩ = some (.int .i64 gg.x.lo) := fun n => (LL.out n).2.2.2.2.2.2.2.2.2.2.2.2.2.2.2.2.1.2.1
  have fL17 : ∀ n : Wd L, n.w.cell? ⟨kJ, 1, none⟩ = some (.int .i64 gg.x.hi) := fun n => (LL.out n).2.2.2.2.2.2.2.2.2.2.2.2.2.2.2.2.2.1.2.1
  have fL18 : ∀ n : Wd L, n.w.cell? ⟨kJ, 2, none⟩ = some (.int .i64 gg.y.lo) := fun n => (LL.out n).2.2.2.2.2.2.2.2.2.2.2.2.2.2.2.2.2.2.1.2.1
  have fL19 : ∀ n : Wd L, n.w.cell? ⟨kJ, 3, none⟩ = some (.int .i64 gg.y.hi) := fun n => (LL.out n).2.2.2.2.2.2.2.2.2.2.2.2.2.2.2.2.2.2.2.1.2.1
  have fL20 : ∀ n : Wd L, n.w.cell? ⟨kI, 0, none⟩ = some (.int .i64 gg.x.lo) := fun n => (LL.out n).2.2.2.2.2.2.2.2.2.2.2.2.2.2.2.2.2.2.2.2.1.2.1
  have fL21 : ∀ n : Wd L, n.w.cell? ⟨kI, 1, none⟩ = some (.int .i64 gg.x.hi) := fun n => (LL.out n).2.2.2.2.2.2.2.2.2.2.2.2.2.2.2.2.2.2.2.2.2.1.2.1
  have fL22 : ∀ n : Wd L, n.w.cell? ⟨kI, 2, none⟩ = some (.int .i64 gg.y.lo) := fun n => (LL.out n).2.2.2.2.2.2.2.2.2.2.2.2.2.2.2.2.2.2.2.2.2.2.1.2.1
  have fL23 : ∀ n : Wd L, n.w.cell? ⟨kI, 3, none⟩ = some (.int .i64 gg.y.hi) := fun n => (LL.out n).2.2.2.2.2.2.2.2.2.2.2.2.2.2.2.2.2.2.2.2.2.2.2.1.2.1
  have fL24 : ∀ n : Wd L, n.w.cell? ⟨kG, 0, none⟩ = some (.int .i64 kk.x.lo) := fun n => (LL.out n).2.2.2.2.2.2.2.2.2.2.2.2.2.2.2.2.2.2.2.2.2.2.2.2.1.2.1
  have fL25 : ∀ n : Wd L, n.w.cell? ⟨kG, 1, none⟩ = some (.int .i64 kk.x.hi) := fun n => (LL.out n).2.2.2.2.2.2.2.2.2.2.2.2.2.2.2.2.2.2.2.2.2.2.2.2.2.1.2.1
  have fL26 : ∀ n : Wd L, n.w.cell? ⟨kG, 2, none⟩ = some (.int .i64 kk.y.lo) := fun n => (LL.out n).2.2.2.2.2.2.2.2.2.2.2.2.2.2.2.2.2.2.2.2.2.2.2.2.2.2.1.2.1
  have fL27 : ∀ n : Wd L, n.w.cell? ⟨kG, 3, none⟩ = some (.int .i64 kk.y.hi) := fun n => (LL.out n).2.2.2.2.2.2.2.2.2.2.2.2.2.2.2.2.2.2.2.2.2.2.2.2.2.2.2.1.2.1
  have fL28 : ∀ n : Wd L, n.w.cell? ⟨kF, 0, none⟩ = some (.int .i64 kk.x.lo) := fun n => (LL.out n).2.2.2.2.2.2.2.2.2.2.2.2.2.2.2.2.2.2.2.2.2.2.2.2.2.2.2.2.1.2.1
  have fL29 : ∀ n : Wd L, n.w.cell? ⟨kF, 1, none⟩ = some (.int .i64 kk.x.hi) := fun n => (LL.out n).2.2.2.2.2.2.2.2.2.2.2.2.2.2.2.2.2.2.2.2.2.2.2.2.2.2.2.2.2.1.2.1
  have fL30 : ∀ n : Wd L, n.w.cell? ⟨kF, 2, none⟩ = some (.int .i64 kk.y.lo) := fun n => (LL.out n).2.2.2.2.2.2.2.2.2.2.2.2.2.2.2.2.2.2.2.2.2.2.2.2.2.2.2.2.2.2.1.2.1
  have fL31 : ∀ n : Wd L, n.w.cell? ⟨kF, 3, none⟩ = some (.int .i64 kk.y.hi) := fun n => (LL.out n).2.2.2.2.2.2.2.2.2.2.2.2.2.2.2.2.2.2.2.2.2.2.2.2.2.2.2.2.2.2.2.1.2.1
  have fL32 : ∀ n : Wd L, n.w.cell? ⟨kE, 0, none⟩ = some (.int .i64 mm.x.lo) := fun n => (LL.out n).2.2.2.2.2.2.2.2.2.2.2.2.2.2.2.2.2.2.2.2.2.2.2.2.2.2.2.2.2.2.2.2.1.2.1
  have fL33 : ∀ n : Wd L, n.w.cell? ⟨kE, 1, none⟩ = some (.int .i64 mm.x.hi) := fun n => (LL.out n).2.2.2.2.2.2.2.2.2.2.2.2.2.2.2.2.2.2.2.2.2.2.2.2.2.2.2.2.2.2.2.2.2.1.2.1
  have fL34 : ∀ n : Wd L, n.w.cell? ⟨kE, 2, none⟩ = some (.int .i64 mm.y.lo) := fun n => (LL.out n).2.2.2.2.2.2.2.2.2.2.2.2.2.2.2.2.2.2.2.2.2.2.2.2.2.2.2.2.2.2.2.2.2.2.1.2.1
  have fL35 : ∀ n : Wd L, n.w.cell? ⟨kE, 3, none⟩ = some (.int .i64 mm.y.hi) := fun n => (LL.out n).2.2.2.2.2.2.2.2.2.2.2.2.2.2.2.2.2.2.2.2.2.2.2.2.2.2.2.2.2.2.2.2.2.2.2.1.2.1
  have fL36 : ∀ n : Wd L, n.w.cell? ⟨kD, 0, none⟩ = some (.int .i64 mm.x.lo) := fun n => (LL.out n).2.2.2.2.2.2.2.2.2.2.2.2.2.2.2.2.2.2.2.2.2.2.2.2.2.2.2.2.2.2.2.2.2.2.2.2.1.2.1
  have fL37 : ∀ n : Wd L, n.w.cell? ⟨kD, 1, none⟩ = some (.int .i64 mm.x.hi) := fun n => (LL.out n).2.2.2.2.2.2.2.2.2.2.2.2.2.2.2.2.2.2.2.2.2.2.2.2.2.2.2.2.2.2.2.2.2.2.2.2.2.1.2.1
  have fL38 : ∀ n : Wd L, n.w.cell? ⟨kD, 2, none⟩ = some (.int .i64 mm.y.lo) := fun n => (LL.out n).2.2.2.2.2.2.2.2.2.2.2.2.2.2.2.2.2.2.2.2.2.2.2.2.2.2.2.2.2.2.2.2.2.2.2.2.2.2.1.2.1
  have fL39 : ∀ n : Wd L, n.w.cell? ⟨kD, 3, none⟩ = some (.int .i64 mm.y.hi) := fun n => (LL.out n).2.2.2.2.2.2.2.2.2.2.2.2.2.2.2.2.2.2.2.2.2.2.2.2.2.2.2.2.2.2.2.2.2.2.2.2.2.2.2.1.2.1
  have fL40 : ∀ n : Wd L, n.w.cell? ⟨w.heap.size + 1 + 1, 0, none⟩ = some (.int .i64 p.x) := fun n => (LL.out n).2.2.2.2.2.2.2.2.2.2.2.2.2.2.2.2.2.2.2.2.2.2.2.2.2.2.2.2.2.2.2.2.2.2.2.2.2.2.2.2.1.2.1
  have fL41 : ∀ n : Wd L, n.w.cell? ⟨w.heap.size + 1 + 1, 1, none⟩ = some (.int .i64 p.y) := fun n => (LL.out n).2.2.2.2.2.2.2.2.2.2.2.2.2.2.2.2.2.2.2.2.2.2.2.2.2.2.2.2.2.2.2.2.2.2.2.2.2.2.2.2.2.1.2.1
  have fL42 : ∀ n : Wd L, n.w.cell? ⟨w.heap.size + 1, 0, none⟩ = some (.int .i64 b.x.lo) := fun n => (LL.out n).2.2.2.2.2.2.2.2.2.2.2.2.2.2.2.2.2.2.2.2.2.2.2.2.2.2.2.2.2.2.2.2.2.2.2.2.2.2.2.2.2.2.1.2.1
  have fL43 : ∀ n : Wd L, n.w.cell? ⟨w.heap.size + 1, 1, none⟩ = some (.int .i64 b.x.hi) := fun n => (LL.out n).2.2.2.2.2.2.2.2.2.2.2.2.2.2.2.2.2.2.2.2.2.2.2.2.2.2.2.2.2.2.2.2.2.2.2.2.2.2.2.2.2.2.2.1.2.1
  have fL44 : ∀ n : Wd L, n.w.cell? ⟨w.heap.size + 1, 2, none⟩ = some (.int .i64 b.y.lo) := fun n => (LL.out n).2.2.2.2.2.2.2.2.2.2.2.2.2.2.2.2.2.2.2.2.2.2.2.2.2.2.2.2.2.2.2.2.2.2.2.2.2.2.2.2.2.2.2.2.1.2.1
  have fL45 : ∀ n : Wd L, n.w.cell? ⟨w.heap.size + 1, 3, none⟩ = some (.int .i64 b.y.hi) := fun n => (LL.out n).2.2.2.2.2.2.2.2.2.2.2.2.2.2.2.2.2.2.2.2.2.2.2.2.2.2.2.2.2.2.2.2.2.2.2.2.2.2.2.2.2.2.2.2.2.1.2.1
  have fL46 : ∀ n : Wd L, n.w.cell? ⟨w.heap.size, 0, none⟩ = some (.int .i64 a.x.lo) := fun n => (LL.out n).2.2.2.2.2.2.2.2.2.2.2.2.2.2.2.2.2.2.2.2.2.2.2.2.2.2.2.2.2.2.2.2.2.2.2.2.2.2.2.2.2.2.2.2.2.2.1.2.1
  have fL47 : ∀ n : Wd L, n.w.cell? ⟨w.heap.size, 1, none⟩ = some (.int .i64 a.x.hi) := fun n => (LL.out n).2.2.2.2.2.2.2.2.2.2.2.2.2.2.2.2.2.2.2.2.2.2.2.2.2.2.2.2.2.2.2.2.2.2.2.2.2.2.2.2.2.2.2.2.2.2.2.1.2.1
  have fL48 : ∀ n : Wd L, n.w.cell? ⟨w.heap.size, 2, none⟩ = some (.int .i64 a.y.lo) := fun n => (LL.out n).2.2.2.2.2.2.2.2.2.2.2.2.2.2.2.2.2.2.2.2.2.2.2.2.2.2.2.2.2.2.2.2.2.2.2.2.2.2.2.2.2.2.2.2.2.2.2.2.1.2.1
  have fL49 : ∀ n : Wd L, n.w.cell? ⟨w.heap.size, 3, none⟩ = some (.int .i64 a.y.hi) := fun n => (LL.out n).2.2.2.2.2.2.2.2.2.2.2.2.2.2.2.2.2.2.2.2.2.2.2.2.2.2.2.2.2.2.2.2.2.2.2.2.2.2.2.2.2.2.2.2.2.2.2.2.2.1.2.1
  clear S0 hC0
  clear HJ LJ BJ HK LK BK D2
  have E1 := cin HL P1
  have E2 := cin HL P2
  have E3 := cin HL X1
  have E4 := cin HL X2
  have E5 := cin HL Y1
  have E6 := cin HL Y2
  have E7 := cin HL BX
  clear P1 P2 X1 X2 Y1 Y2 BX
  have z1 : (za == za) = true := by simp
  have z2 : (ha == ha) = true := by simp
  refine wp_region_in L (HL.out _ _ (Wd.h _) (below_dr _)) (by kernel_rfl) (by kernel_rfl) ?_
  repeat (go_big_quiet_step (first | with_reducible exact (E1 _).out | with_reducible exact (E2 _).out | with_reducible exact (E3 _).out | with_reducible exact (E4 _).out | with_reducible exact (E5 _).out | with_reducible exact (E6 _).out))
  refine wpQuiet_nil ?_
  intro wx hwx
  obtain ⟨n, rfl⟩ : ∃ n : Wd L, wx = n.w := ⟨⟨wx, hwx⟩, rfl⟩
  clear hwx
  clear E1 E2 E3 E4 E5 E6
  go_wp2_with (first | (go_at_call 38; with_reducible refine (E7 _).out.mono ?_; rintro e w' ⟨rfl, n, rfl⟩))
  go_ret
  exact ⟨rfl, BL.out _⟩
theorem boxLaw (a b : Bx) (p : Pt) (m : Int) (w : World) : Calls Try.prog 7 #[a.v, b.v, p.v, .int .i64 m] w fun e w' => e = .returned (.bool true) ∧ Below w.heap.size w w' := boxesLaw boxes_is a b p m w
end Go.Proofs.Ytdefpcjlbganpaa
