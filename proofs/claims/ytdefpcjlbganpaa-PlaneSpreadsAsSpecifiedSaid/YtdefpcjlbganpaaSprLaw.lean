import Derived.RangeFuncNested
import Derived.RangeFuncBox
import Derived.RangeFuncBound
import Derived.RangeFuncCalls
import Derived.RangeFuncLeaves
import Derived.Shelf.Abstract
import Derived.Shelf.RegionOpen
import Derived.BigRegionIn
import Derived.Stop.RegionWithIn
import Derived.WalkKit
import Derived.OwnWalkIn
import Derived.TacticsInMore
import Derived.LoopNIn
import Derived.LoopIn
import Derived.Lib.Hide
import Derived.IntWalk
import Derived.Deep.QuietTactic
import Derived.Deep.RegionHeld3
import Derived.Deep.RegionLaw
import Derived.StillTailTactics
import Derived.WalkSmall
import Derived.Deep.DeepMust
import Derived.BigQuiet
import Derived.LoopTactic
import Derived.Test.YtdefpcjlbganpaaMRd
import Derived.Test.YtdefpcjlbganpaaRSpr
import Derived.Test.YtdefpcjlbganpaaMBxs
import Derived.Lib.MinMax
import Derived.Deep.DeepCutAuto
import Derived.Deep.CutBlock
namespace Go.Proofs.Ytdefpcjlbganpaa
open Go.RowKit Go.Shelf Go.BigFrame
attribute [local go_sem] Oper.semAt_some
attribute [local go_sem] World.cell?_alloc_some
theorem eq58_run (a : Sp) (w : World) : (binOp .eql 58 a.v a.v).run Try.prog w = .ok (.bool true) w := by simp [go_sem]
set_option maxRecDepth 100000 in
set_option maxHeartbeats 64000000 in
/-- The law of spreads answers true. -/
theorem spreadsLaw (BX : ∀ W, Calls Try.prog 38 #[] W fun e w' => e = .returned (.bool true) ∧ Below W.heap.size W w') (a b c : Bx) (w : World) :
   Calls Try.prog 8 #[a.v, b.v, c.v] w fun e w' => e = .returned (.bool true) ∧ Below w.heap.size w w' := by
  obtain ⟨ss, hM⟩ : ∃ M, (sprO a b c).getD ⟨0, 0⟩ = M := ⟨_, rfl⟩
  obtain ⟨e1, he⟩ : ∃ e, (sprO a b c).isSome = e := ⟨_, rfl⟩
  obtain ⟨dd, hK⟩ : ∃ M, (dsO a b).getD ⟨0, 0⟩ = M := ⟨_, rfl⟩
  obtain ⟨e2, hg⟩ : ∃ e, (dsO a b).isSome = e := ⟨_, rfl⟩
  have M1 : ∀ W, Calls Try.prog 59 #[a.v, b.v, c.v] W fun e' w' => e' = .returned (.tuple #[ss.v, .bool e1]) ∧ Below W.heap.size W w' := fun W => by rw [← hM, ← he]; exact Spread_any a b c W
  have M2 : ∀ W, Calls Try.prog 60 #[a.v, b.v, c.v] W fun e' w' => e' = .returned (.tuple #[ss.v, .bool e1]) ∧ Below W.heap.size W w' := fun W => by rw [← hM, ← he]; exact rSpread_any a b c W
  have K1 : ∀ W, Calls Try.prog 61 #[a.v, b.v] W fun e' w' => e' = .returned (.tuple #[dd.v, .bool e2]) ∧ Below W.heap.size W w' := fun W => by rw [← hK, ← hg]; exact Dists_any a b W
  have K2 : ∀ W, Calls Try.prog 62 #[a.v, b.v] W fun e' w' => e' = .returned (.tuple #[dd.v, .bool e2]) ∧ Below W.heap.size W w' := fun W => by rw [← hK, ← hg]; exact rDists_any a b W
  have T1 := fun W => Turns_any a b c W
  have T2 := fun W => rTurns_any rSpread_any a b c W
  obtain ⟨tt, ht⟩ : ∃ t, tsV (sprO a b c) = t := ⟨_, rfl⟩
  simp only [ht] at T1 T2
  clear hM he hK hg ht
  have kS := fun W => eq58_run ss W
  have kD := fun W => eq58_run dd W
  go_enter Try.func8, Try.ntmps8
  go_wp2_with fail
  obtain ⟨W0, hW0⟩ : ∃ W0, (((w).alloc (.cells #[.int .i64 a.x.lo, .int .i64 a.x.hi, .int .i64 a.y.lo, .int .i64 a.y.hi] 60)).alloc (.cells #[.int .i64 b.x.lo, .int .i64 b.x.hi, .int .i64 b.y.lo, .int .i64 b.y.hi] 60)).alloc (.cells #[.int .i64 c.x.lo, .int .i64 c.x.hi, .int .i64 c.y.lo, .int .i64 c.y.hi] 60) = W0 := ⟨_, rfl⟩
  have S0 : St w W0 [(w.heap.size + 1 + 1, 0, .int .i64 c.x.lo), (w.heap.size + 1 + 1, 1, .int .i64 c.x.hi), (w.heap.size + 1 + 1, 2, .int .i64 c.y.lo), (w.heap.size + 1 + 1, 3, .int .i64 c.y.hi), (w.heap.size + 1, 0, .int .i64 b.x.lo), (w.heap.size + 1, 1, .int .i64 b.x.hi), (w.heap.size + 1, 2, .int .i64 b.y.lo), (w.heap.size + 1, 3, .int .i64 b.y.hi), (w.heap.size, 0, .int .i64 a.x.lo), (w.heap.size, 1, .int .i64 a.x.hi), (w.heap.size, 2, .int .i64 a.y.lo), (w.heap.size, 3, .int .i64 a.y.hi)] := by rw [← hW0]; exact ((((St.nil w)).box #[.int .i64 a.x.lo, .int .i64 a.x.hi, .int .i64 a.y.lo, .int .i64 a.y.hi] 60 (w.heap.size) (by simp)).box #[.int .i64 b.x.lo, .int .i64 b.x.hi, .int .i64 b.y.lo, .int .i64 b.y.hi] 60 (w.heap.size + 1) (by simp)).box #[.int .i64 c.x.lo, .int .i64 c.x.hi, .int .i64 c.y.lo, .int .i64 c.y.hi] 60 (w.heap.size + 1 + 1) (by simp)
  rw [hW0]
  clear hW0
  obtain ⟨C, hC0, HC, LC, BC, hne⟩ := cls S0
  haveI := hne
  obtain ⟨c0, rfl⟩ : ∃ n : Wd C, W0 = n.w := ⟨⟨_, hC0⟩, rfl⟩
  have fC0 : ∀ n : Wd C, n.w.cell? ⟨w.heap.size + 1 + 1, 0, none⟩ = some (.int .i64 c.x.lo) := fun n => (LC.out n).1.2.1
  have fC1 : ∀ n : Wd C, n.w.cell? ⟨w.heap.size + 1 + 1, 1, none⟩ = some (.int .i64 c.x.hi) := fun n => (LC.out n).2.1.2.1
  have fC2 : ∀ n : Wd C, n.w.cell? ⟨w.heap.size + 1 + 1, 2, none⟩ = some (.int .i64 c.y.lo) := fun n => (LC.out n).2.2.1.2.1
  have fC3 : ∀ n : Wd C, n.w.cell? ⟨w.heap.size + 1 + 1, 3, none⟩ = some (.int .i64 c.y.hi) := fun n => (LC.out n).2.2.2.1.2.1
  have fC4 : ∀ n : Wd C, n.w.cell? ⟨w.heap.size + 1, 0, none⟩ = some (.int .i64 b.x.lo) := fun n => (LC.out n).2.2.2.2.1.2.1
  have fC5 : ∀ n : Wd C, n.w.cell? ⟨w.heap.size + 1, 1, none⟩ = some (.int .i64 b.x.hi) := fun n => (LC.out n).2.2.2.2.2.1.2.1
  have fC6 : ∀ n : Wd C, n.w.cell? ⟨w.heap.size + 1, 2, none⟩ = some (.int .i64 b.y.lo) := fun n => (LC.out n).2.2.2.2.2.2.1.2.1
  have fC7 : ∀ n : Wd C, n.w.cell? ⟨w.heap.size + 1, 3, none⟩ = some (.int .i64 b.y.hi) := fun n => (LC.out n).2.2.2.2.2.2.2.1.2.1
  have fC8 : ∀ n : Wd C, n.w.cell? ⟨w.heap.size, 0, none⟩ = some (.int .i64 a.x.lo) := fun n => (LC.out n).2.2.2.2.2.2.2.2.1.2.1
  have fC9 : ∀ n : Wd C, n.w.cell? ⟨w.heap.size, 1, none⟩ = some (.int .i64 a.x.hi) := fun n => (LC.out n).2.2.2.2.2.2.2.2.2.1.2.1
  have fC10 : ∀ n : Wd C, n.w.cell? ⟨w.heap.size, 2, none⟩ = some (.int .i64 a.y.lo) := fun n => (LC.out n).2.2.2.2.2.2.2.2.2.2.1.2.1
  have fC11 : ∀ n : Wd C, n.w.cell? ⟨w.heap.size, 3, none⟩ = some (.int .i64 a.y.hi) := fun n => (LC.out n).2.2.2.2.2.2.2.2.2.2.2.1.2.1
  clear S0 hC0
  have D1 := cin HC M1
  go_wp2_with (first | (go_at_call 59; with_reducible refine (D1 _).out.mono ?_; rintro e w' ⟨rfl, n, rfl⟩))
  obtain ⟨W0, hW0⟩ : ∃ W0, (n.w).alloc (.cells #[.int .i64 ss.lo, .int .i64 ss.hi] 58) = W0 := ⟨_, rfl⟩
  have S0 : St w W0 [(n.w.heap.size, 0, .int .i64 ss.lo), (n.w.heap.size, 1, .int .i64 ss.hi), (w.heap.size + 1 + 1, 0, .int .i64 c.x.lo), (w.heap.size + 1 + 1, 1, .int .i64 c.x.hi), (w.heap.size + 1 + 1, 2, .int .i64 c.y.lo), (w.heap.size + 1 + 1, 3, .int .i64 c.y.hi), (w.heap.size + 1, 0, .int .i64 b.x.lo), (w.heap.size + 1, 1, .int .i64 b.x.hi), (w.heap.size + 1, 2, .int .i64 b.y.lo), (w.heap.size + 1, 3, .int .i64 b.y.hi), (w.heap.size, 0, .int .i64 a.x.lo), (w.heap.size, 1, .int .i64 a.x.hi), (w.heap.size, 2, .int .i64 a.y.lo), (w.heap.size, 3, .int .i64 a.y.hi)] := by rw [← hW0]; exact ((⟨BC.out n, LC.out n⟩ : St w n.w _)).box #[.int .i64 ss.lo, .int .i64 ss.hi] 58 (n.w.heap.size) (by simp)
  rw [hW0]
  clear hW0
  obtain ⟨kD, hkk⟩ : ∃ k, n.w.heap.size = k := ⟨_, rfl⟩
  have gkD : w.heap.size ≤ kD := by rw [← hkk]; exact (BC.out n).size
  rw [hkk] at S0 ⊢
  clear hkk
  obtain ⟨D, hC0, HD, LD, BD, hne⟩ := cls S0
  haveI := hne
  obtain ⟨d0, rfl⟩ : ∃ n : Wd D, W0 = n.w := ⟨⟨_, hC0⟩, rfl⟩
  have fD0 : ∀ n : Wd D, n.w.cell? ⟨kD, 0, none⟩ = some (.int .i64 ss.lo) := fun n => (LD.out n).1.2.1
  have fD1 : ∀ n : Wd D, n.w.cell? ⟨kD, 1, none⟩ = some (.int .i64 ss.hi) := fun n => (LD.out n).2.1.2.1
  have fD2 : ∀ n : Wd D, n.w.cell? ⟨w.heap.size + 1 + 1, 0, none⟩ = some (.int .i64 c.x.lo) := fun n => (LD.out n).2.2.1.2.1
  have fD3 : ∀ n : Wd D, n.w.cell? ⟨w.heap.size + 1 + 1, 1, none⟩ = some (.int .i64 c.x.hi) := fun n => (LD.out n).2.2.2.1.2.1
  have fD4 : ∀ n : Wd D, n.w.cell? ⟨w.heap.size + 1 + 1, 2, none⟩ = some (.int .i64 c.y.lo) := fun n => (LD.out n).2.2.2.2.1.2.1
  have fD5 : ∀ n : Wd D, n.w.cell? ⟨w.heap.size + 1 + 1, 3, none⟩ = some (.int .i64 c.y.hi) := fun n => (LD.out n).2.2.2.2.2.1.2.1
  have fD6 : ∀ n : Wd D, n.w.cell? ⟨w.heap.size + 1, 0, none⟩ = some (.int .i64 b.x.lo) := fun n => (LD.out n).2.2.2.2.2.2.1.2.1
  have fD7 : ∀ n : Wd D, n.w.cell? ⟨w.heap.size + 1, 1, none⟩ = some (.int .i64 b.x.hi) := fun n => (LD.out n).2.2.2.2.2.2.2.1.2.1
  have fD8 : ∀ n : Wd D, n.w.cell? ⟨w.heap.size + 1, 2, none⟩ = some (.int .i64 b.y.lo) := fun n => (LD.out n).2.2.2.2.2.2.2.2.1.2.1
  have fD9 : ∀ n : Wd D, n.w.cell? ⟨w.heap.size + 1, 3, none⟩ = some (.int .i64 b.y.hi) := fun n => (LD.out n).2.2.2.2.2.2.2.2.2.1.2.1
  have fD10 : ∀ n : Wd D, n.w.cell? ⟨w.heap.size, 0, none⟩ = some (.int .i64 a.x.lo) := fun n => (LD.out n).2.2.2.2.2.2.2.2.2.2.1.2.1
  have fD11 : ∀ n : Wd D, n.w.cell? ⟨w.heap.size, 1, none⟩ = some (.int .i64 a.x.hi) := fun n => (LD.out n).2.2.2.2.2.2.2.2.2.2.2.1.2.1
  have fD12 : ∀ n : Wd D, n.w.cell? ⟨w.heap.size, 2, none⟩ = some (.int .i64 a.y.lo) := fun n => (LD.out n).2.2.2.2.2.2.2.2.2.2.2.2.1.2.1
  have fD13 : ∀ n : Wd D, n.w.cell? ⟨w.heap.size, 3, none⟩ = some (.int .i64 a.y.hi) := fun n => (LD.out n).2.2.2.2.2.2.2.2.2.2.2.2.2.1.2.1
  clear S0 hC0
  have D2 := cin HD M2
  clear M1 M2 D1
  go_wp2_with (first | (go_at_call 60; with_reducible refine (D2 _).out.mono ?_; rintro e w' ⟨rfl, n, rfl⟩))
  obtain ⟨W0, hW0⟩ : ∃ W0, (n.w).alloc (.cells #[.int .i64 ss.lo, .int .i64 ss.hi] 58) = W0 := ⟨_, rfl⟩
  have S0 : St w W0 [(n.w.heap.size, 0, .int .i64 ss.lo), (n.w.heap.size, 1, .int .i64 ss.hi), (kD, 0, .int .i64 ss.lo), (kD, 1, .int .i64 ss.hi), (w.heap.size + 1 + 1, 0, .int .i64 c.x.lo), (w.heap.size + 1 + 1, 1, .int .i64 c.x.hi), (w.heap.size + 1 + 1, 2, .int .i64 c.y.lo), (w.heap.size + 1 + 1, 3, .int .i64 c.y.hi), (w.heap.size + 1, 0, .int .i64 b.x.lo), (w.heap.size + 1, 1, .int .i64 b.x.hi), (w.heap.size + 1, 2, .int .i64 b.y.lo), (w.heap.size + 1, 3, .int .i64 b.y.hi), (w.heap.size, 0, .int .i64 a.x.lo), (w.heap.size, 1, .int .i64 a.x.hi), (w.heap.size, 2, .int .i64 a.y.lo), (w.heap.size, 3, .int .i64 a.y.hi)] := by rw [← hW0]; exact ((⟨BD.out n, LD.out n⟩ : St w n.w _)).box #[.int .i64 ss.lo, .int .i64 ss.hi] 58 (n.w.heap.size) (by simp)
  rw [hW0]
  clear hW0
  obtain ⟨kE, hkk⟩ : ∃ k, n.w.heap.size = k := ⟨_, rfl⟩
  have gkE : w.heap.size ≤ kE := by rw [← hkk]; exact (BD.out n).size
  rw [hkk] at S0 ⊢
  clear hkk
  obtain ⟨E, hC0, HE, LE, BE, hne⟩ := cls S0
  haveI := hne
  obtain ⟨e0, rfl⟩ : ∃ n : Wd E, W0 = n.w := ⟨⟨_, hC0⟩, rfl⟩
  have fE0 : ∀ n : Wd E, n.w.cell? ⟨kE, 0, none⟩ = some (.int .i64 ss.lo) := fun n => (LE.out n).1.2.1
  have fE1 : ∀ n : Wd E, n.w.cell? ⟨kE, 1, none⟩ = some (.int .i64 ss.hi) := fun n => (LE.out n).2.1.2.1
  have fE2 : ∀ n : Wd E, n.w.cell? ⟨kD, 0, none⟩ = some (.int .i64 ss.lo) := fun n => (LE.out n).2.2.1.2.1
  have fE3 : ∀ n : Wd E, n.w.cell? ⟨kD, 1, none⟩ = some (.int .i64 ss.hi) := fun n => (LE.out n).2.2.2.1.2.1
  have fE4 : ∀ n : Wd E, n.w.cell? ⟨w.heap.size + 1 + 1, 0, none⟩ = some (.int .i64 c.x.lo) := fun n => (LE.out n).2.2.2.2.1.2.1
  have fE5 : ∀ n : Wd E, n.w.cell? ⟨w.heap.size + 1 + 1, 1, none⟩ = some (.int .i64 c.x.hi) := fun n => (LE.out n).2.2.2.2.2.1.2.1
  have fE6 : ∀ n : Wd E, n.w.cell? ⟨w.heap.size + 1 + 1, 2, none⟩ = some (.int .i64 c.y.lo) := fun n => (LE.out n).2.2.2.2.2.2.1.2.1
  have fE7 : ∀ n : Wd E, n.w.cell? ⟨w.heap.size + 1 + 1, 3, none⟩ = some (.int .i64 c.y.hi) := fun n => (LE.out n).2.2.2.2.2.2.2.1.2.1
  have fE8 : ∀ n : Wd E, n.w.cell? ⟨w.heap.size + 1, 0, none⟩ = some (.int .i64 b.x.lo) := fun n => (LE.out n).2.2.2.2.2.2.2.2.1.2.1
  have fE9 : ∀ n : Wd E, n.w.cell? ⟨w.heap.size + 1, 1, none⟩ = some (.int .i64 b.x.hi) := fun n => (LE.out n).2.2.2.2.2.2.2.2.2.1.2.1
  have fE10 : ∀ n : Wd E, n.w.cell? ⟨w.heap.size + 1, 2, none⟩ = some (.int .i64 b.y.lo) := fun n => (LE.out n).2.2.2.2.2.2.2.2.2.2.1.2.1
  have fE11 : ∀ n : Wd E, n.w.cell? ⟨w.heap.size + 1, 3, none⟩ = some (.int .i64 b.y.hi) := fun n => (LE.out n).2.2.2.2.2.2.2.2.2.2.2.1.2.1
  have fE12 : ∀ n : Wd E, n.w.cell? ⟨w.heap.size, 0, none⟩ = some (.int .i64 a.x.lo) := fun n => (LE.out n).2.2.2.2.2.2.2.2.2.2.2.2.1.2.1
  have fE13 : ∀ n : Wd E, n.w.cell? ⟨w.heap.size, 1, none⟩ = some (.int .i64 a.x.hi) := fun n => (LE.out n).2.2.2.2.2.2.2.2.2.2.2.2.2.1.2.1
  have fE14 : ∀ n : Wd E, n.w.cell? ⟨w.heap.size, 2, none⟩ = some (.int .i64 a.y.lo) := fun n => (LE.out n).2.2.2.2.2.2.2.2.2.2.2.2.2.2.1.2.1
  have fE15 : ∀ n : Wd E, n.w.cell? ⟨w.heap.size, 3, none⟩ = some (.int .i64 a.y.hi) := fun n => (LE.out n).2.2.2.2.2.2.2.2.2.2.2.2.2.2.2.1.2.1
  clear S0 hC0
  have D1 := cin HE K1
  clear K1 D2
  go_wp2_with (first | (go_at_call 61; with_reducible refine (D1 _).out.mono ?_; rintro e w' ⟨rfl, n, rfl⟩))
  obtain ⟨W0, hW0⟩ : ∃ W0, (n.w).alloc (.cells #[.int .i64 dd.lo, .int .i64 dd.hi] 58) = W0 := ⟨_, rfl⟩
  have S0 : St w W0 [(n.w.heap.size, 0, .int .i64 dd.lo), (n.w.heap.size, 1, .int .i64 dd.hi), (kE, 0, .int .i64 ss.lo), (kE, 1, .int .i64 ss.hi), (kD, 0, .int .i64 ss.lo), (kD, 1, .int .i64 ss.hi), (w.heap.size + 1 + 1, 0, .int .i64 c.x.lo), (w.heap.size + 1 + 1, 1, .int .i64 c.x.hi), (w.heap.size + 1 + 1, 2, .int .i64 c.y.lo), (w.heap.size + 1 + 1, 3, .int .i64 c.y.hi), (w.heap.size + 1, 0, .int .i64 b.x.lo), (w.heap.size + 1, 1, .int .i64 b.x.hi), (w.heap.size + 1, 2, .int .i64 b.y.lo), (w.heap.size + 1, 3, .int .i64 b.y.hi), (w.heap.size, 0, .int .i64 a.x.lo), (w.heap.size, 1, .int .i64 a.x.hi), (w.heap.size, 2, .int .i64 a.y.lo), (w.heap.size, 3, .int .i64 a.y.hi)] := by rw [← hW0]; exact ((⟨BE.out n, LE.out n⟩ : St w n.w _)).box #[.int .i64 dd.lo, .int .i64 dd.hi] 58 (n.w.heap.size) (by simp)
  rw [hW0]
  clear hW0
  obtain ⟨kF, hkk⟩ : ∃ k, n.w.heap.size = k := ⟨_, rfl⟩
  have gkF : w.heap.size ≤ kF := by rw [← hkk]; exact (BE.out n).size
  rw [hkk] at S0 ⊢
  clear hkk
  obtain ⟨F, hC0, HF, LF, BF, hne⟩ := cls S0
  haveI := hne
  obtain ⟨f0, rfl⟩ : ∃ n : Wd F, W0 = n.w := ⟨⟨_, hC0⟩, rfl⟩
  have fF0 : ∀ n : Wd F, n.w.cell? ⟨kF, 0, none⟩ = some (.int .i64 dd.lo) := fun n => (LF.out n).1.2.1
  have fF1 : ∀ n : Wd F, n.w.cell? ⟨kF, 1, none⟩ = some (.int .i64 dd.hi) := fun n => (LF.out n).2.1.2.1
  have fF2 : ∀ n : Wd F, n.w.cell? ⟨kE, 0, none⟩ = some (.int .i64 ss.lo) := fun n => (LF.out n).2.2.1.2.1
  have fF3 : ∀ n : Wd F, n.w.cell? ⟨kE, 1, none⟩ = some (.int .i64 ss.hi) := fun n => (LF.out n).2.2.2.1.2.1
  have fF4 : ∀ n : Wd F, n.w.cell? ⟨kD, 0, none⟩ = some (.int .i64 ss.lo) := fun n => (LF.out n).2.2.2.2.1.2.1
  have fF5 : ∀ n : Wd F, n.w.cell? ⟨kD, 1, none⟩ = some (.int .i64 ss.hi) := fun n => (LF.out n).2.2.2.2.2.1.2.1
  have fF6 : ∀ n : Wd F, n.w.cell? ⟨w.heap.size + 1 + 1, 0, none⟩ = some (.int .i64 c.x.lo) := fun n => (LF.out n).2.2.2.2.2.2.1.2.1
  have fF7 : ∀ n : Wd F, n.w.cell? ⟨w.heap.size + 1 + 1, 1, none⟩ = some (.int .i64 c.x.hi) := fun n => (LF.out n).2.2.2.2.2.2.2.1.2.1
  have fF8 : ∀ n : Wd F, n.w.cell? ⟨w.heap.size + 1 + 1, 2, none⟩ = some (.int .i64 c.y.lo) := fun n => (LF.out n).2.2.2.2.2.2.2.2.1.2.1
  have fF9 : ∀ n : Wd F, n.w.cell? ⟨w.heap.size + 1 + 1, 3, none⟩ = some (.int .i64 c.y.hi) := fun n => (LF.out n).2.2.2.2.2.2.2.2.2.1.2.1
  have fF10 : ∀ n : Wd F, n.w.cell? ⟨w.heap.size + 1, 0, none⟩ = some (.int .i64 b.x.lo) := fun n => (LF.out n).2.2.2.2.2.2.2.2.2.2.1.2.1
  have fF11 : ∀ n : Wd F, n.w.cell? ⟨w.heap.size + 1, 1, none⟩ = some (.int .i64 b.x.hi) := fun n => (LF.out n).2.2.2.2.2.2.2.2.2.2.2.1.2.1
  have fF12 : ∀ n : Wd F, n.w.cell? ⟨w.heap.size + 1, 2, none⟩ = some (.int .i64 b.y.lo) := fun n => (LF.out n).2.2.2.2.2.2.2.2.2.2.2.2.1.2.1
  have fF13 : ∀ n : Wd F, n.w.cell? ⟨w.heap.size + 1, 3, none⟩ = some (.int .i64 b.y.hi) := fun n => (LF.out n).2.2.2.2.2.2.2.2.2.2.2.2.2.1.2.1
  have fF14 : ∀ n : Wd F, n.w.cell? ⟨w.heap.size, 0, none⟩ = some (.int .i64 a.x.lo) := fun n => (LF.out n).2.2.2.2.2.2.2.2.2.2.2.2.2.2.1.2.1
  have fF15 : ∀ n : Wd F, n.w.cell? ⟨w.heap.size, 1, none⟩ = some (.int .i64 a.x.hi) := fun n => (LF.out n).2.2.2.2.2.2.2.2.2.2.2.2.2.2.2.1.2.1
  have fF16 : ∀ n : Wd F, n.w.cell? ⟨w.heap.size, 2, none⟩ = some (.int .i64 a.y.lo) := fun n => (LF.out n).2.2.2.2.2.2.2.2.2.2.2.2.2.2.2.2.1.2.1
  have fF17 : ∀ n : Wd F, n.w.cell? ⟨w.heap.size, 3, none⟩ = some (.int .i64 a.y.hi) := fun n => (LF.out n).2.2.2.2.2.2.2.2.2.2.2.2.2.2.2.2.2.1.2.1
  clear S0 hC0
  have D2 := cin HF K2
  clear K2 D1
  go_wp2_with (first | (go_at_call 62; with_reducible refine (D2 _).out.mono ?_; rintro e w' ⟨rfl, n, rfl⟩))
  obtain ⟨W0, hW0⟩ : ∃ W0, (n.w).alloc (.cells #[.int .i64 dd.lo, .int .i64 dd.hi] 58) = W0 := ⟨_, rfl⟩
  have S0 : St w W0 [(n.w.heap.size, 0, .int .i64 dd.lo), (n.w.heap.size, 1, .int .i64 dd.hi), (kF, 0, .int .i64 dd.lo), (kF, 1, .int .i64 dd.hi), (kE, 0, .int .i64 ss.lo), (kE, 1, .int .i64 ss.hi), (kD, 0, .int .i64 ss.lo), (kD, 1, .int .i64 ss.hi), (w.heap.size + 1 + 1, 0, .int .i64 c.x.lo), (w.heap.size + 1 + 1, 1, .int .i64 c.x.hi), (w.heap.size + 1 + 1, 2, .int .i64 c.y.lo), (w.heap.size + 1 + 1, 3, .int .i64 c.y.hi), (w.heap.size + 1, 0, .int .i64 b.x.lo), (w.heap.size + 1, 1, .int .i64 b.x.hi), (w.heap.size + 1, 2, .int .i64 b.y.lo), (w.heap.size + 1, 3, .int .i64 b.y.hi), (w.heap.size, 0, .int .i64 a.x.lo), (w.heap.size, 1, .int .i64 a.x.hi), (w.heap.size, 2, .int .i64 a.y.lo), (w.heap.size, 3, .int .i64 a.y.hi)] := by rw [← hW0]; exact ((⟨BF.out n, LF.out n⟩ : St w n.w _)).box #[.int .i64 dd.lo, .int .i64 dd.hi] 58 (n.w.heap.size) (by simp)
  rw [hW0]
  clear hW0
  obtain ⟨kG, hkk⟩ : ∃ k, n.w.heap.size = k := ⟨_, rfl⟩
  have gkG : w.heap.size ≤ kG := by rw [← hkk]; exact (BF.out n).size
  rw [hkk] at S0 ⊢
  clear hkk
  obtain ⟨G, hC0, HG, LG, BG, hne⟩ := cls S0
  haveI := hne
  obtain ⟨g0, rfl⟩ : ∃ n : Wd G, W0 = n.w := ⟨⟨_, hC0⟩, rfl⟩
  have fG0 : ∀ n : Wd G, n.w.cell? ⟨kG, 0, none⟩ = some (.int .i64 dd.lo) := fun n => (LG.out n).1.2.1
  have fG1 : ∀ n : Wd G, n.w.cell? ⟨kG, 1, none⟩ = some (.int .i64 dd.hi) := fun n => (LG.out n).2.1.2.1
  have fG2 : ∀ n : Wd G, n.w.cell? ⟨kF, 0, none⟩ = some (.int .i64 dd.lo) := fun n => (LG.out n).2.2.1.2.1
  have fG3 : ∀ n : Wd G, n.w.cell? ⟨kF, 1, none⟩ = some (.int .i64 dd.hi) := fun n => (LG.out n).2.2.2.1.2.1
  have fG4 : ∀ n : Wd G, n.w.cell? ⟨kE, 0, none⟩ = some (.int .i64 ss.lo) := fun n => (LG.out n).2.2.2.2.1.2.1
  have fG5 : ∀ n : Wd G, n.w.cell? ⟨kE, 1, none⟩ = some (.int .i64 ss.hi) := fun n => (LG.out n).2.2.2.2.2.1.2.1
  have fG6 : ∀ n : Wd G, n.w.cell? ⟨kD, 0, none⟩ = some (.int .i64 ss.lo) := fun n => (LG.out n).2.2.2.2.2.2.1.2.1
  have fG7 : ∀ n : Wd G, n.w.cell? ⟨kD, 1, none⟩ = some (.int .i64 ss.hi) := fun n => (LG.out n).2.2.2.2.2.2.2.1.2.1
  have fG8 : ∀ n : Wd G, n.w.cell? ⟨w.heap.size + 1 + 1, 0, none⟩ = some (.int .i64 c.x.lo) := fun n => (LG.out n).2.2.2.2.2.2.2.2.1.2.1
  have fG9 : ∀ n : Wd G, n.w.cell? ⟨w.heap.size + 1 + 1, 1, none⟩ = some (.int .i64 c.x.hi) := fun n => (LG.out n).2.2.2.2.2.2.2.2.2.1.2.1
  have fG10 : ∀ n : Wd G, n.w.cell? ⟨w.heap.size + 1 + 1, 2, none⟩ = some (.int .i64 c.y.lo) := fun n => (LG.out n).2.2.2.2.2.2.2.2.2.2.1.2.1
  have fG11 : ∀ n : Wd G, n.w.cell? ⟨w.heap.size + 1 + 1, 3, none⟩ = some (.int .i64 c.y.hi) := fun n => (LG.out n).2.2.2.2.2.2.2.2.2.2.2.1.2.1
  have fG12 : ∀ n : Wd G, n.w.cell? ⟨w.heap.size + 1, 0, none⟩ = some (.int .i64 b.x.lo) := fun n => (LG.out n).2.2.2.2.2.2.2.2.2.2.2.2.1.2.1
  have fG13 : ∀ n : Wd G, n.w.cell? ⟨w.heap.size + 1, 1, none⟩ = some (.int .i64 b.x.hi) := fun n => (LG.out n).2.2.2.2.2.2.2.2.2.2.2.2.2.1.2.1
  have fG14 : ∀ n : Wd G, n.w.cell? ⟨w.heap.size + 1, 2, none⟩ = some (.int .i64 b.y.lo) := fun n => (LG.out n).2.2.2.2.2.2.2.2.2.2.2.2.2.2.1.2.1
  have fG15 : ∀ n : Wd G, n.w.cell? ⟨w.heap.size + 1, 3, none⟩ = some (.int .i64 b.y.hi) := fun n => (LG.out n).2.2.2.2.2.2.2.2.2.2.2.2.2.2.2.1.2.1
  have fG16 : ∀ n : Wd G, n.w.cell? ⟨w.heap.size, 0, none⟩ = some (.int .i64 a.x.lo) := fun n => (LG.out n).2.2.2.2.2.2.2.2.2.2.2.2.2.2.2.2.1.2.1
  have fG17 : ∀ n : Wd G, n.w.cell? ⟨w.heap.size, 1, none⟩ = some (.int .i64 a.x.hi) := fun n => (LG.out n).2.2.2.2.2.2.2.2.2.2.2.2.2.2.2.2.2.1.2.1
  have fG18 : ∀ n : Wd G, n.w.cell? ⟨w.heap.size, 2, none⟩ = some (.int .i64 a.y.lo) := fun n => (LG.out n).2.2.2.2.2.2.2.2.2.2.2.2.2.2.2.2.2.2.1.2.1
  have fG19 : ∀ n : Wd G, n.w.cell? ⟨w.heap.size, 3, none⟩ = some (.int .i64 a.y.hi) := fun n => (LG.out n).2.2.2.2.2.2.2.2.2.2.2.2.2.2.2.2.2.2.2.1.2.1
  clear S0 hC0
  have E1 := cin HG T1
  have E2 := cin HG T2
  have E3 := cin HG BX
  clear D2 T1 T2 BX
  have z1 : (e1 == e1) = true := by simp
  have z2 : (e2 == e2) = true := by simp
  have z3 : (tt == tt) = true := by simp
  refine wp_region_in G (HG.out _ _ (Wd.h _) (below_dr _)) (by kernel_rfl) (by kernel_rfl) ?_
  repeat (go_big_quiet_step (first | with_reducible exact (E1 _).out | with_reducible exact (E2 _).out | with_reducible exact (E3 _).out))
  refine wpQuiet_nil ?_
  intro wx hwx
  obtain ⟨n, rfl⟩ : ∃ n : Wd G, wx = n.w := ⟨⟨wx, hwx⟩, rfl⟩
  clear hwx
  clear E1 E2 E3
  go_wp2_with fail
  go_ret
  exact ⟨rfl, BG.out _⟩
end Go.Proofs.Ytdefpcjlbganpaa
