import Derived.Test.YtdefpcjlbganpaaRMeet
import Derived.WalkKit
import Derived.LoopTactic
import Derived.WalkSpells
import Derived.WalkLawsBesides
import Derived.Lib.Hide
import Derived.BigQuiet
import Derived.IntWalk
import Derived.Deep.DeepMust
import Derived.WalkSmall
import Derived.StillTailTactics
import Derived.Deep.RegionLaw
import Derived.Deep.RegionHeld3
import Derived.Deep.QuietTactic
import Derived.Deep.DeepCutAuto
import Derived.Laws.AppendOwn
import Derived.Deep.CutBlock
namespace Go.Proofs.Ytdefpcjlbganpaa
open Go.RowKit Go.BigFrame
attribute [local go_sem] World.cell?_alloc_some
set_option maxRecDepth 100000 in
set_option maxHeartbeats 16000000 in
/-- The law of segments as specified answers true. -/
theorem meetsLaw (s t : Sg) (p : Pt) (w : World) :
   Calls Try.prog 4 #[s.v, t.v, p.v] w fun e w' => e = .returned (.bool true) ∧ Below w.heap.size w w' := by
  have M1 := fun W => Meeting_any s t W
  have M2 := fun W => rMeeting_any s t W
  have O1 := fun W => On_any s p W
  have O2 := fun W => rOn_any s p W
  obtain ⟨M, hM⟩ : ∃ x, mtg s t = x := ⟨_, rfl⟩
  obtain ⟨z, hz⟩ : ∃ x, onS s p = x := ⟨_, rfl⟩
  simp only [hM] at M1 M2
  simp only [hz] at O1 O2
  clear hM hz
  have hzz : (z == z) = true := by simp
  go_enter Try.func4, Try.ntmps4
  go_wp2_with fail
  obtain ⟨W0, hW0⟩ : ∃ W0, (((w).alloc (.cells #[.int .i64 s.a.x, .int .i64 s.a.y, .int .i64 s.b.x, .int .i64 s.b.y] 31)).alloc (.cells #[.int .i64 t.a.x, .int .i64 t.a.y, .int .i64 t.b.x, .int .i64 t.b.y] 31)).alloc (.cells #[.int .i64 p.x, .int .i64 p.y] 23) = W0 := ⟨_, rfl⟩
  have S0 : St w W0 [(w.heap.size + 1 + 1, 0, .int .i64 p.x), (w.heap.size + 1 + 1, 1, .int .i64 p.y), (w.heap.size + 1, 0, .int .i64 t.a.x), (w.heap.size + 1, 1, .int .i64 t.a.y), (w.heap.size + 1, 2, .int .i64 t.b.x), (w.heap.size + 1, 3, .int .i64 t.b.y), (w.heap.size, 0, .int .i64 s.a.x), (w.heap.size, 1, .int .i64 s.a.y), (w.heap.size, 2, .int .i64 s.b.x), (w.heap.size, 3, .int .i64 s.b.y)] := by rw [← hW0]; exact ((((St.nil w)).box #[.int .i64 s.a.x, .int .i64 s.a.y, .int .i64 s.b.x, .int .i64 s.b.y] 31 (w.heap.size) (by simp)).box #[.int .i64 t.a.x, .int .i64 t.a.y, .int .i64 t.b.x, .int .i64 t.b.y] 31 (w.heap.size + 1) (by simp)).box #[.int .i64 p.x, .int .i64 p.y] 23 (w.heap.size + 1 + 1) (by simp)
  rw [hW0]
  clear hW0
  obtain ⟨C, hC0, HC, LC, BC, hne⟩ := cls S0
  haveI := hne
  obtain ⟨c0, rfl⟩ : ∃ n : Wd C, W0 = n.w := ⟨⟨_, hC0⟩, rfl⟩
  have fC0 : ∀ n : Wd C, n.w.cell? ⟨w.heap.size + 1 + 1, 0, none⟩ = some (.int .i64 p.x) := fun n => (LC.out n).1.2.1
  have fC1 : ∀ n : Wd C, n.w.cell? ⟨w.heap.size + 1 + 1, 1, none⟩ = some (.int .i64 p.y) := fun n => (LC.out n).2.1.2.1
  have fC2 : ∀ n : Wd C, n.w.cell? ⟨w.heap.size + 1, 0, none⟩ = some (.int .i64 t.a.x) := fun n => (LC.out n).2.2.1.2.1
  have fC3 : ∀ n : Wd C, n.w.cell? ⟨w.heap.size + 1, 1, none⟩ = some (.int .i64 t.a.y) := fun n => (LC.out n).2.2.2.1.2.1
  have fC4 : ∀ n : Wd C, n.w.cell? ⟨w.heap.size + 1, 2, none⟩ = some (.int .i64 t.b.x) := fun n => (LC.out n).2.2.2.2.1.2.1
  have fC5 : ∀ n : Wd C, n.w.cell? ⟨w.heap.size + 1, 3, none⟩ = some (.int .i64 t.b.y) := fun n => (LC.out n).2.2.2.2.2.1.2.1
  have fC6 : ∀ n : Wd C, n.w.cell? ⟨w.heap.size, 0, none⟩ = some (.int .i64 s.a.x) := fun n => (LC.out n).2.2.2.2.2.2.1.2.1
  have fC7 : ∀ n : Wd C, n.w.cell? ⟨w.heap.size, 1, none⟩ = some (.int .i64 s.a.y) := fun n => (LC.out n).2.2.2.2.2.2.2.1.2.1
  have fC8 : ∀ n : Wd C, n.w.cell? ⟨w.heap.size, 2, none⟩ = some (.int .i64 s.b.x) := fun n => (LC.out n).2.2.2.2.2.2.2.2.1.2.1
  have fC9 : ∀ n : Wd C, n.w.cell? ⟨w.heap.size, 3, none⟩ = some (.int .i64 s.b.y) := fun n => (LC.out n).2.2.2.2.2.2.2.2.2.1.2.1
  clear S0 hC0
  have D1 := cin HC M1
  have D2 := cin HC M2
  have D3 := cin HC O1
  have D4 := cin HC O2
  have DS := cin HC sanity_any
  clear M1 M2 O1 O2
  refine wp_region_in C (HC.out _ _ (Wd.h _) (below_dr _)) (by kernel_rfl) (by kernel_rfl) ?_
  repeat (go_big_quiet_step (first | with_reducible exact (D1 _).out | with_reducible exact (D2 _).out | with_reducible exact (D3 _).out | with_reducible exact (D4 _).out | with_reducible exact (DS _).out))
  refine wpQuiet_nil ?_
  intro wx hwx
  obtain ⟨n1, rfl⟩ : ∃ n : Wd C, wx = n.w := ⟨⟨wx, hwx⟩, rfl⟩
  clear hwx
  go_wp2_with fail
  go_ret
  exact ⟨rfl, BC.out _⟩
end Go.Proofs.Ytdefpcjlbganpaa
