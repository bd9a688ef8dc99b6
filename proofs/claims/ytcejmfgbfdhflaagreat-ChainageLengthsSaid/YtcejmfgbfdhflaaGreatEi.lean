import Derived.Test.YtcejmfgbfdhflaaGreatEh
import Derived.WalkKit
import Derived.LoopTactic
import Derived.WalkSpells
import Derived.WalkLawsBesides
import Derived.Lib.Hide
import Derived.BigQuiet
import Derived.IntWalk
import Derived.Deep.DeepMust
import Derived.WalkSmall
import Derived.StillTailTactics
import Derived.Deep.RegionLaw
import Derived.Deep.RegionHeld3
import Derived.Deep.QuietTactic
namespace Go.Proofs.YtcejmfgbfdhflaaGreat
open Go.RowKit Go.BigFrame Go.Sort
attribute [local go_sem] World.cell?_alloc_some
set_option maxRecDepth 100000 in
set_option maxHeartbeats 3200000 in
theorem rLong31_any (x : WA) (ch y : Int) (w : World) (h : x.At w) :
    Calls Tryz.prog 31 #[x.v, .int .i64 ch, .int .i64 y] w fun e w' => e = .returned (.tuple #[spv (lgLo x ch y) (lgHi x ch y), .int .i64 (agE x ch y)]) ∧ Below w.heap.size w w' := by
  have K1 := fun W (hb : Below w.heap.size w W) => known_any x ch y W (h.keep hb)
  obtain ⟨A, hA⟩ : ∃ A, lgLo x ch y = A := ⟨_, rfl⟩
  obtain ⟨B1, hB1⟩ : ∃ B, lgHi x ch y = B := ⟨_, rfl⟩
  obtain ⟨LA, hLA⟩ : ∃ B, rsLo x ch y = B := ⟨_, rfl⟩
  obtain ⟨LB, hLB⟩ : ∃ B, rsHi x ch y = B := ⟨_, rfl⟩
  obtain ⟨E, hE⟩ : ∃ E, agE x ch y = E := ⟨_, rfl⟩
  rw [hA, hB1, hE]
  simp only [hA, hB1, hE, hLA, hLB] at K1
  clear h hA hB1 hE hLA hLB
  obtain ⟨cs, ps, rs, q1, q2, q3, c1, c2, c3⟩ := x
  simp only [WA.v] at *
  go_enter Tryz.func31, Tryz.ntmps31
  go_upto_region 1 with fail
  obtain ⟨W0, hW0⟩ : ∃ W0, ((w).alloc (.cells #[.slice q1 cs.length c1, .slice q2 ps.length c2, .slice q3 rs.length c3] 26)).alloc (.cells #[.int .i64 0, .int .i64 0] 30) = W0 := ⟨_, rfl⟩
  have S0 : St w W0 [(w.heap.size + 1, 0, .int .i64 0), (w.heap.size + 1, 1, .int .i64 0), (w.heap.size, 0, .slice q1 cs.length c1), (w.heap.size, 1, .slice q2 ps.length c2), (w.heap.size, 2, .slice q3 rs.length c3)] := by rw [← hW0]; exact (((St.nil w)).box #[.slice q1 cs.length c1, .slice q2 ps.length c2, .slice q3 rs.length c3] 26 (w.heap.size) (by simp)).box #[.int .i64 0, .int .i64 0] 30 (w.heap.size + 1) (by simp)
  rw [hW0]
  clear hW0
  obtain ⟨C, hC0, HC, LC, BC, hne⟩ := cls S0
  haveI := hne
  obtain ⟨c0, rfl⟩ : ∃ n : Wd C, W0 = n.w := ⟨⟨_, hC0⟩, rfl⟩
  have fC0 : ∀ n : Wd C, n.w.cell? ⟨w.heap.size + 1, 0, none⟩ = some (.int .i64 0) := fun n => (LC.out n).1.2.1
  have zC0 : ∀ n : Wd C, n.w.frozen? ⟨w.heap.size + 1, 0, none⟩ = false := fun n => (LC.out n).1.2.2
  have fC1 : ∀ n : Wd C, n.w.cell? ⟨w.heap.size + 1, 1, none⟩ = some (.int .i64 0) := fun n => (LC.out n).2.1.2.1
  have zC1 : ∀ n : Wd C, n.w.frozen? ⟨w.heap.size + 1, 1, none⟩ = false := fun n => (LC.out n).2.1.2.2
  have fC2 : ∀ n : Wd C, n.w.cell? ⟨w.heap.size, 0, none⟩ = some (.slice q1 cs.length c1) := fun n => (LC.out n).2.2.1.2.1
  have zC2 : ∀ n : Wd C, n.w.frozen? ⟨w.heap.size, 0, none⟩ = false := fun n => (LC.out n).2.2.1.2.2
  have fC3 : ∀ n : Wd C, n.w.cell? ⟨w.heap.size, 1, none⟩ = some (.slice q2 ps.length c2) := fun n => (LC.out n).2.2.2.1.2.1
  have zC3 : ∀ n : Wd C, n.w.frozen? ⟨w.heap.size, 1, none⟩ = false := fun n => (LC.out n).2.2.2.1.2.2
  have fC4 : ∀ n : Wd C, n.w.cell? ⟨w.heap.size, 2, none⟩ = some (.slice q3 rs.length c3) := fun n => (LC.out n).2.2.2.2.1.2.1
  have zC4 : ∀ n : Wd C, n.w.frozen? ⟨w.heap.size, 2, none⟩ = false := fun n => (LC.out n).2.2.2.2.1.2.2
  clear S0 hC0
  have D1 := cinL HC BC K1
  clear K1
  go_upto_region 2 with (first | first | (go_at_call 101; with_reducible refine (D1 _).out.mono ?_; rintro e w' ⟨rfl, n, rfl⟩))
  obtain ⟨W0, hW0⟩ : ∃ W0, (n.w).alloc (.cells #[.int .i64 A, .int .i64 B1, .int .i64 LA, .int .i64 LB, .int .i64 E] 144) = W0 := ⟨_, rfl⟩
  have S0 : St w W0 [(n.w.heap.size, 0, .int .i64 A), (n.w.heap.size, 1, .int .i64 B1), (n.w.heap.size, 2, .int .i64 LA), (n.w.heap.size, 3, .int .i64 LB), (n.w.heap.size, 4, .int .i64 E), (w.heap.size + 1, 0, .int .i64 0), (w.heap.size + 1, 1, .int .i64 0), (w.heap.size, 0, .slice q1 cs.length c1), (w.heap.size, 1, .slice q2 ps.length c2), (w.heap.size, 2, .slice q3 rs.length c3)] := by rw [← hW0]; exact ((⟨BC.out n, LC.out n⟩ : St w n.w _)).box #[.int .i64 A, .int .i64 B1, .int .i64 LA, .int .i64 LB, .int .i64 E] 144 (n.w.heap.size) (by simp)
  rw [hW0]
  clear hW0
  obtain ⟨kD, hkk⟩ : ∃ k, n.w.heap.size = k := ⟨_, rfl⟩
  have gkD : w.heap.size ≤ kD := by rw [← hkk]; exact (BC.out n).size
  rw [hkk] at S0 ⊢
  have eD1 : kD ≠ w.heap.size + 1 := by have h := (LC.out n).1.1; omega
  have dD1 : w.heap.size + 1 ≠ kD := Ne.symm eD1
  have eD2 : kD ≠ w.heap.size := by have h := (LC.out n).2.2.1.1; omega
  have dD2 : w.heap.size ≠ kD := Ne.symm eD2
  clear hkk
  obtain ⟨D, hC0, HD, LD, BD, hne⟩ := cls S0
  haveI := hne
  obtain ⟨d0, rfl⟩ : ∃ n : Wd D, W0 = n.w := ⟨⟨_, hC0⟩, rfl⟩
  have fD0 : ∀ n : Wd D, n.w.cell? ⟨kD, 0, none⟩ = some (.int .i64 A) := fun n => (LD.out n).1.2.1
  have fD1 : ∀ n : Wd D, n.w.cell? ⟨kD, 1, none⟩ = some (.int .i64 B1) := fun n => (LD.out n).2.1.2.1
  have fD2 : ∀ n : Wd D, n.w.cell? ⟨kD, 2, none⟩ = some (.int .i64 LA) := fun n => (LD.out n).2.2.1.2.1
  have fD3 : ∀ n : Wd D, n.w.cell? ⟨kD, 3, none⟩ = some (.int .i64 LB) := fun n => (LD.out n).2.2.2.1.2.1
  have fD4 : ∀ n : Wd D, n.w.cell? ⟨kD, 4, none⟩ = some (.int .i64 E) := fun n => (LD.out n).2.2.2.2.1.2.1
  have fD5 : ∀ n : Wd D, n.w.cell? ⟨w.heap.size + 1, 0, none⟩ = some (.int .i64 0) := fun n => (LD.out n).2.2.2.2.2.1.2.1
  have zD5 : ∀ n : Wd D, n.w.frozen? ⟨w.heap.size + 1, 0, none⟩ = false := fun n => (LD.out n).2.2.2.2.2.1.2.2
  have fD6 : ∀ n : Wd D, n.w.cell? ⟨w.heap.size + 1, 1, none⟩ = some (.int .i64 0) := fun n => (LD.out n).2.2.2.2.2.2.1.2.1
  have zD6 : ∀ n : Wd D, n.w.frozen? ⟨w.heap.size + 1, 1, none⟩ = false := fun n => (LD.out n).2.2.2.2.2.2.1.2.2
  have fD7 : ∀ n : Wd D, n.w.cell? ⟨w.heap.size, 0, none⟩ = some (.slice q1 cs.length c1) := fun n => (LD.out n).2.2.2.2.2.2.2.1.2.1
  have zD7 : ∀ n : Wd D, n.w.frozen? ⟨w.heap.size, 0, none⟩ = false := fun n => (LD.out n).2.2.2.2.2.2.2.1.2.2
  have fD8 : ∀ n : Wd D, n.w.cell? ⟨w.heap.size, 1, none⟩ = some (.slice q2 ps.length c2) := fun n => (LD.out n).2.2.2.2.2.2.2.2.1.2.1
  have zD8 : ∀ n : Wd D, n.w.frozen? ⟨w.heap.size, 1, none⟩ = false := fun n => (LD.out n).2.2.2.2.2.2.2.2.1.2.2
  have fD9 : ∀ n : Wd D, n.w.cell? ⟨w.heap.size, 2, none⟩ = some (.slice q3 rs.length c3) := fun n => (LD.out n).2.2.2.2.2.2.2.2.2.1.2.1
  have zD9 : ∀ n : Wd D, n.w.frozen? ⟨w.heap.size, 2, none⟩ = false := fun n => (LD.out n).2.2.2.2.2.2.2.2.2.1.2.2
  clear S0 hC0
  have hsz : w.heap.size + 1 < d0.w.heap.size := (LD.out d0).2.2.2.2.2.1.1
  clear D1
  go_region
  go_wp2_with fail
  refine bodyPost_ret (v := .tuple #[spv A B1, .int .i64 E]) (by simp [results, Tryz.results31, go_sem, fD5, fD6]) rfl ⟨rfl, ?_⟩
  exact (below_grownB (BD.out d0) (Nat.le_succ _) (grown_trans (set_grown _ _ _ _) (set_grown _ _ _ _))).drew
set_option maxRecDepth 100000 in
set_option maxHeartbeats 3200000 in
theorem rRests33_any (x : WA) (ch y : Int) (w : World) (h : x.At w) :
    Calls Tryz.prog 33 #[x.v, .int .i64 ch, .int .i64 y] w fun e w' => e = .returned (.tuple #[.int .i64 (rsLo x ch y), .int .i64 (rsHi x ch y), .int .i64 (agE x ch y)]) ∧ Below w.heap.size w w' := by
  have K1 := fun W (hb : Below w.heap.size w W) => known_any x ch y W (h.keep hb)
  obtain ⟨A, hA⟩ : ∃ A, lgLo x ch y = A := ⟨_, rfl⟩
  obtain ⟨B1, hB1⟩ : ∃ B, lgHi x ch y = B := ⟨_, rfl⟩
  obtain ⟨LA, hLA⟩ : ∃ B, rsLo x ch y = B := ⟨_, rfl⟩
  obtain ⟨LB, hLB⟩ : ∃ B, rsHi x ch y = B := ⟨_, rfl⟩
  obtain ⟨E, hE⟩ : ∃ E, agE x ch y = E := ⟨_, rfl⟩
  rw [hLA, hLB, hE]
  simp only [hA, hB1, hE, hLA, hLB] at K1
  clear h hA hB1 hE hLA hLB
  obtain ⟨cs, ps, rs, q1, q2, q3, c1, c2, c3⟩ := x
  simp only [WA.v] at *
  go_enter Tryz.func33, Tryz.ntmps33
  go_upto_region 1 with fail
  obtain ⟨W0, hW0⟩ : ∃ W0, (w).alloc (.cells #[.slice q1 cs.length c1, .slice q2 ps.length c2, .slice q3 rs.length c3] 26) = W0 := ⟨_, rfl⟩
  have S0 : St w W0 [(w.heap.size, 0, .slice q1 cs.length c1), (w.heap.size, 1, .slice q2 ps.length c2), (w.heap.size, 2, .slice q3 rs.length c3)] := by rw [← hW0]; exact ((St.nil w)).box #[.slice q1 cs.length c1, .slice q2 ps.length c2, .slice q3 rs.length c3] 26 (w.heap.size) (by simp)
  rw [hW0]
  clear hW0
  obtain ⟨C, hC0, HC, LC, BC, hne⟩ := cls S0
  haveI := hne
  obtain ⟨c0, rfl⟩ : ∃ n : Wd C, W0 = n.w := ⟨⟨_, hC0⟩, rfl⟩
  have fC0 : ∀ n : Wd C, n.w.cell? ⟨w.heap.size, 0, none⟩ = some (.slice q1 cs.length c1) := fun n => (LC.out n).1.2.1
  have zC0 : ∀ n : Wd C, n.w.frozen? ⟨w.heap.size, 0, none⟩ = false := fun n => (LC.out n).1.2.2
  have fC1 : ∀ n : Wd C, n.w.cell? ⟨w.heap.size, 1, none⟩ = some (.slice q2 ps.length c2) := fun n => (LC.out n).2.1.2.1
  have zC1 : ∀ n : Wd C, n.w.frozen? ⟨w.heap.size, 1, none⟩ = false := fun n => (LC.out n).2.1.2.2
  have fC2 : ∀ n : Wd C, n.w.cell? ⟨w.heap.size, 2, none⟩ = some (.slice q3 rs.length c3) := fun n => (LC.out n).2.2.1.2.1
  have zC2 : ∀ n : Wd C, n.w.frozen? ⟨w.heap.size, 2, none⟩ = false := fun n => (LC.out n).2.2.1.2.2
  clear S0 hC0
  have D1 := cinL HC BC K1
  clear K1
  go_upto_region 2 with (first | first | (go_at_call 101; with_reducible refine (D1 _).out.mono ?_; rintro e w' ⟨rfl, n, rfl⟩))
  obtain ⟨W0, hW0⟩ : ∃ W0, (n.w).alloc (.cells #[.int .i64 A, .int .i64 B1, .int .i64 LA, .int .i64 LB, .int .i64 E] 144) = W0 := ⟨_, rfl⟩
  have S0 : St w W0 [(n.w.heap.size, 0, .int .i64 A), (n.w.heap.size, 1, .int .i64 B1), (n.w.heap.size, 2, .int .i64 LA), (n.w.heap.size, 3, .int .i64 LB), (n.w.heap.size, 4, .int .i64 E), (w.heap.size, 0, .slice q1 cs.length c1), (w.heap.size, 1, .slice q2 ps.length c2), (w.heap.size, 2, .slice q3 rs.length c3)] := by rw [← hW0]; exact ((⟨BC.out n, LC.out n⟩ : St w n.w _)).box #[.int .i64 A, .int .i64 B1, .int .i64 LA, .int .i64 LB, .int .i64 E] 144 (n.w.heap.size) (by simp)
  rw [hW0]
  clear hW0
  obtain ⟨kD, hkk⟩ : ∃ k, n.w.heap.size = k := ⟨_, rfl⟩
  have gkD : w.heap.size ≤ kD := by rw [← hkk]; exact (BC.out n).size
  rw [hkk] at S0 ⊢
  have eD1 : kD ≠ w.heap.size := by have h := (LC.out n).1.1; omega
  have dD1 : w.heap.size ≠ kD := Ne.symm eD1
  clear hkk
  obtain ⟨D, hC0, HD, LD, BD, hne⟩ := cls S0
  haveI := hne
  obtain ⟨d0, rfl⟩ : ∃ n : Wd D, W0 = n.w := ⟨⟨_, hC0⟩, rfl⟩
  have fD0 : ∀ n : Wd D, n.w.cell? ⟨kD, 0, none⟩ = some (.int .i64 A) := fun n => (LD.out n).1.2.1
  have fD1 : ∀ n : Wd D, n.w.cell? ⟨kD, 1, none⟩ = some (.int .i64 B1) := fun n => (LD.out n).2.1.2.1
  have fD2 : ∀ n : Wd D, n.w.cell? ⟨kD, 2, none⟩ = some (.int .i64 LA) := fun n => (LD.out n).2.2.1.2.1
  have fD3 : ∀ n : Wd D, n.w.cell? ⟨kD, 3, none⟩ = some (.int .i64 LB) := fun n => (LD.out n).2.2.2.1.2.1
  have fD4 : ∀ n : Wd D, n.w.cell? ⟨kD, 4, none⟩ = some (.int .i64 E) := fun n => (LD.out n).2.2.2.2.1.2.1
  have fD5 : ∀ n : Wd D, n.w.cell? ⟨w.heap.size, 0, none⟩ = some (.slice q1 cs.length c1) := fun n => (LD.out n).2.2.2.2.2.1.2.1
  have zD5 : ∀ n : Wd D, n.w.frozen? ⟨w.heap.size, 0, none⟩ = false := fun n => (LD.out n).2.2.2.2.2.1.2.2
  have fD6 : ∀ n : Wd D, n.w.cell? ⟨w.heap.size, 1, none⟩ = some (.slice q2 ps.length c2) := fun n => (LD.out n).2.2.2.2.2.2.1.2.1
  have zD6 : ∀ n : Wd D, n.w.frozen? ⟨w.heap.size, 1, none⟩ = false := fun n => (LD.out n).2.2.2.2.2.2.1.2.2
  have fD7 : ∀ n : Wd D, n.w.cell? ⟨w.heap.size, 2, none⟩ = some (.slice q3 rs.length c3) := fun n => (LD.out n).2.2.2.2.2.2.2.1.2.1
  have zD7 : ∀ n : Wd D, n.w.frozen? ⟨w.heap.size, 2, none⟩ = false := fun n => (LD.out n).2.2.2.2.2.2.2.1.2.2
  clear S0 hC0
  clear D1
  refine wp_region_in D (HD.out _ _ (Wd.h _) (below_dr _)) (by kernel_rfl) (by kernel_rfl) ?_
  repeat (go_big_quiet_step (first | fail))
  refine wpQuiet_nil ?_
  intro wx hwx
  obtain ⟨n2, rfl⟩ : ∃ n : Wd D, wx = n.w := ⟨⟨wx, hwx⟩, rfl⟩
  clear hwx
  go_wp2_with fail
  refine bodyPost_ret (v := .tuple #[.int .i64 LA, .int .i64 LB, .int .i64 E]) (by simp [results, Tryz.results33, go_sem]) rfl ⟨rfl, ?_⟩
  exact BD.out _
end Go.Proofs.YtcejmfgbfdhflaaGreat
