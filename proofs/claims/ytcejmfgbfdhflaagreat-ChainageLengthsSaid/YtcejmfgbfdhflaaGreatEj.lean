import Derived.Test.YtcejmfgbfdhflaaGreatEi
import Derived.Test.YtcejmfgbfdhflaaGreatQe
import Derived.WalkKit
import Derived.LoopTactic
import Derived.WalkSpells
import Derived.WalkLawsBesides
import Derived.Lib.Hide
import Derived.BigQuiet
import Derived.IntWalk
import Derived.Deep.DeepMust
import Derived.WalkSmall
import Derived.StillTailTactics
import Derived.Deep.RegionLaw
import Derived.Deep.RegionHeld3
import Derived.Deep.QuietTactic
namespace Go.Proofs.YtcejmfgbfdhflaaGreat
open Go.RowKit Go.Shelf Go.BigFrame Go.Sort
attribute [local go_sem] World.cell?_alloc_some
set_option maxRecDepth 100000 in
set_option maxHeartbeats 6400000 in
theorem chainageLengths_law (x : WA) (ch y : Int) (w : World) (n1 : x.cs.length ≤ 140737488355327) (n2 : x.ps.length ≤ 140737488355327) (n3 : x.rs.length ≤ 140737488355327) (h : fewB x = true → x.At w) : Calls Tryz.prog 5 #[x.v, .int .i64 ch, .int .i64 y] w fun e w' => e = .returned (.bool true) ∧ Below w.heap.size w w' := by
  have K1 := fun W => few_any x W n1 n2 n3
  have KS := fun W => sanity_any W
  have K2 : fewB x = true → ∀ W, Below w.heap.size w W → _ := fun e W hb => Long_any x ch y W ((h e).keep hb)
  have K3 : fewB x = true → ∀ W, Below w.heap.size w W → _ := fun e W hb => rLong31_any x ch y W ((h e).keep hb)
  have K4 : fewB x = true → ∀ W, Below w.heap.size w W → _ := fun e W hb => Rests_any x ch y W ((h e).keep hb)
  have K5 : fewB x = true → ∀ W, Below w.heap.size w W → _ := fun e W hb => rRests33_any x ch y W ((h e).keep hb)
  obtain ⟨A, hA⟩ : ∃ A, lgLo x ch y = A := ⟨_, rfl⟩
  obtain ⟨B1, hB1⟩ : ∃ B, lgHi x ch y = B := ⟨_, rfl⟩
  obtain ⟨LA, hLA⟩ : ∃ B, rsLo x ch y = B := ⟨_, rfl⟩
  obtain ⟨LB, hLB⟩ : ∃ B, rsHi x ch y = B := ⟨_, rfl⟩
  obtain ⟨E, hE⟩ : ∃ E, agE x ch y = E := ⟨_, rfl⟩
  obtain ⟨z, hz⟩ : ∃ z, fewB x = z := ⟨_, rfl⟩
  simp only [hz] at K1
  simp only [hA, hB1, hE, hz] at K2 K3
  simp only [hLA, hLB, hE, hz] at K4 K5
  clear hA hB1 hE hLA hLB hz h n1 n2 n3
  obtain ⟨cs, ps, rs, q1, q2, q3, c1, c2, c3⟩ := x
  simp only [WA.v] at *
  go_enter Tryz.func5, Tryz.ntmps5
  go_upto_region 1 with fail
  obtain ⟨W0, hW0⟩ : ∃ W0, (w).alloc (.cells #[.slice q1 cs.length c1, .slice q2 ps.length c2, .slice q3 rs.length c3] 26) = W0 := ⟨_, rfl⟩
  have S0 : St w W0 [(w.heap.size, 0, .slice q1 cs.length c1), (w.heap.size, 1, .slice q2 ps.length c2), (w.heap.size, 2, .slice q3 rs.length c3)] := by rw [← hW0]; exact ((St.nil w)).box #[.slice q1 cs.length c1, .slice q2 ps.length c2, .slice q3 rs.length c3] 26 (w.heap.size) (by simp)
  rw [hW0]
  clear hW0
  obtain ⟨C, hC0, HC, LC, BC, hne⟩ := cls S0
  haveI := hne
  obtain ⟨c0, rfl⟩ : ∃ n : Wd C, W0 = n.w := ⟨⟨_, hC0⟩, rfl⟩
  have fC0 : ∀ n : Wd C, n.w.cell? ⟨w.heap.size, 0, none⟩ = some (.slice q1 cs.length c1) := fun n => (LC.out n).1.2.1
  have fC1 : ∀ n : Wd C, n.w.cell? ⟨w.heap.size, 1, none⟩ = some (.slice q2 ps.length c2) := fun n => (LC.out n).2.1.2.1
  have fC2 : ∀ n : Wd C, n.w.cell? ⟨w.heap.size, 2, none⟩ = some (.slice q3 rs.length c3) := fun n => (LC.out n).2.2.1.2.1
  clear S0 hC0
  have D1 := cin HC K1
  have DS := cin HC KS
  clear K1
  cases z
  · go_wp2_with (first | first | (go_at_call 19; with_reducible refine (D1 _).out.mono ?_; rintro e w' ⟨rfl, n, rfl⟩) | (go_at_call 20; with_reducible refine (DS _).out.mono ?_; rintro e w' ⟨rfl, n, rfl⟩))
    go_ret
    exact ⟨rfl, BC.out _⟩
  · have D2 := cinL HC BC (K2 (by first | rfl | trivial))
    go_upto_region 3 with (first | first | (go_at_call 19; with_reducible refine (D1 _).out.mono ?_; rintro e w' ⟨rfl, n, rfl⟩))
    go_upto_region 4 with (first | first | (go_at_call 30; with_reducible refine (D2 _).out.mono ?_; rintro e w' ⟨rfl, n, rfl⟩))
    obtain ⟨W0, hW0⟩ : ∃ W0, (n.w).alloc (.cells #[.int .i64 A, .int .i64 B1] 30) = W0 := ⟨_, rfl⟩
    have S0 : St w W0 [(n.w.heap.size, 0, .int .i64 A), (n.w.heap.size, 1, .int .i64 B1), (w.heap.size, 0, .slice q1 cs.length c1), (w.heap.size, 1, .slice q2 ps.length c2), (w.heap.size, 2, .slice q3 rs.length c3)] := by rw [← hW0]; exact ((⟨BC.out n, LC.out n⟩ : St w n.w _)).box #[.int .i64 A, .int .i64 B1] 30 (n.w.heap.size) (by simp)
    rw [hW0]
    clear hW0
    obtain ⟨kD, hkk⟩ : ∃ k, n.w.heap.size = k := ⟨_, rfl⟩
    have gkD : w.heap.size ≤ kD := by rw [← hkk]; exact (BC.out n).size
    rw [hkk] at S0 ⊢
    clear hkk
    obtain ⟨D, hC0, HD, LD, BD, hne⟩ := cls S0
    haveI := hne
    obtain ⟨d0, rfl⟩ : ∃ n : Wd D, W0 = n.w := ⟨⟨_, hC0⟩, rfl⟩
    have fD0 : ∀ n : Wd D, n.w.cell? ⟨kD, 0, none⟩ = some (.int .i64 A) := fun n => (LD.out n).1.2.1
    have fD1 : ∀ n : Wd D, n.w.cell? ⟨kD, 1, none⟩ = some (.int .i64 B1) := fun n => (LD.out n).2.1.2.1
    have fD2 : ∀ n : Wd D, n.w.cell? ⟨w.heap.size, 0, none⟩ = some (.slice q1 cs.length c1) := fun n => (LD.out n).2.2.1.2.1
    have fD3 : ∀ n : Wd D, n.w.cell? ⟨w.heap.size, 1, none⟩ = some (.slice q2 ps.length c2) := fun n => (LD.out n).2.2.2.1.2.1
    have fD4 : ∀ n : Wd D, n.w.cell? ⟨w.heap.size, 2, none⟩ = some (.slice q3 rs.length c3) := fun n => (LD.out n).2.2.2.2.1.2.1
    clear S0 hC0
    have D3 := cinL HD BD (K3 (by first | rfl | trivial))
    clear D1 D2 DS K2 K3
    go_upto_region 5 with (first | first | (go_at_call 31; with_reducible refine (D3 _).out.mono ?_; rintro e w' ⟨rfl, n, rfl⟩))
    obtain ⟨W0, hW0⟩ : ∃ W0, (n.w).alloc (.cells #[.int .i64 A, .int .i64 B1] 30) = W0 := ⟨_, rfl⟩
    have S0 : St w W0 [(n.w.heap.size, 0, .int .i64 A), (n.w.heap.size, 1, .int .i64 B1), (kD, 0, .int .i64 A), (kD, 1, .int .i64 B1), (w.heap.size, 0, .slice q1 cs.length c1), (w.heap.size, 1, .slice q2 ps.length c2), (w.heap.size, 2, .slice q3 rs.length c3)] := by rw [← hW0]; exact ((⟨BD.out n, LD.out n⟩ : St w n.w _)).box #[.int .i64 A, .int .i64 B1] 30 (n.w.heap.size) (by simp)
    rw [hW0]
    clear hW0
    obtain ⟨kF, hkk⟩ : ∃ k, n.w.heap.size = k := ⟨_, rfl⟩
    have gkF : w.heap.size ≤ kF := by rw [← hkk]; exact (BD.out n).size
    rw [hkk] at S0 ⊢
    clear hkk
    obtain ⟨F, hC0, HF, LF, BF, hne⟩ := cls S0
    haveI := hne
    obtain ⟨f0, rfl⟩ : ∃ n : Wd F, W0 = n.w := ⟨⟨_, hC0⟩, rfl⟩
    have fF0 : ∀ n : Wd F, n.w.cell? ⟨kF, 0, none⟩ = some (.int .i64 A) := fun n => (LF.out n).1.2.1
    have fF1 : ∀ n : Wd F, n.w.cell? ⟨kF, 1, none⟩ = some (.int .i64 B1) := fun n => (LF.out n).2.1.2.1
    have fF2 : ∀ n : Wd F, n.w.cell? ⟨kD, 0, none⟩ = some (.int .i64 A) := fun n => (LF.out n).2.2.1.2.1
    have fF3 : ∀ n : Wd F, n.w.cell? ⟨kD, 1, none⟩ = some (.int .i64 B1) := fun n => (LF.out n).2.2.2.1.2.1
    have fF4 : ∀ n : Wd F, n.w.cell? ⟨w.heap.size, 0, none⟩ = some (.slice q1 cs.length c1) := fun n => (LF.out n).2.2.2.2.1.2.1
    have fF5 : ∀ n : Wd F, n.w.cell? ⟨w.heap.size, 1, none⟩ = some (.slice q2 ps.length c2) := fun n => (LF.out n).2.2.2.2.2.1.2.1
    have fF6 : ∀ n : Wd F, n.w.cell? ⟨w.heap.size, 2, none⟩ = some (.slice q3 rs.length c3) := fun n => (LF.out n).2.2.2.2.2.2.1.2.1
    clear S0 hC0
    have D4 := cinL HF BF (K4 (by first | rfl | trivial))
    have D5 := cinL HF BF (K5 (by first | rfl | trivial))
    have D6 := cin HF KS
    clear D3 K4 K5 KS
    go_wp2_with (first | first | (go_at_call 32; with_reducible refine (D4 _).out.mono ?_; rintro e w' ⟨rfl, n, rfl⟩) | (go_at_call 33; with_reducible refine (D5 _).out.mono ?_; rintro e w' ⟨rfl, n, rfl⟩) | (go_at_call 20; with_reducible refine (D6 _).out.mono ?_; rintro e w' ⟨rfl, n, rfl⟩))
    go_ret
    exact ⟨rfl, BF.out _⟩
end Go.Proofs.YtcejmfgbfdhflaaGreat
