import Derived.Test.YtcejmfgbfdhflaaGreatEk
import Derived.WalkKit
import Derived.LoopTactic
import Derived.WalkSpells
import Derived.WalkLawsBesides
import Derived.Lib.Hide
import Derived.BigQuiet
import Derived.IntWalk
import Derived.Deep.DeepMust
import Derived.WalkSmall
import Derived.StillTailTactics
import Derived.Deep.RegionLaw
import Derived.Deep.RegionHeld3
import Derived.Deep.QuietTactic
namespace Go.Proofs.YtcejmfgbfdhflaaGreat
open Go.RowKit Go.BigFrame Go.Sort
attribute [local go_sem] World.cell?_alloc_some
set_option maxRecDepth 100000 in
set_option maxHeartbeats 6400000 in
theorem rDistance_any (x : WA) (m : Ms) (w : World) (h : x.At w) :
    Calls Tryz.prog 50 #[x.v, m.v] w fun e w' => e = .returned (.tuple #[spv (dsLo x m) (dsHi x m), .int .i64 (dsE x m)]) ∧ Below w.heap.size w w' := by
  have K1 := fun W (hb : Below w.heap.size w W) => rMeasured_any x m W (h.keep hb)
  have K2 := fun W (hb : Below w.heap.size w W) => rLong31_any x m.ch m.year W (h.keep hb)
  have hde := dsE_eq x m
  have K3 : Hid (dsE x m = 0 → ∀ W, Calls Tryz.prog 128 #[m.v, spv (lgLo x m.ch m.year) (lgHi x m.ch m.year)] W fun e w' => e = .returned (spv (dsLo x m) (dsHi x m)) ∧ Below W.heap.size W w') := fun e W => by
    obtain ⟨h1, h2, h3⟩ := dsE_zero e
    obtain ⟨b1, b2, b3⟩ := okMs_bd h2
    obtain ⟨b4, b5⟩ := lg_bd h3
    have := rLinks_any m (lgLo x m.ch m.year) (lgHi x m.ch m.year) W b1 b2 b3 b4 b5
    unfold dsLo dsHi
    rw [if_pos e, if_pos e]; exact this
  have HZ : Hid (dsE x m ≠ 0 → dsLo x m = 0 ∧ dsHi x m = 0) := fun e => by unfold dsLo dsHi; rw [if_neg e, if_neg e]; exact ⟨rfl, rfl⟩
  obtain ⟨A, hA⟩ : ∃ A, dsLo x m = A := ⟨_, rfl⟩
  obtain ⟨B1, hB1⟩ : ∃ B, dsHi x m = B := ⟨_, rfl⟩
  obtain ⟨E, hE⟩ : ∃ E, dsE x m = E := ⟨_, rfl⟩
  obtain ⟨k, hk⟩ : ∃ E, msE x m = E := ⟨_, rfl⟩
  obtain ⟨g, hg⟩ : ∃ E, agE x m.ch m.year = E := ⟨_, rfl⟩
  obtain ⟨a, ha⟩ : ∃ E, lgLo x m.ch m.year = E := ⟨_, rfl⟩
  obtain ⟨b, hb⟩ : ∃ E, lgHi x m.ch m.year = E := ⟨_, rfl⟩
  rw [hE, hk, hg] at hde
  rw [hA, hB1, hE] at HZ
  simp only [hA, hB1, hE, ha, hb] at K3
  simp only [hk] at K1
  simp only [ha, hb, hg] at K2
  rw [hA, hB1, hE]
  have HE := Lib.hid hde
  clear h hde hA hB1 hE hk hg ha hb
  obtain ⟨cs, ps, rs, q1, q2, q3, c1, c2, c3⟩ := x
  obtain ⟨m1, m2, m3, m4, m5⟩ := m
  simp only [WA.v, Ms.v] at *
  go_enter Tryz.func50, Tryz.ntmps50
  go_upto_region 1 with fail
  obtain ⟨W0, hW0⟩ : ∃ W0, (((w).alloc (.cells #[.slice q1 cs.length c1, .slice q2 ps.length c2, .slice q3 rs.length c3] 26)).alloc (.cells #[.int .i64 (m1), .int .i64 (m2), .int .i64 (m3), .int .i64 (m4), .int .i64 (m5)] 73)).alloc (.cells #[.int .i64 0, .int .i64 0] 30) = W0 := ⟨_, rfl⟩
  have S0 : St w W0 [(w.heap.size + 1 + 1, 0, .int .i64 0), (w.heap.size + 1 + 1, 1, .int .i64 0), (w.heap.size + 1, 0, .int .i64 (m1)), (w.heap.size + 1, 1, .int .i64 (m2)), (w.heap.size + 1, 2, .int .i64 (m3)), (w.heap.size + 1, 3, .int .i64 (m4)), (w.heap.size + 1, 4, .int .i64 (m5)), (w.heap.size, 0, .slice q1 cs.length c1), (w.heap.size, 1, .slice q2 ps.length c2), (w.heap.size, 2, .slice q3 rs.length c3)] := by rw [← hW0]; exact ((((St.nil w)).box #[.slice q1 cs.length c1, .slice q2 ps.length c2, .slice q3 rs.length c3] 26 (w.heap.size) (by simp)).box #[.int .i64 (m1), .int .i64 (m2), .int .i64 (m3), .int .i64 (m4), .int .i64 (m5)] 73 (w.heap.size + 1) (by simp)).box #[.int .i64 0, .int .i64 0] 30 (w.heap.size + 1 + 1) (by simp)
  rw [hW0]
  clear hW0
  obtain ⟨C, hC0, HC, LC, BC, hne⟩ := cls S0
  haveI := hne
  obtain ⟨c0, rfl⟩ : ∃ n : Wd C, W0 = n.w := ⟨⟨_, hC0⟩, rfl⟩
  have fC0 : ∀ n : Wd C, n.w.cell? ⟨w.heap.size + 1 + 1, 0, none⟩ = some (.int .i64 0) := fun n => (LC.out n).1.2.1
  have zC0 : ∀ n : Wd C, n.w.frozen? ⟨w.heap.size + 1 + 1, 0, none⟩ = false := fun n => (LC.out n).1.2.2
  have fC1 : ∀ n : Wd C, n.w.cell? ⟨w.heap.size + 1 + 1, 1, none⟩ = some (.int .i64 0) := fun n => (LC.out n).2.1.2.1
  have zC1 : ∀ n : Wd C, n.w.frozen? ⟨w.heap.size + 1 + 1, 1, none⟩ = false := fun n => (LC.out n).2.1.2.2
  have fC2 : ∀ n : Wd C, n.w.cell? ⟨w.heap.size + 1, 0, none⟩ = some (.int .i64 (m1)) := fun n => (LC.out n).2.2.1.2.1
  have fC3 : ∀ n : Wd C, n.w.cell? ⟨w.heap.size + 1, 1, none⟩ = some (.int .i64 (m2)) := fun n => (LC.out n).2.2.2.1.2.1
  have fC4 : ∀ n : Wd C, n.w.cell? ⟨w.heap.size + 1, 2, none⟩ = some (.int .i64 (m3)) := fun n => (LC.out n).2.2.2.2.1.2.1
  have fC5 : ∀ n : Wd C, n.w.cell? ⟨w.heap.size + 1, 3, none⟩ = some (.int .i64 (m4)) := fun n => (LC.out n).2.2.2.2.2.1.2.1
  have fC6 : ∀ n : Wd C, n.w.cell? ⟨w.heap.size + 1, 4, none⟩ = some (.int .i64 (m5)) := fun n => (LC.out n).2.2.2.2.2.2.1.2.1
  have fC7 : ∀ n : Wd C, n.w.cell? ⟨w.heap.size, 0, none⟩ = some (.slice q1 cs.length c1) := fun n => (LC.out n).2.2.2.2.2.2.2.1.2.1
  have zC7 : ∀ n : Wd C, n.w.frozen? ⟨w.heap.size, 0, none⟩ = false := fun n => (LC.out n).2.2.2.2.2.2.2.1.2.2
  have fC8 : ∀ n : Wd C, n.w.cell? ⟨w.heap.size, 1, none⟩ = some (.slice q2 ps.length c2) := fun n => (LC.out n).2.2.2.2.2.2.2.2.1.2.1
  have zC8 : ∀ n : Wd C, n.w.frozen? ⟨w.heap.size, 1, none⟩ = false := fun n => (LC.out n).2.2.2.2.2.2.2.2.1.2.2
  have fC9 : ∀ n : Wd C, n.w.cell? ⟨w.heap.size, 2, none⟩ = some (.slice q3 rs.length c3) := fun n => (LC.out n).2.2.2.2.2.2.2.2.2.1.2.1
  have zC9 : ∀ n : Wd C, n.w.frozen? ⟨w.heap.size, 2, none⟩ = false := fun n => (LC.out n).2.2.2.2.2.2.2.2.2.1.2.2
  clear S0 hC0
  have D1 := cinL HC BC K1
  have D2 := cinL HC BC K2
  have hsz : w.heap.size + 1 + 1 < c0.w.heap.size := (LC.out c0).1.1
  clear K1 K2
  by_cases hk0 : k = 0
  · subst hk0
    rw [if_neg (by simp)] at HE
    obtain rfl : E = g := HE.out
    go_upto_region 4 with (first | first | (go_at_call 127; with_reducible refine (D1 _).out.mono ?_; rintro e w' ⟨rfl, n, rfl⟩))
    go_upto_region 5 with (first | first | (go_at_call 31; with_reducible refine (D2 _).out.mono ?_; rintro e w' ⟨rfl, n, rfl⟩))
    obtain ⟨W0, hW0⟩ : ∃ W0, (n.w).alloc (.cells #[.int .i64 (a), .int .i64 (b)] 30) = W0 := ⟨_, rfl⟩
    have S0 : St w W0 [(n.w.heap.size, 0, .int .i64 (a)), (n.w.heap.size, 1, .int .i64 (b)), (w.heap.size + 1 + 1, 0, .int .i64 0), (w.heap.size + 1 + 1, 1, .int .i64 0), (w.heap.size + 1, 0, .int .i64 (m1)), (w.heap.size + 1, 1, .int .i64 (m2)), (w.heap.size + 1, 2, .int .i64 (m3)), (w.heap.size + 1, 3, .int .i64 (m4)), (w.heap.size + 1, 4, .int .i64 (m5)), (w.heap.size, 0, .slice q1 cs.length c1), (w.heap.size, 1, .slice q2 ps.length c2), (w.heap.size, 2, .slice q3 rs.length c3)] := by rw [← hW0]; exact ((⟨BC.out n, LC.out n⟩ : St w n.w _)).box #[.int .i64 (a), .int .i64 (b)] 30 (n.w.heap.size) (by simp)
    rw [hW0]
    clear hW0
    obtain ⟨kD, hkk⟩ : ∃ k, n.w.heap.size = k := ⟨_, rfl⟩
    have gkD : w.heap.size ≤ kD := by rw [← hkk]; exact (BC.out n).size
    rw [hkk] at S0 ⊢
    have eD1 : kD ≠ w.heap.size + 1 + 1 := by have h := (LC.out n).1.1; omega
    have dD1 : w.heap.size + 1 + 1 ≠ kD := Ne.symm eD1
    have eD2 : kD ≠ w.heap.size := by have h := (LC.out n).2.2.2.2.2.2.2.1.1; omega
    have dD2 : w.heap.size ≠ kD := Ne.symm eD2
    clear hkk
    obtain ⟨D, hC0, HD, LD, BD, hne⟩ := cls S0
    haveI := hne
    obtain ⟨d0, rfl⟩ : ∃ n : Wd D, W0 = n.w := ⟨⟨_, hC0⟩, rfl⟩
    have fD0 : ∀ n : Wd D, n.w.cell? ⟨kD, 0, none⟩ = some (.int .i64 (a)) := fun n => (LD.out n).1.2.1
    have fD1 : ∀ n : Wd D, n.w.cell? ⟨kD, 1, none⟩ = some (.int .i64 (b)) := fun n => (LD.out n).2.1.2.1
    have fD2 : ∀ n : Wd D, n.w.cell? ⟨w.heap.size + 1 + 1, 0, none⟩ = some (.int .i64 0) := fun n => (LD.out n).2.2.1.2.1
    have zD2 : ∀ n : Wd D, n.w.frozen? ⟨w.heap.size + 1 + 1, 0, none⟩ = false := fun n => (LD.out n).2.2.1.2.2
    have fD3 : ∀ n : Wd D, n.w.cell? ⟨w.heap.size + 1 + 1, 1, none⟩ = some (.int .i64 0) := fun n => (LD.out n).2.2.2.1.2.1
    have zD3 : ∀ n : Wd D, n.w.frozen? ⟨w.heap.size + 1 + 1, 1, none⟩ = false := fun n => (LD.out n).2.2.2.1.2.2
    have fD4 : ∀ n : Wd D, n.w.cell? ⟨w.heap.size + 1, 0, none⟩ = some (.int .i64 (m1)) := fun n => (LD.out n).2.2.2.2.1.2.1
    have fD5 : ∀ n : Wd D, n.w.cell? ⟨w.heap.size + 1, 1, none⟩ = some (.int .i64 (m2)) := fun n => (LD.out n).2.2.2.2.2.1.2.1
    have fD6 : ∀ n : Wd D, n.w.cell? ⟨w.heap.size + 1, 2, none⟩ = some (.int .i64 (m3)) := fun n => (LD.out n).2.2.2.2.2.2.1.2.1
    have fD7 : ∀ n : Wd D, n.w.cell? ⟨w.heap.size + 1, 3, none⟩ = some (.int .i64 (m4)) := fun n => (LD.out n).2.2.2.2.2.2.2.1.2.1
    have fD8 : ∀ n : Wd D, n.w.cell? ⟨w.heap.size + 1, 4, none⟩ = some (.int .i64 (m5)) := fun n => (LD.out n).2.2.2.2.2.2.2.2.1.2.1
    have fD9 : ∀ n : Wd D, n.w.cell? ⟨w.heap.size, 0, none⟩ = some (.slice q1 cs.length c1) := fun n => (LD.out n).2.2.2.2.2.2.2.2.2.1.2.1
    have zD9 : ∀ n : Wd D, n.w.frozen? ⟨w.heap.size, 0, none⟩ = false := fun n => (LD.out n).2.2.2.2.2.2.2.2.2.1.2.2
    have fD10 : ∀ n : Wd D, n.w.cell? ⟨w.heap.size, 1, none⟩ = some (.slice q2 ps.length c2) := fun n => (LD.out n).2.2.2.2.2.2.2.2.2.2.1.2.1
    have zD10 : ∀ n : Wd D, n.w.frozen? ⟨w.heap.size, 1, none⟩ = false := fun n => (LD.out n).2.2.2.2.2.2.2.2.2.2.1.2.2
    have fD11 : ∀ n : Wd D, n.w.cell? ⟨w.heap.size, 2, none⟩ = some (.slice q3 rs.length c3) := fun n => (LD.out n).2.2.2.2.2.2.2.2.2.2.2.1.2.1
    have zD11 : ∀ n : Wd D, n.w.frozen? ⟨w.heap.size, 2, none⟩ = false := fun n => (LD.out n).2.2.2.2.2.2.2.2.2.2.2.1.2.2
    clear S0 hC0
    have hsz2 : w.heap.size + 1 + 1 < d0.w.heap.size := (LD.out d0).2.2.1.1
    clear D1 D2
    by_cases hg0 : E = 0
    · subst hg0
      have D3 := cin HD (K3.out (by first | rfl | trivial))
      have hszD : ∀ n : Wd D, w.heap.size + 1 + 1 < n.w.heap.size := fun n => (LD.out n).2.2.1.1
      go_wp2_with (go_at_call 128; with_reducible refine (D3 _).out.mono ?_; rintro e w' ⟨rfl, n, rfl⟩; have hsz3 := hszD n)
      refine bodyPost_ret (v := .tuple #[spv A B1, .int .i64 0]) (by simp [results, Tryz.results50, go_sem, fD2, fD3]) rfl ⟨rfl, ?_⟩
      exact below_grownB (BD.out _) (by omega) (grown_trans (set_grown _ _ _ _) (set_grown _ _ _ _))
    · have hgb : (E != 0) = true := by simpa using hg0
      obtain ⟨rfl, rfl⟩ := HZ.out hg0
      clear hg0
      go_wp2_with fail
      refine bodyPost_ret (v := .tuple #[spv 0 0, .int .i64 E]) (by simp [results, Tryz.results50, go_sem, fD2, fD3]) rfl ⟨rfl, ?_⟩
      exact below_grownB (BD.out d0) (by omega) (grown_trans (set_grown _ _ _ _) (set_grown _ _ _ _))
  · have hb : (k != 0) = true := by simpa using hk0
    rw [if_pos hk0] at HE
    obtain rfl : E = k := HE.out
    obtain ⟨rfl, rfl⟩ := HZ.out hk0
    clear hk0
    go_wp2_with (first | first | (go_at_call 127; with_reducible refine (D1 _).out.mono ?_; rintro e w' ⟨rfl, n, rfl⟩))
    refine bodyPost_ret (v := .tuple #[spv 0 0, .int .i64 E]) (by simp [results, Tryz.results50, go_sem, fC0, fC1]) rfl ⟨rfl, ?_⟩
    exact below_grownB (BC.out _) (by omega) (grown_trans (set_grown _ _ _ _) (set_grown _ _ _ _))
end Go.Proofs.YtcejmfgbfdhflaaGreat
