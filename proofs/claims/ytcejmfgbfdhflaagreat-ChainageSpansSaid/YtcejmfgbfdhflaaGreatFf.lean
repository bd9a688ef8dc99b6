import Derived.Test.YtcejmfgbfdhflaaGreatFd
import Derived.WalkKit
import Derived.LoopTactic
import Derived.WalkSpells
import Derived.WalkLawsBesides
import Derived.Lib.Hide
import Derived.BigQuiet
import Derived.IntWalk
import Derived.Deep.DeepMust
import Derived.WalkSmall
import Derived.StillTailTactics
import Derived.Deep.RegionLaw
import Derived.Deep.RegionHeld3
import Derived.Deep.QuietTactic
namespace Go.Proofs.YtcejmfgbfdhflaaGreat
open Go.RowKit Go.BigFrame Go.Sort
attribute [local go_sem] World.cell?_alloc_some
set_option maxRecDepth 100000 in
set_option maxHeartbeats 6400000 in
theorem Shortest_any (x : WA) (ch lo hi : Int) (w : World) (h : x.At w) :
    Calls Tryz.prog 43 #[x.v, .int .i64 ch, spv lo hi] w fun e w' => (∃ v, e = .returned (.tuple #[v, .int .i64 (alE x ch lo hi)]) ∧ LnRes (alE x ch lo hi) ch lo (lnL lowS x (chOr x.cs ch) lo hi) w.heap.size w' v) ∧ Below w.heap.size w w' := by
  have K1 := fun W (hb : Below w.heap.size w W) => lengths123_any x ch lo hi W (h.keep hb)
  obtain ⟨E, hEE⟩ : ∃ E, alE x ch lo hi = E := ⟨_, rfl⟩
  obtain ⟨L, hL⟩ : ∃ L, lnL lowS x (chOr x.cs ch) lo hi = L := ⟨_, rfl⟩
  simp only [hEE, hL] at K1
  rw [hEE, hL]
  have HK1 := Lib.hid K1
  clear K1 h hEE hL
  obtain ⟨cs, ps, rs, q1, q2, q3, c1, c2, c3⟩ := x
  simp only [WA.v] at *
  go_enter Tryz.func43, Tryz.ntmps43
  go_wp2_with fail
  obtain ⟨W0, hW0⟩ : ∃ W0, (((w).alloc (.cells #[.slice q1 cs.length c1, .slice q2 ps.length c2, .slice q3 rs.length c3] 26)).alloc (.cells #[.int .i64 lo, .int .i64 hi] 30)).alloc (.cells #[.int .i64 0, .int .i64 0, .slice none 0 0] 58) = W0 := ⟨_, rfl⟩
  have S0 : St w W0 [(w.heap.size + 1 + 1, 0, .int .i64 0), (w.heap.size + 1 + 1, 1, .int .i64 0), (w.heap.size + 1 + 1, 2, .slice none 0 0), (w.heap.size + 1, 0, .int .i64 lo), (w.heap.size + 1, 1, .int .i64 hi), (w.heap.size, 0, .slice q1 cs.length c1), (w.heap.size, 1, .slice q2 ps.length c2), (w.heap.size, 2, .slice q3 rs.length c3)] := by rw [← hW0]; exact ((((St.nil w)).box #[.slice q1 cs.length c1, .slice q2 ps.length c2, .slice q3 rs.length c3] 26 (w.heap.size) (by simp)).box #[.int .i64 lo, .int .i64 hi] 30 (w.heap.size + 1) (by simp)).box #[.int .i64 0, .int .i64 0, .slice none 0 0] 58 (w.heap.size + 1 + 1) (by simp)
  rw [hW0]
  clear hW0
  obtain ⟨C, hC0, HC, LC, BC, hne⟩ := cls S0
  haveI := hne
  obtain ⟨c0, rfl⟩ : ∃ n : Wd C, W0 = n.w := ⟨⟨_, hC0⟩, rfl⟩
  have fC0 : ∀ n : Wd C, n.w.cell? ⟨w.heap.size + 1 + 1, 0, none⟩ = some (.int .i64 0) := fun n => (LC.out n).1.2.1
  have zC0 : ∀ n : Wd C, n.w.frozen? ⟨w.heap.size + 1 + 1, 0, none⟩ = false := fun n => (LC.out n).1.2.2
  have fC1 : ∀ n : Wd C, n.w.cell? ⟨w.heap.size + 1 + 1, 1, none⟩ = some (.int .i64 0) := fun n => (LC.out n).2.1.2.1
  have zC1 : ∀ n : Wd C, n.w.frozen? ⟨w.heap.size + 1 + 1, 1, none⟩ = false := fun n => (LC.out n).2.1.2.2
  have fC2 : ∀ n : Wd C, n.w.cell? ⟨w.heap.size + 1 + 1, 2, none⟩ = some (.slice none 0 0) := fun n => (LC.out n).2.2.1.2.1
  have zC2 : ∀ n : Wd C, n.w.frozen? ⟨w.heap.size + 1 + 1, 2, none⟩ = false := fun n => (LC.out n).2.2.1.2.2
  have fC3 : ∀ n : Wd C, n.w.cell? ⟨w.heap.size + 1, 0, none⟩ = some (.int .i64 lo) := fun n => (LC.out n).2.2.2.1.2.1
  have fC4 : ∀ n : Wd C, n.w.cell? ⟨w.heap.size + 1, 1, none⟩ = some (.int .i64 hi) := fun n => (LC.out n).2.2.2.2.1.2.1
  have fC5 : ∀ n : Wd C, n.w.cell? ⟨w.heap.size, 0, none⟩ = some (.slice q1 cs.length c1) := fun n => (LC.out n).2.2.2.2.2.1.2.1
  have fC6 : ∀ n : Wd C, n.w.cell? ⟨w.heap.size, 1, none⟩ = some (.slice q2 ps.length c2) := fun n => (LC.out n).2.2.2.2.2.2.1.2.1
  have fC7 : ∀ n : Wd C, n.w.cell? ⟨w.heap.size, 2, none⟩ = some (.slice q3 rs.length c3) := fun n => (LC.out n).2.2.2.2.2.2.2.1.2.1
  clear S0 hC0
  go_wp2_with fail
  refine (HK1.out _ (BC.out _)).mono ?_
  rintro e w1 ⟨⟨v, rfl, hv⟩, hb1⟩
  have hkc : w.heap.size + 1 + 1 < c0.w.heap.size := (LC.out c0).1.1
  have S1 : St w w1 [(w.heap.size + 1 + 1, 0, .int .i64 0), (w.heap.size + 1 + 1, 1, .int .i64 0), (w.heap.size + 1 + 1, 2, .slice none 0 0), (w.heap.size + 1, 0, .int .i64 lo), (w.heap.size + 1, 1, .int .i64 hi), (w.heap.size, 0, .slice q1 cs.length c1), (w.heap.size, 1, .slice q2 ps.length c2), (w.heap.size, 2, .slice q3 rs.length c3)] := ⟨(BC.out _).trans (hb1.mono (BC.out _).size), (LC.out _).keep hb1⟩
  have HKZ := Lib.hid hkc
  have HV := Lib.hid hv
  clear hb1 HK1 hkc hv HC LC BC fC0 fC1 fC2 fC3 fC4 fC5 fC6 fC7 zC0 zC1 zC2 hne
  obtain ⟨K, hC0, HK, LK, BK, hne⟩ := cls S1
  haveI := hne
  obtain ⟨k0, rfl⟩ : ∃ n : Wd K, w1 = n.w := ⟨⟨_, hC0⟩, rfl⟩
  have fK0 : ∀ n : Wd K, n.w.cell? ⟨w.heap.size + 1 + 1, 0, none⟩ = some (.int .i64 0) := fun n => (LK.out n).1.2.1
  have fK1 : ∀ n : Wd K, n.w.cell? ⟨w.heap.size + 1 + 1, 1, none⟩ = some (.int .i64 0) := fun n => (LK.out n).2.1.2.1
  have fK2 : ∀ n : Wd K, n.w.cell? ⟨w.heap.size + 1 + 1, 2, none⟩ = some (.slice none 0 0) := fun n => (LK.out n).2.2.1.2.1
  have fK3 : ∀ n : Wd K, n.w.cell? ⟨w.heap.size + 1, 0, none⟩ = some (.int .i64 lo) := fun n => (LK.out n).2.2.2.1.2.1
  have fK4 : ∀ n : Wd K, n.w.cell? ⟨w.heap.size + 1, 1, none⟩ = some (.int .i64 hi) := fun n => (LK.out n).2.2.2.2.1.2.1
  have fK5 : ∀ n : Wd K, n.w.cell? ⟨w.heap.size, 0, none⟩ = some (.slice q1 cs.length c1) := fun n => (LK.out n).2.2.2.2.2.1.2.1
  have fK6 : ∀ n : Wd K, n.w.cell? ⟨w.heap.size, 1, none⟩ = some (.slice q2 ps.length c2) := fun n => (LK.out n).2.2.2.2.2.2.1.2.1
  have fK7 : ∀ n : Wd K, n.w.cell? ⟨w.heap.size, 2, none⟩ = some (.slice q3 rs.length c3) := fun n => (LK.out n).2.2.2.2.2.2.2.1.2.1
  have zK0 : ∀ n : Wd K, n.w.frozen? ⟨w.heap.size + 1 + 1, 0, none⟩ = false := fun n => (LK.out n).1.2.2
  have zK1 : ∀ n : Wd K, n.w.frozen? ⟨w.heap.size + 1 + 1, 1, none⟩ = false := fun n => (LK.out n).2.1.2.2
  have zK2 : ∀ n : Wd K, n.w.frozen? ⟨w.heap.size + 1 + 1, 2, none⟩ = false := fun n => (LK.out n).2.2.1.2.2
  clear S1 hC0
  by_cases hE : E = 0
  · obtain ⟨u, rfl, hO⟩ := HV.out.ok hE
    subst hE
    obtain ⟨qv, cv, rfl, -, -⟩ := OI.ints hO
    have HO := Lib.hid hO
    clear hO
    go_wp2_with fail
    refine bodyPost_ret (v := .tuple #[.agg #[.int .i64 ch, .int .i64 lo, .slice qv L.length cv], .int .i64 0]) (by simp [results, Tryz.results43, go_sem, fK0, fK1, fK2]) rfl ?_
    have hk := HKZ.out
    refine ⟨⟨_, rfl, ⟨fun e => absurd rfl e, fun _ => ⟨_, rfl, ?_⟩⟩⟩, set3 (BK.out _) (by omega) _ _ _⟩
    exact row_mono (row_set (b := w.heap.size + 1 + 1) (o := 2) (row_set (b := w.heap.size + 1 + 1) (o := 1) (row_set (b := w.heap.size + 1 + 1) (o := 0) HO.out (by omega) _) (by omega) _) (by omega) _) (by omega)
  · obtain rfl := HV.out.no hE
    have hk := HKZ.out
    go_wp2_with fail
    refine bodyPost_ret (v := .tuple #[noWr, .int .i64 E]) (by simp [results, Tryz.results43, go_sem, fK0, fK1, fK2]) rfl ?_
    exact ⟨⟨_, rfl, ⟨fun _ => rfl, fun e => absurd e hE⟩⟩, set3 (BK.out _) (by omega) _ _ _⟩
set_option maxRecDepth 100000 in
set_option maxHeartbeats 6400000 in
theorem Longest_any (x : WA) (ch lo hi : Int) (w : World) (h : x.At w) :
    Calls Tryz.prog 45 #[x.v, .int .i64 ch, spv lo hi] w fun e w' => (∃ v, e = .returned (.tuple #[v, .int .i64 (alE x ch lo hi)]) ∧ LnRes (alE x ch lo hi) ch lo (lnL highS x (chOr x.cs ch) lo hi) w.heap.size w' v) ∧ Below w.heap.size w w' := by
  have K1 := fun W (hb : Below w.heap.size w W) => lengths125_any x ch lo hi W (h.keep hb)
  obtain ⟨E, hEE⟩ : ∃ E, alE x ch lo hi = E := ⟨_, rfl⟩
  obtain ⟨L, hL⟩ : ∃ L, lnL highS x (chOr x.cs ch) lo hi = L := ⟨_, rfl⟩
  simp only [hEE, hL] at K1
  rw [hEE, hL]
  have HK1 := Lib.hid K1
  clear K1 h hEE hL
  obtain ⟨cs, ps, rs, q1, q2, q3, c1, c2, c3⟩ := x
  simp only [WA.v] at *
  go_enter Tryz.func45, Tryz.ntmps45
  go_wp2_with fail
  obtain ⟨W0, hW0⟩ : ∃ W0, (((w).alloc (.cells #[.slice q1 cs.length c1, .slice q2 ps.length c2, .slice q3 rs.length c3] 26)).alloc (.cells #[.int .i64 lo, .int .i64 hi] 30)).alloc (.cells #[.int .i64 0, .int .i64 0, .slice none 0 0] 58) = W0 := ⟨_, rfl⟩
  have S0 : St w W0 [(w.heap.size + 1 + 1, 0, .int .i64 0), (w.heap.size + 1 + 1, 1, .int .i64 0), (w.heap.size + 1 + 1, 2, .slice none 0 0), (w.heap.size + 1, 0, .int .i64 lo), (w.heap.size + 1, 1, .int .i64 hi), (w.heap.size, 0, .slice q1 cs.length c1), (w.heap.size, 1, .slice q2 ps.length c2), (w.heap.size, 2, .slice q3 rs.length c3)] := by rw [← hW0]; exact ((((St.nil w)).box #[.slice q1 cs.length c1, .slice q2 ps.length c2, .slice q3 rs.length c3] 26 (w.heap.size) (by simp)).box #[.int .i64 lo, .int .i64 hi] 30 (w.heap.size + 1) (by simp)).box #[.int .i64 0, .int .i64 0, .slice none 0 0] 58 (w.heap.size + 1 + 1) (by simp)
  rw [hW0]
  clear hW0
  obtain ⟨C, hC0, HC, LC, BC, hne⟩ := cls S0
  haveI := hne
  obtain ⟨c0, rfl⟩ : ∃ n : Wd C, W0 = n.w := ⟨⟨_, hC0⟩, rfl⟩
  have fC0 : ∀ n : Wd C, n.w.cell? ⟨w.heap.size + 1 + 1, 0, none⟩ = some (.int .i64 0) := fun n => (LC.out n).1.2.1
  have zC0 : ∀ n : Wd C, n.w.frozen? ⟨w.heap.size + 1 + 1, 0, none⟩ = false := fun n => (LC.out n).1.2.2
  have fC1 : ∀ n : Wd C, n.w.cell? ⟨w.heap.size + 1 + 1, 1, none⟩ = some (.int .i64 0) := fun n => (LC.out n).2.1.2.1
  have zC1 : ∀ n : Wd C, n.w.frozen? ⟨w.heap.size + 1 + 1, 1, none⟩ = false := fun n => (LC.out n).2.1.2.2
  have fC2 : ∀ n : Wd C, n.w.cell? ⟨w.heap.size + 1 + 1, 2, none⟩ = some (.slice none 0 0) := fun n => (LC.out n).2.2.1.2.1
  have zC2 : ∀ n : Wd C, n.w.frozen? ⟨w.heap.size + 1 + 1, 2, none⟩ = false := fun n => (LC.out n).2.2.1.2.2
  have fC3 : ∀ n : Wd C, n.w.cell? ⟨w.heap.size + 1, 0, none⟩ = some (.int .i64 lo) := fun n => (LC.out n).2.2.2.1.2.1
  have fC4 : ∀ n : Wd C, n.w.cell? ⟨w.heap.size + 1, 1, none⟩ = some (.int .i64 hi) := fun n => (LC.out n).2.2.2.2.1.2.1
  have fC5 : ∀ n : Wd C, n.w.cell? ⟨w.heap.size, 0, none⟩ = some (.slice q1 cs.length c1) := fun n => (LC.out n).2.2.2.2.2.1.2.1
  have fC6 : ∀ n : Wd C, n.w.cell? ⟨w.heap.size, 1, none⟩ = some (.slice q2 ps.length c2) := fun n => (LC.out n).2.2.2.2.2.2.1.2.1
  have fC7 : ∀ n : Wd C, n.w.cell? ⟨w.heap.size, 2, none⟩ = some (.slice q3 rs.length c3) := fun n => (LC.out n).2.2.2.2.2.2.2.1.2.1
  clear S0 hC0
  go_wp2_with fail
  refine (HK1.out _ (BC.out _)).mono ?_
  rintro e w1 ⟨⟨v, rfl, hv⟩, hb1⟩
  have hkc : w.heap.size + 1 + 1 < c0.w.heap.size := (LC.out c0).1.1
  have S1 : St w w1 [(w.heap.size + 1 + 1, 0, .int .i64 0), (w.heap.size + 1 + 1, 1, .int .i64 0), (w.heap.size + 1 + 1, 2, .slice none 0 0), (w.heap.size + 1, 0, .int .i64 lo), (w.heap.size + 1, 1, .int .i64 hi), (w.heap.size, 0, .slice q1 cs.length c1), (w.heap.size, 1, .slice q2 ps.length c2), (w.heap.size, 2, .slice q3 rs.length c3)] := ⟨(BC.out _).trans (hb1.mono (BC.out _).size), (LC.out _).keep hb1⟩
  have HKZ := Lib.hid hkc
  have HV := Lib.hid hv
  clear hb1 HK1 hkc hv HC LC BC fC0 fC1 fC2 fC3 fC4 fC5 fC6 fC7 zC0 zC1 zC2 hne
  obtain ⟨K, hC0, HK, LK, BK, hne⟩ := cls S1
  haveI := hne
  obtain ⟨k0, rfl⟩ : ∃ n : Wd K, w1 = n.w := ⟨⟨_, hC0⟩, rfl⟩
  have fK0 : ∀ n : Wd K, n.w.cell? ⟨w.heap.size + 1 + 1, 0, none⟩ = some (.int .i64 0) := fun n => (LK.out n).1.2.1
  have fK1 : ∀ n : Wd K, n.w.cell? ⟨w.heap.size + 1 + 1, 1, none⟩ = some (.int .i64 0) := fun n => (LK.out n).2.1.2.1
  have fK2 : ∀ n : Wd K, n.w.cell? ⟨w.heap.size + 1 + 1, 2, none⟩ = some (.slice none 0 0) := fun n => (LK.out n).2.2.1.2.1
  have fK3 : ∀ n : Wd K, n.w.cell? ⟨w.heap.size + 1, 0, none⟩ = some (.int .i64 lo) := fun n => (LK.out n).2.2.2.1.2.1
  have fK4 : ∀ n : Wd K, n.w.cell? ⟨w.heap.size + 1, 1, none⟩ = some (.int .i64 hi) := fun n => (LK.out n).2.2.2.2.1.2.1
  have fK5 : ∀ n : Wd K, n.w.cell? ⟨w.heap.size, 0, none⟩ = some (.slice q1 cs.length c1) := fun n => (LK.out n).2.2.2.2.2.1.2.1
  have fK6 : ∀ n : Wd K, n.w.cell? ⟨w.heap.size, 1, none⟩ = some (.slice q2 ps.length c2) := fun n => (LK.out n).2.2.2.2.2.2.1.2.1
  have fK7 : ∀ n : Wd K, n.w.cell? ⟨w.heap.size, 2, none⟩ = some (.slice q3 rs.length c3) := fun n => (LK.out n).2.2.2.2.2.2.2.1.2.1
  have zK0 : ∀ n : Wd K, n.w.frozen? ⟨w.heap.size + 1 + 1, 0, none⟩ = false := fun n => (LK.out n).1.2.2
  have zK1 : ∀ n : Wd K, n.w.frozen? ⟨w.heap.size + 1 + 1, 1, none⟩ = false := fun n => (LK.out n).2.1.2.2
  have zK2 : ∀ n : Wd K, n.w.frozen? ⟨w.heap.size + 1 + 1, 2, none⟩ = false := fun n => (LK.out n).2.2.1.2.2
  clear S1 hC0
  by_cases hE : E = 0
  · obtain ⟨u, rfl, hO⟩ := HV.out.ok hE
    subst hE
    obtain ⟨qv, cv, rfl, -, -⟩ := OI.ints hO
    have HO := Lib.hid hO
    clear hO
    go_wp2_with fail
    refine bodyPost_ret (v := .tuple #[.agg #[.int .i64 ch, .int .i64 lo, .slice qv L.length cv], .int .i64 0]) (by simp [results, Tryz.results45, go_sem, fK0, fK1, fK2]) rfl ?_
    have hk := HKZ.out
    refine ⟨⟨_, rfl, ⟨fun e => absurd rfl e, fun _ => ⟨_, rfl, ?_⟩⟩⟩, set3 (BK.out _) (by omega) _ _ _⟩
    exact row_mono (row_set (b := w.heap.size + 1 + 1) (o := 2) (row_set (b := w.heap.size + 1 + 1) (o := 1) (row_set (b := w.heap.size + 1 + 1) (o := 0) HO.out (by omega) _) (by omega) _) (by omega) _) (by omega)
  · obtain rfl := HV.out.no hE
    have hk := HKZ.out
    go_wp2_with fail
    refine bodyPost_ret (v := .tuple #[noWr, .int .i64 E]) (by simp [results, Tryz.results45, go_sem, fK0, fK1, fK2]) rfl ?_
    exact ⟨⟨_, rfl, ⟨fun _ => rfl, fun e => absurd e hE⟩⟩, set3 (BK.out _) (by omega) _ _ _⟩
end Go.Proofs.YtcejmfgbfdhflaaGreat
