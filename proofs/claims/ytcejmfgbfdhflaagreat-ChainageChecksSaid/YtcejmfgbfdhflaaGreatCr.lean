import Derived.Test.YtcejmfgbfdhflaaGreatCq
import Derived.WalkKit
import Derived.LoopTactic
import Derived.WalkSpells
import Derived.WalkLawsBesides
import Derived.Lib.Hide
import Derived.BigQuiet
import Derived.IntWalk
import Derived.Deep.DeepMust
import Derived.WalkSmall
import Derived.StillTailTactics
import Derived.Deep.RegionLaw
import Derived.Deep.RegionHeld3
import Derived.Deep.QuietTactic
namespace Go.Proofs.YtcejmfgbfdhflaaGreat
open Go.RowKit Go.Shelf Go.BigFrame Go.Sort
attribute [local go_sem] World.cell?_alloc_some
/-- What Long returns. -/
def lgLo (x : WA) (ch y : Int) : Int := if agE x ch y = 0 then lowS (spO x (chOr x.cs ch) y) y else 0
def lgHi (x : WA) (ch y : Int) : Int := if agE x ch y = 0 then highS (spO x (chOr x.cs ch) y) y else 0
theorem set2 {n b : Nat} {w W : World} (h : Below n w W) (hb : n ≤ b) (v0 v1 : Value) : Below n w ((W.setCell ⟨b, 0, none⟩ v0).setCell ⟨b, 1, none⟩ v1) :=
  (h.setCell (p := ⟨b, 0, none⟩) hb _).setCell (p := ⟨b, 1, none⟩) hb _
set_option maxRecDepth 100000 in
set_option maxHeartbeats 6400000 in
theorem Long_any (x : WA) (ch y : Int) (w : World) (h : x.At w) :
    Calls Tryz.prog 30 #[x.v, .int .i64 ch, .int .i64 y] w fun e w' => e = .returned (.tuple #[spv (lgLo x ch y) (lgHi x ch y), .int .i64 (agE x ch y)]) ∧ Below w.heap.size w w' := by
  have K1 := fun W (hb : Below w.heap.size w W) => agreedIn_any x ch y W (h.keep hb)
  have HOK : Hid (agE x ch y = 0 → okS (spO x (chOr x.cs ch) y) = true ∧ 0 ≤ y ∧ y ≤ 4000) := fun e => spO_ok (agE_zero e).1
  obtain ⟨A, hA⟩ : ∃ A, lgLo x ch y = A := ⟨_, rfl⟩
  obtain ⟨B1, hB1⟩ : ∃ B, lgHi x ch y = B := ⟨_, rfl⟩
  obtain ⟨k, hk⟩ : ∃ k, agE x ch y = k := ⟨_, rfl⟩
  obtain ⟨c, hc⟩ : ∃ c, chOr x.cs ch = c := ⟨_, rfl⟩
  obtain ⟨s, hs⟩ : ∃ s, spO x c y = s := ⟨_, rfl⟩
  rw [hA, hB1]
  unfold lgLo at hA
  unfold lgHi at hB1
  rw [hk, hc, hs] at hA hB1 HOK
  simp only [hk, hc] at K1
  rw [hk]
  have HS := Lib.hid hs
  have HA := Lib.hid hA
  have HB1 := Lib.hid hB1
  clear h hk hc hA hB1
  obtain ⟨X, hX⟩ : ∃ X, x = X := ⟨_, rfl⟩
  rw [hX] at HS ⊢
  simp only [hX] at K1
  have K2 := K1
  clear K1 hX hs
  obtain ⟨cs, ps, rs, q1, q2, q3, c1, c2, c3⟩ := X
  simp only [WA.v] at K2 ⊢
  go_enter Tryz.func30, Tryz.ntmps30
  go_wp2_with fail
  obtain ⟨W0, hW0⟩ : ∃ W0, ((w).alloc (.cells #[.slice q1 cs.length c1, .slice q2 ps.length c2, .slice q3 rs.length c3] 26)).alloc (.cells #[.int .i64 0, .int .i64 0] 30) = W0 := ⟨_, rfl⟩
  have S0 : St w W0 [(w.heap.size + 1, 0, .int .i64 0), (w.heap.size + 1, 1, .int .i64 0), (w.heap.size, 0, .slice q1 cs.length c1), (w.heap.size, 1, .slice q2 ps.length c2), (w.heap.size, 2, .slice q3 rs.length c3)] := by rw [← hW0]; exact (((St.nil w)).box #[.slice q1 cs.length c1, .slice q2 ps.length c2, .slice q3 rs.length c3] 26 (w.heap.size) (by simp)).box #[.int .i64 0, .int .i64 0] 30 (w.heap.size + 1) (by simp)
  rw [hW0]
  clear hW0
  obtain ⟨C, hC0, HC, LC, BC, hne⟩ := cls S0
  haveI := hne
  obtain ⟨c0, rfl⟩ : ∃ n : Wd C, W0 = n.w := ⟨⟨_, hC0⟩, rfl⟩
  have fC0 : ∀ n : Wd C, n.w.cell? ⟨w.heap.size + 1, 0, none⟩ = some (.int .i64 0) := fun n => (LC.out n).1.2.1
  have zC0 : ∀ n : Wd C, n.w.frozen? ⟨w.heap.size + 1, 0, none⟩ = false := fun n => (LC.out n).1.2.2
  have fC1 : ∀ n : Wd C, n.w.cell? ⟨w.heap.size + 1, 1, none⟩ = some (.int .i64 0) := fun n => (LC.out n).2.1.2.1
  have zC1 : ∀ n : Wd C, n.w.frozen? ⟨w.heap.size + 1, 1, none⟩ = false := fun n => (LC.out n).2.1.2.2
  have fC2 : ∀ n : Wd C, n.w.cell? ⟨w.heap.size, 0, none⟩ = some (.slice q1 cs.length c1) := fun n => (LC.out n).2.2.1.2.1
  have fC3 : ∀ n : Wd C, n.w.cell? ⟨w.heap.size, 1, none⟩ = some (.slice q2 ps.length c2) := fun n => (LC.out n).2.2.2.1.2.1
  have fC4 : ∀ n : Wd C, n.w.cell? ⟨w.heap.size, 2, none⟩ = some (.slice q3 rs.length c3) := fun n => (LC.out n).2.2.2.2.1.2.1
  clear S0 hC0
  go_wp2_with fail
  refine (K2 _ (BC.out _)).mono ?_
  rintro e w1 ⟨⟨v, rfl, hv⟩, hb⟩
  have S1 : St w1 w1 [(w.heap.size + 1, 0, .int .i64 0), (w.heap.size + 1, 1, .int .i64 0), (w.heap.size, 0, .slice q1 cs.length c1), (w.heap.size, 1, .slice q2 ps.length c2), (w.heap.size, 2, .slice q3 rs.length c3)] := ⟨Below.refl _ _, (LC.out _).keep hb⟩
  have hW : Hid (Below w.heap.size w w1) := (BC.out _).trans (hb.mono (BC.out _).size)
  clear hb K2 HC BC fC0 fC1 fC2 fC3 fC4 zC0 zC1 hne
  obtain ⟨K, hC0, HK, LK, BK, hne⟩ := cls S1
  haveI := hne
  obtain ⟨k0, rfl⟩ : ∃ n : Wd K, w1 = n.w := ⟨⟨_, hC0⟩, rfl⟩
  have fK0 : ∀ n : Wd K, n.w.cell? ⟨w.heap.size + 1, 0, none⟩ = some (.int .i64 0) := fun n => (LK.out n).1.2.1
  have fK1 : ∀ n : Wd K, n.w.cell? ⟨w.heap.size + 1, 1, none⟩ = some (.int .i64 0) := fun n => (LK.out n).2.1.2.1
  have fK2 : ∀ n : Wd K, n.w.cell? ⟨w.heap.size, 0, none⟩ = some (.slice q1 cs.length c1) := fun n => (LK.out n).2.2.1.2.1
  have fK3 : ∀ n : Wd K, n.w.cell? ⟨w.heap.size, 1, none⟩ = some (.slice q2 ps.length c2) := fun n => (LK.out n).2.2.2.1.2.1
  have fK4 : ∀ n : Wd K, n.w.cell? ⟨w.heap.size, 2, none⟩ = some (.slice q3 rs.length c3) := fun n => (LK.out n).2.2.2.2.1.2.1
  have zK0 : ∀ n : Wd K, n.w.frozen? ⟨w.heap.size + 1, 0, none⟩ = false := fun n => (LK.out n).1.2.2
  have zK1 : ∀ n : Wd K, n.w.frozen? ⟨w.heap.size + 1, 1, none⟩ = false := fun n => (LK.out n).2.1.2.2
  clear S1 hC0
  have hR : w.heap.size + 1 < k0.w.heap.size := (LK.out k0).1.1
  by_cases hk0 : k = 0
  · subst hk0
    obtain ⟨sv, rfl, hsv, hth, hcap, hcm⟩ := hv.ok rfl
    obtain ⟨hok, hy⟩ := HOK.out rfl
    have hss : sv.s = s := hsv.trans HS.out
    rw [← hss] at hok HA HB1
    have CA := fun W (hb : Below k0.w.heap.size k0.w W) => long_any sv.s sv.q sv.cap y W hok hy (hth.ths.keep hb)
    rw [if_pos rfl] at HA HB1
    simp only [HA.out, HB1.out] at CA
    obtain ⟨⟨slo, shi, swe, sth⟩, sq, sc⟩ := sv
    simp only [SV.v, Spl.v] at CA ⊢
    clear hsv hth hcap hcm hok hv HOK hss HA HB1
    go_upto_region 2 with fail
    obtain ⟨W0, hW0⟩ : ∃ W0, (k0.w).alloc (.cells #[.int .i64 slo, .int .i64 shi, .int .i64 swe, .slice sq sth.length sc] 111) = W0 := ⟨_, rfl⟩
    have S0 : St k0.w W0 [(k0.w.heap.size, 0, .int .i64 slo), (k0.w.heap.size, 1, .int .i64 shi), (k0.w.heap.size, 2, .int .i64 swe), (k0.w.heap.size, 3, .slice sq sth.length sc), (w.heap.size + 1, 0, .int .i64 0), (w.heap.size + 1, 1, .int .i64 0), (w.heap.size, 0, .slice q1 cs.length c1), (w.heap.size, 1, .slice q2 ps.length c2), (w.heap.size, 2, .slice q3 rs.length c3)] := by rw [← hW0]; exact ((⟨BK.out k0, LK.out k0⟩ : St k0.w k0.w _)).box #[.int .i64 slo, .int .i64 shi, .int .i64 swe, .slice sq sth.length sc] 111 (k0.w.heap.size) (by simp)
    rw [hW0]
    clear hW0
    obtain ⟨kD, hkk⟩ : ∃ k, k0.w.heap.size = k := ⟨_, rfl⟩
    have gkD : k0.w.heap.size ≤ kD := by rw [← hkk]; exact (BK.out k0).size
    rw [hkk] at S0 ⊢
    have eD1 : kD ≠ w.heap.size + 1 := by have h := (LK.out k0).1.1; omega
    have dD1 : w.heap.size + 1 ≠ kD := Ne.symm eD1
    clear hkk
    obtain ⟨D, hC0, HD, LD, BD, hne⟩ := cls S0
    haveI := hne
    obtain ⟨d0, rfl⟩ : ∃ n : Wd D, W0 = n.w := ⟨⟨_, hC0⟩, rfl⟩
    have fD0 : ∀ n : Wd D, n.w.cell? ⟨kD, 0, none⟩ = some (.int .i64 slo) := fun n => (LD.out n).1.2.1
    have fD1 : ∀ n : Wd D, n.w.cell? ⟨kD, 1, none⟩ = some (.int .i64 shi) := fun n => (LD.out n).2.1.2.1
    have fD2 : ∀ n : Wd D, n.w.cell? ⟨kD, 2, none⟩ = some (.int .i64 swe) := fun n => (LD.out n).2.2.1.2.1
    have fD3 : ∀ n : Wd D, n.w.cell? ⟨kD, 3, none⟩ = some (.slice sq sth.length sc) := fun n => (LD.out n).2.2.2.1.2.1
    have fD4 : ∀ n : Wd D, n.w.cell? ⟨w.heap.size + 1, 0, none⟩ = some (.int .i64 0) := fun n => (LD.out n).2.2.2.2.1.2.1
    have zD4 : ∀ n : Wd D, n.w.frozen? ⟨w.heap.size + 1, 0, none⟩ = false := fun n => (LD.out n).2.2.2.2.1.2.2
    have fD5 : ∀ n : Wd D, n.w.cell? ⟨w.heap.size + 1, 1, none⟩ = some (.int .i64 0) := fun n => (LD.out n).2.2.2.2.2.1.2.1
    have zD5 : ∀ n : Wd D, n.w.frozen? ⟨w.heap.size + 1, 1, none⟩ = false := fun n => (LD.out n).2.2.2.2.2.1.2.2
    have fD6 : ∀ n : Wd D, n.w.cell? ⟨w.heap.size, 0, none⟩ = some (.slice q1 cs.length c1) := fun n => (LD.out n).2.2.2.2.2.2.1.2.1
    have fD7 : ∀ n : Wd D, n.w.cell? ⟨w.heap.size, 1, none⟩ = some (.slice q2 ps.length c2) := fun n => (LD.out n).2.2.2.2.2.2.2.1.2.1
    have fD8 : ∀ n : Wd D, n.w.cell? ⟨w.heap.size, 2, none⟩ = some (.slice q3 rs.length c3) := fun n => (LD.out n).2.2.2.2.2.2.2.2.1.2.1
    clear S0 hC0
    have E1 := cinL HD BD CA
    have hRD : w.heap.size + 1 < d0.w.heap.size := (LD.out d0).2.2.2.2.1.1
    clear CA
    go_wp2_with fail
    refine (E1 _).out.mono ?_
    rintro e w' ⟨rfl, n, rfl⟩
    have HWB : Hid (Below w.heap.size w n.w) := hW.out.trans ((BD.out n).mono hW.out.size)
    clear E1
    go_wp2_with fail
    refine bodyPost_ret (v := .tuple #[spv A B1, .int .i64 0]) (by simp [results, Tryz.results30, go_sem, fD4, fD5]) rfl ⟨rfl, ?_⟩
    exact set2 HWB.out (Nat.le_succ _) _ _
  · have hb : (k != 0) = true := by simpa using hk0
    rw [if_neg hk0] at HA HB1
    obtain rfl : 0 = A := HA.out
    obtain rfl : 0 = B1 := HB1.out
    obtain rfl := hv.no hk0
    clear hk0 hv
    go_upto_region 2 with fail
    obtain ⟨W0, hW0⟩ : ∃ W0, (k0.w).alloc (.cells #[.int .i64 0, .int .i64 0, .int .i64 0, .slice none 0 0] 111) = W0 := ⟨_, rfl⟩
    have S0 : St k0.w W0 [(k0.w.heap.size, 0, .int .i64 0), (k0.w.heap.size, 1, .int .i64 0), (k0.w.heap.size, 2, .int .i64 0), (k0.w.heap.size, 3, .slice none 0 0), (w.heap.size + 1, 0, .int .i64 0), (w.heap.size + 1, 1, .int .i64 0), (w.heap.size, 0, .slice q1 cs.length c1), (w.heap.size, 1, .slice q2 ps.length c2), (w.heap.size, 2, .slice q3 rs.length c3)] := by rw [← hW0]; exact ((⟨BK.out k0, LK.out k0⟩ : St k0.w k0.w _)).box #[.int .i64 0, .int .i64 0, .int .i64 0, .slice none 0 0] 111 (k0.w.heap.size) (by simp)
    rw [hW0]
    clear hW0
    obtain ⟨kD, hkk⟩ : ∃ k, k0.w.heap.size = k := ⟨_, rfl⟩
    have gkD : k0.w.heap.size ≤ kD := by rw [← hkk]; exact (BK.out k0).size
    rw [hkk] at S0 ⊢
    have eD1 : kD ≠ w.heap.size + 1 := by have h := (LK.out k0).1.1; omega
    have dD1 : w.heap.size + 1 ≠ kD := Ne.symm eD1
    clear hkk
    obtain ⟨D, hC0, HD, LD, BD, hne⟩ := cls S0
    haveI := hne
    obtain ⟨d0, rfl⟩ : ∃ n : Wd D, W0 = n.w := ⟨⟨_, hC0⟩, rfl⟩
    have fD0 : ∀ n : Wd D, n.w.cell? ⟨kD, 0, none⟩ = some (.int .i64 0) := fun n => (LD.out n).1.2.1
    have fD1 : ∀ n : Wd D, n.w.cell? ⟨kD, 1, none⟩ = some (.int .i64 0) := fun n => (LD.out n).2.1.2.1
    have fD2 : ∀ n : Wd D, n.w.cell? ⟨kD, 2, none⟩ = some (.int .i64 0) := fun n => (LD.out n).2.2.1.2.1
    have fD3 : ∀ n : Wd D, n.w.cell? ⟨kD, 3, none⟩ = some (.slice none 0 0) := fun n => (LD.out n).2.2.2.1.2.1
    have fD4 : ∀ n : Wd D, n.w.cell? ⟨w.heap.size + 1, 0, none⟩ = some (.int .i64 0) := fun n => (LD.out n).2.2.2.2.1.2.1
    have zD4 : ∀ n : Wd D, n.w.frozen? ⟨w.heap.size + 1, 0, none⟩ = false := fun n => (LD.out n).2.2.2.2.1.2.2
    have fD5 : ∀ n : Wd D, n.w.cell? ⟨w.heap.size + 1, 1, none⟩ = some (.int .i64 0) := fun n => (LD.out n).2.2.2.2.2.1.2.1
    have zD5 : ∀ n : Wd D, n.w.frozen? ⟨w.heap.size + 1, 1, none⟩ = false := fun n => (LD.out n).2.2.2.2.2.1.2.2
    have fD6 : ∀ n : Wd D, n.w.cell? ⟨w.heap.size, 0, none⟩ = some (.slice q1 cs.length c1) := fun n => (LD.out n).2.2.2.2.2.2.1.2.1
    have fD7 : ∀ n : Wd D, n.w.cell? ⟨w.heap.size, 1, none⟩ = some (.slice q2 ps.length c2) := fun n => (LD.out n).2.2.2.2.2.2.2.1.2.1
    have fD8 : ∀ n : Wd D, n.w.cell? ⟨w.heap.size, 2, none⟩ = some (.slice q3 rs.length c3) := fun n => (LD.out n).2.2.2.2.2.2.2.2.1.2.1
    clear S0 hC0
    have hRD : w.heap.size + 1 < d0.w.heap.size := (LD.out d0).2.2.2.2.1.1
    have HWB : Hid (Below w.heap.size w d0.w) := hW.out.trans ((BD.out d0).mono hW.out.size)
    go_wp2_with fail
    refine bodyPost_ret (v := .tuple #[spv 0 0, .int .i64 k]) (by simp [results, Tryz.results30, go_sem, fD4, fD5]) rfl ⟨rfl, ?_⟩
    exact set2 HWB.out (Nat.le_succ _) _ _
/-- What Spell returns. -/
def slLo (x : WA) (ch y : Int) : Int := if sE x ch y = 0 then (spO x (chOr x.cs ch) y).lo else 0
def slHi (x : WA) (ch y : Int) : Int := if sE x ch y = 0 then (spO x (chOr x.cs ch) y).hi else 0
set_option maxRecDepth 100000 in
set_option maxHeartbeats 6400000 in
theorem Spell_any (x : WA) (ch y : Int) (w : World) (h : x.At w) :
    Calls Tryz.prog 21 #[x.v, .int .i64 ch, .int .i64 y] w fun e w' => e = .returned (.tuple #[spv (slLo x ch y) (slHi x ch y), .int .i64 (sE x ch y)]) ∧ Below w.heap.size w w' := by
  have K1 := fun W (hb : Below w.heap.size w W) => spellIn_any x ch y W (h.keep hb)
  obtain ⟨A, hA⟩ : ∃ A, slLo x ch y = A := ⟨_, rfl⟩
  obtain ⟨B1, hB1⟩ : ∃ B, slHi x ch y = B := ⟨_, rfl⟩
  obtain ⟨k, hk⟩ : ∃ k, sE x ch y = k := ⟨_, rfl⟩
  obtain ⟨c, hc⟩ : ∃ c, chOr x.cs ch = c := ⟨_, rfl⟩
  obtain ⟨s, hs⟩ : ∃ s, spO x c y = s := ⟨_, rfl⟩
  rw [hA, hB1]
  unfold slLo at hA
  unfold slHi at hB1
  rw [hk, hc, hs] at hA hB1
  simp only [hk, hc] at K1
  rw [hk]
  have K2 : ∀ W, Below w.heap.size w W → Calls Tryz.prog 70 #[x.v, .int .i64 ch, .int .i64 y] W fun e w' => (∃ sw sq sn sc, e = .returned (.tuple #[.agg #[.int .i64 A, .int .i64 B1, .int .i64 sw, .slice sq sn sc], .int .i64 k])) ∧ Below W.heap.size W w' := fun W hb => (K1 W hb).mono (by
    rintro e w' ⟨⟨v, rfl, hv⟩, hb2⟩
    refine ⟨?_, hb2⟩
    by_cases e : k = 0
    · obtain ⟨sv, rfl, hsv, -⟩ := hv.ok e
      rw [if_pos e] at hA hB1
      have hss : sv.s = s := hsv.trans hs
      refine ⟨sv.s.wear, sv.q, sv.s.ths.length, sv.cap, ?_⟩
      rw [← hA, ← hB1, ← hss]
    · obtain rfl := hv.no e
      rw [if_neg e] at hA hB1
      exact ⟨0, none, 0, 0, by rw [← hA, ← hB1]⟩)
  clear h hk hc hA hB1 K1 hs
  obtain ⟨cs, ps, rs, q1, q2, q3, c1, c2, c3⟩ := x
  simp only [WA.v] at *
  go_enter Tryz.func21, Tryz.ntmps21
  go_wp2_with fail
  obtain ⟨W0, hW0⟩ : ∃ W0, ((w).alloc (.cells #[.slice q1 cs.length c1, .slice q2 ps.length c2, .slice q3 rs.length c3] 26)).alloc (.cells #[.int .i64 0, .int .i64 0] 30) = W0 := ⟨_, rfl⟩
  have S0 : St w W0 [(w.heap.size + 1, 0, .int .i64 0), (w.heap.size + 1, 1, .int .i64 0), (w.heap.size, 0, .slice q1 cs.length c1), (w.heap.size, 1, .slice q2 ps.length c2), (w.heap.size, 2, .slice q3 rs.length c3)] := by rw [← hW0]; exact (((St.nil w)).box #[.slice q1 cs.length c1, .slice q2 ps.length c2, .slice q3 rs.length c3] 26 (w.heap.size) (by simp)).box #[.int .i64 0, .int .i64 0] 30 (w.heap.size + 1) (by simp)
  rw [hW0]
  clear hW0
  obtain ⟨C, hC0, HC, LC, BC, hne⟩ := cls S0
  haveI := hne
  obtain ⟨c0, rfl⟩ : ∃ n : Wd C, W0 = n.w := ⟨⟨_, hC0⟩, rfl⟩
  have fC0 : ∀ n : Wd C, n.w.cell? ⟨w.heap.size + 1, 0, none⟩ = some (.int .i64 0) := fun n => (LC.out n).1.2.1
  have zC0 : ∀ n : Wd C, n.w.frozen? ⟨w.heap.size + 1, 0, none⟩ = false := fun n => (LC.out n).1.2.2
  have fC1 : ∀ n : Wd C, n.w.cell? ⟨w.heap.size + 1, 1, none⟩ = some (.int .i64 0) := fun n => (LC.out n).2.1.2.1
  have zC1 : ∀ n : Wd C, n.w.frozen? ⟨w.heap.size + 1, 1, none⟩ = false := fun n => (LC.out n).2.1.2.2
  have fC2 : ∀ n : Wd C, n.w.cell? ⟨w.heap.size, 0, none⟩ = some (.slice q1 cs.length c1) := fun n => (LC.out n).2.2.1.2.1
  have fC3 : ∀ n : Wd C, n.w.cell? ⟨w.heap.size, 1, none⟩ = some (.slice q2 ps.length c2) := fun n => (LC.out n).2.2.2.1.2.1
  have fC4 : ∀ n : Wd C, n.w.cell? ⟨w.heap.size, 2, none⟩ = some (.slice q3 rs.length c3) := fun n => (LC.out n).2.2.2.2.1.2.1
  clear S0 hC0
  go_wp2_with fail
  refine (K2 _ (BC.out _)).mono ?_
  rintro e w1 ⟨⟨sw, sq, sn, sc, rfl⟩, hb⟩
  obtain ⟨m, rfl⟩ : ∃ m : Wd C, w1 = m.w := ⟨⟨_, HC.out _ _ (Wd.h _) hb⟩, rfl⟩
  clear hb K2
  go_upto_region 2 with fail
  obtain ⟨W0, hW0⟩ : ∃ W0, (m.w).alloc (.cells #[.int .i64 A, .int .i64 B1, .int .i64 sw, .slice sq sn sc] 111) = W0 := ⟨_, rfl⟩
  have S0 : St w W0 [(m.w.heap.size, 0, .int .i64 A), (m.w.heap.size, 1, .int .i64 B1), (m.w.heap.size, 2, .int .i64 sw), (m.w.heap.size, 3, .slice sq sn sc), (w.heap.size + 1, 0, .int .i64 0), (w.heap.size + 1, 1, .int .i64 0), (w.heap.size, 0, .slice q1 cs.length c1), (w.heap.size, 1, .slice q2 ps.length c2), (w.heap.size, 2, .slice q3 rs.length c3)] := by rw [← hW0]; exact ((⟨BC.out m, LC.out m⟩ : St w m.w _)).box #[.int .i64 A, .int .i64 B1, .int .i64 sw, .slice sq sn sc] 111 (m.w.heap.size) (by simp)
  rw [hW0]
  clear hW0
  obtain ⟨kD, hkk⟩ : ∃ k, m.w.heap.size = k := ⟨_, rfl⟩
  have gkD : w.heap.size ≤ kD := by rw [← hkk]; exact (BC.out m).size
  rw [hkk] at S0 ⊢
  have eD1 : kD ≠ w.heap.size + 1 := by have h := (LC.out m).1.1; omega
  have dD1 : w.heap.size + 1 ≠ kD := Ne.symm eD1
  clear hkk
  obtain ⟨D, hC0, HD, LD, BD, hne⟩ := cls S0
  haveI := hne
  obtain ⟨d0, rfl⟩ : ∃ n : Wd D, W0 = n.w := ⟨⟨_, hC0⟩, rfl⟩
  have fD0 : ∀ n : Wd D, n.w.cell? ⟨kD, 0, none⟩ = some (.int .i64 A) := fun n => (LD.out n).1.2.1
  have fD1 : ∀ n : Wd D, n.w.cell? ⟨kD, 1, none⟩ = some (.int .i64 B1) := fun n => (LD.out n).2.1.2.1
  have fD2 : ∀ n : Wd D, n.w.cell? ⟨kD, 2, none⟩ = some (.int .i64 sw) := fun n => (LD.out n).2.2.1.2.1
  have fD3 : ∀ n : Wd D, n.w.cell? ⟨kD, 3, none⟩ = some (.slice sq sn sc) := fun n => (LD.out n).2.2.2.1.2.1
  have fD4 : ∀ n : Wd D, n.w.cell? ⟨w.heap.size + 1, 0, none⟩ = some (.int .i64 0) := fun n => (LD.out n).2.2.2.2.1.2.1
  have zD4 : ∀ n : Wd D, n.w.frozen? ⟨w.heap.size + 1, 0, none⟩ = false := fun n => (LD.out n).2.2.2.2.1.2.2
  have fD5 : ∀ n : Wd D, n.w.cell? ⟨w.heap.size + 1, 1, none⟩ = some (.int .i64 0) := fun n => (LD.out n).2.2.2.2.2.1.2.1
  have zD5 : ∀ n : Wd D, n.w.frozen? ⟨w.heap.size + 1, 1, none⟩ = false := fun n => (LD.out n).2.2.2.2.2.1.2.2
  have fD6 : ∀ n : Wd D, n.w.cell? ⟨w.heap.size, 0, none⟩ = some (.slice q1 cs.length c1) := fun n => (LD.out n).2.2.2.2.2.2.1.2.1
  have fD7 : ∀ n : Wd D, n.w.cell? ⟨w.heap.size, 1, none⟩ = some (.slice q2 ps.length c2) := fun n => (LD.out n).2.2.2.2.2.2.2.1.2.1
  have fD8 : ∀ n : Wd D, n.w.cell? ⟨w.heap.size, 2, none⟩ = some (.slice q3 rs.length c3) := fun n => (LD.out n).2.2.2.2.2.2.2.2.1.2.1
  clear S0 hC0
  have hRD : w.heap.size + 1 < d0.w.heap.size := (LD.out d0).2.2.2.2.1.1
  go_wp2_with fail
  refine bodyPost_ret (v := .tuple #[spv A B1, .int .i64 k]) (by simp [results, Tryz.results21, go_sem, fD4, fD5]) rfl ⟨rfl, ?_⟩
  exact set2 (BD.out _) (Nat.le_succ _) _ _
end Go.Proofs.YtcejmfgbfdhflaaGreat
