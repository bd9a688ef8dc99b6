import Derived.Test.YtcejmfgbfdhflaaGreatCo
import Derived.Test.YtcejmfgbfdhflaaGreatCp
import Derived.WalkKit
import Derived.LoopTactic
import Derived.WalkSpells
import Derived.WalkLawsBesides
import Derived.Lib.Hide
import Derived.BigQuiet
import Derived.IntWalk
import Derived.Deep.DeepMust
import Derived.WalkSmall
import Derived.StillTailTactics
import Derived.Deep.RegionLaw
import Derived.Deep.RegionHeld3
import Derived.Deep.QuietTactic
namespace Go.Proofs.YtcejmfgbfdhflaaGreat
open Go.RowKit Go.Shelf Go.BigFrame Go.Sort
attribute [local go_sem] World.cell?_alloc_some
theorem sE_zero {x : WA} {ch y : Int} (h : sE x ch y = 0) : chk x = 0 ∧ (∃ c, chF x.cs ch = some c ∧ chOr x.cs ch = c) ∧ (chOr x.cs ch).year ≤ y ∧ y ≤ 4000 := by
  unfold sE at h
  by_cases h1 : chk x = 0
  · rw [if_neg (by simpa using h1)] at h
    cases h2 : chF x.cs ch with
    | none => rw [h2] at h; simp at h
    | some c =>
      rw [h2] at h
      rw [if_neg (by simp)] at h
      cases h3 : inB (chOr x.cs ch).year 4000 y with
      | false => rw [h3] at h; simp at h
      | true => exact ⟨h1, ⟨c, rfl, chOr_some h2⟩, inB_iff.1 h3⟩
  · rw [if_pos h1] at h; exact absurd h h1
theorem spP_ok {x : WA} {c : Ch} (hw : OkW x) (hc : OkC x c) (i : Nat) (hi : i < (tsO x c).length) : okS (spP c (tsO x c) x.ps i) = true := by
  have hk := okCh_iff.1 hc.ok
  refine okS_iff.2 ⟨?_, hk.2.2.2, fun t ht => ?_⟩
  · unfold spP
    simp only [List.length_cons, List.length_map]
    have := List.length_filter_le (fun p : Pf => p.ch == c.id && decide (cntU ((tsO x c).map (·.year)) p.year = i + 1)) x.ps
    have := hw.n60
    omega
  · unfold spP at ht
    rcases List.mem_cons.1 ht with rfl | ht
    · refine (begs_ok hc _ ?_).1
      refine (srtB_perm _).subset ?_
      show (tsO x c).getD i dTh ∈ tsO x c
      rw [List.getD_eq_getElem?_getD, List.getElem?_eq_getElem hi]
      exact List.getElem_mem hi
    · obtain ⟨p, hp, rfl⟩ := List.mem_map.1 ht
      obtain ⟨h1, h2⟩ := List.mem_filter.1 hp
      simp only [Bool.and_eq_true, beq_iff_eq] at h2
      exact (hc.py p h1 h2.1).2
theorem spO_ok {x : WA} {ch y : Int} (h : sE x ch y = 0) : okS (spO x (chOr x.cs ch) y) = true ∧ 0 ≤ y ∧ y ≤ 4000 := by
  obtain ⟨h1, ⟨c, h2, h3⟩, h4, h5⟩ := sE_zero h
  have hw := okW_of h1
  have hc := okC_of hw h2
  rw [h3] at h4 ⊢
  have hk := okCh_iff.1 hc.ok
  exact ⟨spP_ok hw hc _ (ix_lt h4), by omega, h5⟩
/-- The error of Long. -/
def agE (x : WA) (ch y : Int) : Int := if sE x ch y ≠ 0 then sE x ch y else if clS (spO x (chOr x.cs ch) y) = [] then 0 else 9
theorem agE_zero {x : WA} {ch y : Int} (h : agE x ch y = 0) : sE x ch y = 0 ∧ clS (spO x (chOr x.cs ch) y) = [] := by
  unfold agE at h
  by_cases h1 : sE x ch y = 0
  · rw [if_neg (by simpa using h1)] at h
    by_cases h2 : clS (spO x (chOr x.cs ch) y) = []
    · exact ⟨h1, h2⟩
    · rw [if_neg h2] at h; cases h
  · rw [if_pos h1] at h; exact absurd h h1
set_option maxRecDepth 100000 in
set_option maxHeartbeats 6400000 in
theorem agreedIn_any (x : WA) (ch y : Int) (w : World) (h : x.At w) :
    Calls Tryz.prog 99 #[x.v, .int .i64 ch, .int .i64 y] w fun e w' => (∃ v, e = .returned (.tuple #[v, .int .i64 (agE x ch y)]) ∧ SpRes x (chOr x.cs ch) (agE x ch y) y w.heap.size w' v) ∧ Below w.heap.size w w' := by
  have K1 := fun W (hb : Below w.heap.size w W) => spellIn_any x ch y W (h.keep hb)
  have HOK : Hid (sE x ch y = 0 → okS (spO x (chOr x.cs ch) y) = true) := fun e => (spO_ok e).1
  obtain ⟨E, hE⟩ : ∃ E, agE x ch y = E := ⟨_, rfl⟩
  rw [hE]
  have hS := hE
  unfold agE at hS
  obtain ⟨k, hk⟩ : ∃ k, sE x ch y = k := ⟨_, rfl⟩
  obtain ⟨c, hc⟩ : ∃ c, chOr x.cs ch = c := ⟨_, rfl⟩
  rw [hk, hc] at hS HOK
  rw [hc]
  simp only [hk, hc] at K1
  have HS := Lib.hid hS
  clear h hE hS hk hc
  obtain ⟨X, hX⟩ : ∃ X, x = X := ⟨_, rfl⟩
  have HX := Lib.hid hX
  rw [hX] at HOK HS ⊢
  simp only [hX] at K1
  have K2 := K1
  clear K1 hX HX
  obtain ⟨cs, ps, rs, q1, q2, q3, c1, c2, c3⟩ := X
  simp only [WA.v] at K2 ⊢
  go_enter Tryz.func99, Tryz.ntmps99
  go_wp2_with fail
  obtain ⟨W0, hW0⟩ : ∃ W0, ((w).alloc (.cells #[.slice q1 cs.length c1, .slice q2 ps.length c2, .slice q3 rs.length c3] 26)).alloc (.cells #[.int .i64 0, .int .i64 0, .int .i64 0, .slice none 0 0] 111) = W0 := ⟨_, rfl⟩
  have S0 : St w W0 [(w.heap.size + 1, 0, .int .i64 0), (w.heap.size + 1, 1, .int .i64 0), (w.heap.size + 1, 2, .int .i64 0), (w.heap.size + 1, 3, .slice none 0 0), (w.heap.size, 0, .slice q1 cs.length c1), (w.heap.size, 1, .slice q2 ps.length c2), (w.heap.size, 2, .slice q3 rs.length c3)] := by rw [← hW0]; exact (((St.nil w)).box #[.slice q1 cs.length c1, .slice q2 ps.length c2, .slice q3 rs.length c3] 26 (w.heap.size) (by simp)).box #[.int .i64 0, .int .i64 0, .int .i64 0, .slice none 0 0] 111 (w.heap.size + 1) (by simp)
  rw [hW0]
  clear hW0
  obtain ⟨C, hC0, HC, LC, BC, hne⟩ := cls S0
  haveI := hne
  obtain ⟨c0, rfl⟩ : ∃ n : Wd C, W0 = n.w := ⟨⟨_, hC0⟩, rfl⟩
  have fC0 : ∀ n : Wd C, n.w.cell? ⟨w.heap.size + 1, 0, none⟩ = some (.int .i64 0) := fun n => (LC.out n).1.2.1
  have zC0 : ∀ n : Wd C, n.w.frozen? ⟨w.heap.size + 1, 0, none⟩ = false := fun n => (LC.out n).1.2.2
  have fC1 : ∀ n : Wd C, n.w.cell? ⟨w.heap.size + 1, 1, none⟩ = some (.int .i64 0) := fun n => (LC.out n).2.1.2.1
  have zC1 : ∀ n : Wd C, n.w.frozen? ⟨w.heap.size + 1, 1, none⟩ = false := fun n => (LC.out n).2.1.2.2
  have fC2 : ∀ n : Wd C, n.w.cell? ⟨w.heap.size + 1, 2, none⟩ = some (.int .i64 0) := fun n => (LC.out n).2.2.1.2.1
  have zC2 : ∀ n : Wd C, n.w.frozen? ⟨w.heap.size + 1, 2, none⟩ = false := fun n => (LC.out n).2.2.1.2.2
  have fC3 : ∀ n : Wd C, n.w.cell? ⟨w.heap.size + 1, 3, none⟩ = some (.slice none 0 0) := fun n => (LC.out n).2.2.2.1.2.1
  have zC3 : ∀ n : Wd C, n.w.frozen? ⟨w.heap.size + 1, 3, none⟩ = false := fun n => (LC.out n).2.2.2.1.2.2
  have fC4 : ∀ n : Wd C, n.w.cell? ⟨w.heap.size, 0, none⟩ = some (.slice q1 cs.length c1) := fun n => (LC.out n).2.2.2.2.1.2.1
  have fC5 : ∀ n : Wd C, n.w.cell? ⟨w.heap.size, 1, none⟩ = some (.slice q2 ps.length c2) := fun n => (LC.out n).2.2.2.2.2.1.2.1
  have fC6 : ∀ n : Wd C, n.w.cell? ⟨w.heap.size, 2, none⟩ = some (.slice q3 rs.length c3) := fun n => (LC.out n).2.2.2.2.2.2.1.2.1
  clear S0 hC0
  go_wp2_with fail
  refine (K2 _ (BC.out _)).mono ?_
  rintro e w1 ⟨⟨v, rfl, hv⟩, hb⟩
  have HKW : Hid (w.heap.size + 1 < c0.w.heap.size) := (LC.out c0).1.1
  have HKW2 : Hid (w.heap.size ≤ c0.w.heap.size) := (BC.out c0).size
  have S1 : St w1 w1 [(w.heap.size + 1, 0, .int .i64 0), (w.heap.size + 1, 1, .int .i64 0), (w.heap.size + 1, 2, .int .i64 0), (w.heap.size + 1, 3, .slice none 0 0), (w.heap.size, 0, .slice q1 cs.length c1), (w.heap.size, 1, .slice q2 ps.length c2), (w.heap.size, 2, .slice q3 rs.length c3)] := ⟨Below.refl _ _, (LC.out _).keep hb⟩
  have hW : Hid (Below w.heap.size w w1) := (BC.out _).trans (hb.mono (BC.out _).size)
  obtain ⟨B, hB⟩ : ∃ B, c0.w.heap.size = B := ⟨_, rfl⟩
  rw [hB] at hv HKW HKW2
  clear hb K2 HC LC BC fC0 fC1 fC2 fC3 fC4 fC5 fC6 zC0 zC1 zC2 zC3 hne hB
  obtain ⟨K, hC0, HK, LK, BK, hne⟩ := cls S1
  haveI := hne
  obtain ⟨k0, rfl⟩ : ∃ n : Wd K, w1 = n.w := ⟨⟨_, hC0⟩, rfl⟩
  have fK0 : ∀ n : Wd K, n.w.cell? ⟨w.heap.size + 1, 0, none⟩ = some (.int .i64 0) := fun n => (LK.out n).1.2.1
  have fK1 : ∀ n : Wd K, n.w.cell? ⟨w.heap.size + 1, 1, none⟩ = some (.int .i64 0) := fun n => (LK.out n).2.1.2.1
  have fK2 : ∀ n : Wd K, n.w.cell? ⟨w.heap.size + 1, 2, none⟩ = some (.int .i64 0) := fun n => (LK.out n).2.2.1.2.1
  have fK3 : ∀ n : Wd K, n.w.cell? ⟨w.heap.size + 1, 3, none⟩ = some (.slice none 0 0) := fun n => (LK.out n).2.2.2.1.2.1
  have fK4 : ∀ n : Wd K, n.w.cell? ⟨w.heap.size, 0, none⟩ = some (.slice q1 cs.length c1) := fun n => (LK.out n).2.2.2.2.1.2.1
  have fK5 : ∀ n : Wd K, n.w.cell? ⟨w.heap.size, 1, none⟩ = some (.slice q2 ps.length c2) := fun n => (LK.out n).2.2.2.2.2.1.2.1
  have fK6 : ∀ n : Wd K, n.w.cell? ⟨w.heap.size, 2, none⟩ = some (.slice q3 rs.length c3) := fun n => (LK.out n).2.2.2.2.2.2.1.2.1
  have zK0 : ∀ n : Wd K, n.w.frozen? ⟨w.heap.size + 1, 0, none⟩ = false := fun n => (LK.out n).1.2.2
  have zK1 : ∀ n : Wd K, n.w.frozen? ⟨w.heap.size + 1, 1, none⟩ = false := fun n => (LK.out n).2.1.2.2
  have zK2 : ∀ n : Wd K, n.w.frozen? ⟨w.heap.size + 1, 2, none⟩ = false := fun n => (LK.out n).2.2.1.2.2
  have zK3 : ∀ n : Wd K, n.w.frozen? ⟨w.heap.size + 1, 3, none⟩ = false := fun n => (LK.out n).2.2.2.1.2.2
  clear S1 hC0
  have hR : w.heap.size + 1 < k0.w.heap.size := (LK.out k0).1.1
  by_cases hk0 : k = 0
  · subst hk0
    obtain ⟨sv, rfl, hsv, hth, hcap, hcm⟩ := hv.ok rfl
    rw [if_neg (by simp)] at HS
    have hok := HOK.out rfl
    rw [← hsv] at hok
    have CA := fun W (hb : Below k0.w.heap.size k0.w W) => agrees_any sv.s sv.q sv.cap W hok hcap hcm (hth.ths.keep hb)
    have HH := Lib.hid (And.intro hsv (And.intro hth (And.intro hcap hcm)))
    rw [← hsv] at HS
    obtain ⟨⟨slo, shi, swe, sth⟩, sq, sc⟩ := sv
    obtain ⟨z, hz⟩ : ∃ z, decide (clS ⟨slo, shi, swe, sth⟩ = []) = z := ⟨_, rfl⟩
    simp only [SV.v, Spl.v] at CA ⊢
    simp only [hz] at CA
    have HZ := Lib.hid hz
    clear hsv hth hcap hcm hok hv HOK hz
    go_upto_region 2 with fail
    obtain ⟨W0, hW0⟩ : ∃ W0, (k0.w).alloc (.cells #[.int .i64 slo, .int .i64 shi, .int .i64 swe, .slice sq sth.length sc] 111) = W0 := ⟨_, rfl⟩
    have S0 : St k0.w W0 [(k0.w.heap.size, 0, .int .i64 slo), (k0.w.heap.size, 1, .int .i64 shi), (k0.w.heap.size, 2, .int .i64 swe), (k0.w.heap.size, 3, .slice sq sth.length sc), (w.heap.size + 1, 0, .int .i64 0), (w.heap.size + 1, 1, .int .i64 0), (w.heap.size + 1, 2, .int .i64 0), (w.heap.size + 1, 3, .slice none 0 0), (w.heap.size, 0, .slice q1 cs.length c1), (w.heap.size, 1, .slice q2 ps.length c2), (w.heap.size, 2, .slice q3 rs.length c3)] := by rw [← hW0]; exact ((⟨BK.out k0, LK.out k0⟩ : St k0.w k0.w _)).box #[.int .i64 slo, .int .i64 shi, .int .i64 swe, .slice sq sth.length sc] 111 (k0.w.heap.size) (by simp)
    rw [hW0]
    clear hW0
    obtain ⟨kD, hkk⟩ : ∃ k, k0.w.heap.size = k := ⟨_, rfl⟩
    have gkD : k0.w.heap.size ≤ kD := by rw [← hkk]; exact (BK.out k0).size
    rw [hkk] at S0 ⊢
    have eD1 : kD ≠ w.heap.size + 1 := by have h := (LK.out k0).1.1; omega
    have dD1 : w.heap.size + 1 ≠ kD := Ne.symm eD1
    clear hkk
    obtain ⟨D, hC0, HD, LD, BD, hne⟩ := cls S0
    haveI := hne
    obtain ⟨d0, rfl⟩ : ∃ n : Wd D, W0 = n.w := ⟨⟨_, hC0⟩, rfl⟩
    have fD0 : ∀ n : Wd D, n.w.cell? ⟨kD, 0, none⟩ = some (.int .i64 slo) := fun n => (LD.out n).1.2.1
    have fD1 : ∀ n : Wd D, n.w.cell? ⟨kD, 1, none⟩ = some (.int .i64 shi) := fun n => (LD.out n).2.1.2.1
    have fD2 : ∀ n : Wd D, n.w.cell? ⟨kD, 2, none⟩ = some (.int .i64 swe) := fun n => (LD.out n).2.2.1.2.1
    have fD3 : ∀ n : Wd D, n.w.cell? ⟨kD, 3, none⟩ = some (.slice sq sth.length sc) := fun n => (LD.out n).2.2.2.1.2.1
    have fD4 : ∀ n : Wd D, n.w.cell? ⟨w.heap.size + 1, 0, none⟩ = some (.int .i64 0) := fun n => (LD.out n).2.2.2.2.1.2.1
    have zD4 : ∀ n : Wd D, n.w.frozen? ⟨w.heap.size + 1, 0, none⟩ = false := fun n => (LD.out n).2.2.2.2.1.2.2
    have fD5 : ∀ n : Wd D, n.w.cell? ⟨w.heap.size + 1, 1, none⟩ = some (.int .i64 0) := fun n => (LD.out n).2.2.2.2.2.1.2.1
    have zD5 : ∀ n : Wd D, n.w.frozen? ⟨w.heap.size + 1, 1, none⟩ = false := fun n => (LD.out n).2.2.2.2.2.1.2.2
    have fD6 : ∀ n : Wd D, n.w.cell? ⟨w.heap.size + 1, 2, none⟩ = some (.int .i64 0) := fun n => (LD.out n).2.2.2.2.2.2.1.2.1
    have zD6 : ∀ n : Wd D, n.w.frozen? ⟨w.heap.size + 1, 2, none⟩ = false := fun n => (LD.out n).2.2.2.2.2.2.1.2.2
    have fD7 : ∀ n : Wd D, n.w.cell? ⟨w.heap.size + 1, 3, none⟩ = some (.slice none 0 0) := fun n => (LD.out n).2.2.2.2.2.2.2.1.2.1
    have zD7 : ∀ n : Wd D, n.w.frozen? ⟨w.heap.size + 1, 3, none⟩ = false := fun n => (LD.out n).2.2.2.2.2.2.2.1.2.2
    have fD8 : ∀ n : Wd D, n.w.cell? ⟨w.heap.size, 0, none⟩ = some (.slice q1 cs.length c1) := fun n => (LD.out n).2.2.2.2.2.2.2.2.1.2.1
    have fD9 : ∀ n : Wd D, n.w.cell? ⟨w.heap.size, 1, none⟩ = some (.slice q2 ps.length c2) := fun n => (LD.out n).2.2.2.2.2.2.2.2.2.1.2.1
    have fD10 : ∀ n : Wd D, n.w.cell? ⟨w.heap.size, 2, none⟩ = some (.slice q3 rs.length c3) := fun n => (LD.out n).2.2.2.2.2.2.2.2.2.2.1.2.1
    clear S0 hC0
    have E1 := cinL HD BD CA
    have hRD : w.heap.size + 1 < d0.w.heap.size := (LD.out d0).2.2.2.2.1.1
    clear CA
    go_wp2_with fail
    refine (E1 _).out.mono ?_
    rintro e w' ⟨rfl, n, rfl⟩
    have HTN : Hid (ThsN B n.w sq sth) := HH.out.2.1.keep (BD.out n)
    have HWB : Hid (Below w.heap.size w n.w) := hW.out.trans ((BD.out n).mono hW.out.size)
    clear E1
    cases z
    · rw [if_neg (of_decide_eq_false HZ.out)] at HS
      obtain rfl : 9 = E := HS.out
      go_wp2_with fail
      refine bodyPost_ret (v := .tuple #[noSp, .int .i64 9]) (by simp [results, Tryz.results99, go_sem, fD4, fD5, fD6, fD7]) rfl ?_
      exact ⟨⟨noSp, rfl, ⟨fun _ => rfl, fun e => by cases e⟩⟩, set4 HWB.out (Nat.le_succ _) _ _ _ _⟩
    · rw [if_pos (of_decide_eq_true HZ.out)] at HS
      obtain rfl : 0 = E := HS.out
      go_wp2_with fail
      refine bodyPost_ret (v := .tuple #[.agg #[.int .i64 slo, .int .i64 shi, .int .i64 swe, .slice sq sth.length sc], .int .i64 0]) (by simp [results, Tryz.results99, go_sem, fD4, fD5, fD6, fD7]) rfl ?_
      have hg := grown_trans (grown_trans (grown_trans (set_grown n.w (w.heap.size + 1) 0 (.int .i64 slo)) (set_grown _ (w.heap.size + 1) 1 (.int .i64 shi))) (set_grown _ (w.heap.size + 1) 2 (.int .i64 swe))) (set_grown _ (w.heap.size + 1) 3 (.slice sq sth.length sc))
      exact ⟨⟨_, rfl, ⟨fun e => absurd rfl e, fun _ => ⟨⟨⟨slo, shi, swe, sth⟩, sq, sc⟩, rfl, HH.out.1, (HTN.out.grownX HKW.out hg ⟨none, 0, 0, fD7 n⟩).base HKW2.out, HH.out.2.2.1, HH.out.2.2.2⟩⟩⟩, set4 HWB.out (Nat.le_succ _) _ _ _ _⟩
  · have hb : (k != 0) = true := by simpa using hk0
    have HK := Lib.hid hk0
    obtain rfl : k = E := by have := HS.out; rwa [if_pos hk0] at this
    obtain rfl := hv.no hk0
    clear hk0 hv
    go_upto_region 2 with fail
    obtain ⟨W0, hW0⟩ : ∃ W0, (k0.w).alloc (.cells #[.int .i64 0, .int .i64 0, .int .i64 0, .slice none 0 0] 111) = W0 := ⟨_, rfl⟩
    have S0 : St k0.w W0 [(k0.w.heap.size, 0, .int .i64 0), (k0.w.heap.size, 1, .int .i64 0), (k0.w.heap.size, 2, .int .i64 0), (k0.w.heap.size, 3, .slice none 0 0), (w.heap.size + 1, 0, .int .i64 0), (w.heap.size + 1, 1, .int .i64 0), (w.heap.size + 1, 2, .int .i64 0), (w.heap.size + 1, 3, .slice none 0 0), (w.heap.size, 0, .slice q1 cs.length c1), (w.heap.size, 1, .slice q2 ps.length c2), (w.heap.size, 2, .slice q3 rs.length c3)] := by rw [← hW0]; exact ((⟨BK.out k0, LK.out k0⟩ : St k0.w k0.w _)).box #[.int .i64 0, .int .i64 0, .int .i64 0, .slice none 0 0] 111 (k0.w.heap.size) (by simp)
    rw [hW0]
    clear hW0
    obtain ⟨kD, hkk⟩ : ∃ k, k0.w.heap.size = k := ⟨_, rfl⟩
    have gkD : k0.w.heap.size ≤ kD := by rw [← hkk]; exact (BK.out k0).size
    rw [hkk] at S0 ⊢
    have eD1 : kD ≠ w.heap.size + 1 := by have h := (LK.out k0).1.1; omega
    have dD1 : w.heap.size + 1 ≠ kD := Ne.symm eD1
    clear hkk
    obtain ⟨D, hC0, HD, LD, BD, hne⟩ := cls S0
    haveI := hne
    obtain ⟨d0, rfl⟩ : ∃ n : Wd D, W0 = n.w := ⟨⟨_, hC0⟩, rfl⟩
    have fD0 : ∀ n : Wd D, n.w.cell? ⟨kD, 0, none⟩ = some (.int .i64 0) := fun n => (LD.out n).1.2.1
    have fD1 : ∀ n : Wd D, n.w.cell? ⟨kD, 1, none⟩ = some (.int .i64 0) := fun n => (LD.out n).2.1.2.1
    have fD2 : ∀ n : Wd D, n.w.cell? ⟨kD, 2, none⟩ = some (.int .i64 0) := fun n => (LD.out n).2.2.1.2.1
    have fD3 : ∀ n : Wd D, n.w.cell? ⟨kD, 3, none⟩ = some (.slice none 0 0) := fun n => (LD.out n).2.2.2.1.2.1
    have fD4 : ∀ n : Wd D, n.w.cell? ⟨w.heap.size + 1, 0, none⟩ = some (.int .i64 0) := fun n => (LD.out n).2.2.2.2.1.2.1
    have zD4 : ∀ n : Wd D, n.w.frozen? ⟨w.heap.size + 1, 0, none⟩ = false := fun n => (LD.out n).2.2.2.2.1.2.2
    have fD5 : ∀ n : Wd D, n.w.cell? ⟨w.heap.size + 1, 1, none⟩ = some (.int .i64 0) := fun n => (LD.out n).2.2.2.2.2.1.2.1
    have zD5 : ∀ n : Wd D, n.w.frozen? ⟨w.heap.size + 1, 1, none⟩ = false := fun n => (LD.out n).2.2.2.2.2.1.2.2
    have fD6 : ∀ n : Wd D, n.w.cell? ⟨w.heap.size + 1, 2, none⟩ = some (.int .i64 0) := fun n => (LD.out n).2.2.2.2.2.2.1.2.1
    have zD6 : ∀ n : Wd D, n.w.frozen? ⟨w.heap.size + 1, 2, none⟩ = false := fun n => (LD.out n).2.2.2.2.2.2.1.2.2
    have fD7 : ∀ n : Wd D, n.w.cell? ⟨w.heap.size + 1, 3, none⟩ = some (.slice none 0 0) := fun n => (LD.out n).2.2.2.2.2.2.2.1.2.1
    have zD7 : ∀ n : Wd D, n.w.frozen? ⟨w.heap.size + 1, 3, none⟩ = false := fun n => (LD.out n).2.2.2.2.2.2.2.1.2.2
    have fD8 : ∀ n : Wd D, n.w.cell? ⟨w.heap.size, 0, none⟩ = some (.slice q1 cs.length c1) := fun n => (LD.out n).2.2.2.2.2.2.2.2.1.2.1
    have fD9 : ∀ n : Wd D, n.w.cell? ⟨w.heap.size, 1, none⟩ = some (.slice q2 ps.length c2) := fun n => (LD.out n).2.2.2.2.2.2.2.2.2.1.2.1
    have fD10 : ∀ n : Wd D, n.w.cell? ⟨w.heap.size, 2, none⟩ = some (.slice q3 rs.length c3) := fun n => (LD.out n).2.2.2.2.2.2.2.2.2.2.1.2.1
    clear S0 hC0
    have hRD : w.heap.size + 1 < d0.w.heap.size := (LD.out d0).2.2.2.2.1.1
    have HWB : Hid (Below w.heap.size w d0.w) := hW.out.trans ((BD.out d0).mono hW.out.size)
    go_wp2_with fail
    refine bodyPost_ret (v := .tuple #[noSp, .int .i64 k]) (by simp [results, Tryz.results99, go_sem, fD4, fD5, fD6, fD7]) rfl ?_
    exact ⟨⟨noSp, rfl, ⟨fun _ => rfl, fun e => absurd e HK.out⟩⟩, set4 HWB.out (Nat.le_succ _) _ _ _ _⟩
end Go.Proofs.YtcejmfgbfdhflaaGreat
