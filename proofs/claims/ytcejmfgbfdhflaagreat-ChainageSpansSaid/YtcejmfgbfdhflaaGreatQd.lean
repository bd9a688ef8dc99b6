import Derived.Test.YtcejmfgbfdhflaaGreatQc
import Derived.WalkKit
import Derived.LoopTactic
import Derived.WalkSpells
import Derived.WalkLawsBesides
import Derived.Lib.Hide
import Derived.BigQuiet
import Derived.IntWalk
import Derived.Deep.DeepMust
import Derived.WalkSmall
import Derived.StillTailTactics
import Derived.Deep.RegionLaw
import Derived.Deep.RegionHeld3
import Derived.Deep.QuietTactic
import Derived.Laws.AppendOwnNone
import Derived.Shelf.SlSortCmp.NoneTotal
import Derived.Maps.AppendAt
/-
  Da Db Dc Dd De Df Dg Dh Di: merged.
-/
namespace Go.Proofs.YtcejmfgbfdhflaaGreat
open Go.RowKit Go.Shelf Go.BigFrame Go.Sort
attribute [local go_sem] World.cell?_alloc_some
theorem mxs_at : ∀ (l : List Int) (a : Int), mxs a l = a ∨ mxs a l ∈ l
  | [], a => .inl rfl
  | x :: l, a => by
    have h : mxs a (x :: l) = mxs (max a x) l := rfl
    rw [h]
    rcases mxs_at l (max a x) with e | e
    · rw [e]
      rcases Int.le_total a x with k | k
      · right; rw [Int.max_eq_right k]; exact List.mem_cons_self
      · left; rw [Int.max_eq_left k]
    · right; exact List.mem_cons_of_mem _ e
theorem mns_at : ∀ (l : List Int) (a : Int), mns a l = a ∨ mns a l ∈ l
  | [], a => .inl rfl
  | x :: l, a => by
    have h : mns a (x :: l) = mns (min a x) l := rfl
    rw [h]
    rcases mns_at l (min a x) with e | e
    · rw [e]
      rcases Int.le_total a x with k | k
      · left; rw [Int.min_eq_left k]
      · right; rw [Int.min_eq_right k]; exact List.mem_cons_self
    · right; exact List.mem_cons_of_mem _ e
def loNo (s : Spl) (y : Int) : Int := if lowS s y = 9000 then 0 else mnL ((s.ths.filter fun t => decide (lowT s.wear t y = lowS s y)).map (·.num))
def hiNo (s : Spl) (y : Int) : Int := if highS s y = 12000 then 0 else mnL ((s.ths.filter fun t => decide (highT s.wear t y = highS s y)).map (·.num))
def rsLo (x : WA) (ch y : Int) : Int := if agE x ch y = 0 then loNo (spO x (chOr x.cs ch) y) y else 0
def rsHi (x : WA) (ch y : Int) : Int := if agE x ch y = 0 then hiNo (spO x (chOr x.cs ch) y) y else 0
set_option maxRecDepth 100000 in
set_option maxHeartbeats 6400000 in
theorem Rests_any (x : WA) (ch y : Int) (w : World) (h : x.At w) :
    Calls Tryz.prog 32 #[x.v, .int .i64 ch, .int .i64 y] w fun e w' => e = .returned (.tuple #[.int .i64 (rsLo x ch y), .int .i64 (rsHi x ch y), .int .i64 (agE x ch y)]) ∧ Below w.heap.size w w' := by
  have K1 := fun W (hb : Below w.heap.size w W) => agreedIn_any x ch y W (h.keep hb)
  have HOK : Hid (agE x ch y = 0 → okS (spO x (chOr x.cs ch) y) = true ∧ 0 ≤ y ∧ y ≤ 4000) := fun e => spO_ok (agE_zero e).1
  obtain ⟨A, hA⟩ : ∃ A, rsLo x ch y = A := ⟨_, rfl⟩
  obtain ⟨B1, hB1⟩ : ∃ B, rsHi x ch y = B := ⟨_, rfl⟩
  obtain ⟨k, hk⟩ : ∃ k, agE x ch y = k := ⟨_, rfl⟩
  obtain ⟨c, hc⟩ : ∃ c, chOr x.cs ch = c := ⟨_, rfl⟩
  obtain ⟨s, hs⟩ : ∃ s, spO x c y = s := ⟨_, rfl⟩
  rw [hA, hB1]
  unfold rsLo at hA
  unfold rsHi at hB1
  rw [hk, hc, hs] at hA hB1 HOK
  simp only [hk, hc] at K1
  rw [hk]
  have HS := Lib.hid hs
  have HA := Lib.hid hA
  have HB1 := Lib.hid hB1
  clear h hk hc hA hB1
  obtain ⟨X, hX⟩ : ∃ X, x = X := ⟨_, rfl⟩
  rw [hX] at HS
  simp only [hX] at K1
  have K2 := K1
  rw [hX]
  clear K1 hX hs
  obtain ⟨cs, ps, rs, q1, q2, q3, c1, c2, c3⟩ := X
  simp only [WA.v] at K2 ⊢
  go_enter Tryz.func32, Tryz.ntmps32
  go_wp2_with fail
  obtain ⟨W0, hW0⟩ : ∃ W0, ((w).alloc (.cells #[.slice q1 cs.length c1, .slice q2 ps.length c2, .slice q3 rs.length c3] 26)).alloc (.cells #[.int .i64 y] 3) = W0 := ⟨_, rfl⟩
  have S0 : St w W0 [(w.heap.size + 1, 0, .int .i64 y), (w.heap.size, 0, .slice q1 cs.length c1), (w.heap.size, 1, .slice q2 ps.length c2), (w.heap.size, 2, .slice q3 rs.length c3)] := by rw [← hW0]; exact (((St.nil w)).box #[.slice q1 cs.length c1, .slice q2 ps.length c2, .slice q3 rs.length c3] 26 (w.heap.size) (by simp)).box #[.int .i64 y] 3 (w.heap.size + 1) (by simp)
  rw [hW0]
  clear hW0
  obtain ⟨C, hC0, HC, LC, BC, hne⟩ := cls S0
  haveI := hne
  obtain ⟨c0, rfl⟩ : ∃ n : Wd C, W0 = n.w := ⟨⟨_, hC0⟩, rfl⟩
  have fC0 : ∀ n : Wd C, n.w.cell? ⟨w.heap.size + 1, 0, none⟩ = some (.int .i64 y) := fun n => (LC.out n).1.2.1
  have fC1 : ∀ n : Wd C, n.w.cell? ⟨w.heap.size, 0, none⟩ = some (.slice q1 cs.length c1) := fun n => (LC.out n).2.1.2.1
  have fC2 : ∀ n : Wd C, n.w.cell? ⟨w.heap.size, 1, none⟩ = some (.slice q2 ps.length c2) := fun n => (LC.out n).2.2.1.2.1
  have fC3 : ∀ n : Wd C, n.w.cell? ⟨w.heap.size, 2, none⟩ = some (.slice q3 rs.length c3) := fun n => (LC.out n).2.2.2.1.2.1
  clear S0 hC0
  go_wp2_with fail
  refine (K2 _ (BC.out _)).mono ?_
  rintro e w1 ⟨⟨v, rfl, hv⟩, hb⟩
  have S1 : St w1 w1 [(w.heap.size + 1, 0, .int .i64 y), (w.heap.size, 0, .slice q1 cs.length c1), (w.heap.size, 1, .slice q2 ps.length c2), (w.heap.size, 2, .slice q3 rs.length c3)] := ⟨Below.refl _ _, (LC.out _).keep hb⟩
  have hW : Hid (Below w.heap.size w w1) := (BC.out _).trans (hb.mono (BC.out _).size)
  clear hb K2 HC BC fC0 fC1 fC2 fC3 hne
  obtain ⟨K, hC0, HK, LK, BK, hne⟩ := cls S1
  haveI := hne
  obtain ⟨k0, rfl⟩ : ∃ n : Wd K, w1 = n.w := ⟨⟨_, hC0⟩, rfl⟩
  have fK0 : ∀ n : Wd K, n.w.cell? ⟨w.heap.size + 1, 0, none⟩ = some (.int .i64 y) := fun n => (LK.out n).1.2.1
  have fK1 : ∀ n : Wd K, n.w.cell? ⟨w.heap.size, 0, none⟩ = some (.slice q1 cs.length c1) := fun n => (LK.out n).2.1.2.1
  have fK2 : ∀ n : Wd K, n.w.cell? ⟨w.heap.size, 1, none⟩ = some (.slice q2 ps.length c2) := fun n => (LK.out n).2.2.1.2.1
  have fK3 : ∀ n : Wd K, n.w.cell? ⟨w.heap.size, 2, none⟩ = some (.slice q3 rs.length c3) := fun n => (LK.out n).2.2.2.1.2.1
  clear S1 hC0
  by_cases hk0 : k = 0
  · subst hk0
    obtain ⟨sv, rfl, hsv, hth, hcap, hcm⟩ := hv.ok rfl
    obtain ⟨hok, hy⟩ := HOK.out rfl
    have hss : sv.s = s := hsv.trans HS.out
    rw [← hss] at hok HA HB1
    rw [if_pos rfl] at HA HB1
    have CA := fun W (hb : Below k0.w.heap.size k0.w W) => long_any sv.s sv.q sv.cap y W hok hy (hth.ths.keep hb)
    have CL := fun S Y L W (hb : Below k0.w.heap.size k0.w W) h1 h2 h3 h4 => leastNo103_any sv.s sv.q sv.cap y (lowS sv.s y) (highS sv.s y) S Y L W hok hcap hcm hy (hth.ths.keep hb) h1 h2 h3 h4
    have CH := fun S Y L W (hb : Below k0.w.heap.size k0.w W) h1 h2 h3 h4 => leastNo105_any sv.s sv.q sv.cap y (lowS sv.s y) (highS sv.s y) S Y L W hok hcap hcm hy (hth.ths.keep hb) h1 h2 h3 h4
    have X1 : Hid (lowS sv.s y ≠ 9000 → ∃ t ∈ sv.s.ths, lowT sv.s.wear t y = lowS sv.s y) := fun e => by
      rcases mxs_at (sv.s.ths.map fun t => lowT sv.s.wear t y) 9000 with k | k
      · exact absurd k e
      · obtain ⟨t, ht, he⟩ := List.mem_map.1 k
        exact ⟨t, ht, he⟩
    have X2 : Hid (highS sv.s y ≠ 12000 → ∃ t ∈ sv.s.ths, highT sv.s.wear t y = highS sv.s y) := fun e => by
      rcases mns_at (sv.s.ths.map fun t => highT sv.s.wear t y) 12000 with k | k
      · exact absurd k e
      · obtain ⟨t, ht, he⟩ := List.mem_map.1 k
        exact ⟨t, ht, he⟩
    unfold loNo at HA
    unfold hiNo at HB1
    obtain ⟨⟨slo, shi, swe, sth⟩, sq, sc⟩ := sv
    obtain ⟨a, ha⟩ : ∃ a, lowS ⟨slo, shi, swe, sth⟩ y = a := ⟨_, rfl⟩
    obtain ⟨b, hb⟩ : ∃ b, highS ⟨slo, shi, swe, sth⟩ y = b := ⟨_, rfl⟩
    simp only [SV.v, Spl.v] at CA CL CH HA HB1 X1 X2 ⊢
    simp only [ha, hb] at CA CL CH HA HB1 X1 X2
    obtain ⟨M1, hM1⟩ : ∃ M, mnL ((sth.filter fun t => decide (lowT swe t y = a)).map (·.num)) = M := ⟨_, rfl⟩
    obtain ⟨M2, hM2⟩ : ∃ M, mnL ((sth.filter fun t => decide (highT swe t y = b)).map (·.num)) = M := ⟨_, rfl⟩
    simp only [hM1] at CL HA
    simp only [hM2] at CH HB1
    have HCL := Lib.hid CL
    have HCH := Lib.hid CH
    clear hsv hth hcap hcm hok hv HOK hss hM1 hM2 ha hb CL CH hy
    go_upto_region 2 with fail
    obtain ⟨W0, hW0⟩ : ∃ W0, (k0.w).alloc (.cells #[.int .i64 slo, .int .i64 shi, .int .i64 swe, .slice sq sth.length sc] 111) = W0 := ⟨_, rfl⟩
    have S0 : St k0.w W0 [(k0.w.heap.size, 0, .int .i64 slo), (k0.w.heap.size, 1, .int .i64 shi), (k0.w.heap.size, 2, .int .i64 swe), (k0.w.heap.size, 3, .slice sq sth.length sc), (w.heap.size + 1, 0, .int .i64 y), (w.heap.size, 0, .slice q1 cs.length c1), (w.heap.size, 1, .slice q2 ps.length c2), (w.heap.size, 2, .slice q3 rs.length c3)] := by rw [← hW0]; exact ((⟨BK.out k0, LK.out k0⟩ : St k0.w k0.w _)).box #[.int .i64 slo, .int .i64 shi, .int .i64 swe, .slice sq sth.length sc] 111 (k0.w.heap.size) (by simp)
    rw [hW0]
    clear hW0
    obtain ⟨kD, hkk⟩ : ∃ k, k0.w.heap.size = k := ⟨_, rfl⟩
    have gkD : k0.w.heap.size ≤ kD := by rw [← hkk]; exact (BK.out k0).size
    rw [hkk] at S0 ⊢
    clear hkk
    obtain ⟨D, hC0, HD, LD, BD, hne⟩ := cls S0
    haveI := hne
    obtain ⟨d0, rfl⟩ : ∃ n : Wd D, W0 = n.w := ⟨⟨_, hC0⟩, rfl⟩
    have fD0 : ∀ n : Wd D, n.w.cell? ⟨kD, 0, none⟩ = some (.int .i64 slo) := fun n => (LD.out n).1.2.1
    have fD1 : ∀ n : Wd D, n.w.cell? ⟨kD, 1, none⟩ = some (.int .i64 shi) := fun n => (LD.out n).2.1.2.1
    have fD2 : ∀ n : Wd D, n.w.cell? ⟨kD, 2, none⟩ = some (.int .i64 swe) := fun n => (LD.out n).2.2.1.2.1
    have fD3 : ∀ n : Wd D, n.w.cell? ⟨kD, 3, none⟩ = some (.slice sq sth.length sc) := fun n => (LD.out n).2.2.2.1.2.1
    have fD4 : ∀ n : Wd D, n.w.cell? ⟨w.heap.size + 1, 0, none⟩ = some (.int .i64 y) := fun n => (LD.out n).2.2.2.2.1.2.1
    have fD5 : ∀ n : Wd D, n.w.cell? ⟨w.heap.size, 0, none⟩ = some (.slice q1 cs.length c1) := fun n => (LD.out n).2.2.2.2.2.1.2.1
    have fD6 : ∀ n : Wd D, n.w.cell? ⟨w.heap.size, 1, none⟩ = some (.slice q2 ps.length c2) := fun n => (LD.out n).2.2.2.2.2.2.1.2.1
    have fD7 : ∀ n : Wd D, n.w.cell? ⟨w.heap.size, 2, none⟩ = some (.slice q3 rs.length c3) := fun n => (LD.out n).2.2.2.2.2.2.2.1.2.1
    clear S0 hC0
    have E1 := cinL HD BD CA
    clear CA
    go_wp2_with fail
    refine (E1 _).out.mono ?_
    rintro e w' ⟨rfl, n, rfl⟩
    clear E1
    go_upto_region 5 with fail
    obtain ⟨W0, hW0⟩ : ∃ W0, (n.w).alloc (.cells #[.int .i64 a, .int .i64 b] 30) = W0 := ⟨_, rfl⟩
    have S0 : St k0.w W0 [(n.w.heap.size, 0, .int .i64 a), (n.w.heap.size, 1, .int .i64 b), (kD, 0, .int .i64 slo), (kD, 1, .int .i64 shi), (kD, 2, .int .i64 swe), (kD, 3, .slice sq sth.length sc), (w.heap.size + 1, 0, .int .i64 y), (w.heap.size, 0, .slice q1 cs.length c1), (w.heap.size, 1, .slice q2 ps.length c2), (w.heap.size, 2, .slice q3 rs.length c3)] := by rw [← hW0]; exact ((⟨BD.out n, LD.out n⟩ : St k0.w n.w _)).box #[.int .i64 a, .int .i64 b] 30 (n.w.heap.size) (by simp)
    rw [hW0]
    clear hW0
    obtain ⟨kF, hkk⟩ : ∃ k, n.w.heap.size = k := ⟨_, rfl⟩
    have gkF : k0.w.heap.size ≤ kF := by rw [← hkk]; exact (BD.out n).size
    rw [hkk] at S0 ⊢
    clear hkk
    obtain ⟨F, hC0, HF, LF, BF, hne⟩ := cls S0
    haveI := hne
    obtain ⟨f0, rfl⟩ : ∃ n : Wd F, W0 = n.w := ⟨⟨_, hC0⟩, rfl⟩
    have fF0 : ∀ n : Wd F, n.w.cell? ⟨kF, 0, none⟩ = some (.int .i64 a) := fun n => (LF.out n).1.2.1
    have fF1 : ∀ n : Wd F, n.w.cell? ⟨kF, 1, none⟩ = some (.int .i64 b) := fun n => (LF.out n).2.1.2.1
    have fF2 : ∀ n : Wd F, n.w.cell? ⟨kD, 0, none⟩ = some (.int .i64 slo) := fun n => (LF.out n).2.2.1.2.1
    have fF3 : ∀ n : Wd F, n.w.cell? ⟨kD, 1, none⟩ = some (.int .i64 shi) := fun n => (LF.out n).2.2.2.1.2.1
    have fF4 : ∀ n : Wd F, n.w.cell? ⟨kD, 2, none⟩ = some (.int .i64 swe) := fun n => (LF.out n).2.2.2.2.1.2.1
    have fF5 : ∀ n : Wd F, n.w.cell? ⟨kD, 3, none⟩ = some (.slice sq sth.length sc) := fun n => (LF.out n).2.2.2.2.2.1.2.1
    have fF6 : ∀ n : Wd F, n.w.cell? ⟨w.heap.size + 1, 0, none⟩ = some (.int .i64 y) := fun n => (LF.out n).2.2.2.2.2.2.1.2.1
    have fF7 : ∀ n : Wd F, n.w.cell? ⟨w.heap.size, 0, none⟩ = some (.slice q1 cs.length c1) := fun n => (LF.out n).2.2.2.2.2.2.2.1.2.1
    have fF8 : ∀ n : Wd F, n.w.cell? ⟨w.heap.size, 1, none⟩ = some (.slice q2 ps.length c2) := fun n => (LF.out n).2.2.2.2.2.2.2.2.1.2.1
    have fF9 : ∀ n : Wd F, n.w.cell? ⟨w.heap.size, 2, none⟩ = some (.slice q3 rs.length c3) := fun n => (LF.out n).2.2.2.2.2.2.2.2.2.1.2.1
    clear S0 hC0
    have HWB : Hid (∀ n : Wd F, Below w.heap.size w n.w) := fun n => hW.out.trans ((BF.out n).mono hW.out.size)
    have GL : ∀ n : Wd F, a ≠ 9000 → Hid (Calls Tryz.prog 102 #[.agg #[.int .i64 slo, .int .i64 shi, .int .i64 swe, .slice sq sth.length sc], .func (.func 103) #[] #[.pointer (some ⟨kD, 0, none⟩), .pointer (some ⟨w.heap.size + 1, 0, none⟩), .pointer (some ⟨kF, 0, none⟩)]] n.w fun e w'' => e = .returned (.int .i64 M1) ∧ ∃ m : Wd F, w'' = m.w) := fun n e => by
      obtain ⟨l1, l2, l3, l4, l5, l6, l7, -⟩ := LF.out n
      exact Calls.quiet_in (C := F) ((HCL.out kD (w.heap.size + 1) kF n.w (BF.out n) ⟨l3, l4, l5, l6, trivial⟩ ⟨l7, trivial⟩ ⟨l1, l2, trivial⟩ (X1.out e)).mono fun _ _ h => ⟨h.1, HF.out _ _ n.h h.2⟩)
    have GH : ∀ n : Wd F, b ≠ 12000 → Hid (Calls Tryz.prog 102 #[.agg #[.int .i64 slo, .int .i64 shi, .int .i64 swe, .slice sq sth.length sc], .func (.func 105) #[] #[.pointer (some ⟨kD, 0, none⟩), .pointer (some ⟨w.heap.size + 1, 0, none⟩), .pointer (some ⟨kF, 0, none⟩)]] n.w fun e w'' => e = .returned (.int .i64 M2) ∧ ∃ m : Wd F, w'' = m.w) := fun n e => by
      obtain ⟨l1, l2, l3, l4, l5, l6, l7, -⟩ := LF.out n
      exact Calls.quiet_in (C := F) ((HCH.out kD (w.heap.size + 1) kF n.w (BF.out n) ⟨l3, l4, l5, l6, trivial⟩ ⟨l7, trivial⟩ ⟨l1, l2, trivial⟩ (X2.out e)).mono fun _ _ h => ⟨h.1, HF.out _ _ n.h h.2⟩)
    by_cases ea : a = 9000
    · rw [if_pos ea] at HA
      obtain rfl : 0 = A := HA.out
      have ba : (a != 9000) = false := by simpa using ea
      clear GL ea
      by_cases eb : b = 12000
      · rw [if_pos eb] at HB1
        obtain rfl : 0 = B1 := HB1.out
        have bb : (b != 12000) = false := by simpa using eb
        clear GH eb
        go_wp2_with fail
        refine bodyPost_ret (v := .tuple #[.int .i64 0, .int .i64 0, .int .i64 0]) (by simp [results, Tryz.results32, go_sem]) rfl ⟨rfl, HWB.out _⟩
      · rw [if_neg eb] at HB1
        obtain rfl : M2 = B1 := HB1.out
        have bb : (b != 12000) = true := by simpa using eb
        have G2 := fun n => GH n eb
        clear GH eb
        go_wp2_with (go_at_call 102; with_reducible refine (G2 _).out.mono ?_; rintro e w' ⟨rfl, n, rfl⟩)
        refine bodyPost_ret (v := .tuple #[.int .i64 0, .int .i64 M2, .int .i64 0]) (by simp [results, Tryz.results32, go_sem]) rfl ⟨rfl, HWB.out _⟩
    · rw [if_neg ea] at HA
      obtain rfl : M1 = A := HA.out
      have ba : (a != 9000) = true := by simpa using ea
      have G1 := fun n => GL n ea
      clear GL ea
      by_cases eb : b = 12000
      · rw [if_pos eb] at HB1
        obtain rfl : 0 = B1 := HB1.out
        have bb : (b != 12000) = false := by simpa using eb
        clear GH eb
        go_wp2_with (go_at_call 102; with_reducible refine (G1 _).out.mono ?_; rintro e w' ⟨rfl, n, rfl⟩)
        refine bodyPost_ret (v := .tuple #[.int .i64 M1, .int .i64 0, .int .i64 0]) (by simp [results, Tryz.results32, go_sem]) rfl ⟨rfl, HWB.out _⟩
      · rw [if_neg eb] at HB1
        obtain rfl : M2 = B1 := HB1.out
        have bb : (b != 12000) = true := by simpa using eb
        have G2 := fun n => GH n eb
        clear GH eb
        go_wp2_with (first | (go_at_call 102; with_reducible refine (G1 _).out.mono ?_; rintro e w' ⟨rfl, n, rfl⟩) | (go_at_call 102; with_reducible refine (G2 _).out.mono ?_; rintro e w' ⟨rfl, n, rfl⟩))
        refine bodyPost_ret (v := .tuple #[.int .i64 M1, .int .i64 M2, .int .i64 0]) (by simp [results, Tryz.results32, go_sem]) rfl ⟨rfl, HWB.out _⟩
  · have hb : (k != 0) = true := by simpa using hk0
    rw [if_neg hk0] at HA HB1
    obtain rfl : 0 = A := HA.out
    obtain rfl : 0 = B1 := HB1.out
    obtain rfl := hv.no hk0
    clear hk0 hv
    go_upto_region 2 with fail
    obtain ⟨W0, hW0⟩ : ∃ W0, (k0.w).alloc (.cells #[.int .i64 0, .int .i64 0, .int .i64 0, .slice none 0 0] 111) = W0 := ⟨_, rfl⟩
    have S0 : St k0.w W0 [(k0.w.heap.size, 0, .int .i64 0), (k0.w.heap.size, 1, .int .i64 0), (k0.w.heap.size, 2, .int .i64 0), (k0.w.heap.size, 3, .slice none 0 0), (w.heap.size + 1, 0, .int .i64 y), (w.heap.size, 0, .slice q1 cs.length c1), (w.heap.size, 1, .slice q2 ps.length c2), (w.heap.size, 2, .slice q3 rs.length c3)] := by rw [← hW0]; exact ((⟨BK.out k0, LK.out k0⟩ : St k0.w k0.w _)).box #[.int .i64 0, .int .i64 0, .int .i64 0, .slice none 0 0] 111 (k0.w.heap.size) (by simp)
    rw [hW0]
    clear hW0
    obtain ⟨kD, hkk⟩ : ∃ k, k0.w.heap.size = k := ⟨_, rfl⟩
    have gkD : k0.w.heap.size ≤ kD := by rw [← hkk]; exact (BK.out k0).size
    rw [hkk] at S0 ⊢
    clear hkk
    obtain ⟨D, hC0, HD, LD, BD, hne⟩ := cls S0
    haveI := hne
    obtain ⟨d0, rfl⟩ : ∃ n : Wd D, W0 = n.w := ⟨⟨_, hC0⟩, rfl⟩
    have fD0 : ∀ n : Wd D, n.w.cell? ⟨kD, 0, none⟩ = some (.int .i64 0) := fun n => (LD.out n).1.2.1
    have fD1 : ∀ n : Wd D, n.w.cell? ⟨kD, 1, none⟩ = some (.int .i64 0) := fun n => (LD.out n).2.1.2.1
    have fD2 : ∀ n : Wd D, n.w.cell? ⟨kD, 2, none⟩ = some (.int .i64 0) := fun n => (LD.out n).2.2.1.2.1
    have fD3 : ∀ n : Wd D, n.w.cell? ⟨kD, 3, none⟩ = some (.slice none 0 0) := fun n => (LD.out n).2.2.2.1.2.1
    have fD4 : ∀ n : Wd D, n.w.cell? ⟨w.heap.size + 1, 0, none⟩ = some (.int .i64 y) := fun n => (LD.out n).2.2.2.2.1.2.1
    have fD5 : ∀ n : Wd D, n.w.cell? ⟨w.heap.size, 0, none⟩ = some (.slice q1 cs.length c1) := fun n => (LD.out n).2.2.2.2.2.1.2.1
    have fD6 : ∀ n : Wd D, n.w.cell? ⟨w.heap.size, 1, none⟩ = some (.slice q2 ps.length c2) := fun n => (LD.out n).2.2.2.2.2.2.1.2.1
    have fD7 : ∀ n : Wd D, n.w.cell? ⟨w.heap.size, 2, none⟩ = some (.slice q3 rs.length c3) := fun n => (LD.out n).2.2.2.2.2.2.2.1.2.1
    clear S0 hC0
    have HWB : Hid (Below w.heap.size w d0.w) := hW.out.trans ((BD.out d0).mono hW.out.size)
    go_wp2_with fail
    refine bodyPost_ret (v := .tuple #[.int .i64 0, .int .i64 0, .int .i64 k]) (by simp [results, Tryz.results32, go_sem]) rfl ⟨rfl, HWB.out⟩
end Go.Proofs.YtcejmfgbfdhflaaGreat
namespace Go.Proofs.YtcejmfgbfdhflaaGreat
open Go.RowKit Go.Shelf Go.BigFrame Go.Sort
attribute [local go_sem] World.cell?_alloc_some
/-- A measure. -/
structure Ms where
  ch : Int
  year : Int
  chains : Int
  links : Int
  slack : Int
deriving DecidableEq
abbrev Ms.v (m : Ms) : Value := .agg #[.int .i64 m.ch, .int .i64 m.year, .int .i64 m.chains, .int .i64 m.links, .int .i64 m.slack]
def okMs (cs : List Ch) (m : Ms) : Bool := (chF cs m.ch).isSome && (inB (chOr cs m.ch).year 4000 m.year && (inB 0 100000 m.chains && (inB 0 99 m.links && inB 0 100000 m.slack)))
set_option maxRecDepth 100000 in
set_option maxHeartbeats 3200000 in
theorem validMeasure_any (x : WA) (p : Ms) (w : World) (h : x.At w) : Calls Tryz.prog 126 #[x.v, p.v] w fun e w' => e = .returned (.bool (okMs x.cs p)) ∧ Below w.heap.size w w' := by
  have C0 := fun W (hb : Below w.heap.size w W) => chainOf_any x.q1 x.c1 x.cs p.ch W h.n1 (h.cs.keep hb)
  obtain ⟨c, hc⟩ : ∃ c, chOr x.cs p.ch = c := ⟨_, rfl⟩
  have C1 := fun W => yearsOf_any c W
  have C2 := fun W => within_any c.year 4000 p.year W
  have C3 := fun W => within_any 0 100000 p.chains W
  have C4 := fun W => within_any 0 99 p.links W
  have C5 := fun W => within_any 0 100000 p.slack W
  obtain ⟨x0, h0⟩ : ∃ b, (chF x.cs p.ch).isSome = b := ⟨_, rfl⟩
  obtain ⟨x1, h1⟩ : ∃ b, inB c.year 4000 p.year = b := ⟨_, rfl⟩
  obtain ⟨x2, h2⟩ : ∃ b, inB 0 100000 p.chains = b := ⟨_, rfl⟩
  obtain ⟨x3, h3⟩ : ∃ b, inB 0 99 p.links = b := ⟨_, rfl⟩
  obtain ⟨x4, h4⟩ : ∃ b, inB 0 100000 p.slack = b := ⟨_, rfl⟩
  rw [show okMs x.cs p = (x0 && (x1 && (x2 && (x3 && x4)))) from by rw [okMs, hc, h0, h1, h2, h3, h4]]
  simp only [h0, hc] at C0
  simp only [h1] at C2
  simp only [h2] at C3
  simp only [h3] at C4
  simp only [h4] at C5
  clear h0 h1 h2 h3 h4 hc h
  obtain ⟨cs, ps, rs, q1, q2, q3, c1, c2, c3⟩ := x
  obtain ⟨m1, m2, m3, m4, m5⟩ := p
  simp only [WA.v, Ms.v] at *
  go_enter Tryz.func126, Tryz.ntmps126
  go_wp2_with fail
  obtain ⟨W0, hW0⟩ : ∃ W0, ((w).alloc (.cells #[.slice q1 cs.length c1, .slice q2 ps.length c2, .slice q3 rs.length c3] 26)).alloc (.cells #[.int .i64 (m1), .int .i64 (m2), .int .i64 (m3), .int .i64 (m4), .int .i64 (m5)] 73) = W0 := ⟨_, rfl⟩
  have S0 : St w W0 [(w.heap.size + 1, 0, .int .i64 (m1)), (w.heap.size + 1, 1, .int .i64 (m2)), (w.heap.size + 1, 2, .int .i64 (m3)), (w.heap.size + 1, 3, .int .i64 (m4)), (w.heap.size + 1, 4, .int .i64 (m5)), (w.heap.size, 0, .slice q1 cs.length c1), (w.heap.size, 1, .slice q2 ps.length c2), (w.heap.size, 2, .slice q3 rs.length c3)] := by rw [← hW0]; exact (((St.nil w)).box #[.slice q1 cs.length c1, .slice q2 ps.length c2, .slice q3 rs.length c3] 26 (w.heap.size) (by simp)).box #[.int .i64 (m1), .int .i64 (m2), .int .i64 (m3), .int .i64 (m4), .int .i64 (m5)] 73 (w.heap.size + 1) (by simp)
  rw [hW0]
  clear hW0
  obtain ⟨C, hC0, HC, LC, BC, hne⟩ := cls S0
  haveI := hne
  obtain ⟨c0, rfl⟩ : ∃ n : Wd C, W0 = n.w := ⟨⟨_, hC0⟩, rfl⟩
  have fC0 : ∀ n : Wd C, n.w.cell? ⟨w.heap.size + 1, 0, none⟩ = some (.int .i64 (m1)) := fun n => (LC.out n).1.2.1
  have fC1 : ∀ n : Wd C, n.w.cell? ⟨w.heap.size + 1, 1, none⟩ = some (.int .i64 (m2)) := fun n => (LC.out n).2.1.2.1
  have fC2 : ∀ n : Wd C, n.w.cell? ⟨w.heap.size + 1, 2, none⟩ = some (.int .i64 (m3)) := fun n => (LC.out n).2.2.1.2.1
  have fC3 : ∀ n : Wd C, n.w.cell? ⟨w.heap.size + 1, 3, none⟩ = some (.int .i64 (m4)) := fun n => (LC.out n).2.2.2.1.2.1
  have fC4 : ∀ n : Wd C, n.w.cell? ⟨w.heap.size + 1, 4, none⟩ = some (.int .i64 (m5)) := fun n => (LC.out n).2.2.2.2.1.2.1
  have fC5 : ∀ n : Wd C, n.w.cell? ⟨w.heap.size, 0, none⟩ = some (.slice q1 cs.length c1) := fun n => (LC.out n).2.2.2.2.2.1.2.1
  have fC6 : ∀ n : Wd C, n.w.cell? ⟨w.heap.size, 1, none⟩ = some (.slice q2 ps.length c2) := fun n => (LC.out n).2.2.2.2.2.2.1.2.1
  have fC7 : ∀ n : Wd C, n.w.cell? ⟨w.heap.size, 2, none⟩ = some (.slice q3 rs.length c3) := fun n => (LC.out n).2.2.2.2.2.2.2.1.2.1
  clear S0 hC0
  go_wp2_with (go_at_call 112; refine (C0 _ (BC.out _)).mono ?_; rintro e w1 ⟨rfl, hg⟩; obtain ⟨m, rfl⟩ : ∃ m : Wd C, w1 = m.w := ⟨⟨_, HC.out _ _ (Wd.h _) hg⟩, rfl⟩; clear hg C0)
  obtain ⟨W0, hW0⟩ : ∃ W0, (m.w).alloc (.cells #[.int .i64 c.id, .int .i64 c.year, .int .i64 c.lo, .int .i64 c.hi, .int .i64 c.wear] 90) = W0 := ⟨_, rfl⟩
  have S0 : St w W0 [(m.w.heap.size, 0, .int .i64 c.id), (m.w.heap.size, 1, .int .i64 c.year), (m.w.heap.size, 2, .int .i64 c.lo), (m.w.heap.size, 3, .int .i64 c.hi), (m.w.heap.size, 4, .int .i64 c.wear), (w.heap.size + 1, 0, .int .i64 (m1)), (w.heap.size + 1, 1, .int .i64 (m2)), (w.heap.size + 1, 2, .int .i64 (m3)), (w.heap.size + 1, 3, .int .i64 (m4)), (w.heap.size + 1, 4, .int .i64 (m5)), (w.heap.size, 0, .slice q1 cs.length c1), (w.heap.size, 1, .slice q2 ps.length c2), (w.heap.size, 2, .slice q3 rs.length c3)] := by rw [← hW0]; exact ((⟨BC.out m, LC.out m⟩ : St w m.w _)).box #[.int .i64 c.id, .int .i64 c.year, .int .i64 c.lo, .int .i64 c.hi, .int .i64 c.wear] 90 (m.w.heap.size) (by simp)
  rw [hW0]
  clear hW0
  obtain ⟨kD, hkk⟩ : ∃ k, m.w.heap.size = k := ⟨_, rfl⟩
  have gkD : w.heap.size ≤ kD := by rw [← hkk]; exact (BC.out m).size
  rw [hkk] at S0 ⊢
  clear hkk
  obtain ⟨D, hC0, HD, LD, BD, hne⟩ := cls S0
  haveI := hne
  obtain ⟨d0, rfl⟩ : ∃ n : Wd D, W0 = n.w := ⟨⟨_, hC0⟩, rfl⟩
  have fD0 : ∀ n : Wd D, n.w.cell? ⟨kD, 0, none⟩ = some (.int .i64 c.id) := fun n => (LD.out n).1.2.1
  have fD1 : ∀ n : Wd D, n.w.cell? ⟨kD, 1, none⟩ = some (.int .i64 c.year) := fun n => (LD.out n).2.1.2.1
  have fD2 : ∀ n : Wd D, n.w.cell? ⟨kD, 2, none⟩ = some (.int .i64 c.lo) := fun n => (LD.out n).2.2.1.2.1
  have fD3 : ∀ n : Wd D, n.w.cell? ⟨kD, 3, none⟩ = some (.int .i64 c.hi) := fun n => (LD.out n).2.2.2.1.2.1
  have fD4 : ∀ n : Wd D, n.w.cell? ⟨kD, 4, none⟩ = some (.int .i64 c.wear) := fun n => (LD.out n).2.2.2.2.1.2.1
  have fD5 : ∀ n : Wd D, n.w.cell? ⟨w.heap.size + 1, 0, none⟩ = some (.int .i64 (m1)) := fun n => (LD.out n).2.2.2.2.2.1.2.1
  have fD6 : ∀ n : Wd D, n.w.cell? ⟨w.heap.size + 1, 1, none⟩ = some (.int .i64 (m2)) := fun n => (LD.out n).2.2.2.2.2.2.1.2.1
  have fD7 : ∀ n : Wd D, n.w.cell? ⟨w.heap.size + 1, 2, none⟩ = some (.int .i64 (m3)) := fun n => (LD.out n).2.2.2.2.2.2.2.1.2.1
  have fD8 : ∀ n : Wd D, n.w.cell? ⟨w.heap.size + 1, 3, none⟩ = some (.int .i64 (m4)) := fun n => (LD.out n).2.2.2.2.2.2.2.2.1.2.1
  have fD9 : ∀ n : Wd D, n.w.cell? ⟨w.heap.size + 1, 4, none⟩ = some (.int .i64 (m5)) := fun n => (LD.out n).2.2.2.2.2.2.2.2.2.1.2.1
  have fD10 : ∀ n : Wd D, n.w.cell? ⟨w.heap.size, 0, none⟩ = some (.slice q1 cs.length c1) := fun n => (LD.out n).2.2.2.2.2.2.2.2.2.2.1.2.1
  have fD11 : ∀ n : Wd D, n.w.cell? ⟨w.heap.size, 1, none⟩ = some (.slice q2 ps.length c2) := fun n => (LD.out n).2.2.2.2.2.2.2.2.2.2.2.1.2.1
  have fD12 : ∀ n : Wd D, n.w.cell? ⟨w.heap.size, 2, none⟩ = some (.slice q3 rs.length c3) := fun n => (LD.out n).2.2.2.2.2.2.2.2.2.2.2.2.1.2.1
  clear S0 hC0
  have D1 := cin HD fun W => Calls.be (C1 W)
  have D2 := cin HD fun W => Calls.be (C2 W)
  have D3 := cin HD fun W => Calls.be (C3 W)
  have D4 := cin HD fun W => Calls.be (C4 W)
  have D5 := cin HD fun W => Calls.be (C5 W)
  clear C1 C2 C3 C4 C5
  cases x0
  · skip
    refine wp_region_in D (HD.out _ _ (Wd.h _) (below_dr _)) (by kernel_rfl) (by kernel_rfl) ?_
    repeat (go_big_quiet_step (first | with_reducible exact (D1 _).out))
    refine wpQuiet_nil ?_
    intro wx hwx
    obtain ⟨n, rfl⟩ : ∃ n : Wd D, wx = n.w := ⟨⟨wx, hwx⟩, rfl⟩
    clear hwx
    go_wp2_with fail
    go_ret
    exact ⟨rfl, BD.out _⟩
  cases x1
  · skip
    refine wp_region_in D (HD.out _ _ (Wd.h _) (below_dr _)) (by kernel_rfl) (by kernel_rfl) ?_
    repeat (go_big_quiet_step (first | with_reducible exact (D1 _).out | with_reducible exact (D2 _).out))
    refine wpQuiet_nil ?_
    intro wx hwx
    obtain ⟨n, rfl⟩ : ∃ n : Wd D, wx = n.w := ⟨⟨wx, hwx⟩, rfl⟩
    clear hwx
    go_wp2_with fail
    go_ret
    exact ⟨rfl, BD.out _⟩
  cases x2
  · skip
    refine wp_region_in D (HD.out _ _ (Wd.h _) (below_dr _)) (by kernel_rfl) (by kernel_rfl) ?_
    repeat (go_big_quiet_step (first | with_reducible exact (D1 _).out | with_reducible exact (D2 _).out | with_reducible exact (D3 _).out))
    refine wpQuiet_nil ?_
    intro wx hwx
    obtain ⟨n, rfl⟩ : ∃ n : Wd D, wx = n.w := ⟨⟨wx, hwx⟩, rfl⟩
    clear hwx
    go_wp2_with fail
    go_ret
    exact ⟨rfl, BD.out _⟩
  cases x3
  · skip
    refine wp_region_in D (HD.out _ _ (Wd.h _) (below_dr _)) (by kernel_rfl) (by kernel_rfl) ?_
    repeat (go_big_quiet_step (first | with_reducible exact (D1 _).out | with_reducible exact (D2 _).out | with_reducible exact (D3 _).out | with_reducible exact (D4 _).out))
    refine wpQuiet_nil ?_
    intro wx hwx
    obtain ⟨n, rfl⟩ : ∃ n : Wd D, wx = n.w := ⟨⟨wx, hwx⟩, rfl⟩
    clear hwx
    go_wp2_with fail
    go_ret
    exact ⟨rfl, BD.out _⟩
  · skip
    refine wp_region_in D (HD.out _ _ (Wd.h _) (below_dr _)) (by kernel_rfl) (by kernel_rfl) ?_
    repeat (go_big_quiet_step (first | with_reducible exact (D1 _).out | with_reducible exact (D2 _).out | with_reducible exact (D3 _).out | with_reducible exact (D4 _).out | with_reducible exact (D5 _).out))
    refine wpQuiet_nil ?_
    intro wx hwx
    obtain ⟨n, rfl⟩ : ∃ n : Wd D, wx = n.w := ⟨⟨wx, hwx⟩, rfl⟩
    clear hwx
    go_wp2_with fail
    go_ret
    exact ⟨rfl, BD.out _⟩
theorem mxs_ge : ∀ (l : List Int) (a : Int), a ≤ mxs a l
  | [], a => Int.le_refl a
  | x :: l, a => by
    have h : mxs a (x :: l) = mxs (max a x) l := rfl
    rw [h]
    exact Int.le_trans (Int.le_max_left a x) (mxs_ge l _)
theorem mns_le : ∀ (l : List Int) (a : Int), mns a l ≤ a
  | [], a => Int.le_refl a
  | x :: l, a => by
    have h : mns a (x :: l) = mns (min a x) l := rfl
    rw [h]
    exact Int.le_trans (mns_le l _) (Int.min_le_left a x)
theorem lg_bd {x : WA} {ch y : Int} (h : agE x ch y = 0) : (9000 ≤ lgLo x ch y ∧ lgLo x ch y ≤ 12000) ∧ (9000 ≤ lgHi x ch y ∧ lgHi x ch y ≤ 12000) := by
  obtain ⟨h1, h2, h3⟩ := spO_ok (agE_zero h).1
  obtain ⟨-, hw, ht⟩ := okS_iff.1 h1
  rw [lgLo, lgHi, if_pos h, if_pos h, lowS, highS]
  generalize spO x (chOr x.cs ch) y = s at *
  refine ⟨⟨mxs_ge _ _, ?_⟩, ?_, mns_le _ _⟩
  · rcases mxs_at (s.ths.map fun t => lowT s.wear t y) 9000 with e | e
    · rw [e]; decide
    · obtain ⟨t, hm, e2⟩ := List.mem_map.1 e
      rw [← e2]
      obtain ⟨k1, k2, k3, k4⟩ := okTh_iff.1 (ht t hm)
      have := mul_bd hw (v := max 0 (t.year - y)) (by omega)
      show t.lo - s.wear * max 0 (t.year - y) ≤ 12000
      omega
  · rcases mns_at (s.ths.map fun t => highT s.wear t y) 12000 with e | e
    · rw [e]; decide
    · obtain ⟨t, hm, e2⟩ := List.mem_map.1 e
      rw [← e2]
      obtain ⟨k1, k2, k3, k4⟩ := okTh_iff.1 (ht t hm)
      have := mul_bd hw (v := max 0 (y - t.year)) (by omega)
      show 9000 ≤ t.hi + s.wear * max 0 (y - t.year)
      omega
theorem ds_lo {m3 m4 m5 a : Int} (h3 : 0 ≤ m3 ∧ m3 ≤ 100000) (h4 : 0 ≤ m4 ∧ m4 ≤ 99) (h5 : 0 ≤ m5 ∧ m5 ≤ 100000) (ha : 9000 ≤ a ∧ a ≤ 12000) :
    wrap64 ((wrap64 (max 0 (100 * m3 + m4 - m5) * a)).tdiv 10000) = max 0 (100 * m3 + m4 - m5) * a / 10000 := by
  have hm : 0 ≤ max 0 (100 * m3 + m4 - m5) * a ∧ max 0 (100 * m3 + m4 - m5) * a ≤ 10000099 * 12000 :=
    ⟨Int.mul_nonneg (by omega) (by omega), Int.mul_le_mul (by omega) (by omega) (by omega) (by decide)⟩
  rw [w64 (n := max 0 (100 * m3 + m4 - m5) * a) (by omega), Int.tdiv_eq_ediv_of_nonneg hm.1, w64 (by omega)]
theorem ds_hi {m3 m4 m5 b : Int} (h3 : 0 ≤ m3 ∧ m3 ≤ 100000) (h4 : 0 ≤ m4 ∧ m4 ≤ 99) (h5 : 0 ≤ m5 ∧ m5 ≤ 100000) (hb : 9000 ≤ b ∧ b ≤ 12000) :
    wrap64 ((wrap64 (wrap64 (wrap64 ((100 * m3 + m4 + m5) * b) + 10000) - 1)).tdiv 10000) = ((100 * m3 + m4 + m5) * b + 9999) / 10000 := by
  have hm : 0 ≤ (100 * m3 + m4 + m5) * b ∧ (100 * m3 + m4 + m5) * b ≤ 10100099 * 12000 :=
    ⟨Int.mul_nonneg (by omega) (by omega), Int.mul_le_mul (by omega) (by omega) (by omega) (by decide)⟩
  rw [w64 (n := (100 * m3 + m4 + m5) * b) (by omega), w64 (n := (100 * m3 + m4 + m5) * b + 10000) (by omega), w64 (n := (100 * m3 + m4 + m5) * b + 10000 - 1) (by omega), Int.tdiv_eq_ediv_of_nonneg (by omega), w64 (by omega)]
  congr 1; omega
/-- The error of Distance. -/
def dsE (x : WA) (m : Ms) : Int := if chk x ≠ 0 then chk x else if okMs x.cs m = false then 1 else agE x m.ch m.year
def lkN (m : Ms) : Int := 100 * m.chains + m.links
def dsLo (x : WA) (m : Ms) : Int := if dsE x m = 0 then max 0 (lkN m - m.slack) * lgLo x m.ch m.year / 10000 else 0
def dsHi (x : WA) (m : Ms) : Int := if dsE x m = 0 then ((lkN m + m.slack) * lgHi x m.ch m.year + 9999) / 10000 else 0
set_option maxRecDepth 100000 in
set_option maxHeartbeats 6400000 in
theorem Distance_any (x : WA) (m : Ms) (w : World) (h : x.At w) :
    Calls Tryz.prog 49 #[x.v, m.v] w fun e w' => e = .returned (.tuple #[spv (dsLo x m) (dsHi x m), .int .i64 (dsE x m)]) ∧ Below w.heap.size w w' := by
  have K1 := fun W (hb : Below w.heap.size w W) => Check_any x W (h.keep hb)
  have K2 := fun W (hb : Below w.heap.size w W) => validMeasure_any x m W (h.keep hb)
  have K3 := fun W (hb : Below w.heap.size w W) => Long_any x m.ch m.year W (h.keep hb)
  obtain ⟨A, hA⟩ : ∃ A, dsLo x m = A := ⟨_, rfl⟩
  obtain ⟨B1, hB1⟩ : ∃ B, dsHi x m = B := ⟨_, rfl⟩
  obtain ⟨E, hE⟩ : ∃ E, dsE x m = E := ⟨_, rfl⟩
  rw [hA, hB1, hE]
  have HM : Hid (okMs x.cs m = true → (0 ≤ m.chains ∧ m.chains ≤ 100000) ∧ (0 ≤ m.links ∧ m.links ≤ 99) ∧ 0 ≤ m.slack ∧ m.slack ≤ 100000) := fun e => by
    unfold okMs at e
    simp only [Bool.and_eq_true, inB_iff] at e
    exact ⟨e.2.2.1, e.2.2.2.1, e.2.2.2.2⟩
  have HLG : Hid (agE x m.ch m.year = 0 → (9000 ≤ lgLo x m.ch m.year ∧ lgLo x m.ch m.year ≤ 12000) ∧ (9000 ≤ lgHi x m.ch m.year ∧ lgHi x m.ch m.year ≤ 12000)) := lg_bd
  unfold dsLo at hA
  unfold dsHi at hB1
  unfold dsE at hE
  obtain ⟨k, hk⟩ : ∃ k, chk x = k := ⟨_, rfl⟩
  obtain ⟨z, hz⟩ : ∃ z, okMs x.cs m = z := ⟨_, rfl⟩
  obtain ⟨g, hg⟩ : ∃ g, agE x m.ch m.year = g := ⟨_, rfl⟩
  obtain ⟨a, ha⟩ : ∃ a, lgLo x m.ch m.year = a := ⟨_, rfl⟩
  obtain ⟨b, hb⟩ : ∃ b, lgHi x m.ch m.year = b := ⟨_, rfl⟩
  rw [ha, hg] at HLG
  rw [hb] at HLG
  rw [show dsE x m = E from hE, ha] at hA
  rw [show dsE x m = E from hE, hb] at hB1
  rw [hk, hz, hg] at hE
  rw [hz] at HM
  simp only [hk] at K1
  simp only [hz] at K2
  simp only [ha, hb, hg] at K3
  have HE := Lib.hid hE
  have HA := Lib.hid hA
  have HB1 := Lib.hid hB1
  clear h hk hz hg ha hb hE hA hB1
  obtain ⟨cs, ps, rs, q1, q2, q3, c1, c2, c3⟩ := x
  obtain ⟨m1, m2, m3, m4, m5⟩ := m
  simp only [WA.v, Ms.v, lkN] at *
  go_enter Tryz.func49, Tryz.ntmps49
  go_wp2_with fail
  obtain ⟨W0, hW0⟩ : ∃ W0, (((w).alloc (.cells #[.slice q1 cs.length c1, .slice q2 ps.length c2, .slice q3 rs.length c3] 26)).alloc (.cells #[.int .i64 (m1), .int .i64 (m2), .int .i64 (m3), .int .i64 (m4), .int .i64 (m5)] 73)).alloc (.cells #[.int .i64 0, .int .i64 0] 30) = W0 := ⟨_, rfl⟩
  have S0 : St w W0 [(w.heap.size + 1 + 1, 0, .int .i64 0), (w.heap.size + 1 + 1, 1, .int .i64 0), (w.heap.size + 1, 0, .int .i64 (m1)), (w.heap.size + 1, 1, .int .i64 (m2)), (w.heap.size + 1, 2, .int .i64 (m3)), (w.heap.size + 1, 3, .int .i64 (m4)), (w.heap.size + 1, 4, .int .i64 (m5)), (w.heap.size, 0, .slice q1 cs.length c1), (w.heap.size, 1, .slice q2 ps.length c2), (w.heap.size, 2, .slice q3 rs.length c3)] := by rw [← hW0]; exact ((((St.nil w)).box #[.slice q1 cs.length c1, .slice q2 ps.length c2, .slice q3 rs.length c3] 26 (w.heap.size) (by simp)).box #[.int .i64 (m1), .int .i64 (m2), .int .i64 (m3), .int .i64 (m4), .int .i64 (m5)] 73 (w.heap.size + 1) (by simp)).box #[.int .i64 0, .int .i64 0] 30 (w.heap.size + 1 + 1) (by simp)
  rw [hW0]
  clear hW0
  obtain ⟨C, hC0, HC, LC, BC, hne⟩ := cls S0
  haveI := hne
  obtain ⟨c0, rfl⟩ : ∃ n : Wd C, W0 = n.w := ⟨⟨_, hC0⟩, rfl⟩
  have fC0 : ∀ n : Wd C, n.w.cell? ⟨w.heap.size + 1 + 1, 0, none⟩ = some (.int .i64 0) := fun n => (LC.out n).1.2.1
  have zC0 : ∀ n : Wd C, n.w.frozen? ⟨w.heap.size + 1 + 1, 0, none⟩ = false := fun n => (LC.out n).1.2.2
  have fC1 : ∀ n : Wd C, n.w.cell? ⟨w.heap.size + 1 + 1, 1, none⟩ = some (.int .i64 0) := fun n => (LC.out n).2.1.2.1
  have zC1 : ∀ n : Wd C, n.w.frozen? ⟨w.heap.size + 1 + 1, 1, none⟩ = false := fun n => (LC.out n).2.1.2.2
  have fC2 : ∀ n : Wd C, n.w.cell? ⟨w.heap.size + 1, 0, none⟩ = some (.int .i64 (m1)) := fun n => (LC.out n).2.2.1.2.1
  have fC3 : ∀ n : Wd C, n.w.cell? ⟨w.heap.size + 1, 1, none⟩ = some (.int .i64 (m2)) := fun n => (LC.out n).2.2.2.1.2.1
  have fC4 : ∀ n : Wd C, n.w.cell? ⟨w.heap.size + 1, 2, none⟩ = some (.int .i64 (m3)) := fun n => (LC.out n).2.2.2.2.1.2.1
  have fC5 : ∀ n : Wd C, n.w.cell? ⟨w.heap.size + 1, 3, none⟩ = some (.int .i64 (m4)) := fun n => (LC.out n).2.2.2.2.2.1.2.1
  have fC6 : ∀ n : Wd C, n.w.cell? ⟨w.heap.size + 1, 4, none⟩ = some (.int .i64 (m5)) := fun n => (LC.out n).2.2.2.2.2.2.1.2.1
  have fC7 : ∀ n : Wd C, n.w.cell? ⟨w.heap.size, 0, none⟩ = some (.slice q1 cs.length c1) := fun n => (LC.out n).2.2.2.2.2.2.2.1.2.1
  have fC8 : ∀ n : Wd C, n.w.cell? ⟨w.heap.size, 1, none⟩ = some (.slice q2 ps.length c2) := fun n => (LC.out n).2.2.2.2.2.2.2.2.1.2.1
  have fC9 : ∀ n : Wd C, n.w.cell? ⟨w.heap.size, 2, none⟩ = some (.slice q3 rs.length c3) := fun n => (LC.out n).2.2.2.2.2.2.2.2.2.1.2.1
  clear S0 hC0
  have D1 := cinL HC BC K1
  have D2 := cinL HC BC K2
  have D3 := cinL HC BC K3
  clear K1 K2 K3
  by_cases hk0 : k = 0
  · subst hk0
    rw [if_neg (by simp)] at HE
    cases z
    · rw [if_pos rfl] at HE
      obtain rfl : 1 = E := HE.out
      rw [if_neg (by decide)] at HA HB1
      obtain rfl : 0 = A := HA.out
      obtain rfl : 0 = B1 := HB1.out
      go_wp2_with (first | first | (go_at_call 23; with_reducible refine (D1 _).out.mono ?_; rintro e w' ⟨rfl, n, rfl⟩) | (go_at_call 126; with_reducible refine (D2 _).out.mono ?_; rintro e w' ⟨rfl, n, rfl⟩))
      refine bodyPost_ret (v := .tuple #[spv 0 0, .int .i64 1]) (by simp [results, Tryz.results49, go_sem, fC0, fC1]) rfl ⟨rfl, ?_⟩
      exact set2 (BC.out _) (by omega) _ _
    · rw [if_neg (by simp)] at HE
      obtain rfl : g = E := HE.out
      go_wp2_with (first | first | (go_at_call 23; with_reducible refine (D1 _).out.mono ?_; rintro e w' ⟨rfl, n, rfl⟩) | (go_at_call 126; with_reducible refine (D2 _).out.mono ?_; rintro e w' ⟨rfl, n, rfl⟩))
      refine (D3 _).out.mono ?_
      rintro e w' ⟨rfl, n, rfl⟩
      go_upto_region 7 with fail
      obtain ⟨W0, hW0⟩ : ∃ W0, (n.w).alloc (.cells #[.int .i64 a, .int .i64 b] 30) = W0 := ⟨_, rfl⟩
      have S0 : St w W0 [(n.w.heap.size, 0, .int .i64 a), (n.w.heap.size, 1, .int .i64 b), (w.heap.size + 1 + 1, 0, .int .i64 0), (w.heap.size + 1 + 1, 1, .int .i64 0), (w.heap.size + 1, 0, .int .i64 (m1)), (w.heap.size + 1, 1, .int .i64 (m2)), (w.heap.size + 1, 2, .int .i64 (m3)), (w.heap.size + 1, 3, .int .i64 (m4)), (w.heap.size + 1, 4, .int .i64 (m5)), (w.heap.size, 0, .slice q1 cs.length c1), (w.heap.size, 1, .slice q2 ps.length c2), (w.heap.size, 2, .slice q3 rs.length c3)] := by rw [← hW0]; exact ((⟨BC.out n, LC.out n⟩ : St w n.w _)).box #[.int .i64 a, .int .i64 b] 30 (n.w.heap.size) (by simp)
      rw [hW0]
      clear hW0
      obtain ⟨kD, hkk⟩ : ∃ k, n.w.heap.size = k := ⟨_, rfl⟩
      have gkD : w.heap.size ≤ kD := by rw [← hkk]; exact (BC.out n).size
      rw [hkk] at S0 ⊢
      have eD1 : kD ≠ w.heap.size + 1 + 1 := by have h := (LC.out n).1.1; omega
      have dD1 : w.heap.size + 1 + 1 ≠ kD := Ne.symm eD1
      clear hkk
      obtain ⟨D, hC0, HD, LD, BD, hne⟩ := cls S0
      haveI := hne
      obtain ⟨d0, rfl⟩ : ∃ n : Wd D, W0 = n.w := ⟨⟨_, hC0⟩, rfl⟩
      have fD0 : ∀ n : Wd D, n.w.cell? ⟨kD, 0, none⟩ = some (.int .i64 a) := fun n => (LD.out n).1.2.1
      have fD1 : ∀ n : Wd D, n.w.cell? ⟨kD, 1, none⟩ = some (.int .i64 b) := fun n => (LD.out n).2.1.2.1
      have fD2 : ∀ n : Wd D, n.w.cell? ⟨w.heap.size + 1 + 1, 0, none⟩ = some (.int .i64 0) := fun n => (LD.out n).2.2.1.2.1
      have zD2 : ∀ n : Wd D, n.w.frozen? ⟨w.heap.size + 1 + 1, 0, none⟩ = false := fun n => (LD.out n).2.2.1.2.2
      have fD3 : ∀ n : Wd D, n.w.cell? ⟨w.heap.size + 1 + 1, 1, none⟩ = some (.int .i64 0) := fun n => (LD.out n).2.2.2.1.2.1
      have zD3 : ∀ n : Wd D, n.w.frozen? ⟨w.heap.size + 1 + 1, 1, none⟩ = false := fun n => (LD.out n).2.2.2.1.2.2
      have fD4 : ∀ n : Wd D, n.w.cell? ⟨w.heap.size + 1, 0, none⟩ = some (.int .i64 (m1)) := fun n => (LD.out n).2.2.2.2.1.2.1
      have fD5 : ∀ n : Wd D, n.w.cell? ⟨w.heap.size + 1, 1, none⟩ = some (.int .i64 (m2)) := fun n => (LD.out n).2.2.2.2.2.1.2.1
      have fD6 : ∀ n : Wd D, n.w.cell? ⟨w.heap.size + 1, 2, none⟩ = some (.int .i64 (m3)) := fun n => (LD.out n).2.2.2.2.2.2.1.2.1
      have fD7 : ∀ n : Wd D, n.w.cell? ⟨w.heap.size + 1, 3, none⟩ = some (.int .i64 (m4)) := fun n => (LD.out n).2.2.2.2.2.2.2.1.2.1
      have fD8 : ∀ n : Wd D, n.w.cell? ⟨w.heap.size + 1, 4, none⟩ = some (.int .i64 (m5)) := fun n => (LD.out n).2.2.2.2.2.2.2.2.1.2.1
      have fD9 : ∀ n : Wd D, n.w.cell? ⟨w.heap.size, 0, none⟩ = some (.slice q1 cs.length c1) := fun n => (LD.out n).2.2.2.2.2.2.2.2.2.1.2.1
      have fD10 : ∀ n : Wd D, n.w.cell? ⟨w.heap.size, 1, none⟩ = some (.slice q2 ps.length c2) := fun n => (LD.out n).2.2.2.2.2.2.2.2.2.2.1.2.1
      have fD11 : ∀ n : Wd D, n.w.cell? ⟨w.heap.size, 2, none⟩ = some (.slice q3 rs.length c3) := fun n => (LD.out n).2.2.2.2.2.2.2.2.2.2.2.1.2.1
      clear S0 hC0
      have hRD : w.heap.size + 1 + 1 < d0.w.heap.size := (LD.out d0).2.2.1.1
      clear D1 D2 D3
      by_cases hg0 : g = 0
      · subst hg0
        rw [if_pos rfl] at HA HB1
        obtain ⟨p1, p2, p3⟩ := HM.out (by first | rfl | trivial)
        obtain ⟨p4, p5⟩ := HLG.out (by first | rfl | trivial)
        have EL := Lib.hid (ds_lo p1 p2 p3 p4)
        have EH := Lib.hid (ds_hi p1 p2 p3 p5)
        obtain ⟨p1, p6⟩ := p1
        obtain ⟨p2, p7⟩ := p2
        obtain ⟨p3, p8⟩ := p3
        obtain ⟨p4, p9⟩ := p4
        obtain ⟨p5, p10⟩ := p5
        go_wp2_with fail
        refine bodyPost_ret (v := .tuple #[spv A B1, .int .i64 0]) (by simp [results, Tryz.results49, go_sem, fD2, fD3, EL.out, EH.out, HA.out, HB1.out]) rfl ⟨rfl, ?_⟩
        exact set2 (BD.out _) (by omega) _ _
      · have hb : (g != 0) = true := by simpa using hg0
        rw [if_neg hg0] at HA HB1
        obtain rfl : 0 = A := HA.out
        obtain rfl : 0 = B1 := HB1.out
        go_wp2_with fail
        refine bodyPost_ret (v := .tuple #[spv 0 0, .int .i64 g]) (by simp [results, Tryz.results49, go_sem, fD2, fD3]) rfl ⟨rfl, ?_⟩
        exact set2 (BD.out _) (by omega) _ _
  · have hb : (k != 0) = true := by simpa using hk0
    rw [if_pos hk0] at HE
    obtain rfl : k = E := HE.out
    rw [if_neg hk0] at HA HB1
    obtain rfl : 0 = A := HA.out
    obtain rfl : 0 = B1 := HB1.out
    go_wp2_with (first | first | (go_at_call 23; with_reducible refine (D1 _).out.mono ?_; rintro e w' ⟨rfl, n, rfl⟩))
    refine bodyPost_ret (v := .tuple #[spv 0 0, .int .i64 k]) (by simp [results, Tryz.results49, go_sem, fC0, fC1]) rfl ⟨rfl, ?_⟩
    exact set2 (BC.out _) (by omega) _ _
end Go.Proofs.YtcejmfgbfdhflaaGreat
namespace Go.Proofs.YtcejmfgbfdhflaaGreat
open Go.RowKit Go.Shelf Go.BigFrame Go.Sort
attribute [local go_sem] World.cell?_alloc_some
/-- How two pairs compare. -/
def cmP (p q : Int × Int) : Int := if cm p.1 q.1 = 0 then cm p.2 q.2 else cm p.1 q.1
set_option maxRecDepth 100000 in
set_option maxHeartbeats 1600000 in
theorem cmpP_any (p q : Int × Int) (B1 B2 : Nat) (w : World) (h1 : w.cell? ⟨B1, 0, none⟩ = some (.int .i64 p.1)) (h2 : w.cell? ⟨B1, 1, none⟩ = some (.int .i64 p.2)) (h3 : w.cell? ⟨B2, 0, none⟩ = some (.int .i64 q.1)) (h4 : w.cell? ⟨B2, 1, none⟩ = some (.int .i64 q.2)) :
    Calls Tryz.prog 168 #[.slice (some ⟨B1, 0, none⟩) 2 2, .slice (some ⟨B2, 0, none⟩) 2 2] w fun e w' => e = .returned (.int .i64 (cmP p q)) ∧ w = w' := by
  have C1 := compare_any p.1 q.1
  have C2 := compare_any p.2 q.2
  obtain ⟨x, hx⟩ : ∃ x, cm p.1 q.1 = x := ⟨_, rfl⟩
  obtain ⟨y, hy⟩ : ∃ y, cm p.2 q.2 = y := ⟨_, rfl⟩
  rw [hx] at C1
  rw [hy] at C2
  rw [show cmP p q = if x = 0 then y else x from by rw [cmP, hx, hy]]
  clear hx hy
  obtain ⟨p1, p2⟩ := p
  obtain ⟨q1, q2⟩ := q
  simp only at *
  have HC1 := Lib.hid C1
  have HC2 := Lib.hid C2
  clear C1 C2
  go_enter Tryz.func168, Tryz.ntmps168
  go_wp2_with fail
  go_loopw [11] (fun i wr => w = wr ∧ (i = .int .i64 0 ∨ i = .int .i64 1 ∧ x = 0 ∨ i = .int .i64 2 ∧ x = 0 ∧ y = 0)) (fun i _ => 2 - (intOf i).toNat)
  case atStart => exact ⟨rfl, .inl rfl⟩
  case round =>
    obtain ⟨rfl, rfl | ⟨rfl, rfl⟩ | ⟨rfl, rfl, rfl⟩⟩ := hrel
    · by_cases h0 : x = 0
      · subst h0
        go_wp2_with (go_at_call 152; refine (HC1.out _).mono ?_; rintro e w' ⟨rfl, rfl⟩)
        go_roundw
        case rel => exact ⟨by first | rfl | trivial, .inr (.inl ⟨by simp, by first | rfl | trivial⟩)⟩
        case measure => simp [intOf]
      · have hb : (x != 0) = true := by simpa using h0
        have HH := Lib.hid h0
        clear h0
        go_wp2_with (go_at_call 152; refine (HC1.out _).mono ?_; rintro e w' ⟨rfl, rfl⟩)
        go_ret
        exact ⟨ret_int (by first | rfl | rw [if_neg HH.out]), rfl⟩
    · by_cases h0 : y = 0
      · subst h0
        go_wp2_with (go_at_call 152; refine (HC2.out _).mono ?_; rintro e w' ⟨rfl, rfl⟩)
        go_roundw
        case rel => exact ⟨by first | rfl | trivial, .inr (.inr ⟨by simp, by first | rfl | trivial, by first | rfl | trivial⟩)⟩
        case measure => simp [intOf]
      · have hb : (y != 0) = true := by simpa using h0
        have HH := Lib.hid h0
        clear h0
        go_wp2_with (go_at_call 152; refine (HC2.out _).mono ?_; rintro e w' ⟨rfl, rfl⟩)
        go_ret
        exact ⟨ret_int (by first | rfl | simp), rfl⟩
    · go_wp2_with fail
      go_ret
      exact ⟨ret_int (by first | rfl | simp), rfl⟩
theorem grow_ex2 (w : World) (a b : Obj) : ∃ k os, ((w.alloc a).alloc b).drew = grow (w.drewN k) os := by
  refine ⟨1, #[a, b], ?_⟩
  rw [alloc_eq_grow, alloc_eq_grow, grow_grow]; rfl
set_option maxRecDepth 100000 in
set_option maxHeartbeats 2000000 in
theorem pair_any (p q : Int × Int) (w : World) :
    Calls Tryz.prog 167 #[.agg #[.int .i64 p.1, .int .i64 p.2], .agg #[.int .i64 q.1, .int .i64 q.2]] w fun e w' => e = .returned (.int .i64 (cmP p q)) ∧ Gr w w' := by
  have CO := fun W h1 h2 h3 h4 => Lib.hid (cmpP_any p q w.heap.size (w.heap.size + 1) W h1 h2 h3 h4)
  obtain ⟨x, hx⟩ : ∃ x, cmP p q = x := ⟨_, rfl⟩
  simp only [hx] at CO
  rw [hx]
  clear hx
  obtain ⟨p1, p2⟩ := p
  obtain ⟨q1, q2⟩ := q
  simp only at *
  go_enter Tryz.func167, Tryz.ntmps167
  go_wp2_with fail
  have g1 := new_at (w.alloc (.cells #[.int .i64 p1, .int .i64 p2] 56)) #[.int .i64 q1, .int .i64 q2] 56 0 _ rfl
  have g2 := new_at (w.alloc (.cells #[.int .i64 p1, .int .i64 p2] 56)) #[.int .i64 q1, .int .i64 q2] 56 1 _ rfl
  have e1 : (w.alloc (.cells #[.int .i64 p1, .int .i64 p2] 56)).heap.size = w.heap.size + 1 := by simp
  have BA := below_al (w.alloc (.cells #[.int .i64 p1, .int .i64 p2] 56)) (.cells #[.int .i64 q1, .int .i64 q2] 56)
  have g3 := (BA.cell (p := ⟨w.heap.size, 0, none⟩) (by rw [e1]; exact Nat.lt_succ_self _)).trans (new_at w #[.int .i64 p1, .int .i64 p2] 56 0 _ rfl)
  have g4 := (BA.cell (p := ⟨w.heap.size, 1, none⟩) (by rw [e1]; exact Nat.lt_succ_self _)).trans (new_at w #[.int .i64 p1, .int .i64 p2] 56 1 _ rfl)
  rw [e1] at g1 g2
  have CC := CO ((w.alloc (.cells #[.int .i64 p1, .int .i64 p2] 56)).alloc (.cells #[.int .i64 q1, .int .i64 q2] 56)).drew g3 g4 g1 g2
  clear CO BA g1 g2 g3 g4 e1
  refine wp_region_still_tail 3 (by kernel_rfl) (by kernel_rfl) ?_
  simp only [List.take_succ_cons, List.take_zero, List.drop_succ_cons, List.drop_zero]
  change wpStill _ _ ((w.alloc (.cells #[.int .i64 p1, .int .i64 p2] 56)).alloc (.cells #[.int .i64 q1, .int .i64 q2] 56)).drew (fun a' => wpList _ _ _ _ a' ((w.alloc (.cells #[.int .i64 p1, .int .i64 p2] 56)).alloc (.cells #[.int .i64 q1, .int .i64 q2] 56)).drew) _ _
  repeat still_step
  still_call (CC.out.mono fun _ _ h => ⟨h.1, h.2.symm⟩)
  refine wpStill_nil ?_
  go_wp2_with fail
  go_ret
  exact ⟨rfl, grow_ex2 _ _ _⟩
/-- A pair's cells. -/
def encQ (p : Int × Int) : List Value := [.int .i64 p.1, .int .i64 p.2]
theorem flat2_len : ∀ l : List (Int × Int), (flat2 l).length = l.length * 2
  | [] => rfl
  | p :: l => by simp only [flat2, List.length_cons, flat2_len l]; omega
theorem flatK_flat2 (l : List (Int × Int)) : (flatK encQ 2 l.toArray).toList = flat2 l := by
  apply List.ext_getElem?
  intro t
  have hsz : (flatK encQ 2 l.toArray).size = l.length * 2 := by rw [size_flatK]; simp
  by_cases ht : t < l.length * 2
  · have hq : t / 2 < l.length := by omega
    obtain ⟨g1, g2⟩ := flat2_get (List.getElem?_eq_getElem hq)
    have e1 : (flatK encQ 2 l.toArray)[t]! = (encQ (l.toArray)[t / 2]!)[t % 2]! := get_flatK _ _ _ _ (by simpa using ht)
    have e2 : (l.toArray)[t / 2]! = l[t / 2] := by rw [getElem!_pos _ _ (by simpa using hq)]; simp
    have e3 : (flatK encQ 2 l.toArray).toList[t]? = some ((flatK encQ 2 l.toArray)[t]!) := by rw [getElem!_pos _ _ (by omega)]; simp [hsz, ht]
    rw [e3, e1, e2]
    obtain ⟨q, hqq⟩ : ∃ q, l[t / 2] = q := ⟨_, rfl⟩
    rw [hqq] at g1 g2 ⊢
    rcases Nat.mod_two_eq_zero_or_one t with h | h
    · rw [show t / 2 * 2 = t from by omega] at g1
      rw [h, g1]; rfl
    · rw [show t / 2 * 2 + 1 = t from by omega] at g2
      rw [h, g2]; rfl
  · rw [List.getElem?_eq_none (by simp [hsz]; omega), List.getElem?_eq_none (by rw [flat2_len]; omega)]
/-- The world with a row of pairs laid anew. -/
theorem heap_put (W : World) (g : Nat) (cur : Array Value) (e : TypeId) (fr : Nat × Nat) (hg : W.heap[g]? = some (.cells cur e fr)) (F : Array Value) (n : Nat) (os : Array Obj) :
    W.grownBy (grow (putRow id (Sort.ahead W n) g 0 F) os) (some g) ∧ (grow (putRow id (Sort.ahead W n) g 0 F) os).heap[g]? = some (.cells (putCells id 0 F cur) e fr) := by
  have hlt : g < W.heap.size := (Array.getElem?_eq_some_iff.1 hg).1
  refine ⟨⟨rfl, rfl, rfl, ?_, fun k hk hne => ?_⟩, ?_⟩
  · simp [grow, putRow, mapBlock, Sort.ahead]
  · have : g ≠ k := fun e => hne (by rw [e])
    simp [grow, putRow, mapBlock, Sort.ahead, Array.getElem?_append, hk, Array.getElem_modify, this]
  · have h2 := (Array.getElem?_eq_some_iff.1 hg).2
    simp [grow, putRow, mapBlock, Sort.ahead, Array.getElem?_append, hlt, Array.getElem_modify, onCells, h2]
theorem putCells_take (F cur : Array Value) (h : F.size ≤ cur.size) : (putCells id 0 F cur).toList.take F.size = F.toList := by
  apply List.ext_getElem?
  intro t
  by_cases ht : t < F.size
  · rw [List.getElem?_take_of_lt ht]
    have h1 : t < cur.size := by omega
    simp [putCells, ht, h1]
  · rw [List.getElem?_eq_none (by simp; omega), List.getElem?_eq_none (by simp; omega)]
theorem ownsRow_put {W : World} {B g cap : Nat} {l s : List (Int × Int)} (h : OP W B (.slice (some ⟨g, 0, none⟩) l.length cap) l) (hs : s.length = l.length) (n : Nat) (os : Array Obj) :
    W.grownBy (grow (putRow id (Sort.ahead W n) g 0 (flatK encQ 2 s.toArray)) os) (some g) ∧ OP (grow (putRow id (Sort.ahead W n) g 0 (flatK encQ 2 s.toArray)) os) B (.slice (some ⟨g, 0, none⟩) s.length cap) s := by
  obtain ⟨h1, ⟨e, _⟩ | ⟨g', cap', cur, e, hB, hc, h3, h4, h5, h6⟩⟩ := h
  · cases e
  · injection e with e1 e2 e3
    injection e1 with e1
    injection e1 with e1
    subst e1 e3
    obtain ⟨k1, k2⟩ := heap_put W g cur 56 (0, 0) hc (flatK encQ 2 s.toArray) n os
    have hsz : (flatK encQ 2 s.toArray).size = s.length * 2 := by rw [size_flatK]; simp
    refine ⟨k1, by rw [flat2_len], .inr ⟨g, cap, _, rfl, hB, k2, by omega, h4, by simp [putCells, h5], ?_⟩⟩
    rw [← hsz, putCells_take _ _ (by rw [hsz, h5, hs]; omega), flatK_flat2]
theorem holdsK_own {W : World} {B g cap : Nat} {l : List (Int × Int)} (h : OP W B (.slice (some ⟨g, 0, none⟩) l.length cap) l) : HoldsK encQ 2 W g 0 l.toArray ∧ g < W.heap.size := by
  obtain ⟨h1, ⟨e, _⟩ | ⟨g', cap', cur, e, hB, hc, h3, h4, h5, h6⟩⟩ := h
  · cases e
  · injection e with e1 e2 e3
    injection e1 with e1
    injection e1 with e1
    subst e1 e3
    refine ⟨fun j hj => ?_, (Array.getElem?_eq_some_iff.1 hc).1⟩
    have hsz : (flatK encQ 2 l.toArray).size = l.length * 2 := by rw [size_flatK]; simp
    have hj2 : j < (flatK encQ 2 l.toArray).toList.length := by simpa using hj
    have e1 : (flatK encQ 2 l.toArray).toList[j]? = some ((flatK encQ 2 l.toArray)[j]!) := by rw [getElem!_pos (flatK encQ 2 l.toArray) j hj]; simp
    rw [flatK_flat2, ← h6, List.getElem?_take_of_lt (by omega)] at e1
    rw [Nat.zero_add]
    have e2 : cur[j]? = some ((flatK encQ 2 l.toArray)[j]!) := by simpa using e1
    exact ⟨by simpa [World.cell?, hc] using e2, by simp [World.frozen?, hc]⟩
theorem cm_zero (a b : Int) : cm a b = 0 ↔ a = b := by unfold cm; split <;> (try split) <;> omega
theorem lt_cmP (p q : Int × Int) : ltOf cmP p q = true ↔ p.1 < q.1 ∨ p.1 = q.1 ∧ p.2 < q.2 := by
  unfold ltOf cmP
  rw [decide_eq_true_iff]
  have h1 := cm_lt p.1 q.1
  have h2 := cm_zero p.1 q.1
  have h3 := cm_lt p.2 q.2
  split
  · rename_i h; omega
  · omega
theorem swoQ : SWO (ltOf cmP) := by
  refine ⟨fun x => ?_, fun x y z h k => ?_, fun x y z h k => ?_⟩
  · rw [Bool.eq_false_iff, ne_eq, lt_cmP]; omega
  · rw [lt_cmP] at *; omega
  · rw [Bool.eq_false_iff, ne_eq, lt_cmP] at *; omega
theorem totQ (x y : Int × Int) (h : ltOf cmP x y = false) (k : ltOf cmP y x = false) : x = y := by
  rw [Bool.eq_false_iff, ne_eq, lt_cmP] at h k
  obtain ⟨a, b⟩ := x
  obtain ⟨c, d⟩ := y
  simp only at h k
  obtain rfl : a = c := by omega
  obtain rfl : b = d := by omega
  rfl
/-- Pairs in their order. -/
def srtQ (l : List (Int × Int)) : List (Int × Int) := l.mergeSort fun x y => !(ltOf cmP) y x
theorem srtQ_len (l : List (Int × Int)) : (srtQ l).length = l.length := List.length_mergeSort l
theorem sortQ_any {B g cap : Nat} {l : List (Int × Int)} {W : World} (h : OP W B (.slice (some ⟨g, 0, none⟩) l.length cap) l) (hl : l.length ≤ 1000000) :
    Calls Tryz.prog 166 #[.slice (some ⟨g, 0, none⟩) l.length cap, .func (.func 167) #[] #[]] W fun e w' => e = .returned (.tuple #[]) ∧ OP w' B (.slice (some ⟨g, 0, none⟩) l.length cap) (srtQ l) ∧ W.grownBy w' (some g) := by
  obtain ⟨hH, hlt⟩ := holdsK_own h
  have K := AnyQ.slices_SortFunc_total Tryz.sortP2 2 (fun w => by exact Tryz.isAgg56 w) (fun w => by exact Tryz.sizeOf56 w) encQ (fun _ => rfl) (fun x v hv => by simp [encQ] at hv; rcases hv with rfl | rfl <;> rfl) cmP swoQ 167 #[] g 0 cap l.toArray W
    (enters_of Tryz.func167 (by kernel_rfl) rfl) (fun m os dk _ x y => by exact pair_any x y _) hH hlt (by simp; omega) totQ
  simp only [List.size_toArray] at K
  refine K.mono ?_
  rintro e w' ⟨rfl, n, os, rfl⟩
  have e1 : (srtQ l).length = l.length := srtQ_len l
  obtain ⟨k1, k2⟩ := ownsRow_put (s := srtQ l) h e1 n os
  rw [e1] at k2
  exact ⟨rfl, k2, k1⟩
end Go.Proofs.YtcejmfgbfdhflaaGreat
namespace Go.Proofs.YtcejmfgbfdhflaaGreat
open Go.RowKit Go.Shelf Go.BigFrame Go.Sort
attribute [local go_sem] World.cell?_alloc_some
theorem chkCs_find : ∀ (l pre : List Ch), chkCs pre l = 0 → ∀ c ∈ l, chF (pre ++ l) c.id = some c
  | [], _, _, c, hc => by simp at hc
  | d :: l, pre, h, c, hc => by
    unfold chkCs at h
    by_cases h1 : okCh d = false
    · rw [if_pos h1] at h; cases h
    · rw [if_neg h1] at h
      by_cases h2 : (chF pre d.id).isSome = true
      · rw [if_pos h2] at h; cases h
      · rw [if_neg h2] at h
        rcases List.mem_cons.1 hc with rfl | hc
        · unfold chF at *
          have h3 : List.find? (fun x => x.id == c.id) pre = none := by simpa using h2
          rw [List.find?_append, h3]
          simp
        · have := chkCs_find l _ h c hc
          rwa [List.append_assoc] at this
theorem chk_find {x : WA} (h : chk x = 0) : ∀ c ∈ x.cs, chF x.cs c.id = some c := by
  unfold chk at h
  by_cases h1 : (decide (20 < x.cs.length) || decide (60 < x.ps.length + x.rs.length)) = true
  · rw [if_pos h1] at h; cases h
  · rw [if_neg h1] at h
    by_cases h2 : chkCs [] x.cs = 0
    · exact chkCs_find _ _ h2
    · rw [if_pos h2] at h; exact absurd h h2
/-- The pairs of a chain, before they are put in order. -/
def clU (x : WA) (c : Ch) (k : Nat) : List (Int × Int) := (List.range k).flatMap fun i => clS (spP c (tsO x c) x.ps i)
/-- The pairs of a chain. -/
def clC (x : WA) (c : Ch) : List (Int × Int) := srtQ (clU x c (tsO x c).length)
/-- The pairs of works. -/
def clA (x : WA) : List (Int × Int) := x.cs.flatMap (clC x)
theorem clU_succ (x : WA) (c : Ch) (k : Nat) : clU x c (k + 1) = clU x c k ++ clS (spP c (tsO x c) x.ps k) := by
  unfold clU; rw [List.range_succ, List.flatMap_append]; simp
theorem spP_len (c : Ch) (ts : List Th) (ps : List Pf) (i : Nat) : (spP c ts ps i).ths.length ≤ ps.length + 1 := by
  unfold spP
  have := List.length_filter_le (fun p : Pf => p.ch == c.id && decide (cntU (ts.map (·.year)) p.year = i + 1)) ps
  simp only [List.length_cons, List.length_map]
  omega
theorem clU_len {x : WA} (hw : OkW x) (c : Ch) (k : Nat) : (clU x c k).length ≤ k * 3721 := by
  induction k with
  | zero => simp [clU]
  | succ k ih =>
    rw [clU_succ, List.length_append]
    have h1 : (clS (spP c (tsO x c) x.ps k)).length ≤ 3721 := by
      unfold clS
      have h2 := clTo_len (spP c (tsO x c) x.ps k).wear (spP c (tsO x c) x.ps k).ths (spP c (tsO x c) x.ps k).ths.length
      have h3 := spP_len c (tsO x c) x.ps k
      have h4 := hw.n60
      have h5 : (spP c (tsO x c) x.ps k).ths.length ≤ 61 := by omega
      exact Nat.le_trans h2 (Nat.mul_le_mul h5 h5)
    omega
theorem ts_len {x : WA} (hw : OkW x) (c : Ch) : (tsO x c).length ≤ 61 := by
  unfold tsO
  rw [(srtB_perm _).length_eq]
  have := List.length_filter_le (fun r : Pf => r.ch == c.id) x.rs
  have := hw.n60
  unfold begs
  simp only [List.length_cons, List.length_map]
  omega
theorem clC_len {x : WA} (hw : OkW x) (c : Ch) : (clC x c).length ≤ 226981 := by
  unfold clC
  rw [srtQ_len]
  have h1 := clU_len hw c (tsO x c).length
  have h2 := ts_len hw c
  have : (tsO x c).length * 3721 ≤ 61 * 3721 := Nat.mul_le_mul_right _ h2
  omega
theorem flatMap_len {α β : Type} (f : α → List β) (m : Nat) : ∀ l : List α, (∀ a, (f a).length ≤ m) → (l.flatMap f).length ≤ l.length * m
  | [], _ => by simp
  | a :: l, h => by
    have ih := flatMap_len f m l h
    have := h a
    rw [List.flatMap_cons, List.length_append, List.length_cons, Nat.succ_mul]
    omega
theorem grown_refl (W : World) (r : Option Nat) : W.grownBy W r := ⟨rfl, rfl, rfl, Nat.le_refl _, fun _ _ _ => rfl⟩
/-- A row of pairs more. -/
theorem appO {B B2 : Nat} {v x : Value} {l m : List (Int × Int)} {W : World} (hP : OP W B v l) (hQ : OP W B2 x m) (hw : B ≤ W.heap.size) (hl : l.length + m.length ≤ 10000000) {ops : Array Oper} {rest : List Oper} {o : Oper} {a : Act} {Q : Exit → Act → World → Prop} (hgd : o.guard = none) (s z : Operand)
    (ho : o.op = .call { callee := .builtin .append, args := #[s, z], argTypes := #[44, 44] }) (hs : a.eval s = v) (hx : a.eval z = x)
    (h : ∀ v' w', OP w' B v' (l ++ m) → W.grownBy w' v.ownBlock → wpList Tryz.prog ops Q rest (a.put o.dst v') w') : wpList Tryz.prog ops Q (o :: rest) a W := by
  obtain ⟨i0, hi, hz0, hz1, hz2⟩ := info_parts inf56
  obtain ⟨h1, ⟨rfl, h2⟩ | ⟨g, cap, cur, rfl, hB, hc, h3, h4, h5, h6⟩⟩ := hQ
  · have hm : m = [] := List.length_eq_zero_iff.1 h2
    subst hm
    refine wpList_append_own_none hgd s z 44 ho B 56 i0 2 Tryz.underlying44 hi v l.length (flat2 l) hs hP hx ?_
    exact h v W (by rw [List.append_nil]; exact hP) (grown_refl _ _)
  · refine wpList_append_own _ hgd s z 44 ho B 56 i0 (.agg #[.int .i64 0, .int .i64 0]) 2 16 Tryz.underlying44 hi hz0 hz1 hz2 rfl (by decide) v l.length (flat2 l) hs hP ⟨g, 0, none⟩ m.length cap (flat2 m) hx (flat2_len m) ?_ flat2_one ?_ ?_ hw ?_
    · intro j u hu
      have hj : j < m.length * 2 := by rw [← flat2_len]; exact (List.getElem?_eq_some_iff.1 hu).1
      rw [← h6, List.getElem?_take_of_lt (by omega)] at hu
      rw [show (⟨g, 0, none⟩ : Addr).add j = ⟨g, 0 + j, none⟩ from by simp [Addr.add]; omega]
      simpa [World.cell?, hc] using hu
    · unfold maxLen; omega
    · omega
    · intro v' w' ho' hg _
      refine h v' w' ?_ hg
      show w'.ownsRow B 56 2 v' (l ++ m).length (flat2 (l ++ m))
      rw [List.length_append, flat2_app]; exact ho'
/-- The pairs' sort, of none too. -/
theorem sortA_any {B : Nat} {v : Value} {l : List (Int × Int)} {W : World} (h : OP W B v l) (hl : l.length ≤ 1000000) :
    Calls Tryz.prog 166 #[v, .func (.func 167) #[] #[]] W fun e w' => e = .returned (.tuple #[]) ∧ OP w' B v (srtQ l) ∧ W.grownBy w' v.ownBlock := by
  have h0 := h
  obtain ⟨h1, ⟨rfl, h2⟩ | ⟨g, cap, cur, rfl, hB, hc, h3, h4, h5, h6⟩⟩ := h
  · have hm : l = [] := List.length_eq_zero_iff.1 h2
    subst hm
    refine (AnyF.slices_SortFunc_none Tryz.sortP2 none 0 _ W).mono ?_
    rintro e w' ⟨rfl, rfl⟩
    exact ⟨rfl, by rw [show srtQ ([] : List (Int × Int)) = [] from by simp [srtQ]]; exact h0, grown_refl _ _⟩
  · refine (sortQ_any h0 hl).mono ?_
    rintro e w' ⟨rfl, k1, k2⟩
    exact ⟨rfl, by show w'.ownsRow B 56 2 _ (srtQ l).length _; exact k1, k2⟩
end Go.Proofs.YtcejmfgbfdhflaaGreat
namespace Go.Proofs.YtcejmfgbfdhflaaGreat
open Go.RowKit Go.Shelf Go.BigFrame Go.Sort
attribute [local go_sem] World.cell?_alloc_some
theorem below_grownO {W0 W W' : World} {B : Nat} {v : Value} {l : List (Int × Int)} (hb : Below W0.heap.size W0 W) (hO : OP W B v l) (hB : W0.heap.size ≤ B) (hg : W.grownBy W' v.ownBlock) : Below W0.heap.size W0 W' :=
  hb.trans ⟨hg.os, hg.tape, hg.output, hg.size, fun k hk => hg.block k (Nat.lt_of_lt_of_le hk hb.size) (fun e => by
    have := ownBlock_lo hO e.symm
    omega)⟩
set_option maxRecDepth 100000 in
set_option maxHeartbeats 6400000 in
theorem clashesW_any (x : WA) (w : World) (h : x.At w) (hk : chk x = 0) :
    Calls Tryz.prog 107 #[x.v] w fun e w' => (∃ v, e = .returned v ∧ OP w' (w.heap.size + 1) v (clA x)) ∧ Below w.heap.size w w' := by
  have hw := okW_of hk
  have KC : ∀ c ∈ x.cs, ∀ W, Below w.heap.size w W → Calls Tryz.prog 115 #[x.v, c.v] W fun e w' => (∃ (G n : Nat) (xs : List SV), e = .returned (.slice (some ⟨G, 0, none⟩) n n) ∧ n = (tsO x c).length ∧ n ≤ 61 ∧ xs.length = n ∧ G < w'.heap.size ∧
      Hid (∀ (i : Nat) (sv : SV), xs[i]? = some sv → sv.s = spP c (tsO x c) x.ps i ∧ okS sv.s = true ∧ SpC w' G (i * 4) sv ∧ ThsAt w' sv.q sv.s.ths ∧ sv.s.ths.length ≤ sv.cap ∧ sv.cap ≤ maxLen)) ∧ Below W.heap.size W w' := fun c hc W hb => by
    have hkc := okC_of hw (chk_find hk c hc)
    have hok := begs_ok hkc
    refine (spells_any x c W (h.keep hb) (fun p hp e => (hkc.py p hp e).1) (fun t ht => (okTh_iff.1 (hok t ht).1).1)).mono ?_
    rintro e w' ⟨⟨G, n, ts, xs, rfl, hp, hs, hl1, hl2, hG, hmap, hat⟩, hb2⟩
    have hts : ts = tsO x c := srtB_uniq (begs_ne hw hkc) hp hs
    subst hts
    refine ⟨⟨G, n, xs, rfl, hl1.symm, hl1 ▸ ts_len hw c, hl2, hG, fun i sv hi => ?_⟩, hb2⟩
    have hin : i < n := by rw [← hl2]; exact (List.getElem?_eq_some_iff.1 hi).1
    have hss : sv.s = spP c (tsO x c) x.ps i := by
      have h5 : (xs.map (·.s))[i]? = some sv.s := by rw [List.getElem?_map, hi]; rfl
      rw [hmap, List.getElem?_map, List.getElem?_range hin] at h5
      exact (Option.some.inj h5).symm
    obtain ⟨k1, k2, k3, k4⟩ := hat i sv hi
    exact ⟨hss, by rw [hss]; exact spP_ok hw hkc i (by omega), k1, k2.ths, k3, k4⟩
  obtain ⟨S, hS⟩ : ∃ S : Ch → Nat → Spl, (fun c j => spP c (tsO x c) x.ps j) = S := ⟨_, rfl⟩
  have hS' : ∀ c j, spP c (tsO x c) x.ps j = S c j := fun c j => by rw [← hS]
  obtain ⟨T, hT⟩ : ∃ T : Ch → Nat, (fun c => (tsO x c).length) = T := ⟨_, rfl⟩
  have hT' : ∀ c, (tsO x c).length = T c := fun c => by rw [← hT]
  obtain ⟨U, hU⟩ : ∃ U, clU x = U := ⟨_, rfl⟩
  obtain ⟨V, hV⟩ : ∃ V, clC x = V := ⟨_, rfl⟩
  have HC1 : Hid (∀ c j, U c (j + 1) = U c j ++ clS (S c j)) := fun c j => by rw [← hU, ← hS]; exact clU_succ x c j
  have HC0 : Hid (∀ c, U c 0 = []) := fun c => by rw [← hU]; rfl
  have HC2 : Hid (∀ c, V c = srtQ (U c (T c))) := fun c => by rw [← hU, ← hV, ← hT]; rfl
  have HC3 : Hid (∀ c j, (U c j).length ≤ j * 3721) := by rw [← hU]; exact clU_len hw
  have HC4 : Hid (∀ k, ((x.cs.take k).flatMap V).length ≤ 20 * 226981) := fun k => by
    rw [← hV]
    have h1 := flatMap_len (clC x) 226981 (x.cs.take k) (clC_len hw)
    have h2 : (x.cs.take k).length ≤ 20 := by have := hw.c20; simp; omega
    exact Nat.le_trans h1 (Nat.mul_le_mul_right _ h2)
  have HC5 : Hid (∀ c j, (clS (S c j)).length ≤ 3721) := fun c j => by
    rw [← hS']
    have h2 := clTo_len (spP c (tsO x c) x.ps j).wear (spP c (tsO x c) x.ps j).ths (spP c (tsO x c) x.ps j).ths.length
    have h3 := spP_len c (tsO x c) x.ps j
    have h4 := hw.n60
    have h5 : (spP c (tsO x c) x.ps j).ths.length ≤ 61 := by omega
    exact Nat.le_trans h2 (Nat.mul_le_mul h5 h5)
  have HC6 : Hid (∀ c, (V c).length ≤ 226981) := by rw [← hV]; exact clC_len hw
  rw [show clA x = x.cs.flatMap V from by rw [← hV]; rfl]
  simp only [hS', hT'] at KC
  have HKC := Lib.hid KC
  have H1 := Lib.hid h.cs
  have n1 := h.n1
  clear KC h hk hw hS hS' hT hT' hU hV
  obtain ⟨cs, ps, rs, q1, q2, q3, c1, c2, c3⟩ := x
  simp only [WA.v] at *
  go_enter Tryz.func107, Tryz.ntmps107
  go_wp2_with fail
  obtain ⟨W0, hW0⟩ : ∃ W0, (w).alloc (.cells #[.slice q1 cs.length c1, .slice q2 ps.length c2, .slice q3 rs.length c3] 26) = W0 := ⟨_, rfl⟩
  have S0 : St w W0 [(w.heap.size, 0, .slice q1 cs.length c1), (w.heap.size, 1, .slice q2 ps.length c2), (w.heap.size, 2, .slice q3 rs.length c3)] := by rw [← hW0]; exact ((St.nil w)).box #[.slice q1 cs.length c1, .slice q2 ps.length c2, .slice q3 rs.length c3] 26 (w.heap.size) (by simp)
  rw [hW0]
  clear hW0
  obtain ⟨C, hC0, HC, LC, BC, hne⟩ := cls S0
  haveI := hne
  obtain ⟨c0, rfl⟩ : ∃ n : Wd C, W0 = n.w := ⟨⟨_, hC0⟩, rfl⟩
  have fC0 : ∀ n : Wd C, n.w.cell? ⟨w.heap.size, 0, none⟩ = some (.slice q1 cs.length c1) := fun n => (LC.out n).1.2.1
  have fC1 : ∀ n : Wd C, n.w.cell? ⟨w.heap.size, 1, none⟩ = some (.slice q2 ps.length c2) := fun n => (LC.out n).2.1.2.1
  have fC2 : ∀ n : Wd C, n.w.cell? ⟨w.heap.size, 2, none⟩ = some (.slice q3 rs.length c3) := fun n => (LC.out n).2.2.1.2.1
  clear S0 hC0
  go_wp2_with fail
  go_loopw [3, 12] (fun v i wr => ∃ (k : Nat), St w wr [(w.heap.size, 0, .slice q1 cs.length c1), (w.heap.size, 1, .slice q2 ps.length c2), (w.heap.size, 2, .slice q3 rs.length c3)] ∧ i = .int .i64 (k : Int) ∧ k ≤ cs.length ∧ OP wr (w.heap.size + 1) v ((cs.take k).flatMap V)) (fun v i wr => cs.length - (intOf i).toNat)
  case atStart => exact ⟨0, ⟨BC.out _, LC.out _⟩, rfl, Nat.zero_le _, World.ownsRow_nil _ _ _ _⟩
  case round =>
    obtain ⟨k, hS, rfl, hk, hO⟩ := hrel
    have HO := Lib.hid hO
    have HS := Lib.hid hS
    clear fC0 fC1 fC2 hO
    by_cases hlt : k < cs.length
    · rcases H1.out with h0 | ⟨b, o, rfl, hb, hc⟩
      · rw [h0] at hlt; simp at hlt
      · obtain ⟨d1, d2, d3, d4, d5⟩ := hc k cs[k] (List.getElem?_eq_getElem hlt)
        have b1 := (hS.b.cell (p := ⟨b, o + k * 5, none⟩) hb).trans d1
        have b2 := (hS.b.cell (p := ⟨b, o + k * 5 + 1, none⟩) hb).trans d2
        have b3 := (hS.b.cell (p := ⟨b, o + k * 5 + 2, none⟩) hb).trans d3
        have b4 := (hS.b.cell (p := ⟨b, o + k * 5 + 3, none⟩) hb).trans d4
        have b5 := (hS.b.cell (p := ⟨b, o + k * 5 + 4, none⟩) hb).trans d5
        have HK := Lib.hid (HKC.out cs[k] (List.getElem_mem hlt))
        have HTK : Hid ((cs.take (k + 1)).flatMap V = (cs.take k).flatMap V ++ V cs[k]) := by
          unfold Hid; rw [take_snocG cs k hlt, List.flatMap_append]; simp
        obtain ⟨c, hcq⟩ : ∃ c, cs[k] = c := ⟨_, rfl⟩
        rw [hcq] at b1 b2 b3 b4 b5 HK HTK
        have hlt' : (k : Int) < (cs.length : Int) := by omega
        obtain ⟨⟨hz, f0, -⟩, ⟨-, f1, -⟩, ⟨-, f2, -⟩, -⟩ := hS.c
        clear d1 d2 d3 d4 d5 hc hcq hb hS
        go_wp2_with fail
        refine (HK.out _ (HS.out.b.trans ((below_al _ _).mono HS.out.b.size))).mono ?_
        rintro e w1 ⟨⟨G, n, xs, rfl, hn, hn61, hxl, hG, hat⟩, hbb⟩
        have hb1 : Below wr.heap.size wr w1 := (below_al _ _).trans (hbb.mono (by simp))
        have HSz := Lib.hid (Nat.lt_of_lt_of_le hz hb1.size)
        have HS1 := Lib.hid (HS.out.next hb1)
        have HO1 := Lib.hid (ownsRow_keep HO.out hb1)
        have HN := Lib.hid (And.intro hn (And.intro hn61 hxl))
        have HG1 := Lib.hid hG
        clear hbb hb1 f0 f1 f2 b1 b2 b3 b4 b5 hn hxl hz HS HO hG
        go_wp2_with fail
        go_loopw [6, 20] (fun v i wr2 => ∃ (j : Nat), Below w1.heap.size w1 wr2 ∧ i = .int .i64 (j : Int) ∧ j ≤ n ∧ OP wr2 w1.heap.size v (U c j)) (fun v i wr2 => n - (intOf i).toNat)
        case atStart => exact ⟨0, Below.refl _ _, rfl, Nat.zero_le _, by rw [HC0.out]; exact World.ownsRow_nil _ _ _ _⟩
        case round =>
          obtain ⟨j, hB2, rfl, hj, hO2⟩ := hrel
          have HB2 := Lib.hid hB2
          have HO2 := Lib.hid hO2
          clear hO2
          by_cases hlt2 : j < n
          · have hjx : j < xs.length := by have := HN.out.2.2; omega
            obtain ⟨k1, k2, k3, k4, k5, k6⟩ := hat.out j xs[j] (List.getElem?_eq_getElem hjx)
            obtain ⟨sv, hsv⟩ : ∃ sv, xs[j] = sv := ⟨_, rfl⟩
            rw [hsv] at k1 k2 k3 k4 k5 k6
            obtain ⟨m1, m2, m3, m4⟩ := k3.keep hB2
            have HT := Lib.hid (k4.keep hB2)
            have HT1 : Hid (U c (j + 1) = U c j ++ clS sv.s) := by unfold Hid; rw [k1]; exact HC1.out c j
            have HLn : Hid ((U c j).length + (clS sv.s).length ≤ 10000000) := by
              unfold Hid
              have h1 := HC3.out c j
              have h2 := HC5.out c j
              rw [k1]
              have h3 : j * 3721 ≤ 61 * 3721 := Nat.mul_le_mul_right _ (by omega)
              omega
            have CC := fun W hth => clashes1_any sv.s sv.q sv.cap W k2 k5 k6 hth
            have HCC := Lib.hid CC
            obtain ⟨⟨slo, shi, swe, sth⟩, sq, sc⟩ := sv
            simp only [Spl.v] at *
            have hlt2' : (j : Int) < (n : Int) := by omega
            clear k1 k2 k3 k4 k5 k6 hsv CC hB2
            go_wp2_with fail
            refine (HCC.out _ (HT.out.keep (below_al _ _))).mono ?_
            rintro e w2 ⟨v2, rfl, hO3, hb3⟩
            have hb4 : Below wr.heap.size wr w2 := (below_al _ _).trans (hb3.mono (by simp))
            have HB3 := Lib.hid (HB2.out.trans (hb4.mono HB2.out.size))
            have HO3 := Lib.hid hO3
            have HO4 := Lib.hid (ownsRow_keep HO2.out hb4)
            clear hO3 hb3 hb4 m1 m2 m3 m4
            go_wp2_with (at_builtin; refine appO HO4.out HO3.out HB3.out.size HLn.out rfl _ _ rfl rfl rfl ?_; intro v' w3 hO5 hg5)
            go_roundw
            case rel => exact ⟨j + 1, below_grownO HB3.out HO4.out (Nat.le_refl _) hg5, by simp, hlt2, by rw [HT1.out]; exact hO5⟩
            case measure => simp [intOf]; omega
          · obtain rfl : j = n := by omega
            clear hB2
            go_wp2_with fail
            refine (sortA_any HO2.out (by have h1 := HC3.out c j; have h3 : j * 3721 ≤ 61 * 3721 := Nat.mul_le_mul_right _ HN.out.2.1; omega)).mono ?_
            rintro e w2 ⟨rfl, hO3, hg3⟩
            rw [show srtQ (U c j) = V c from by rw [HC2.out, ← HN.out.1]] at hO3
            have HB3 := Lib.hid (below_grownO HB2.out HO2.out (Nat.le_refl _) hg3)
            have HO3 := Lib.hid hO3
            have HO4 := Lib.hid (ownsRow_keep HO1.out HB3.out)
            have HSz2 : Hid (w.heap.size + 1 ≤ w2.heap.size) := Nat.le_trans (Nat.succ_le_of_lt HSz.out) HB3.out.size
            clear hO3 hg3
            go_wp2_with (at_builtin; refine appO HO4.out HO3.out HSz2.out (by have h1 := HC4.out k; have h2 := HC6.out c; omega) rfl _ _ rfl rfl rfl ?_; intro v' w3 hO5 hg5)
            go_roundw
            case rel => exact ⟨k + 1, (HS1.out.next HB3.out).grown HO4.out hg5 (Nat.le_succ _) (by simp), by simp, hlt, by rw [HTK.out]; exact hO5⟩
            case measure => simp [intOf]; omega
    · obtain rfl : k = cs.length := by omega
      obtain ⟨f0, f1, f2, -⟩ := hS.c
      clear hS
      go_wp2_with fail
      go_ret
      exact ⟨⟨_, rfl, by have := HO.out; rwa [List.take_length] at this⟩, HS.out.b⟩
end Go.Proofs.YtcejmfgbfdhflaaGreat
namespace Go.Proofs.YtcejmfgbfdhflaaGreat
open Go.RowKit Go.Shelf Go.BigFrame Go.Sort
attribute [local go_sem] World.cell?_alloc_some
/-- What Clashes gives. -/
def clsE (x : WA) : Int := chk x
def clsL (x : WA) : List (Int × Int) := if chk x = 0 then clA x else []
theorem ownsRow_base {W : World} {B C : Nat} {e : TypeId} {k n : Nat} {v : Value} {xs : List Value} (h : W.ownsRow B e k v n xs) (hc : C ≤ B) : W.ownsRow C e k v n xs := by
  obtain ⟨h1, h2 | ⟨g, cap, cur, rfl, hg, hc', h3, h4, h5, h6⟩⟩ := h
  · exact ⟨h1, .inl h2⟩
  · exact ⟨h1, .inr ⟨g, cap, cur, rfl, Nat.le_trans hc hg, hc', h3, h4, h5, h6⟩⟩
set_option maxRecDepth 100000 in
set_option maxHeartbeats 3200000 in
theorem Clashes_any (x : WA) (w : World) (h : x.At w) :
    Calls Tryz.prog 34 #[x.v] w fun e w' => (∃ v, e = .returned (.tuple #[v, .int .i64 (chk x)]) ∧ OP w' w.heap.size v (clsL x)) ∧ Below w.heap.size w w' := by
  have K1 := fun W (hb : Below w.heap.size w W) => Check_any x W (h.keep hb)
  have K2 : chk x = 0 → ∀ W, Below w.heap.size w W → Calls Tryz.prog 107 #[x.v] W fun e w' => (∃ v, e = .returned v ∧ OP w' (W.heap.size + 1) v (clA x)) ∧ Below W.heap.size W w' := fun e W hb => clashesW_any x W (h.keep hb) e
  obtain ⟨k, hk⟩ : ∃ k, chk x = k := ⟨_, rfl⟩
  unfold clsL
  rw [hk] at K2 ⊢
  simp only [hk] at K1
  obtain ⟨A, hA⟩ : ∃ A, clA x = A := ⟨_, rfl⟩
  rw [hA] at K2 ⊢
  obtain ⟨L, hL⟩ : ∃ L, (if k = 0 then A else []) = L := ⟨_, rfl⟩
  rw [hL]
  have HL := Lib.hid hL
  have HK2 := Lib.hid K2
  clear h hk hA K2 hL
  obtain ⟨cs, ps, rs, q1, q2, q3, c1, c2, c3⟩ := x
  simp only [WA.v] at *
  go_enter Tryz.func34, Tryz.ntmps34
  go_wp2_with fail
  obtain ⟨W0, hW0⟩ : ∃ W0, (w).alloc (.cells #[.slice q1 cs.length c1, .slice q2 ps.length c2, .slice q3 rs.length c3] 26) = W0 := ⟨_, rfl⟩
  have S0 : St w W0 [(w.heap.size, 0, .slice q1 cs.length c1), (w.heap.size, 1, .slice q2 ps.length c2), (w.heap.size, 2, .slice q3 rs.length c3)] := by rw [← hW0]; exact ((St.nil w)).box #[.slice q1 cs.length c1, .slice q2 ps.length c2, .slice q3 rs.length c3] 26 (w.heap.size) (by simp)
  rw [hW0]
  clear hW0
  obtain ⟨C, hC0, HC, LC, BC, hne⟩ := cls S0
  haveI := hne
  obtain ⟨c0, rfl⟩ : ∃ n : Wd C, W0 = n.w := ⟨⟨_, hC0⟩, rfl⟩
  have fC0 : ∀ n : Wd C, n.w.cell? ⟨w.heap.size, 0, none⟩ = some (.slice q1 cs.length c1) := fun n => (LC.out n).1.2.1
  have fC1 : ∀ n : Wd C, n.w.cell? ⟨w.heap.size, 1, none⟩ = some (.slice q2 ps.length c2) := fun n => (LC.out n).2.1.2.1
  have fC2 : ∀ n : Wd C, n.w.cell? ⟨w.heap.size, 2, none⟩ = some (.slice q3 rs.length c3) := fun n => (LC.out n).2.2.1.2.1
  clear S0 hC0
  have D1 := cinL HC BC K1
  clear K1
  by_cases hk0 : k = 0
  · subst hk0
    obtain rfl : A = L := by have := HL.out; rwa [if_pos rfl] at this
    go_wp2_with (first | first | (go_at_call 23; with_reducible refine (D1 _).out.mono ?_; rintro e w' ⟨rfl, n, rfl⟩))
    refine (HK2.out (by first | rfl | trivial) _ (BC.out _)).mono ?_
    rintro e w3 ⟨⟨v, rfl, hO⟩, hb⟩
    have HO := Lib.hid hO
    have HB := Lib.hid ((BC.out _).trans (hb.mono (BC.out _).size))
    go_wp2_with fail
    go_ret2
    exact ⟨⟨_, rfl, ownsRow_base HO.out (by have := (BC.out n).size; omega)⟩, HB.out⟩
  · have hb : (k != 0) = true := by simpa using hk0
    obtain rfl : [] = L := by have := HL.out; rwa [if_neg hk0] at this
    clear hk0
    go_wp2_with (first | first | (go_at_call 23; with_reducible refine (D1 _).out.mono ?_; rintro e w' ⟨rfl, n, rfl⟩))
    go_ret2
    exact ⟨⟨_, rfl, World.ownsRow_nil _ _ _ _⟩, BC.out _⟩
theorem OP.first {W : World} {B : Nat} {v : Value} {p : Int × Int} {l : List (Int × Int)} (h : OP W B v (p :: l)) : ∃ g cap, v = .slice (some ⟨g, 0, none⟩) (l.length + 1) cap ∧ W.cell? ⟨g, 0, none⟩ = some (.int .i64 p.1) ∧ W.cell? ⟨g, 1, none⟩ = some (.int .i64 p.2) := by
  obtain ⟨h1, ⟨rfl, h2⟩ | ⟨g, cap, cur, rfl, hB, hc, h3, h4, h5, h6⟩⟩ := h
  · simp at h2
  · have e : ∀ j, (flat2 (p :: l))[j]? = cur.toList[j]? ∨ (p :: l).length * 2 ≤ j := fun j => by
      by_cases hj : j < (p :: l).length * 2
      · left; rw [← h6, List.getElem?_take_of_lt hj]
      · right; omega
    refine ⟨g, cap, rfl, ?_, ?_⟩
    · rcases e 0 with e | e
      · have : cur.toList[0]? = some (.int .i64 p.1) := e.symm
        simpa [World.cell?, hc] using this
      · simp at e
    · rcases e 1 with e | e
      · have : cur.toList[1]? = some (.int .i64 p.2) := e.symm
        simpa [World.cell?, hc] using this
      · simp only [List.length_cons] at e; omega
/-- What Clash gives. -/
def cl1 (x : WA) : Int := (clsL x).head?.elim 0 (·.1)
def cl2 (x : WA) : Int := (clsL x).head?.elim 0 (·.2)
def clZ (x : WA) : Bool := (clsL x).head?.isSome
set_option maxRecDepth 100000 in
set_option maxHeartbeats 3200000 in
theorem Clash_any (x : WA) (w : World) (h : x.At w) :
    Calls Tryz.prog 36 #[x.v] w fun e w' => e = .returned (.tuple #[.int .i64 (cl1 x), .int .i64 (cl2 x), .bool (clZ x), .int .i64 (chk x)]) ∧ Below w.heap.size w w' := by
  have K1 := fun W (hb : Below w.heap.size w W) => Clashes_any x W (h.keep hb)
  have HZ : Hid (chk x ≠ 0 → clsL x = []) := fun e => by unfold clsL; rw [if_neg e]
  unfold cl1 cl2 clZ
  obtain ⟨k, hk⟩ : ∃ k, chk x = k := ⟨_, rfl⟩
  obtain ⟨L, hL⟩ : ∃ L, clsL x = L := ⟨_, rfl⟩
  rw [hk, hL] at HZ ⊢
  simp only [hk, hL] at K1
  clear h hk hL
  obtain ⟨cs, ps, rs, q1, q2, q3, c1, c2, c3⟩ := x
  simp only [WA.v] at *
  go_enter Tryz.func36, Tryz.ntmps36
  go_wp2_with fail
  refine (K1 _ (below_al _ _)).mono ?_
  rintro e w1 ⟨⟨v, rfl, hO⟩, hb⟩
  have HB : Hid (Below w.heap.size w w1) := (below_al _ _).trans (hb.mono (by simp))
  cases L with
  | nil =>
    obtain ⟨q, cap, rfl⟩ : ∃ q cap, v = .slice q 0 cap := by
      obtain ⟨h1, ⟨rfl, h2⟩ | ⟨g, cap, cur, rfl, _⟩⟩ := hO
      · exact ⟨_, _, rfl⟩
      · exact ⟨_, _, rfl⟩
    clear hO hb K1
    by_cases hk0 : k = 0
    · subst hk0
      go_wp2_with fail
      refine bodyPost_ret (v := .tuple #[.int .i64 0, .int .i64 0, .bool false, .int .i64 0]) (by simp [results, Tryz.results36, go_sem]) rfl ⟨rfl, HB.out⟩
    · have hbb : (k != 0) = true := by simpa using hk0
      clear hk0
      go_wp2_with fail
      refine bodyPost_ret (v := .tuple #[.int .i64 0, .int .i64 0, .bool false, .int .i64 k]) (by simp [results, Tryz.results36, go_sem]) rfl ⟨rfl, HB.out⟩
  | cons p l =>
    obtain rfl : k = 0 := by
      by_cases h0 : k = 0
      · exact h0
      · have := HZ.out h0; cases this
    obtain ⟨g, cap, rfl, g1, g2⟩ := hO.first
    have hl0 : ¬ ((l.length : Int) + 1 = 0) := by omega
    have hl0' : (((l.length : Int) + 1) == 0) = false := by simpa using hl0
    clear hO hb K1 HZ
    go_wp2_with fail
    go_quiet (fail)
    go_wp2_with fail
    refine bodyPost_ret (v := .tuple #[.int .i64 p.1, .int .i64 p.2, .bool true, .int .i64 0]) (by simp [results, Tryz.results36, go_sem]) rfl ⟨rfl, HB.out.trans ((show Gr w1 (w1.drewN nq) from ⟨nq, #[], by rw [grow_empty]⟩).below.mono HB.out.size)⟩
end Go.Proofs.YtcejmfgbfdhflaaGreat
namespace Go.Proofs.YtcejmfgbfdhflaaGreat
open Go.RowKit Go.Shelf Go.BigFrame Go.Sort
attribute [local go_sem] World.cell?_alloc_some
abbrev c0L : Ch := ⟨1, 1800, 10000, 10010, 5⟩
abbrev p3L : Pf := ⟨3, 1, 1810, 10020, 10030⟩
abbrev p4L : Pf := ⟨4, 1, 1804, 10022, 10025⟩
abbrev p5L : Pf := ⟨5, 1, 1802, 10025, 10026⟩
abbrev r8L : Pf := ⟨8, 1, 1815, 10000, 10000⟩
abbrev cellsC (c : Ch) : Array Value := #[.int .i64 c.id, .int .i64 c.year, .int .i64 c.lo, .int .i64 c.hi, .int .i64 c.wear]
abbrev cellsP (c : Pf) : Array Value := #[.int .i64 c.id, .int .i64 c.ch, .int .i64 c.year, .int .i64 c.lo, .int .i64 c.hi]
theorem heap_new (W : World) (o : Obj) : (W.alloc o).heap[W.heap.size]? = some o := by
  show (W.heap.push o)[W.heap.size]? = some o
  simp
set_option maxHeartbeats 400000 in
theorem made_any (w : World) : Calls Tryz.prog 68 #[] w fun e w' => e = .returned (.agg #[.slice (some ⟨w.heap.size + 1, 0, none⟩) 1 1, .slice (some ⟨w.heap.size + 2, 0, none⟩) 1 1, .slice none 0 0]) ∧ (w'.heap[w.heap.size + 1]? = some (.cells (cellsC c0L) 90) ∧ w'.heap[w.heap.size + 2]? = some (.cells (cellsP p3L) 94)) ∧ Below w.heap.size w w' := by
  go_enter Tryz.func68, Tryz.ntmps68
  go_wp2_with fail
  refine bodyPost_ret (v := .agg #[.slice (some ⟨w.heap.size + 1, 0, none⟩) 1 1, .slice (some ⟨w.heap.size + 2, 0, none⟩) 1 1, .slice none 0 0]) (by simp [results, Tryz.results68, go_sem]) rfl ⟨rfl, ⟨?_, ?_⟩, ?_⟩
  · rw [Below.heap_alloc _ _ _ (by simp)]
    have := heap_new (w.alloc (.cells #[.slice (some ⟨w.heap.size + 1, 0, none⟩) 1 1, .slice (some ⟨w.heap.size + 1 + 1, 0, none⟩) 1 1, .slice none 0 0] 26)) (.cells (cellsC c0L) 90)
    simpa using this
  · have := heap_new ((w.alloc (.cells #[.slice (some ⟨w.heap.size + 1, 0, none⟩) 1 1, .slice (some ⟨w.heap.size + 1 + 1, 0, none⟩) 1 1, .slice none 0 0] 26)).alloc (.cells (cellsC c0L) 90)) (.cells (cellsP p3L) 94)
    simpa using this
  exact (((Gr.al _ _).trans (Gr.al _ _)).trans (Gr.al _ _)).below
set_option maxRecDepth 100000 in
set_option maxHeartbeats 3200000 in
theorem lawLong_any (x : WA) (y lo hi : Int) (w : World) (h : x.At w) :
    Calls Tryz.prog 69 #[x.v, .int .i64 y, .int .i64 lo, .int .i64 hi] w fun e w' => e = .returned (.bool (agE x 1 y == 0 && (lgLo x 1 y == lo && lgHi x 1 y == hi))) ∧ Below w.heap.size w w' := by
  have K1 := fun W (hb : Below w.heap.size w W) => Long_any x 1 y W (h.keep hb)
  obtain ⟨k, hk⟩ : ∃ k, agE x 1 y = k := ⟨_, rfl⟩
  obtain ⟨a, ha⟩ : ∃ k, lgLo x 1 y = k := ⟨_, rfl⟩
  obtain ⟨b, hb⟩ : ∃ k, lgHi x 1 y = k := ⟨_, rfl⟩
  rw [hk, ha, hb]
  simp only [hk, ha, hb] at K1
  clear h hk ha hb
  obtain ⟨cs, ps, rs, q1, q2, q3, c1, c2, c3⟩ := x
  simp only [WA.v] at *
  go_enter Tryz.func69, Tryz.ntmps69
  go_wp2_with fail
  refine (K1 _ (below_al _ _)).mono ?_
  rintro e w1 ⟨rfl, hb⟩
  have HB : Hid (Below w.heap.size w w1) := (below_al _ _).trans (hb.mono (by simp))
  clear hb K1
  by_cases h0 : k = 0
  · subst h0
    go_wp2_with fail
    all_goals (go_ret; exact ⟨ret_bool (by simp_all), HB.out.trans ((below_al _ _).mono HB.out.size)⟩)
  · have h0' : (k == 0) = false := by simpa using h0
    clear h0
    go_wp2_with fail
    all_goals (go_ret; exact ⟨ret_bool (by simp_all), HB.out.trans ((below_al _ _).mono HB.out.size)⟩)
end Go.Proofs.YtcejmfgbfdhflaaGreat
namespace Go.Proofs.YtcejmfgbfdhflaaGreat
open Go.RowKit Go.Shelf Go.BigFrame Go.Sort
attribute [local go_sem] World.cell?_alloc_some
deriving instance DecidableEq for Spl
theorem eqs_chk {x : WA} {a : List Ch} {b c : List Pf} (h1 : x.cs = a) (h2 : x.ps = b) (h3 : x.rs = c) : chk x = chk ⟨a, b, c, none, none, none, 0, 0, 0⟩ := by rw [chk, h1, h2, h3]; rfl
theorem sE_at {x : WA} {c : Ch} {id y : Int} (h : chk x = 0) (hc : chF x.cs id = some c) (hy : c.year ≤ y ∧ y ≤ 4000) : sE x id y = 0 := by
  unfold sE
  rw [if_neg (by simp [h]), hc, if_neg (by simp), chOr_some hc]
  rw [show inB c.year 4000 y = true from inB_iff.2 hy, if_neg (by simp)]
def S1 : Spl := ⟨1800, 4000, 5, [c0L.th, p3L.th]⟩
def S2 : Spl := ⟨1800, 4000, 5, [c0L.th, p3L.th, p4L.th]⟩
theorem begs0 : tsO ⟨[c0L], [], [], none, none, none, 0, 0, 0⟩ c0L = [c0L.th] := by simp [tsO, srtB, begs]
theorem tsO_eq {x y : WA} (h : x.rs = y.rs) (c : Ch) : tsO x c = tsO y c := by unfold tsO; rw [h]
theorem spO_eq {x y : WA} (h : x.rs = y.rs) (k : x.ps = y.ps) (c : Ch) (n : Int) : spO x c n = spO y c n := by unfold spO ixO; rw [tsO_eq h, k]
theorem cnt_one {y : Int} (h : 1800 ≤ y) : cntU [1800] y = 1 := by simp [cntU, h]
theorem spO_1 {x : WA} (h2 : x.ps = [p3L]) (h3 : x.rs = []) {y : Int} (hy : 1800 ≤ y) : spO x c0L y = S1 := by
  have e1 : tsO x c0L = [c0L.th] := by rw [← begs0]; exact tsO_eq h3 _
  unfold spO ixO
  rw [e1, h2, show List.map (·.year) [c0L.th] = [1800] from rfl, cnt_one hy]
  decide +kernel
theorem spO_2 {x : WA} (h2 : x.ps = [p3L, p4L]) (h3 : x.rs = []) {y : Int} (hy : 1800 ≤ y) : spO x c0L y = S2 := by
  have e1 : tsO x c0L = [c0L.th] := by rw [← begs0]; exact tsO_eq h3 _
  unfold spO ixO
  rw [e1, h2, show List.map (·.year) [c0L.th] = [1800] from rfl, cnt_one hy]
  decide +kernel
theorem ev_1 {x : WA} (h1 : x.cs = [c0L]) (h2 : x.ps = [p3L]) (h3 : x.rs = []) {y : Int} (hy : 1800 ≤ y ∧ y ≤ 4000) : agE x 1 y = 0 ∧ lgLo x 1 y = lowS S1 y ∧ lgHi x 1 y = highS S1 y ∧ rsLo x 1 y = loNo S1 y ∧ rsHi x 1 y = hiNo S1 y := by
  have hk : chk x = 0 := by rw [eqs_chk h1 h2 h3]; decide +kernel
  have hc : chF x.cs 1 = some c0L := by rw [h1]; decide +kernel
  have hs := sE_at hk hc hy
  have e1 : spO x (chOr x.cs 1) y = S1 := by rw [chOr_some hc]; exact spO_1 h2 h3 hy.1
  have e2 : agE x 1 y = 0 := by unfold agE; rw [if_neg (by simp [hs]), e1, if_pos (by decide +kernel)]
  refine ⟨e2, ?_, ?_, ?_, ?_⟩
  · unfold lgLo; rw [if_pos e2, e1]
  · unfold lgHi; rw [if_pos e2, e1]
  · unfold rsLo; rw [if_pos e2, e1]
  · unfold rsHi; rw [if_pos e2, e1]
theorem ev_2 {x : WA} (h1 : x.cs = [c0L]) (h2 : x.ps = [p3L, p4L]) (h3 : x.rs = []) {y : Int} (hy : 1800 ≤ y ∧ y ≤ 4000) : agE x 1 y = 0 ∧ lgLo x 1 y = lowS S2 y ∧ lgHi x 1 y = highS S2 y := by
  have hk : chk x = 0 := by rw [eqs_chk h1 h2 h3]; decide +kernel
  have hc : chF x.cs 1 = some c0L := by rw [h1]; decide +kernel
  have hs := sE_at hk hc hy
  have e1 : spO x (chOr x.cs 1) y = S2 := by rw [chOr_some hc]; exact spO_2 h2 h3 hy.1
  have e2 : agE x 1 y = 0 := by unfold agE; rw [if_neg (by simp [hs]), e1, if_pos (by decide +kernel)]
  refine ⟨e2, ?_, ?_⟩
  · unfold lgLo; rw [if_pos e2, e1]
  · unfold lgHi; rw [if_pos e2, e1]
def m1L : Ms := ⟨1, 1810, 3, 50, 1⟩
theorem ds_1 {x : WA} (h1 : x.cs = [c0L]) (h2 : x.ps = [p3L]) (h3 : x.rs = []) : dsE x m1L = 0 ∧ dsLo x m1L = 349 ∧ dsHi x m1L = 353 := by
  have hk : chk x = 0 := by rw [eqs_chk h1 h2 h3]; decide +kernel
  have e := ev_1 h1 h2 h3 (y := 1810) (by decide)
  have hm : okMs x.cs m1L = true := by rw [h1]; decide +kernel
  have e1 : dsE x m1L = 0 := by
    unfold dsE
    rw [if_neg (by simp [hk]), if_neg (by simp [hm])]
    exact e.1
  refine ⟨e1, ?_, ?_⟩
  · unfold dsLo
    rw [if_pos e1, show lgLo x m1L.ch m1L.year = lowS S1 1810 from e.2.1]
    decide +kernel
  · unfold dsHi
    rw [if_pos e1, show lgHi x m1L.ch m1L.year = highS S1 1810 from e.2.2.1]
    decide +kernel
theorem cl_3 {x : WA} (h1 : x.cs = [c0L]) (h2 : x.ps = [p3L, p5L]) (h3 : x.rs = []) : cl1 x = 0 ∧ cl2 x = 5 ∧ clZ x = true ∧ chk x = 0 := by
  have hk : chk x = 0 := by rw [eqs_chk h1 h2 h3]; decide +kernel
  have e1 : tsO x c0L = [c0L.th] := by rw [← begs0]; exact tsO_eq h3 _
  have e2 : clU x c0L (tsO x c0L).length = [(0, 5)] := by
    unfold clU
    rw [e1, h2]
    decide +kernel
  have e3 : clsL x = [(0, 5)] := by
    unfold clsL clA
    rw [if_pos hk, h1]
    simp only [List.flatMap_cons, List.flatMap_nil, List.append_nil, clC, e2]
    simp [srtQ]
  unfold cl1 cl2 clZ
  rw [e3]
  exact ⟨rfl, rfl, rfl, hk⟩
theorem ts_4 {x : WA} (h3 : x.rs = [r8L]) : tsO x c0L = [c0L.th, r8L.th] := by
  unfold tsO
  rw [h3]
  refine (srtB_uniq ?_ ?_ ?_).symm
  · rw [show begs [r8L] c0L = [c0L.th, r8L.th] from by decide +kernel]; decide +kernel
  · rw [show begs [r8L] c0L = [c0L.th, r8L.th] from by decide +kernel]
  · decide +kernel
theorem sl_4 {x : WA} (h1 : x.cs = [c0L]) (h2 : x.ps = [p3L, p5L]) (h3 : x.rs = [r8L]) : (sE x 1 1810 = 0 ∧ slLo x 1 1810 = 1800 ∧ slHi x 1 1810 = 1814) ∧ sE x 1 1815 = 0 ∧ slLo x 1 1815 = 1815 ∧ slHi x 1 1815 = 4000 := by
  have hk : chk x = 0 := by rw [eqs_chk h1 h2 h3]; decide +kernel
  have hc : chF x.cs 1 = some c0L := by rw [h1]; decide +kernel
  have hs := sE_at hk hc (y := 1810) (by decide)
  have hs2 := sE_at hk hc (y := 1815) (by decide)
  refine ⟨⟨hs, ?_, ?_⟩, hs2, ?_, ?_⟩
  · unfold slLo; rw [if_pos hs, chOr_some hc]; unfold spO ixO; rw [ts_4 h3, h2]; decide +kernel
  · unfold slHi; rw [if_pos hs, chOr_some hc]; unfold spO ixO; rw [ts_4 h3, h2]; decide +kernel
  · unfold slLo; rw [if_pos hs2, chOr_some hc]; unfold spO ixO; rw [ts_4 h3, h2]; decide +kernel
  · unfold slHi; rw [if_pos hs2, chOr_some hc]; unfold spO ixO; rw [ts_4 h3, h2]; decide +kernel
end Go.Proofs.YtcejmfgbfdhflaaGreat
namespace Go.Proofs.YtcejmfgbfdhflaaGreat
open Go.RowKit Go.Shelf Go.BigFrame Go.Sort
attribute [local go_sem] World.cell?_alloc_some
theorem info94 : (Tryz.prog.info? 94).map (fun i => (i.zero, i.size, i.bytes)) = some (some (.agg #[.int .i64 0, .int .i64 0, .int .i64 0, .int .i64 0, .int .i64 0]), 5, 40) := by kernel_rfl
theorem cs_take {W : World} {b : Nat} {cur : Array Value} {e : TypeId} (hh : W.heap[b]? = some (.cells cur e)) : ∀ (l : List Value) (o : Nat), (∀ j u, l[j]? = some u → cur.toList[o + j]? = some u) → Cs W (blk b o l)
  | [], _, _ => trivial
  | v :: r, o, h => by
    have hlt : b < W.heap.size := (Array.getElem?_eq_some_iff.1 hh).1
    have h1 : cur.toList[o]? = some v := h 0 v rfl
    refine ⟨⟨hlt, by simpa [World.cell?, hh] using h1, by simp [World.frozen?, hh]⟩, cs_take hh r (o + 1) fun j u hj => ?_⟩
    have := h (j + 1) u hj
    rwa [show o + (j + 1) = o + 1 + j from by omega] at this
theorem appP4 {W : World} {g2 : Nat} (hg : W.heap[g2]? = some (.cells (cellsP p3L) 94)) {ops : Array Oper} {rest : List Oper} {o : Oper} {a : Act} {Q : Exit → Act → World → Prop} (hgd : o.guard = none) (s z : Operand)
    (ho : o.op = .call { callee := .builtin .append, args := #[s, z], argTypes := #[23, 23] }) (hs : a.eval s = .slice (some ⟨g2, 0, none⟩) 1 1) (hx : a.eval z = .slice (some ⟨W.heap.size, 0, none⟩) 1 1)
    (h : ∀ g' cap w', (g' = g2 ∨ W.heap.size < g') → 2 ≤ cap → cap ≤ maxLen → Cs w' (blk g' 0 ((cellsP p3L).toList ++ (cellsP p4L).toList)) → (W.alloc (.cells (cellsP p4L) 94)).grownBy w' (some g2) → wpList Tryz.prog ops Q rest (a.put o.dst (.slice (some ⟨g', 0, none⟩) 2 cap)) w') :
    wpList Tryz.prog ops Q (o :: rest) a (W.alloc (.cells (cellsP p4L) 94)) := by
  obtain ⟨i0, hi, hz0, hz1, hz2⟩ := info_parts info94
  have hlt : g2 < W.heap.size := (Array.getElem?_eq_some_iff.1 hg).1
  refine wpList_append_own_at _ hgd s z 23 ho g2 94 i0 (.agg #[.int .i64 0, .int .i64 0, .int .i64 0, .int .i64 0, .int .i64 0]) 5 40 Tryz.underlying23 hi hz0 hz1 hz2 rfl (by decide) (.slice (some ⟨g2, 0, none⟩) 1 1) 1 (cellsP p3L).toList hs
    ⟨rfl, .inr ⟨g2, 1, cellsP p3L, rfl, Nat.le_refl _, (Below.heap_alloc W _ g2 hlt).trans hg, Nat.le_refl _, by unfold maxLen; decide, rfl, rfl⟩⟩ ⟨W.heap.size, 0, none⟩ 1 1 (cellsP p4L).toList hx rfl ?_ ?_ (by unfold maxLen; decide) (by decide) (by simp; omega) ?_
  · intro j u hu
    have hj : j < 5 := (List.getElem?_eq_some_iff.1 hu).1
    have := new_at W (cellsP p4L) 94 j u hu
    rwa [show (⟨W.heap.size, 0, none⟩ : Addr).add j = ⟨W.heap.size, j, none⟩ from by simp [Addr.add]; omega]
  · intro u hu
    simp at hu
    rcases hu with rfl | rfl | rfl | rfl | rfl <;> rfl
  · intro v' w' hown hgr hnil hblk
    obtain ⟨h1, ⟨rfl, h2⟩ | ⟨g', cap, cur, rfl, hB, hc, h3, h4, h5, h6⟩⟩ := hown
    · exact absurd h2 (by decide)
    · refine h g' cap w' ?_ h3 h4 (cs_take hc _ 0 fun j u hj => ?_) hgr
      · rcases hblk with e | e
        · left; simpa [Value.ownBlock] using e
        · right
          have : g' = (W.alloc (.cells (cellsP p4L) 94)).heap.size := by simpa [Value.ownBlock] using e
          rw [this]; simp
      · rw [← h6] at hj
        rw [Nat.zero_add]
        have hlt2 : j < (1 + 1) * 5 := by
          have := (List.getElem?_eq_some_iff.1 hj).1
          simp at this; omega
        rwa [List.getElem?_take_of_lt hlt2] at hj
theorem two_at {W : World} {g1 g' cap : Nat} {p q : Pf} {rs : List Pf} {q3 : Option Addr} {c3 : Nat} (h1 : Cs W (blk g1 0 (cellsC c0L).toList)) (h2 : Cs W (blk g' 0 ((cellsP p).toList ++ (cellsP q).toList))) (hc : 2 ≤ cap) (hm : cap ≤ maxLen) (h3 : PfsAt W q3 rs) (hr : rs.length ≤ 1 ∧ rs.length ≤ c3 ∧ c3 ≤ 1) :
    (⟨[c0L], [p, q], rs, some ⟨g1, 0, none⟩, some ⟨g', 0, none⟩, q3, 1, cap, c3⟩ : WA).At W := by
  obtain ⟨⟨l1, a0, -⟩, ⟨-, a1, -⟩, ⟨-, a2, -⟩, ⟨-, a3, -⟩, ⟨-, a4, -⟩, -⟩ := h1
  obtain ⟨⟨l2, b0, -⟩, ⟨-, b1, -⟩, ⟨-, b2, -⟩, ⟨-, b3, -⟩, ⟨-, b4, -⟩, ⟨-, b5, -⟩, ⟨-, b6, -⟩, ⟨-, b7, -⟩, ⟨-, b8, -⟩, ⟨-, b9, -⟩, -⟩ := h2
  obtain ⟨r1, r2, r3⟩ := hr
  have hm1 : (1 : Nat) ≤ maxLen := by unfold maxLen; decide
  refine ⟨.inr ⟨g1, 0, rfl, l1, fun j c hj => ?_⟩, .inr ⟨g', 0, rfl, l2, fun j c hj => ?_⟩, h3, by show 1 ≤ 1000; decide, by show 2 ≤ 1000; decide, by show rs.length ≤ 1000; omega, Nat.le_refl _, hc, r2, hm1, hm, Nat.le_trans r3 hm1⟩
  · match j, hj with
    | 0, hj => obtain rfl : c0L = c := by simpa using hj
               exact ⟨a0, a1, a2, a3, a4⟩
  · match j, hj with
    | 0, hj => obtain rfl : p = c := by simpa using hj
               exact ⟨b0, b1, b2, b3, b4⟩
    | 1, hj => obtain rfl : q = c := by simpa using hj
               exact ⟨b5, b6, b7, b8, b9⟩
/-- Cells stay when another is written. -/
theorem Cs.setO {W : World} {b o : Nat} {u : Value} : ∀ {L : List (Nat × Nat × Value)}, (∀ x ∈ L, x.1 = b → x.2.1 ≠ o) → Cs W L → Cs (W.setCell ⟨b, o, none⟩ u) L
  | [], _, _ => trivial
  | (b', o', v) :: L, hf, h => by
    refine ⟨⟨by simpa using h.1.1, ?_, ?_⟩, Cs.setO (fun x hx => hf x (List.mem_cons_of_mem _ hx)) h.2⟩
    · rw [World.cell?_setCell_other _ _ _ _ (fun e => by injection e with e1 e2; exact hf (b', o', v) List.mem_cons_self e1.symm e2.symm)]
      exact h.1.2.1
    · simpa using h.1.2.2
theorem Cs.setS {W : World} {b o : Nat} {u v : Value} (h : Cs W [(b, o, v)]) : Cs (W.setCell ⟨b, o, none⟩ u) [(b, o, u)] :=
  ⟨⟨by simpa using h.1.1, World.cell?_setCell_same _ _ _ h.1.2.1, by simpa using h.1.2.2⟩, trivial⟩
theorem below_grownB {w W W' : World} {b : Nat} (h : Below w.heap.size w W) (hb : w.heap.size ≤ b) (hg : W.grownBy W' (some b)) : Below w.heap.size w W' :=
  h.trans ⟨hg.os, hg.tape, hg.output, hg.size, fun k hk => hg.block k (Nat.lt_of_lt_of_le hk h.size) (fun e => by injection e with e; omega)⟩
theorem x1_at {W : World} {g1 g2 : Nat} (h1 : W.heap[g1]? = some (.cells (cellsC c0L) 90)) (h2 : W.heap[g2]? = some (.cells (cellsP p3L) 94)) : (⟨[c0L], [p3L], [], some ⟨g1, 0, none⟩, some ⟨g2, 0, none⟩, none, 1, 1, 0⟩ : WA).At W := by
  have l1 : g1 < W.heap.size := (Array.getElem?_eq_some_iff.1 h1).1
  have l2 : g2 < W.heap.size := (Array.getElem?_eq_some_iff.1 h2).1
  refine ⟨.inr ⟨g1, 0, rfl, l1, fun j c hj => ?_⟩, .inr ⟨g2, 0, rfl, l2, fun j c hj => ?_⟩, .inl rfl, by show 1 ≤ 1000; decide, by show 1 ≤ 1000; decide, by show 0 ≤ 1000; decide, Nat.le_refl _, Nat.le_refl _, Nat.le_refl _, by show 1 ≤ maxLen; unfold maxLen; decide, by show 1 ≤ maxLen; unfold maxLen; decide, Nat.zero_le _⟩
  · match j, hj with
    | 0, hj => obtain rfl : c0L = c := by simpa using hj
               simp [World.cell?, h1]
  · match j, hj with
    | 0, hj => obtain rfl : p3L = c := by simpa using hj
               simp [World.cell?, h2]
theorem blk_mem {b : Nat} : ∀ {l : List Value} {o : Nat} {x : Nat × Nat × Value}, x ∈ blk b o l → x.1 = b
  | [], _, x, h => by simp [blk] at h
  | v :: r, o, x, h => by
    simp only [blk, List.mem_cons] at h
    rcases h with rfl | h
    · rfl
    · exact blk_mem h
theorem Cs.lr {W : World} {m : List (Nat × Nat × Value)} : ∀ {l : List (Nat × Nat × Value)}, Cs W (l ++ m) → Cs W l ∧ Cs W m
  | [], h => ⟨trivial, h⟩
  | _ :: _, h => ⟨⟨h.1, (Cs.lr h.2).1⟩, (Cs.lr h.2).2⟩
theorem Cs.upd {W : World} {b o : Nat} {u : Value} : ∀ {L : List (Nat × Nat × Value)}, Cs W L → Cs (W.setCell ⟨b, o, none⟩ u) (L.map fun x => if x.1 = b ∧ x.2.1 = o then (b, o, u) else x)
  | [], _ => trivial
  | (b', o', v) :: L, h => by
    show Cs _ ((if b' = b ∧ o' = o then (b, o, u) else (b', o', v)) :: L.map fun x => if x.1 = b ∧ x.2.1 = o then (b, o, u) else x)
    by_cases e : b' = b ∧ o' = o
    · rw [if_pos e]
      obtain ⟨rfl, rfl⟩ := e
      exact ⟨(Cs.setS ⟨h.1, trivial⟩).1, Cs.upd h.2⟩
    · rw [if_neg e]
      exact ⟨(Cs.setO (L := [(b', o', v)]) (by simp only [List.mem_singleton, forall_eq]; intro e1 e2; exact e ⟨e1, e2⟩) ⟨h.1, trivial⟩).1, Cs.upd h.2⟩
theorem cs_set5 {W : World} {b : Nat} {p q r : Pf} (h : Cs W (blk b 0 ((cellsP p).toList ++ (cellsP q).toList))) :
    Cs (((((W.setCell ⟨b, 5, none⟩ (.int .i64 r.id)).setCell ⟨b, 6, none⟩ (.int .i64 r.ch)).setCell ⟨b, 7, none⟩ (.int .i64 r.year)).setCell ⟨b, 8, none⟩ (.int .i64 r.lo)).setCell ⟨b, 9, none⟩ (.int .i64 r.hi)) (blk b 0 ((cellsP p).toList ++ (cellsP r).toList)) := by
  have := ((((h.upd (b := b) (o := 5) (u := .int .i64 r.id)).upd (b := b) (o := 6) (u := .int .i64 r.ch)).upd (b := b) (o := 7) (u := .int .i64 r.year)).upd (b := b) (o := 8) (u := .int .i64 r.lo)).upd (b := b) (o := 9) (u := .int .i64 r.hi)
  simpa [blk] using this
theorem sets5_grown (W : World) (b : Nat) (u5 u6 u7 u8 u9 : Value) : W.grownBy (((((W.setCell ⟨b, 5, none⟩ u5).setCell ⟨b, 6, none⟩ u6).setCell ⟨b, 7, none⟩ u7).setCell ⟨b, 8, none⟩ u8).setCell ⟨b, 9, none⟩ u9) (some b) :=
  grown_trans (grown_trans (grown_trans (grown_trans (set_grown _ _ _ _) (set_grown _ _ _ _)) (set_grown _ _ _ _)) (set_grown _ _ _ _)) (set_grown _ _ _ _)
theorem long_in {G : World → Prop} (H : Hid (∀ W W', G W → Below W.heap.size W W' → G W')) (x : WA) (hat : ∀ n : Wd G, x.At n.w) (y lo hi : Int) (v : Value) (hv : x.v = v) (h : (agE x 1 y == 0 && (lgLo x 1 y == lo && lgHi x 1 y == hi)) = true) (n : Wd G) :
    Hid (Calls Tryz.prog 69 #[v, .int .i64 y, .int .i64 lo, .int .i64 hi] n.w fun e w'' => e = .returned (.bool true) ∧ ∃ m : Wd G, w'' = m.w) := by
  subst hv
  exact Calls.quiet_in (C := G) ((lawLong_any x y lo hi n.w (hat n)).mono fun _ _ k => ⟨by rw [k.1, h], H.out _ _ n.h k.2⟩)
set_option maxRecDepth 100000 in
set_option maxHeartbeats 6400000 in
theorem sanity_any (w : World) : Calls Tryz.prog 20 #[] w fun e w' => e = .returned (.bool true) ∧ Below w.heap.size w w' := by
  go_enter Tryz.func20, Tryz.ntmps20
  go_wp2_with fail
  refine (made_any w).mono ?_
  rintro e w1 ⟨rfl, ⟨hg1, hg2⟩, hb⟩
  obtain ⟨g1, hq1⟩ : ∃ g, w.heap.size + 1 = g := ⟨_, rfl⟩
  obtain ⟨g2, hq2⟩ : ∃ g, w.heap.size + 2 = g := ⟨_, rfl⟩
  rw [hq1] at hg1 ⊢
  rw [hq2] at hg2 ⊢
  have HQ := Lib.hid (And.intro hq1 hq2)
  have HB1 := Lib.hid hb
  have HG := Lib.hid (And.intro hg1 hg2)
  obtain ⟨x1, hx1⟩ : ∃ x : WA, (⟨[c0L], [p3L], [], some ⟨g1, 0, none⟩, some ⟨g2, 0, none⟩, none, 1, 1, 0⟩ : WA) = x := ⟨_, rfl⟩
  have hat := x1_at hg1 hg2
  have hv : x1.v = .agg #[.slice (some ⟨g1, 0, none⟩) 1 1, .slice (some ⟨g2, 0, none⟩) 1 1, .slice none 0 0] := by rw [← hx1]; rfl
  rw [hx1] at hat
  have r1 : x1.cs = [c0L] := by rw [← hx1]
  have r2 : x1.ps = [p3L] := by rw [← hx1]
  have r3 : x1.rs = [] := by rw [← hx1]
  have K1 := fun W (hb : Below w1.heap.size w1 W) => Rests_any x1 1 1805 W (hat.keep hb)
  have K2 := fun W (hb : Below w1.heap.size w1 W) => Distance_any x1 m1L W (hat.keep hb)
  have K3 := fun W (hb : Below w1.heap.size w1 W) => lawLong_any x1 1800 10000 10010 W (hat.keep hb)
  have K4 := fun W (hb : Below w1.heap.size w1 W) => lawLong_any x1 1805 10000 10030 W (hat.keep hb)
  have K5 := fun W (hb : Below w1.heap.size w1 W) => lawLong_any x1 1810 10020 10030 W (hat.keep hb)
  have K6 := fun W (hb : Below w1.heap.size w1 W) => lawLong_any x1 1820 10020 10080 W (hat.keep hb)
  obtain ⟨d1, d2, d3⟩ := ds_1 r1 r2 r3
  obtain ⟨e1, e2, e3, e4, e5⟩ := ev_1 r1 r2 r3 (y := 1805) (by decide)
  obtain ⟨i1, i2, i3, -⟩ := ev_1 r1 r2 r3 (y := 1800) (by decide)
  obtain ⟨j1, j2, j3, -⟩ := ev_1 r1 r2 r3 (y := 1810) (by decide)
  obtain ⟨l1, l2, l3, -⟩ := ev_1 r1 r2 r3 (y := 1820) (by decide)
  rw [show lowS S1 1800 = 10000 from by decide +kernel] at i2
  rw [show highS S1 1800 = 10010 from by decide +kernel] at i3
  rw [show lowS S1 1805 = 10000 from by decide +kernel] at e2
  rw [show highS S1 1805 = 10030 from by decide +kernel] at e3
  rw [show loNo S1 1805 = 0 from by decide +kernel] at e4
  rw [show hiNo S1 1805 = 3 from by decide +kernel] at e5
  rw [show lowS S1 1810 = 10020 from by decide +kernel] at j2
  rw [show highS S1 1810 = 10030 from by decide +kernel] at j3
  rw [show lowS S1 1820 = 10020 from by decide +kernel] at l2
  rw [show highS S1 1820 = 10080 from by decide +kernel] at l3
  simp only [e1, e4, e5, hv] at K1
  simp only [d1, d2, d3, hv] at K2
  simp only [m1L, Ms.v] at K2
  simp only [i1, i2, i3, hv, beq_self_eq_true, Bool.and_self] at K3
  simp only [e1, e2, e3, hv, beq_self_eq_true, Bool.and_self] at K4
  simp only [j1, j2, j3, hv, beq_self_eq_true, Bool.and_self] at K5
  simp only [l1, l2, l3, hv, beq_self_eq_true, Bool.and_self] at K6
  clear hb hg1 hg2 hat hv hx1 r1 r2 r3 d1 d2 d3 e1 e2 e3 e4 e5 i1 i2 i3 j1 j2 j3 l1 l2 l3
  go_upto_region 2 with fail
  obtain ⟨W0, hW0⟩ : ∃ W0, (w1).alloc (.cells #[.slice (some ⟨g1, 0, none⟩) 1 1, .slice (some ⟨g2, 0, none⟩) 1 1, .slice none 0 0] 26) = W0 := ⟨_, rfl⟩
  have S0 : St w1 W0 [(w1.heap.size, 0, .slice (some ⟨g1, 0, none⟩) 1 1), (w1.heap.size, 1, .slice (some ⟨g2, 0, none⟩) 1 1), (w1.heap.size, 2, .slice none 0 0)] := by rw [← hW0]; exact ((St.nil w1)).box #[.slice (some ⟨g1, 0, none⟩) 1 1, .slice (some ⟨g2, 0, none⟩) 1 1, .slice none 0 0] 26 (w1.heap.size) (by simp)
  rw [hW0]
  clear hW0
  obtain ⟨C, hC0, HC, LC, BC, hne⟩ := cls S0
  haveI := hne
  obtain ⟨c0, rfl⟩ : ∃ n : Wd C, W0 = n.w := ⟨⟨_, hC0⟩, rfl⟩
  have fC0 : ∀ n : Wd C, n.w.cell? ⟨w1.heap.size, 0, none⟩ = some (.slice (some ⟨g1, 0, none⟩) 1 1) := fun n => (LC.out n).1.2.1
  have fC1 : ∀ n : Wd C, n.w.cell? ⟨w1.heap.size, 1, none⟩ = some (.slice (some ⟨g2, 0, none⟩) 1 1) := fun n => (LC.out n).2.1.2.1
  have fC2 : ∀ n : Wd C, n.w.cell? ⟨w1.heap.size, 2, none⟩ = some (.slice none 0 0) := fun n => (LC.out n).2.2.1.2.1
  clear S0 hC0
  have D1 := cinL HC BC K1
  have D2 := cinL HC BC K2
  go_upto_region 3 with (first | first | (go_at_call 32; with_reducible refine (D1 _).out.mono ?_; rintro e w' ⟨rfl, n, rfl⟩))
  go_upto_region 4 with (first | first | (go_at_call 49; with_reducible refine (D2 _).out.mono ?_; rintro e w' ⟨rfl, n, rfl⟩))
  obtain ⟨W0, hW0⟩ : ∃ W0, (n.w).alloc (.cells #[.int .i64 349, .int .i64 353] 30) = W0 := ⟨_, rfl⟩
  have S0 : St w1 W0 [(n.w.heap.size, 0, .int .i64 349), (n.w.heap.size, 1, .int .i64 353), (w1.heap.size, 0, .slice (some ⟨g1, 0, none⟩) 1 1), (w1.heap.size, 1, .slice (some ⟨g2, 0, none⟩) 1 1), (w1.heap.size, 2, .slice none 0 0)] := by rw [← hW0]; exact ((⟨BC.out n, LC.out n⟩ : St w1 n.w _)).box #[.int .i64 349, .int .i64 353] 30 (n.w.heap.size) (by simp)
  rw [hW0]
  clear hW0
  obtain ⟨kF, hkk⟩ : ∃ k, n.w.heap.size = k := ⟨_, rfl⟩
  have gkF : w1.heap.size ≤ kF := by rw [← hkk]; exact (BC.out n).size
  rw [hkk] at S0 ⊢
  clear hkk
  obtain ⟨F, hC0, HF, LF, BF, hne⟩ := cls S0
  haveI := hne
  obtain ⟨f0, rfl⟩ : ∃ n : Wd F, W0 = n.w := ⟨⟨_, hC0⟩, rfl⟩
  have fF0 : ∀ n : Wd F, n.w.cell? ⟨kF, 0, none⟩ = some (.int .i64 349) := fun n => (LF.out n).1.2.1
  have fF1 : ∀ n : Wd F, n.w.cell? ⟨kF, 1, none⟩ = some (.int .i64 353) := fun n => (LF.out n).2.1.2.1
  have fF2 : ∀ n : Wd F, n.w.cell? ⟨w1.heap.size, 0, none⟩ = some (.slice (some ⟨g1, 0, none⟩) 1 1) := fun n => (LF.out n).2.2.1.2.1
  have fF3 : ∀ n : Wd F, n.w.cell? ⟨w1.heap.size, 1, none⟩ = some (.slice (some ⟨g2, 0, none⟩) 1 1) := fun n => (LF.out n).2.2.2.1.2.1
  have fF4 : ∀ n : Wd F, n.w.cell? ⟨w1.heap.size, 2, none⟩ = some (.slice none 0 0) := fun n => (LF.out n).2.2.2.2.1.2.1
  clear S0 hC0
  have D3 := cinL HF BF K3
  have D4 := cinL HF BF K4
  have D5 := cinL HF BF K5
  have D6 := cinL HF BF K6
  clear K1 K2 K3 K4 K5 K6 D1 D2
  go_upto_region 6 with (first | (go_at_call 69; with_reducible refine (D3 _).out.mono ?_; rintro e w' ⟨rfl, n3, rfl⟩) | (go_at_call 69; with_reducible refine (D4 _).out.mono ?_; rintro e w' ⟨rfl, n4, rfl⟩) | (go_at_call 69; with_reducible refine (D5 _).out.mono ?_; rintro e w' ⟨rfl, n5, rfl⟩) | (go_at_call 69; with_reducible refine (D6 _).out.mono ?_; rintro e w' ⟨rfl, n6, rfl⟩))
  have hG1 : n6.w.heap[g1]? = some (.cells (cellsC c0L) 90) := by rw [(BF.out n6).block g1 (Array.getElem?_eq_some_iff.1 HG.out.1).1]; exact HG.out.1
  have hG2 : n6.w.heap[g2]? = some (.cells (cellsP p3L) 94) := by rw [(BF.out n6).block g2 (Array.getElem?_eq_some_iff.1 HG.out.2).1]; exact HG.out.2
  have hlg1 : g1 < w1.heap.size := (Array.getElem?_eq_some_iff.1 HG.out.1).1
  have hlg2 : g2 < w1.heap.size := (Array.getElem?_eq_some_iff.1 HG.out.2).1
  have HL12 := Lib.hid (And.intro hlg1 hlg2)
  have HBn := Lib.hid (HB1.out.trans ((BF.out n6).mono HB1.out.size))
  have HCn := Lib.hid ((LF.out n6).2.2)
  have HGn := Lib.hid (And.intro hG1 hG2)
  clear D3 D4 D5 D6 hG1 hG2 hlg1 hlg2
  go_upto_region 7 with (at_builtin; refine appP4 HGn.out.2 rfl _ _ rfl rfl rfl ?_; intro g' cap w7 hd hc2 hcm hcs hgr; have hcB := ((HCn.out.keep (below_al _ _)).grown hgr (by have := HL12.out.2; simp; omega) : Cs w7 [(w1.heap.size, 0, .slice (some ⟨g1, 0, none⟩) 1 1), (w1.heap.size, 1, .slice (some ⟨g2, 0, none⟩) 1 1), (w1.heap.size, 2, .slice none 0 0)]); have HCB := Lib.hid hcB; have HP := Lib.hid (And.intro hd (And.intro hc2 (And.intro hcm (And.intro hcs hgr)))); obtain ⟨⟨zB, b0, -⟩, ⟨-, b1, y1⟩, ⟨-, b2, -⟩, -⟩ := hcB; clear hd hc2 hcm hcs hgr)
  have hq := HQ.out
  have hl := HL12.out
  have hp := HP.out
  have hzn : w1.heap.size < n6.w.heap.size := HCn.out.1.1
  have hgB : g' ≠ w1.heap.size := by rcases hp.1 with e | e <;> omega
  have cg1 : Cs w7 (blk g1 0 (cellsC c0L).toList) := ((cs_take HGn.out.1 _ 0 (fun j u hj => by simpa using hj)).keep (below_al _ _)).grown hp.2.2.2.2 (fun x hx e => by have := blk_mem hx; injection e with e; omega)
  have S2 : St w (w7.setCell ⟨w1.heap.size, 1, none⟩ (.slice (some ⟨g', 0, none⟩) 2 cap)) (blk w1.heap.size 0 [.slice (some ⟨g1, 0, none⟩) 1 1, .slice (some ⟨g', 0, none⟩) 2 cap, .slice none 0 0] ++ (blk g1 0 (cellsC c0L).toList ++ blk g' 0 ((cellsP p3L).toList ++ (cellsP p4L).toList))) := by
    refine ⟨below_grownB (below_grownB (HBn.out.trans ((below_al _ _).mono HBn.out.size)) (by omega) hp.2.2.2.2) (by have := HB1.out.size; omega) (set_grown _ _ _ _), Cs.app (Cs.app (hp.2.2.2.1.grown (set_grown _ _ _ _) (fun x hx e => by have := blk_mem hx; injection e with e; omega)) (cg1.grown (set_grown _ _ _ _) (fun x hx e => by have := blk_mem hx; injection e with e; omega))) ?_⟩
    obtain ⟨k0, k1, k2, -⟩ := HCB.out
    exact ⟨(Cs.setO (L := [(w1.heap.size, 0, _)]) (by simp) ⟨k0, trivial⟩).1, (Cs.setS ⟨k1, trivial⟩).1, (Cs.setO (L := [(w1.heap.size, 2, _)]) (by simp) ⟨k2, trivial⟩).1, trivial⟩
  obtain ⟨W8, hW8⟩ : ∃ W, w7.setCell ⟨w1.heap.size, 1, none⟩ (.slice (some ⟨g', 0, none⟩) 2 cap) = W := ⟨_, rfl⟩
  rw [hW8] at S2 ⊢
  have hBs : w.heap.size ≤ w1.heap.size := HB1.out.size
  have HN := Lib.hid (And.intro hgB (And.intro (by omega : g' ≠ g1 ∧ g1 ≠ w1.heap.size ∧ w.heap.size ≤ g') (And.intro hp.2.1 (And.intro hp.2.2.1 hBs))))
  obtain ⟨B, hB⟩ : ∃ B, w1.heap.size = B := ⟨_, rfl⟩
  rw [hB] at HN S2 ⊢
  clear hq hl hp hzn hgB cg1 hW8 HCB HP HCn HGn HBn HL12 zB b0 b1 y1 b2 hBs
  obtain ⟨G, hG0, HGG, LGG, BGG, hneG, -⟩ := clsF S2
  haveI := hneG
  obtain ⟨t0, rfl⟩ : ∃ n : Wd G, W8 = n.w := ⟨⟨_, hG0⟩, rfl⟩
  have fG0 : ∀ n : Wd G, n.w.cell? ⟨B, 0, none⟩ = some (.slice (some ⟨g1, 0, none⟩) 1 1) := fun n => (LGG.out n).1.2.1
  have fG1 : ∀ n : Wd G, n.w.cell? ⟨B, 1, none⟩ = some (.slice (some ⟨g', 0, none⟩) 2 cap) := fun n => (LGG.out n).2.1.2.1
  have fG2 : ∀ n : Wd G, n.w.cell? ⟨B, 2, none⟩ = some (.slice none 0 0) := fun n => (LGG.out n).2.2.1.2.1
  obtain ⟨x2, hx2⟩ : ∃ x : WA, (⟨[c0L], [p3L, p4L], [], some ⟨g1, 0, none⟩, some ⟨g', 0, none⟩, none, 1, cap, 0⟩ : WA) = x := ⟨_, rfl⟩
  have hat : ∀ n : Wd G, x2.At n.w := fun n => by
    obtain ⟨-, k⟩ := Cs.lr (LGG.out n)
    obtain ⟨k1, k2⟩ := Cs.lr k
    rw [← hx2]
    exact two_at k1 k2 HN.out.2.2.1 HN.out.2.2.2.1 (.inl rfl) ⟨by decide, by decide, by decide⟩
  have hv : x2.v = .agg #[.slice (some ⟨g1, 0, none⟩) 1 1, .slice (some ⟨g', 0, none⟩) 2 cap, .slice none 0 0] := by rw [← hx2]; rfl
  obtain ⟨e1, e2, e3⟩ := ev_2 (x := x2) (by rw [← hx2]) (by rw [← hx2]) (by rw [← hx2]) (y := 1800) (by decide)
  obtain ⟨e4, e5, e6⟩ := ev_2 (x := x2) (by rw [← hx2]) (by rw [← hx2]) (by rw [← hx2]) (y := 1804) (by decide)
  have L1 := long_in HGG x2 hat 1800 10002 10010 _ hv (by rw [e1, e2, e3]; decide +kernel)
  have L2 := long_in HGG x2 hat 1804 10022 10025 _ hv (by rw [e4, e5, e6]; decide +kernel)
  clear S2 hG0 hat hv hx2 e1 e2 e3 e4 e5 e6
  go_upto_region 9 with (first | (go_at_call 69; with_reducible refine (L1 _).out.mono ?_; rintro e w' ⟨rfl, n7, rfl⟩) | (go_at_call 69; with_reducible refine (L2 _).out.mono ?_; rintro e w' ⟨rfl, n8, rfl⟩))
  clear L1 L2
  obtain ⟨-, ka⟩ := Cs.lr (LGG.out n8)
  obtain ⟨kb, kc⟩ := Cs.lr ka
  have HKA := Lib.hid (And.intro kb kc)
  obtain ⟨⟨zg, -, -⟩, -, -, -, -, ⟨-, o5, y5⟩, ⟨-, o6, y6⟩, ⟨-, o7, y7⟩, ⟨-, o8, y8⟩, ⟨-, o9, y9⟩, -⟩ := kc
  clear ka kb
  go_upto_region 10 with fail
  have hn := HN.out
  have HG5 := sets5_grown n8.w g' (.int .i64 5) (.int .i64 1) (.int .i64 1802) (.int .i64 10025) (.int .i64 10026)
  have C5 := cs_set5 (p := p3L) (q := p4L) (r := p5L) HKA.out.2
  have S3 : St w (((((n8.w.setCell ⟨g', 5, none⟩ (.int .i64 5)).setCell ⟨g', 6, none⟩ (.int .i64 1)).setCell ⟨g', 7, none⟩ (.int .i64 1802)).setCell ⟨g', 8, none⟩ (.int .i64 10025)).setCell ⟨g', 9, none⟩ (.int .i64 10026)) (blk B 0 [.slice (some ⟨g1, 0, none⟩) 1 1, .slice (some ⟨g', 0, none⟩) 2 cap, .slice none 0 0] ++ (blk g1 0 (cellsC c0L).toList ++ blk g' 0 ((cellsP p3L).toList ++ (cellsP p5L).toList))) := by
    refine ⟨below_grownB (BGG.out n8) hn.2.1.2.2 HG5, Cs.app (Cs.app C5 (HKA.out.1.grown HG5 (fun x hx e => by have := blk_mem hx; injection e with e; omega))) ((Cs.lr (LGG.out n8)).1.grown HG5 (fun x hx e => by have := blk_mem hx; injection e with e; omega))⟩
  obtain ⟨W9, hW9⟩ : ∃ W, ((((n8.w.setCell ⟨g', 5, none⟩ (.int .i64 5)).setCell ⟨g', 6, none⟩ (.int .i64 1)).setCell ⟨g', 7, none⟩ (.int .i64 1802)).setCell ⟨g', 8, none⟩ (.int .i64 10025)).setCell ⟨g', 9, none⟩ (.int .i64 10026) = W := ⟨_, rfl⟩
  rw [hW9] at S3 ⊢
  clear hn HG5 C5 hW9 HKA zg o5 y5 o6 y6 o7 y7 o8 y8 o9 y9 fG0 fG1 fG2 LGG BGG HGG
  obtain ⟨M, hG0, HM, LM, BM, hneM, -⟩ := clsF S3
  haveI := hneM
  obtain ⟨u0, rfl⟩ : ∃ n : Wd M, W9 = n.w := ⟨⟨_, hG0⟩, rfl⟩
  have fG0 : ∀ n : Wd M, n.w.cell? ⟨B, 0, none⟩ = some (.slice (some ⟨g1, 0, none⟩) 1 1) := fun n => (LM.out n).1.2.1
  have fG1 : ∀ n : Wd M, n.w.cell? ⟨B, 1, none⟩ = some (.slice (some ⟨g', 0, none⟩) 2 cap) := fun n => (LM.out n).2.1.2.1
  have fG2 : ∀ n : Wd M, n.w.cell? ⟨B, 2, none⟩ = some (.slice none 0 0) := fun n => (LM.out n).2.2.1.2.1
  obtain ⟨x3, hx3⟩ : ∃ x : WA, (⟨[c0L], [p3L, p5L], [], some ⟨g1, 0, none⟩, some ⟨g', 0, none⟩, none, 1, cap, 0⟩ : WA) = x := ⟨_, rfl⟩
  have hat : ∀ n : Wd M, x3.At n.w := fun n => by
    obtain ⟨-, k⟩ := Cs.lr (LM.out n)
    obtain ⟨k1, k2⟩ := Cs.lr k
    rw [← hx3]
    exact two_at k1 k2 HN.out.2.2.1 HN.out.2.2.2.1 (.inl rfl) ⟨by decide, by decide, by decide⟩
  have hv : x3.v = .agg #[.slice (some ⟨g1, 0, none⟩) 1 1, .slice (some ⟨g', 0, none⟩) 2 cap, .slice none 0 0] := by rw [← hx3]; rfl
  obtain ⟨e1, e2, e3, e4⟩ := cl_3 (x := x3) (by rw [← hx3]) (by rw [← hx3]) (by rw [← hx3])
  have K1 := Clash_any x3 u0.w (hat u0)
  rw [e1, e2, e3, e4, hv] at K1
  clear S3 hG0 hat hv hx3 e1 e2 e3 e4
  go_wp2_with fail
  refine K1.mono ?_
  rintro e w9 ⟨rfl, hb9⟩
  obtain ⟨n9, rfl⟩ : ∃ n : Wd M, w9 = n.w := ⟨⟨_, HM.out _ _ u0.h hb9⟩, rfl⟩
  have hzB : B < n9.w.heap.size := (LM.out n9).1.1
  have hyB : n9.w.frozen? ⟨B, 2, none⟩ = false := (LM.out n9).2.2.1.2.2
  clear K1 hb9
  go_upto_region 12 with fail
  have hn := HN.out
  have hv2 := set_grown n9.w B 2 (.slice (some ⟨n9.w.heap.size, 0, none⟩) 1 1)
  obtain ⟨kB, kr⟩ := Cs.lr (LM.out n9)
  obtain ⟨kg1, kg2⟩ := Cs.lr kr
  have S4 : St w (n9.w.setCell ⟨B, 2, none⟩ (.slice (some ⟨n9.w.heap.size, 0, none⟩) 1 1)) (blk B 0 [.slice (some ⟨g1, 0, none⟩) 1 1, .slice (some ⟨g', 0, none⟩) 2 cap, .slice (some ⟨n9.w.heap.size, 0, none⟩) 1 1] ++ (blk g1 0 (cellsC c0L).toList ++ blk g' 0 ((cellsP p3L).toList ++ (cellsP p5L).toList))) := by
    refine ⟨below_grownB (BM.out n9) hn.2.2.2.2 hv2, Cs.app (Cs.app (kg2.grown hv2 (fun x hx e => by have := blk_mem hx; injection e with e; omega)) (kg1.grown hv2 (fun x hx e => by have := blk_mem hx; injection e with e; omega))) ?_⟩
    obtain ⟨k0, k1, k2, -⟩ := kB
    exact ⟨(Cs.setO (L := [(B, 0, _)]) (by simp) ⟨k0, trivial⟩).1, (Cs.setO (L := [(B, 1, _)]) (by simp) ⟨k1, trivial⟩).1, (Cs.setS ⟨k2, trivial⟩).1, trivial⟩
  have S5 := S4.box (cellsP r8L) 104 n9.w.heap.size (by simp)
  obtain ⟨g8, hg8⟩ : ∃ g, n9.w.heap.size = g := ⟨_, rfl⟩
  rw [hg8] at S5 ⊢
  obtain ⟨W10, hW10⟩ : ∃ W, (n9.w.setCell ⟨B, 2, none⟩ (.slice (some ⟨g8, 0, none⟩) 1 1)).alloc (.cells #[.int .i64 8, .int .i64 1, .int .i64 1815, .int .i64 10000, .int .i64 10000] 104) = W := ⟨_, rfl⟩
  rw [show (n9.w.setCell ⟨B, 2, none⟩ (.slice (some ⟨g8, 0, none⟩) 1 1)).alloc (.cells (cellsP r8L) 104) = W10 from hW10] at S5
  rw [hW10]
  clear hn hv2 kB kr kg1 kg2 S4 hg8 hW10 hzB hyB fG0 fG1 fG2 LM BM HM
  obtain ⟨J, hG0, HJ, LJ, BJ, hneJ, -⟩ := clsF S5
  haveI := hneJ
  obtain ⟨v0, rfl⟩ : ∃ n : Wd J, W10 = n.w := ⟨⟨_, hG0⟩, rfl⟩
  have fG0 : ∀ n : Wd J, n.w.cell? ⟨B, 0, none⟩ = some (.slice (some ⟨g1, 0, none⟩) 1 1) := fun n => (Cs.lr (LJ.out n)).2.1.2.1
  have fG1 : ∀ n : Wd J, n.w.cell? ⟨B, 1, none⟩ = some (.slice (some ⟨g', 0, none⟩) 2 cap) := fun n => (Cs.lr (LJ.out n)).2.2.1.2.1
  have fG2 : ∀ n : Wd J, n.w.cell? ⟨B, 2, none⟩ = some (.slice (some ⟨g8, 0, none⟩) 1 1) := fun n => (Cs.lr (LJ.out n)).2.2.2.1.2.1
  obtain ⟨x4, hx4⟩ : ∃ x : WA, (⟨[c0L], [p3L, p5L], [r8L], some ⟨g1, 0, none⟩, some ⟨g', 0, none⟩, some ⟨g8, 0, none⟩, 1, cap, 1⟩ : WA) = x := ⟨_, rfl⟩
  have hat : ∀ n : Wd J, x4.At n.w := fun n => by
    obtain ⟨k8, k⟩ := Cs.lr (LJ.out n)
    obtain ⟨-, k⟩ := Cs.lr k
    obtain ⟨k1, k2⟩ := Cs.lr k
    rw [← hx4]
    refine two_at k1 k2 HN.out.2.2.1 HN.out.2.2.2.1 (.inr ⟨g8, 0, rfl, k8.1.1, fun j c hj => ?_⟩) ⟨by decide, by decide, by decide⟩
    match j, hj with
    | 0, hj => obtain rfl : r8L = c := by simpa using hj
               exact ⟨k8.1.2.1, k8.2.1.2.1, k8.2.2.1.2.1, k8.2.2.2.1.2.1, k8.2.2.2.2.1.2.1⟩
  have hv : x4.v = .agg #[.slice (some ⟨g1, 0, none⟩) 1 1, .slice (some ⟨g', 0, none⟩) 2 cap, .slice (some ⟨g8, 0, none⟩) 1 1] := by rw [← hx4]; rfl
  obtain ⟨⟨e1, e2, e3⟩, e4, e5, e6⟩ := sl_4 (x := x4) (by rw [← hx4]) (by rw [← hx4]) (by rw [← hx4])
  have K1 := Spell_any x4 1 1810 v0.w (hat v0)
  have K2 := fun (n : Wd J) (o : Obj) => Spell_any x4 1 1815 (n.w.alloc o) ((hat n).keep (below_al _ _))
  rw [e1, e2, e3, hv] at K1
  simp only [e4, e5, e6, hv] at K2
  clear S5 hG0 hat hv hx4 e1 e2 e3 e4 e5 e6
  go_wp2_with fail
  refine K1.mono ?_
  rintro e w' ⟨rfl, hb⟩
  obtain ⟨n10, rfl⟩ : ∃ n : Wd J, w' = n.w := ⟨⟨_, HJ.out _ _ v0.h hb⟩, rfl⟩
  clear K1 hb
  go_wp2_with fail
  refine (K2 _ _).mono ?_
  rintro e w12 ⟨rfl, hb⟩
  have q0 := (hb.cell (p := ⟨n10.w.heap.size, 0, none⟩) (by simp)).trans (new_at n10.w #[.int .i64 1800, .int .i64 1814] 30 0 _ rfl)
  have q1 := (hb.cell (p := ⟨n10.w.heap.size, 1, none⟩) (by simp)).trans (new_at n10.w #[.int .i64 1800, .int .i64 1814] 30 1 _ rfl)
  have HBB : Hid (Below w.heap.size w w12) := (BJ.out n10).trans (((below_al _ _).trans (hb.mono (by simp))).mono (BJ.out n10).size)
  clear hb K2
  go_wp2_with fail
  go_ret
  exact ⟨rfl, HBB.out.trans ((below_al _ _).mono HBB.out.size)⟩
end Go.Proofs.YtcejmfgbfdhflaaGreat
