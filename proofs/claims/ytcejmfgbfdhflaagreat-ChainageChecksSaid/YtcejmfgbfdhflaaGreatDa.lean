import Derived.Test.YtcejmfgbfdhflaaGreatCr
import Derived.WalkKit
import Derived.LoopTactic
import Derived.WalkSpells
import Derived.WalkLawsBesides
import Derived.Lib.Hide
import Derived.BigQuiet
import Derived.IntWalk
import Derived.Deep.DeepMust
import Derived.WalkSmall
import Derived.StillTailTactics
import Derived.Deep.RegionLaw
import Derived.Deep.RegionHeld3
import Derived.Deep.QuietTactic
namespace Go.Proofs.YtcejmfgbfdhflaaGreat
open Go.RowKit Go.Shelf Go.BigFrame Go.Sort
attribute [local go_sem] World.cell?_alloc_some
theorem mxs_at : ∀ (l : List Int) (a : Int), mxs a l = a ∨ mxs a l ∈ l
  | [], a => .inl rfl
  | x :: l, a => by
    have h : mxs a (x :: l) = mxs (max a x) l := rfl
    rw [h]
    rcases mxs_at l (max a x) with e | e
    · rw [e]
      rcases Int.le_total a x with k | k
      · right; rw [Int.max_eq_right k]; exact List.mem_cons_self
      · left; rw [Int.max_eq_left k]
    · right; exact List.mem_cons_of_mem _ e
theorem mns_at : ∀ (l : List Int) (a : Int), mns a l = a ∨ mns a l ∈ l
  | [], a => .inl rfl
  | x :: l, a => by
    have h : mns a (x :: l) = mns (min a x) l := rfl
    rw [h]
    rcases mns_at l (min a x) with e | e
    · rw [e]
      rcases Int.le_total a x with k | k
      · left; rw [Int.min_eq_left k]
      · right; rw [Int.min_eq_right k]; exact List.mem_cons_self
    · right; exact List.mem_cons_of_mem _ e
def loNo (s : Spl) (y : Int) : Int := if lowS s y = 9000 then 0 else mnL ((s.ths.filter fun t => decide (lowT s.wear t y = lowS s y)).map (·.num))
def hiNo (s : Spl) (y : Int) : Int := if highS s y = 12000 then 0 else mnL ((s.ths.filter fun t => decide (highT s.wear t y = highS s y)).map (·.num))
def rsLo (x : WA) (ch y : Int) : Int := if agE x ch y = 0 then loNo (spO x (chOr x.cs ch) y) y else 0
def rsHi (x : WA) (ch y : Int) : Int := if agE x ch y = 0 then hiNo (spO x (chOr x.cs ch) y) y else 0
set_option maxRecDepth 100000 in
set_option maxHeartbeats 6400000 in
theorem Rests_any (x : WA) (ch y : Int) (w : World) (h : x.At w) :
    Calls Tryz.prog 32 #[x.v, .int .i64 ch, .int .i64 y] w fun e w' => e = .returned (.tuple #[.int .i64 (rsLo x ch y), .int .i64 (rsHi x ch y), .int .i64 (agE x ch y)]) ∧ Below w.heap.size w w' := by
  have K1 := fun W (hb : Below w.heap.size w W) => agreedIn_any x ch y W (h.keep hb)
  have HOK : Hid (agE x ch y = 0 → okS (spO x (chOr x.cs ch) y) = true ∧ 0 ≤ y ∧ y ≤ 4000) := fun e => spO_ok (agE_zero e).1
  obtain ⟨A, hA⟩ : ∃ A, rsLo x ch y = A := ⟨_, rfl⟩
  obtain ⟨B1, hB1⟩ : ∃ B, rsHi x ch y = B := ⟨_, rfl⟩
  obtain ⟨k, hk⟩ : ∃ k, agE x ch y = k := ⟨_, rfl⟩
  obtain ⟨c, hc⟩ : ∃ c, chOr x.cs ch = c := ⟨_, rfl⟩
  obtain ⟨s, hs⟩ : ∃ s, spO x c y = s := ⟨_, rfl⟩
  rw [hA, hB1]
  unfold rsLo at hA
  unfold rsHi at hB1
  rw [hk, hc, hs] at hA hB1 HOK
  simp only [hk, hc] at K1
  rw [hk]
  have HS := Lib.hid hs
  have HA := Lib.hid hA
  have HB1 := Lib.hid hB1
  clear h hk hc hA hB1
  obtain ⟨X, hX⟩ : ∃ X, x = X := ⟨_, rfl⟩
  rw [hX] at HS
  simp only [hX] at K1
  have K2 := K1
  rw [hX]
  clear K1 hX hs
  obtain ⟨cs, ps, rs, q1, q2, q3, c1, c2, c3⟩ := X
  simp only [WA.v] at K2 ⊢
  go_enter Tryz.func32, Tryz.ntmps32
  go_wp2_with fail
  obtain ⟨W0, hW0⟩ : ∃ W0, ((w).alloc (.cells #[.slice q1 cs.length c1, .slice q2 ps.length c2, .slice q3 rs.length c3] 26)).alloc (.cells #[.int .i64 y] 3) = W0 := ⟨_, rfl⟩
  have S0 : St w W0 [(w.heap.size + 1, 0, .int .i64 y), (w.heap.size, 0, .slice q1 cs.length c1), (w.heap.size, 1, .slice q2 ps.length c2), (w.heap.size, 2, .slice q3 rs.length c3)] := by rw [← hW0]; exact (((St.nil w)).box #[.slice q1 cs.length c1, .slice q2 ps.length c2, .slice q3 rs.length c3] 26 (w.heap.size) (by simp)).box #[.int .i64 y] 3 (w.heap.size + 1) (by simp)
  rw [hW0]
  clear hW0
  obtain ⟨C, hC0, HC, LC, BC, hne⟩ := cls S0
  haveI := hne
  obtain ⟨c0, rfl⟩ : ∃ n : Wd C, W0 = n.w := ⟨⟨_, hC0⟩, rfl⟩
  have fC0 : ∀ n : Wd C, n.w.cell? ⟨w.heap.size + 1, 0, none⟩ = some (.int .i64 y) := fun n => (LC.out n).1.2.1
  have fC1 : ∀ n : Wd C, n.w.cell? ⟨w.heap.size, 0, none⟩ = some (.slice q1 cs.length c1) := fun n => (LC.out n).2.1.2.1
  have fC2 : ∀ n : Wd C, n.w.cell? ⟨w.heap.size, 1, none⟩ = some (.slice q2 ps.length c2) := fun n => (LC.out n).2.2.1.2.1
  have fC3 : ∀ n : Wd C, n.w.cell? ⟨w.heap.size, 2, none⟩ = some (.slice q3 rs.length c3) := fun n => (LC.out n).2.2.2.1.2.1
  clear S0 hC0
  go_wp2_with fail
  refine (K2 _ (BC.out _)).mono ?_
  rintro e w1 ⟨⟨v, rfl, hv⟩, hb⟩
  have S1 : St w1 w1 [(w.heap.size + 1, 0, .int .i64 y), (w.heap.size, 0, .slice q1 cs.length c1), (w.heap.size, 1, .slice q2 ps.length c2), (w.heap.size, 2, .slice q3 rs.length c3)] := ⟨Below.refl _ _, (LC.out _).keep hb⟩
  have hW : Hid (Below w.heap.size w w1) := (BC.out _).trans (hb.mono (BC.out _).size)
  clear hb K2 HC BC fC0 fC1 fC2 fC3 hne
  obtain ⟨K, hC0, HK, LK, BK, hne⟩ := cls S1
  haveI := hne
  obtain ⟨k0, rfl⟩ : ∃ n : Wd K, w1 = n.w := ⟨⟨_, hC0⟩, rfl⟩
  have fK0 : ∀ n : Wd K, n.w.cell? ⟨w.heap.size + 1, 0, none⟩ = some (.int .i64 y) := fun n => (LK.out n).1.2.1
  have fK1 : ∀ n : Wd K, n.w.cell? ⟨w.heap.size, 0, none⟩ = some (.slice q1 cs.length c1) := fun n => (LK.out n).2.1.2.1
  have fK2 : ∀ n : Wd K, n.w.cell? ⟨w.heap.size, 1, none⟩ = some (.slice q2 ps.length c2) := fun n => (LK.out n).2.2.1.2.1
  have fK3 : ∀ n : Wd K, n.w.cell? ⟨w.heap.size, 2, none⟩ = some (.slice q3 rs.length c3) := fun n => (LK.out n).2.2.2.1.2.1
  clear S1 hC0
  by_cases hk0 : k = 0
  · subst hk0
    obtain ⟨sv, rfl, hsv, hth, hcap, hcm⟩ := hv.ok rfl
    obtain ⟨hok, hy⟩ := HOK.out rfl
    have hss : sv.s = s := hsv.trans HS.out
    rw [← hss] at hok HA HB1
    rw [if_pos rfl] at HA HB1
    have CA := fun W (hb : Below k0.w.heap.size k0.w W) => long_any sv.s sv.q sv.cap y W hok hy (hth.ths.keep hb)
    have CL := fun S Y L W (hb : Below k0.w.heap.size k0.w W) h1 h2 h3 h4 => leastNo103_any sv.s sv.q sv.cap y (lowS sv.s y) (highS sv.s y) S Y L W hok hcap hcm hy (hth.ths.keep hb) h1 h2 h3 h4
    have CH := fun S Y L W (hb : Below k0.w.heap.size k0.w W) h1 h2 h3 h4 => leastNo105_any sv.s sv.q sv.cap y (lowS sv.s y) (highS sv.s y) S Y L W hok hcap hcm hy (hth.ths.keep hb) h1 h2 h3 h4
    have X1 : Hid (lowS sv.s y ≠ 9000 → ∃ t ∈ sv.s.ths, lowT sv.s.wear t y = lowS sv.s y) := fun e => by
      rcases mxs_at (sv.s.ths.map fun t => lowT sv.s.wear t y) 9000 with k | k
      · exact absurd k e
      · obtain ⟨t, ht, he⟩ := List.mem_map.1 k
        exact ⟨t, ht, he⟩
    have X2 : Hid (highS sv.s y ≠ 12000 → ∃ t ∈ sv.s.ths, highT sv.s.wear t y = highS sv.s y) := fun e => by
      rcases mns_at (sv.s.ths.map fun t => highT sv.s.wear t y) 12000 with k | k
      · exact absurd k e
      · obtain ⟨t, ht, he⟩ := List.mem_map.1 k
        exact ⟨t, ht, he⟩
    unfold loNo at HA
    unfold hiNo at HB1
    obtain ⟨⟨slo, shi, swe, sth⟩, sq, sc⟩ := sv
    obtain ⟨a, ha⟩ : ∃ a, lowS ⟨slo, shi, swe, sth⟩ y = a := ⟨_, rfl⟩
    obtain ⟨b, hb⟩ : ∃ b, highS ⟨slo, shi, swe, sth⟩ y = b := ⟨_, rfl⟩
    simp only [SV.v, Spl.v] at CA CL CH HA HB1 X1 X2 ⊢
    simp only [ha, hb] at CA CL CH HA HB1 X1 X2
    obtain ⟨M1, hM1⟩ : ∃ M, mnL ((sth.filter fun t => decide (lowT swe t y = a)).map (·.num)) = M := ⟨_, rfl⟩
    obtain ⟨M2, hM2⟩ : ∃ M, mnL ((sth.filter fun t => decide (highT swe t y = b)).map (·.num)) = M := ⟨_, rfl⟩
    simp only [hM1] at CL HA
    simp only [hM2] at CH HB1
    have HCL := Lib.hid CL
    have HCH := Lib.hid CH
    clear hsv hth hcap hcm hok hv HOK hss hM1 hM2 ha hb CL CH hy
    go_upto_region 2 with fail
    obtain ⟨W0, hW0⟩ : ∃ W0, (k0.w).alloc (.cells #[.int .i64 slo, .int .i64 shi, .int .i64 swe, .slice sq sth.length sc] 111) = W0 := ⟨_, rfl⟩
    have S0 : St k0.w W0 [(k0.w.heap.size, 0, .int .i64 slo), (k0.w.heap.size, 1, .int .i64 shi), (k0.w.heap.size, 2, .int .i64 swe), (k0.w.heap.size, 3, .slice sq sth.length sc), (w.heap.size + 1, 0, .int .i64 y), (w.heap.size, 0, .slice q1 cs.length c1), (w.heap.size, 1, .slice q2 ps.length c2), (w.heap.size, 2, .slice q3 rs.length c3)] := by rw [← hW0]; exact ((⟨BK.out k0, LK.out k0⟩ : St k0.w k0.w _)).box #[.int .i64 slo, .int .i64 shi, .int .i64 swe, .slice sq sth.length sc] 111 (k0.w.heap.size) (by simp)
    rw [hW0]
    clear hW0
    obtain ⟨kD, hkk⟩ : ∃ k, k0.w.heap.size = k := ⟨_, rfl⟩
    have gkD : k0.w.heap.size ≤ kD := by rw [← hkk]; exact (BK.out k0).size
    rw [hkk] at S0 ⊢
    clear hkk
    obtain ⟨D, hC0, HD, LD, BD, hne⟩ := cls S0
    haveI := hne
    obtain ⟨d0, rfl⟩ : ∃ n : Wd D, W0 = n.w := ⟨⟨_, hC0⟩, rfl⟩
    have fD0 : ∀ n : Wd D, n.w.cell? ⟨kD, 0, none⟩ = some (.int .i64 slo) := fun n => (LD.out n).1.2.1
    have fD1 : ∀ n : Wd D, n.w.cell? ⟨kD, 1, none⟩ = some (.int .i64 shi) := fun n => (LD.out n).2.1.2.1
    have fD2 : ∀ n : Wd D, n.w.cell? ⟨kD, 2, none⟩ = some (.int .i64 swe) := fun n => (LD.out n).2.2.1.2.1
    have fD3 : ∀ n : Wd D, n.w.cell? ⟨kD, 3, none⟩ = some (.slice sq sth.length sc) := fun n => (LD.out n).2.2.2.1.2.1
    have fD4 : ∀ n : Wd D, n.w.cell? ⟨w.heap.size + 1, 0, none⟩ = some (.int .i64 y) := fun n => (LD.out n).2.2.2.2.1.2.1
    have fD5 : ∀ n : Wd D, n.w.cell? ⟨w.heap.size, 0, none⟩ = some (.slice q1 cs.length c1) := fun n => (LD.out n).2.2.2.2.2.1.2.1
    have fD6 : ∀ n : Wd D, n.w.cell? ⟨w.heap.size, 1, none⟩ = some (.slice q2 ps.length c2) := fun n => (LD.out n).2.2.2.2.2.2.1.2.1
    have fD7 : ∀ n : Wd D, n.w.cell? ⟨w.heap.size, 2, none⟩ = some (.slice q3 rs.length c3) := fun n => (LD.out n).2.2.2.2.2.2.2.1.2.1
    clear S0 hC0
    have E1 := cinL HD BD CA
    clear CA
    go_wp2_with fail
    refine (E1 _).out.mono ?_
    rintro e w' ⟨rfl, n, rfl⟩
    clear E1
    go_upto_region 5 with fail
    obtain ⟨W0, hW0⟩ : ∃ W0, (n.w).alloc (.cells #[.int .i64 a, .int .i64 b] 30) = W0 := ⟨_, rfl⟩
    have S0 : St k0.w W0 [(n.w.heap.size, 0, .int .i64 a), (n.w.heap.size, 1, .int .i64 b), (kD, 0, .int .i64 slo), (kD, 1, .int .i64 shi), (kD, 2, .int .i64 swe), (kD, 3, .slice sq sth.length sc), (w.heap.size + 1, 0, .int .i64 y), (w.heap.size, 0, .slice q1 cs.length c1), (w.heap.size, 1, .slice q2 ps.length c2), (w.heap.size, 2, .slice q3 rs.length c3)] := by rw [← hW0]; exact ((⟨BD.out n, LD.out n⟩ : St k0.w n.w _)).box #[.int .i64 a, .int .i64 b] 30 (n.w.heap.size) (by simp)
    rw [hW0]
    clear hW0
    obtain ⟨kF, hkk⟩ : ∃ k, n.w.heap.size = k := ⟨_, rfl⟩
    have gkF : k0.w.heap.size ≤ kF := by rw [← hkk]; exact (BD.out n).size
    rw [hkk] at S0 ⊢
    clear hkk
    obtain ⟨F, hC0, HF, LF, BF, hne⟩ := cls S0
    haveI := hne
    obtain ⟨f0, rfl⟩ : ∃ n : Wd F, W0 = n.w := ⟨⟨_, hC0⟩, rfl⟩
    have fF0 : ∀ n : Wd F, n.w.cell? ⟨kF, 0, none⟩ = some (.int .i64 a) := fun n => (LF.out n).1.2.1
    have fF1 : ∀ n : Wd F, n.w.cell? ⟨kF, 1, none⟩ = some (.int .i64 b) := fun n => (LF.out n).2.1.2.1
    have fF2 : ∀ n : Wd F, n.w.cell? ⟨kD, 0, none⟩ = some (.int .i64 slo) := fun n => (LF.out n).2.2.1.2.1
    have fF3 : ∀ n : Wd F, n.w.cell? ⟨kD, 1, none⟩ = some (.int .i64 shi) := fun n => (LF.out n).2.2.2.1.2.1
    have fF4 : ∀ n : Wd F, n.w.cell? ⟨kD, 2, none⟩ = some (.int .i64 swe) := fun n => (LF.out n).2.2.2.2.1.2.1
    have fF5 : ∀ n : Wd F, n.w.cell? ⟨kD, 3, none⟩ = some (.slice sq sth.length sc) := fun n => (LF.out n).2.2.2.2.2.1.2.1
    have fF6 : ∀ n : Wd F, n.w.cell? ⟨w.heap.size + 1, 0, none⟩ = some (.int .i64 y) := fun n => (LF.out n).2.2.2.2.2.2.1.2.1
    have fF7 : ∀ n : Wd F, n.w.cell? ⟨w.heap.size, 0, none⟩ = some (.slice q1 cs.length c1) := fun n => (LF.out n).2.2.2.2.2.2.2.1.2.1
    have fF8 : ∀ n : Wd F, n.w.cell? ⟨w.heap.size, 1, none⟩ = some (.slice q2 ps.length c2) := fun n => (LF.out n).2.2.2.2.2.2.2.2.1.2.1
    have fF9 : ∀ n : Wd F, n.w.cell? ⟨w.heap.size, 2, none⟩ = some (.slice q3 rs.length c3) := fun n => (LF.out n).2.2.2.2.2.2.2.2.2.1.2.1
    clear S0 hC0
    have HWB : Hid (∀ n : Wd F, Below w.heap.size w n.w) := fun n => hW.out.trans ((BF.out n).mono hW.out.size)
    have GL : ∀ n : Wd F, a ≠ 9000 → Hid (Calls Tryz.prog 102 #[.agg #[.int .i64 slo, .int .i64 shi, .int .i64 swe, .slice sq sth.length sc], .func (.func 103) #[] #[.pointer (some ⟨kD, 0, none⟩), .pointer (some ⟨w.heap.size + 1, 0, none⟩), .pointer (some ⟨kF, 0, none⟩)]] n.w fun e w'' => e = .returned (.int .i64 M1) ∧ ∃ m : Wd F, w'' = m.w) := fun n e => by
      obtain ⟨l1, l2, l3, l4, l5, l6, l7, -⟩ := LF.out n
      exact Calls.quiet_in (C := F) ((HCL.out kD (w.heap.size + 1) kF n.w (BF.out n) ⟨l3, l4, l5, l6, trivial⟩ ⟨l7, trivial⟩ ⟨l1, l2, trivial⟩ (X1.out e)).mono fun _ _ h => ⟨h.1, HF.out _ _ n.h h.2⟩)
    have GH : ∀ n : Wd F, b ≠ 12000 → Hid (Calls Tryz.prog 102 #[.agg #[.int .i64 slo, .int .i64 shi, .int .i64 swe, .slice sq sth.length sc], .func (.func 105) #[] #[.pointer (some ⟨kD, 0, none⟩), .pointer (some ⟨w.heap.size + 1, 0, none⟩), .pointer (some ⟨kF, 0, none⟩)]] n.w fun e w'' => e = .returned (.int .i64 M2) ∧ ∃ m : Wd F, w'' = m.w) := fun n e => by
      obtain ⟨l1, l2, l3, l4, l5, l6, l7, -⟩ := LF.out n
      exact Calls.quiet_in (C := F) ((HCH.out kD (w.heap.size + 1) kF n.w (BF.out n) ⟨l3, l4, l5, l6, trivial⟩ ⟨l7, trivial⟩ ⟨l1, l2, trivial⟩ (X2.out e)).mono fun _ _ h => ⟨h.1, HF.out _ _ n.h h.2⟩)
    by_cases ea : a = 9000
    · rw [if_pos ea] at HA
      obtain rfl : 0 = A := HA.out
      have ba : (a != 9000) = false := by simpa using ea
      clear GL ea
      by_cases eb : b = 12000
      · rw [if_pos eb] at HB1
        obtain rfl : 0 = B1 := HB1.out
        have bb : (b != 12000) = false := by simpa using eb
        clear GH eb
        go_wp2_with fail
        refine bodyPost_ret (v := .tuple #[.int .i64 0, .int .i64 0, .int .i64 0]) (by simp [results, Tryz.results32, go_sem]) rfl ⟨rfl, HWB.out _⟩
      · rw [if_neg eb] at HB1
        obtain rfl : M2 = B1 := HB1.out
        have bb : (b != 12000) = true := by simpa using eb
        have G2 := fun n => GH n eb
        clear GH eb
        go_wp2_with (go_at_call 102; with_reducible refine (G2 _).out.mono ?_; rintro e w' ⟨rfl, n, rfl⟩)
        refine bodyPost_ret (v := .tuple #[.int .i64 0, .int .i64 M2, .int .i64 0]) (by simp [results, Tryz.results32, go_sem]) rfl ⟨rfl, HWB.out _⟩
    · rw [if_neg ea] at HA
      obtain rfl : M1 = A := HA.out
      have ba : (a != 9000) = true := by simpa using ea
      have G1 := fun n => GL n ea
      clear GL ea
      by_cases eb : b = 12000
      · rw [if_pos eb] at HB1
        obtain rfl : 0 = B1 := HB1.out
        have bb : (b != 12000) = false := by simpa using eb
        clear GH eb
        go_wp2_with (go_at_call 102; with_reducible refine (G1 _).out.mono ?_; rintro e w' ⟨rfl, n, rfl⟩)
        refine bodyPost_ret (v := .tuple #[.int .i64 M1, .int .i64 0, .int .i64 0]) (by simp [results, Tryz.results32, go_sem]) rfl ⟨rfl, HWB.out _⟩
      · rw [if_neg eb] at HB1
        obtain rfl : M2 = B1 := HB1.out
        have bb : (b != 12000) = true := by simpa using eb
        have G2 := fun n => GH n eb
        clear GH eb
        go_wp2_with (first | (go_at_call 102; with_reducible refine (G1 _).out.mono ?_; rintro e w' ⟨rfl, n, rfl⟩) | (go_at_call 102; with_reducible refine (G2 _).out.mono ?_; rintro e w' ⟨rfl, n, rfl⟩))
        refine bodyPost_ret (v := .tuple #[.int .i64 M1, .int .i64 M2, .int .i64 0]) (by simp [results, Tryz.results32, go_sem]) rfl ⟨rfl, HWB.out _⟩
  · have hb : (k != 0) = true := by simpa using hk0
    rw [if_neg hk0] at HA HB1
    obtain rfl : 0 = A := HA.out
    obtain rfl : 0 = B1 := HB1.out
    obtain rfl := hv.no hk0
    clear hk0 hv
    go_upto_region 2 with fail
    obtain ⟨W0, hW0⟩ : ∃ W0, (k0.w).alloc (.cells #[.int .i64 0, .int .i64 0, .int .i64 0, .slice none 0 0] 111) = W0 := ⟨_, rfl⟩
    have S0 : St k0.w W0 [(k0.w.heap.size, 0, .int .i64 0), (k0.w.heap.size, 1, .int .i64 0), (k0.w.heap.size, 2, .int .i64 0), (k0.w.heap.size, 3, .slice none 0 0), (w.heap.size + 1, 0, .int .i64 y), (w.heap.size, 0, .slice q1 cs.length c1), (w.heap.size, 1, .slice q2 ps.length c2), (w.heap.size, 2, .slice q3 rs.length c3)] := by rw [← hW0]; exact ((⟨BK.out k0, LK.out k0⟩ : St k0.w k0.w _)).box #[.int .i64 0, .int .i64 0, .int .i64 0, .slice none 0 0] 111 (k0.w.heap.size) (by simp)
    rw [hW0]
    clear hW0
    obtain ⟨kD, hkk⟩ : ∃ k, k0.w.heap.size = k := ⟨_, rfl⟩
    have gkD : k0.w.heap.size ≤ kD := by rw [← hkk]; exact (BK.out k0).size
    rw [hkk] at S0 ⊢
    clear hkk
    obtain ⟨D, hC0, HD, LD, BD, hne⟩ := cls S0
    haveI := hne
    obtain ⟨d0, rfl⟩ : ∃ n : Wd D, W0 = n.w := ⟨⟨_, hC0⟩, rfl⟩
    have fD0 : ∀ n : Wd D, n.w.cell? ⟨kD, 0, none⟩ = some (.int .i64 0) := fun n => (LD.out n).1.2.1
    have fD1 : ∀ n : Wd D, n.w.cell? ⟨kD, 1, none⟩ = some (.int .i64 0) := fun n => (LD.out n).2.1.2.1
    have fD2 : ∀ n : Wd D, n.w.cell? ⟨kD, 2, none⟩ = some (.int .i64 0) := fun n => (LD.out n).2.2.1.2.1
    have fD3 : ∀ n : Wd D, n.w.cell? ⟨kD, 3, none⟩ = some (.slice none 0 0) := fun n => (LD.out n).2.2.2.1.2.1
    have fD4 : ∀ n : Wd D, n.w.cell? ⟨w.heap.size + 1, 0, none⟩ = some (.int .i64 y) := fun n => (LD.out n).2.2.2.2.1.2.1
    have fD5 : ∀ n : Wd D, n.w.cell? ⟨w.heap.size, 0, none⟩ = some (.slice q1 cs.length c1) := fun n => (LD.out n).2.2.2.2.2.1.2.1
    have fD6 : ∀ n : Wd D, n.w.cell? ⟨w.heap.size, 1, none⟩ = some (.slice q2 ps.length c2) := fun n => (LD.out n).2.2.2.2.2.2.1.2.1
    have fD7 : ∀ n : Wd D, n.w.cell? ⟨w.heap.size, 2, none⟩ = some (.slice q3 rs.length c3) := fun n => (LD.out n).2.2.2.2.2.2.2.1.2.1
    clear S0 hC0
    have HWB : Hid (Below w.heap.size w d0.w) := hW.out.trans ((BD.out d0).mono hW.out.size)
    go_wp2_with fail
    refine bodyPost_ret (v := .tuple #[.int .i64 0, .int .i64 0, .int .i64 k]) (by simp [results, Tryz.results32, go_sem]) rfl ⟨rfl, HWB.out⟩
end Go.Proofs.YtcejmfgbfdhflaaGreat
