import Derived.Test.YtcejmfgbfdhflaaGreatEi
import Derived.Test.YtcejmfgbfdhflaaGreatEb
import Derived.WalkKit
import Derived.LoopTactic
import Derived.WalkSpells
import Derived.WalkLawsBesides
import Derived.Lib.Hide
import Derived.BigQuiet
import Derived.IntWalk
import Derived.Deep.DeepMust
import Derived.WalkSmall
import Derived.StillTailTactics
import Derived.Deep.RegionLaw
import Derived.Deep.RegionHeld3
import Derived.Deep.QuietTactic
namespace Go.Proofs.YtcejmfgbfdhflaaGreat
open Go.RowKit Go.BigFrame Go.Sort
attribute [local go_sem] World.cell?_alloc_some
/-- The first error of a measure. -/
def msE (x : WA) (m : Ms) : Int := if chk x ≠ 0 then chk x else if okMs x.cs m = false then 1 else 0
theorem dsE_eq (x : WA) (m : Ms) : dsE x m = if msE x m ≠ 0 then msE x m else agE x m.ch m.year := by
  unfold dsE msE
  by_cases h1 : chk x = 0
  · by_cases h2 : okMs x.cs m = false
    · simp [h1, h2]
    · simp [h1, h2]
  · simp [h1]
set_option maxRecDepth 100000 in
set_option maxHeartbeats 6400000 in
theorem rMeasured_any (x : WA) (p : Ms) (w : World) (h : x.At w) : Calls Tryz.prog 127 #[x.v, p.v] w fun e w' => e = .returned (.int .i64 (msE x p)) ∧ Below w.heap.size w w' := by
  have K1 := fun W (hb : Below w.heap.size w W) => rCheck_any x W (h.keep hb)
  have K2 := fun W (hb : Below w.heap.size w W) => chainAtD_any x p.ch W (h.keep hb)
  have H := Lib.hid h.cs
  have R1 := fun (lo : Int) W => rin_any p.year lo 4000 W
  have R2 := fun W => rin_any p.chains 0 100000 W
  have R3 := fun W => rin_any p.links 0 99 W
  have R4 := fun W => rin_any p.slack 0 100000 W
  have HSOME : Hid (∀ c, chF x.cs p.ch = some c → ∃ k : Nat, ∃ h : k < x.cs.length, atI x.cs p.ch = (k : Int) ∧ x.cs[k] = c) := fun c hc => atI_some hc
  have HNONE : Hid ((chF x.cs p.ch).isSome = false → atI x.cs p.ch = -1) := atI_none
  obtain ⟨E, hE⟩ : ∃ E, msE x p = E := ⟨_, rfl⟩
  rw [hE]
  unfold msE at hE
  obtain ⟨k, hk⟩ : ∃ E, chk x = E := ⟨_, rfl⟩
  obtain ⟨m, hm⟩ : ∃ E, atI x.cs p.ch = E := ⟨_, rfl⟩
  rw [hk] at hE
  rw [hm] at HNONE
  simp only [hm] at HSOME
  simp only [hk] at K1
  simp only [hm] at K2
  obtain ⟨x2, h2⟩ : ∃ b, inB 0 100000 p.chains = b := ⟨_, rfl⟩
  obtain ⟨x3, h3⟩ : ∃ b, inB 0 99 p.links = b := ⟨_, rfl⟩
  obtain ⟨x4, h4⟩ : ∃ b, inB 0 100000 p.slack = b := ⟨_, rfl⟩
  have HOK : Hid (∀ c, chF x.cs p.ch = some c → okMs x.cs p = (inB c.year 4000 p.year && (x2 && (x3 && x4)))) := fun c hc => by unfold okMs; rw [hc, chOr_some hc, h2, h3, h4]; rfl
  have HNO : Hid ((chF x.cs p.ch).isSome = false → okMs x.cs p = false) := fun e => by unfold okMs; rw [e]; rfl
  simp only [h2] at R2
  simp only [h3] at R3
  simp only [h4] at R4
  obtain ⟨z, hz⟩ : ∃ b, okMs x.cs p = b := ⟨_, rfl⟩
  rw [hz] at hE HNO
  simp only [hz] at HOK
  obtain ⟨o, ho⟩ : ∃ o, chF x.cs p.ch = o := ⟨_, rfl⟩
  rw [ho] at HNONE HNO
  simp only [ho] at HSOME HOK
  have HE := Lib.hid hE
  clear h hE hk hm h2 h3 h4 hz ho
  obtain ⟨cs, ps, rs, q1, q2, q3, c1, c2, c3⟩ := x
  obtain ⟨m1, m2, m3, m4, m5⟩ := p
  simp only [WA.v, Ms.v] at *
  go_enter Tryz.func127, Tryz.ntmps127
  go_upto_region 1 with fail
  obtain ⟨W0, hW0⟩ : ∃ W0, ((w).alloc (.cells #[.slice q1 cs.length c1, .slice q2 ps.length c2, .slice q3 rs.length c3] 26)).alloc (.cells #[.int .i64 (m1), .int .i64 (m2), .int .i64 (m3), .int .i64 (m4), .int .i64 (m5)] 73) = W0 := ⟨_, rfl⟩
  have S0 : St w W0 [(w.heap.size + 1, 0, .int .i64 (m1)), (w.heap.size + 1, 1, .int .i64 (m2)), (w.heap.size + 1, 2, .int .i64 (m3)), (w.heap.size + 1, 3, .int .i64 (m4)), (w.heap.size + 1, 4, .int .i64 (m5)), (w.heap.size, 0, .slice q1 cs.length c1), (w.heap.size, 1, .slice q2 ps.length c2), (w.heap.size, 2, .slice q3 rs.length c3)] := by rw [← hW0]; exact (((St.nil w)).box #[.slice q1 cs.length c1, .slice q2 ps.length c2, .slice q3 rs.length c3] 26 (w.heap.size) (by simp)).box #[.int .i64 (m1), .int .i64 (m2), .int .i64 (m3), .int .i64 (m4), .int .i64 (m5)] 73 (w.heap.size + 1) (by simp)
  rw [hW0]
  clear hW0
  obtain ⟨C, hC0, HC, LC, BC, hne⟩ := cls S0
  haveI := hne
  obtain ⟨c0, rfl⟩ : ∃ n : Wd C, W0 = n.w := ⟨⟨_, hC0⟩, rfl⟩
  have fC0 : ∀ n : Wd C, n.w.cell? ⟨w.heap.size + 1, 0, none⟩ = some (.int .i64 (m1)) := fun n => (LC.out n).1.2.1
  have fC1 : ∀ n : Wd C, n.w.cell? ⟨w.heap.size + 1, 1, none⟩ = some (.int .i64 (m2)) := fun n => (LC.out n).2.1.2.1
  have fC2 : ∀ n : Wd C, n.w.cell? ⟨w.heap.size + 1, 2, none⟩ = some (.int .i64 (m3)) := fun n => (LC.out n).2.2.1.2.1
  have fC3 : ∀ n : Wd C, n.w.cell? ⟨w.heap.size + 1, 3, none⟩ = some (.int .i64 (m4)) := fun n => (LC.out n).2.2.2.1.2.1
  have fC4 : ∀ n : Wd C, n.w.cell? ⟨w.heap.size + 1, 4, none⟩ = some (.int .i64 (m5)) := fun n => (LC.out n).2.2.2.2.1.2.1
  have fC5 : ∀ n : Wd C, n.w.cell? ⟨w.heap.size, 0, none⟩ = some (.slice q1 cs.length c1) := fun n => (LC.out n).2.2.2.2.2.1.2.1
  have fC6 : ∀ n : Wd C, n.w.cell? ⟨w.heap.size, 1, none⟩ = some (.slice q2 ps.length c2) := fun n => (LC.out n).2.2.2.2.2.2.1.2.1
  have fC7 : ∀ n : Wd C, n.w.cell? ⟨w.heap.size, 2, none⟩ = some (.slice q3 rs.length c3) := fun n => (LC.out n).2.2.2.2.2.2.2.1.2.1
  clear S0 hC0
  have D1 := cinL HC BC K1
  have D2 := cinL HC BC K2
  clear K1 K2
  by_cases hk0 : k = 0
  · subst hk0
    rw [if_neg (by simp)] at HE
    cases o with
    | none =>
      have hm1 := HNONE.out rfl
      have hz1 := HNO.out rfl
      subst hm1 hz1
      rw [if_pos rfl] at HE
      obtain rfl := HE.out
      go_upto_region 5 with (first | first | (go_at_call 24; with_reducible refine (D1 _).out.mono ?_; rintro e w' ⟨rfl, n, rfl⟩) | (go_at_call 71; with_reducible refine (D2 _).out.mono ?_; rintro e w' ⟨rfl, n, rfl⟩))
      refine wp_region_in C (HC.out _ _ (Wd.h _) (below_dr _)) (by kernel_rfl) (by kernel_rfl) ?_
      repeat (go_big_quiet_step (first | fail))
      refine wpQuiet_nil ?_
      intro wx hwx
      obtain ⟨n, rfl⟩ : ∃ n : Wd C, wx = n.w := ⟨⟨wx, hwx⟩, rfl⟩
      clear hwx
      go_wp2_with fail
      go_ret
      exact ⟨rfl, BC.out _⟩
    | some c =>
      obtain ⟨j, hj, hmj, hcj⟩ := HSOME.out c rfl
      have hok := HOK.out c rfl
      rcases H.out with h0 | ⟨b, o, he, hb, hcc⟩
      · exact absurd hj (by simp [show cs = [] from h0])
      obtain rfl : q1 = some ⟨b, o, none⟩ := he
      obtain ⟨-, d2, -⟩ := hcc j cs[j] (List.getElem?_eq_getElem hj)
      simp only [show cs[j] = c from hcj] at d2
      obtain ⟨i1, i2, i3, i4, i5⟩ := c
      simp only at d2 hok
      have R5 := R1 i2
      obtain ⟨x1, h1⟩ : ∃ b, inB i2 4000 m2 = b := ⟨_, rfl⟩
      simp only [h1] at R5
      rw [h1] at hok
      have fY1 : ∀ n : Wd C, n.w.cell? ⟨b, o + j * 5 + 1, none⟩ = some (.int .i64 i2) := fun n => ((BC.out n).cell (p := ⟨b, o + j * 5 + 1, none⟩) hb).trans d2
      have hj2 : (j : Int) < (cs.length : Int) := by omega
      have hj0 : ¬ (j : Int) < 0 := by omega
      have hj00 : decide ((j : Int) < 0) = false := by rw [decide_eq_false_iff_not]; omega
      subst hmj
      have D3 := csame (C := C) R5
      have D4 := csame (C := C) R2
      have D5 := csame (C := C) R3
      have D6 := csame (C := C) R4
      clear d2 hcc hb hcj h1 R5 R1 R2 R3 R4 HSOME HOK HNO HNONE
      go_upto_region 5 with (first | first | (go_at_call 24; with_reducible refine (D1 _).out.mono ?_; rintro e w' ⟨rfl, n, rfl⟩) | (go_at_call 71; with_reducible refine (D2 _).out.mono ?_; rintro e w' ⟨rfl, n, rfl⟩))
      cases x1
      · obtain rfl : z = false := hok
        rw [if_pos rfl] at HE
        obtain rfl := HE.out
        refine wp_region_in C (HC.out _ _ (Wd.h _) (below_dr _)) (by kernel_rfl) (by kernel_rfl) ?_
        repeat (go_big_quiet_step (first | with_reducible exact (D3 _).out))
        refine wpQuiet_nil ?_
        intro wx hwx
        obtain ⟨n, rfl⟩ : ∃ n : Wd C, wx = n.w := ⟨⟨wx, hwx⟩, rfl⟩
        clear hwx
        go_wp2_with fail
        go_ret
        exact ⟨rfl, BC.out _⟩
      cases x2
      · obtain rfl : z = false := hok
        rw [if_pos rfl] at HE
        obtain rfl := HE.out
        refine wp_region_in C (HC.out _ _ (Wd.h _) (below_dr _)) (by kernel_rfl) (by kernel_rfl) ?_
        repeat (go_big_quiet_step (first | with_reducible exact (D3 _).out | with_reducible exact (D4 _).out))
        refine wpQuiet_nil ?_
        intro wx hwx
        obtain ⟨n, rfl⟩ : ∃ n : Wd C, wx = n.w := ⟨⟨wx, hwx⟩, rfl⟩
        clear hwx
        go_wp2_with fail
        go_ret
        exact ⟨rfl, BC.out _⟩
      cases x3
      · obtain rfl : z = false := hok
        rw [if_pos rfl] at HE
        obtain rfl := HE.out
        refine wp_region_in C (HC.out _ _ (Wd.h _) (below_dr _)) (by kernel_rfl) (by kernel_rfl) ?_
        repeat (go_big_quiet_step (first | with_reducible exact (D3 _).out | with_reducible exact (D4 _).out | with_reducible exact (D5 _).out))
        refine wpQuiet_nil ?_
        intro wx hwx
        obtain ⟨n, rfl⟩ : ∃ n : Wd C, wx = n.w := ⟨⟨wx, hwx⟩, rfl⟩
        clear hwx
        go_wp2_with fail
        go_ret
        exact ⟨rfl, BC.out _⟩
      cases x4
      · obtain rfl : z = false := hok
        rw [if_pos rfl] at HE
        obtain rfl := HE.out
        refine wp_region_in C (HC.out _ _ (Wd.h _) (below_dr _)) (by kernel_rfl) (by kernel_rfl) ?_
        repeat (go_big_quiet_step (first | with_reducible exact (D3 _).out | with_reducible exact (D4 _).out | with_reducible exact (D5 _).out | with_reducible exact (D6 _).out))
        refine wpQuiet_nil ?_
        intro wx hwx
        obtain ⟨n, rfl⟩ : ∃ n : Wd C, wx = n.w := ⟨⟨wx, hwx⟩, rfl⟩
        clear hwx
        go_wp2_with fail
        go_ret
        exact ⟨rfl, BC.out _⟩
      · obtain rfl : z = true := hok
        rw [if_neg (by decide)] at HE
        obtain rfl := HE.out
        refine wp_region_in C (HC.out _ _ (Wd.h _) (below_dr _)) (by kernel_rfl) (by kernel_rfl) ?_
        repeat (go_big_quiet_step (first | with_reducible exact (D3 _).out | with_reducible exact (D4 _).out | with_reducible exact (D5 _).out | with_reducible exact (D6 _).out))
        refine wpQuiet_nil ?_
        intro wx hwx
        obtain ⟨n, rfl⟩ : ∃ n : Wd C, wx = n.w := ⟨⟨wx, hwx⟩, rfl⟩
        clear hwx
        go_wp2_with fail
        go_ret
        exact ⟨rfl, BC.out _⟩
  · have hb : (k != 0) = true := by simpa using hk0
    rw [if_pos hk0] at HE
    obtain rfl := HE.out
    clear hk0
    go_wp2_with (first | first | (go_at_call 24; with_reducible refine (D1 _).out.mono ?_; rintro e w' ⟨rfl, n, rfl⟩))
    go_ret
    exact ⟨rfl, BC.out _⟩
set_option maxRecDepth 100000 in
set_option maxHeartbeats 6400000 in
theorem rLinks_any (p : Ms) (lo hi : Int) (w : World) (h3 : 0 ≤ p.chains ∧ p.chains ≤ 100000) (h4 : 0 ≤ p.links ∧ p.links ≤ 99) (h5 : 0 ≤ p.slack ∧ p.slack ≤ 100000) (hl : 9000 ≤ lo ∧ lo ≤ 12000) (hh : 9000 ≤ hi ∧ hi ≤ 12000) :
    Calls Tryz.prog 128 #[p.v, spv lo hi] w fun e w' => e = .returned (spv (max 0 (lkN p - p.slack) * lo / 10000) (((lkN p + p.slack) * hi + 9999) / 10000)) ∧ Below w.heap.size w w' := by
  obtain ⟨m1, m2, m3, m4, m5⟩ := p
  simp only [Ms.v, lkN] at *
  have e1 := ds_lo h3 h4 h5 hl
  have g1 : 0 ≤ (100 * m3 + m4 + m5) * hi ∧ (100 * m3 + m4 + m5) * hi ≤ 10100099 * 12000 :=
    ⟨Int.mul_nonneg (by omega) (by omega), Int.mul_le_mul (by omega) hh.2 (by omega) (by decide)⟩
  have w1 : wrap64 (100 * m3) = 100 * m3 := w64 (by omega)
  have w2 : wrap64 (100 * m3 + m4) = 100 * m3 + m4 := w64 (by omega)
  have w3 : wrap64 (100 * m3 + m4 - m5) = 100 * m3 + m4 - m5 := w64 (by omega)
  have w4 : wrap64 (100 * m3 + m4 + m5) = 100 * m3 + m4 + m5 := w64 (by omega)
  have w5 : wrap64 ((100 * m3 + m4 + m5) * hi) = (100 * m3 + m4 + m5) * hi := w64 (by omega)
  have w6 : wrap64 ((100 * m3 + m4 + m5) * hi + 9999) = (100 * m3 + m4 + m5) * hi + 9999 := w64 (by omega)
  have w7 : wrap64 (((100 * m3 + m4 + m5) * hi + 9999).tdiv 10000) = ((100 * m3 + m4 + m5) * hi + 9999) / 10000 := by
    rw [Int.tdiv_eq_ediv_of_nonneg (by omega), w64 (by omega)]
  obtain ⟨R, hR⟩ : ∃ R, max 0 (100 * m3 + m4 - m5) * lo / 10000 = R := ⟨_, rfl⟩
  obtain ⟨S, hS⟩ : ∃ R, ((100 * m3 + m4 + m5) * hi + 9999) / 10000 = R := ⟨_, rfl⟩
  rw [hR] at e1 ⊢
  rw [hS] at w7 ⊢
  by_cases hc : m5 < 100 * m3 + m4
  · rw [show max 0 (100 * m3 + m4 - m5) = 100 * m3 + m4 - m5 from by omega] at e1
    have HF := Lib.hid (And.intro w3 (And.intro w4 (And.intro w5 (And.intro w6 (And.intro w7 e1)))))
    clear h3 h4 h5 hl hh e1 g1 w3 w4 w5 w6 w7 hR hS
    go_enter Tryz.func128, Tryz.ntmps128
    go_upto_region 1 with fail
    obtain ⟨W0, hW0⟩ : ∃ W0, (((w).alloc (.cells #[.int .i64 (m1), .int .i64 (m2), .int .i64 (m3), .int .i64 (m4), .int .i64 (m5)] 73)).alloc (.cells #[.int .i64 (lo), .int .i64 (hi)] 30)).alloc (.cells #[.int .i64 0, .int .i64 0] 30) = W0 := ⟨_, rfl⟩
    have S0 : St w W0 [(w.heap.size + 1 + 1, 0, .int .i64 0), (w.heap.size + 1 + 1, 1, .int .i64 0), (w.heap.size + 1, 0, .int .i64 (lo)), (w.heap.size + 1, 1, .int .i64 (hi)), (w.heap.size, 0, .int .i64 (m1)), (w.heap.size, 1, .int .i64 (m2)), (w.heap.size, 2, .int .i64 (m3)), (w.heap.size, 3, .int .i64 (m4)), (w.heap.size, 4, .int .i64 (m5))] := by rw [← hW0]; exact ((((St.nil w)).box #[.int .i64 (m1), .int .i64 (m2), .int .i64 (m3), .int .i64 (m4), .int .i64 (m5)] 73 (w.heap.size) (by simp)).box #[.int .i64 (lo), .int .i64 (hi)] 30 (w.heap.size + 1) (by simp)).box #[.int .i64 0, .int .i64 0] 30 (w.heap.size + 1 + 1) (by simp)
    rw [hW0]
    clear hW0
    obtain ⟨C, hC0, HC, LC, BC, hne⟩ := cls S0
    haveI := hne
    obtain ⟨c0, rfl⟩ : ∃ n : Wd C, W0 = n.w := ⟨⟨_, hC0⟩, rfl⟩
    have fC0 : ∀ n : Wd C, n.w.cell? ⟨w.heap.size + 1 + 1, 0, none⟩ = some (.int .i64 0) := fun n => (LC.out n).1.2.1
    have zC0 : ∀ n : Wd C, n.w.frozen? ⟨w.heap.size + 1 + 1, 0, none⟩ = false := fun n => (LC.out n).1.2.2
    have fC1 : ∀ n : Wd C, n.w.cell? ⟨w.heap.size + 1 + 1, 1, none⟩ = some (.int .i64 0) := fun n => (LC.out n).2.1.2.1
    have zC1 : ∀ n : Wd C, n.w.frozen? ⟨w.heap.size + 1 + 1, 1, none⟩ = false := fun n => (LC.out n).2.1.2.2
    have fC2 : ∀ n : Wd C, n.w.cell? ⟨w.heap.size + 1, 0, none⟩ = some (.int .i64 (lo)) := fun n => (LC.out n).2.2.1.2.1
    have fC3 : ∀ n : Wd C, n.w.cell? ⟨w.heap.size + 1, 1, none⟩ = some (.int .i64 (hi)) := fun n => (LC.out n).2.2.2.1.2.1
    have fC4 : ∀ n : Wd C, n.w.cell? ⟨w.heap.size, 0, none⟩ = some (.int .i64 (m1)) := fun n => (LC.out n).2.2.2.2.1.2.1
    have fC5 : ∀ n : Wd C, n.w.cell? ⟨w.heap.size, 1, none⟩ = some (.int .i64 (m2)) := fun n => (LC.out n).2.2.2.2.2.1.2.1
    have fC6 : ∀ n : Wd C, n.w.cell? ⟨w.heap.size, 2, none⟩ = some (.int .i64 (m3)) := fun n => (LC.out n).2.2.2.2.2.2.1.2.1
    have fC7 : ∀ n : Wd C, n.w.cell? ⟨w.heap.size, 3, none⟩ = some (.int .i64 (m4)) := fun n => (LC.out n).2.2.2.2.2.2.2.1.2.1
    have fC8 : ∀ n : Wd C, n.w.cell? ⟨w.heap.size, 4, none⟩ = some (.int .i64 (m5)) := fun n => (LC.out n).2.2.2.2.2.2.2.2.1.2.1
    clear S0 hC0
    go_upto_region 3 with fail
    obtain ⟨W0, hW0⟩ : ∃ W0, (c0.w).alloc (.cells #[.int .i64 0, .int .i64 0] 30) = W0 := ⟨_, rfl⟩
    have S0 : St w W0 [(c0.w.heap.size, 0, .int .i64 0), (c0.w.heap.size, 1, .int .i64 0), (w.heap.size + 1 + 1, 0, .int .i64 0), (w.heap.size + 1 + 1, 1, .int .i64 0), (w.heap.size + 1, 0, .int .i64 (lo)), (w.heap.size + 1, 1, .int .i64 (hi)), (w.heap.size, 0, .int .i64 (m1)), (w.heap.size, 1, .int .i64 (m2)), (w.heap.size, 2, .int .i64 (m3)), (w.heap.size, 3, .int .i64 (m4)), (w.heap.size, 4, .int .i64 (m5))] := by rw [← hW0]; exact ((⟨BC.out c0, LC.out c0⟩ : St w c0.w _)).box #[.int .i64 0, .int .i64 0] 30 (c0.w.heap.size) (by simp)
    rw [hW0]
    clear hW0
    obtain ⟨kD, hkk⟩ : ∃ k, c0.w.heap.size = k := ⟨_, rfl⟩
    have gkD : w.heap.size ≤ kD := by rw [← hkk]; exact (BC.out c0).size
    rw [hkk] at S0 ⊢
    have eD1 : kD ≠ w.heap.size + 1 + 1 := by have h := (LC.out c0).1.1; omega
    have dD1 : w.heap.size + 1 + 1 ≠ kD := Ne.symm eD1
    clear hkk
    obtain ⟨D, hC0, HD, LD, BD, hne⟩ := cls S0
    haveI := hne
    obtain ⟨d0, rfl⟩ : ∃ n : Wd D, W0 = n.w := ⟨⟨_, hC0⟩, rfl⟩
    have fD0 : ∀ n : Wd D, n.w.cell? ⟨kD, 0, none⟩ = some (.int .i64 0) := fun n => (LD.out n).1.2.1
    have zD0 : ∀ n : Wd D, n.w.frozen? ⟨kD, 0, none⟩ = false := fun n => (LD.out n).1.2.2
    have fD1 : ∀ n : Wd D, n.w.cell? ⟨kD, 1, none⟩ = some (.int .i64 0) := fun n => (LD.out n).2.1.2.1
    have zD1 : ∀ n : Wd D, n.w.frozen? ⟨kD, 1, none⟩ = false := fun n => (LD.out n).2.1.2.2
    have fD2 : ∀ n : Wd D, n.w.cell? ⟨w.heap.size + 1 + 1, 0, none⟩ = some (.int .i64 0) := fun n => (LD.out n).2.2.1.2.1
    have zD2 : ∀ n : Wd D, n.w.frozen? ⟨w.heap.size + 1 + 1, 0, none⟩ = false := fun n => (LD.out n).2.2.1.2.2
    have fD3 : ∀ n : Wd D, n.w.cell? ⟨w.heap.size + 1 + 1, 1, none⟩ = some (.int .i64 0) := fun n => (LD.out n).2.2.2.1.2.1
    have zD3 : ∀ n : Wd D, n.w.frozen? ⟨w.heap.size + 1 + 1, 1, none⟩ = false := fun n => (LD.out n).2.2.2.1.2.2
    have fD4 : ∀ n : Wd D, n.w.cell? ⟨w.heap.size + 1, 0, none⟩ = some (.int .i64 (lo)) := fun n => (LD.out n).2.2.2.2.1.2.1
    have fD5 : ∀ n : Wd D, n.w.cell? ⟨w.heap.size + 1, 1, none⟩ = some (.int .i64 (hi)) := fun n => (LD.out n).2.2.2.2.2.1.2.1
    have fD6 : ∀ n : Wd D, n.w.cell? ⟨w.heap.size, 0, none⟩ = some (.int .i64 (m1)) := fun n => (LD.out n).2.2.2.2.2.2.1.2.1
    have fD7 : ∀ n : Wd D, n.w.cell? ⟨w.heap.size, 1, none⟩ = some (.int .i64 (m2)) := fun n => (LD.out n).2.2.2.2.2.2.2.1.2.1
    have fD8 : ∀ n : Wd D, n.w.cell? ⟨w.heap.size, 2, none⟩ = some (.int .i64 (m3)) := fun n => (LD.out n).2.2.2.2.2.2.2.2.1.2.1
    have fD9 : ∀ n : Wd D, n.w.cell? ⟨w.heap.size, 3, none⟩ = some (.int .i64 (m4)) := fun n => (LD.out n).2.2.2.2.2.2.2.2.2.1.2.1
    have fD10 : ∀ n : Wd D, n.w.cell? ⟨w.heap.size, 4, none⟩ = some (.int .i64 (m5)) := fun n => (LD.out n).2.2.2.2.2.2.2.2.2.2.1.2.1
    clear S0 hC0
    have hsz : w.heap.size + 1 + 1 < d0.w.heap.size := (LD.out d0).2.2.1.1
    go_wp2_with fail
    refine bodyPost_ret (v := spv R S) (by obtain ⟨p1, p2, p3, p4, p5, p6⟩ := HF.out; simp [results, Tryz.results128, go_sem, fD2, fD3, p1, p2, p3, p4, p5, p6]) rfl ⟨rfl, ?_⟩
    exact below_grownB (below_grownB (BD.out d0) gkD (grown_trans (set_grown _ _ _ _) (set_grown _ _ _ _))) (by omega) (grown_trans (set_grown _ _ _ _) (set_grown _ _ _ _))
  · have HR0 : R = 0 := by rw [← hR, show max 0 (100 * m3 + m4 - m5) = 0 from by omega]; simp
    have HF := Lib.hid (And.intro w4 (And.intro w5 (And.intro w6 w7)))
    clear h3 h4 h5 hl hh e1 g1 w3 w4 w5 w6 w7 hR hS
    subst HR0
    go_enter Tryz.func128, Tryz.ntmps128
    go_upto_region 1 with fail
    obtain ⟨W0, hW0⟩ : ∃ W0, (((w).alloc (.cells #[.int .i64 (m1), .int .i64 (m2), .int .i64 (m3), .int .i64 (m4), .int .i64 (m5)] 73)).alloc (.cells #[.int .i64 (lo), .int .i64 (hi)] 30)).alloc (.cells #[.int .i64 0, .int .i64 0] 30) = W0 := ⟨_, rfl⟩
    have S0 : St w W0 [(w.heap.size + 1 + 1, 0, .int .i64 0), (w.heap.size + 1 + 1, 1, .int .i64 0), (w.heap.size + 1, 0, .int .i64 (lo)), (w.heap.size + 1, 1, .int .i64 (hi)), (w.heap.size, 0, .int .i64 (m1)), (w.heap.size, 1, .int .i64 (m2)), (w.heap.size, 2, .int .i64 (m3)), (w.heap.size, 3, .int .i64 (m4)), (w.heap.size, 4, .int .i64 (m5))] := by rw [← hW0]; exact ((((St.nil w)).box #[.int .i64 (m1), .int .i64 (m2), .int .i64 (m3), .int .i64 (m4), .int .i64 (m5)] 73 (w.heap.size) (by simp)).box #[.int .i64 (lo), .int .i64 (hi)] 30 (w.heap.size + 1) (by simp)).box #[.int .i64 0, .int .i64 0] 30 (w.heap.size + 1 + 1) (by simp)
    rw [hW0]
    clear hW0
    obtain ⟨C, hC0, HC, LC, BC, hne⟩ := cls S0
    haveI := hne
    obtain ⟨c0, rfl⟩ : ∃ n : Wd C, W0 = n.w := ⟨⟨_, hC0⟩, rfl⟩
    have fC0 : ∀ n : Wd C, n.w.cell? ⟨w.heap.size + 1 + 1, 0, none⟩ = some (.int .i64 0) := fun n => (LC.out n).1.2.1
    have zC0 : ∀ n : Wd C, n.w.frozen? ⟨w.heap.size + 1 + 1, 0, none⟩ = false := fun n => (LC.out n).1.2.2
    have fC1 : ∀ n : Wd C, n.w.cell? ⟨w.heap.size + 1 + 1, 1, none⟩ = some (.int .i64 0) := fun n => (LC.out n).2.1.2.1
    have zC1 : ∀ n : Wd C, n.w.frozen? ⟨w.heap.size + 1 + 1, 1, none⟩ = false := fun n => (LC.out n).2.1.2.2
    have fC2 : ∀ n : Wd C, n.w.cell? ⟨w.heap.size + 1, 0, none⟩ = some (.int .i64 (lo)) := fun n => (LC.out n).2.2.1.2.1
    have fC3 : ∀ n : Wd C, n.w.cell? ⟨w.heap.size + 1, 1, none⟩ = some (.int .i64 (hi)) := fun n => (LC.out n).2.2.2.1.2.1
    have fC4 : ∀ n : Wd C, n.w.cell? ⟨w.heap.size, 0, none⟩ = some (.int .i64 (m1)) := fun n => (LC.out n).2.2.2.2.1.2.1
    have fC5 : ∀ n : Wd C, n.w.cell? ⟨w.heap.size, 1, none⟩ = some (.int .i64 (m2)) := fun n => (LC.out n).2.2.2.2.2.1.2.1
    have fC6 : ∀ n : Wd C, n.w.cell? ⟨w.heap.size, 2, none⟩ = some (.int .i64 (m3)) := fun n => (LC.out n).2.2.2.2.2.2.1.2.1
    have fC7 : ∀ n : Wd C, n.w.cell? ⟨w.heap.size, 3, none⟩ = some (.int .i64 (m4)) := fun n => (LC.out n).2.2.2.2.2.2.2.1.2.1
    have fC8 : ∀ n : Wd C, n.w.cell? ⟨w.heap.size, 4, none⟩ = some (.int .i64 (m5)) := fun n => (LC.out n).2.2.2.2.2.2.2.2.1.2.1
    clear S0 hC0
    go_upto_region 3 with fail
    obtain ⟨W0, hW0⟩ : ∃ W0, (c0.w).alloc (.cells #[.int .i64 0, .int .i64 0] 30) = W0 := ⟨_, rfl⟩
    have S0 : St w W0 [(c0.w.heap.size, 0, .int .i64 0), (c0.w.heap.size, 1, .int .i64 0), (w.heap.size + 1 + 1, 0, .int .i64 0), (w.heap.size + 1 + 1, 1, .int .i64 0), (w.heap.size + 1, 0, .int .i64 (lo)), (w.heap.size + 1, 1, .int .i64 (hi)), (w.heap.size, 0, .int .i64 (m1)), (w.heap.size, 1, .int .i64 (m2)), (w.heap.size, 2, .int .i64 (m3)), (w.heap.size, 3, .int .i64 (m4)), (w.heap.size, 4, .int .i64 (m5))] := by rw [← hW0]; exact ((⟨BC.out c0, LC.out c0⟩ : St w c0.w _)).box #[.int .i64 0, .int .i64 0] 30 (c0.w.heap.size) (by simp)
    rw [hW0]
    clear hW0
    obtain ⟨kD, hkk⟩ : ∃ k, c0.w.heap.size = k := ⟨_, rfl⟩
    have gkD : w.heap.size ≤ kD := by rw [← hkk]; exact (BC.out c0).size
    rw [hkk] at S0 ⊢
    have eD1 : kD ≠ w.heap.size + 1 + 1 := by have h := (LC.out c0).1.1; omega
    have dD1 : w.heap.size + 1 + 1 ≠ kD := Ne.symm eD1
    clear hkk
    obtain ⟨D, hC0, HD, LD, BD, hne⟩ := cls S0
    haveI := hne
    obtain ⟨d0, rfl⟩ : ∃ n : Wd D, W0 = n.w := ⟨⟨_, hC0⟩, rfl⟩
    have fD0 : ∀ n : Wd D, n.w.cell? ⟨kD, 0, none⟩ = some (.int .i64 0) := fun n => (LD.out n).1.2.1
    have zD0 : ∀ n : Wd D, n.w.frozen? ⟨kD, 0, none⟩ = false := fun n => (LD.out n).1.2.2
    have fD1 : ∀ n : Wd D, n.w.cell? ⟨kD, 1, none⟩ = some (.int .i64 0) := fun n => (LD.out n).2.1.2.1
    have zD1 : ∀ n : Wd D, n.w.frozen? ⟨kD, 1, none⟩ = false := fun n => (LD.out n).2.1.2.2
    have fD2 : ∀ n : Wd D, n.w.cell? ⟨w.heap.size + 1 + 1, 0, none⟩ = some (.int .i64 0) := fun n => (LD.out n).2.2.1.2.1
    have zD2 : ∀ n : Wd D, n.w.frozen? ⟨w.heap.size + 1 + 1, 0, none⟩ = false := fun n => (LD.out n).2.2.1.2.2
    have fD3 : ∀ n : Wd D, n.w.cell? ⟨w.heap.size + 1 + 1, 1, none⟩ = some (.int .i64 0) := fun n => (LD.out n).2.2.2.1.2.1
    have zD3 : ∀ n : Wd D, n.w.frozen? ⟨w.heap.size + 1 + 1, 1, none⟩ = false := fun n => (LD.out n).2.2.2.1.2.2
    have fD4 : ∀ n : Wd D, n.w.cell? ⟨w.heap.size + 1, 0, none⟩ = some (.int .i64 (lo)) := fun n => (LD.out n).2.2.2.2.1.2.1
    have fD5 : ∀ n : Wd D, n.w.cell? ⟨w.heap.size + 1, 1, none⟩ = some (.int .i64 (hi)) := fun n => (LD.out n).2.2.2.2.2.1.2.1
    have fD6 : ∀ n : Wd D, n.w.cell? ⟨w.heap.size, 0, none⟩ = some (.int .i64 (m1)) := fun n => (LD.out n).2.2.2.2.2.2.1.2.1
    have fD7 : ∀ n : Wd D, n.w.cell? ⟨w.heap.size, 1, none⟩ = some (.int .i64 (m2)) := fun n => (LD.out n).2.2.2.2.2.2.2.1.2.1
    have fD8 : ∀ n : Wd D, n.w.cell? ⟨w.heap.size, 2, none⟩ = some (.int .i64 (m3)) := fun n => (LD.out n).2.2.2.2.2.2.2.2.1.2.1
    have fD9 : ∀ n : Wd D, n.w.cell? ⟨w.heap.size, 3, none⟩ = some (.int .i64 (m4)) := fun n => (LD.out n).2.2.2.2.2.2.2.2.2.1.2.1
    have fD10 : ∀ n : Wd D, n.w.cell? ⟨w.heap.size, 4, none⟩ = some (.int .i64 (m5)) := fun n => (LD.out n).2.2.2.2.2.2.2.2.2.2.1.2.1
    clear S0 hC0
    have hsz : w.heap.size + 1 + 1 < d0.w.heap.size := (LD.out d0).2.2.1.1
    go_wp2_with fail
    refine bodyPost_ret (v := spv 0 S) (by obtain ⟨p1, p2, p3, p4⟩ := HF.out; simp [results, Tryz.results128, go_sem, fD2, fD3, p1, p2, p3, p4]) rfl ⟨rfl, ?_⟩
    exact below_grownB (below_grownB (BD.out d0) gkD (set_grown _ _ _ _)) (by omega) (grown_trans (set_grown _ _ _ _) (set_grown _ _ _ _))
end Go.Proofs.YtcejmfgbfdhflaaGreat
