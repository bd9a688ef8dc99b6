import Derived.Test.YtcejmfgbfdhflaaGreatFk
import Derived.Test.YtcejmfgbfdhflaaGreatQe
import Derived.Test.YtcejmfgbfdhflaaGreatQd
import Derived.WalkKit
import Derived.LoopTactic
import Derived.WalkSpells
import Derived.WalkLawsBesides
import Derived.Lib.Hide
import Derived.BigQuiet
import Derived.IntWalk
import Derived.Deep.DeepMust
import Derived.WalkSmall
import Derived.StillTailTactics
import Derived.Deep.RegionLaw
import Derived.Deep.RegionHeld3
import Derived.Deep.QuietTactic
namespace Go.Proofs.YtcejmfgbfdhflaaGreat
open Go.RowKit Go.BigFrame Go.Sort Go.Shelf
attribute [local go_sem] World.cell?_alloc_some
theorem LnRes.sh {E ch lo : Int} {l : List Int} {B : Nat} {W : World} {v : Value} (h : LnRes E ch lo l B W v) :
    ∃ q c, v = .agg #[.int .i64 (if E = 0 then ch else 0), .int .i64 (if E = 0 then lo else 0), .slice q (if E = 0 then l else []).length c] ∧ IntsAt W q (if E = 0 then l else []) := by
  by_cases hE : E = 0
  · obtain ⟨u, rfl, hO⟩ := h.ok hE
    obtain ⟨q, c, rfl, hI, -⟩ := OI.ints hO
    simp only [if_pos hE]
    exact ⟨q, c, rfl, hI⟩
  · simp only [if_neg hE]
    exact ⟨none, 0, h.no hE, .inl rfl⟩
theorem WnRes.sh {E ch lo : Int} {l : List Int} {B : Nat} {W : World} {v : Value} (h : WnRes E ch lo l B W v) :
    ∃ q c, v = .agg #[.int .i64 (if E = 0 then ch else 0), .int .i64 (if E = 0 then lo else 0), .slice q (if E = 0 then l else []).length c, .int .i64 E] ∧ IntsAt W q (if E = 0 then l else []) := by
  by_cases hE : E = 0
  · obtain ⟨u, rfl, hO⟩ := h.ok hE
    obtain ⟨q, c, rfl, hI, -⟩ := OI.ints hO
    simp only [if_pos hE]
    rw [hE]
    exact ⟨q, c, rfl, hI⟩
  · simp only [if_neg hE]
    exact ⟨none, 0, h.no hE, .inl rfl⟩
theorem lnL_len {g : Spl → Int → Int} {x : WA} {ch lo hi : Int} {c : Ch} : (if alE x ch lo hi = 0 then lnL g x c lo hi else []).length ≤ 1000000 := by
  by_cases hE : alE x ch lo hi = 0
  · obtain ⟨-, -, ⟨y1, y2, y3, y4, y5⟩, -⟩ := alE_zero hE
    rw [if_pos hE]
    unfold lnL yrs
    simp
    omega
  · rw [if_neg hE]; simp
set_option maxRecDepth 100000 in
set_option maxHeartbeats 12800000 in
theorem chainageSpans_law (x : WA) (ch lo hi : Int) (w : World) (n1 : x.cs.length ≤ 140737488355327) (n2 : x.ps.length ≤ 140737488355327) (n3 : x.rs.length ≤ 140737488355327) (h : fewB x = true → x.At w) :
    Calls Tryz.prog 8 #[x.v, .int .i64 ch, spv lo hi] w fun e w' => e = .returned (.bool true) ∧ Below w.heap.size w w' := by
  have K1 := fun W => few_any x W n1 n2 n3
  have KS9 := fun W => sanity_any W
  obtain ⟨E, hE⟩ : ∃ E, alE x ch lo hi = E := ⟨_, rfl⟩
  obtain ⟨L1, hL1⟩ : ∃ L, (if alE x ch lo hi = 0 then lnL lowS x (chOr x.cs ch) lo hi else []) = L := ⟨_, rfl⟩
  obtain ⟨L2, hL2⟩ : ∃ L, (if alE x ch lo hi = 0 then lnL highS x (chOr x.cs ch) lo hi else []) = L := ⟨_, rfl⟩
  have HL1 : Hid (L1.length ≤ 1000000) := by rw [← hL1]; exact lnL_len
  have HL2 : Hid (L2.length ≤ 1000000) := by rw [← hL2]; exact lnL_len
  rw [hE] at hL1 hL2
  obtain ⟨a, ha⟩ : ∃ a, (if E = 0 then ch else 0) = a := ⟨_, rfl⟩
  obtain ⟨b, hb⟩ : ∃ a, (if E = 0 then lo else 0) = a := ⟨_, rfl⟩
  have KA : fewB x = true → ∀ W, Below w.heap.size w W → Calls Tryz.prog 43 #[x.v, .int .i64 ch, spv lo hi] W fun e w' => (∃ q c, e = .returned (.tuple #[.agg #[.int .i64 a, .int .i64 b, .slice q L1.length c], .int .i64 E]) ∧ IntsAt w' q L1) ∧ Below W.heap.size W w' := fun e0 W hW => (Shortest_any x ch lo hi W ((h e0).keep hW)).mono (by
    rintro e w' ⟨⟨v, rfl, hv⟩, hb2⟩
    obtain ⟨q, c, rfl, hI⟩ := hv.sh
    rw [hE, hL1] at hI
    rw [hE, hL1, ha, hb]
    exact ⟨⟨q, c, rfl, hI⟩, hb2⟩)
  have KB : fewB x = true → ∀ W, Below w.heap.size w W → Calls Tryz.prog 44 #[x.v, .int .i64 ch, spv lo hi] W fun e w' => (∃ q c, e = .returned (.agg #[.int .i64 a, .int .i64 b, .slice q L1.length c, .int .i64 E]) ∧ IntsAt w' q L1) ∧ Below W.heap.size W w' := fun e0 W hW => (rShortest_any x ch lo hi W ((h e0).keep hW)).mono (by
    rintro e w' ⟨⟨v, rfl, hv⟩, hb2⟩
    obtain ⟨q, c, rfl, hI⟩ := hv.sh
    rw [hE, hL1] at hI
    rw [hE, hL1, ha, hb]
    exact ⟨⟨q, c, rfl, hI⟩, hb2⟩)
  have KC : fewB x = true → ∀ W, Below w.heap.size w W → Calls Tryz.prog 45 #[x.v, .int .i64 ch, spv lo hi] W fun e w' => (∃ q c, e = .returned (.tuple #[.agg #[.int .i64 a, .int .i64 b, .slice q L2.length c], .int .i64 E]) ∧ IntsAt w' q L2) ∧ Below W.heap.size W w' := fun e0 W hW => (Longest_any x ch lo hi W ((h e0).keep hW)).mono (by
    rintro e w' ⟨⟨v, rfl, hv⟩, hb2⟩
    obtain ⟨q, c, rfl, hI⟩ := hv.sh
    rw [hE, hL2] at hI
    rw [hE, hL2, ha, hb]
    exact ⟨⟨q, c, rfl, hI⟩, hb2⟩)
  have KD : fewB x = true → ∀ W, Below w.heap.size w W → Calls Tryz.prog 46 #[x.v, .int .i64 ch, spv lo hi] W fun e w' => (∃ q c, e = .returned (.agg #[.int .i64 a, .int .i64 b, .slice q L2.length c, .int .i64 E]) ∧ IntsAt w' q L2) ∧ Below W.heap.size W w' := fun e0 W hW => (rLongest_any x ch lo hi W ((h e0).keep hW)).mono (by
    rintro e w' ⟨⟨v, rfl, hv⟩, hb2⟩
    obtain ⟨q, c, rfl, hI⟩ := hv.sh
    rw [hE, hL2] at hI
    rw [hE, hL2, ha, hb]
    exact ⟨⟨q, c, rfl, hI⟩, hb2⟩)
  obtain ⟨z, hz⟩ : ∃ z, fewB x = z := ⟨_, rfl⟩
  simp only [hz] at K1 KA KB KC KD
  clear h hz hE hL1 hL2 ha hb n1
  obtain ⟨cs, ps, rs, q1, q2, q3, c1, c2, c3⟩ := x
  simp only [WA.v] at *
  have hw : wrap64 ((ps.length : Int) + (rs.length : Int)) = (ps.length : Int) + (rs.length : Int) := w64 (by omega)
  go_enter Tryz.func8, Tryz.ntmps8
  go_upto_region 1 with fail
  obtain ⟨W0, hW0⟩ : ∃ W0, ((w).alloc (.cells #[.slice q1 cs.length c1, .slice q2 ps.length c2, .slice q3 rs.length c3] 26)).alloc (.cells #[.int .i64 lo, .int .i64 hi] 30) = W0 := ⟨_, rfl⟩
  have S0 : St w W0 [(w.heap.size + 1, 0, .int .i64 lo), (w.heap.size + 1, 1, .int .i64 hi), (w.heap.size, 0, .slice q1 cs.length c1), (w.heap.size, 1, .slice q2 ps.length c2), (w.heap.size, 2, .slice q3 rs.length c3)] := by rw [← hW0]; exact (((St.nil w)).box #[.slice q1 cs.length c1, .slice q2 ps.length c2, .slice q3 rs.length c3] 26 (w.heap.size) (by simp)).box #[.int .i64 lo, .int .i64 hi] 30 (w.heap.size + 1) (by simp)
  rw [hW0]
  clear hW0
  obtain ⟨C, hC0, HC, LC, BC, hne⟩ := cls S0
  haveI := hne
  obtain ⟨c0, rfl⟩ : ∃ n : Wd C, W0 = n.w := ⟨⟨_, hC0⟩, rfl⟩
  have fC0 : ∀ n : Wd C, n.w.cell? ⟨w.heap.size + 1, 0, none⟩ = some (.int .i64 lo) := fun n => (LC.out n).1.2.1
  have fC1 : ∀ n : Wd C, n.w.cell? ⟨w.heap.size + 1, 1, none⟩ = some (.int .i64 hi) := fun n => (LC.out n).2.1.2.1
  have fC2 : ∀ n : Wd C, n.w.cell? ⟨w.heap.size, 0, none⟩ = some (.slice q1 cs.length c1) := fun n => (LC.out n).2.2.1.2.1
  have fC3 : ∀ n : Wd C, n.w.cell? ⟨w.heap.size, 1, none⟩ = some (.slice q2 ps.length c2) := fun n => (LC.out n).2.2.2.1.2.1
  have fC4 : ∀ n : Wd C, n.w.cell? ⟨w.heap.size, 2, none⟩ = some (.slice q3 rs.length c3) := fun n => (LC.out n).2.2.2.2.1.2.1
  clear S0 hC0
  have D1 := cin HC K1
  have DS := cin HC KS9
  clear K1
  cases z
  · clear KA KB KC KD KS9
    go_wp2_with (first | first | (go_at_call 19; with_reducible refine (D1 _).out.mono ?_; rintro e w' ⟨rfl, n, rfl⟩) | (go_at_call 20; with_reducible refine (DS _).out.mono ?_; rintro e w' ⟨rfl, n, rfl⟩))
    go_ret
    exact ⟨rfl, BC.out _⟩
  replace KA := KA (by first | rfl | trivial)
  replace KB := KB (by first | rfl | trivial)
  replace KC := KC (by first | rfl | trivial)
  replace KD := KD (by first | rfl | trivial)
  by_cases h30 : 30 < ps.length + rs.length
  · have h30' : decide ((30 : Int) < (ps.length : Int) + (rs.length : Int)) = true := by simp; omega
    clear h30 KA KB KC KD KS9
    go_wp2_with (first | first | (go_at_call 19; with_reducible refine (D1 _).out.mono ?_; rintro e w' ⟨rfl, n, rfl⟩) | (go_at_call 20; with_reducible refine (DS _).out.mono ?_; rintro e w' ⟨rfl, n, rfl⟩))
    go_ret
    exact ⟨rfl, BC.out _⟩
  have h30' : decide ((30 : Int) < (ps.length : Int) + (rs.length : Int)) = false := by simp; omega
  clear h30
  obtain ⟨d, hd⟩ : ∃ d, wrap64 (hi - lo) = d := ⟨_, rfl⟩
  have HA := Lib.hid KA
  have HBb := Lib.hid KB
  have HCc := Lib.hid KC
  have HDd := Lib.hid KD
  have HS9 := Lib.hid KS9
  clear KA KB KC KD KS9
  have hcase : (0 ≤ hi ∧ 0 ≤ lo ∧ 60 < d ∧ d < 400) ∨ (hi < 0 ∨ (0 ≤ hi ∧ lo < 0) ∨ (0 ≤ hi ∧ 0 ≤ lo ∧ d ≤ 60) ∨ (0 ≤ hi ∧ 0 ≤ lo ∧ 60 < d ∧ 400 ≤ d)) := by omega
  rcases hcase with ⟨u1, u2, u3, u4⟩ | hcase
  · clear HA HBb HCc HDd
    go_wp2_with (first | first | (go_at_call 19; with_reducible refine (D1 _).out.mono ?_; rintro e w' ⟨rfl, n, rfl⟩) | (go_at_call 20; with_reducible refine (DS _).out.mono ?_; rintro e w' ⟨rfl, n, rfl⟩))
    go_ret
    exact ⟨rfl, BC.out _⟩
  rcases hcase with u1 | ⟨u1, u2⟩ | ⟨u1, u2, u3⟩ | ⟨u1, u2, u3, u4⟩
  all_goals
    go_upto_region 3 with (first | first | (go_at_call 19; with_reducible refine (D1 _).out.mono ?_; rintro e w' ⟨rfl, n, rfl⟩) | (go_at_call 20; with_reducible refine (DS _).out.mono ?_; rintro e w' ⟨rfl, n, rfl⟩))
    have B0 := Lib.hid (BC.out n)
    clear D1 DS hw h30' hd
    go_wp2_with fail
    refine (HA.out _ B0.out).mono ?_
    rintro e w1 ⟨⟨qa, ca, rfl, ia⟩, hb1⟩
    have S1 : St w1 w1 [(w.heap.size + 1, 0, .int .i64 lo), (w.heap.size + 1, 1, .int .i64 hi), (w.heap.size, 0, .slice q1 cs.length c1), (w.heap.size, 1, .slice q2 ps.length c2), (w.heap.size, 2, .slice q3 rs.length c3)] := ⟨Below.refl _ _, (LC.out n).keep hb1⟩
    have B1 := Lib.hid (B0.out.trans (hb1.mono B0.out.size))
    have I1 := Lib.hid ia
    clear hb1 ia HC LC BC fC0 fC1 fC2 fC3 fC4 hne
    obtain ⟨K, hC0, HK, LK, BK, hne⟩ := cls S1
    haveI := hne
    obtain ⟨k0, rfl⟩ : ∃ n : Wd K, w1 = n.w := ⟨⟨_, hC0⟩, rfl⟩
    have fK0 : ∀ n : Wd K, n.w.cell? ⟨w.heap.size + 1, 0, none⟩ = some (.int .i64 lo) := fun n => (LK.out n).1.2.1
    have fK1 : ∀ n : Wd K, n.w.cell? ⟨w.heap.size + 1, 1, none⟩ = some (.int .i64 hi) := fun n => (LK.out n).2.1.2.1
    have fK2 : ∀ n : Wd K, n.w.cell? ⟨w.heap.size, 0, none⟩ = some (.slice q1 cs.length c1) := fun n => (LK.out n).2.2.1.2.1
    have fK3 : ∀ n : Wd K, n.w.cell? ⟨w.heap.size, 1, none⟩ = some (.slice q2 ps.length c2) := fun n => (LK.out n).2.2.2.1.2.1
    have fK4 : ∀ n : Wd K, n.w.cell? ⟨w.heap.size, 2, none⟩ = some (.slice q3 rs.length c3) := fun n => (LK.out n).2.2.2.2.1.2.1
    clear S1 hC0
    go_upto_region 4 with fail
    obtain ⟨W0, hW0⟩ : ∃ W0, (k0.w).alloc (.cells #[.int .i64 a, .int .i64 b, .slice qa L1.length ca] 58) = W0 := ⟨_, rfl⟩
    have S0 : St k0.w W0 [(k0.w.heap.size, 0, .int .i64 a), (k0.w.heap.size, 1, .int .i64 b), (k0.w.heap.size, 2, .slice qa L1.length ca), (w.heap.size + 1, 0, .int .i64 lo), (w.heap.size + 1, 1, .int .i64 hi), (w.heap.size, 0, .slice q1 cs.length c1), (w.heap.size, 1, .slice q2 ps.length c2), (w.heap.size, 2, .slice q3 rs.length c3)] := by rw [← hW0]; exact ((⟨BK.out k0, LK.out k0⟩ : St k0.w k0.w _)).box #[.int .i64 a, .int .i64 b, .slice qa L1.length ca] 58 (k0.w.heap.size) (by simp)
    rw [hW0]
    clear hW0
    obtain ⟨kD, hkk⟩ : ∃ k, k0.w.heap.size = k := ⟨_, rfl⟩
    have gkD : k0.w.heap.size ≤ kD := by rw [← hkk]; exact (BK.out k0).size
    rw [hkk] at S0 ⊢
    clear hkk
    obtain ⟨D, hC0, HD, LD, BD, hne⟩ := cls S0
    haveI := hne
    obtain ⟨d0, rfl⟩ : ∃ n : Wd D, W0 = n.w := ⟨⟨_, hC0⟩, rfl⟩
    have fD0 : ∀ n : Wd D, n.w.cell? ⟨kD, 0, none⟩ = some (.int .i64 a) := fun n => (LD.out n).1.2.1
    have fD1 : ∀ n : Wd D, n.w.cell? ⟨kD, 1, none⟩ = some (.int .i64 b) := fun n => (LD.out n).2.1.2.1
    have fD2 : ∀ n : Wd D, n.w.cell? ⟨kD, 2, none⟩ = some (.slice qa L1.length ca) := fun n => (LD.out n).2.2.1.2.1
    have fD3 : ∀ n : Wd D, n.w.cell? ⟨w.heap.size + 1, 0, none⟩ = some (.int .i64 lo) := fun n => (LD.out n).2.2.2.1.2.1
    have fD4 : ∀ n : Wd D, n.w.cell? ⟨w.heap.size + 1, 1, none⟩ = some (.int .i64 hi) := fun n => (LD.out n).2.2.2.2.1.2.1
    have fD5 : ∀ n : Wd D, n.w.cell? ⟨w.heap.size, 0, none⟩ = some (.slice q1 cs.length c1) := fun n => (LD.out n).2.2.2.2.2.1.2.1
    have fD6 : ∀ n : Wd D, n.w.cell? ⟨w.heap.size, 1, none⟩ = some (.slice q2 ps.length c2) := fun n => (LD.out n).2.2.2.2.2.2.1.2.1
    have fD7 : ∀ n : Wd D, n.w.cell? ⟨w.heap.size, 2, none⟩ = some (.slice q3 rs.length c3) := fun n => (LD.out n).2.2.2.2.2.2.2.1.2.1
    clear S0 hC0
    have B2 := Lib.hid (B1.out.trans ((BD.out d0).mono B1.out.size))
    have I2 := Lib.hid (I1.out.keep (BD.out d0))
    clear B1 I1
    go_wp2_with fail
    refine (HBb.out _ B2.out).mono ?_
    rintro e w2 ⟨⟨qb, cb, rfl, ib⟩, hb2⟩
    have S2 : St w2 w2 [(kD, 0, .int .i64 a), (kD, 1, .int .i64 b), (kD, 2, .slice qa L1.length ca), (w.heap.size + 1, 0, .int .i64 lo), (w.heap.size + 1, 1, .int .i64 hi), (w.heap.size, 0, .slice q1 cs.length c1), (w.heap.size, 1, .slice q2 ps.length c2), (w.heap.size, 2, .slice q3 rs.length c3)] := ⟨Below.refl _ _, (LD.out d0).keep hb2⟩
    have B3 := Lib.hid (B2.out.trans (hb2.mono B2.out.size))
    have I3 := Lib.hid (And.intro (I2.out.keep hb2) ib)
    clear hb2 ib HD LD BD fD0 fD1 fD2 fD3 fD4 fD5 fD6 fD7 hne B2 I2
    obtain ⟨M, hC0, HM, LM, BM, hne⟩ := cls S2
    haveI := hne
    obtain ⟨m0, rfl⟩ : ∃ n : Wd M, w2 = n.w := ⟨⟨_, hC0⟩, rfl⟩
    have fM0 : ∀ n : Wd M, n.w.cell? ⟨kD, 0, none⟩ = some (.int .i64 a) := fun n => (LM.out n).1.2.1
    have fM1 : ∀ n : Wd M, n.w.cell? ⟨kD, 1, none⟩ = some (.int .i64 b) := fun n => (LM.out n).2.1.2.1
    have fM2 : ∀ n : Wd M, n.w.cell? ⟨kD, 2, none⟩ = some (.slice qa L1.length ca) := fun n => (LM.out n).2.2.1.2.1
    have fM3 : ∀ n : Wd M, n.w.cell? ⟨w.heap.size + 1, 0, none⟩ = some (.int .i64 lo) := fun n => (LM.out n).2.2.2.1.2.1
    have fM4 : ∀ n : Wd M, n.w.cell? ⟨w.heap.size + 1, 1, none⟩ = some (.int .i64 hi) := fun n => (LM.out n).2.2.2.2.1.2.1
    have fM5 : ∀ n : Wd M, n.w.cell? ⟨w.heap.size, 0, none⟩ = some (.slice q1 cs.length c1) := fun n => (LM.out n).2.2.2.2.2.1.2.1
    have fM6 : ∀ n : Wd M, n.w.cell? ⟨w.heap.size, 1, none⟩ = some (.slice q2 ps.length c2) := fun n => (LM.out n).2.2.2.2.2.2.1.2.1
    have fM7 : ∀ n : Wd M, n.w.cell? ⟨w.heap.size, 2, none⟩ = some (.slice q3 rs.length c3) := fun n => (LM.out n).2.2.2.2.2.2.2.1.2.1
    clear S2 hC0
    go_upto_region 5 with fail
    obtain ⟨W0, hW0⟩ : ∃ W0, (m0.w).alloc (.cells #[.int .i64 a, .int .i64 b, .slice qb L1.length cb, .int .i64 E] 65) = W0 := ⟨_, rfl⟩
    have S0 : St m0.w W0 [(m0.w.heap.size, 0, .int .i64 a), (m0.w.heap.size, 1, .int .i64 b), (m0.w.heap.size, 2, .slice qb L1.length cb), (m0.w.heap.size, 3, .int .i64 E), (kD, 0, .int .i64 a), (kD, 1, .int .i64 b), (kD, 2, .slice qa L1.length ca), (w.heap.size + 1, 0, .int .i64 lo), (w.heap.size + 1, 1, .int .i64 hi), (w.heap.size, 0, .slice q1 cs.length c1), (w.heap.size, 1, .slice q2 ps.length c2), (w.heap.size, 2, .slice q3 rs.length c3)] := by rw [← hW0]; exact ((⟨BM.out m0, LM.out m0⟩ : St m0.w m0.w _)).box #[.int .i64 a, .int .i64 b, .slice qb L1.length cb, .int .i64 E] 65 (m0.w.heap.size) (by simp)
    rw [hW0]
    clear hW0
    obtain ⟨kY, hkk⟩ : ∃ k, m0.w.heap.size = k := ⟨_, rfl⟩
    have gkY : m0.w.heap.size ≤ kY := by rw [← hkk]; exact (BM.out m0).size
    rw [hkk] at S0 ⊢
    clear hkk
    obtain ⟨Y, hC0, HY, LY, BY, hne⟩ := cls S0
    haveI := hne
    obtain ⟨y0, rfl⟩ : ∃ n : Wd Y, W0 = n.w := ⟨⟨_, hC0⟩, rfl⟩
    have fY0 : ∀ n : Wd Y, n.w.cell? ⟨kY, 0, none⟩ = some (.int .i64 a) := fun n => (LY.out n).1.2.1
    have fY1 : ∀ n : Wd Y, n.w.cell? ⟨kY, 1, none⟩ = some (.int .i64 b) := fun n => (LY.out n).2.1.2.1
    have fY2 : ∀ n : Wd Y, n.w.cell? ⟨kY, 2, none⟩ = some (.slice qb L1.length cb) := fun n => (LY.out n).2.2.1.2.1
    have fY3 : ∀ n : Wd Y, n.w.cell? ⟨kY, 3, none⟩ = some (.int .i64 E) := fun n => (LY.out n).2.2.2.1.2.1
    have fY4 : ∀ n : Wd Y, n.w.cell? ⟨kD, 0, none⟩ = some (.int .i64 a) := fun n => (LY.out n).2.2.2.2.1.2.1
    have fY5 : ∀ n : Wd Y, n.w.cell? ⟨kD, 1, none⟩ = some (.int .i64 b) := fun n => (LY.out n).2.2.2.2.2.1.2.1
    have fY6 : ∀ n : Wd Y, n.w.cell? ⟨kD, 2, none⟩ = some (.slice qa L1.length ca) := fun n => (LY.out n).2.2.2.2.2.2.1.2.1
    have fY7 : ∀ n : Wd Y, n.w.cell? ⟨w.heap.size + 1, 0, none⟩ = some (.int .i64 lo) := fun n => (LY.out n).2.2.2.2.2.2.2.1.2.1
    have fY8 : ∀ n : Wd Y, n.w.cell? ⟨w.heap.size + 1, 1, none⟩ = some (.int .i64 hi) := fun n => (LY.out n).2.2.2.2.2.2.2.2.1.2.1
    have fY9 : ∀ n : Wd Y, n.w.cell? ⟨w.heap.size, 0, none⟩ = some (.slice q1 cs.length c1) := fun n => (LY.out n).2.2.2.2.2.2.2.2.2.1.2.1
    have fY10 : ∀ n : Wd Y, n.w.cell? ⟨w.heap.size, 1, none⟩ = some (.slice q2 ps.length c2) := fun n => (LY.out n).2.2.2.2.2.2.2.2.2.2.1.2.1
    have fY11 : ∀ n : Wd Y, n.w.cell? ⟨w.heap.size, 2, none⟩ = some (.slice q3 rs.length c3) := fun n => (LY.out n).2.2.2.2.2.2.2.2.2.2.2.1.2.1
    clear S0 hC0
    have B4 := Lib.hid (B3.out.trans ((BY.out y0).mono B3.out.size))
    have I4 := Lib.hid (And.intro (I3.out.1.keep (BY.out y0)) (I3.out.2.keep (BY.out y0)))
    clear B3 I3
    go_wp2_with fail
    refine (HCc.out _ B4.out).mono ?_
    rintro e w3 ⟨⟨qc, cc, rfl, ic⟩, hb3⟩
    have S3 : St w3 w3 [(kY, 0, .int .i64 a), (kY, 1, .int .i64 b), (kY, 2, .slice qb L1.length cb), (kY, 3, .int .i64 E), (kD, 0, .int .i64 a), (kD, 1, .int .i64 b), (kD, 2, .slice qa L1.length ca), (w.heap.size + 1, 0, .int .i64 lo), (w.heap.size + 1, 1, .int .i64 hi), (w.heap.size, 0, .slice q1 cs.length c1), (w.heap.size, 1, .slice q2 ps.length c2), (w.heap.size, 2, .slice q3 rs.length c3)] := ⟨Below.refl _ _, (LY.out y0).keep hb3⟩
    have B5 := Lib.hid (B4.out.trans (hb3.mono B4.out.size))
    have I5 := Lib.hid (And.intro (I4.out.1.keep hb3) (And.intro (I4.out.2.keep hb3) ic))
    clear hb3 ic HY LY BY fY0 fY1 fY2 fY3 fY4 fY5 fY6 fY7 fY8 fY9 fY10 fY11 hne B4 I4
    obtain ⟨R, hC0, HR, LR, BR, hne⟩ := cls S3
    haveI := hne
    obtain ⟨r0, rfl⟩ : ∃ n : Wd R, w3 = n.w := ⟨⟨_, hC0⟩, rfl⟩
    have fR0 : ∀ n : Wd R, n.w.cell? ⟨kY, 0, none⟩ = some (.int .i64 a) := fun n => (LR.out n).1.2.1
    have fR1 : ∀ n : Wd R, n.w.cell? ⟨kY, 1, none⟩ = some (.int .i64 b) := fun n => (LR.out n).2.1.2.1
    have fR2 : ∀ n : Wd R, n.w.cell? ⟨kY, 2, none⟩ = some (.slice qb L1.length cb) := fun n => (LR.out n).2.2.1.2.1
    have fR3 : ∀ n : Wd R, n.w.cell? ⟨kY, 3, none⟩ = some (.int .i64 E) := fun n => (LR.out n).2.2.2.1.2.1
    have fR4 : ∀ n : Wd R, n.w.cell? ⟨kD, 0, none⟩ = some (.int .i64 a) := fun n => (LR.out n).2.2.2.2.1.2.1
    have fR5 : ∀ n : Wd R, n.w.cell? ⟨kD, 1, none⟩ = some (.int .i64 b) := fun n => (LR.out n).2.2.2.2.2.1.2.1
    have fR6 : ∀ n : Wd R, n.w.cell? ⟨kD, 2, none⟩ = some (.slice qa L1.length ca) := fun n => (LR.out n).2.2.2.2.2.2.1.2.1
    have fR7 : ∀ n : Wd R, n.w.cell? ⟨w.heap.size + 1, 0, none⟩ = some (.int .i64 lo) := fun n => (LR.out n).2.2.2.2.2.2.2.1.2.1
    have fR8 : ∀ n : Wd R, n.w.cell? ⟨w.heap.size + 1, 1, none⟩ = some (.int .i64 hi) := fun n => (LR.out n).2.2.2.2.2.2.2.2.1.2.1
    have fR9 : ∀ n : Wd R, n.w.cell? ⟨w.heap.size, 0, none⟩ = some (.slice q1 cs.length c1) := fun n => (LR.out n).2.2.2.2.2.2.2.2.2.1.2.1
    have fR10 : ∀ n : Wd R, n.w.cell? ⟨w.heap.size, 1, none⟩ = some (.slice q2 ps.length c2) := fun n => (LR.out n).2.2.2.2.2.2.2.2.2.2.1.2.1
    have fR11 : ∀ n : Wd R, n.w.cell? ⟨w.heap.size, 2, none⟩ = some (.slice q3 rs.length c3) := fun n => (LR.out n).2.2.2.2.2.2.2.2.2.2.2.1.2.1
    clear S3 hC0
    go_upto_region 6 with fail
    obtain ⟨W0, hW0⟩ : ∃ W0, (r0.w).alloc (.cells #[.int .i64 a, .int .i64 b, .slice qc L2.length cc] 58) = W0 := ⟨_, rfl⟩
    have S0 : St r0.w W0 [(r0.w.heap.size, 0, .int .i64 a), (r0.w.heap.size, 1, .int .i64 b), (r0.w.heap.size, 2, .slice qc L2.length cc), (kY, 0, .int .i64 a), (kY, 1, .int .i64 b), (kY, 2, .slice qb L1.length cb), (kY, 3, .int .i64 E), (kD, 0, .int .i64 a), (kD, 1, .int .i64 b), (kD, 2, .slice qa L1.length ca), (w.heap.size + 1, 0, .int .i64 lo), (w.heap.size + 1, 1, .int .i64 hi), (w.heap.size, 0, .slice q1 cs.length c1), (w.heap.size, 1, .slice q2 ps.length c2), (w.heap.size, 2, .slice q3 rs.length c3)] := by rw [← hW0]; exact ((⟨BR.out r0, LR.out r0⟩ : St r0.w r0.w _)).box #[.int .i64 a, .int .i64 b, .slice qc L2.length cc] 58 (r0.w.heap.size) (by simp)
    rw [hW0]
    clear hW0
    obtain ⟨kG, hkk⟩ : ∃ k, r0.w.heap.size = k := ⟨_, rfl⟩
    have gkG : r0.w.heap.size ≤ kG := by rw [← hkk]; exact (BR.out r0).size
    rw [hkk] at S0 ⊢
    clear hkk
    obtain ⟨G, hC0, HG, LG, BG, hne⟩ := cls S0
    haveI := hne
    obtain ⟨g0, rfl⟩ : ∃ n : Wd G, W0 = n.w := ⟨⟨_, hC0⟩, rfl⟩
    have fG0 : ∀ n : Wd G, n.w.cell? ⟨kG, 0, none⟩ = some (.int .i64 a) := fun n => (LG.out n).1.2.1
    have fG1 : ∀ n : Wd G, n.w.cell? ⟨kG, 1, none⟩ = some (.int .i64 b) := fun n => (LG.out n).2.1.2.1
    have fG2 : ∀ n : Wd G, n.w.cell? ⟨kG, 2, none⟩ = some (.slice qc L2.length cc) := fun n => (LG.out n).2.2.1.2.1
    have fG3 : ∀ n : Wd G, n.w.cell? ⟨kY, 0, none⟩ = some (.int .i64 a) := fun n => (LG.out n).2.2.2.1.2.1
    have fG4 : ∀ n : Wd G, n.w.cell? ⟨kY, 1, none⟩ = some (.int .i64 b) := fun n => (LG.out n).2.2.2.2.1.2.1
    have fG5 : ∀ n : Wd G, n.w.cell? ⟨kY, 2, none⟩ = some (.slice qb L1.length cb) := fun n => (LG.out n).2.2.2.2.2.1.2.1
    have fG6 : ∀ n : Wd G, n.w.cell? ⟨kY, 3, none⟩ = some (.int .i64 E) := fun n => (LG.out n).2.2.2.2.2.2.1.2.1
    have fG7 : ∀ n : Wd G, n.w.cell? ⟨kD, 0, none⟩ = some (.int .i64 a) := fun n => (LG.out n).2.2.2.2.2.2.2.1.2.1
    have fG8 : ∀ n : Wd G, n.w.cell? ⟨kD, 1, none⟩ = some (.int .i64 b) := fun n => (LG.out n).2.2.2.2.2.2.2.2.1.2.1
    have fG9 : ∀ n : Wd G, n.w.cell? ⟨kD, 2, none⟩ = some (.slice qa L1.length ca) := fun n => (LG.out n).2.2.2.2.2.2.2.2.2.1.2.1
    have fG10 : ∀ n : Wd G, n.w.cell? ⟨w.heap.size + 1, 0, none⟩ = some (.int .i64 lo) := fun n => (LG.out n).2.2.2.2.2.2.2.2.2.2.1.2.1
    have fG11 : ∀ n : Wd G, n.w.cell? ⟨w.heap.size + 1, 1, none⟩ = some (.int .i64 hi) := fun n => (LG.out n).2.2.2.2.2.2.2.2.2.2.2.1.2.1
    have fG12 : ∀ n : Wd G, n.w.cell? ⟨w.heap.size, 0, none⟩ = some (.slice q1 cs.length c1) := fun n => (LG.out n).2.2.2.2.2.2.2.2.2.2.2.2.1.2.1
    have fG13 : ∀ n : Wd G, n.w.cell? ⟨w.heap.size, 1, none⟩ = some (.slice q2 ps.length c2) := fun n => (LG.out n).2.2.2.2.2.2.2.2.2.2.2.2.2.1.2.1
    have fG14 : ∀ n : Wd G, n.w.cell? ⟨w.heap.size, 2, none⟩ = some (.slice q3 rs.length c3) := fun n => (LG.out n).2.2.2.2.2.2.2.2.2.2.2.2.2.2.1.2.1
    clear S0 hC0
    have B6 := Lib.hid (B5.out.trans ((BG.out g0).mono B5.out.size))
    have I6 := Lib.hid (And.intro (I5.out.1.keep (BG.out g0)) (And.intro (I5.out.2.1.keep (BG.out g0)) (I5.out.2.2.keep (BG.out g0))))
    clear B5 I5
    go_wp2_with fail
    refine (HDd.out _ B6.out).mono ?_
    rintro e w4 ⟨⟨qd, cd, rfl, id4⟩, hb4⟩
    have S4 : St w4 w4 [(kG, 0, .int .i64 a), (kG, 1, .int .i64 b), (kG, 2, .slice qc L2.length cc), (kY, 0, .int .i64 a), (kY, 1, .int .i64 b), (kY, 2, .slice qb L1.length cb), (kY, 3, .int .i64 E), (kD, 0, .int .i64 a), (kD, 1, .int .i64 b), (kD, 2, .slice qa L1.length ca), (w.heap.size + 1, 0, .int .i64 lo), (w.heap.size + 1, 1, .int .i64 hi), (w.heap.size, 0, .slice q1 cs.length c1), (w.heap.size, 1, .slice q2 ps.length c2), (w.heap.size, 2, .slice q3 rs.length c3)] := ⟨Below.refl _ _, (LG.out g0).keep hb4⟩
    have B7 := Lib.hid (B6.out.trans (hb4.mono B6.out.size))
    have I7 := Lib.hid (And.intro (I6.out.1.keep hb4) (And.intro (I6.out.2.1.keep hb4) (And.intro (I6.out.2.2.keep hb4) id4)))
    clear hb4 id4 HG LG BG fG0 fG1 fG2 fG3 fG4 fG5 fG6 fG7 fG8 fG9 fG10 fG11 fG12 fG13 fG14 hne B6 I6
    obtain ⟨U, hC0, HU, LU, BU, hne⟩ := cls S4
    haveI := hne
    obtain ⟨u0, rfl⟩ : ∃ n : Wd U, w4 = n.w := ⟨⟨_, hC0⟩, rfl⟩
    have fU0 : ∀ n : Wd U, n.w.cell? ⟨kG, 0, none⟩ = some (.int .i64 a) := fun n => (LU.out n).1.2.1
    have fU1 : ∀ n : Wd U, n.w.cell? ⟨kG, 1, none⟩ = some (.int .i64 b) := fun n => (LU.out n).2.1.2.1
    have fU2 : ∀ n : Wd U, n.w.cell? ⟨kG, 2, none⟩ = some (.slice qc L2.length cc) := fun n => (LU.out n).2.2.1.2.1
    have fU3 : ∀ n : Wd U, n.w.cell? ⟨kY, 0, none⟩ = some (.int .i64 a) := fun n => (LU.out n).2.2.2.1.2.1
    have fU4 : ∀ n : Wd U, n.w.cell? ⟨kY, 1, none⟩ = some (.int .i64 b) := fun n => (LU.out n).2.2.2.2.1.2.1
    have fU5 : ∀ n : Wd U, n.w.cell? ⟨kY, 2, none⟩ = some (.slice qb L1.length cb) := fun n => (LU.out n).2.2.2.2.2.1.2.1
    have fU6 : ∀ n : Wd U, n.w.cell? ⟨kY, 3, none⟩ = some (.int .i64 E) := fun n => (LU.out n).2.2.2.2.2.2.1.2.1
    have fU7 : ∀ n : Wd U, n.w.cell? ⟨kD, 0, none⟩ = some (.int .i64 a) := fun n => (LU.out n).2.2.2.2.2.2.2.1.2.1
    have fU8 : ∀ n : Wd U, n.w.cell? ⟨kD, 1, none⟩ = some (.int .i64 b) := fun n => (LU.out n).2.2.2.2.2.2.2.2.1.2.1
    have fU9 : ∀ n : Wd U, n.w.cell? ⟨kD, 2, none⟩ = some (.slice qa L1.length ca) := fun n => (LU.out n).2.2.2.2.2.2.2.2.2.1.2.1
    have fU10 : ∀ n : Wd U, n.w.cell? ⟨w.heap.size + 1, 0, none⟩ = some (.int .i64 lo) := fun n => (LU.out n).2.2.2.2.2.2.2.2.2.2.1.2.1
    have fU11 : ∀ n : Wd U, n.w.cell? ⟨w.heap.size + 1, 1, none⟩ = some (.int .i64 hi) := fun n => (LU.out n).2.2.2.2.2.2.2.2.2.2.2.1.2.1
    have fU12 : ∀ n : Wd U, n.w.cell? ⟨w.heap.size, 0, none⟩ = some (.slice q1 cs.length c1) := fun n => (LU.out n).2.2.2.2.2.2.2.2.2.2.2.2.1.2.1
    have fU13 : ∀ n : Wd U, n.w.cell? ⟨w.heap.size, 1, none⟩ = some (.slice q2 ps.length c2) := fun n => (LU.out n).2.2.2.2.2.2.2.2.2.2.2.2.2.1.2.1
    have fU14 : ∀ n : Wd U, n.w.cell? ⟨w.heap.size, 2, none⟩ = some (.slice q3 rs.length c3) := fun n => (LU.out n).2.2.2.2.2.2.2.2.2.2.2.2.2.2.1.2.1
    clear S4 hC0
    go_upto_region 7 with fail
    obtain ⟨W0, hW0⟩ : ∃ W0, (u0.w).alloc (.cells #[.int .i64 a, .int .i64 b, .slice qd L2.length cd, .int .i64 E] 65) = W0 := ⟨_, rfl⟩
    have S0 : St u0.w W0 [(u0.w.heap.size, 0, .int .i64 a), (u0.w.heap.size, 1, .int .i64 b), (u0.w.heap.size, 2, .slice qd L2.length cd), (u0.w.heap.size, 3, .int .i64 E), (kG, 0, .int .i64 a), (kG, 1, .int .i64 b), (kG, 2, .slice qc L2.length cc), (kY, 0, .int .i64 a), (kY, 1, .int .i64 b), (kY, 2, .slice qb L1.length cb), (kY, 3, .int .i64 E), (kD, 0, .int .i64 a), (kD, 1, .int .i64 b), (kD, 2, .slice qa L1.length ca), (w.heap.size + 1, 0, .int .i64 lo), (w.heap.size + 1, 1, .int .i64 hi), (w.heap.size, 0, .slice q1 cs.length c1), (w.heap.size, 1, .slice q2 ps.length c2), (w.heap.size, 2, .slice q3 rs.length c3)] := by rw [← hW0]; exact ((⟨BU.out u0, LU.out u0⟩ : St u0.w u0.w _)).box #[.int .i64 a, .int .i64 b, .slice qd L2.length cd, .int .i64 E] 65 (u0.w.heap.size) (by simp)
    rw [hW0]
    clear hW0
    obtain ⟨kT, hkk⟩ : ∃ k, u0.w.heap.size = k := ⟨_, rfl⟩
    have gkT : u0.w.heap.size ≤ kT := by rw [← hkk]; exact (BU.out u0).size
    rw [hkk] at S0 ⊢
    clear hkk
    obtain ⟨T, hC0, HT, LT, BT, hne⟩ := cls S0
    haveI := hne
    obtain ⟨t0, rfl⟩ : ∃ n : Wd T, W0 = n.w := ⟨⟨_, hC0⟩, rfl⟩
    have fT0 : ∀ n : Wd T, n.w.cell? ⟨kT, 0, none⟩ = some (.int .i64 a) := fun n => (LT.out n).1.2.1
    have fT1 : ∀ n : Wd T, n.w.cell? ⟨kT, 1, none⟩ = some (.int .i64 b) := fun n => (LT.out n).2.1.2.1
    have fT2 : ∀ n : Wd T, n.w.cell? ⟨kT, 2, none⟩ = some (.slice qd L2.length cd) := fun n => (LT.out n).2.2.1.2.1
    have fT3 : ∀ n : Wd T, n.w.cell? ⟨kT, 3, none⟩ = some (.int .i64 E) := fun n => (LT.out n).2.2.2.1.2.1
    have fT4 : ∀ n : Wd T, n.w.cell? ⟨kG, 0, none⟩ = some (.int .i64 a) := fun n => (LT.out n).2.2.2.2.1.2.1
    have fT5 : ∀ n : Wd T, n.w.cell? ⟨kG, 1, none⟩ = some (.int .i64 b) := fun n => (LT.out n).2.2.2.2.2.1.2.1
    have fT6 : ∀ n : Wd T, n.w.cell? ⟨kG, 2, none⟩ = some (.slice qc L2.length cc) := fun n => (LT.out n).2.2.2.2.2.2.1.2.1
    have fT7 : ∀ n : Wd T, n.w.cell? ⟨kY, 0, none⟩ = some (.int .i64 a) := fun n => (LT.out n).2.2.2.2.2.2.2.1.2.1
    have fT8 : ∀ n : Wd T, n.w.cell? ⟨kY, 1, none⟩ = some (.int .i64 b) := fun n => (LT.out n).2.2.2.2.2.2.2.2.1.2.1
    have fT9 : ∀ n : Wd T, n.w.cell? ⟨kY, 2, none⟩ = some (.slice qb L1.length cb) := fun n => (LT.out n).2.2.2.2.2.2.2.2.2.1.2.1
    have fT10 : ∀ n : Wd T, n.w.cell? ⟨kY, 3, none⟩ = some (.int .i64 E) := fun n => (LT.out n).2.2.2.2.2.2.2.2.2.2.1.2.1
    have fT11 : ∀ n : Wd T, n.w.cell? ⟨kD, 0, none⟩ = some (.int .i64 a) := fun n => (LT.out n).2.2.2.2.2.2.2.2.2.2.2.1.2.1
    have fT12 : ∀ n : Wd T, n.w.cell? ⟨kD, 1, none⟩ = some (.int .i64 b) := fun n => (LT.out n).2.2.2.2.2.2.2.2.2.2.2.2.1.2.1
    have fT13 : ∀ n : Wd T, n.w.cell? ⟨kD, 2, none⟩ = some (.slice qa L1.length ca) := fun n => (LT.out n).2.2.2.2.2.2.2.2.2.2.2.2.2.1.2.1
    have fT14 : ∀ n : Wd T, n.w.cell? ⟨w.heap.size + 1, 0, none⟩ = some (.int .i64 lo) := fun n => (LT.out n).2.2.2.2.2.2.2.2.2.2.2.2.2.2.1.2.1
    have fT15 : ∀ n : Wd T, n.w.cell? ⟨w.heap.size + 1, 1, none⟩ = some (.int .i64 hi) := fun n => (LT.out n).2.2.2.2.2.2.2.2.2.2.2.2.2.2.2.1.2.1
    have fT16 : ∀ n : Wd T, n.w.cell? ⟨w.heap.size, 0, none⟩ = some (.slice q1 cs.length c1) := fun n => (LT.out n).2.2.2.2.2.2.2.2.2.2.2.2.2.2.2.2.1.2.1
    have fT17 : ∀ n : Wd T, n.w.cell? ⟨w.heap.size, 1, none⟩ = some (.slice q2 ps.length c2) := fun n => (LT.out n).2.2.2.2.2.2.2.2.2.2.2.2.2.2.2.2.2.1.2.1
    have fT18 : ∀ n : Wd T, n.w.cell? ⟨w.heap.size, 2, none⟩ = some (.slice q3 rs.length c3) := fun n => (LT.out n).2.2.2.2.2.2.2.2.2.2.2.2.2.2.2.2.2.2.1.2.1
    clear S0 hC0
    have DS := cin HT HS9.out
    have D4 := fun n : Wd T => Lib.hid (Calls.quiet_in (C := T) ((same_yes a b qa qb ca cb L1 n.w HL1.out (I7.out.1.keep (BT.out n)) (I7.out.2.1.keep (BT.out n))).mono fun _ _ h => ⟨h.1, HT.out _ _ n.h h.2⟩))
    have D5 := fun n : Wd T => Lib.hid (Calls.quiet_in (C := T) ((same_yes a b qc qd cc cd L2 n.w HL2.out (I7.out.2.2.1.keep (BT.out n)) (I7.out.2.2.2.keep (BT.out n))).mono fun _ _ h => ⟨h.1, HT.out _ _ n.h h.2⟩))
    clear I7
    go_wp2_with (first | (go_at_call 20; with_reducible refine (DS _).out.mono ?_; rintro e w' ⟨rfl, n, rfl⟩) | (go_at_call 47; with_reducible refine (D4 _).out.mono ?_; rintro e w' ⟨rfl, n, rfl⟩) | (go_at_call 47; with_reducible refine (D5 _).out.mono ?_; rintro e w' ⟨rfl, n, rfl⟩))
    go_ret
    exact ⟨rfl, B7.out.trans ((BT.out _).mono B7.out.size)⟩
end Go.Proofs.YtcejmfgbfdhflaaGreat
