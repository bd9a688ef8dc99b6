import Derived.Test.YtcejmfgbfdhflaaGreatEo
import Derived.Test.YtcejmfgbfdhflaaGreatQe
import Derived.Test.YtcejmfgbfdhflaaGreatEn
import Derived.WalkKit
import Derived.LoopTactic
import Derived.WalkSpells
import Derived.WalkLawsBesides
import Derived.Lib.Hide
import Derived.BigQuiet
import Derived.IntWalk
import Derived.Deep.DeepMust
import Derived.WalkSmall
import Derived.StillTailTactics
import Derived.Deep.RegionLaw
import Derived.Deep.RegionHeld3
import Derived.Deep.QuietTactic
namespace Go.Proofs.YtcejmfgbfdhflaaGreat
open Go.RowKit Go.Shelf Go.BigFrame Go.Sort
attribute [local go_sem] World.cell?_alloc_some
set_option maxRecDepth 100000 in
set_option maxHeartbeats 12800000 in
theorem chainageMeasures_law (x : WA) (q q' : Option Addr) (cap cap' : Nat) (l m : List Ms) (w : World) (n1 : x.cs.length ≤ 140737488355327) (n2 : x.ps.length ≤ 140737488355327) (n3 : x.rs.length ≤ 140737488355327) (h : fewB x = true → x.At w) (hl : l.length ≤ 140737488355327) (hl' : m.length ≤ 140737488355327) (hm : MssAt w q l) (hm' : MssAt w q' m) :
    Calls Tryz.prog 9 #[x.v, .slice q l.length cap, .slice q' m.length cap'] w fun e w' => e = .returned (.bool true) ∧ Below w.heap.size w w' := by
  have K1 := fun W => few_any x W n1 n2 n3
  have KS9 := fun W => sanity_any W
  have KL1 := fun W => long30_any q cap l W hl
  have KL2 := fun W => long30_any q' cap' m W hl'
  have KT1 : fewB x = true → ∀ W, Below w.heap.size w W → _ := fun e W hb => Total_any x q cap l W ((h e).keep hb) hl (hm.keep hb)
  have KT2 : fewB x = true → ∀ W, Below w.heap.size w W → _ := fun e W hb => rTotal_any x q cap l W ((h e).keep hb) hl (hm.keep hb)
  have KC1 : fewB x = true → ∀ W, Below w.heap.size w W → _ := fun e W hb => Closes_any x q q' cap cap' l m W ((h e).keep hb) hl hl' (hm.keep hb) (hm'.keep hb)
  have KC2 : fewB x = true → ∀ W, Below w.heap.size w W → _ := fun e W hb => rCloses_any x q q' cap cap' l m W ((h e).keep hb) hl hl' (hm.keep hb) (hm'.keep hb)
  have KD1 : fewB x = true → ∀ m0 W, Below w.heap.size w W → _ := fun e m0 W hb => Distance_any x m0 W ((h e).keep hb)
  have KD2 : fewB x = true → ∀ m0 W, Below w.heap.size w W → _ := fun e m0 W hb => rDistance_any x m0 W ((h e).keep hb)
  have H := Lib.hid hm
  obtain ⟨z, hz⟩ : ∃ z, fewB x = z := ⟨_, rfl⟩
  obtain ⟨z1, hz1⟩ : ∃ z, (decide (30 < l.length) && decide (l.length ≤ 100)) = z := ⟨_, rfl⟩
  obtain ⟨z2, hz2⟩ : ∃ z, (decide (30 < m.length) && decide (m.length ≤ 100)) = z := ⟨_, rfl⟩
  obtain ⟨ta, hta⟩ : ∃ z, ttLo x l = z := ⟨_, rfl⟩
  obtain ⟨tb, htb⟩ : ∃ z, ttHi x l = z := ⟨_, rfl⟩
  obtain ⟨te, hte⟩ : ∃ z, ttE x l = z := ⟨_, rfl⟩
  obtain ⟨cb, hcb⟩ : ∃ z, ceB x l m = z := ⟨_, rfl⟩
  obtain ⟨ce, hce⟩ : ∃ z, ceE x l m = z := ⟨_, rfl⟩
  obtain ⟨fa, hfa⟩ : ∃ f : Ms → Int, dsLo x = f := ⟨_, rfl⟩
  obtain ⟨fb, hfb⟩ : ∃ f : Ms → Int, dsHi x = f := ⟨_, rfl⟩
  obtain ⟨fe, hfe⟩ : ∃ f : Ms → Int, dsE x = f := ⟨_, rfl⟩
  simp only [hz] at K1
  simp only [hz1] at KL1
  simp only [hz2] at KL2
  simp only [hta, htb, hte, hz] at KT1 KT2
  simp only [hcb, hce, hz] at KC1 KC2
  simp only [hfa, hfb, hfe, hz] at KD1 KD2
  clear h hm hm' hz hz1 hz2 hta htb hte hcb hce hfa hfb hfe n1
  obtain ⟨cs, ps, rs, q1, q2, q3, c1, c2, c3⟩ := x
  simp only [WA.v, Ms.v] at *
  have hw : wrap64 ((ps.length : Int) + (rs.length : Int)) = (ps.length : Int) + (rs.length : Int) := w64 (by omega)
  go_enter Tryz.func9, Tryz.ntmps9
  go_upto_region 1 with fail
  obtain ⟨W0, hW0⟩ : ∃ W0, (w).alloc (.cells #[.slice q1 cs.length c1, .slice q2 ps.length c2, .slice q3 rs.length c3] 26) = W0 := ⟨_, rfl⟩
  have S0 : St w W0 [(w.heap.size, 0, .slice q1 cs.length c1), (w.heap.size, 1, .slice q2 ps.length c2), (w.heap.size, 2, .slice q3 rs.length c3)] := by rw [← hW0]; exact ((St.nil w)).box #[.slice q1 cs.length c1, .slice q2 ps.length c2, .slice q3 rs.length c3] 26 (w.heap.size) (by simp)
  rw [hW0]
  clear hW0
  obtain ⟨C, hC0, HC, LC, BC, hne⟩ := cls S0
  haveI := hne
  obtain ⟨c0, rfl⟩ : ∃ n : Wd C, W0 = n.w := ⟨⟨_, hC0⟩, rfl⟩
  have fC0 : ∀ n : Wd C, n.w.cell? ⟨w.heap.size, 0, none⟩ = some (.slice q1 cs.length c1) := fun n => (LC.out n).1.2.1
  have fC1 : ∀ n : Wd C, n.w.cell? ⟨w.heap.size, 1, none⟩ = some (.slice q2 ps.length c2) := fun n => (LC.out n).2.1.2.1
  have fC2 : ∀ n : Wd C, n.w.cell? ⟨w.heap.size, 2, none⟩ = some (.slice q3 rs.length c3) := fun n => (LC.out n).2.2.1.2.1
  clear S0 hC0
  have D1 := cin HC K1
  have DS := cin HC KS9
  have DL1 := csame (C := C) KL1
  have DL2 := csame (C := C) KL2
  clear K1 KL1 KL2
  cases z
  · go_wp2_with (first | first | (go_at_call 19; with_reducible refine (D1 _).out.mono ?_; rintro e w' ⟨rfl, n, rfl⟩) | (go_at_call 20; with_reducible refine (DS _).out.mono ?_; rintro e w' ⟨rfl, n, rfl⟩))
    go_ret
    exact ⟨rfl, BC.out _⟩
  replace KT1 := KT1 (by first | rfl | trivial)
  replace KT2 := KT2 (by first | rfl | trivial)
  replace KC1 := KC1 (by first | rfl | trivial)
  replace KC2 := KC2 (by first | rfl | trivial)
  replace KD1 := KD1 (by first | rfl | trivial)
  replace KD2 := KD2 (by first | rfl | trivial)
  by_cases h30 : 30 < ps.length + rs.length
  · have h30' : decide ((30 : Int) < (ps.length : Int) + (rs.length : Int)) = true := by simp; omega
    clear h30 KT1 KT2 KC1 KC2 KD1 KD2 KS9
    go_wp2_with (first | first | (go_at_call 19; with_reducible refine (D1 _).out.mono ?_; rintro e w' ⟨rfl, n, rfl⟩) | (go_at_call 20; with_reducible refine (DS _).out.mono ?_; rintro e w' ⟨rfl, n, rfl⟩))
    go_ret
    exact ⟨rfl, BC.out _⟩
  have h30' : decide ((30 : Int) < (ps.length : Int) + (rs.length : Int)) = false := by simp; omega
  cases z1
  case true =>
    clear h30 KT1 KT2 KC1 KC2 KD1 KD2 KS9 hw
    go_wp2_with (first | (go_at_call 19; with_reducible refine (D1 _).out.mono ?_; rintro e w' ⟨rfl, n, rfl⟩) | (go_at_call 48; with_reducible refine (DL1 _).out.mono ?_; rintro e w' ⟨rfl, n, rfl⟩) | (go_at_call 20; with_reducible refine (DS _).out.mono ?_; rintro e w' ⟨rfl, n, rfl⟩))
    go_ret
    exact ⟨rfl, BC.out _⟩
  cases z2
  case true =>
    clear h30 KT1 KT2 KC1 KC2 KD1 KD2 KS9 hw
    go_wp2_with (first | (go_at_call 19; with_reducible refine (D1 _).out.mono ?_; rintro e w' ⟨rfl, n, rfl⟩) | (go_at_call 48; with_reducible refine (DL1 _).out.mono ?_; rintro e w' ⟨rfl, n, rfl⟩) | (go_at_call 48; with_reducible refine (DL2 _).out.mono ?_; rintro e w' ⟨rfl, n, rfl⟩) | (go_at_call 20; with_reducible refine (DS _).out.mono ?_; rintro e w' ⟨rfl, n, rfl⟩))
    go_ret
    exact ⟨rfl, BC.out _⟩
  clear h30 DS
  by_cases hpos : 0 < l.length
  · have hpos' : (0 : Int) < (l.length : Int) := by omega
    rcases H.out with h0 | ⟨b, o, rfl, hb, hc⟩
    · rw [h0] at hpos; simp at hpos
    obtain ⟨d1, d2, d3, d4, d5⟩ := hc 0 l[0] (List.getElem?_eq_getElem hpos)
    obtain ⟨m0, hm0⟩ : ∃ m0, l[0] = m0 := ⟨_, rfl⟩
    rw [hm0] at d1 d2 d3 d4 d5
    have E1 := KD1 m0
    have E2' := KD2 m0
    obtain ⟨A, hA⟩ : ∃ A, fa m0 = A := ⟨_, rfl⟩
    obtain ⟨B1, hB1⟩ : ∃ A, fb m0 = A := ⟨_, rfl⟩
    obtain ⟨g, hg⟩ : ∃ A, fe m0 = A := ⟨_, rfl⟩
    simp only [hA, hB1, hg] at E1 E2'
    obtain ⟨m1, m2, m3, m4, m5⟩ := m0
    simp only [Nat.zero_mul, Nat.add_zero] at d1 d2 d3 d4 d5
    simp only at E1 E2'
    have c0' : ∀ (o : Nat) (v : Value), w.cell? ⟨b, o, none⟩ = some v → ∀ W, Below w.heap.size w W → W.cell? ⟨b, o, none⟩ = some v := fun o v hv W hbW => (hbW.cell (p := ⟨b, o, none⟩) hb).trans hv
    have HMM := Lib.hid (And.intro (c0' _ _ d1) (And.intro (c0' _ _ d2) (And.intro (c0' _ _ d3) (And.intro (c0' _ _ d4) (c0' _ _ d5)))))
    have HBL := Lib.hid hb
    clear d1 d2 d3 d4 d5 c0' hc hb hm0 hA hB1 hg KD1 KD2 H hpos
    go_upto_region 4 with (first | (go_at_call 19; with_reducible refine (D1 _).out.mono ?_; rintro e w' ⟨rfl, n, rfl⟩) | (go_at_call 48; with_reducible refine (DL1 _).out.mono ?_; rintro e w' ⟨rfl, n, rfl⟩) | (go_at_call 48; with_reducible refine (DL2 _).out.mono ?_; rintro e w' ⟨rfl, n, rfl⟩))
    have S1 : St w n.w [(w.heap.size, 0, .slice q1 cs.length c1), (w.heap.size, 1, .slice q2 ps.length c2), (w.heap.size, 2, .slice q3 rs.length c3)] := ⟨BC.out n, LC.out n⟩
    obtain ⟨W0, hW0⟩ : ∃ W0, n.w = W0 := ⟨_, rfl⟩
    rw [hW0] at S1 ⊢
    clear hW0 D1 DL1 DL2
    obtain ⟨Q, hC0, HQ, LQ, BQ, hne⟩ := cls S1
    haveI := hne
    obtain ⟨q0, rfl⟩ : ∃ n : Wd Q, W0 = n.w := ⟨⟨_, hC0⟩, rfl⟩
    have fQ0 : ∀ n : Wd Q, n.w.cell? ⟨w.heap.size, 0, none⟩ = some (.slice q1 cs.length c1) := fun n => (LQ.out n).1.2.1
    have fQ1 : ∀ n : Wd Q, n.w.cell? ⟨w.heap.size, 1, none⟩ = some (.slice q2 ps.length c2) := fun n => (LQ.out n).2.1.2.1
    have fQ2 : ∀ n : Wd Q, n.w.cell? ⟨w.heap.size, 2, none⟩ = some (.slice q3 rs.length c3) := fun n => (LQ.out n).2.2.1.2.1
    clear S1 hC0
    have hbw : w.heap.size < q0.w.heap.size := (LQ.out q0).1.1
    have hbb : b < q0.w.heap.size := Nat.lt_of_lt_of_le HBL.out (BQ.out q0).size
    have HCS := Lib.hid (And.intro (fQ0 q0) (And.intro (fQ1 q0) (And.intro (fQ2 q0) (And.intro (HMM.out.1 _ (BQ.out q0)) (And.intro (HMM.out.2.1 _ (BQ.out q0)) (And.intro (HMM.out.2.2.1 _ (BQ.out q0)) (And.intro (HMM.out.2.2.2.1 _ (BQ.out q0)) (HMM.out.2.2.2.2 _ (BQ.out q0)))))))))
    have HBF := Lib.hid (BQ.out q0)
    have hLS : ∀ x ∈ ([(w.heap.size, 0, .slice q1 cs.length c1), (w.heap.size, 1, .slice q2 ps.length c2), (w.heap.size, 2, .slice q3 rs.length c3), (b, o, .int .i64 m1), (b, o + 1, .int .i64 m2), (b, o + 2, .int .i64 m3), (b, o + 3, .int .i64 m4), (b, o + 4, .int .i64 m5)] : List (Nat × Nat × Value)), x.1 < q0.w.heap.size := by simp only [List.forall_mem_cons, List.not_mem_nil, false_implies, implies_true, and_true]; omega
    have S0 : Hid ((q0.w.drew.cell? ⟨w.heap.size, 0, none⟩ = some (.slice q1 cs.length c1) ∧ q0.w.drew.cell? ⟨w.heap.size, 1, none⟩ = some (.slice q2 ps.length c2) ∧ q0.w.drew.cell? ⟨w.heap.size, 2, none⟩ = some (.slice q3 rs.length c3) ∧ q0.w.drew.cell? ⟨b, o, none⟩ = some (.int .i64 m1) ∧ q0.w.drew.cell? ⟨b, o + 1, none⟩ = some (.int .i64 m2) ∧ q0.w.drew.cell? ⟨b, o + 2, none⟩ = some (.int .i64 m3) ∧ q0.w.drew.cell? ⟨b, o + 3, none⟩ = some (.int .i64 m4) ∧ q0.w.drew.cell? ⟨b, o + 4, none⟩ = some (.int .i64 m5)) ∧ Below q0.w.heap.size q0.w q0.w.drew) := hStart (L := [(w.heap.size, 0, .slice q1 cs.length c1), (w.heap.size, 1, .slice q2 ps.length c2), (w.heap.size, 2, .slice q3 rs.length c3), (b, o, .int .i64 m1), (b, o + 1, .int .i64 m2), (b, o + 2, .int .i64 m3), (b, o + 3, .int .i64 m4), (b, o + 4, .int .i64 m5)]) hLS HCS.out
    have KC : ∀ W W', Hid (Below W.heap.size W W' → ((W.cell? ⟨w.heap.size, 0, none⟩ = some (.slice q1 cs.length c1) ∧ W.cell? ⟨w.heap.size, 1, none⟩ = some (.slice q2 ps.length c2) ∧ W.cell? ⟨w.heap.size, 2, none⟩ = some (.slice q3 rs.length c3) ∧ W.cell? ⟨b, o, none⟩ = some (.int .i64 m1) ∧ W.cell? ⟨b, o + 1, none⟩ = some (.int .i64 m2) ∧ W.cell? ⟨b, o + 2, none⟩ = some (.int .i64 m3) ∧ W.cell? ⟨b, o + 3, none⟩ = some (.int .i64 m4) ∧ W.cell? ⟨b, o + 4, none⟩ = some (.int .i64 m5)) ∧ Below q0.w.heap.size q0.w W) → ((W'.cell? ⟨w.heap.size, 0, none⟩ = some (.slice q1 cs.length c1) ∧ W'.cell? ⟨w.heap.size, 1, none⟩ = some (.slice q2 ps.length c2) ∧ W'.cell? ⟨w.heap.size, 2, none⟩ = some (.slice q3 rs.length c3) ∧ W'.cell? ⟨b, o, none⟩ = some (.int .i64 m1) ∧ W'.cell? ⟨b, o + 1, none⟩ = some (.int .i64 m2) ∧ W'.cell? ⟨b, o + 2, none⟩ = some (.int .i64 m3) ∧ W'.cell? ⟨b, o + 3, none⟩ = some (.int .i64 m4) ∧ W'.cell? ⟨b, o + 4, none⟩ = some (.int .i64 m5)) ∧ Below q0.w.heap.size q0.w W')) := fun W W' h1 h2 => hCall (L := [(w.heap.size, 0, .slice q1 cs.length c1), (w.heap.size, 1, .slice q2 ps.length c2), (w.heap.size, 2, .slice q3 rs.length c3), (b, o, .int .i64 m1), (b, o + 1, .int .i64 m2), (b, o + 2, .int .i64 m3), (b, o + 3, .int .i64 m4), (b, o + 4, .int .i64 m5)]) hLS h1 h2
    have KS : ∀ (W : World) (kk : Nat) (v0 v1 : Value), Hid (q0.w.heap.size ≤ kk → ((W.cell? ⟨w.heap.size, 0, none⟩ = some (.slice q1 cs.length c1) ∧ W.cell? ⟨w.heap.size, 1, none⟩ = some (.slice q2 ps.length c2) ∧ W.cell? ⟨w.heap.size, 2, none⟩ = some (.slice q3 rs.length c3) ∧ W.cell? ⟨b, o, none⟩ = some (.int .i64 m1) ∧ W.cell? ⟨b, o + 1, none⟩ = some (.int .i64 m2) ∧ W.cell? ⟨b, o + 2, none⟩ = some (.int .i64 m3) ∧ W.cell? ⟨b, o + 3, none⟩ = some (.int .i64 m4) ∧ W.cell? ⟨b, o + 4, none⟩ = some (.int .i64 m5)) ∧ Below q0.w.heap.size q0.w W) → ((((W.setCell ⟨kk, 0, none⟩ v0).setCell ⟨kk, 1, none⟩ v1).cell? ⟨w.heap.size, 0, none⟩ = some (.slice q1 cs.length c1) ∧ ((W.setCell ⟨kk, 0, none⟩ v0).setCell ⟨kk, 1, none⟩ v1).cell? ⟨w.heap.size, 1, none⟩ = some (.slice q2 ps.length c2) ∧ ((W.setCell ⟨kk, 0, none⟩ v0).setCell ⟨kk, 1, none⟩ v1).cell? ⟨w.heap.size, 2, none⟩ = some (.slice q3 rs.length c3) ∧ ((W.setCell ⟨kk, 0, none⟩ v0).setCell ⟨kk, 1, none⟩ v1).cell? ⟨b, o, none⟩ = some (.int .i64 m1) ∧ ((W.setCell ⟨kk, 0, none⟩ v0).setCell ⟨kk, 1, none⟩ v1).cell? ⟨b, o + 1, none⟩ = some (.int .i64 m2) ∧ ((W.setCell ⟨kk, 0, none⟩ v0).setCell ⟨kk, 1, none⟩ v1).cell? ⟨b, o + 2, none⟩ = some (.int .i64 m3) ∧ ((W.setCell ⟨kk, 0, none⟩ v0).setCell ⟨kk, 1, none⟩ v1).cell? ⟨b, o + 3, none⟩ = some (.int .i64 m4) ∧ ((W.setCell ⟨kk, 0, none⟩ v0).setCell ⟨kk, 1, none⟩ v1).cell? ⟨b, o + 4, none⟩ = some (.int .i64 m5)) ∧ Below q0.w.heap.size q0.w ((W.setCell ⟨kk, 0, none⟩ v0).setCell ⟨kk, 1, none⟩ v1))) := fun W kk v0 v1 h h2 => hSet2 (L := [(w.heap.size, 0, .slice q1 cs.length c1), (w.heap.size, 1, .slice q2 ps.length c2), (w.heap.size, 2, .slice q3 rs.length c3), (b, o, .int .i64 m1), (b, o + 1, .int .i64 m2), (b, o + 2, .int .i64 m3), (b, o + 3, .int .i64 m4), (b, o + 4, .int .i64 m5)]) hLS h h2
    have KA : ∀ (W : World) (ob1 ob2 : Obj), Hid (q0.w.heap.size ≤ W.heap.size → (((W.alloc ob1).cell? ⟨w.heap.size, 0, none⟩ = some (.slice q1 cs.length c1) ∧ (W.alloc ob1).cell? ⟨w.heap.size, 1, none⟩ = some (.slice q2 ps.length c2) ∧ (W.alloc ob1).cell? ⟨w.heap.size, 2, none⟩ = some (.slice q3 rs.length c3) ∧ (W.alloc ob1).cell? ⟨b, o, none⟩ = some (.int .i64 m1) ∧ (W.alloc ob1).cell? ⟨b, o + 1, none⟩ = some (.int .i64 m2) ∧ (W.alloc ob1).cell? ⟨b, o + 2, none⟩ = some (.int .i64 m3) ∧ (W.alloc ob1).cell? ⟨b, o + 3, none⟩ = some (.int .i64 m4) ∧ (W.alloc ob1).cell? ⟨b, o + 4, none⟩ = some (.int .i64 m5)) ∧ Below q0.w.heap.size q0.w (W.alloc ob1)) → (((W.alloc ob2).cell? ⟨w.heap.size, 0, none⟩ = some (.slice q1 cs.length c1) ∧ (W.alloc ob2).cell? ⟨w.heap.size, 1, none⟩ = some (.slice q2 ps.length c2) ∧ (W.alloc ob2).cell? ⟨w.heap.size, 2, none⟩ = some (.slice q3 rs.length c3) ∧ (W.alloc ob2).cell? ⟨b, o, none⟩ = some (.int .i64 m1) ∧ (W.alloc ob2).cell? ⟨b, o + 1, none⟩ = some (.int .i64 m2) ∧ (W.alloc ob2).cell? ⟨b, o + 2, none⟩ = some (.int .i64 m3) ∧ (W.alloc ob2).cell? ⟨b, o + 3, none⟩ = some (.int .i64 m4) ∧ (W.alloc ob2).cell? ⟨b, o + 4, none⟩ = some (.int .i64 m5)) ∧ Below q0.w.heap.size q0.w (W.alloc ob2))) := fun W ob1 ob2 h h2 => hAl2 (L := [(w.heap.size, 0, .slice q1 cs.length c1), (w.heap.size, 1, .slice q2 ps.length c2), (w.heap.size, 2, .slice q3 rs.length c3), (b, o, .int .i64 m1), (b, o + 1, .int .i64 m2), (b, o + 2, .int .i64 m3), (b, o + 3, .int .i64 m4), (b, o + 4, .int .i64 m5)]) hLS h h2
    have E2 := fun W (h : (W.cell? ⟨w.heap.size, 0, none⟩ = some (.slice q1 cs.length c1) ∧ W.cell? ⟨w.heap.size, 1, none⟩ = some (.slice q2 ps.length c2) ∧ W.cell? ⟨w.heap.size, 2, none⟩ = some (.slice q3 rs.length c3) ∧ W.cell? ⟨b, o, none⟩ = some (.int .i64 m1) ∧ W.cell? ⟨b, o + 1, none⟩ = some (.int .i64 m2) ∧ W.cell? ⟨b, o + 2, none⟩ = some (.int .i64 m3) ∧ W.cell? ⟨b, o + 3, none⟩ = some (.int .i64 m4) ∧ W.cell? ⟨b, o + 4, none⟩ = some (.int .i64 m5)) ∧ Below q0.w.heap.size q0.w W) => Lib.hid (E1 W (HBF.out.trans (h.2.mono HBF.out.size)))
    have KZ : ∀ W W', Hid (Below W.heap.size W W' → ((W.cell? ⟨w.heap.size, 0, none⟩ = some (.slice q1 cs.length c1) ∧ W.cell? ⟨w.heap.size, 1, none⟩ = some (.slice q2 ps.length c2) ∧ W.cell? ⟨w.heap.size, 2, none⟩ = some (.slice q3 rs.length c3) ∧ W.cell? ⟨b, o, none⟩ = some (.int .i64 m1) ∧ W.cell? ⟨b, o + 1, none⟩ = some (.int .i64 m2) ∧ W.cell? ⟨b, o + 2, none⟩ = some (.int .i64 m3) ∧ W.cell? ⟨b, o + 3, none⟩ = some (.int .i64 m4) ∧ W.cell? ⟨b, o + 4, none⟩ = some (.int .i64 m5)) ∧ Below q0.w.heap.size q0.w W) → q0.w.heap.size ≤ W'.heap.size) := fun W W' h1 h2 => Nat.le_trans h2.2.size h1.size
    clear hLS hbb hbw
    go_region_held3 (fun W => (W.cell? ⟨w.heap.size, 0, none⟩ = some (.slice q1 cs.length c1) ∧ W.cell? ⟨w.heap.size, 1, none⟩ = some (.slice q2 ps.length c2) ∧ W.cell? ⟨w.heap.size, 2, none⟩ = some (.slice q3 rs.length c3) ∧ W.cell? ⟨b, o, none⟩ = some (.int .i64 m1) ∧ W.cell? ⟨b, o + 1, none⟩ = some (.int .i64 m2) ∧ W.cell? ⟨b, o + 2, none⟩ = some (.int .i64 m3) ∧ W.cell? ⟨b, o + 3, none⟩ = some (.int .i64 m4) ∧ W.cell? ⟨b, o + 4, none⟩ = some (.int .i64 m5)) ∧ Below q0.w.heap.size q0.w W)
      (first | (with_reducible exact S0.out) | (with_reducible exact (KC _ _).out (by assumption) (by assumption)) | (with_reducible exact (KC _ _).out (below_al _ _) (by assumption)) | (with_reducible exact (KA _ _ _).out (by assumption) (by assumption)) | (with_reducible exact (KS _ _ _ _).out (by first | assumption | omega | (simp; omega) | simp) (by assumption)))
      (first | (go_at_call 49; with_reducible refine (E2 _ (by assumption)).out.mono ?_; rintro e w' ⟨rfl, hb⟩; have hn := (KZ _ _).out hb (by with_reducible assumption); (first | (with_reducible have hz := new2 hb) | (with_reducible have hz := new2d hb) | skip)))
    all_goals
      rename_i hHeld
      first
        | (obtain ⟨W1, hW1⟩ : ∃ W1, w'.alloc (.cells #[.int .i64 A, .int .i64 B1] 30) = W1 := ⟨_, rfl⟩
           have HM : Made2 q0.w W1 w'.heap.size (.int .i64 A) (.int .i64 B1) := by rw [← hW1]; exact made2_al (L := [(w.heap.size, 0, .slice q1 cs.length c1), (w.heap.size, 1, .slice q2 ps.length c2), (w.heap.size, 2, .slice q3 rs.length c3), (b, o, .int .i64 m1), (b, o + 1, .int .i64 m2), (b, o + 2, .int .i64 m3), (b, o + 3, .int .i64 m4), (b, o + 4, .int .i64 m5)]) hn hHeld
           obtain ⟨kA, hk1⟩ : ∃ k, w'.heap.size = k := ⟨_, rfl⟩
           rw [hk1] at HM
           rw [hW1, hk1]
           clear hW1 hk1 hHeld hn hb)
        | (obtain ⟨W1, hW1⟩ : ∃ W1, (w'.setCell ⟨q0.w.heap.size, 0, none⟩ (.int .i64 A)).setCell ⟨q0.w.heap.size, 1, none⟩ (.int .i64 B1) = W1 := ⟨_, rfl⟩
           have hlt : q0.w.heap.size < w'.heap.size := by have := hb.size; simp at this; omega
           have HM : Made2 q0.w W1 q0.w.heap.size (.int .i64 A) (.int .i64 B1) := by rw [← hW1]; exact made2_set (L := [(w.heap.size, 0, .slice q1 cs.length c1), (w.heap.size, 1, .slice q2 ps.length c2), (w.heap.size, 2, .slice q3 rs.length c3), (b, o, .int .i64 m1), (b, o + 1, .int .i64 m2), (b, o + 2, .int .i64 m3), (b, o + 3, .int .i64 m4), (b, o + 4, .int .i64 m5)]) (Nat.le_refl _) hlt hz.1 hz.2 hHeld
           obtain ⟨kA, hk1⟩ : ∃ k, q0.w.heap.size = k := ⟨_, rfl⟩
           rw [hk1] at HM
           rw [hW1, hk1]
           clear hW1 hk1 hHeld hn hb hlt hz)
      have S3 : St w W1 ((kA, 0, .int .i64 A) :: (kA, 1, .int .i64 B1) :: [(w.heap.size, 0, .slice q1 cs.length c1), (w.heap.size, 1, .slice q2 ps.length c2), (w.heap.size, 2, .slice q3 rs.length c3)]) := St.made2 ⟨HBF.out, LQ.out q0⟩ HM
      clear S0 KC KS KA E2 KZ HM HCS HBF
      obtain ⟨P, hC0, HP, LP, BP, hne⟩ := cls S3
      haveI := hne
      obtain ⟨p0, rfl⟩ : ∃ n : Wd P, W1 = n.w := ⟨⟨_, hC0⟩, rfl⟩
      have fP0 : ∀ n : Wd P, n.w.cell? ⟨kA, 0, none⟩ = some (.int .i64 A) := fun n => (LP.out n).1.2.1
      have fP1 : ∀ n : Wd P, n.w.cell? ⟨kA, 1, none⟩ = some (.int .i64 B1) := fun n => (LP.out n).2.1.2.1
      have fP2 : ∀ n : Wd P, n.w.cell? ⟨w.heap.size, 0, none⟩ = some (.slice q1 cs.length c1) := fun n => (LP.out n).2.2.1.2.1
      have fP3 : ∀ n : Wd P, n.w.cell? ⟨w.heap.size, 1, none⟩ = some (.slice q2 ps.length c2) := fun n => (LP.out n).2.2.2.1.2.1
      have fP4 : ∀ n : Wd P, n.w.cell? ⟨w.heap.size, 2, none⟩ = some (.slice q3 rs.length c3) := fun n => (LP.out n).2.2.2.2.1.2.1
      clear S3 hC0
      clear E1
      go_upto_region 5 with fail
      have hbw : w.heap.size < p0.w.heap.size := (LP.out p0).2.2.1.1
      have hbb : b < p0.w.heap.size := Nat.lt_of_lt_of_le HBL.out (BP.out p0).size
      have HCS := Lib.hid (And.intro (fP2 p0) (And.intro (fP3 p0) (And.intro (fP4 p0) (And.intro (HMM.out.1 _ (BP.out p0)) (And.intro (HMM.out.2.1 _ (BP.out p0)) (And.intro (HMM.out.2.2.1 _ (BP.out p0)) (And.intro (HMM.out.2.2.2.1 _ (BP.out p0)) (HMM.out.2.2.2.2 _ (BP.out p0)))))))))
      have HBF := Lib.hid (BP.out p0)
      have hLS : ∀ x ∈ ([(w.heap.size, 0, .slice q1 cs.length c1), (w.heap.size, 1, .slice q2 ps.length c2), (w.heap.size, 2, .slice q3 rs.length c3), (b, o, .int .i64 m1), (b, o + 1, .int .i64 m2), (b, o + 2, .int .i64 m3), (b, o + 3, .int .i64 m4), (b, o + 4, .int .i64 m5)] : List (Nat × Nat × Value)), x.1 < p0.w.heap.size := by simp only [List.forall_mem_cons, List.not_mem_nil, false_implies, implies_true, and_true]; omega
      have S0 : Hid ((p0.w.drew.cell? ⟨w.heap.size, 0, none⟩ = some (.slice q1 cs.length c1) ∧ p0.w.drew.cell? ⟨w.heap.size, 1, none⟩ = some (.slice q2 ps.length c2) ∧ p0.w.drew.cell? ⟨w.heap.size, 2, none⟩ = some (.slice q3 rs.length c3) ∧ p0.w.drew.cell? ⟨b, o, none⟩ = some (.int .i64 m1) ∧ p0.w.drew.cell? ⟨b, o + 1, none⟩ = some (.int .i64 m2) ∧ p0.w.drew.cell? ⟨b, o + 2, none⟩ = some (.int .i64 m3) ∧ p0.w.drew.cell? ⟨b, o + 3, none⟩ = some (.int .i64 m4) ∧ p0.w.drew.cell? ⟨b, o + 4, none⟩ = some (.int .i64 m5)) ∧ Below p0.w.heap.size p0.w p0.w.drew) := hStart (L := [(w.heap.size, 0, .slice q1 cs.length c1), (w.heap.size, 1, .slice q2 ps.length c2), (w.heap.size, 2, .slice q3 rs.length c3), (b, o, .int .i64 m1), (b, o + 1, .int .i64 m2), (b, o + 2, .int .i64 m3), (b, o + 3, .int .i64 m4), (b, o + 4, .int .i64 m5)]) hLS HCS.out
      have KC : ∀ W W', Hid (Below W.heap.size W W' → ((W.cell? ⟨w.heap.size, 0, none⟩ = some (.slice q1 cs.length c1) ∧ W.cell? ⟨w.heap.size, 1, none⟩ = some (.slice q2 ps.length c2) ∧ W.cell? ⟨w.heap.size, 2, none⟩ = some (.slice q3 rs.length c3) ∧ W.cell? ⟨b, o, none⟩ = some (.int .i64 m1) ∧ W.cell? ⟨b, o + 1, none⟩ = some (.int .i64 m2) ∧ W.cell? ⟨b, o + 2, none⟩ = some (.int .i64 m3) ∧ W.cell? ⟨b, o + 3, none⟩ = some (.int .i64 m4) ∧ W.cell? ⟨b, o + 4, none⟩ = some (.int .i64 m5)) ∧ Below p0.w.heap.size p0.w W) → ((W'.cell? ⟨w.heap.size, 0, none⟩ = some (.slice q1 cs.length c1) ∧ W'.cell? ⟨w.heap.size, 1, none⟩ = some (.slice q2 ps.length c2) ∧ W'.cell? ⟨w.heap.size, 2, none⟩ = some (.slice q3 rs.length c3) ∧ W'.cell? ⟨b, o, none⟩ = some (.int .i64 m1) ∧ W'.cell? ⟨b, o + 1, none⟩ = some (.int .i64 m2) ∧ W'.cell? ⟨b, o + 2, none⟩ = some (.int .i64 m3) ∧ W'.cell? ⟨b, o + 3, none⟩ = some (.int .i64 m4) ∧ W'.cell? ⟨b, o + 4, none⟩ = some (.int .i64 m5)) ∧ Below p0.w.heap.size p0.w W')) := fun W W' h1 h2 => hCall (L := [(w.heap.size, 0, .slice q1 cs.length c1), (w.heap.size, 1, .slice q2 ps.length c2), (w.heap.size, 2, .slice q3 rs.length c3), (b, o, .int .i64 m1), (b, o + 1, .int .i64 m2), (b, o + 2, .int .i64 m3), (b, o + 3, .int .i64 m4), (b, o + 4, .int .i64 m5)]) hLS h1 h2
      have KS : ∀ (W : World) (kk : Nat) (v0 v1 : Value), Hid (p0.w.heap.size ≤ kk → ((W.cell? ⟨w.heap.size, 0, none⟩ = some (.slice q1 cs.length c1) ∧ W.cell? ⟨w.heap.size, 1, none⟩ = some (.slice q2 ps.length c2) ∧ W.cell? ⟨w.heap.size, 2, none⟩ = some (.slice q3 rs.length c3) ∧ W.cell? ⟨b, o, none⟩ = some (.int .i64 m1) ∧ W.cell? ⟨b, o + 1, none⟩ = some (.int .i64 m2) ∧ W.cell? ⟨b, o + 2, none⟩ = some (.int .i64 m3) ∧ W.cell? ⟨b, o + 3, none⟩ = some (.int .i64 m4) ∧ W.cell? ⟨b, o + 4, none⟩ = some (.int .i64 m5)) ∧ Below p0.w.heap.size p0.w W) → ((((W.setCell ⟨kk, 0, none⟩ v0).setCell ⟨kk, 1, none⟩ v1).cell? ⟨w.heap.size, 0, none⟩ = some (.slice q1 cs.length c1) ∧ ((W.setCell ⟨kk, 0, none⟩ v0).setCell ⟨kk, 1, none⟩ v1).cell? ⟨w.heap.size, 1, none⟩ = some (.slice q2 ps.length c2) ∧ ((W.setCell ⟨kk, 0, none⟩ v0).setCell ⟨kk, 1, none⟩ v1).cell? ⟨w.heap.size, 2, none⟩ = some (.slice q3 rs.length c3) ∧ ((W.setCell ⟨kk, 0, none⟩ v0).setCell ⟨kk, 1, none⟩ v1).cell? ⟨b, o, none⟩ = some (.int .i64 m1) ∧ ((W.setCell ⟨kk, 0, none⟩ v0).setCell ⟨kk, 1, none⟩ v1).cell? ⟨b, o + 1, none⟩ = some (.int .i64 m2) ∧ ((W.setCell ⟨kk, 0, none⟩ v0).setCell ⟨kk, 1, none⟩ v1).cell? ⟨b, o + 2, none⟩ = some (.int .i64 m3) ∧ ((W.setCell ⟨kk, 0, none⟩ v0).setCell ⟨kk, 1, none⟩ v1).cell? ⟨b, o + 3, none⟩ = some (.int .i64 m4) ∧ ((W.setCell ⟨kk, 0, none⟩ v0).setCell ⟨kk, 1, none⟩ v1).cell? ⟨b, o + 4, none⟩ = some (.int .i64 m5)) ∧ Below p0.w.heap.size p0.w ((W.setCell ⟨kk, 0, none⟩ v0).setCell ⟨kk, 1, none⟩ v1))) := fun W kk v0 v1 h h2 => hSet2 (L := [(w.heap.size, 0, .slice q1 cs.length c1), (w.heap.size, 1, .slice q2 ps.length c2), (w.heap.size, 2, .slice q3 rs.length c3), (b, o, .int .i64 m1), (b, o + 1, .int .i64 m2), (b, o + 2, .int .i64 m3), (b, o + 3, .int .i64 m4), (b, o + 4, .int .i64 m5)]) hLS h h2
      have KA : ∀ (W : World) (ob1 ob2 : Obj), Hid (p0.w.heap.size ≤ W.heap.size → (((W.alloc ob1).cell? ⟨w.heap.size, 0, none⟩ = some (.slice q1 cs.length c1) ∧ (W.alloc ob1).cell? ⟨w.heap.size, 1, none⟩ = some (.slice q2 ps.length c2) ∧ (W.alloc ob1).cell? ⟨w.heap.size, 2, none⟩ = some (.slice q3 rs.length c3) ∧ (W.alloc ob1).cell? ⟨b, o, none⟩ = some (.int .i64 m1) ∧ (W.alloc ob1).cell? ⟨b, o + 1, none⟩ = some (.int .i64 m2) ∧ (W.alloc ob1).cell? ⟨b, o + 2, none⟩ = some (.int .i64 m3) ∧ (W.alloc ob1).cell? ⟨b, o + 3, none⟩ = some (.int .i64 m4) ∧ (W.alloc ob1).cell? ⟨b, o + 4, none⟩ = some (.int .i64 m5)) ∧ Below p0.w.heap.size p0.w (W.alloc ob1)) → (((W.alloc ob2).cell? ⟨w.heap.size, 0, none⟩ = some (.slice q1 cs.length c1) ∧ (W.alloc ob2).cell? ⟨w.heap.size, 1, none⟩ = some (.slice q2 ps.length c2) ∧ (W.alloc ob2).cell? ⟨w.heap.size, 2, none⟩ = some (.slice q3 rs.length c3) ∧ (W.alloc ob2).cell? ⟨b, o, none⟩ = some (.int .i64 m1) ∧ (W.alloc ob2).cell? ⟨b, o + 1, none⟩ = some (.int .i64 m2) ∧ (W.alloc ob2).cell? ⟨b, o + 2, none⟩ = some (.int .i64 m3) ∧ (W.alloc ob2).cell? ⟨b, o + 3, none⟩ = some (.int .i64 m4) ∧ (W.alloc ob2).cell? ⟨b, o + 4, none⟩ = some (.int .i64 m5)) ∧ Below p0.w.heap.size p0.w (W.alloc ob2))) := fun W ob1 ob2 h h2 => hAl2 (L := [(w.heap.size, 0, .slice q1 cs.length c1), (w.heap.size, 1, .slice q2 ps.length c2), (w.heap.size, 2, .slice q3 rs.length c3), (b, o, .int .i64 m1), (b, o + 1, .int .i64 m2), (b, o + 2, .int .i64 m3), (b, o + 3, .int .i64 m4), (b, o + 4, .int .i64 m5)]) hLS h h2
      have E2 := fun W (h : (W.cell? ⟨w.heap.size, 0, none⟩ = some (.slice q1 cs.length c1) ∧ W.cell? ⟨w.heap.size, 1, none⟩ = some (.slice q2 ps.length c2) ∧ W.cell? ⟨w.heap.size, 2, none⟩ = some (.slice q3 rs.length c3) ∧ W.cell? ⟨b, o, none⟩ = some (.int .i64 m1) ∧ W.cell? ⟨b, o + 1, none⟩ = some (.int .i64 m2) ∧ W.cell? ⟨b, o + 2, none⟩ = some (.int .i64 m3) ∧ W.cell? ⟨b, o + 3, none⟩ = some (.int .i64 m4) ∧ W.cell? ⟨b, o + 4, none⟩ = some (.int .i64 m5)) ∧ Below p0.w.heap.size p0.w W) => Lib.hid (E2' W (HBF.out.trans (h.2.mono HBF.out.size)))
      have KZ : ∀ W W', Hid (Below W.heap.size W W' → ((W.cell? ⟨w.heap.size, 0, none⟩ = some (.slice q1 cs.length c1) ∧ W.cell? ⟨w.heap.size, 1, none⟩ = some (.slice q2 ps.length c2) ∧ W.cell? ⟨w.heap.size, 2, none⟩ = some (.slice q3 rs.length c3) ∧ W.cell? ⟨b, o, none⟩ = some (.int .i64 m1) ∧ W.cell? ⟨b, o + 1, none⟩ = some (.int .i64 m2) ∧ W.cell? ⟨b, o + 2, none⟩ = some (.int .i64 m3) ∧ W.cell? ⟨b, o + 3, none⟩ = some (.int .i64 m4) ∧ W.cell? ⟨b, o + 4, none⟩ = some (.int .i64 m5)) ∧ Below p0.w.heap.size p0.w W) → p0.w.heap.size ≤ W'.heap.size) := fun W W' h1 h2 => Nat.le_trans h2.2.size h1.size
      clear hLS hbb hbw
      go_region_held3 (fun W => (W.cell? ⟨w.heap.size, 0, none⟩ = some (.slice q1 cs.length c1) ∧ W.cell? ⟨w.heap.size, 1, none⟩ = some (.slice q2 ps.length c2) ∧ W.cell? ⟨w.heap.size, 2, none⟩ = some (.slice q3 rs.length c3) ∧ W.cell? ⟨b, o, none⟩ = some (.int .i64 m1) ∧ W.cell? ⟨b, o + 1, none⟩ = some (.int .i64 m2) ∧ W.cell? ⟨b, o + 2, none⟩ = some (.int .i64 m3) ∧ W.cell? ⟨b, o + 3, none⟩ = some (.int .i64 m4) ∧ W.cell? ⟨b, o + 4, none⟩ = some (.int .i64 m5)) ∧ Below p0.w.heap.size p0.w W)
        (first | (with_reducible exact S0.out) | (with_reducible exact (KC _ _).out (by assumption) (by assumption)) | (with_reducible exact (KC _ _).out (below_al _ _) (by assumption)) | (with_reducible exact (KA _ _ _).out (by assumption) (by assumption)) | (with_reducible exact (KS _ _ _ _).out (by first | assumption | omega | (simp; omega) | simp) (by assumption)))
        (first | (go_at_call 50; with_reducible refine (E2 _ (by assumption)).out.mono ?_; rintro e w' ⟨rfl, hb⟩; have hn := (KZ _ _).out hb (by with_reducible assumption); (first | (with_reducible have hz := new2 hb) | (with_reducible have hz := new2d hb) | skip)))
      all_goals
        rename_i hHeld
        first
          | (obtain ⟨W1, hW1⟩ : ∃ W1, w'.alloc (.cells #[.int .i64 A, .int .i64 B1] 30) = W1 := ⟨_, rfl⟩
             have HM : Made2 p0.w W1 w'.heap.size (.int .i64 A) (.int .i64 B1) := by rw [← hW1]; exact made2_al (L := [(w.heap.size, 0, .slice q1 cs.length c1), (w.heap.size, 1, .slice q2 ps.length c2), (w.heap.size, 2, .slice q3 rs.length c3), (b, o, .int .i64 m1), (b, o + 1, .int .i64 m2), (b, o + 2, .int .i64 m3), (b, o + 3, .int .i64 m4), (b, o + 4, .int .i64 m5)]) hn hHeld
             obtain ⟨kB, hk1⟩ : ∃ k, w'.heap.size = k := ⟨_, rfl⟩
             rw [hk1] at HM
             rw [hW1, hk1]
             clear hW1 hk1 hHeld hn hb)
          | (obtain ⟨W1, hW1⟩ : ∃ W1, (w'.setCell ⟨p0.w.heap.size, 0, none⟩ (.int .i64 A)).setCell ⟨p0.w.heap.size, 1, none⟩ (.int .i64 B1) = W1 := ⟨_, rfl⟩
             have hlt : p0.w.heap.size < w'.heap.size := by have := hb.size; simp at this; omega
             have HM : Made2 p0.w W1 p0.w.heap.size (.int .i64 A) (.int .i64 B1) := by rw [← hW1]; exact made2_set (L := [(w.heap.size, 0, .slice q1 cs.length c1), (w.heap.size, 1, .slice q2 ps.length c2), (w.heap.size, 2, .slice q3 rs.length c3), (b, o, .int .i64 m1), (b, o + 1, .int .i64 m2), (b, o + 2, .int .i64 m3), (b, o + 3, .int .i64 m4), (b, o + 4, .int .i64 m5)]) (Nat.le_refl _) hlt hz.1 hz.2 hHeld
             obtain ⟨kB, hk1⟩ : ∃ k, p0.w.heap.size = k := ⟨_, rfl⟩
             rw [hk1] at HM
             rw [hW1, hk1]
             clear hW1 hk1 hHeld hn hb hlt hz)
        have S3 : St w W1 ((kB, 0, .int .i64 A) :: (kB, 1, .int .i64 B1) :: [(kA, 0, .int .i64 A), (kA, 1, .int .i64 B1), (w.heap.size, 0, .slice q1 cs.length c1), (w.heap.size, 1, .slice q2 ps.length c2), (w.heap.size, 2, .slice q3 rs.length c3)]) := St.made2 ⟨HBF.out, LP.out p0⟩ HM
        clear S0 KC KS KA E2 KZ HM HCS HBF
        obtain ⟨R, hC0, HR, LR, BR, hne⟩ := cls S3
        haveI := hne
        obtain ⟨r0, rfl⟩ : ∃ n : Wd R, W1 = n.w := ⟨⟨_, hC0⟩, rfl⟩
        have fR0 : ∀ n : Wd R, n.w.cell? ⟨kB, 0, none⟩ = some (.int .i64 A) := fun n => (LR.out n).1.2.1
        have fR1 : ∀ n : Wd R, n.w.cell? ⟨kB, 1, none⟩ = some (.int .i64 B1) := fun n => (LR.out n).2.1.2.1
        have fR2 : ∀ n : Wd R, n.w.cell? ⟨kA, 0, none⟩ = some (.int .i64 A) := fun n => (LR.out n).2.2.1.2.1
        have fR3 : ∀ n : Wd R, n.w.cell? ⟨kA, 1, none⟩ = some (.int .i64 B1) := fun n => (LR.out n).2.2.2.1.2.1
        have fR4 : ∀ n : Wd R, n.w.cell? ⟨w.heap.size, 0, none⟩ = some (.slice q1 cs.length c1) := fun n => (LR.out n).2.2.2.2.1.2.1
        have fR5 : ∀ n : Wd R, n.w.cell? ⟨w.heap.size, 1, none⟩ = some (.slice q2 ps.length c2) := fun n => (LR.out n).2.2.2.2.2.1.2.1
        have fR6 : ∀ n : Wd R, n.w.cell? ⟨w.heap.size, 2, none⟩ = some (.slice q3 rs.length c3) := fun n => (LR.out n).2.2.2.2.2.2.1.2.1
        clear S3 hC0
        clear E2' HMM HBL
        go_upto_region 8 with fail
        have T1 := cinL HR BR KT1
        go_upto_region 9 with (first | first | (go_at_call 51; with_reducible refine (T1 _).out.mono ?_; rintro e w' ⟨rfl, n, rfl⟩))
        obtain ⟨W0, hW0⟩ : ∃ W0, (n.w).alloc (.cells #[.int .i64 (ta), .int .i64 (tb)] 30) = W0 := ⟨_, rfl⟩
        have S0 : St w W0 [(n.w.heap.size, 0, .int .i64 (ta)), (n.w.heap.size, 1, .int .i64 (tb)), (kB, 0, .int .i64 A), (kB, 1, .int .i64 B1), (kA, 0, .int .i64 A), (kA, 1, .int .i64 B1), (w.heap.size, 0, .slice q1 cs.length c1), (w.heap.size, 1, .slice q2 ps.length c2), (w.heap.size, 2, .slice q3 rs.length c3)] := by rw [← hW0]; exact ((⟨BR.out n, LR.out n⟩ : St w n.w _)).box #[.int .i64 (ta), .int .i64 (tb)] 30 (n.w.heap.size) (by simp)
        rw [hW0]
        clear hW0
        obtain ⟨kX, hkk⟩ : ∃ k, n.w.heap.size = k := ⟨_, rfl⟩
        have gkX : w.heap.size ≤ kX := by rw [← hkk]; exact (BR.out n).size
        rw [hkk] at S0 ⊢
        clear hkk
        obtain ⟨X, hC0, HX, LX, BX, hne⟩ := cls S0
        haveI := hne
        obtain ⟨x0, rfl⟩ : ∃ n : Wd X, W0 = n.w := ⟨⟨_, hC0⟩, rfl⟩
        have fX0 : ∀ n : Wd X, n.w.cell? ⟨kX, 0, none⟩ = some (.int .i64 (ta)) := fun n => (LX.out n).1.2.1
        have fX1 : ∀ n : Wd X, n.w.cell? ⟨kX, 1, none⟩ = some (.int .i64 (tb)) := fun n => (LX.out n).2.1.2.1
        have fX2 : ∀ n : Wd X, n.w.cell? ⟨kB, 0, none⟩ = some (.int .i64 A) := fun n => (LX.out n).2.2.1.2.1
        have fX3 : ∀ n : Wd X, n.w.cell? ⟨kB, 1, none⟩ = some (.int .i64 B1) := fun n => (LX.out n).2.2.2.1.2.1
        have fX4 : ∀ n : Wd X, n.w.cell? ⟨kA, 0, none⟩ = some (.int .i64 A) := fun n => (LX.out n).2.2.2.2.1.2.1
        have fX5 : ∀ n : Wd X, n.w.cell? ⟨kA, 1, none⟩ = some (.int .i64 B1) := fun n => (LX.out n).2.2.2.2.2.1.2.1
        have fX6 : ∀ n : Wd X, n.w.cell? ⟨w.heap.size, 0, none⟩ = some (.slice q1 cs.length c1) := fun n => (LX.out n).2.2.2.2.2.2.1.2.1
        have fX7 : ∀ n : Wd X, n.w.cell? ⟨w.heap.size, 1, none⟩ = some (.slice q2 ps.length c2) := fun n => (LX.out n).2.2.2.2.2.2.2.1.2.1
        have fX8 : ∀ n : Wd X, n.w.cell? ⟨w.heap.size, 2, none⟩ = some (.slice q3 rs.length c3) := fun n => (LX.out n).2.2.2.2.2.2.2.2.1.2.1
        clear S0 hC0
        have T2 := cinL HX BX KT2
        go_upto_region 10 with (first | first | (go_at_call 52; with_reducible refine (T2 _).out.mono ?_; rintro e w' ⟨rfl, n, rfl⟩))
        obtain ⟨W0, hW0⟩ : ∃ W0, (n.w).alloc (.cells #[.int .i64 (ta), .int .i64 (tb)] 30) = W0 := ⟨_, rfl⟩
        have S0 : St w W0 [(n.w.heap.size, 0, .int .i64 (ta)), (n.w.heap.size, 1, .int .i64 (tb)), (kX, 0, .int .i64 (ta)), (kX, 1, .int .i64 (tb)), (kB, 0, .int .i64 A), (kB, 1, .int .i64 B1), (kA, 0, .int .i64 A), (kA, 1, .int .i64 B1), (w.heap.size, 0, .slice q1 cs.length c1), (w.heap.size, 1, .slice q2 ps.length c2), (w.heap.size, 2, .slice q3 rs.length c3)] := by rw [← hW0]; exact ((⟨BX.out n, LX.out n⟩ : St w n.w _)).box #[.int .i64 (ta), .int .i64 (tb)] 30 (n.w.heap.size) (by simp)
        rw [hW0]
        clear hW0
        obtain ⟨kY, hkk⟩ : ∃ k, n.w.heap.size = k := ⟨_, rfl⟩
        have gkY : w.heap.size ≤ kY := by rw [← hkk]; exact (BX.out n).size
        rw [hkk] at S0 ⊢
        clear hkk
        obtain ⟨Y, hC0, HY, LY, BY, hne⟩ := cls S0
        haveI := hne
        obtain ⟨y0, rfl⟩ : ∃ n : Wd Y, W0 = n.w := ⟨⟨_, hC0⟩, rfl⟩
        have fY0 : ∀ n : Wd Y, n.w.cell? ⟨kY, 0, none⟩ = some (.int .i64 (ta)) := fun n => (LY.out n).1.2.1
        have fY1 : ∀ n : Wd Y, n.w.cell? ⟨kY, 1, none⟩ = some (.int .i64 (tb)) := fun n => (LY.out n).2.1.2.1
        have fY2 : ∀ n : Wd Y, n.w.cell? ⟨kX, 0, none⟩ = some (.int .i64 (ta)) := fun n => (LY.out n).2.2.1.2.1
        have fY3 : ∀ n : Wd Y, n.w.cell? ⟨kX, 1, none⟩ = some (.int .i64 (tb)) := fun n => (LY.out n).2.2.2.1.2.1
        have fY4 : ∀ n : Wd Y, n.w.cell? ⟨kB, 0, none⟩ = some (.int .i64 A) := fun n => (LY.out n).2.2.2.2.1.2.1
        have fY5 : ∀ n : Wd Y, n.w.cell? ⟨kB, 1, none⟩ = some (.int .i64 B1) := fun n => (LY.out n).2.2.2.2.2.1.2.1
        have fY6 : ∀ n : Wd Y, n.w.cell? ⟨kA, 0, none⟩ = some (.int .i64 A) := fun n => (LY.out n).2.2.2.2.2.2.1.2.1
        have fY7 : ∀ n : Wd Y, n.w.cell? ⟨kA, 1, none⟩ = some (.int .i64 B1) := fun n => (LY.out n).2.2.2.2.2.2.2.1.2.1
        have fY8 : ∀ n : Wd Y, n.w.cell? ⟨w.heap.size, 0, none⟩ = some (.slice q1 cs.length c1) := fun n => (LY.out n).2.2.2.2.2.2.2.2.1.2.1
        have fY9 : ∀ n : Wd Y, n.w.cell? ⟨w.heap.size, 1, none⟩ = some (.slice q2 ps.length c2) := fun n => (LY.out n).2.2.2.2.2.2.2.2.2.1.2.1
        have fY10 : ∀ n : Wd Y, n.w.cell? ⟨w.heap.size, 2, none⟩ = some (.slice q3 rs.length c3) := fun n => (LY.out n).2.2.2.2.2.2.2.2.2.2.1.2.1
        clear S0 hC0
        have T3 := cinL HY BY KC1
        have T4 := cinL HY BY KC2
        have T5 := cin HY KS9
        go_wp2_with (first | first | (go_at_call 53; with_reducible refine (T3 _).out.mono ?_; rintro e w' ⟨rfl, n, rfl⟩) | (go_at_call 54; with_reducible refine (T4 _).out.mono ?_; rintro e w' ⟨rfl, n, rfl⟩) | (go_at_call 20; with_reducible refine (T5 _).out.mono ?_; rintro e w' ⟨rfl, n, rfl⟩))
        go_ret
        exact ⟨rfl, BY.out _⟩
  · have hpos' : ¬ (0 : Int) < (l.length : Int) := by omega
    clear hpos KD1 KD2 H
    go_upto_region 8 with (first | (go_at_call 19; with_reducible refine (D1 _).out.mono ?_; rintro e w' ⟨rfl, n, rfl⟩) | (go_at_call 48; with_reducible refine (DL1 _).out.mono ?_; rintro e w' ⟨rfl, n, rfl⟩) | (go_at_call 48; with_reducible refine (DL2 _).out.mono ?_; rintro e w' ⟨rfl, n, rfl⟩))
    have T1 := cinL HC BC KT1
    go_upto_region 9 with (first | first | (go_at_call 51; with_reducible refine (T1 _).out.mono ?_; rintro e w' ⟨rfl, n, rfl⟩))
    obtain ⟨W0, hW0⟩ : ∃ W0, (n.w).alloc (.cells #[.int .i64 (ta), .int .i64 (tb)] 30) = W0 := ⟨_, rfl⟩
    have S0 : St w W0 [(n.w.heap.size, 0, .int .i64 (ta)), (n.w.heap.size, 1, .int .i64 (tb)), (w.heap.size, 0, .slice q1 cs.length c1), (w.heap.size, 1, .slice q2 ps.length c2), (w.heap.size, 2, .slice q3 rs.length c3)] := by rw [← hW0]; exact ((⟨BC.out n, LC.out n⟩ : St w n.w _)).box #[.int .i64 (ta), .int .i64 (tb)] 30 (n.w.heap.size) (by simp)
    rw [hW0]
    clear hW0
    obtain ⟨kX, hkk⟩ : ∃ k, n.w.heap.size = k := ⟨_, rfl⟩
    have gkX : w.heap.size ≤ kX := by rw [← hkk]; exact (BC.out n).size
    rw [hkk] at S0 ⊢
    clear hkk
    obtain ⟨X, hC0, HX, LX, BX, hne⟩ := cls S0
    haveI := hne
    obtain ⟨x0, rfl⟩ : ∃ n : Wd X, W0 = n.w := ⟨⟨_, hC0⟩, rfl⟩
    have fX0 : ∀ n : Wd X, n.w.cell? ⟨kX, 0, none⟩ = some (.int .i64 (ta)) := fun n => (LX.out n).1.2.1
    have fX1 : ∀ n : Wd X, n.w.cell? ⟨kX, 1, none⟩ = some (.int .i64 (tb)) := fun n => (LX.out n).2.1.2.1
    have fX2 : ∀ n : Wd X, n.w.cell? ⟨w.heap.size, 0, none⟩ = some (.slice q1 cs.length c1) := fun n => (LX.out n).2.2.1.2.1
    have fX3 : ∀ n : Wd X, n.w.cell? ⟨w.heap.size, 1, none⟩ = some (.slice q2 ps.length c2) := fun n => (LX.out n).2.2.2.1.2.1
    have fX4 : ∀ n : Wd X, n.w.cell? ⟨w.heap.size, 2, none⟩ = some (.slice q3 rs.length c3) := fun n => (LX.out n).2.2.2.2.1.2.1
    clear S0 hC0
    have T2 := cinL HX BX KT2
    go_upto_region 10 with (first | first | (go_at_call 52; with_reducible refine (T2 _).out.mono ?_; rintro e w' ⟨rfl, n, rfl⟩))
    obtain ⟨W0, hW0⟩ : ∃ W0, (n.w).alloc (.cells #[.int .i64 (ta), .int .i64 (tb)] 30) = W0 := ⟨_, rfl⟩
    have S0 : St w W0 [(n.w.heap.size, 0, .int .i64 (ta)), (n.w.heap.size, 1, .int .i64 (tb)), (kX, 0, .int .i64 (ta)), (kX, 1, .int .i64 (tb)), (w.heap.size, 0, .slice q1 cs.length c1), (w.heap.size, 1, .slice q2 ps.length c2), (w.heap.size, 2, .slice q3 rs.length c3)] := by rw [← hW0]; exact ((⟨BX.out n, LX.out n⟩ : St w n.w _)).box #[.int .i64 (ta), .int .i64 (tb)] 30 (n.w.heap.size) (by simp)
    rw [hW0]
    clear hW0
    obtain ⟨kY, hkk⟩ : ∃ k, n.w.heap.size = k := ⟨_, rfl⟩
    have gkY : w.heap.size ≤ kY := by rw [← hkk]; exact (BX.out n).size
    rw [hkk] at S0 ⊢
    clear hkk
    obtain ⟨Y, hC0, HY, LY, BY, hne⟩ := cls S0
    haveI := hne
    obtain ⟨y0, rfl⟩ : ∃ n : Wd Y, W0 = n.w := ⟨⟨_, hC0⟩, rfl⟩
    have fY0 : ∀ n : Wd Y, n.w.cell? ⟨kY, 0, none⟩ = some (.int .i64 (ta)) := fun n => (LY.out n).1.2.1
    have fY1 : ∀ n : Wd Y, n.w.cell? ⟨kY, 1, none⟩ = some (.int .i64 (tb)) := fun n => (LY.out n).2.1.2.1
    have fY2 : ∀ n : Wd Y, n.w.cell? ⟨kX, 0, none⟩ = some (.int .i64 (ta)) := fun n => (LY.out n).2.2.1.2.1
    have fY3 : ∀ n : Wd Y, n.w.cell? ⟨kX, 1, none⟩ = some (.int .i64 (tb)) := fun n => (LY.out n).2.2.2.1.2.1
    have fY4 : ∀ n : Wd Y, n.w.cell? ⟨w.heap.size, 0, none⟩ = some (.slice q1 cs.length c1) := fun n => (LY.out n).2.2.2.2.1.2.1
    have fY5 : ∀ n : Wd Y, n.w.cell? ⟨w.heap.size, 1, none⟩ = some (.slice q2 ps.length c2) := fun n => (LY.out n).2.2.2.2.2.1.2.1
    have fY6 : ∀ n : Wd Y, n.w.cell? ⟨w.heap.size, 2, none⟩ = some (.slice q3 rs.length c3) := fun n => (LY.out n).2.2.2.2.2.2.1.2.1
    clear S0 hC0
    have T3 := cinL HY BY KC1
    have T4 := cinL HY BY KC2
    have T5 := cin HY KS9
    go_wp2_with (first | first | (go_at_call 53; with_reducible refine (T3 _).out.mono ?_; rintro e w' ⟨rfl, n, rfl⟩) | (go_at_call 54; with_reducible refine (T4 _).out.mono ?_; rintro e w' ⟨rfl, n, rfl⟩) | (go_at_call 20; with_reducible refine (T5 _).out.mono ?_; rintro e w' ⟨rfl, n, rfl⟩))
    go_ret
    exact ⟨rfl, BY.out _⟩
end Go.Proofs.YtcejmfgbfdhflaaGreat
