import Derived.RangeFuncNested
import Derived.RangeFuncBox
import Derived.RangeFuncBound
import Derived.RangeFuncCalls
import Derived.RangeFuncLeaves
import Derived.Shelf.Abstract
import Derived.Shelf.RegionOpen
import Derived.BigRegionIn
import Derived.Stop.RegionWithIn
import Derived.WalkKit
import Derived.OwnWalkIn
import Derived.TacticsInMore
import Derived.LoopNIn
import Derived.LoopIn
import Derived.Lib.Hide
import Derived.IntWalk
import Derived.Deep.QuietTactic
import Derived.Deep.RegionHeld3
import Derived.Deep.RegionLaw
import Derived.StillTailTactics
import Derived.WalkSmall
import Derived.Deep.DeepMust
import Derived.BigQuiet
import Derived.LoopTactic
import Derived.Test.YtdefpcjlbganpaaMBox
import Derived.Test.YtdefpcjlbganpaaMDist
import Derived.Deep.DeepCutAuto
import Derived.Deep.CutBlock
import Derived.Test.YtdefpcjlbganpaaMBxs
namespace Go.Proofs.Ytdefpcjlbganpaa
open Go.RowKit Go.Shelf Go.BigFrame
attribute [local go_sem] Oper.semAt_some
attribute [local go_sem] World.cell?_alloc_some
theorem okB_iff2 {b : Bx} : okB b = true ↔ b.x.lo ≤ b.x.hi ∧ -1048576 ≤ b.x.lo ∧ b.x.hi ≤ 1048576 ∧ b.y.lo ≤ b.y.hi ∧ -1048576 ≤ b.y.lo ∧ b.y.hi ≤ 1048576 := by
  rw [okB_iff, okS_iff, okS_iff, okC_iff, okC_iff, okC_iff, okC_iff]
  omega
theorem hds_iff {b : Bx} {p : Pt} : hds b p = true ↔ okB b = true ∧ (b.x.lo ≤ p.x ∧ p.x ≤ b.x.hi) ∧ b.y.lo ≤ p.y ∧ p.y ≤ b.y.hi := by
  simp [hds, inS]
theorem mxS_comm (s t : Sp) : mxS s t = mxS t s := by simp only [mxS, Int.max_comm, Int.min_comm]
theorem cvS_comm (s t : Sp) : cvS s t = cvS t s := by simp only [cvS, Int.max_comm, Int.min_comm]
theorem mxB_comm (a b : Bx) : mxB a b = mxB b a := by rw [mxB, mxB, mxS_comm a.x, mxS_comm a.y]
theorem meetB_comm (a b : Bx) : meetB a b = meetB b a := by
  unfold meetB
  rw [mxB_comm a b]
  cases okB a <;> cases okB b <;> rfl
theorem cvB_comm (a b : Bx) : cvB a b = cvB b a := by
  unfold cvB
  rw [cvS_comm a.x, cvS_comm a.y]
  cases okB a <;> cases okB b <;> rfl
theorem cvB_is (a b : Bx) : (cvB a b).isSome = (okB a && okB b) := by
  unfold cvB
  cases okB a <;> cases okB b <;> rfl
theorem meet_holds (a b : Bx) (p : Pt) : (hds a p && hds b p) = ((meetB a b).isSome && hds ((meetB a b).getD bx0) p) := by
  rw [Bool.eq_iff_iff, Bool.and_eq_true, Bool.and_eq_true, hds_iff, hds_iff]
  unfold meetB
  by_cases h : okB a && (okB b && okB (mxB a b))
  · rw [if_pos h]
    simp only [Bool.and_eq_true] at h
    obtain ⟨h1, h2, h3⟩ := h
    rw [Option.getD_some, hds_iff, h1, h2, h3]
    simp only [mxB, mxS, Option.isSome_some, true_and]
    omega
  · rw [if_neg h]
    simp only [Option.isSome_none, Bool.false_eq_true, false_and, iff_false]
    rintro ⟨⟨h1, h2⟩, h3, h4⟩
    refine h ?_
    rw [h1, h3]
    rw [okB_iff2] at h1 h3
    simp only [Bool.true_and, okB_iff2, mxB, mxS]
    omega
theorem cover_holds (a b : Bx) (p : Pt) : ((cvB a b).isSome && (hds a p || hds b p) && !hds ((cvB a b).getD bx0) p) = false := by
  unfold cvB
  by_cases h : okB a && okB b
  · rw [if_pos h]
    simp only [Bool.and_eq_true] at h
    obtain ⟨h1, h2⟩ := h
    rw [Option.getD_some, Option.isSome_some, Bool.true_and]
    cases hh : (hds a p || hds b p)
    · rfl
    · rw [Bool.true_and, Bool.not_eq_false', hds_iff]
      rw [Bool.or_eq_true, hds_iff, hds_iff] at hh
      rw [okB_iff2] at h1 h2 ⊢
      simp only [cvS]
      omega
  · rw [if_neg h]; rfl
theorem cut_none {a : Bx} (h : cutB a = none) (ha : okB a = true) : ptE (cr a 0) (cr a 2) = true := by
  unfold cutB at h
  rw [ha, Bool.true_and] at h
  cases hs : sgl a
  · rw [hs] at h; simp at h
  · exact hs
theorem cut_some {a P Q : Bx} (h : cutB a = some (P, Q)) (p : Pt) : okB a = true ∧ (hds P p || hds Q p) = hds a p ∧ (hds P p && hds Q p) = false ∧ cvB P Q = some a := by
  unfold cutB at h
  cases ha : okB a
  · rw [ha] at h; simp at h
  have hs : sgl a = false := by
    cases hs : sgl a
    · rfl
    · rw [ha, hs] at h; simp at h
  rw [ha, hs, if_pos (by rfl)] at h
  have h := Option.some.inj h
  have hs' : ¬ (a.x.lo = a.x.hi ∧ a.y.lo = a.y.hi) := by rw [← sgl_iff a ha, hs]; simp
  have hb := okB_iff2.1 ha
  have key : okB P = true ∧ okB Q = true ∧ ((P.x.lo = a.x.lo ∧ P.x.hi = midS a.x ∧ Q.x.lo = midS a.x + 1 ∧ Q.x.hi = a.x.hi ∧ P.y = a.y ∧ Q.y = a.y ∧ a.x.lo ≤ midS a.x ∧ midS a.x < a.x.hi) ∨ (P.y.lo = a.y.lo ∧ P.y.hi = midS a.y ∧ Q.y.lo = midS a.y + 1 ∧ Q.y.hi = a.y.hi ∧ P.x = a.x ∧ Q.x = a.x ∧ a.y.lo ≤ midS a.y ∧ midS a.y < a.y.hi)) := by
    by_cases hl : a.y.hi - a.y.lo ≤ a.x.hi - a.x.lo
    · rw [if_pos hl] at h
      obtain ⟨rfl, rfl⟩ := Prod.mk.inj h
      have hm : a.x.lo ≤ midS a.x ∧ midS a.x < a.x.hi := by unfold midS; omega
      refine ⟨?_, ?_, .inl ⟨rfl, rfl, rfl, rfl, rfl, rfl, hm⟩⟩ <;> rw [okB_iff2] <;> simp only [hlo, hhi] <;> omega
    · rw [if_neg hl] at h
      obtain ⟨rfl, rfl⟩ := Prod.mk.inj h
      have hm : a.y.lo ≤ midS a.y ∧ midS a.y < a.y.hi := by unfold midS; omega
      refine ⟨?_, ?_, .inr ⟨rfl, rfl, rfl, rfl, rfl, rfl, hm⟩⟩ <;> rw [okB_iff2] <;> simp only [hlo, hhi] <;> omega
  obtain ⟨hP, hQ, k⟩ := key
  refine ⟨rfl, ?_, ?_, ?_⟩
  · rw [Bool.eq_iff_iff, Bool.or_eq_true, hds_iff, hds_iff, hds_iff, hP, hQ, ha]
    rcases k with ⟨k1, k2, k3, k4, k5, k6, k7⟩ | ⟨k1, k2, k3, k4, k5, k6, k7⟩ <;> rw [k5, k6] <;> simp only [true_and] <;> omega
  · rw [← Bool.not_eq_true, Bool.and_eq_true, hds_iff, hds_iff, hP, hQ]
    rcases k with ⟨k1, k2, k3, k4, k5, k6, k7⟩ | ⟨k1, k2, k3, k4, k5, k6, k7⟩ <;> omega
  · unfold cvB
    rw [hP, hQ, if_pos (by rfl), cvS, cvS]
    congr 1
    obtain ⟨⟨a1, a2⟩, ⟨a3, a4⟩⟩ := a
    simp only at k hb ⊢
    rcases k with ⟨k1, k2, k3, k4, k5, k6, k7, k8⟩ | ⟨k1, k2, k3, k4, k5, k6, k7, k8⟩
    · rw [k5, k6, k1, k2, k3, k4]
      simp only [Bx.mk.injEq, Sp.mk.injEq]
      omega
    · rw [k5, k6, k1, k2, k3, k4]
      simp only [Bx.mk.injEq, Sp.mk.injEq]
      omega
theorem neB_run (a : Bx) (w : World) : (binOp .neq 60 a.v a.v).run Try.prog w = .ok (.bool false) w := by simp [go_sem]
theorem eqB_run (a : Bx) (w : World) : (binOp .eql 60 a.v a.v).run Try.prog w = .ok (.bool true) w := by simp [go_sem]
theorem cutCombos : ∀ za zb g e ha hb hm hc : Bool, ((za && zb) = g ∧ (ha && hb) = (e && hm) ∧ (g && (ha || hb) && !hc) = false ∧ (ha = true → za = true) ∧ (hb = true → zb = true) ∧ (e = true → g = true)) →
    (za = false ∧ zb = false ∧ g = false ∧ e = false ∧ ha = false ∧ hb = false) ∨ (za = false ∧ zb = true ∧ g = false ∧ e = false ∧ ha = false ∧ hb = false) ∨ (za = false ∧ zb = true ∧ g = false ∧ e = false ∧ ha = false ∧ hb = true) ∨
    (za = true ∧ zb = false ∧ g = false ∧ e = false ∧ ha = false ∧ hb = false) ∨ (za = true ∧ zb = false ∧ g = false ∧ e = false ∧ ha = true ∧ hb = false) ∨ (za = true ∧ zb = true ∧ g = true ∧ e = false ∧ ha = false ∧ hb = false) ∨
    (za = true ∧ zb = true ∧ g = true ∧ e = false ∧ ha = true ∧ hb = false ∧ hc = true) ∨ (za = true ∧ zb = true ∧ g = true ∧ e = false ∧ ha = false ∧ hb = true ∧ hc = true) ∨ (za = true ∧ zb = true ∧ g = true ∧ e = true ∧ ha = false ∧ hb = false ∧ hm = false) ∨
    (za = true ∧ zb = true ∧ g = true ∧ e = true ∧ ha = true ∧ hb = false ∧ hm = false ∧ hc = true) ∨ (za = true ∧ zb = true ∧ g = true ∧ e = true ∧ ha = false ∧ hb = true ∧ hm = false ∧ hc = true) ∨ (za = true ∧ zb = true ∧ g = true ∧ e = true ∧ ha = true ∧ hb = true ∧ hm = true ∧ hc = true) := by
  intro za zb g e ha hb hm hc
  cases za <;> cases zb <;> cases g <;> cases e <;> cases ha <;> cases hb <;> cases hm <;> cases hc <;> simp
theorem cutFacts (a b : Bx) (p : Pt) : ((okB a && okB b) = (cvB a b).isSome ∧ (hds a p && hds b p) = ((meetB a b).isSome && hds ((meetB a b).getD bx0) p) ∧ ((cvB a b).isSome && (hds a p || hds b p) && !hds ((cvB a b).getD bx0) p) = false ∧ (hds a p = true → okB a = true) ∧ (hds b p = true → okB b = true) ∧ ((meetB a b).isSome = true → (cvB a b).isSome = true)) := by
  refine ⟨(cvB_is a b).symm, meet_holds a b p, cover_holds a b p, fun h => (hds_iff.1 h).1, fun h => (hds_iff.1 h).1, fun h => ?_⟩
  rw [cvB_is]
  unfold meetB at h
  cases ha : okB a <;> cases hb : okB b <;> simp [ha, hb] at h ⊢
set_option maxRecDepth 100000 in
set_option maxHeartbeats 64000000 in
/-- The law of halves answers true, a box that has none. -/
theorem cutsLaw0 (BX : ∀ W, Calls Try.prog 38 #[] W fun e w' => e = .returned (.bool true) ∧ Below W.heap.size W w') (a b : Bx) (p : Pt) (w : World) (hcut : cutB a = none) :
   Calls Try.prog 15 #[a.v, b.v, p.v] w fun e w' => e = .returned (.bool true) ∧ Below w.heap.size w w' := by
  have HF := cutFacts a b p
  have hpt := cut_none hcut
  have T1 : ∀ W, Calls Try.prog 51 #[a.v] W fun e' w' => e' = .returned (.tuple #[.agg #[.int .i64 0, .int .i64 0, .int .i64 0, .int .i64 0], .agg #[.int .i64 0, .int .i64 0, .int .i64 0, .int .i64 0], .bool false]) ∧ Below W.heap.size W w' := fun W => by have h := Cut_any a W; rw [hcut] at h; exact h
  clear hcut
  have KC := fun W => Corners_any a W
  obtain ⟨M, hM⟩ : ∃ M, (meetB a b).getD bx0 = M := ⟨_, rfl⟩
  obtain ⟨e, he⟩ : ∃ e, (meetB a b).isSome = e := ⟨_, rfl⟩
  obtain ⟨K, hK⟩ : ∃ M, (cvB a b).getD bx0 = M := ⟨_, rfl⟩
  obtain ⟨g, hg⟩ : ∃ e, (cvB a b).isSome = e := ⟨_, rfl⟩
  have M1 : ∀ W, Calls Try.prog 45 #[a.v, b.v] W fun e' w' => e' = .returned (.tuple #[M.v, .bool e]) ∧ Below W.heap.size W w' := fun W => by rw [← hM, ← he]; exact Meet_any a b W
  have M2 : ∀ W, Calls Try.prog 45 #[b.v, a.v] W fun e' w' => e' = .returned (.tuple #[M.v, .bool e]) ∧ Below W.heap.size W w' := fun W => by rw [← hM, ← he, meetB_comm]; exact Meet_any b a W
  have K1 : ∀ W, Calls Try.prog 47 #[a.v, b.v] W fun e' w' => e' = .returned (.tuple #[K.v, .bool g]) ∧ Below W.heap.size W w' := fun W => by rw [← hK, ← hg]; exact Cover_any a b W
  have K2 : ∀ W, Calls Try.prog 47 #[b.v, a.v] W fun e' w' => e' = .returned (.tuple #[K.v, .bool g]) ∧ Below W.heap.size W w' := fun W => by rw [← hK, ← hg, cvB_comm]; exact Cover_any b a W
  have P1 := fun W => Proper_any a W
  have P2 := fun W => Proper_any b W
  have X1 := fun W => Holds_any a p W
  have X2 := fun W => Holds_any b p W
  have X3 := fun W => Holds_any M p W
  have X4 := fun W => Holds_any K p W
  rw [hM, he, hK, hg] at HF
  clear hM he hK hg
  obtain ⟨za, hza⟩ : ∃ z, okB a = z := ⟨_, rfl⟩
  obtain ⟨zb, hzb⟩ : ∃ z, okB b = z := ⟨_, rfl⟩
  obtain ⟨ha, hha⟩ : ∃ z, hds a p = z := ⟨_, rfl⟩
  obtain ⟨hb, hhb⟩ : ∃ z, hds b p = z := ⟨_, rfl⟩
  obtain ⟨hm, hhm⟩ : ∃ z, hds M p = z := ⟨_, rfl⟩
  obtain ⟨hc, hhc⟩ : ∃ z, hds K p = z := ⟨_, rfl⟩
  simp only [hza] at P1
  simp only [hzb] at P2
  simp only [hha] at X1
  simp only [hhb] at X2
  simp only [hhm] at X3
  simp only [hhc] at X4
  rw [hza, hzb, hha, hhb, hhm, hhc] at HF
  rw [hza] at hpt
  have HC' := cutCombos _ _ _ _ _ _ _ _ HF
  clear HF hza hzb hha hhb hhm hhc
  obtain ⟨q0, h0⟩ : ∃ c, cr a 0 = c := ⟨_, rfl⟩
  obtain ⟨q1, h1⟩ : ∃ c, cr a 1 = c := ⟨_, rfl⟩
  obtain ⟨q2, h2⟩ : ∃ c, cr a 2 = c := ⟨_, rfl⟩
  obtain ⟨q3, h3⟩ : ∃ c, cr a 3 = c := ⟨_, rfl⟩
  simp only [h0, h1, h2, h3] at KC
  rw [h0, h2] at hpt
  clear h0 h1 h2 h3
  have HC' := Lib.hid HC'
  have HP := Lib.hid hpt
  clear hpt
  have kM := fun W => neB_run M W
  have kK := fun W => neB_run K W
  have i0 := fun W => idx68_0 q0 q1 q2 q3 W
  have i2 := fun W => idx68_2 q0 q1 q2 q3 W
  go_enter Try.func15, Try.ntmps15
  go_wp2_with fail
  obtain ⟨W0, hW0⟩ : ∃ W0, (((w).alloc (.cells #[.int .i64 a.x.lo, .int .i64 a.x.hi, .int .i64 a.y.lo, .int .i64 a.y.hi] 60)).alloc (.cells #[.int .i64 b.x.lo, .int .i64 b.x.hi, .int .i64 b.y.lo, .int .i64 b.y.hi] 60)).alloc (.cells #[.int .i64 p.x, .int .i64 p.y] 23) = W0 := ⟨_, rfl⟩
  have S0 : St w W0 [(w.heap.size + 1 + 1, 0, .int .i64 p.x), (w.heap.size + 1 + 1, 1, .int .i64 p.y), (w.heap.size + 1, 0, .int .i64 b.x.lo), (w.heap.size + 1, 1, .int .i64 b.x.hi), (w.heap.size + 1, 2, .int .i64 b.y.lo), (w.heap.size + 1, 3, .int .i64 b.y.hi), (w.heap.size, 0, .int .i64 a.x.lo), (w.heap.size, 1, .int .i64 a.x.hi), (w.heap.size, 2, .int .i64 a.y.lo), (w.heap.size, 3, .int .i64 a.y.hi)] := by rw [← hW0]; exact ((((St.nil w)).box #[.int .i64 a.x.lo, .int .i64 a.x.hi, .int .i64 a.y.lo, .int .i64 a.y.hi] 60 (w.heap.size) (by simp)).box #[.int .i64 b.x.lo, .int .i64 b.x.hi, .int .i64 b.y.lo, .int .i64 b.y.hi] 60 (w.heap.size + 1) (by simp)).box #[.int .i64 p.x, .int .i64 p.y] 23 (w.heap.size + 1 + 1) (by simp)
  rw [hW0]
  clear hW0
  obtain ⟨C, hC0, HC, LC, BC, hne⟩ := cls S0
  haveI := hne
  obtain ⟨c0, rfl⟩ : ∃ n : Wd C, W0 = n.w := ⟨⟨_, hC0⟩, rfl⟩
  have fC0 : ∀ n : Wd C, n.w.cell? ⟨w.heap.size + 1 + 1, 0, none⟩ = some (.int .i64 p.x) := fun n => (LC.out n).1.2.1
  have fC1 : ∀ n : Wd C, n.w.cell? ⟨w.heap.size + 1 + 1, 1, none⟩ = some (.int .i64 p.y) := fun n => (LC.out n).2.1.2.1
  have fC2 : ∀ n : Wd C, n.w.cell? ⟨w.heap.size + 1, 0, none⟩ = some (.int .i64 b.x.lo) := fun n => (LC.out n).2.2.1.2.1
  have fC3 : ∀ n : Wd C, n.w.cell? ⟨w.heap.size + 1, 1, none⟩ = some (.int .i64 b.x.hi) := fun n => (LC.out n).2.2.2.1.2.1
  have fC4 : ∀ n : Wd C, n.w.cell? ⟨w.heap.size + 1, 2, none⟩ = some (.int .i64 b.y.lo) := fun n => (LC.out n).2.2.2.2.1.2.1
  have fC5 : ∀ n : Wd C, n.w.cell? ⟨w.heap.size + 1, 3, none⟩ = some (.int .i64 b.y.hi) := fun n => (LC.out n).2.2.2.2.2.1.2.1
  have fC6 : ∀ n : Wd C, n.w.cell? ⟨w.heap.size, 0, none⟩ = some (.int .i64 a.x.lo) := fun n => (LC.out n).2.2.2.2.2.2.1.2.1
  have fC7 : ∀ n : Wd C, n.w.cell? ⟨w.heap.size, 1, none⟩ = some (.int .i64 a.x.hi) := fun n => (LC.out n).2.2.2.2.2.2.2.1.2.1
  have fC8 : ∀ n : Wd C, n.w.cell? ⟨w.heap.size, 2, none⟩ = some (.int .i64 a.y.lo) := fun n => (LC.out n).2.2.2.2.2.2.2.2.1.2.1
  have fC9 : ∀ n : Wd C, n.w.cell? ⟨w.heap.size, 3, none⟩ = some (.int .i64 a.y.hi) := fun n => (LC.out n).2.2.2.2.2.2.2.2.2.1.2.1
  clear S0 hC0
  have D1 := cin HC M1
  go_wp2_with (first | (go_at_call 45; with_reducible refine (D1 _).out.mono ?_; rintro e w' ⟨rfl, n, rfl⟩))
  obtain ⟨W0, hW0⟩ : ∃ W0, (n.w).alloc (.cells #[.int .i64 M.x.lo, .int .i64 M.x.hi, .int .i64 M.y.lo, .int .i64 M.y.hi] 60) = W0 := ⟨_, rfl⟩
  have S0 : St w W0 [(n.w.heap.size, 0, .int .i64 M.x.lo), (n.w.heap.size, 1, .int .i64 M.x.hi), (n.w.heap.size, 2, .int .i64 M.y.lo), (n.w.heap.size, 3, .int .i64 M.y.hi), (w.heap.size + 1 + 1, 0, .int .i64 p.x), (w.heap.size + 1 + 1, 1, .int .i64 p.y), (w.heap.size + 1, 0, .int .i64 b.x.lo), (w.heap.size + 1, 1, .int .i64 b.x.hi), (w.heap.size + 1, 2, .int .i64 b.y.lo), (w.heap.size + 1, 3, .int .i64 b.y.hi), (w.heap.size, 0, .int .i64 a.x.lo), (w.heap.size, 1, .int .i64 a.x.hi), (w.heap.size, 2, .int .i64 a.y.lo), (w.heap.size, 3, .int .i64 a.y.hi)] := by rw [← hW0]; exact ((⟨BC.out n, LC.out n⟩ : St w n.w _)).box #[.int .i64 M.x.lo, .int .i64 M.x.hi, .int .i64 M.y.lo, .int .i64 M.y.hi] 60 (n.w.heap.size) (by simp)
  rw [hW0]
  clear hW0
  obtain ⟨kD, hkk⟩ : ∃ k, n.w.heap.size = k := ⟨_, rfl⟩
  rw [hkk] at S0 ⊢
  clear hkk
  obtain ⟨D, hC0, HD, LD, BD, hne⟩ := cls S0
  haveI := hne
  obtain ⟨d0, rfl⟩ : ∃ n : Wd D, W0 = n.w := ⟨⟨_, hC0⟩, rfl⟩
  have fD0 : ∀ n : Wd D, n.w.cell? ⟨kD, 0, none⟩ = some (.int .i64 M.x.lo) := fun n => (LD.out n).1.2.1
  have fD1 : ∀ n : Wd D, n.w.cell? ⟨kD, 1, none⟩ = some (.int .i64 M.x.hi) := fun n => (LD.out n).2.1.2.1
  have fD2 : ∀ n : Wd D, n.w.cell? ⟨kD, 2, none⟩ = some (.int .i64 M.y.lo) := fun n => (LD.out n).2.2.1.2.1
  have fD3 : ∀ n : Wd D, n.w.cell? ⟨kD, 3, none⟩ = some (.int .i64 M.y.hi) := fun n => (LD.out n).2.2.2.1.2.1
  have fD4 : ∀ n : Wd D, n.w.cell? ⟨w.heap.size + 1 + 1, 0, none⟩ = some (.int .i64 p.x) := fun n => (LD.out n).2.2.2.2.1.2.1
  have fD5 : ∀ n : Wd D, n.w.cell? ⟨w.heap.size + 1 + 1, 1, none⟩ = some (.int .i64 p.y) := fun n => (LD.out n).2.2.2.2.2.1.2.1
  have fD6 : ∀ n : Wd D, n.w.cell? ⟨w.heap.size + 1, 0, none⟩ = some (.int .i64 b.x.lo) := fun n => (LD.out n).2.2.2.2.2.2.1.2.1
  have fD7 : ∀ n : Wd D, n.w.cell? ⟨w.heap.size + 1, 1, none⟩ = some (.int .i64 b.x.hi) := fun n => (LD.out n).2.2.2.2.2.2.2.1.2.1
  have fD8 : ∀ n : Wd D, n.w.cell? ⟨w.heap.size + 1, 2, none⟩ = some (.int .i64 b.y.lo) := fun n => (LD.out n).2.2.2.2.2.2.2.2.1.2.1
  have fD9 : ∀ n : Wd D, n.w.cell? ⟨w.heap.size + 1, 3, none⟩ = some (.int .i64 b.y.hi) := fun n => (LD.out n).2.2.2.2.2.2.2.2.2.1.2.1
  have fD10 : ∀ n : Wd D, n.w.cell? ⟨w.heap.size, 0, none⟩ = some (.int .i64 a.x.lo) := fun n => (LD.out n).2.2.2.2.2.2.2.2.2.2.1.2.1
  have fD11 : ∀ n : Wd D, n.w.cell? ⟨w.heap.size, 1, none⟩ = some (.int .i64 a.x.hi) := fun n => (LD.out n).2.2.2.2.2.2.2.2.2.2.2.1.2.1
  have fD12 : ∀ n : Wd D, n.w.cell? ⟨w.heap.size, 2, none⟩ = some (.int .i64 a.y.lo) := fun n => (LD.out n).2.2.2.2.2.2.2.2.2.2.2.2.1.2.1
  have fD13 : ∀ n : Wd D, n.w.cell? ⟨w.heap.size, 3, none⟩ = some (.int .i64 a.y.hi) := fun n => (LD.out n).2.2.2.2.2.2.2.2.2.2.2.2.2.1.2.1
  clear S0 hC0
  have D2 := cin HD M2
  clear M1 M2 D1
  go_wp2_with (first | (go_at_call 45; with_reducible refine (D2 _).out.mono ?_; rintro e w' ⟨rfl, n, rfl⟩))
  obtain ⟨W0, hW0⟩ : ∃ W0, (n.w).alloc (.cells #[.int .i64 M.x.lo, .int .i64 M.x.hi, .int .i64 M.y.lo, .int .i64 M.y.hi] 60) = W0 := ⟨_, rfl⟩
  have S0 : St w W0 [(n.w.heap.size, 0, .int .i64 M.x.lo), (n.w.heap.size, 1, .int .i64 M.x.hi), (n.w.heap.size, 2, .int .i64 M.y.lo), (n.w.heap.size, 3, .int .i64 M.y.hi), (kD, 0, .int .i64 M.x.lo), (kD, 1, .int .i64 M.x.hi), (kD, 2, .int .i64 M.y.lo), (kD, 3, .int .i64 M.y.hi), (w.heap.size + 1 + 1, 0, .int .i64 p.x), (w.heap.size + 1 + 1, 1, .int .i64 p.y), (w.heap.size + 1, 0, .int .i64 b.x.lo), (w.heap.size + 1, 1, .int .i64 b.x.hi), (w.heap.size + 1, 2, .int .i64 b.y.lo), (w.heap.size + 1, 3, .int .i64 b.y.hi), (w.heap.size, 0, .int .i64 a.x.lo), (w.heap.size, 1, .int .i64 a.x.hi), (w.heap.size, 2, .int .i64 a.y.lo), (w.heap.size, 3, .int .i64 a.y.hi)] := by rw [← hW0]; exact ((⟨BD.out n, LD.out n⟩ : St w n.w _)).box #[.int .i64 M.x.lo, .int .i64 M.x.hi, .int .i64 M.y.lo, .int .i64 M.y.hi] 60 (n.w.heap.size) (by simp)
  rw [hW0]
  clear hW0
  obtain ⟨kE, hkk⟩ : ∃ k, n.w.heap.size = k := ⟨_, rfl⟩
  rw [hkk] at S0 ⊢
  clear hkk
  obtain ⟨E, hC0, HE, LE, BE, hne⟩ := cls S0
  haveI := hne
  obtain ⟨e0, rfl⟩ : ∃ n : Wd E, W0 = n.w := ⟨⟨_, hC0⟩, rfl⟩
  have fE0 : ∀ n : Wd E, n.w.cell? ⟨kE, 0, none⟩ = some (.int .i64 M.x.lo) := fun n => (LE.out n).1.2.1
  have fE1 : ∀ n : Wd E, n.w.cell? ⟨kE, 1, none⟩ = some (.int .i64 M.x.hi) := fun n => (LE.out n).2.1.2.1
  have fE2 : ∀ n : Wd E, n.w.cell? ⟨kE, 2, none⟩ = some (.int .i64 M.y.lo) := fun n => (LE.out n).2.2.1.2.1
  have fE3 : ∀ n : Wd E, n.w.cell? ⟨kE, 3, none⟩ = some (.int .i64 M.y.hi) := fun n => (LE.out n).2.2.2.1.2.1
  have fE4 : ∀ n : Wd E, n.w.cell? ⟨kD, 0, none⟩ = some (.int .i64 M.x.lo) := fun n => (LE.out n).2.2.2.2.1.2.1
  have fE5 : ∀ n : Wd E, n.w.cell? ⟨kD, 1, none⟩ = some (.int .i64 M.x.hi) := fun n => (LE.out n).2.2.2.2.2.1.2.1
  have fE6 : ∀ n : Wd E, n.w.cell? ⟨kD, 2, none⟩ = some (.int .i64 M.y.lo) := fun n => (LE.out n).2.2.2.2.2.2.1.2.1
  have fE7 : ∀ n : Wd E, n.w.cell? ⟨kD, 3, none⟩ = some (.int .i64 M.y.hi) := fun n => (LE.out n).2.2.2.2.2.2.2.1.2.1
  have fE8 : ∀ n : Wd E, n.w.cell? ⟨w.heap.size + 1 + 1, 0, none⟩ = some (.int .i64 p.x) := fun n => (LE.out n).2.2.2.2.2.2.2.2.1.2.1
  have fE9 : ∀ n : Wd E, n.w.cell? ⟨w.heap.size + 1 + 1, 1, none⟩ = some (.int .i64 p.y) := fun n => (LE.out n).2.2.2.2.2.2.2.2.2.1.2.1
  have fE10 : ∀ n : Wd E, n.w.cell? ⟨w.heap.size + 1, 0, none⟩ = some (.int .i64 b.x.lo) := fun n => (LE.out n).2.2.2.2.2.2.2.2.2.2.1.2.1
  have fE11 : ∀ n : Wd E, n.w.cell? ⟨w.heap.size + 1, 1, none⟩ = some (.int .i64 b.x.hi) := fun n => (LE.out n).2.2.2.2.2.2.2.2.2.2.2.1.2.1
  have fE12 : ∀ n : Wd E, n.w.cell? ⟨w.heap.size + 1, 2, none⟩ = some (.int .i64 b.y.lo) := fun n => (LE.out n).2.2.2.2.2.2.2.2.2.2.2.2.1.2.1
  have fE13 : ∀ n : Wd E, n.w.cell? ⟨w.heap.size + 1, 3, none⟩ = some (.int .i64 b.y.hi) := fun n => (LE.out n).2.2.2.2.2.2.2.2.2.2.2.2.2.1.2.1
  have fE14 : ∀ n : Wd E, n.w.cell? ⟨w.heap.size, 0, none⟩ = some (.int .i64 a.x.lo) := fun n => (LE.out n).2.2.2.2.2.2.2.2.2.2.2.2.2.2.1.2.1
  have fE15 : ∀ n : Wd E, n.w.cell? ⟨w.heap.size, 1, none⟩ = some (.int .i64 a.x.hi) := fun n => (LE.out n).2.2.2.2.2.2.2.2.2.2.2.2.2.2.2.1.2.1
  have fE16 : ∀ n : Wd E, n.w.cell? ⟨w.heap.size, 2, none⟩ = some (.int .i64 a.y.lo) := fun n => (LE.out n).2.2.2.2.2.2.2.2.2.2.2.2.2.2.2.2.1.2.1
  have fE17 : ∀ n : Wd E, n.w.cell? ⟨w.heap.size, 3, none⟩ = some (.int .i64 a.y.hi) := fun n => (LE.out n).2.2.2.2.2.2.2.2.2.2.2.2.2.2.2.2.2.1.2.1
  clear S0 hC0
  have D1 := cin HE K1
  clear K1 D2
  go_wp2_with (first | (go_at_call 47; with_reducible refine (D1 _).out.mono ?_; rintro e w' ⟨rfl, n, rfl⟩))
  obtain ⟨W0, hW0⟩ : ∃ W0, (n.w).alloc (.cells #[.int .i64 K.x.lo, .int .i64 K.x.hi, .int .i64 K.y.lo, .int .i64 K.y.hi] 60) = W0 := ⟨_, rfl⟩
  have S0 : St w W0 [(n.w.heap.size, 0, .int .i64 K.x.lo), (n.w.heap.size, 1, .int .i64 K.x.hi), (n.w.heap.size, 2, .int .i64 K.y.lo), (n.w.heap.size, 3, .int .i64 K.y.hi), (kE, 0, .int .i64 M.x.lo), (kE, 1, .int .i64 M.x.hi), (kE, 2, .int .i64 M.y.lo), (kE, 3, .int .i64 M.y.hi), (kD, 0, .int .i64 M.x.lo), (kD, 1, .int .i64 M.x.hi), (kD, 2, .int .i64 M.y.lo), (kD, 3, .int .i64 M.y.hi), (w.heap.size + 1 + 1, 0, .int .i64 p.x), (w.heap.size + 1 + 1, 1, .int .i64 p.y), (w.heap.size + 1, 0, .int .i64 b.x.lo), (w.heap.size + 1, 1, .int .i64 b.x.hi), (w.heap.size + 1, 2, .int .i64 b.y.lo), (w.heap.size + 1, 3, .int .i64 b.y.hi), (w.heap.size, 0, .int .i64 a.x.lo), (w.heap.size, 1, .int .i64 a.x.hi), (w.heap.size, 2, .int .i64 a.y.lo), (w.heap.size, 3, .int .i64 a.y.hi)] := by rw [← hW0]; exact ((⟨BE.out n, LE.out n⟩ : St w n.w _)).box #[.int .i64 K.x.lo, .int .i64 K.x.hi, .int .i64 K.y.lo, .int .i64 K.y.hi] 60 (n.w.heap.size) (by simp)
  rw [hW0]
  clear hW0
  obtain ⟨kF, hkk⟩ : ∃ k, n.w.heap.size = k := ⟨_, rfl⟩
  rw [hkk] at S0 ⊢
  clear hkk
  obtain ⟨F, hC0, HF, LF, BF, hne⟩ := cls S0
  haveI := hne
  obtain ⟨f0, rfl⟩ : ∃ n : Wd F, W0 = n.w := ⟨⟨_, hC0⟩, rfl⟩
  have fF0 : ∀ n : Wd F, n.w.cell? ⟨kF, 0, none⟩ = some (.int .i64 K.x.lo) := fun n => (LF.out n).1.2.1
  have fF1 : ∀ n : Wd F, n.w.cell? ⟨kF, 1, none⟩ = some (.int .i64 K.x.hi) := fun n => (LF.out n).2.1.2.1
  have fF2 : ∀ n : Wd F, n.w.cell? ⟨kF, 2, none⟩ = some (.int .i64 K.y.lo) := fun n => (LF.out n).2.2.1.2.1
  have fF3 : ∀ n : Wd F, n.w.cell? ⟨kF, 3, none⟩ = some (.int .i64 K.y.hi) := fun n => (LF.out n).2.2.2.1.2.1
  have fF4 : ∀ n : Wd F, n.w.cell? ⟨kE, 0, none⟩ = some (.int .i64 M.x.lo) := fun n => (LF.out n).2.2.2.2.1.2.1
  have fF5 : ∀ n : Wd F, n.w.cell? ⟨kE, 1, none⟩ = some (.int .i64 M.x.hi) := fun n => (LF.out n).2.2.2.2.2.1.2.1
  have fF6 : ∀ n : Wd F, n.w.cell? ⟨kE, 2, none⟩ = some (.int .i64 M.y.lo) := fun n => (LF.out n).2.2.2.2.2.2.1.2.1
  have fF7 : ∀ n : Wd F, n.w.cell? ⟨kE, 3, none⟩ = some (.int .i64 M.y.hi) := fun n => (LF.out n).2.2.2.2.2.2.2.1.2.1
  have fF8 : ∀ n : Wd F, n.w.cell? ⟨kD, 0, none⟩ = some (.int .i64 M.x.lo) := fun n => (LF.out n).2.2.2.2.2.2.2.2.1.2.1
  have fF9 : ∀ n : Wd F, n.w.cell? ⟨kD, 1, none⟩ = some (.int .i64 M.x.hi) := fun n => (LF.out n).2.2.2.2.2.2.2.2.2.1.2.1
  have fF10 : ∀ n : Wd F, n.w.cell? ⟨kD, 2, none⟩ = some (.int .i64 M.y.lo) := fun n => (LF.out n).2.2.2.2.2.2.2.2.2.2.1.2.1
  have fF11 : ∀ n : Wd F, n.w.cell? ⟨kD, 3, none⟩ = some (.int .i64 M.y.hi) := fun n => (LF.out n).2.2.2.2.2.2.2.2.2.2.2.1.2.1
  have fF12 : ∀ n : Wd F, n.w.cell? ⟨w.heap.size + 1 + 1, 0, none⟩ = some (.int .i64 p.x) := fun n => (LF.out n).2.2.2.2.2.2.2.2.2.2.2.2.1.2.1
  have fF13 : ∀ n : Wd F, n.w.cell? ⟨w.heap.size + 1 + 1, 1, none⟩ = some (.int .i64 p.y) := fun n => (LF.out n).2.2.2.2.2.2.2.2.2.2.2.2.2.1.2.1
  have fF14 : ∀ n : Wd F, n.w.cell? ⟨w.heap.size + 1, 0, none⟩ = some (.int .i64 b.x.lo) := fun n => (LF.out n).2.2.2.2.2.2.2.2.2.2.2.2.2.2.1.2.1
  have fF15 : ∀ n : Wd F, n.w.cell? ⟨w.heap.size + 1, 1, none⟩ = some (.int .i64 b.x.hi) := fun n => (LF.out n).2.2.2.2.2.2.2.2.2.2.2.2.2.2.2.1.2.1
  have fF16 : ∀ n : Wd F, n.w.cell? ⟨w.heap.size + 1, 2, none⟩ = some (.int .i64 b.y.lo) := fun n => (LF.out n).2.2.2.2.2.2.2.2.2.2.2.2.2.2.2.2.1.2.1
  have fF17 : ∀ n : Wd F, n.w.cell? ⟨w.heap.size + 1, 3, none⟩ = some (.int .i64 b.y.hi) := fun n => (LF.out n).2.2.2.2.2.2.2.2.2.2.2.2.2.2.2.2.2.1.2.1
  have fF18 : ∀ n : Wd F, n.w.cell? ⟨w.heap.size, 0, none⟩ = some (.int .i64 a.x.lo) := fun n => (LF.out n).2.2.2.2.2.2.2.2.2.2.2.2.2.2.2.2.2.2.1.2.1
  have fF19 : ∀ n : Wd F, n.w.cell? ⟨w.heap.size, 1, none⟩ = some (.int .i64 a.x.hi) := fun n => (LF.out n).2.2.2.2.2.2.2.2.2.2.2.2.2.2.2.2.2.2.2.1.2.1
  have fF20 : ∀ n : Wd F, n.w.cell? ⟨w.heap.size, 2, none⟩ = some (.int .i64 a.y.lo) := fun n => (LF.out n).2.2.2.2.2.2.2.2.2.2.2.2.2.2.2.2.2.2.2.2.1.2.1
  have fF21 : ∀ n : Wd F, n.w.cell? ⟨w.heap.size, 3, none⟩ = some (.int .i64 a.y.hi) := fun n => (LF.out n).2.2.2.2.2.2.2.2.2.2.2.2.2.2.2.2.2.2.2.2.2.1.2.1
  clear S0 hC0
  have D2 := cin HF K2
  clear K2 D1
  go_wp2_with (first | (go_at_call 47; with_reducible refine (D2 _).out.mono ?_; rintro e w' ⟨rfl, n, rfl⟩))
  obtain ⟨W0, hW0⟩ : ∃ W0, (n.w).alloc (.cells #[.int .i64 K.x.lo, .int .i64 K.x.hi, .int .i64 K.y.lo, .int .i64 K.y.hi] 60) = W0 := ⟨_, rfl⟩
  have S0 : St w W0 [(n.w.heap.size, 0, .int .i64 K.x.lo), (n.w.heap.size, 1, .int .i64 K.x.hi), (n.w.heap.size, 2, .int .i64 K.y.lo), (n.w.heap.size, 3, .int .i64 K.y.hi), (kF, 0, .int .i64 K.x.lo), (kF, 1, .int .i64 K.x.hi), (kF, 2, .int .i64 K.y.lo), (kF, 3, .int .i64 K.y.hi), (kE, 0, .int .i64 M.x.lo), (kE, 1, .int .i64 M.x.hi), (kE, 2, .int .i64 M.y.lo), (kE, 3, .int .i64 M.y.hi), (kD, 0, .int .i64 M.x.lo), (kD, 1, .int .i64 M.x.hi), (kD, 2, .int .i64 M.y.lo), (kD, 3, .int .i64 M.y.hi), (w.heap.size + 1 + 1, 0, .int .i64 p.x), (w.heap.size + 1 + 1, 1, .int .i64 p.y), (w.heap.size + 1, 0, .int .i64 b.x.lo), (w.heap.size + 1, 1, .int .i64 b.x.hi), (w.heap.size + 1, 2, .int .i64 b.y.lo), (w.heap.size + 1, 3, .int .i64 b.y.hi), (w.heap.size, 0, .int .i64 a.x.lo), (w.heap.size, 1, .int .i64 a.x.hi), (w.heap.size, 2, .int .i64 a.y.lo), (w.heap.size, 3, .int .i64 a.y.hi)] := by rw [← hW0]; exact ((⟨BF.out n, LF.out n⟩ : St w n.w _)).box #[.int .i64 K.x.lo, .int .i64 K.x.hi, .int .i64 K.y.lo, .int .i64 K.y.hi] 60 (n.w.heap.size) (by simp)
  rw [hW0]
  clear hW0
  obtain ⟨kG, hkk⟩ : ∃ k, n.w.heap.size = k := ⟨_, rfl⟩
  rw [hkk] at S0 ⊢
  clear hkk
  obtain ⟨G, hC0, HG, LG, BG, hne⟩ := cls S0
  haveI := hne
  obtain ⟨g0, rfl⟩ : ∃ n : Wd G, W0 = n.w := ⟨⟨_, hC0⟩, rfl⟩
  have fG0 : ∀ n : Wd G, n.w.cell? ⟨kG, 0, none⟩ = some (.int .i64 K.x.lo) := fun n => (LG.out n).1.2.1
  have fG1 : ∀ n : Wd G, n.w.cell? ⟨kG, 1, none⟩ = some (.int .i64 K.x.hi) := fun n => (LG.out n).2.1.2.1
  have fG2 : ∀ n : Wd G, n.w.cell? ⟨kG, 2, none⟩ = some (.int .i64 K.y.lo) := fun n => (LG.out n).2.2.1.2.1
  have fG3 : ∀ n : Wd G, n.w.cell? ⟨kG, 3, none⟩ = some (.int .i64 K.y.hi) := fun n => (LG.out n).2.2.2.1.2.1
  have fG4 : ∀ n : Wd G, n.w.cell? ⟨kF, 0, none⟩ = some (.int .i64 K.x.lo) := fun n => (LG.out n).2.2.2.2.1.2.1
  have fG5 : ∀ n : Wd G, n.w.cell? ⟨kF, 1, none⟩ = some (.int .i64 K.x.hi) := fun n => (LG.out n).2.2.2.2.2.1.2.1
  have fG6 : ∀ n : Wd G, n.w.cell? ⟨kF, 2, none⟩ = some (.int .i64 K.y.lo) := fun n => (LG.out n).2.2.2.2.2.2.1.2.1
  have fG7 : ∀ n : Wd G, n.w.cell? ⟨kF, 3, none⟩ = some (.int .i64 K.y.hi) := fun n => (LG.out n).2.2.2.2.2.2.2.1.2.1
  have fG8 : ∀ n : Wd G, n.w.cell? ⟨kE, 0, none⟩ = some (.int .i64 M.x.lo) := fun n => (LG.out n).2.2.2.2.2.2.2.2.1.2.1
  have fG9 : ∀ n : Wd G, n.w.cell? ⟨kE, 1, none⟩ = some (.int .i64 M.x.hi) := fun n => (LG.out n).2.2.2.2.2.2.2.2.2.1.2.1
  have fG10 : ∀ n : Wd G, n.w.cell? ⟨kE, 2, none⟩ = some (.int .i64 M.y.lo) := fun n => (LG.out n).2.2.2.2.2.2.2.2.2.2.1.2.1
  have fG11 : ∀ n : Wd G, n.w.cell? ⟨kE, 3, none⟩ = some (.int .i64 M.y.hi) := fun n => (LG.out n).2.2.2.2.2.2.2.2.2.2.2.1.2.1
  have fG12 : ∀ n : Wd G, n.w.cell? ⟨kD, 0, none⟩ = some (.int .i64 M.x.lo) := fun n => (LG.out n).2.2.2.2.2.2.2.2.2.2.2.2.1.2.1
  have fG13 : ∀ n : Wd G, n.w.cell? ⟨kD, 1, none⟩ = some (.int .i64 M.x.hi) := fun n => (LG.out n).2.2.2.2.2.2.2.2.2.2.2.2.2.1.2.1
  have fG14 : ∀ n : Wd G, n.w.cell? ⟨kD, 2, none⟩ = some (.int .i64 M.y.lo) := fun n => (LG.out n).2.2.2.2.2.2.2.2.2.2.2.2.2.2.1.2.1
  have fG15 : ∀ n : Wd G, n.w.cell? ⟨kD, 3, none⟩ = some (.int .i64 M.y.hi) := fun n => (LG.out n).2.2.2.2.2.2.2.2.2.2.2.2.2.2.2.1.2.1
  have fG16 : ∀ n : Wd G, n.w.cell? ⟨w.heap.size + 1 + 1, 0, none⟩ = some (.int .i64 p.x) := fun n => (LG.out n).2.2.2.2.2.2.2.2.2.2.2.2.2.2.2.2.1.2.1
  have fG17 : ∀ n : Wd G, n.w.cell? ⟨w.heap.size + 1 + 1, 1, none⟩ = some (.int .i64 p.y) := fun n => (LG.out n).2.2.2.2.2.2.2.2.2.2.2.2.2.2.2.2.2.1.2.1
  have fG18 : ∀ n : Wd G, n.w.cell? ⟨w.heap.size + 1, 0, none⟩ = some (.int .i64 b.x.lo) := fun n => (LG.out n).2.2.2.2.2.2.2.2.2.2.2.2.2.2.2.2.2.2.1.2.1
  have fG19 : ∀ n : Wd G, n.w.cell? ⟨w.heap.size + 1, 1, none⟩ = some (.int .i64 b.x.hi) := fun n => (LG.out n).2.2.2.2.2.2.2.2.2.2.2.2.2.2.2.2.2.2.2.1.2.1
  have fG20 : ∀ n : Wd G, n.w.cell? ⟨w.heap.size + 1, 2, none⟩ = some (.int .i64 b.y.lo) := fun n => (LG.out n).2.2.2.2.2.2.2.2.2.2.2.2.2.2.2.2.2.2.2.2.1.2.1
  have fG21 : ∀ n : Wd G, n.w.cell? ⟨w.heap.size + 1, 3, none⟩ = some (.int .i64 b.y.hi) := fun n => (LG.out n).2.2.2.2.2.2.2.2.2.2.2.2.2.2.2.2.2.2.2.2.2.1.2.1
  have fG22 : ∀ n : Wd G, n.w.cell? ⟨w.heap.size, 0, none⟩ = some (.int .i64 a.x.lo) := fun n => (LG.out n).2.2.2.2.2.2.2.2.2.2.2.2.2.2.2.2.2.2.2.2.2.2.1.2.1
  have fG23 : ∀ n : Wd G, n.w.cell? ⟨w.heap.size, 1, none⟩ = some (.int .i64 a.x.hi) := fun n => (LG.out n).2.2.2.2.2.2.2.2.2.2.2.2.2.2.2.2.2.2.2.2.2.2.2.1.2.1
  have fG24 : ∀ n : Wd G, n.w.cell? ⟨w.heap.size, 2, none⟩ = some (.int .i64 a.y.lo) := fun n => (LG.out n).2.2.2.2.2.2.2.2.2.2.2.2.2.2.2.2.2.2.2.2.2.2.2.2.1.2.1
  have fG25 : ∀ n : Wd G, n.w.cell? ⟨w.heap.size, 3, none⟩ = some (.int .i64 a.y.hi) := fun n => (LG.out n).2.2.2.2.2.2.2.2.2.2.2.2.2.2.2.2.2.2.2.2.2.2.2.2.2.1.2.1
  clear S0 hC0
  clear D2 HD LD BD HE LE BE HF LF BF HC LC BC
  have E1 := cin HG P1
  have E2 := cin HG P2
  have E3 := cin HG X1
  have E4 := cin HG X2
  have E5 := cin HG X3
  have E6 := cin HG X4
  have E7 := cin HG T1
  rcases HC'.out with ⟨rfl, rfl, rfl, rfl, rfl, rfl⟩ | ⟨rfl, rfl, rfl, rfl, rfl, rfl⟩ | ⟨rfl, rfl, rfl, rfl, rfl, rfl⟩ | ⟨rfl, rfl, rfl, rfl, rfl, rfl⟩ | ⟨rfl, rfl, rfl, rfl, rfl, rfl⟩ | ⟨rfl, rfl, rfl, rfl, rfl, rfl⟩ | ⟨rfl, rfl, rfl, rfl, rfl, rfl, rfl⟩ | ⟨rfl, rfl, rfl, rfl, rfl, rfl, rfl⟩ | ⟨rfl, rfl, rfl, rfl, rfl, rfl, rfl⟩ | ⟨rfl, rfl, rfl, rfl, rfl, rfl, rfl, rfl⟩ | ⟨rfl, rfl, rfl, rfl, rfl, rfl, rfl, rfl⟩ | ⟨rfl, rfl, rfl, rfl, rfl, rfl, rfl, rfl⟩
  all_goals
    go_wp2_with (first | (go_at_call 53; with_reducible refine (E1 _).out.mono ?_; rintro e w' ⟨rfl, n, rfl⟩) | (go_at_call 53; with_reducible refine (E2 _).out.mono ?_; rintro e w' ⟨rfl, n, rfl⟩) | (go_at_call 55; with_reducible refine (E3 _).out.mono ?_; rintro e w' ⟨rfl, n, rfl⟩) | (go_at_call 55; with_reducible refine (E4 _).out.mono ?_; rintro e w' ⟨rfl, n, rfl⟩) | (go_at_call 55; with_reducible refine (E5 _).out.mono ?_; rintro e w' ⟨rfl, n, rfl⟩) | (go_at_call 55; with_reducible refine (E6 _).out.mono ?_; rintro e w' ⟨rfl, n, rfl⟩) | (go_at_call 51; with_reducible refine (E7 _).out.mono ?_; rintro e w' ⟨rfl, n, rfl⟩))
    obtain ⟨W0, hW0⟩ : ∃ W0, ((n.w).alloc (.cells #[.int .i64 (0), .int .i64 (0), .int .i64 (0), .int .i64 (0)] 60)).alloc (.cells #[.int .i64 (0), .int .i64 (0), .int .i64 (0), .int .i64 (0)] 60) = W0 := ⟨_, rfl⟩
    have S0 : St w W0 [(n.w.heap.size + 1, 0, .int .i64 (0)), (n.w.heap.size + 1, 1, .int .i64 (0)), (n.w.heap.size + 1, 2, .int .i64 (0)), (n.w.heap.size + 1, 3, .int .i64 (0)), (n.w.heap.size, 0, .int .i64 (0)), (n.w.heap.size, 1, .int .i64 (0)), (n.w.heap.size, 2, .int .i64 (0)), (n.w.heap.size, 3, .int .i64 (0)), (kG, 0, .int .i64 K.x.lo), (kG, 1, .int .i64 K.x.hi), (kG, 2, .int .i64 K.y.lo), (kG, 3, .int .i64 K.y.hi), (kF, 0, .int .i64 K.x.lo), (kF, 1, .int .i64 K.x.hi), (kF, 2, .int .i64 K.y.lo), (kF, 3, .int .i64 K.y.hi), (kE, 0, .int .i64 M.x.lo), (kE, 1, .int .i64 M.x.hi), (kE, 2, .int .i64 M.y.lo), (kE, 3, .int .i64 M.y.hi), (kD, 0, .int .i64 M.x.lo), (kD, 1, .int .i64 M.x.hi), (kD, 2, .int .i64 M.y.lo), (kD, 3, .int .i64 M.y.hi), (w.heap.size + 1 + 1, 0, .int .i64 p.x), (w.heap.size + 1 + 1, 1, .int .i64 p.y), (w.heap.size + 1, 0, .int .i64 b.x.lo), (w.heap.size + 1, 1, .int .i64 b.x.hi), (w.heap.size + 1, 2, .int .i64 b.y.lo), (w.heap.size + 1, 3, .int .i64 b.y.hi), (w.heap.size, 0, .int .i64 a.x.lo), (w.heap.size, 1, .int .i64 a.x.hi), (w.heap.size, 2, .int .i64 a.y.lo), (w.heap.size, 3, .int .i64 a.y.hi)] := by rw [← hW0]; exact (((⟨BG.out n, LG.out n⟩ : St w n.w _)).box #[.int .i64 (0), .int .i64 (0), .int .i64 (0), .int .i64 (0)] 60 (n.w.heap.size) (by simp)).box #[.int .i64 (0), .int .i64 (0), .int .i64 (0), .int .i64 (0)] 60 (n.w.heap.size + 1) (by simp)
    rw [hW0]
    clear hW0
    obtain ⟨kI, hkk⟩ : ∃ k, n.w.heap.size = k := ⟨_, rfl⟩
    rw [hkk] at S0 ⊢
    clear hkk
    obtain ⟨I, hC0, HI, LI, BI, hne⟩ := cls S0
    haveI := hne
    obtain ⟨i0, rfl⟩ : ∃ n : Wd I, W0 = n.w := ⟨⟨_, hC0⟩, rfl⟩
    have fI0 : ∀ n : Wd I, n.w.cell? ⟨kI + 1, 0, none⟩ = some (.int .i64 (0)) := fun n => (LI.out n).1.2.1
    have fI1 : ∀ n : Wd I, n.w.cell? ⟨kI + 1, 1, none⟩ = some (.int .i64 (0)) := fun n => (LI.out n).2.1.2.1
    have fI2 : ∀ n : Wd I, n.w.cell? ⟨kI + 1, 2, none⟩ = some (.int .i64 (0)) := fun n => (LI.out n).2.2.1.2.1
    have fI3 : ∀ n : Wd I, n.w.cell? ⟨kI + 1, 3, none⟩ = some (.int .i64 (0)) := fun n => (LI.out n).2.2.2.1.2.1
    have fI4 : ∀ n : Wd I, n.w.cell? ⟨kI, 0, none⟩ = some (.int .i64 (0)) := fun n => (LI.out n).2.2.2.2.1.2.1
    have fI5 : ∀ n : Wd I, n.w.cell? ⟨kI, 1, none⟩ = some (.int .i64 (0)) := fun n => (LI.out n).2.2.2.2.2.1.2.1
    have fI6 : ∀ n : Wd I, n.w.cell? ⟨kI, 2, none⟩ = some (.int .i64 (0)) := fun n => (LI.out n).2.2.2.2.2.2.1.2.1
    have fI7 : ∀ n : Wd I, n.w.cell? ⟨kI, 3, none⟩ = some (.int .i64 (0)) := fun n => (LI.out n).2.2.2.2.2.2.2.1.2.1
    have fI8 : ∀ n : Wd I, n.w.cell? ⟨kG, 0, none⟩ = some (.int .i64 K.x.lo) := fun n => (LI.out n).2.2.2.2.2.2.2.2.1.2.1
    have fI9 : ∀ n : Wd I, n.w.cell? ⟨kG, 1, none⟩ = some (.int .i64 K.x.hi) := fun n => (LI.out n).2.2.2.2.2.2.2.2.2.1.2.1
    have fI10 : ∀ n : Wd I, n.w.cell? ⟨kG, 2, none⟩ = some (.int .i64 K.y.lo) := fun n => (LI.out n).2.2.2.2.2.2.2.2.2.2.1.2.1
    have fI11 : ∀ n : Wd I, n.w.cell? ⟨kG, 3, none⟩ = some (.int .i64 K.y.hi) := fun n => (LI.out n).2.2.2.2.2.2.2.2.2.2.2.1.2.1
    have fI12 : ∀ n : Wd I, n.w.cell? ⟨kF, 0, none⟩ = some (.int .i64 K.x.lo) := fun n => (LI.out n).2.2.2.2.2.2.2.2.2.2.2.2.1.2.1
    have fI13 : ∀ n : Wd I, n.w.cell? ⟨kF, 1, none⟩ = some (.int .i64 K.x.hi) := fun n => (LI.out n).2.2.2.2.2.2.2.2.2.2.2.2.2.1.2.1
    have fI14 : ∀ n : Wd I, n.w.cell? ⟨kF, 2, none⟩ = some (.int .i64 K.y.lo) := fun n => (LI.out n).2.2.2.2.2.2.2.2.2.2.2.2.2.2.1.2.1
    have fI15 : ∀ n : Wd I, n.w.cell? ⟨kF, 3, none⟩ = some (.int .i64 K.y.hi) := fun n => (LI.out n).2.2.2.2.2.2.2.2.2.2.2.2.2.2.2.1.2.1
    have fI16 : ∀ n : Wd I, n.w.cell? ⟨kE, 0, none⟩ = some (.int .i64 M.x.lo) := fun n => (LI.out n).2.2.2.2.2.2.2.2.2.2.2.2.2.2.2.2.1.2.1
    have fI17 : ∀ n : Wd I, n.w.cell? ⟨kE, 1, none⟩ = some (.int .i64 M.x.hi) := fun n => (LI.out n).2.2.2.2.2.2.2.2.2.2.2.2.2.2.2.2.2.1.2.1
    have fI18 : ∀ n : Wd I, n.w.cell? ⟨kE, 2, none⟩ = some (.int .i64 M.y.lo) := fun n => (LI.out n).2.2.2.2.2.2.2.2.2.2.2.2.2.2.2.2.2.2.1.2.1
    have fI19 : ∀ n : Wd I, n.w.cell? ⟨kE, 3, none⟩ = some (.int .i64 M.y.hi) := fun n => (LI.out n).2.2.2.2.2.2.2.2.2.2.2.2.2.2.2.2.2.2.2.1.2.1
    have fI20 : ∀ n : Wd I, n.w.cell? ⟨kD, 0, none⟩ = some (.int .i64 M.x.lo) := fun n => (LI.out n).2.2.2.2.2.2.2.2.2.2.2.2.2.2.2.2.2.2.2.2.1.2.1
    have fI21 : ∀ n : Wd I, n.w.cell? ⟨kD, 1, none⟩ = some (.int .i64 M.x.hi) := fun n => (LI.out n).2.2.2.2.2.2.2.2.2.2.2.2.2.2.2.2.2.2.2.2.2.1.2.1
    have fI22 : ∀ n : Wd I, n.w.cell? ⟨kD, 2, none⟩ = some (.int .i64 M.y.lo) := fun n => (LI.out n).2.2.2.2.2.2.2.2.2.2.2.2.2.2.2.2.2.2.2.2.2.2.1.2.1
    have fI23 : ∀ n : Wd I, n.w.cell? ⟨kD, 3, none⟩ = some (.int .i64 M.y.hi) := fun n => (LI.out n).2.2.2.2.2.2.2.2.2.2.2.2.2.2.2.2.2.2.2.2.2.2.2.1.2.1
    have fI24 : ∀ n : Wd I, n.w.cell? ⟨w.heap.size + 1 + 1, 0, none⟩ = some (.int .i64 p.x) := fun n => (LI.out n).2.2.2.2.2.2.2.2.2.2.2.2.2.2.2.2.2.2.2.2.2.2.2.2.1.2.1
    have fI25 : ∀ n : Wd I, n.w.cell? ⟨w.heap.size + 1 + 1, 1, none⟩ = some (.int .i64 p.y) := fun n => (LI.out n).2.2.2.2.2.2.2.2.2.2.2.2.2.2.2.2.2.2.2.2.2.2.2.2.2.1.2.1
    have fI26 : ∀ n : Wd I, n.w.cell? ⟨w.heap.size + 1, 0, none⟩ = some (.int .i64 b.x.lo) := fun n => (LI.out n).2.2.2.2.2.2.2.2.2.2.2.2.2.2.2.2.2.2.2.2.2.2.2.2.2.2.1.2.1
    have fI27 : ∀ n : Wd I, n.w.cell? ⟨w.heap.size + 1, 1, none⟩ = some (.int .i64 b.x.hi) := fun n => (LI.out n).2.2.2.2.2.2.2.2.2.2.2.2.2.2.2.2.2.2.2.2.2.2.2.2.2.2.2.1.2.1
    have fI28 : ∀ n : Wd I, n.w.cell? ⟨w.heap.size + 1, 2, none⟩ = some (.int .i64 b.y.lo) := fun n => (LI.out n).2.2.2.2.2.2.2.2.2.2.2.2.2.2.2.2.2.2.2.2.2.2.2.2.2.2.2.2.1.2.1
    have fI29 : ∀ n : Wd I, n.w.cell? ⟨w.heap.size + 1, 3, none⟩ = some (.int .i64 b.y.hi) := fun n => (LI.out n).2.2.2.2.2.2.2.2.2.2.2.2.2.2.2.2.2.2.2.2.2.2.2.2.2.2.2.2.2.1.2.1
    have fI30 : ∀ n : Wd I, n.w.cell? ⟨w.heap.size, 0, none⟩ = some (.int .i64 a.x.lo) := fun n => (LI.out n).2.2.2.2.2.2.2.2.2.2.2.2.2.2.2.2.2.2.2.2.2.2.2.2.2.2.2.2.2.2.1.2.1
    have fI31 : ∀ n : Wd I, n.w.cell? ⟨w.heap.size, 1, none⟩ = some (.int .i64 a.x.hi) := fun n => (LI.out n).2.2.2.2.2.2.2.2.2.2.2.2.2.2.2.2.2.2.2.2.2.2.2.2.2.2.2.2.2.2.2.1.2.1
    have fI32 : ∀ n : Wd I, n.w.cell? ⟨w.heap.size, 2, none⟩ = some (.int .i64 a.y.lo) := fun n => (LI.out n).2.2.2.2.2.2.2.2.2.2.2.2.2.2.2.2.2.2.2.2.2.2.2.2.2.2.2.2.2.2.2.2.1.2.1
    have fI33 : ∀ n : Wd I, n.w.cell? ⟨w.heap.size, 3, none⟩ = some (.int .i64 a.y.hi) := fun n => (LI.out n).2.2.2.2.2.2.2.2.2.2.2.2.2.2.2.2.2.2.2.2.2.2.2.2.2.2.2.2.2.2.2.2.2.1.2.1
    clear S0 hC0
    have U1 := cin HI BX
    have U2 := cin HI P1
    have U3 := cin HI KC
    first
    | (refine wp_region_in I (HI.out _ _ (Wd.h _) (below_dr _)) (by kernel_rfl) (by kernel_rfl) ?_
       repeat (go_big_quiet_step (first | with_reducible exact (U1 _).out | with_reducible exact (U2 _).out))
       refine wpQuiet_nil ?_
       intro wx hwx
       obtain ⟨n, rfl⟩ : ∃ n : Wd I, wx = n.w := ⟨⟨wx, hwx⟩, rfl⟩
       clear hwx
       go_wp2_with fail
       go_ret
       exact ⟨rfl, BI.out _⟩)
    | (have hpp := HP.out (by trivial)
       have kE := fun W => eqP_run q0 q2 W
       rw [hpp] at kE
       refine wp_region_in I (HI.out _ _ (Wd.h _) (below_dr _)) (by kernel_rfl) (by kernel_rfl) ?_
       repeat (go_big_quiet_step (first | with_reducible exact (U1 _).out | with_reducible exact (U2 _).out | with_reducible exact (U3 _).out))
       refine wpQuiet_nil ?_
       intro wx hwx
       obtain ⟨n, rfl⟩ : ∃ n : Wd I, wx = n.w := ⟨⟨wx, hwx⟩, rfl⟩
       clear hwx
       go_wp2_with fail
       go_ret
       exact ⟨rfl, BI.out _⟩)
end Go.Proofs.Ytdefpcjlbganpaa
namespace Go.Proofs.Ytdefpcjlbganpaa
open Go.RowKit Go.Shelf Go.BigFrame
attribute [local go_sem] Oper.semAt_some
attribute [local go_sem] World.cell?_alloc_some
theorem cutCombos2 : ∀ za zb g e ha hb hm hc x y : Bool, (((za && zb) = g ∧ (ha && hb) = (e && hm) ∧ (g && (ha || hb) && !hc) = false ∧ (ha = true → za = true) ∧ (hb = true → zb = true) ∧ (e = true → g = true)) ∧ za = true ∧ (x || y) = ha ∧ (x && y) = false) →
    (za = true ∧ zb = false ∧ g = false ∧ e = false ∧ ha = false ∧ hb = false ∧ x = false ∧ y = false) ∨ (za = true ∧ zb = false ∧ g = false ∧ e = false ∧ ha = true ∧ hb = false ∧ x = true ∧ y = false) ∨ (za = true ∧ zb = false ∧ g = false ∧ e = false ∧ ha = true ∧ hb = false ∧ x = false ∧ y = true) ∨ (za = true ∧ zb = true ∧ g = true ∧ e = false ∧ ha = false ∧ hb = false ∧ x = false ∧ y = false) ∨ (za = true ∧ zb = true ∧ g = true ∧ e = false ∧ ha = true ∧ hb = false ∧ hc = true ∧ x = true ∧ y = false) ∨ (za = true ∧ zb = true ∧ g = true ∧ e = false ∧ ha = true ∧ hb = false ∧ hc = true ∧ x = false ∧ y = true) ∨ (za = true ∧ zb = true ∧ g = true ∧ e = false ∧ ha = false ∧ hb = true ∧ hc = true ∧ x = false ∧ y = false) ∨ (za = true ∧ zb = true ∧ g = true ∧ e = true ∧ ha = false ∧ hb = false ∧ hm = false ∧ x = false ∧ y = false) ∨ (za = true ∧ zb = true ∧ g = true ∧ e = true ∧ ha = true ∧ hb = false ∧ hm = false ∧ hc = true ∧ x = true ∧ y = false) ∨ (za = true ∧ zb = true ∧ g = true ∧ e = true ∧ ha = true ∧ hb = false ∧ hm = false ∧ hc = true ∧ x = false ∧ y = true) ∨ (za = true ∧ zb = true ∧ g = true ∧ e = true ∧ ha = false ∧ hb = true ∧ hm = false ∧ hc = true ∧ x = false ∧ y = false) ∨ (za = true ∧ zb = true ∧ g = true ∧ e = true ∧ ha = true ∧ hb = true ∧ hm = true ∧ hc = true ∧ x = true ∧ y = false) ∨ (za = true ∧ zb = true ∧ g = true ∧ e = true ∧ ha = true ∧ hb = true ∧ hm = true ∧ hc = true ∧ x = false ∧ y = true) := by
  intro za zb g e ha hb hm hc x y
  cases za <;> cases zb <;> cases g <;> cases e <;> cases ha <;> cases hb <;> cases hm <;> cases hc <;> cases x <;> cases y <;> simp
set_option maxRecDepth 100000 in
set_option maxHeartbeats 64000000 in
/-- The law of halves answers true, a box that has them. -/
theorem cutsLaw1 (BX : ∀ W, Calls Try.prog 38 #[] W fun e w' => e = .returned (.bool true) ∧ Below W.heap.size W w') (a b : Bx) (p : Pt) (w : World) (pp qq : Bx) (hcut : cutB a = some (pp, qq)) :
   Calls Try.prog 15 #[a.v, b.v, p.v] w fun e w' => e = .returned (.bool true) ∧ Below w.heap.size w w' := by
  have HF := cutFacts a b p
  have hpt := cut_some hcut p
  have T1 : ∀ W, Calls Try.prog 51 #[a.v] W fun e' w' => e' = .returned (.tuple #[pp.v, qq.v, .bool true]) ∧ Below W.heap.size W w' := fun W => by have h := Cut_any a W; rw [hcut] at h; exact h
  have V1 : ∀ W, Calls Try.prog 47 #[pp.v, qq.v] W fun e' w' => e' = .returned (.tuple #[a.v, .bool true]) ∧ Below W.heap.size W w' := fun W => by have h := Cover_any pp qq W; rw [hpt.2.2.2] at h; exact h
  have X5 := fun W => Holds_any pp p W
  have X6 := fun W => Holds_any qq p W
  obtain ⟨x, hx⟩ : ∃ z, hds pp p = z := ⟨_, rfl⟩
  obtain ⟨y, hy⟩ : ∃ z, hds qq p = z := ⟨_, rfl⟩
  simp only [hx] at X5
  simp only [hy] at X6
  rw [hx, hy] at hpt
  have hpt : okB a = true ∧ (x || y) = hds a p ∧ (x && y) = false := ⟨hpt.1, hpt.2.1, hpt.2.2.1⟩
  clear hcut hx hy
  obtain ⟨M, hM⟩ : ∃ M, (meetB a b).getD bx0 = M := ⟨_, rfl⟩
  obtain ⟨e, he⟩ : ∃ e, (meetB a b).isSome = e := ⟨_, rfl⟩
  obtain ⟨K, hK⟩ : ∃ M, (cvB a b).getD bx0 = M := ⟨_, rfl⟩
  obtain ⟨g, hg⟩ : ∃ e, (cvB a b).isSome = e := ⟨_, rfl⟩
  have M1 : ∀ W, Calls Try.prog 45 #[a.v, b.v] W fun e' w' => e' = .returned (.tuple #[M.v, .bool e]) ∧ Below W.heap.size W w' := fun W => by rw [← hM, ← he]; exact Meet_any a b W
  have M2 : ∀ W, Calls Try.prog 45 #[b.v, a.v] W fun e' w' => e' = .returned (.tuple #[M.v, .bool e]) ∧ Below W.heap.size W w' := fun W => by rw [← hM, ← he, meetB_comm]; exact Meet_any b a W
  have K1 : ∀ W, Calls Try.prog 47 #[a.v, b.v] W fun e' w' => e' = .returned (.tuple #[K.v, .bool g]) ∧ Below W.heap.size W w' := fun W => by rw [← hK, ← hg]; exact Cover_any a b W
  have K2 : ∀ W, Calls Try.prog 47 #[b.v, a.v] W fun e' w' => e' = .returned (.tuple #[K.v, .bool g]) ∧ Below W.heap.size W w' := fun W => by rw [← hK, ← hg, cvB_comm]; exact Cover_any b a W
  have P1 := fun W => Proper_any a W
  have P2 := fun W => Proper_any b W
  have X1 := fun W => Holds_any a p W
  have X2 := fun W => Holds_any b p W
  have X3 := fun W => Holds_any M p W
  have X4 := fun W => Holds_any K p W
  rw [hM, he, hK, hg] at HF
  clear hM he hK hg
  obtain ⟨za, hza⟩ : ∃ z, okB a = z := ⟨_, rfl⟩
  obtain ⟨zb, hzb⟩ : ∃ z, okB b = z := ⟨_, rfl⟩
  obtain ⟨ha, hha⟩ : ∃ z, hds a p = z := ⟨_, rfl⟩
  obtain ⟨hb, hhb⟩ : ∃ z, hds b p = z := ⟨_, rfl⟩
  obtain ⟨hm, hhm⟩ : ∃ z, hds M p = z := ⟨_, rfl⟩
  obtain ⟨hc, hhc⟩ : ∃ z, hds K p = z := ⟨_, rfl⟩
  simp only [hza] at P1
  simp only [hzb] at P2
  simp only [hha] at X1
  simp only [hhb] at X2
  simp only [hhm] at X3
  simp only [hhc] at X4
  rw [hza, hzb, hha, hhb, hhm, hhc] at HF
  rw [hza, hha] at hpt
  have HC' := cutCombos2 _ _ _ _ _ _ _ _ _ _ (And.intro HF hpt)
  clear HF hza hzb hha hhb hhm hhc
  have HC' := Lib.hid HC'
  clear hpt
  have kM := fun W => neB_run M W
  have kK := fun W => neB_run K W
  have kA := fun W => eqB_run a W
  go_enter Try.func15, Try.ntmps15
  go_wp2_with fail
  obtain ⟨W0, hW0⟩ : ∃ W0, (((w).alloc (.cells #[.int .i64 a.x.lo, .int .i64 a.x.hi, .int .i64 a.y.lo, .int .i64 a.y.hi] 60)).alloc (.cells #[.int .i64 b.x.lo, .int .i64 b.x.hi, .int .i64 b.y.lo, .int .i64 b.y.hi] 60)).alloc (.cells #[.int .i64 p.x, .int .i64 p.y] 23) = W0 := ⟨_, rfl⟩
  have S0 : St w W0 [(w.heap.size + 1 + 1, 0, .int .i64 p.x), (w.heap.size + 1 + 1, 1, .int .i64 p.y), (w.heap.size + 1, 0, .int .i64 b.x.lo), (w.heap.size + 1, 1, .int .i64 b.x.hi), (w.heap.size + 1, 2, .int .i64 b.y.lo), (w.heap.size + 1, 3, .int .i64 b.y.hi), (w.heap.size, 0, .int .i64 a.x.lo), (w.heap.size, 1, .int .i64 a.x.hi), (w.heap.size, 2, .int .i64 a.y.lo), (w.heap.size, 3, .int .i64 a.y.hi)] := by rw [← hW0]; exact ((((St.nil w)).box #[.int .i64 a.x.lo, .int .i64 a.x.hi, .int .i64 a.y.lo, .int .i64 a.y.hi] 60 (w.heap.size) (by simp)).box #[.int .i64 b.x.lo, .int .i64 b.x.hi, .int .i64 b.y.lo, .int .i64 b.y.hi] 60 (w.heap.size + 1) (by simp)).box #[.int .i64 p.x, .int .i64 p.y] 23 (w.heap.size + 1 + 1) (by simp)
  rw [hW0]
  clear hW0
  obtain ⟨C, hC0, HC, LC, BC, hne⟩ := cls S0
  haveI := hne
  obtain ⟨c0, rfl⟩ : ∃ n : Wd C, W0 = n.w := ⟨⟨_, hC0⟩, rfl⟩
  have fC0 : ∀ n : Wd C, n.w.cell? ⟨w.heap.size + 1 + 1, 0, none⟩ = some (.int .i64 p.x) := fun n => (LC.out n).1.2.1
  have fC1 : ∀ n : Wd C, n.w.cell? ⟨w.heap.size + 1 + 1, 1, none⟩ = some (.int .i64 p.y) := fun n => (LC.out n).2.1.2.1
  have fC2 : ∀ n : Wd C, n.w.cell? ⟨w.heap.size + 1, 0, none⟩ = some (.int .i64 b.x.lo) := fun n => (LC.out n).2.2.1.2.1
  have fC3 : ∀ n : Wd C, n.w.cell? ⟨w.heap.size + 1, 1, none⟩ = some (.int .i64 b.x.hi) := fun n => (LC.out n).2.2.2.1.2.1
  have fC4 : ∀ n : Wd C, n.w.cell? ⟨w.heap.size + 1, 2, none⟩ = some (.int .i64 b.y.lo) := fun n => (LC.out n).2.2.2.2.1.2.1
  have fC5 : ∀ n : Wd C, n.w.cell? ⟨w.heap.size + 1, 3, none⟩ = some (.int .i64 b.y.hi) := fun n => (LC.out n).2.2.2.2.2.1.2.1
  have fC6 : ∀ n : Wd C, n.w.cell? ⟨w.heap.size, 0, none⟩ = some (.int .i64 a.x.lo) := fun n => (LC.out n).2.2.2.2.2.2.1.2.1
  have fC7 : ∀ n : Wd C, n.w.cell? ⟨w.heap.size, 1, none⟩ = some (.int .i64 a.x.hi) := fun n => (LC.out n).2.2.2.2.2.2.2.1.2.1
  have fC8 : ∀ n : Wd C, n.w.cell? ⟨w.heap.size, 2, none⟩ = some (.int .i64 a.y.lo) := fun n => (LC.out n).2.2.2.2.2.2.2.2.1.2.1
  have fC9 : ∀ n : Wd C, n.w.cell? ⟨w.heap.size, 3, none⟩ = some (.int .i64 a.y.hi) := fun n => (LC.out n).2.2.2.2.2.2.2.2.2.1.2.1
  clear S0 hC0
  have D1 := cin HC M1
  go_wp2_with (first | (go_at_call 45; with_reducible refine (D1 _).out.mono ?_; rintro e w' ⟨rfl, n, rfl⟩))
  obtain ⟨W0, hW0⟩ : ∃ W0, (n.w).alloc (.cells #[.int .i64 M.x.lo, .int .i64 M.x.hi, .int .i64 M.y.lo, .int .i64 M.y.hi] 60) = W0 := ⟨_, rfl⟩
  have S0 : St w W0 [(n.w.heap.size, 0, .int .i64 M.x.lo), (n.w.heap.size, 1, .int .i64 M.x.hi), (n.w.heap.size, 2, .int .i64 M.y.lo), (n.w.heap.size, 3, .int .i64 M.y.hi), (w.heap.size + 1 + 1, 0, .int .i64 p.x), (w.heap.size + 1 + 1, 1, .int .i64 p.y), (w.heap.size + 1, 0, .int .i64 b.x.lo), (w.heap.size + 1, 1, .int .i64 b.x.hi), (w.heap.size + 1, 2, .int .i64 b.y.lo), (w.heap.size + 1, 3, .int .i64 b.y.hi), (w.heap.size, 0, .int .i64 a.x.lo), (w.heap.size, 1, .int .i64 a.x.hi), (w.heap.size, 2, .int .i64 a.y.lo), (w.heap.size, 3, .int .i64 a.y.hi)] := by rw [← hW0]; exact ((⟨BC.out n, LC.out n⟩ : St w n.w _)).box #[.int .i64 M.x.lo, .int .i64 M.x.hi, .int .i64 M.y.lo, .int .i64 M.y.hi] 60 (n.w.heap.size) (by simp)
  rw [hW0]
  clear hW0
  obtain ⟨kD, hkk⟩ : ∃ k, n.w.heap.size = k := ⟨_, rfl⟩
  rw [hkk] at S0 ⊢
  clear hkk
  obtain ⟨D, hC0, HD, LD, BD, hne⟩ := cls S0
  haveI := hne
  obtain ⟨d0, rfl⟩ : ∃ n : Wd D, W0 = n.w := ⟨⟨_, hC0⟩, rfl⟩
  have fD0 : ∀ n : Wd D, n.w.cell? ⟨kD, 0, none⟩ = some (.int .i64 M.x.lo) := fun n => (LD.out n).1.2.1
  have fD1 : ∀ n : Wd D, n.w.cell? ⟨kD, 1, none⟩ = some (.int .i64 M.x.hi) := fun n => (LD.out n).2.1.2.1
  have fD2 : ∀ n : Wd D, n.w.cell? ⟨kD, 2, none⟩ = some (.int .i64 M.y.lo) := fun n => (LD.out n).2.2.1.2.1
  have fD3 : ∀ n : Wd D, n.w.cell? ⟨kD, 3, none⟩ = some (.int .i64 M.y.hi) := fun n => (LD.out n).2.2.2.1.2.1
  have fD4 : ∀ n : Wd D, n.w.cell? ⟨w.heap.size + 1 + 1, 0, none⟩ = some (.int .i64 p.x) := fun n => (LD.out n).2.2.2.2.1.2.1
  have fD5 : ∀ n : Wd D, n.w.cell? ⟨w.heap.size + 1 + 1, 1, none⟩ = some (.int .i64 p.y) := fun n => (LD.out n).2.2.2.2.2.1.2.1
  have fD6 : ∀ n : Wd D, n.w.cell? ⟨w.heap.size + 1, 0, none⟩ = some (.int .i64 b.x.lo) := fun n => (LD.out n).2.2.2.2.2.2.1.2.1
  have fD7 : ∀ n : Wd D, n.w.cell? ⟨w.heap.size + 1, 1, none⟩ = some (.int .i64 b.x.hi) := fun n => (LD.out n).2.2.2.2.2.2.2.1.2.1
  have fD8 : ∀ n : Wd D, n.w.cell? ⟨w.heap.size + 1, 2, none⟩ = some (.int .i64 b.y.lo) := fun n => (LD.out n).2.2.2.2.2.2.2.2.1.2.1
  have fD9 : ∀ n : Wd D, n.w.cell? ⟨w.heap.size + 1, 3, none⟩ = some (.int .i64 b.y.hi) := fun n => (LD.out n).2.2.2.2.2.2.2.2.2.1.2.1
  have fD10 : ∀ n : Wd D, n.w.cell? ⟨w.heap.size, 0, none⟩ = some (.int .i64 a.x.lo) := fun n => (LD.out n).2.2.2.2.2.2.2.2.2.2.1.2.1
  have fD11 : ∀ n : Wd D, n.w.cell? ⟨w.heap.size, 1, none⟩ = some (.int .i64 a.x.hi) := fun n => (LD.out n).2.2.2.2.2.2.2.2.2.2.2.1.2.1
  have fD12 : ∀ n : Wd D, n.w.cell? ⟨w.heap.size, 2, none⟩ = some (.int .i64 a.y.lo) := fun n => (LD.out n).2.2.2.2.2.2.2.2.2.2.2.2.1.2.1
  have fD13 : ∀ n : Wd D, n.w.cell? ⟨w.heap.size, 3, none⟩ = some (.int .i64 a.y.hi) := fun n => (LD.out n).2.2.2.2.2.2.2.2.2.2.2.2.2.1.2.1
  clear S0 hC0
  have D2 := cin HD M2
  clear M1 M2 D1
  go_wp2_with (first | (go_at_call 45; with_reducible refine (D2 _).out.mono ?_; rintro e w' ⟨rfl, n, rfl⟩))
  obtain ⟨W0, hW0⟩ : ∃ W0, (n.w).alloc (.cells #[.int .i64 M.x.lo, .int .i64 M.x.hi, .int .i64 M.y.lo, .int .i64 M.y.hi] 60) = W0 := ⟨_, rfl⟩
  have S0 : St w W0 [(n.w.heap.size, 0, .int .i64 M.x.lo), (n.w.heap.size, 1, .int .i64 M.x.hi), (n.w.heap.size, 2, .int .i64 M.y.lo), (n.w.heap.size, 3, .int .i64 M.y.hi), (kD, 0, .int .i64 M.x.lo), (kD, 1, .int .i64 M.x.hi), (kD, 2, .int .i64 M.y.lo), (kD, 3, .int .i64 M.y.hi), (w.heap.size + 1 + 1, 0, .int .i64 p.x), (w.heap.size + 1 + 1, 1, .int .i64 p.y), (w.heap.size + 1, 0, .int .i64 b.x.lo), (w.heap.size + 1, 1, .int .i64 b.x.hi), (w.heap.size + 1, 2, .int .i64 b.y.lo), (w.heap.size + 1, 3, .int .i64 b.y.hi), (w.heap.size, 0, .int .i64 a.x.lo), (w.heap.size, 1, .int .i64 a.x.hi), (w.heap.size, 2, .int .i64 a.y.lo), (w.heap.size, 3, .int .i64 a.y.hi)] := by rw [← hW0]; exact ((⟨BD.out n, LD.out n⟩ : St w n.w _)).box #[.int .i64 M.x.lo, .int .i64 M.x.hi, .int .i64 M.y.lo, .int .i64 M.y.hi] 60 (n.w.heap.size) (by simp)
  rw [hW0]
  clear hW0
  obtain ⟨kE, hkk⟩ : ∃ k, n.w.heap.size = k := ⟨_, rfl⟩
  rw [hkk] at S0 ⊢
  clear hkk
  obtain ⟨E, hC0, HE, LE, BE, hne⟩ := cls S0
  haveI := hne
  obtain ⟨e0, rfl⟩ : ∃ n : Wd E, W0 = n.w := ⟨⟨_, hC0⟩, rfl⟩
  have fE0 : ∀ n : Wd E, n.w.cell? ⟨kE, 0, none⟩ = some (.int .i64 M.x.lo) := fun n => (LE.out n).1.2.1
  have fE1 : ∀ n : Wd E, n.w.cell? ⟨kE, 1, none⟩ = some (.int .i64 M.x.hi) := fun n => (LE.out n).2.1.2.1
  have fE2 : ∀ n : Wd E, n.w.cell? ⟨kE, 2, none⟩ = some (.int .i64 M.y.lo) := fun n => (LE.out n).2.2.1.2.1
  have fE3 : ∀ n : Wd E, n.w.cell? ⟨kE, 3, none⟩ = some (.int .i64 M.y.hi) := fun n => (LE.out n).2.2.2.1.2.1
  have fE4 : ∀ n : Wd E, n.w.cell? ⟨kD, 0, none⟩ = some (.int .i64 M.x.lo) := fun n => (LE.out n).2.2.2.2.1.2.1
  have fE5 : ∀ n : Wd E, n.w.cell? ⟨kD, 1, none⟩ = some (.int .i64 M.x.hi) := fun n => (LE.out n).2.2.2.2.2.1.2.1
  have fE6 : ∀ n : Wd E, n.w.cell? ⟨kD, 2, none⟩ = some (.int .i64 M.y.lo) := fun n => (LE.out n).2.2.2.2.2.2.1.2.1
  have fE7 : ∀ n : Wd E, n.w.cell? ⟨kD, 3, none⟩ = some (.int .i64 M.y.hi) := fun n => (LE.out n).2.2.2.2.2.2.2.1.2.1
  have fE8 : ∀ n : Wd E, n.w.cell? ⟨w.heap.size + 1 + 1, 0, none⟩ = some (.int .i64 p.x) := fun n => (LE.out n).2.2.2.2.2.2.2.2.1.2.1
  have fE9 : ∀ n : Wd E, n.w.cell? ⟨w.heap.size + 1 + 1, 1, none⟩ = some (.int .i64 p.y) := fun n => (LE.out n).2.2.2.2.2.2.2.2.2.1.2.1
  have fE10 : ∀ n : Wd E, n.w.cell? ⟨w.heap.size + 1, 0, none⟩ = some (.int .i64 b.x.lo) := fun n => (LE.out n).2.2.2.2.2.2.2.2.2.2.1.2.1
  have fE11 : ∀ n : Wd E, n.w.cell? ⟨w.heap.size + 1, 1, none⟩ = some (.int .i64 b.x.hi) := fun n => (LE.out n).2.2.2.2.2.2.2.2.2.2.2.1.2.1
  have fE12 : ∀ n : Wd E, n.w.cell? ⟨w.heap.size + 1, 2, none⟩ = some (.int .i64 b.y.lo) := fun n => (LE.out n).2.2.2.2.2.2.2.2.2.2.2.2.1.2.1
  have fE13 : ∀ n : Wd E, n.w.cell? ⟨w.heap.size + 1, 3, none⟩ = some (.int .i64 b.y.hi) := fun n => (LE.out n).2.2.2.2.2.2.2.2.2.2.2.2.2.1.2.1
  have fE14 : ∀ n : Wd E, n.w.cell? ⟨w.heap.size, 0, none⟩ = some (.int .i64 a.x.lo) := fun n => (LE.out n).2.2.2.2.2.2.2.2.2.2.2.2.2.2.1.2.1
  have fE15 : ∀ n : Wd E, n.w.cell? ⟨w.heap.size, 1, none⟩ = some (.int .i64 a.x.hi) := fun n => (LE.out n).2.2.2.2.2.2.2.2.2.2.2.2.2.2.2.1.2.1
  have fE16 : ∀ n : Wd E, n.w.cell? ⟨w.heap.size, 2, none⟩ = some (.int .i64 a.y.lo) := fun n => (LE.out n).2.2.2.2.2.2.2.2.2.2.2.2.2.2.2.2.1.2.1
  have fE17 : ∀ n : Wd E, n.w.cell? ⟨w.heap.size, 3, none⟩ = some (.int .i64 a.y.hi) := fun n => (LE.out n).2.2.2.2.2.2.2.2.2.2.2.2.2.2.2.2.2.1.2.1
  clear S0 hC0
  have D1 := cin HE K1
  clear K1 D2
  go_wp2_with (first | (go_at_call 47; with_reducible refine (D1 _).out.mono ?_; rintro e w' ⟨rfl, n, rfl⟩))
  obtain ⟨W0, hW0⟩ : ∃ W0, (n.w).alloc (.cells #[.int .i64 K.x.lo, .int .i64 K.x.hi, .int .i64 K.y.lo, .int .i64 K.y.hi] 60) = W0 := ⟨_, rfl⟩
  have S0 : St w W0 [(n.w.heap.size, 0, .int .i64 K.x.lo), (n.w.heap.size, 1, .int .i64 K.x.hi), (n.w.heap.size, 2, .int .i64 K.y.lo), (n.w.heap.size, 3, .int .i64 K.y.hi), (kE, 0, .int .i64 M.x.lo), (kE, 1, .int .i64 M.x.hi), (kE, 2, .int .i64 M.y.lo), (kE, 3, .int .i64 M.y.hi), (kD, 0, .int .i64 M.x.lo), (kD, 1, .int .i64 M.x.hi), (kD, 2, .int .i64 M.y.lo), (kD, 3, .int .i64 M.y.hi), (w.heap.size + 1 + 1, 0, .int .i64 p.x), (w.heap.size + 1 + 1, 1, .int .i64 p.y), (w.heap.size + 1, 0, .int .i64 b.x.lo), (w.heap.size + 1, 1, .int .i64 b.x.hi), (w.heap.size + 1, 2, .int .i64 b.y.lo), (w.heap.size + 1, 3, .int .i64 b.y.hi), (w.heap.size, 0, .int .i64 a.x.lo), (w.heap.size, 1, .int .i64 a.x.hi), (w.heap.size, 2, .int .i64 a.y.lo), (w.heap.size, 3, .int .i64 a.y.hi)] := by rw [← hW0]; exact ((⟨BE.out n, LE.out n⟩ : St w n.w _)).box #[.int .i64 K.x.lo, .int .i64 K.x.hi, .int .i64 K.y.lo, .int .i64 K.y.hi] 60 (n.w.heap.size) (by simp)
  rw [hW0]
  clear hW0
  obtain ⟨kF, hkk⟩ : ∃ k, n.w.heap.size = k := ⟨_, rfl⟩
  rw [hkk] at S0 ⊢
  clear hkk
  obtain ⟨F, hC0, HF, LF, BF, hne⟩ := cls S0
  haveI := hne
  obtain ⟨f0, rfl⟩ : ∃ n : Wd F, W0 = n.w := ⟨⟨_, hC0⟩, rfl⟩
  have fF0 : ∀ n : Wd F, n.w.cell? ⟨kF, 0, none⟩ = some (.int .i64 K.x.lo) := fun n => (LF.out n).1.2.1
  have fF1 : ∀ n : Wd F, n.w.cell? ⟨kF, 1, none⟩ = some (.int .i64 K.x.hi) := fun n => (LF.out n).2.1.2.1
  have fF2 : ∀ n : Wd F, n.w.cell? ⟨kF, 2, none⟩ = some (.int .i64 K.y.lo) := fun n => (LF.out n).2.2.1.2.1
  have fF3 : ∀ n : Wd F, n.w.cell? ⟨kF, 3, none⟩ = some (.int .i64 K.y.hi) := fun n => (LF.out n).2.2.2.1.2.1
  have fF4 : ∀ n : Wd F, n.w.cell? ⟨kE, 0, none⟩ = some (.int .i64 M.x.lo) := fun n => (LF.out n).2.2.2.2.1.2.1
  have fF5 : ∀ n : Wd F, n.w.cell? ⟨kE, 1, none⟩ = some (.int .i64 M.x.hi) := fun n => (LF.out n).2.2.2.2.2.1.2.1
  have fF6 : ∀ n : Wd F, n.w.cell? ⟨kE, 2, none⟩ = some (.int .i64 M.y.lo) := fun n => (LF.out n).2.2.2.2.2.2.1.2.1
  have fF7 : ∀ n : Wd F, n.w.cell? ⟨kE, 3, none⟩ = some (.int .i64 M.y.hi) := fun n => (LF.out n).2.2.2.2.2.2.2.1.2.1
  have fF8 : ∀ n : Wd F, n.w.cell? ⟨kD, 0, none⟩ = some (.int .i64 M.x.lo) := fun n => (LF.out n).2.2.2.2.2.2.2.2.1.2.1
  have fF9 : ∀ n : Wd F, n.w.cell? ⟨kD, 1, none⟩ = some (.int .i64 M.x.hi) := fun n => (LF.out n).2.2.2.2.2.2.2.2.2.1.2.1
  have fF10 : ∀ n : Wd F, n.w.cell? ⟨kD, 2, none⟩ = some (.int .i64 M.y.lo) := fun n => (LF.out n).2.2.2.2.2.2.2.2.2.2.1.2.1
  have fF11 : ∀ n : Wd F, n.w.cell? ⟨kD, 3, none⟩ = some (.int .i64 M.y.hi) := fun n => (LF.out n).2.2.2.2.2.2.2.2.2.2.2.1.2.1
  have fF12 : ∀ n : Wd F, n.w.cell? ⟨w.heap.size + 1 + 1, 0, none⟩ = some (.int .i64 p.x) := fun n => (LF.out n).2.2.2.2.2.2.2.2.2.2.2.2.1.2.1
  have fF13 : ∀ n : Wd F, n.w.cell? ⟨w.heap.size + 1 + 1, 1, none⟩ = some (.int .i64 p.y) := fun n => (LF.out n).2.2.2.2.2.2.2.2.2.2.2.2.2.1.2.1
  have fF14 : ∀ n : Wd F, n.w.cell? ⟨w.heap.size + 1, 0, none⟩ = some (.int .i64 b.x.lo) := fun n => (LF.out n).2.2.2.2.2.2.2.2.2.2.2.2.2.2.1.2.1
  have fF15 : ∀ n : Wd F, n.w.cell? ⟨w.heap.size + 1, 1, none⟩ = some (.int .i64 b.x.hi) := fun n => (LF.out n).2.2.2.2.2.2.2.2.2.2.2.2.2.2.2.1.2.1
  have fF16 : ∀ n : Wd F, n.w.cell? ⟨w.heap.size + 1, 2, none⟩ = some (.int .i64 b.y.lo) := fun n => (LF.out n).2.2.2.2.2.2.2.2.2.2.2.2.2.2.2.2.1.2.1
  have fF17 : ∀ n : Wd F, n.w.cell? ⟨w.heap.size + 1, 3, none⟩ = some (.int .i64 b.y.hi) := fun n => (LF.out n).2.2.2.2.2.2.2.2.2.2.2.2.2.2.2.2.2.1.2.1
  have fF18 : ∀ n : Wd F, n.w.cell? ⟨w.heap.size, 0, none⟩ = some (.int .i64 a.x.lo) := fun n => (LF.out n).2.2.2.2.2.2.2.2.2.2.2.2.2.2.2.2.2.2.1.2.1
  have fF19 : ∀ n : Wd F, n.w.cell? ⟨w.heap.size, 1, none⟩ = some (.int .i64 a.x.hi) := fun n => (LF.out n).2.2.2.2.2.2.2.2.2.2.2.2.2.2.2.2.2.2.2.1.2.1
  have fF20 : ∀ n : Wd F, n.w.cell? ⟨w.heap.size, 2, none⟩ = some (.int .i64 a.y.lo) := fun n => (LF.out n).2.2.2.2.2.2.2.2.2.2.2.2.2.2.2.2.2.2.2.2.1.2.1
  have fF21 : ∀ n : Wd F, n.w.cell? ⟨w.heap.size, 3, none⟩ = some (.int .i64 a.y.hi) := fun n => (LF.out n).2.2.2.2.2.2.2.2.2.2.2.2.2.2.2.2.2.2.2.2.2.1.2.1
  clear S0 hC0
  have D2 := cin HF K2
  clear K2 D1
  go_wp2_with (first | (go_at_call 47; with_reducible refine (D2 _).out.mono ?_; rintro e w' ⟨rfl, n, rfl⟩))
  obtain ⟨W0, hW0⟩ : ∃ W0, (n.w).alloc (.cells #[.int .i64 K.x.lo, .int .i64 K.x.hi, .int .i64 K.y.lo, .int .i64 K.y.hi] 60) = W0 := ⟨_, rfl⟩
  have S0 : St w W0 [(n.w.heap.size, 0, .int .i64 K.x.lo), (n.w.heap.size, 1, .int .i64 K.x.hi), (n.w.heap.size, 2, .int .i64 K.y.lo), (n.w.heap.size, 3, .int .i64 K.y.hi), (kF, 0, .int .i64 K.x.lo), (kF, 1, .int .i64 K.x.hi), (kF, 2, .int .i64 K.y.lo), (kF, 3, .int .i64 K.y.hi), (kE, 0, .int .i64 M.x.lo), (kE, 1, .int .i64 M.x.hi), (kE, 2, .int .i64 M.y.lo), (kE, 3, .int .i64 M.y.hi), (kD, 0, .int .i64 M.x.lo), (kD, 1, .int .i64 M.x.hi), (kD, 2, .int .i64 M.y.lo), (kD, 3, .int .i64 M.y.hi), (w.heap.size + 1 + 1, 0, .int .i64 p.x), (w.heap.size + 1 + 1, 1, .int .i64 p.y), (w.heap.size + 1, 0, .int .i64 b.x.lo), (w.heap.size + 1, 1, .int .i64 b.x.hi), (w.heap.size + 1, 2, .int .i64 b.y.lo), (w.heap.size + 1, 3, .int .i64 b.y.hi), (w.heap.size, 0, .int .i64 a.x.lo), (w.heap.size, 1, .int .i64 a.x.hi), (w.heap.size, 2, .int .i64 a.y.lo), (w.heap.size, 3, .int .i64 a.y.hi)] := by rw [← hW0]; exact ((⟨BF.out n, LF.out n⟩ : St w n.w _)).box #[.int .i64 K.x.lo, .int .i64 K.x.hi, .int .i64 K.y.lo, .int .i64 K.y.hi] 60 (n.w.heap.size) (by simp)
  rw [hW0]
  clear hW0
  obtain ⟨kG, hkk⟩ : ∃ k, n.w.heap.size = k := ⟨_, rfl⟩
  rw [hkk] at S0 ⊢
  clear hkk
  obtain ⟨G, hC0, HG, LG, BG, hne⟩ := cls S0
  haveI := hne
  obtain ⟨g0, rfl⟩ : ∃ n : Wd G, W0 = n.w := ⟨⟨_, hC0⟩, rfl⟩
  have fG0 : ∀ n : Wd G, n.w.cell? ⟨kG, 0, none⟩ = some (.int .i64 K.x.lo) := fun n => (LG.out n).1.2.1
  have fG1 : ∀ n : Wd G, n.w.cell? ⟨kG, 1, none⟩ = some (.int .i64 K.x.hi) := fun n => (LG.out n).2.1.2.1
  have fG2 : ∀ n : Wd G, n.w.cell? ⟨kG, 2, none⟩ = some (.int .i64 K.y.lo) := fun n => (LG.out n).2.2.1.2.1
  have fG3 : ∀ n : Wd G, n.w.cell? ⟨kG, 3, none⟩ = some (.int .i64 K.y.hi) := fun n => (LG.out n).2.2.2.1.2.1
  have fG4 : ∀ n : Wd G, n.w.cell? ⟨kF, 0, none⟩ = some (.int .i64 K.x.lo) := fun n => (LG.out n).2.2.2.2.1.2.1
  have fG5 : ∀ n : Wd G, n.w.cell? ⟨kF, 1, none⟩ = some (.int .i64 K.x.hi) := fun n => (LG.out n).2.2.2.2.2.1.2.1
  have fG6 : ∀ n : Wd G, n.w.cell? ⟨kF, 2, none⟩ = some (.int .i64 K.y.lo) := fun n => (LG.out n).2.2.2.2.2.2.1.2.1
  have fG7 : ∀ n : Wd G, n.w.cell? ⟨kF, 3, none⟩ = some (.int .i64 K.y.hi) := fun n => (LG.out n).2.2.2.2.2.2.2.1.2.1
  have fG8 : ∀ n : Wd G, n.w.cell? ⟨kE, 0, none⟩ = some (.int .i64 M.x.lo) := fun n => (LG.out n).2.2.2.2.2.2.2.2.1.2.1
  have fG9 : ∀ n : Wd G, n.w.cell? ⟨kE, 1, none⟩ = some (.int .i64 M.x.hi) := fun n => (LG.out n).2.2.2.2.2.2.2.2.2.1.2.1
  have fG10 : ∀ n : Wd G, n.w.cell? ⟨kE, 2, none⟩ = some (.int .i64 M.y.lo) := fun n => (LG.out n).2.2.2.2.2.2.2.2.2.2.1.2.1
  have fG11 : ∀ n : Wd G, n.w.cell? ⟨kE, 3, none⟩ = some (.int .i64 M.y.hi) := fun n => (LG.out n).2.2.2.2.2.2.2.2.2.2.2.1.2.1
  have fG12 : ∀ n : Wd G, n.w.cell? ⟨kD, 0, none⟩ = some (.int .i64 M.x.lo) := fun n => (LG.out n).2.2.2.2.2.2.2.2.2.2.2.2.1.2.1
  have fG13 : ∀ n : Wd G, n.w.cell? ⟨kD, 1, none⟩ = some (.int .i64 M.x.hi) := fun n => (LG.out n).2.2.2.2.2.2.2.2.2.2.2.2.2.1.2.1
  have fG14 : ∀ n : Wd G, n.w.cell? ⟨kD, 2, none⟩ = some (.int .i64 M.y.lo) := fun n => (LG.out n).2.2.2.2.2.2.2.2.2.2.2.2.2.2.1.2.1
  have fG15 : ∀ n : Wd G, n.w.cell? ⟨kD, 3, none⟩ = some (.int .i64 M.y.hi) := fun n => (LG.out n).2.2.2.2.2.2.2.2.2.2.2.2.2.2.2.1.2.1
  have fG16 : ∀ n : Wd G, n.w.cell? ⟨w.heap.size + 1 + 1, 0, none⟩ = some (.int .i64 p.x) := fun n => (LG.out n).2.2.2.2.2.2.2.2.2.2.2.2.2.2.2.2.1.2.1
  have fG17 : ∀ n : Wd G, n.w.cell? ⟨w.heap.size + 1 + 1, 1, none⟩ = some (.int .i64 p.y) := fun n => (LG.out n).2.2.2.2.2.2.2.2.2.2.2.2.2.2.2.2.2.1.2.1
  have fG18 : ∀ n : Wd G, n.w.cell? ⟨w.heap.size + 1, 0, none⟩ = some (.int .i64 b.x.lo) := fun n => (LG.out n).2.2.2.2.2.2.2.2.2.2.2.2.2.2.2.2.2.2.1.2.1
  have fG19 : ∀ n : Wd G, n.w.cell? ⟨w.heap.size + 1, 1, none⟩ = some (.int .i64 b.x.hi) := fun n => (LG.out n).2.2.2.2.2.2.2.2.2.2.2.2.2.2.2.2.2.2.2.1.2.1
  have fG20 : ∀ n : Wd G, n.w.cell? ⟨w.heap.size + 1, 2, none⟩ = some (.int .i64 b.y.lo) := fun n => (LG.out n).2.2.2.2.2.2.2.2.2.2.2.2.2.2.2.2.2.2.2.2.1.2.1
  have fG21 : ∀ n : Wd G, n.w.cell? ⟨w.heap.size + 1, 3, none⟩ = some (.int .i64 b.y.hi) := fun n => (LG.out n).2.2.2.2.2.2.2.2.2.2.2.2.2.2.2.2.2.2.2.2.2.1.2.1
  have fG22 : ∀ n : Wd G, n.w.cell? ⟨w.heap.size, 0, none⟩ = some (.int .i64 a.x.lo) := fun n => (LG.out n).2.2.2.2.2.2.2.2.2.2.2.2.2.2.2.2.2.2.2.2.2.2.1.2.1
  have fG23 : ∀ n : Wd G, n.w.cell? ⟨w.heap.size, 1, none⟩ = some (.int .i64 a.x.hi) := fun n => (LG.out n).2.2.2.2.2.2.2.2.2.2.2.2.2.2.2.2.2.2.2.2.2.2.2.1.2.1
  have fG24 : ∀ n : Wd G, n.w.cell? ⟨w.heap.size, 2, none⟩ = some (.int .i64 a.y.lo) := fun n => (LG.out n).2.2.2.2.2.2.2.2.2.2.2.2.2.2.2.2.2.2.2.2.2.2.2.2.1.2.1
  have fG25 : ∀ n : Wd G, n.w.cell? ⟨w.heap.size, 3, none⟩ = some (.int .i64 a.y.hi) := fun n => (LG.out n).2.2.2.2.2.2.2.2.2.2.2.2.2.2.2.2.2.2.2.2.2.2.2.2.2.1.2.1
  clear S0 hC0
  clear D2 HD LD BD HE LE BE HF LF BF HC LC BC
  have E1 := cin HG P1
  have E2 := cin HG P2
  have E3 := cin HG X1
  have E4 := cin HG X2
  have E5 := cin HG X3
  have E6 := cin HG X4
  have E7 := cin HG T1
  rcases HC'.out with ⟨rfl, rfl, rfl, rfl, rfl, rfl, rfl, rfl⟩ | ⟨rfl, rfl, rfl, rfl, rfl, rfl, rfl, rfl⟩ | ⟨rfl, rfl, rfl, rfl, rfl, rfl, rfl, rfl⟩ | ⟨rfl, rfl, rfl, rfl, rfl, rfl, rfl, rfl⟩ | ⟨rfl, rfl, rfl, rfl, rfl, rfl, rfl, rfl, rfl⟩ | ⟨rfl, rfl, rfl, rfl, rfl, rfl, rfl, rfl, rfl⟩ | ⟨rfl, rfl, rfl, rfl, rfl, rfl, rfl, rfl, rfl⟩ | ⟨rfl, rfl, rfl, rfl, rfl, rfl, rfl, rfl, rfl⟩ | ⟨rfl, rfl, rfl, rfl, rfl, rfl, rfl, rfl, rfl, rfl⟩ | ⟨rfl, rfl, rfl, rfl, rfl, rfl, rfl, rfl, rfl, rfl⟩ | ⟨rfl, rfl, rfl, rfl, rfl, rfl, rfl, rfl, rfl, rfl⟩ | ⟨rfl, rfl, rfl, rfl, rfl, rfl, rfl, rfl, rfl, rfl⟩ | ⟨rfl, rfl, rfl, rfl, rfl, rfl, rfl, rfl, rfl, rfl⟩
  all_goals
    go_wp2_with (first | (go_at_call 53; with_reducible refine (E1 _).out.mono ?_; rintro e w' ⟨rfl, n, rfl⟩) | (go_at_call 53; with_reducible refine (E2 _).out.mono ?_; rintro e w' ⟨rfl, n, rfl⟩) | (go_at_call 55; with_reducible refine (E3 _).out.mono ?_; rintro e w' ⟨rfl, n, rfl⟩) | (go_at_call 55; with_reducible refine (E4 _).out.mono ?_; rintro e w' ⟨rfl, n, rfl⟩) | (go_at_call 55; with_reducible refine (E5 _).out.mono ?_; rintro e w' ⟨rfl, n, rfl⟩) | (go_at_call 55; with_reducible refine (E6 _).out.mono ?_; rintro e w' ⟨rfl, n, rfl⟩) | (go_at_call 51; with_reducible refine (E7 _).out.mono ?_; rintro e w' ⟨rfl, n, rfl⟩))
    obtain ⟨W0, hW0⟩ : ∃ W0, ((n.w).alloc (.cells #[.int .i64 pp.x.lo, .int .i64 pp.x.hi, .int .i64 pp.y.lo, .int .i64 pp.y.hi] 60)).alloc (.cells #[.int .i64 qq.x.lo, .int .i64 qq.x.hi, .int .i64 qq.y.lo, .int .i64 qq.y.hi] 60) = W0 := ⟨_, rfl⟩
    have S0 : St w W0 [(n.w.heap.size + 1, 0, .int .i64 qq.x.lo), (n.w.heap.size + 1, 1, .int .i64 qq.x.hi), (n.w.heap.size + 1, 2, .int .i64 qq.y.lo), (n.w.heap.size + 1, 3, .int .i64 qq.y.hi), (n.w.heap.size, 0, .int .i64 pp.x.lo), (n.w.heap.size, 1, .int .i64 pp.x.hi), (n.w.heap.size, 2, .int .i64 pp.y.lo), (n.w.heap.size, 3, .int .i64 pp.y.hi), (kG, 0, .int .i64 K.x.lo), (kG, 1, .int .i64 K.x.hi), (kG, 2, .int .i64 K.y.lo), (kG, 3, .int .i64 K.y.hi), (kF, 0, .int .i64 K.x.lo), (kF, 1, .int .i64 K.x.hi), (kF, 2, .int .i64 K.y.lo), (kF, 3, .int .i64 K.y.hi), (kE, 0, .int .i64 M.x.lo), (kE, 1, .int .i64 M.x.hi), (kE, 2, .int .i64 M.y.lo), (kE, 3, .int .i64 M.y.hi), (kD, 0, .int .i64 M.x.lo), (kD, 1, .int .i64 M.x.hi), (kD, 2, .int .i64 M.y.lo), (kD, 3, .int .i64 M.y.hi), (w.heap.size + 1 + 1, 0, .int .i64 p.x), (w.heap.size + 1 + 1, 1, .int .i64 p.y), (w.heap.size + 1, 0, .int .i64 b.x.lo), (w.heap.size + 1, 1, .int .i64 b.x.hi), (w.heap.size + 1, 2, .int .i64 b.y.lo), (w.heap.size + 1, 3, .int .i64 b.y.hi), (w.heap.size, 0, .int .i64 a.x.lo), (w.heap.size, 1, .int .i64 a.x.hi), (w.heap.size, 2, .int .i64 a.y.lo), (w.heap.size, 3, .int .i64 a.y.hi)] := by rw [← hW0]; exact (((⟨BG.out n, LG.out n⟩ : St w n.w _)).box #[.int .i64 pp.x.lo, .int .i64 pp.x.hi, .int .i64 pp.y.lo, .int .i64 pp.y.hi] 60 (n.w.heap.size) (by simp)).box #[.int .i64 qq.x.lo, .int .i64 qq.x.hi, .int .i64 qq.y.lo, .int .i64 qq.y.hi] 60 (n.w.heap.size + 1) (by simp)
    rw [hW0]
    clear hW0
    obtain ⟨kI, hkk⟩ : ∃ k, n.w.heap.size = k := ⟨_, rfl⟩
    rw [hkk] at S0 ⊢
    clear hkk
    obtain ⟨I, hC0, HI, LI, BI, hne⟩ := cls S0
    haveI := hne
    obtain ⟨i0, rfl⟩ : ∃ n : Wd I, W0 = n.w := ⟨⟨_, hC0⟩, rfl⟩
    have fI0 : ∀ n : Wd I, n.w.cell? ⟨kI + 1, 0, none⟩ = some (.int .i64 qq.x.lo) := fun n => (LI.out n).1.2.1
    have fI1 : ∀ n : Wd I, n.w.cell? ⟨kI + 1, 1, none⟩ = some (.int .i64 qq.x.hi) := fun n => (LI.out n).2.1.2.1
    have fI2 : ∀ n : Wd I, n.w.cell? ⟨kI + 1, 2, none⟩ = some (.int .i64 qq.y.lo) := fun n => (LI.out n).2.2.1.2.1
    have fI3 : ∀ n : Wd I, n.w.cell? ⟨kI + 1, 3, none⟩ = some (.int .i64 qq.y.hi) := fun n => (LI.out n).2.2.2.1.2.1
    have fI4 : ∀ n : Wd I, n.w.cell? ⟨kI, 0, none⟩ = some (.int .i64 pp.x.lo) := fun n => (LI.out n).2.2.2.2.1.2.1
    have fI5 : ∀ n : Wd I, n.w.cell? ⟨kI, 1, none⟩ = some (.int .i64 pp.x.hi) := fun n => (LI.out n).2.2.2.2.2.1.2.1
    have fI6 : ∀ n : Wd I, n.w.cell? ⟨kI, 2, none⟩ = some (.int .i64 pp.y.lo) := fun n => (LI.out n).2.2.2.2.2.2.1.2.1
    have fI7 : ∀ n : Wd I, n.w.cell? ⟨kI, 3, none⟩ = some (.int .i64 pp.y.hi) := fun n => (LI.out n).2.2.2.2.2.2.2.1.2.1
    have fI8 : ∀ n : Wd I, n.w.cell? ⟨kG, 0, none⟩ = some (.int .i64 K.x.lo) := fun n => (LI.out n).2.2.2.2.2.2.2.2.1.2.1
    have fI9 : ∀ n : Wd I, n.w.cell? ⟨kG, 1, none⟩ = some (.int .i64 K.x.hi) := fun n => (LI.out n).2.2.2.2.2.2.2.2.2.1.2.1
    have fI10 : ∀ n : Wd I, n.w.cell? ⟨kG, 2, none⟩ = some (.int .i64 K.y.lo) := fun n => (LI.out n).2.2.2.2.2.2.2.2.2.2.1.2.1
    have fI11 : ∀ n : Wd I, n.w.cell? ⟨kG, 3, none⟩ = some (.int .i64 K.y.hi) := fun n => (LI.out n).2.2.2.2.2.2.2.2.2.2.2.1.2.1
    have fI12 : ∀ n : Wd I, n.w.cell? ⟨kF, 0, none⟩ = some (.int .i64 K.x.lo) := fun n => (LI.out n).2.2.2.2.2.2.2.2.2.2.2.2.1.2.1
    have fI13 : ∀ n : Wd I, n.w.cell? ⟨kF, 1, none⟩ = some (.int .i64 K.x.hi) := fun n => (LI.out n).2.2.2.2.2.2.2.2.2.2.2.2.2.1.2.1
    have fI14 : ∀ n : Wd I, n.w.cell? ⟨kF, 2, none⟩ = some (.int .i64 K.y.lo) := fun n => (LI.out n).2.2.2.2.2.2.2.2.2.2.2.2.2.2.1.2.1
    have fI15 : ∀ n : Wd I, n.w.cell? ⟨kF, 3, none⟩ = some (.int .i64 K.y.hi) := fun n => (LI.out n).2.2.2.2.2.2.2.2.2.2.2.2.2.2.2.1.2.1
    have fI16 : ∀ n : Wd I, n.w.cell? ⟨kE, 0, none⟩ = some (.int .i64 M.x.lo) := fun n => (LI.out n).2.2.2.2.2.2.2.2.2.2.2.2.2.2.2.2.1.2.1
    have fI17 : ∀ n : Wd I, n.w.cell? ⟨kE, 1, none⟩ = some (.int .i64 M.x.hi) := fun n => (LI.out n).2.2.2.2.2.2.2.2.2.2.2.2.2.2.2.2.2.1.2.1
    have fI18 : ∀ n : Wd I, n.w.cell? ⟨kE, 2, none⟩ = some (.int .i64 M.y.lo) := fun n => (LI.out n).2.2.2.2.2.2.2.2.2.2.2.2.2.2.2.2.2.2.1.2.1
    have fI19 : ∀ n : Wd I, n.w.cell? ⟨kE, 3, none⟩ = some (.int .i64 M.y.hi) := fun n => (LI.out n).2.2.2.2.2.2.2.2.2.2.2.2.2.2.2.2.2.2.2.1.2.1
    have fI20 : ∀ n : Wd I, n.w.cell? ⟨kD, 0, none⟩ = some (.int .i64 M.x.lo) := fun n => (LI.out n).2.2.2.2.2.2.2.2.2.2.2.2.2.2.2.2.2.2.2.2.1.2.1
    have fI21 : ∀ n : Wd I, n.w.cell? ⟨kD, 1, none⟩ = some (.int .i64 M.x.hi) := fun n => (LI.out n).2.2.2.2.2.2.2.2.2.2.2.2.2.2.2.2.2.2.2.2.2.1.2.1
    have fI22 : ∀ n : Wd I, n.w.cell? ⟨kD, 2, none⟩ = some (.int .i64 M.y.lo) := fun n => (LI.out n).2.2.2.2.2.2.2.2.2.2.2.2.2.2.2.2.2.2.2.2.2.2.1.2.1
    have fI23 : ∀ n : Wd I, n.w.cell? ⟨kD, 3, none⟩ = some (.int .i64 M.y.hi) := fun n => (LI.out n).2.2.2.2.2.2.2.2.2.2.2.2.2.2.2.2.2.2.2.2.2.2.2.1.2.1
    have fI24 : ∀ n : Wd I, n.w.cell? ⟨w.heap.size + 1 + 1, 0, none⟩ = some (.int .i64 p.x) := fun n => (LI.out n).2.2.2.2.2.2.2.2.2.2.2.2.2.2.2.2.2.2.2.2.2.2.2.2.1.2.1
    have fI25 : ∀ n : Wd I, n.w.cell? ⟨w.heap.size + 1 + 1, 1, none⟩ = some (.int .i64 p.y) := fun n => (LI.out n).2.2.2.2.2.2.2.2.2.2.2.2.2.2.2.2.2.2.2.2.2.2.2.2.2.1.2.1
    have fI26 : ∀ n : Wd I, n.w.cell? ⟨w.heap.size + 1, 0, none⟩ = some (.int .i64 b.x.lo) := fun n => (LI.out n).2.2.2.2.2.2.2.2.2.2.2.2.2.2.2.2.2.2.2.2.2.2.2.2.2.2.1.2.1
    have fI27 : ∀ n : Wd I, n.w.cell? ⟨w.heap.size + 1, 1, none⟩ = some (.int .i64 b.x.hi) := fun n => (LI.out n).2.2.2.2.2.2.2.2.2.2.2.2.2.2.2.2.2.2.2.2.2.2.2.2.2.2.2.1.2.1
    have fI28 : ∀ n : Wd I, n.w.cell? ⟨w.heap.size + 1, 2, none⟩ = some (.int .i64 b.y.lo) := fun n => (LI.out n).2.2.2.2.2.2.2.2.2.2.2.2.2.2.2.2.2.2.2.2.2.2.2.2.2.2.2.2.1.2.1
    have fI29 : ∀ n : Wd I, n.w.cell? ⟨w.heap.size + 1, 3, none⟩ = some (.int .i64 b.y.hi) := fun n => (LI.out n).2.2.2.2.2.2.2.2.2.2.2.2.2.2.2.2.2.2.2.2.2.2.2.2.2.2.2.2.2.1.2.1
    have fI30 : ∀ n : Wd I, n.w.cell? ⟨w.heap.size, 0, none⟩ = some (.int .i64 a.x.lo) := fun n => (LI.out n).2.2.2.2.2.2.2.2.2.2.2.2.2.2.2.2.2.2.2.2.2.2.2.2.2.2.2.2.2.2.1.2.1
    have fI31 : ∀ n : Wd I, n.w.cell? ⟨w.heap.size, 1, none⟩ = some (.int .i64 a.x.hi) := fun n => (LI.out n).2.2.2.2.2.2.2.2.2.2.2.2.2.2.2.2.2.2.2.2.2.2.2.2.2.2.2.2.2.2.2.1.2.1
    have fI32 : ∀ n : Wd I, n.w.cell? ⟨w.heap.size, 2, none⟩ = some (.int .i64 a.y.lo) := fun n => (LI.out n).2.2.2.2.2.2.2.2.2.2.2.2.2.2.2.2.2.2.2.2.2.2.2.2.2.2.2.2.2.2.2.2.1.2.1
    have fI33 : ∀ n : Wd I, n.w.cell? ⟨w.heap.size, 3, none⟩ = some (.int .i64 a.y.hi) := fun n => (LI.out n).2.2.2.2.2.2.2.2.2.2.2.2.2.2.2.2.2.2.2.2.2.2.2.2.2.2.2.2.2.2.2.2.2.1.2.1
    clear S0 hC0
    have U1 := cin HI X5
    have U2 := cin HI X6
    have U3 := cin HI V1
    clear E1 E2 E3 E4 E5 E6 E7
    go_wp2_with (first | (go_at_call 55; with_reducible refine (U1 _).out.mono ?_; rintro e w' ⟨rfl, n, rfl⟩) | (go_at_call 55; with_reducible refine (U2 _).out.mono ?_; rintro e w' ⟨rfl, n, rfl⟩) | (go_at_call 47; with_reducible refine (U3 _).out.mono ?_; rintro e w' ⟨rfl, n, rfl⟩))
    obtain ⟨W0, hW0⟩ : ∃ W0, (n.w).alloc (.cells #[.int .i64 a.x.lo, .int .i64 a.x.hi, .int .i64 a.y.lo, .int .i64 a.y.hi] 60) = W0 := ⟨_, rfl⟩
    have S0 : St w W0 [(n.w.heap.size, 0, .int .i64 a.x.lo), (n.w.heap.size, 1, .int .i64 a.x.hi), (n.w.heap.size, 2, .int .i64 a.y.lo), (n.w.heap.size, 3, .int .i64 a.y.hi), (kI + 1, 0, .int .i64 qq.x.lo), (kI + 1, 1, .int .i64 qq.x.hi), (kI + 1, 2, .int .i64 qq.y.lo), (kI + 1, 3, .int .i64 qq.y.hi), (kI, 0, .int .i64 pp.x.lo), (kI, 1, .int .i64 pp.x.hi), (kI, 2, .int .i64 pp.y.lo), (kI, 3, .int .i64 pp.y.hi), (kG, 0, .int .i64 K.x.lo), (kG, 1, .int .i64 K.x.hi), (kG, 2, .int .i64 K.y.lo), (kG, 3, .int .i64 K.y.hi), (kF, 0, .int .i64 K.x.lo), (kF, 1, .int .i64 K.x.hi), (kF, 2, .int .i64 K.y.lo), (kF, 3, .int .i64 K.y.hi), (kE, 0, .int .i64 M.x.lo), (kE, 1, .int .i64 M.x.hi), (kE, 2, .int .i64 M.y.lo), (kE, 3, .int .i64 M.y.hi), (kD, 0, .int .i64 M.x.lo), (kD, 1, .int .i64 M.x.hi), (kD, 2, .int .i64 M.y.lo), (kD, 3, .int .i64 M.y.hi), (w.heap.size + 1 + 1, 0, .int .i64 p.x), (w.heap.size + 1 + 1, 1, .int .i64 p.y), (w.heap.size + 1, 0, .int .i64 b.x.lo), (w.heap.size + 1, 1, .int .i64 b.x.hi), (w.heap.size + 1, 2, .int .i64 b.y.lo), (w.heap.size + 1, 3, .int .i64 b.y.hi), (w.heap.size, 0, .int .i64 a.x.lo), (w.heap.size, 1, .int .i64 a.x.hi), (w.heap.size, 2, .int .i64 a.y.lo), (w.heap.size, 3, .int .i64 a.y.hi)] := by rw [← hW0]; exact ((⟨BI.out n, LI.out n⟩ : St w n.w _)).box #[.int .i64 a.x.lo, .int .i64 a.x.hi, .int .i64 a.y.lo, .int .i64 a.y.hi] 60 (n.w.heap.size) (by simp)
    rw [hW0]
    clear hW0
    obtain ⟨kJ, hkk⟩ : ∃ k, n.w.heap.size = k := ⟨_, rfl⟩
    rw [hkk] at S0 ⊢
    clear hkk
    obtain ⟨J, hC0, HJ, LJ, BJ, hne⟩ := cls S0
    haveI := hne
    obtain ⟨j0, rfl⟩ : ∃ n : Wd J, W0 = n.w := ⟨⟨_, hC0⟩, rfl⟩
    have fJ0 : ∀ n : Wd J, n.w.cell? ⟨kJ, 0, none⟩ = some (.int .i64 a.x.lo) := fun n => (LJ.out n).1.2.1
    have fJ1 : ∀ n : Wd J, n.w.cell? ⟨kJ, 1, none⟩ = some (.int .i64 a.x.hi) := fun n => (LJ.out n).2.1.2.1
    have fJ2 : ∀ n : Wd J, n.w.cell? ⟨kJ, 2, none⟩ = some (.int .i64 a.y.lo) := fun n => (LJ.out n).2.2.1.2.1
    have fJ3 : ∀ n : Wd J, n.w.cell? ⟨kJ, 3, none⟩ = some (.int .i64 a.y.hi) := fun n => (LJ.out n).2.2.2.1.2.1
    have fJ4 : ∀ n : Wd J, n.w.cell? ⟨kI + 1, 0, none⟩ = some (.int .i64 qq.x.lo) := fun n => (LJ.out n).2.2.2.2.1.2.1
    have fJ5 : ∀ n : Wd J, n.w.cell? ⟨kI + 1, 1, none⟩ = some (.int .i64 qq.x.hi) := fun n => (LJ.out n).2.2.2.2.2.1.2.1
    have fJ6 : ∀ n : Wd J, n.w.cell? ⟨kI + 1, 2, none⟩ = some (.int .i64 qq.y.lo) := fun n => (LJ.out n).2.2.2.2.2.2.1.2.1
    have fJ7 : ∀ n : Wd J, n.w.cell? ⟨kI + 1, 3, none⟩ = some (.int .i64 qq.y.hi) := fun n => (LJ.out n).2.2.2.2.2.2.2.1.2.1
    have fJ8 : ∀ n : Wd J, n.w.cell? ⟨kI, 0, none⟩ = some (.int .i64 pp.x.lo) := fun n => (LJ.out n).2.2.2.2.2.2.2.2.1.2.1
    have fJ9 : ∀ n : Wd J, n.w.cell? ⟨kI, 1, none⟩ = some (.int .i64 pp.x.hi) := fun n => (LJ.out n).2.2.2.2.2.2.2.2.2.1.2.1
    have fJ10 : ∀ n : Wd J, n.w.cell? ⟨kI, 2, none⟩ = some (.int .i64 pp.y.lo) := fun n => (LJ.out n).2.2.2.2.2.2.2.2.2.2.1.2.1
    have fJ11 : ∀ n : Wd J, n.w.cell? ⟨kI, 3, none⟩ = some (.int .i64 pp.y.hi) := fun n => (LJ.out n).2.2.2.2.2.2.2.2.2.2.2.1.2.1
    have fJ12 : ∀ n : Wd J, n.w.cell? ⟨kG, 0, none⟩ = some (.int .i64 K.x.lo) := fun n => (LJ.out n).2.2.2.2.2.2.2.2.2.2.2.2.1.2.1
    have fJ13 : ∀ n : Wd J, n.w.cell? ⟨kG, 1, none⟩ = some (.int .i64 K.x.hi) := fun n => (LJ.out n).2.2.2.2.2.2.2.2.2.2.2.2.2.1.2.1
    have fJ14 : ∀ n : Wd J, n.w.cell? ⟨kG, 2, none⟩ = some (.int .i64 K.y.lo) := fun n => (LJ.out n).2.2.2.2.2.2.2.2.2.2.2.2.2.2.1.2.1
    have fJ15 : ∀ n : Wd J, n.w.cell? ⟨kG, 3, none⟩ = some (.int .i64 K.y.hi) := fun n => (LJ.out n).2.2.2.2.2.2.2.2.2.2.2.2.2.2.2.1.2.1
    have fJ16 : ∀ n : Wd J, n.w.cell? ⟨kF, 0, none⟩ = some (.int .i64 K.x.lo) := fun n => (LJ.out n).2.2.2.2.2.2.2.2.2.2.2.2.2.2.2.2.1.2.1
    have fJ17 : ∀ n : Wd J, n.w.cell? ⟨kF, 1, none⟩ = some (.int .i64 K.x.hi) := fun n => (LJ.out n).2.2.2.2.2.2.2.2.2.2.2.2.2.2.2.2.2.1.2.1
    have fJ18 : ∀ n : Wd J, n.w.cell? ⟨kF, 2, none⟩ = some (.int .i64 K.y.lo) := fun n => (LJ.out n).2.2.2.2.2.2.2.2.2.2.2.2.2.2.2.2.2.2.1.2.1
    have fJ19 : ∀ n : Wd J, n.w.cell? ⟨kF, 3, none⟩ = some (.int .i64 K.y.hi) := fun n => (LJ.out n).2.2.2.2.2.2.2.2.2.2.2.2.2.2.2.2.2.2.2.1.2.1
    have fJ20 : ∀ n : Wd J, n.w.cell? ⟨kE, 0, none⟩ = some (.int .i64 M.x.lo) := fun n => (LJ.out n).2.2.2.2.2.2.2.2.2.2.2.2.2.2.2.2.2.2.2.2.1.2.1
    have fJ21 : ∀ n : Wd J, n.w.cell? ⟨kE, 1, none⟩ = some (.int .i64 M.x.hi) := fun n => (LJ.out n).2.2.2.2.2.2.2.2.2.2.2.2.2.2.2.2.2.2.2.2.2.1.2.1
    have fJ22 : ∀ n : Wd J, n.w.cell? ⟨kE, 2, none⟩ = some (.int .i64 M.y.lo) := fun n => (LJ.out n).2.2.2.2.2.2.2.2.2.2.2.2.2.2.2.2.2.2.2.2.2.2.1.2.1
    have fJ23 : ∀ n : Wd J, n.w.cell? ⟨kE, 3, none⟩ = some (.int .i64 M.y.hi) := fun n => (LJ.out n).2.2.2.2.2.2.2.2.2.2.2.2.2.2.2.2.2.2.2.2.2.2.2.1.2.1
    have fJ24 : ∀ n : Wd J, n.w.cell? ⟨kD, 0, none⟩ = some (.int .i64 M.x.lo) := fun n => (LJ.out n).2.2.2.2.2.2.2.2.2.2.2.2.2.2.2.2.2.2.2.2.2.2.2.2.1.2.1
    have fJ25 : ∀ n : Wd J, n.w.cell? ⟨kD, 1, none⟩ = some (.int .i64 M.x.hi) := fun n => (LJ.out n).2.2.2.2.2.2.2.2.2.2.2.2.2.2.2.2.2.2.2.2.2.2.2.2.2.1.2.1
    have fJ26 : ∀ n : Wd J, n.w.cell? ⟨kD, 2, none⟩ = some (.int .i64 M.y.lo) := fun n => (LJ.out n).2.2.2.2.2.2.2.2.2.2.2.2.2.2.2.2.2.2.2.2.2.2.2.2.2.2.1.2.1
    have fJ27 : ∀ n : Wd J, n.w.cell? ⟨kD, 3, none⟩ = some (.int .i64 M.y.hi) := fun n => (LJ.out n).2.2.2.2.2.2.2.2.2.2.2.2.2.2.2.2.2.2.2.2.2.2.2.2.2.2.2.1.2.1
    have fJ28 : ∀ n : Wd J, n.w.cell? ⟨w.heap.size + 1 + 1, 0, none⟩ = some (.int .i64 p.x) := fun n => (LJ.out n).2.2.2.2.2.2.2.2.2.2.2.2.2.2.2.2.2.2.2.2.2.2.2.2.2.2.2.2.1.2.1
    have fJ29 : ∀ n : Wd J, n.w.cell? ⟨w.heap.size + 1 + 1, 1, none⟩ = some (.int .i64 p.y) := fun n => (LJ.out n).2.2.2.2.2.2.2.2.2.2.2.2.2.2.2.2.2.2.2.2.2.2.2.2.2.2.2.2.2.1.2.1
    have fJ30 : ∀ n : Wd J, n.w.cell? ⟨w.heap.size + 1, 0, none⟩ = some (.int .i64 b.x.lo) := fun n => (LJ.out n).2.2.2.2.2.2.2.2.2.2.2.2.2.2.2.2.2.2.2.2.2.2.2.2.2.2.2.2.2.2.1.2.1
    have fJ31 : ∀ n : Wd J, n.w.cell? ⟨w.heap.size + 1, 1, none⟩ = some (.int .i64 b.x.hi) := fun n => (LJ.out n).2.2.2.2.2.2.2.2.2.2.2.2.2.2.2.2.2.2.2.2.2.2.2.2.2.2.2.2.2.2.2.1.2.1
    have fJ32 : ∀ n : Wd J, n.w.cell? ⟨w.heap.size + 1, 2, none⟩ = some (.int .i64 b.y.lo) := fun n => (LJ.out n).2.2.2.2.2.2.2.2.2.2.2.2.2.2.2.2.2.2.2.2.2.2.2.2.2.2.2.2.2.2.2.2.1.2.1
    have fJ33 : ∀ n : Wd J, n.w.cell? ⟨w.heap.size + 1, 3, none⟩ = some (.int .i64 b.y.hi) := fun n => (LJ.out n).2.2.2.2.2.2.2.2.2.2.2.2.2.2.2.2.2.2.2.2.2.2.2.2.2.2.2.2.2.2.2.2.2.1.2.1
    have fJ34 : ∀ n : Wd J, n.w.cell? ⟨w.heap.size, 0, none⟩ = some (.int .i64 a.x.lo) := fun n => (LJ.out n).2.2.2.2.2.2.2.2.2.2.2.2.2.2.2.2.2.2.2.2.2.2.2.2.2.2.2.2.2.2.2.2.2.2.1.2.1
    have fJ35 : ∀ n : Wd J, n.w.cell? ⟨w.heap.size, 1, none⟩ = some (.int .i64 a.x.hi) := fun n => (LJ.out n).2.2.2.2.2.2.2.2.2.2.2.2.2.2.2.2.2.2.2.2.2.2.2.2.2.2.2.2.2.2.2.2.2.2.2.1.2.1
    have fJ36 : ∀ n : Wd J, n.w.cell? ⟨w.heap.size, 2, none⟩ = some (.int .i64 a.y.lo) := fun n => (LJ.out n).2.2.2.2.2.2.2.2.2.2.2.2.2.2.2.2.2.2.2.2.2.2.2.2.2.2.2.2.2.2.2.2.2.2.2.2.1.2.1
    have fJ37 : ∀ n : Wd J, n.w.cell? ⟨w.heap.size, 3, none⟩ = some (.int .i64 a.y.hi) := fun n => (LJ.out n).2.2.2.2.2.2.2.2.2.2.2.2.2.2.2.2.2.2.2.2.2.2.2.2.2.2.2.2.2.2.2.2.2.2.2.2.2.1.2.1
    clear S0 hC0
    have V2 := cin HJ BX
    have V3 := cin HJ X1
    clear U1 U2 U3
    go_wp2_with (first | (go_at_call 38; with_reducible refine (V2 _).out.mono ?_; rintro e w' ⟨rfl, n, rfl⟩) | (go_at_call 55; with_reducible refine (V3 _).out.mono ?_; rintro e w' ⟨rfl, n, rfl⟩))
    go_ret
    exact ⟨rfl, BJ.out _⟩
end Go.Proofs.Ytdefpcjlbganpaa
namespace Go.Proofs.Ytdefpcjlbganpaa
open Go.RowKit
/-- The law of cuts answers true. -/
theorem cutsLaw (a b : Bx) (p : Pt) (w : World) : Calls Try.prog 15 #[a.v, b.v, p.v] w fun e w' => e = .returned (.bool true) ∧ Below w.heap.size w w' := by
  cases h : cutB a with
  | none => exact cutsLaw0 boxes_is a b p w h
  | some x => exact cutsLaw1 boxes_is a b p w x.1 x.2 h
end Go.Proofs.Ytdefpcjlbganpaa
