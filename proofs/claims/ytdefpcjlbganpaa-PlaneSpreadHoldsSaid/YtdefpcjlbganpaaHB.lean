import Derived.RangeFuncNested
import Derived.RangeFuncBox
import Derived.RangeFuncBound
import Derived.RangeFuncCalls
import Derived.RangeFuncLeaves
import Derived.Shelf.Abstract
import Derived.Shelf.RegionOpen
import Derived.BigRegionIn
import Derived.Stop.RegionWithIn
import Derived.WalkKit
import Derived.OwnWalkIn
import Derived.TacticsInMore
import Derived.LoopNIn
import Derived.LoopIn
import Derived.Lib.Hide
import Derived.IntWalk
import Derived.Deep.QuietTactic
import Derived.Deep.RegionHeld3
import Derived.Deep.RegionLaw
import Derived.StillTailTactics
import Derived.WalkSmall
import Derived.Deep.DeepMust
import Derived.BigQuiet
import Derived.LoopTactic
import Derived.Test.YtdefpcjlbganpaaMRd
import Derived.Test.YtdefpcjlbganpaaRSpr
import Derived.Test.YtdefpcjlbganpaaMCut
import Derived.Test.YtdefpcjlbganpaaHA
import Derived.Test.YtdefpcjlbganpaaMBxs
import Derived.Lib.MinMax
import Derived.Deep.DeepCutAuto
import Derived.Deep.CutBlock
import Derived.Test.YtdefpcjlbganpaaRdL
import Derived.ProofKit
import Derived.OpenShut
import Derived.Lib.SmallJoins
import Derived.Deep.Slices
namespace Go.Proofs.Ytdefpcjlbganpaa
open Go.RowKit Go.Shelf Go.BigFrame
attribute [local go_sem] Oper.semAt_some
attribute [local go_sem] World.cell?_alloc_some
theorem okP_in {b : Bx} (h : okB b = true) {p : Pt} (hp : InB b p) : okP p = true := by
  have h1 := okB_iff2.1 h
  obtain ⟨h2, h3⟩ := hp
  exact okP_iff.2 ⟨by omega, by omega⟩
theorem signCases {s : Sp} {n : Int} (h1 : s.lo ≤ n) (h2 : n ≤ s.hi) : 
   (s.lo < 0 ∧ s.hi ≤ 0 ∧ sg n = -1 ∧ tsV (some s) = 1) ∨ (s.lo < 0 ∧ s.hi ≤ 0 ∧ sg n = -1 ∧ tsV (some s) = 3) ∨ (s.lo < 0 ∧ s.hi ≤ 0 ∧ sg n = 0 ∧ tsV (some s) = 3) ∨
   (s.lo < 0 ∧ 0 < s.hi ∧ sg n = -1 ∧ tsV (some s) = 7) ∨ (s.lo < 0 ∧ 0 < s.hi ∧ sg n = 0 ∧ tsV (some s) = 7) ∨ (s.lo < 0 ∧ 0 < s.hi ∧ sg n = 1 ∧ tsV (some s) = 7) ∨
   (0 ≤ s.lo ∧ s.hi ≤ 0 ∧ sg n = 0 ∧ tsV (some s) = 2) ∨ (0 ≤ s.lo ∧ 0 < s.hi ∧ sg n = 0 ∧ tsV (some s) = 6) ∨ (0 ≤ s.lo ∧ 0 < s.hi ∧ sg n = 1 ∧ tsV (some s) = 6) ∨ (0 ≤ s.lo ∧ 0 < s.hi ∧ sg n = 1 ∧ tsV (some s) = 4) := by
  unfold tsV sg
  by_cases a1 : s.lo < 0 <;> by_cases a2 : 0 < s.hi <;> by_cases a3 : 0 < n <;> by_cases a4 : n < 0 <;> by_cases a5 : s.lo ≤ 0 ∧ 0 ≤ s.hi <;> simp [a1, a2, a3, a4, a5] <;> omega
set_option maxRecDepth 100000 in
set_option maxHeartbeats 64000000 in
theorem holdsLaw (BX : ∀ W, Calls Try.prog 38 #[] W fun e w' => e = .returned (.bool true) ∧ Below W.heap.size W w') (a b c : Bx) (x0 x1 y0 y1 z0 z1 : Int) (w : World)
   (hx0 : 0 ≤ x0 ∧ x0 ≤ 4294967295) (hx1 : 0 ≤ x1 ∧ x1 ≤ 4294967295) (hy0 : 0 ≤ y0 ∧ y0 ≤ 4294967295) (hy1 : 0 ≤ y1 ∧ y1 ≤ 4294967295) (hz0 : 0 ≤ z0 ∧ z0 ≤ 4294967295) (hz1 : 0 ≤ z1 ∧ z1 ≤ 4294967295) :
   Calls Try.prog 14 #[a.v, b.v, c.v, .agg #[.int .u32 x0, .int .u32 x1], .agg #[.int .u32 y0, .int .u32 y1], .agg #[.int .u32 z0, .int .u32 z1]] w fun e w' => e = .returned (.bool true) ∧ Below w.heap.size w w' := by
  by_cases hz : okB a = true ∧ okB b = true ∧ okB c = true
  · obtain ⟨ha, hb, hc⟩ := hz
    have P1 := fun W => Proper_any a W
    have P2 := fun W => Proper_any b W
    have P3 := fun W => Proper_any c W
    rw [ha] at P1
    rw [hb] at P2
    rw [hc] at P3
    have S1 : ∀ W, Calls Try.prog 59 #[a.v, b.v, c.v] W fun e w' => e = .returned (.tuple #[(sprd (cr a) (cr b) (cr c)).v, .bool true]) ∧ Below W.heap.size W w' := fun W => Spread_yes a b c W ha hb hc
    have S2 : ∀ W, Calls Try.prog 61 #[a.v, b.v] W fun e w' => e = .returned (.tuple #[(dstB a b).v, .bool true]) ∧ Below W.heap.size W w' := fun W => Dists_yes a b W ha hb
    have S3 := fun W => Turns_any a b c W
    rw [show sprO a b c = some (sprd (cr a) (cr b) (cr c)) from by simp [sprO, ha, hb, hc]] at S3
    have Q1 := fun W => pick_any a x0 x1 W ha hx0 hx1
    have Q2 := fun W => pick_any b y0 y1 W hb hy0 hy1
    have Q3 := fun W => pick_any c z0 z1 W hc hz0 hz1
    have i1 := pk_in ha x0 x1
    have i2 := pk_in hb y0 y1
    have i3 := pk_in hc z0 z1
    obtain ⟨p, hp⟩ : ∃ p, pk a x0 x1 = p := ⟨_, rfl⟩
    obtain ⟨q, hq⟩ : ∃ p, pk b y0 y1 = p := ⟨_, rfl⟩
    obtain ⟨r, hr⟩ : ∃ p, pk c z0 z1 = p := ⟨_, rfl⟩
    simp only [hp] at Q1 i1
    simp only [hq] at Q2 i2
    simp only [hr] at Q3 i3
    clear hp hq hr hx0 hx1 hy0 hy1 hz0 hz1
    have o1 := okP_in ha i1
    have o2 := okP_in hb i2
    have o3 := okP_in hc i3
    have AT := fun W => attained_any a b c (sprd (cr a) (cr b) (cr c)) W ha hb hc (sprd_at _ _ _).1 (sprd_at _ _ _).2
    have n1 := near_in ha hb
    have CL := fun W => closest_any a b (dstB a b) W (by rw [dst, okP_in ha n1.1, okP_in hb n1.2]; exact near_is ha hb) (by
      obtain ⟨k, hk, e⟩ := far_is ha hb
      exact ⟨k, hk, by rw [dst, cr_ok ha, cr_ok hb]; exact e.symm⟩)
    have m1 := sprd_in ha hb hc i1 i2 i3
    have m2 := dst_in i1 i2
    have T1 := fun W => Turn_any p q r W
    have T2 := fun W => Dist_any p q W
    have et : trn p q r = sg (ar p q r) := by simp [trn, o1, o2, o3]
    have ed : dst p q = dq p q := by simp [dst, o1, o2]
    have A3 : Hid (∀ (C : World → Prop), Hid (∀ W W', C W → Below W.heap.size W W' → C W') → ∀ n : Wd C, Hid (Calls Try.prog 30 #[.slice (some ⟨n.w.heap.size, 0, none⟩) 3 3] (n.w.alloc (.cells #[.int .i64 p.x, .int .i64 p.y, .int .i64 q.x, .int .i64 q.y, .int .i64 r.x, .int .i64 r.y] 23)) fun e w'' => e = .returned (.tuple #[.int .i64 (ar p q r), .int .i64 0]) ∧ ∃ m : Wd C, w'' = m.w)) := fun C H n => cin3 H o1 o2 o3 n
    have CT := fun W => Cut_any a W
    have CS : ∀ P R, cutB a = some (P, R) → (∀ W, Calls Try.prog 59 #[P.v, b.v, c.v] W fun e w' => e = .returned (.tuple #[(sprd (cr P) (cr b) (cr c)).v, .bool true]) ∧ Below W.heap.size W w') ∧ (∀ W, Calls Try.prog 59 #[R.v, b.v, c.v] W fun e w' => e = .returned (.tuple #[(sprd (cr R) (cr b) (cr c)).v, .bool true]) ∧ Below W.heap.size W w') ∧
       (∀ W, Calls Try.prog 61 #[P.v, b.v] W fun e w' => e = .returned (.tuple #[(dstB P b).v, .bool true]) ∧ Below W.heap.size W w') ∧ (∀ W, Calls Try.prog 61 #[R.v, b.v] W fun e w' => e = .returned (.tuple #[(dstB R b).v, .bool true]) ∧ Below W.heap.size W w') ∧
       (min (sprd (cr P) (cr b) (cr c)).lo (sprd (cr R) (cr b) (cr c)).lo = (sprd (cr a) (cr b) (cr c)).lo ∧ max (sprd (cr P) (cr b) (cr c)).hi (sprd (cr R) (cr b) (cr c)).hi = (sprd (cr a) (cr b) (cr c)).hi) ∧ (min (dstB P b).lo (dstB R b).lo = (dstB a b).lo ∧ max (dstB P b).hi (dstB R b).hi = (dstB a b).hi) := by
      intro P R h
      obtain ⟨hP, hR, _⟩ := cut_in h
      exact ⟨fun W => Spread_yes P b c W hP hb hc, fun W => Spread_yes R b c W hR hb hc, fun W => Dists_yes P b W hP hb, fun W => Dists_yes R b W hR hb, spr_cut h hb hc, dst_cut h hb⟩
    have HCS := Lib.hid CS
    clear CS
    have sc := signCases m1.1 m1.2
    rw [ed] at T2
    rw [et] at T1
    obtain ⟨s, hs⟩ : ∃ s, sprd (cr a) (cr b) (cr c) = s := ⟨_, rfl⟩
    obtain ⟨d, hd⟩ : ∃ s, dstB a b = s := ⟨_, rfl⟩
    obtain ⟨v, hv⟩ : ∃ s, ar p q r = s := ⟨_, rfl⟩
    obtain ⟨u, hu⟩ : ∃ s, dq p q = s := ⟨_, rfl⟩
    obtain ⟨t, ht⟩ : ∃ s, sg v = s := ⟨_, rfl⟩
    simp only [hs, hv] at *
    simp only [hd, hu] at *
    obtain ⟨sn, hsn⟩ : ∃ x, tsV (some s) = x := ⟨_, rfl⟩
    simp only [ht, hsn] at *
    have W1 := fun W => lWithin_any v s W
    have W2 := fun W => lWithin_any u d W
    rw [show inS s v = true from by simp [inS]; omega] at W1
    rw [show inS d u = true from by simp [inS]; omega] at W2
    have SC := Lib.hid sc
    clear sc m1 m2 et ed n1 o1 o2 o3 i1 i2 i3 ha hb hc hs hd hv hu ht hsn
    go_enter Try.func14, Try.ntmps14
    go_wp2_with fail
    obtain ⟨W0, hW0⟩ : ∃ W0, ((((((w).alloc (.cells #[.int .i64 a.x.lo, .int .i64 a.x.hi, .int .i64 a.y.lo, .int .i64 a.y.hi] 60)).alloc (.cells #[.int .i64 b.x.lo, .int .i64 b.x.hi, .int .i64 b.y.lo, .int .i64 b.y.hi] 60)).alloc (.cells #[.int .i64 c.x.lo, .int .i64 c.x.hi, .int .i64 c.y.lo, .int .i64 c.y.hi] 60)).alloc (.cells #[.int .u32 (x0), .int .u32 (x1)] 85)).alloc (.cells #[.int .u32 (y0), .int .u32 (y1)] 85)).alloc (.cells #[.int .u32 (z0), .int .u32 (z1)] 85) = W0 := ⟨_, rfl⟩
    have S0 : St w W0 [(w.heap.size + 1 + 1 + 1 + 1 + 1, 0, .int .u32 (z0)), (w.heap.size + 1 + 1 + 1 + 1 + 1, 1, .int .u32 (z1)), (w.heap.size + 1 + 1 + 1 + 1, 0, .int .u32 (y0)), (w.heap.size + 1 + 1 + 1 + 1, 1, .int .u32 (y1)), (w.heap.size + 1 + 1 + 1, 0, .int .u32 (x0)), (w.heap.size + 1 + 1 + 1, 1, .int .u32 (x1)), (w.heap.size + 1 + 1, 0, .int .i64 c.x.lo), (w.heap.size + 1 + 1, 1, .int .i64 c.x.hi), (w.heap.size + 1 + 1, 2, .int .i64 c.y.lo), (w.heap.size + 1 + 1, 3, .int .i64 c.y.hi), (w.heap.size + 1, 0, .int .i64 b.x.lo), (w.heap.size + 1, 1, .int .i64 b.x.hi), (w.heap.size + 1, 2, .int .i64 b.y.lo), (w.heap.size + 1, 3, .int .i64 b.y.hi), (w.heap.size, 0, .int .i64 a.x.lo), (w.heap.size, 1, .int .i64 a.x.hi), (w.heap.size, 2, .int .i64 a.y.lo), (w.heap.size, 3, .int .i64 a.y.hi)] := by rw [← hW0]; exact (((((((St.nil w)).box #[.int .i64 a.x.lo, .int .i64 a.x.hi, .int .i64 a.y.lo, .int .i64 a.y.hi] 60 (w.heap.size) (by simp)).box #[.int .i64 b.x.lo, .int .i64 b.x.hi, .int .i64 b.y.lo, .int .i64 b.y.hi] 60 (w.heap.size + 1) (by simp)).box #[.int .i64 c.x.lo, .int .i64 c.x.hi, .int .i64 c.y.lo, .int .i64 c.y.hi] 60 (w.heap.size + 1 + 1) (by simp)).box #[.int .u32 (x0), .int .u32 (x1)] 85 (w.heap.size + 1 + 1 + 1) (by simp)).box #[.int .u32 (y0), .int .u32 (y1)] 85 (w.heap.size + 1 + 1 + 1 + 1) (by simp)).box #[.int .u32 (z0), .int .u32 (z1)] 85 (w.heap.size + 1 + 1 + 1 + 1 + 1) (by simp)
    rw [hW0]
    clear hW0
    obtain ⟨C, hC0, HC, LC, BC, hne⟩ := cls S0
    haveI := hne
    obtain ⟨c0, rfl⟩ : ∃ n : Wd C, W0 = n.w := ⟨⟨_, hC0⟩, rfl⟩
    have fC0 : ∀ n : Wd C, n.w.cell? ⟨w.heap.size + 1 + 1 + 1 + 1 + 1, 0, none⟩ = some (.int .u32 (z0)) := fun n => (LC.out n).1.2.1
    have fC1 : ∀ n : Wd C, n.w.cell? ⟨w.heap.size + 1 + 1 + 1 + 1 + 1, 1, none⟩ = some (.int .u32 (z1)) := fun n => (LC.out n).2.1.2.1
    have fC2 : ∀ n : Wd C, n.w.cell? ⟨w.heap.size + 1 + 1 + 1 + 1, 0, none⟩ = some (.int .u32 (y0)) := fun n => (LC.out n).2.2.1.2.1
    have fC3 : ∀ n : Wd C, n.w.cell? ⟨w.heap.size + 1 + 1 + 1 + 1, 1, none⟩ = some (.int .u32 (y1)) := fun n => (LC.out n).2.2.2.1.2.1
    have fC4 : ∀ n : Wd C, n.w.cell? ⟨w.heap.size + 1 + 1 + 1, 0, none⟩ = some (.int .u32 (x0)) := fun n => (LC.out n).2.2.2.2.1.2.1
    have fC5 : ∀ n : Wd C, n.w.cell? ⟨w.heap.size + 1 + 1 + 1, 1, none⟩ = some (.int .u32 (x1)) := fun n => (LC.out n).2.2.2.2.2.1.2.1
    have fC6 : ∀ n : Wd C, n.w.cell? ⟨w.heap.size + 1 + 1, 0, none⟩ = some (.int .i64 c.x.lo) := fun n => (LC.out n).2.2.2.2.2.2.1.2.1
    have fC7 : ∀ n : Wd C, n.w.cell? ⟨w.heap.size + 1 + 1, 1, none⟩ = some (.int .i64 c.x.hi) := fun n => (LC.out n).2.2.2.2.2.2.2.1.2.1
    have fC8 : ∀ n : Wd C, n.w.cell? ⟨w.heap.size + 1 + 1, 2, none⟩ = some (.int .i64 c.y.lo) := fun n => (LC.out n).2.2.2.2.2.2.2.2.1.2.1
    have fC9 : ∀ n : Wd C, n.w.cell? ⟨w.heap.size + 1 + 1, 3, none⟩ = some (.int .i64 c.y.hi) := fun n => (LC.out n).2.2.2.2.2.2.2.2.2.1.2.1
    have fC10 : ∀ n : Wd C, n.w.cell? ⟨w.heap.size + 1, 0, none⟩ = some (.int .i64 b.x.lo) := fun n => (LC.out n).2.2.2.2.2.2.2.2.2.2.1.2.1
    have fC11 : ∀ n : Wd C, n.w.cell? ⟨w.heap.size + 1, 1, none⟩ = some (.int .i64 b.x.hi) := fun n => (LC.out n).2.2.2.2.2.2.2.2.2.2.2.1.2.1
    have fC12 : ∀ n : Wd C, n.w.cell? ⟨w.heap.size + 1, 2, none⟩ = some (.int .i64 b.y.lo) := fun n => (LC.out n).2.2.2.2.2.2.2.2.2.2.2.2.1.2.1
    have fC13 : ∀ n : Wd C, n.w.cell? ⟨w.heap.size + 1, 3, none⟩ = some (.int .i64 b.y.hi) := fun n => (LC.out n).2.2.2.2.2.2.2.2.2.2.2.2.2.1.2.1
    have fC14 : ∀ n : Wd C, n.w.cell? ⟨w.heap.size, 0, none⟩ = some (.int .i64 a.x.lo) := fun n => (LC.out n).2.2.2.2.2.2.2.2.2.2.2.2.2.2.1.2.1
    have fC15 : ∀ n : Wd C, n.w.cell? ⟨w.heap.size, 1, none⟩ = some (.int .i64 a.x.hi) := fun n => (LC.out n).2.2.2.2.2.2.2.2.2.2.2.2.2.2.2.1.2.1
    have fC16 : ∀ n : Wd C, n.w.cell? ⟨w.heap.size, 2, none⟩ = some (.int .i64 a.y.lo) := fun n => (LC.out n).2.2.2.2.2.2.2.2.2.2.2.2.2.2.2.2.1.2.1
    have fC17 : ∀ n : Wd C, n.w.cell? ⟨w.heap.size, 3, none⟩ = some (.int .i64 a.y.hi) := fun n => (LC.out n).2.2.2.2.2.2.2.2.2.2.2.2.2.2.2.2.2.1.2.1
    clear S0 hC0
    have D1 := cin HC P1
    have D2 := cin HC P2
    have D3 := cin HC P3
    have D4 := cin HC S1
    clear P1 P2 P3 S1
    go_wp2_with (first | (go_at_call 53; with_reducible refine (D1 _).out.mono ?_; rintro e w' ⟨rfl, n, rfl⟩) | (go_at_call 53; with_reducible refine (D2 _).out.mono ?_; rintro e w' ⟨rfl, n, rfl⟩) | (go_at_call 53; with_reducible refine (D3 _).out.mono ?_; rintro e w' ⟨rfl, n, rfl⟩) | (go_at_call 59; with_reducible refine (D4 _).out.mono ?_; rintro e w' ⟨rfl, n, rfl⟩))
    obtain ⟨W0, hW0⟩ : ∃ W0, (n.w).alloc (.cells #[.int .i64 s.lo, .int .i64 s.hi] 58) = W0 := ⟨_, rfl⟩
    have S0 : St w W0 [(n.w.heap.size, 0, .int .i64 s.lo), (n.w.heap.size, 1, .int .i64 s.hi), (w.heap.size + 1 + 1 + 1 + 1 + 1, 0, .int .u32 (z0)), (w.heap.size + 1 + 1 + 1 + 1 + 1, 1, .int .u32 (z1)), (w.heap.size + 1 + 1 + 1 + 1, 0, .int .u32 (y0)), (w.heap.size + 1 + 1 + 1 + 1, 1, .int .u32 (y1)), (w.heap.size + 1 + 1 + 1, 0, .int .u32 (x0)), (w.heap.size + 1 + 1 + 1, 1, .int .u32 (x1)), (w.heap.size + 1 + 1, 0, .int .i64 c.x.lo), (w.heap.size + 1 + 1, 1, .int .i64 c.x.hi), (w.heap.size + 1 + 1, 2, .int .i64 c.y.lo), (w.heap.size + 1 + 1, 3, .int .i64 c.y.hi), (w.heap.size + 1, 0, .int .i64 b.x.lo), (w.heap.size + 1, 1, .int .i64 b.x.hi), (w.heap.size + 1, 2, .int .i64 b.y.lo), (w.heap.size + 1, 3, .int .i64 b.y.hi), (w.heap.size, 0, .int .i64 a.x.lo), (w.heap.size, 1, .int .i64 a.x.hi), (w.heap.size, 2, .int .i64 a.y.lo), (w.heap.size, 3, .int .i64 a.y.hi)] := by rw [← hW0]; exact ((⟨BC.out n, LC.out n⟩ : St w n.w _)).box #[.int .i64 s.lo, .int .i64 s.hi] 58 (n.w.heap.size) (by simp)
    rw [hW0]
    clear hW0
    obtain ⟨kD, hkk⟩ : ∃ k, n.w.heap.size = k := ⟨_, rfl⟩
    have gkD : w.heap.size ≤ kD := by rw [← hkk]; exact (BC.out n).size
    rw [hkk] at S0 ⊢
    clear hkk
    obtain ⟨D, hC0, HD, LD, BD, hne⟩ := cls S0
    haveI := hne
    obtain ⟨d0, rfl⟩ : ∃ n : Wd D, W0 = n.w := ⟨⟨_, hC0⟩, rfl⟩
    have fD0 : ∀ n : Wd D, n.w.cell? ⟨kD, 0, none⟩ = some (.int .i64 s.lo) := fun n => (LD.out n).1.2.1
    have fD1 : ∀ n : Wd D, n.w.cell? ⟨kD, 1, none⟩ = some (.int .i64 s.hi) := fun n => (LD.out n).2.1.2.1
    have fD2 : ∀ n : Wd D, n.w.cell? ⟨w.heap.size + 1 + 1 + 1 + 1 + 1, 0, none⟩ = some (.int .u32 (z0)) := fun n => (LD.out n).2.2.1.2.1
    have fD3 : ∀ n : Wd D, n.w.cell? ⟨w.heap.size + 1 + 1 + 1 + 1 + 1, 1, none⟩ = some (.int .u32 (z1)) := fun n => (LD.out n).2.2.2.1.2.1
    have fD4 : ∀ n : Wd D, n.w.cell? ⟨w.heap.size + 1 + 1 + 1 + 1, 0, none⟩ = some (.int .u32 (y0)) := fun n => (LD.out n).2.2.2.2.1.2.1
    have fD5 : ∀ n : Wd D, n.w.cell? ⟨w.heap.size + 1 + 1 + 1 + 1, 1, none⟩ = some (.int .u32 (y1)) := fun n => (LD.out n).2.2.2.2.2.1.2.1
    have fD6 : ∀ n : Wd D, n.w.cell? ⟨w.heap.size + 1 + 1 + 1, 0, none⟩ = some (.int .u32 (x0)) := fun n => (LD.out n).2.2.2.2.2.2.1.2.1
    have fD7 : ∀ n : Wd D, n.w.cell? ⟨w.heap.size + 1 + 1 + 1, 1, none⟩ = some (.int .u32 (x1)) := fun n => (LD.out n).2.2.2.2.2.2.2.1.2.1
    have fD8 : ∀ n : Wd D, n.w.cell? ⟨w.heap.size + 1 + 1, 0, none⟩ = some (.int .i64 c.x.lo) := fun n => (LD.out n).2.2.2.2.2.2.2.2.1.2.1
    have fD9 : ∀ n : Wd D, n.w.cell? ⟨w.heap.size + 1 + 1, 1, none⟩ = some (.int .i64 c.x.hi) := fun n => (LD.out n).2.2.2.2.2.2.2.2.2.1.2.1
    have fD10 : ∀ n : Wd D, n.w.cell? ⟨w.heap.size + 1 + 1, 2, none⟩ = some (.int .i64 c.y.lo) := fun n => (LD.out n).2.2.2.2.2.2.2.2.2.2.1.2.1
    have fD11 : ∀ n : Wd D, n.w.cell? ⟨w.heap.size + 1 + 1, 3, none⟩ = some (.int .i64 c.y.hi) := fun n => (LD.out n).2.2.2.2.2.2.2.2.2.2.2.1.2.1
    have fD12 : ∀ n : Wd D, n.w.cell? ⟨w.heap.size + 1, 0, none⟩ = some (.int .i64 b.x.lo) := fun n => (LD.out n).2.2.2.2.2.2.2.2.2.2.2.2.1.2.1
    have fD13 : ∀ n : Wd D, n.w.cell? ⟨w.heap.size + 1, 1, none⟩ = some (.int .i64 b.x.hi) := fun n => (LD.out n).2.2.2.2.2.2.2.2.2.2.2.2.2.1.2.1
    have fD14 : ∀ n : Wd D, n.w.cell? ⟨w.heap.size + 1, 2, none⟩ = some (.int .i64 b.y.lo) := fun n => (LD.out n).2.2.2.2.2.2.2.2.2.2.2.2.2.2.1.2.1
    have fD15 : ∀ n : Wd D, n.w.cell? ⟨w.heap.size + 1, 3, none⟩ = some (.int .i64 b.y.hi) := fun n => (LD.out n).2.2.2.2.2.2.2.2.2.2.2.2.2.2.2.1.2.1
    have fD16 : ∀ n : Wd D, n.w.cell? ⟨w.heap.size, 0, none⟩ = some (.int .i64 a.x.lo) := fun n => (LD.out n).2.2.2.2.2.2.2.2.2.2.2.2.2.2.2.2.1.2.1
    have fD17 : ∀ n : Wd D, n.w.cell? ⟨w.heap.size, 1, none⟩ = some (.int .i64 a.x.hi) := fun n => (LD.out n).2.2.2.2.2.2.2.2.2.2.2.2.2.2.2.2.2.1.2.1
    have fD18 : ∀ n : Wd D, n.w.cell? ⟨w.heap.size, 2, none⟩ = some (.int .i64 a.y.lo) := fun n => (LD.out n).2.2.2.2.2.2.2.2.2.2.2.2.2.2.2.2.2.2.1.2.1
    have fD19 : ∀ n : Wd D, n.w.cell? ⟨w.heap.size, 3, none⟩ = some (.int .i64 a.y.hi) := fun n => (LD.out n).2.2.2.2.2.2.2.2.2.2.2.2.2.2.2.2.2.2.2.1.2.1
    clear S0 hC0
    have D5 := cin HD S2
    clear D1 D2 D3 D4 S2 HC LC BC
    go_wp2_with (first | (go_at_call 61; with_reducible refine (D5 _).out.mono ?_; rintro e w' ⟨rfl, n, rfl⟩))
    obtain ⟨W0, hW0⟩ : ∃ W0, (n.w).alloc (.cells #[.int .i64 d.lo, .int .i64 d.hi] 58) = W0 := ⟨_, rfl⟩
    have S0 : St w W0 [(n.w.heap.size, 0, .int .i64 d.lo), (n.w.heap.size, 1, .int .i64 d.hi), (kD, 0, .int .i64 s.lo), (kD, 1, .int .i64 s.hi), (w.heap.size + 1 + 1 + 1 + 1 + 1, 0, .int .u32 (z0)), (w.heap.size + 1 + 1 + 1 + 1 + 1, 1, .int .u32 (z1)), (w.heap.size + 1 + 1 + 1 + 1, 0, .int .u32 (y0)), (w.heap.size + 1 + 1 + 1 + 1, 1, .int .u32 (y1)), (w.heap.size + 1 + 1 + 1, 0, .int .u32 (x0)), (w.heap.size + 1 + 1 + 1, 1, .int .u32 (x1)), (w.heap.size + 1 + 1, 0, .int .i64 c.x.lo), (w.heap.size + 1 + 1, 1, .int .i64 c.x.hi), (w.heap.size + 1 + 1, 2, .int .i64 c.y.lo), (w.heap.size + 1 + 1, 3, .int .i64 c.y.hi), (w.heap.size + 1, 0, .int .i64 b.x.lo), (w.heap.size + 1, 1, .int .i64 b.x.hi), (w.heap.size + 1, 2, .int .i64 b.y.lo), (w.heap.size + 1, 3, .int .i64 b.y.hi), (w.heap.size, 0, .int .i64 a.x.lo), (w.heap.size, 1, .int .i64 a.x.hi), (w.heap.size, 2, .int .i64 a.y.lo), (w.heap.size, 3, .int .i64 a.y.hi)] := by rw [← hW0]; exact ((⟨BD.out n, LD.out n⟩ : St w n.w _)).box #[.int .i64 d.lo, .int .i64 d.hi] 58 (n.w.heap.size) (by simp)
    rw [hW0]
    clear hW0
    obtain ⟨kE, hkk⟩ : ∃ k, n.w.heap.size = k := ⟨_, rfl⟩
    have gkE : w.heap.size ≤ kE := by rw [← hkk]; exact (BD.out n).size
    rw [hkk] at S0 ⊢
    clear hkk
    obtain ⟨E, hC0, HE, LE, BE, hne⟩ := cls S0
    haveI := hne
    obtain ⟨e0, rfl⟩ : ∃ n : Wd E, W0 = n.w := ⟨⟨_, hC0⟩, rfl⟩
    have fE0 : ∀ n : Wd E, n.w.cell? ⟨kE, 0, none⟩ = some (.int .i64 d.lo) := fun n => (LE.out n).1.2.1
    have fE1 : ∀ n : Wd E, n.w.cell? ⟨kE, 1, none⟩ = some (.int .i64 d.hi) := fun n => (LE.out n).2.1.2.1
    have fE2 : ∀ n : Wd E, n.w.cell? ⟨kD, 0, none⟩ = some (.int .i64 s.lo) := fun n => (LE.out n).2.2.1.2.1
    have fE3 : ∀ n : Wd E, n.w.cell? ⟨kD, 1, none⟩ = some (.int .i64 s.hi) := fun n => (LE.out n).2.2.2.1.2.1
    have fE4 : ∀ n : Wd E, n.w.cell? ⟨w.heap.size + 1 + 1 + 1 + 1 + 1, 0, none⟩ = some (.int .u32 (z0)) := fun n => (LE.out n).2.2.2.2.1.2.1
    have fE5 : ∀ n : Wd E, n.w.cell? ⟨w.heap.size + 1 + 1 + 1 + 1 + 1, 1, none⟩ = some (.int .u32 (z1)) := fun n => (LE.out n).2.2.2.2.2.1.2.1
    have fE6 : ∀ n : Wd E, n.w.cell? ⟨w.heap.size + 1 + 1 + 1 + 1, 0, none⟩ = some (.int .u32 (y0)) := fun n => (LE.out n).2.2.2.2.2.2.1.2.1
    have fE7 : ∀ n : Wd E, n.w.cell? ⟨w.heap.size + 1 + 1 + 1 + 1, 1, none⟩ = some (.int .u32 (y1)) := fun n => (LE.out n).2.2.2.2.2.2.2.1.2.1
    have fE8 : ∀ n : Wd E, n.w.cell? ⟨w.heap.size + 1 + 1 + 1, 0, none⟩ = some (.int .u32 (x0)) := fun n => (LE.out n).2.2.2.2.2.2.2.2.1.2.1
    have fE9 : ∀ n : Wd E, n.w.cell? ⟨w.heap.size + 1 + 1 + 1, 1, none⟩ = some (.int .u32 (x1)) := fun n => (LE.out n).2.2.2.2.2.2.2.2.2.1.2.1
    have fE10 : ∀ n : Wd E, n.w.cell? ⟨w.heap.size + 1 + 1, 0, none⟩ = some (.int .i64 c.x.lo) := fun n => (LE.out n).2.2.2.2.2.2.2.2.2.2.1.2.1
    have fE11 : ∀ n : Wd E, n.w.cell? ⟨w.heap.size + 1 + 1, 1, none⟩ = some (.int .i64 c.x.hi) := fun n => (LE.out n).2.2.2.2.2.2.2.2.2.2.2.1.2.1
    have fE12 : ∀ n : Wd E, n.w.cell? ⟨w.heap.size + 1 + 1, 2, none⟩ = some (.int .i64 c.y.lo) := fun n => (LE.out n).2.2.2.2.2.2.2.2.2.2.2.2.1.2.1
    have fE13 : ∀ n : Wd E, n.w.cell? ⟨w.heap.size + 1 + 1, 3, none⟩ = some (.int .i64 c.y.hi) := fun n => (LE.out n).2.2.2.2.2.2.2.2.2.2.2.2.2.1.2.1
    have fE14 : ∀ n : Wd E, n.w.cell? ⟨w.heap.size + 1, 0, none⟩ = some (.int .i64 b.x.lo) := fun n => (LE.out n).2.2.2.2.2.2.2.2.2.2.2.2.2.2.1.2.1
    have fE15 : ∀ n : Wd E, n.w.cell? ⟨w.heap.size + 1, 1, none⟩ = some (.int .i64 b.x.hi) := fun n => (LE.out n).2.2.2.2.2.2.2.2.2.2.2.2.2.2.2.1.2.1
    have fE16 : ∀ n : Wd E, n.w.cell? ⟨w.heap.size + 1, 2, none⟩ = some (.int .i64 b.y.lo) := fun n => (LE.out n).2.2.2.2.2.2.2.2.2.2.2.2.2.2.2.2.1.2.1
    have fE17 : ∀ n : Wd E, n.w.cell? ⟨w.heap.size + 1, 3, none⟩ = some (.int .i64 b.y.hi) := fun n => (LE.out n).2.2.2.2.2.2.2.2.2.2.2.2.2.2.2.2.2.1.2.1
    have fE18 : ∀ n : Wd E, n.w.cell? ⟨w.heap.size, 0, none⟩ = some (.int .i64 a.x.lo) := fun n => (LE.out n).2.2.2.2.2.2.2.2.2.2.2.2.2.2.2.2.2.2.1.2.1
    have fE19 : ∀ n : Wd E, n.w.cell? ⟨w.heap.size, 1, none⟩ = some (.int .i64 a.x.hi) := fun n => (LE.out n).2.2.2.2.2.2.2.2.2.2.2.2.2.2.2.2.2.2.2.1.2.1
    have fE20 : ∀ n : Wd E, n.w.cell? ⟨w.heap.size, 2, none⟩ = some (.int .i64 a.y.lo) := fun n => (LE.out n).2.2.2.2.2.2.2.2.2.2.2.2.2.2.2.2.2.2.2.2.1.2.1
    have fE21 : ∀ n : Wd E, n.w.cell? ⟨w.heap.size, 3, none⟩ = some (.int .i64 a.y.hi) := fun n => (LE.out n).2.2.2.2.2.2.2.2.2.2.2.2.2.2.2.2.2.2.2.2.2.1.2.1
    clear S0 hC0
    have D6 := cin HE Q1
    clear D5 Q1 HD LD BD
    go_wp2_with (first | (go_at_call 70; with_reducible refine (D6 _).out.mono ?_; rintro e w' ⟨rfl, n, rfl⟩))
    obtain ⟨W0, hW0⟩ : ∃ W0, (n.w).alloc (.cells #[.int .i64 p.x, .int .i64 p.y] 23) = W0 := ⟨_, rfl⟩
    have S0 : St w W0 [(n.w.heap.size, 0, .int .i64 p.x), (n.w.heap.size, 1, .int .i64 p.y), (kE, 0, .int .i64 d.lo), (kE, 1, .int .i64 d.hi), (kD, 0, .int .i64 s.lo), (kD, 1, .int .i64 s.hi), (w.heap.size + 1 + 1 + 1 + 1 + 1, 0, .int .u32 (z0)), (w.heap.size + 1 + 1 + 1 + 1 + 1, 1, .int .u32 (z1)), (w.heap.size + 1 + 1 + 1 + 1, 0, .int .u32 (y0)), (w.heap.size + 1 + 1 + 1 + 1, 1, .int .u32 (y1)), (w.heap.size + 1 + 1 + 1, 0, .int .u32 (x0)), (w.heap.size + 1 + 1 + 1, 1, .int .u32 (x1)), (w.heap.size + 1 + 1, 0, .int .i64 c.x.lo), (w.heap.size + 1 + 1, 1, .int .i64 c.x.hi), (w.heap.size + 1 + 1, 2, .int .i64 c.y.lo), (w.heap.size + 1 + 1, 3, .int .i64 c.y.hi), (w.heap.size + 1, 0, .int .i64 b.x.lo), (w.heap.size + 1, 1, .int .i64 b.x.hi), (w.heap.size + 1, 2, .int .i64 b.y.lo), (w.heap.size + 1, 3, .int .i64 b.y.hi), (w.heap.size, 0, .int .i64 a.x.lo), (w.heap.size, 1, .int .i64 a.x.hi), (w.heap.size, 2, .int .i64 a.y.lo), (w.heap.size, 3, .int .i64 a.y.hi)] := by rw [← hW0]; exact ((⟨BE.out n, LE.out n⟩ : St w n.w _)).box #[.int .i64 p.x, .int .i64 p.y] 23 (n.w.heap.size) (by simp)
    rw [hW0]
    clear hW0
    obtain ⟨kF, hkk⟩ : ∃ k, n.w.heap.size = k := ⟨_, rfl⟩
    have gkF : w.heap.size ≤ kF := by rw [← hkk]; exact (BE.out n).size
    rw [hkk] at S0 ⊢
    clear hkk
    obtain ⟨F, hC0, HF, LF, BF, hne⟩ := cls S0
    haveI := hne
    obtain ⟨f0, rfl⟩ : ∃ n : Wd F, W0 = n.w := ⟨⟨_, hC0⟩, rfl⟩
    have fF0 : ∀ n : Wd F, n.w.cell? ⟨kF, 0, none⟩ = some (.int .i64 p.x) := fun n => (LF.out n).1.2.1
    have fF1 : ∀ n : Wd F, n.w.cell? ⟨kF, 1, none⟩ = some (.int .i64 p.y) := fun n => (LF.out n).2.1.2.1
    have fF2 : ∀ n : Wd F, n.w.cell? ⟨kE, 0, none⟩ = some (.int .i64 d.lo) := fun n => (LF.out n).2.2.1.2.1
    have fF3 : ∀ n : Wd F, n.w.cell? ⟨kE, 1, none⟩ = some (.int .i64 d.hi) := fun n => (LF.out n).2.2.2.1.2.1
    have fF4 : ∀ n : Wd F, n.w.cell? ⟨kD, 0, none⟩ = some (.int .i64 s.lo) := fun n => (LF.out n).2.2.2.2.1.2.1
    have fF5 : ∀ n : Wd F, n.w.cell? ⟨kD, 1, none⟩ = some (.int .i64 s.hi) := fun n => (LF.out n).2.2.2.2.2.1.2.1
    have fF6 : ∀ n : Wd F, n.w.cell? ⟨w.heap.size + 1 + 1 + 1 + 1 + 1, 0, none⟩ = some (.int .u32 (z0)) := fun n => (LF.out n).2.2.2.2.2.2.1.2.1
    have fF7 : ∀ n : Wd F, n.w.cell? ⟨w.heap.size + 1 + 1 + 1 + 1 + 1, 1, none⟩ = some (.int .u32 (z1)) := fun n => (LF.out n).2.2.2.2.2.2.2.1.2.1
    have fF8 : ∀ n : Wd F, n.w.cell? ⟨w.heap.size + 1 + 1 + 1 + 1, 0, none⟩ = some (.int .u32 (y0)) := fun n => (LF.out n).2.2.2.2.2.2.2.2.1.2.1
    have fF9 : ∀ n : Wd F, n.w.cell? ⟨w.heap.size + 1 + 1 + 1 + 1, 1, none⟩ = some (.int .u32 (y1)) := fun n => (LF.out n).2.2.2.2.2.2.2.2.2.1.2.1
    have fF10 : ∀ n : Wd F, n.w.cell? ⟨w.heap.size + 1 + 1 + 1, 0, none⟩ = some (.int .u32 (x0)) := fun n => (LF.out n).2.2.2.2.2.2.2.2.2.2.1.2.1
    have fF11 : ∀ n : Wd F, n.w.cell? ⟨w.heap.size + 1 + 1 + 1, 1, none⟩ = some (.int .u32 (x1)) := fun n => (LF.out n).2.2.2.2.2.2.2.2.2.2.2.1.2.1
    have fF12 : ∀ n : Wd F, n.w.cell? ⟨w.heap.size + 1 + 1, 0, none⟩ = some (.int .i64 c.x.lo) := fun n => (LF.out n).2.2.2.2.2.2.2.2.2.2.2.2.1.2.1
    have fF13 : ∀ n : Wd F, n.w.cell? ⟨w.heap.size + 1 + 1, 1, none⟩ = some (.int .i64 c.x.hi) := fun n => (LF.out n).2.2.2.2.2.2.2.2.2.2.2.2.2.1.2.1
    have fF14 : ∀ n : Wd F, n.w.cell? ⟨w.heap.size + 1 + 1, 2, none⟩ = some (.int .i64 c.y.lo) := fun n => (LF.out n).2.2.2.2.2.2.2.2.2.2.2.2.2.2.1.2.1
    have fF15 : ∀ n : Wd F, n.w.cell? ⟨w.heap.size + 1 + 1, 3, none⟩ = some (.int .i64 c.y.hi) := fun n => (LF.out n).2.2.2.2.2.2.2.2.2.2.2.2.2.2.2.1.2.1
    have fF16 : ∀ n : Wd F, n.w.cell? ⟨w.heap.size + 1, 0, none⟩ = some (.int .i64 b.x.lo) := fun n => (LF.out n).2.2.2.2.2.2.2.2.2.2.2.2.2.2.2.2.1.2.1
    have fF17 : ∀ n : Wd F, n.w.cell? ⟨w.heap.size + 1, 1, none⟩ = some (.int .i64 b.x.hi) := fun n => (LF.out n).2.2.2.2.2.2.2.2.2.2.2.2.2.2.2.2.2.1.2.1
    have fF18 : ∀ n : Wd F, n.w.cell? ⟨w.heap.size + 1, 2, none⟩ = some (.int .i64 b.y.lo) := fun n => (LF.out n).2.2.2.2.2.2.2.2.2.2.2.2.2.2.2.2.2.2.1.2.1
    have fF19 : ∀ n : Wd F, n.w.cell? ⟨w.heap.size + 1, 3, none⟩ = some (.int .i64 b.y.hi) := fun n => (LF.out n).2.2.2.2.2.2.2.2.2.2.2.2.2.2.2.2.2.2.2.1.2.1
    have fF20 : ∀ n : Wd F, n.w.cell? ⟨w.heap.size, 0, none⟩ = some (.int .i64 a.x.lo) := fun n => (LF.out n).2.2.2.2.2.2.2.2.2.2.2.2.2.2.2.2.2.2.2.2.1.2.1
    have fF21 : ∀ n : Wd F, n.w.cell? ⟨w.heap.size, 1, none⟩ = some (.int .i64 a.x.hi) := fun n => (LF.out n).2.2.2.2.2.2.2.2.2.2.2.2.2.2.2.2.2.2.2.2.2.1.2.1
    have fF22 : ∀ n : Wd F, n.w.cell? ⟨w.heap.size, 2, none⟩ = some (.int .i64 a.y.lo) := fun n => (LF.out n).2.2.2.2.2.2.2.2.2.2.2.2.2.2.2.2.2.2.2.2.2.2.1.2.1
    have fF23 : ∀ n : Wd F, n.w.cell? ⟨w.heap.size, 3, none⟩ = some (.int .i64 a.y.hi) := fun n => (LF.out n).2.2.2.2.2.2.2.2.2.2.2.2.2.2.2.2.2.2.2.2.2.2.2.1.2.1
    clear S0 hC0
    have D7 := cin HF Q2
    clear D6 Q2 HE LE BE
    go_wp2_with (first | (go_at_call 70; with_reducible refine (D7 _).out.mono ?_; rintro e w' ⟨rfl, n, rfl⟩))
    obtain ⟨W0, hW0⟩ : ∃ W0, (n.w).alloc (.cells #[.int .i64 q.x, .int .i64 q.y] 23) = W0 := ⟨_, rfl⟩
    have S0 : St w W0 [(n.w.heap.size, 0, .int .i64 q.x), (n.w.heap.size, 1, .int .i64 q.y), (kF, 0, .int .i64 p.x), (kF, 1, .int .i64 p.y), (kE, 0, .int .i64 d.lo), (kE, 1, .int .i64 d.hi), (kD, 0, .int .i64 s.lo), (kD, 1, .int .i64 s.hi), (w.heap.size + 1 + 1 + 1 + 1 + 1, 0, .int .u32 (z0)), (w.heap.size + 1 + 1 + 1 + 1 + 1, 1, .int .u32 (z1)), (w.heap.size + 1 + 1 + 1 + 1, 0, .int .u32 (y0)), (w.heap.size + 1 + 1 + 1 + 1, 1, .int .u32 (y1)), (w.heap.size + 1 + 1 + 1, 0, .int .u32 (x0)), (w.heap.size + 1 + 1 + 1, 1, .int .u32 (x1)), (w.heap.size + 1 + 1, 0, .int .i64 c.x.lo), (w.heap.size + 1 + 1, 1, .int .i64 c.x.hi), (w.heap.size + 1 + 1, 2, .int .i64 c.y.lo), (w.heap.size + 1 + 1, 3, .int .i64 c.y.hi), (w.heap.size + 1, 0, .int .i64 b.x.lo), (w.heap.size + 1, 1, .int .i64 b.x.hi), (w.heap.size + 1, 2, .int .i64 b.y.lo), (w.heap.size + 1, 3, .int .i64 b.y.hi), (w.heap.size, 0, .int .i64 a.x.lo), (w.heap.size, 1, .int .i64 a.x.hi), (w.heap.size, 2, .int .i64 a.y.lo), (w.heap.size, 3, .int .i64 a.y.hi)] := by rw [← hW0]; exact ((⟨BF.out n, LF.out n⟩ : St w n.w _)).box #[.int .i64 q.x, .int .i64 q.y] 23 (n.w.heap.size) (by simp)
    rw [hW0]
    clear hW0
    obtain ⟨kG, hkk⟩ : ∃ k, n.w.heap.size = k := ⟨_, rfl⟩
    have gkG : w.heap.size ≤ kG := by rw [← hkk]; exact (BF.out n).size
    rw [hkk] at S0 ⊢
    clear hkk
    obtain ⟨G, hC0, HG, LG, BG, hne⟩ := cls S0
    haveI := hne
    obtain ⟨g0, rfl⟩ : ∃ n : Wd G, W0 = n.w := ⟨⟨_, hC0⟩, rfl⟩
    have fG0 : ∀ n : Wd G, n.w.cell? ⟨kG, 0, none⟩ = some (.int .i64 q.x) := fun n => (LG.out n).1.2.1
    have fG1 : ∀ n : Wd G, n.w.cell? ⟨kG, 1, none⟩ = some (.int .i64 q.y) := fun n => (LG.out n).2.1.2.1
    have fG2 : ∀ n : Wd G, n.w.cell? ⟨kF, 0, none⟩ = some (.int .i64 p.x) := fun n => (LG.out n).2.2.1.2.1
    have fG3 : ∀ n : Wd G, n.w.cell? ⟨kF, 1, none⟩ = some (.int .i64 p.y) := fun n => (LG.out n).2.2.2.1.2.1
    have fG4 : ∀ n : Wd G, n.w.cell? ⟨kE, 0, none⟩ = some (.int .i64 d.lo) := fun n => (LG.out n).2.2.2.2.1.2.1
    have fG5 : ∀ n : Wd G, n.w.cell? ⟨kE, 1, none⟩ = some (.int .i64 d.hi) := fun n => (LG.out n).2.2.2.2.2.1.2.1
    have fG6 : ∀ n : Wd G, n.w.cell? ⟨kD, 0, none⟩ = some (.int .i64 s.lo) := fun n => (LG.out n).2.2.2.2.2.2.1.2.1
    have fG7 : ∀ n : Wd G, n.w.cell? ⟨kD, 1, none⟩ = some (.int .i64 s.hi) := fun n => (LG.out n).2.2.2.2.2.2.2.1.2.1
    have fG8 : ∀ n : Wd G, n.w.cell? ⟨w.heap.size + 1 + 1 + 1 + 1 + 1, 0, none⟩ = some (.int .u32 (z0)) := fun n => (LG.out n).2.2.2.2.2.2.2.2.1.2.1
    have fG9 : ∀ n : Wd G, n.w.cell? ⟨w.heap.size + 1 + 1 + 1 + 1 + 1, 1, none⟩ = some (.int .u32 (z1)) := fun n => (LG.out n).2.2.2.2.2.2.2.2.2.1.2.1
    have fG10 : ∀ n : Wd G, n.w.cell? ⟨w.heap.size + 1 + 1 + 1 + 1, 0, none⟩ = some (.int .u32 (y0)) := fun n => (LG.out n).2.2.2.2.2.2.2.2.2.2.1.2.1
    have fG11 : ∀ n : Wd G, n.w.cell? ⟨w.heap.size + 1 + 1 + 1 + 1, 1, none⟩ = some (.int .u32 (y1)) := fun n => (LG.out n).2.2.2.2.2.2.2.2.2.2.2.1.2.1
    have fG12 : ∀ n : Wd G, n.w.cell? ⟨w.heap.size + 1 + 1 + 1, 0, none⟩ = some (.int .u32 (x0)) := fun n => (LG.out n).2.2.2.2.2.2.2.2.2.2.2.2.1.2.1
    have fG13 : ∀ n : Wd G, n.w.cell? ⟨w.heap.size + 1 + 1 + 1, 1, none⟩ = some (.int .u32 (x1)) := fun n => (LG.out n).2.2.2.2.2.2.2.2.2.2.2.2.2.1.2.1
    have fG14 : ∀ n : Wd G, n.w.cell? ⟨w.heap.size + 1 + 1, 0, none⟩ = some (.int .i64 c.x.lo) := fun n => (LG.out n).2.2.2.2.2.2.2.2.2.2.2.2.2.2.1.2.1
    have fG15 : ∀ n : Wd G, n.w.cell? ⟨w.heap.size + 1 + 1, 1, none⟩ = some (.int .i64 c.x.hi) := fun n => (LG.out n).2.2.2.2.2.2.2.2.2.2.2.2.2.2.2.1.2.1
    have fG16 : ∀ n : Wd G, n.w.cell? ⟨w.heap.size + 1 + 1, 2, none⟩ = some (.int .i64 c.y.lo) := fun n => (LG.out n).2.2.2.2.2.2.2.2.2.2.2.2.2.2.2.2.1.2.1
    have fG17 : ∀ n : Wd G, n.w.cell? ⟨w.heap.size + 1 + 1, 3, none⟩ = some (.int .i64 c.y.hi) := fun n => (LG.out n).2.2.2.2.2.2.2.2.2.2.2.2.2.2.2.2.2.1.2.1
    have fG18 : ∀ n : Wd G, n.w.cell? ⟨w.heap.size + 1, 0, none⟩ = some (.int .i64 b.x.lo) := fun n => (LG.out n).2.2.2.2.2.2.2.2.2.2.2.2.2.2.2.2.2.2.1.2.1
    have fG19 : ∀ n : Wd G, n.w.cell? ⟨w.heap.size + 1, 1, none⟩ = some (.int .i64 b.x.hi) := fun n => (LG.out n).2.2.2.2.2.2.2.2.2.2.2.2.2.2.2.2.2.2.2.1.2.1
    have fG20 : ∀ n : Wd G, n.w.cell? ⟨w.heap.size + 1, 2, none⟩ = some (.int .i64 b.y.lo) := fun n => (LG.out n).2.2.2.2.2.2.2.2.2.2.2.2.2.2.2.2.2.2.2.2.1.2.1
    have fG21 : ∀ n : Wd G, n.w.cell? ⟨w.heap.size + 1, 3, none⟩ = some (.int .i64 b.y.hi) := fun n => (LG.out n).2.2.2.2.2.2.2.2.2.2.2.2.2.2.2.2.2.2.2.2.2.1.2.1
    have fG22 : ∀ n : Wd G, n.w.cell? ⟨w.heap.size, 0, none⟩ = some (.int .i64 a.x.lo) := fun n => (LG.out n).2.2.2.2.2.2.2.2.2.2.2.2.2.2.2.2.2.2.2.2.2.2.1.2.1
    have fG23 : ∀ n : Wd G, n.w.cell? ⟨w.heap.size, 1, none⟩ = some (.int .i64 a.x.hi) := fun n => (LG.out n).2.2.2.2.2.2.2.2.2.2.2.2.2.2.2.2.2.2.2.2.2.2.2.1.2.1
    have fG24 : ∀ n : Wd G, n.w.cell? ⟨w.heap.size, 2, none⟩ = some (.int .i64 a.y.lo) := fun n => (LG.out n).2.2.2.2.2.2.2.2.2.2.2.2.2.2.2.2.2.2.2.2.2.2.2.2.1.2.1
    have fG25 : ∀ n : Wd G, n.w.cell? ⟨w.heap.size, 3, none⟩ = some (.int .i64 a.y.hi) := fun n => (LG.out n).2.2.2.2.2.2.2.2.2.2.2.2.2.2.2.2.2.2.2.2.2.2.2.2.2.1.2.1
    clear S0 hC0
    have D8 := cin HG Q3
    clear D7 Q3 HF LF BF
    go_upto_region 8 with (first | (go_at_call 70; with_reducible refine (D8 _).out.mono ?_; rintro e w' ⟨rfl, n, rfl⟩))
    obtain ⟨W0, hW0⟩ : ∃ W0, (n.w).alloc (.cells #[.int .i64 r.x, .int .i64 r.y] 23) = W0 := ⟨_, rfl⟩
    have S0 : St w W0 [(n.w.heap.size, 0, .int .i64 r.x), (n.w.heap.size, 1, .int .i64 r.y), (kG, 0, .int .i64 q.x), (kG, 1, .int .i64 q.y), (kF, 0, .int .i64 p.x), (kF, 1, .int .i64 p.y), (kE, 0, .int .i64 d.lo), (kE, 1, .int .i64 d.hi), (kD, 0, .int .i64 s.lo), (kD, 1, .int .i64 s.hi), (w.heap.size + 1 + 1 + 1 + 1 + 1, 0, .int .u32 (z0)), (w.heap.size + 1 + 1 + 1 + 1 + 1, 1, .int .u32 (z1)), (w.heap.size + 1 + 1 + 1 + 1, 0, .int .u32 (y0)), (w.heap.size + 1 + 1 + 1 + 1, 1, .int .u32 (y1)), (w.heap.size + 1 + 1 + 1, 0, .int .u32 (x0)), (w.heap.size + 1 + 1 + 1, 1, .int .u32 (x1)), (w.heap.size + 1 + 1, 0, .int .i64 c.x.lo), (w.heap.size + 1 + 1, 1, .int .i64 c.x.hi), (w.heap.size + 1 + 1, 2, .int .i64 c.y.lo), (w.heap.size + 1 + 1, 3, .int .i64 c.y.hi), (w.heap.size + 1, 0, .int .i64 b.x.lo), (w.heap.size + 1, 1, .int .i64 b.x.hi), (w.heap.size + 1, 2, .int .i64 b.y.lo), (w.heap.size + 1, 3, .int .i64 b.y.hi), (w.heap.size, 0, .int .i64 a.x.lo), (w.heap.size, 1, .int .i64 a.x.hi), (w.heap.size, 2, .int .i64 a.y.lo), (w.heap.size, 3, .int .i64 a.y.hi)] := by rw [← hW0]; exact ((⟨BG.out n, LG.out n⟩ : St w n.w _)).box #[.int .i64 r.x, .int .i64 r.y] 23 (n.w.heap.size) (by simp)
    rw [hW0]
    clear hW0
    obtain ⟨kJ, hkk⟩ : ∃ k, n.w.heap.size = k := ⟨_, rfl⟩
    have gkJ : w.heap.size ≤ kJ := by rw [← hkk]; exact (BG.out n).size
    rw [hkk] at S0 ⊢
    clear hkk
    obtain ⟨J, hC0, HJ, LJ, BJ, hne⟩ := cls S0
    haveI := hne
    obtain ⟨j0, rfl⟩ : ∃ n : Wd J, W0 = n.w := ⟨⟨_, hC0⟩, rfl⟩
    have fJ0 : ∀ n : Wd J, n.w.cell? ⟨kJ, 0, none⟩ = some (.int .i64 r.x) := fun n => (LJ.out n).1.2.1
    have fJ1 : ∀ n : Wd J, n.w.cell? ⟨kJ, 1, none⟩ = some (.int .i64 r.y) := fun n => (LJ.out n).2.1.2.1
    have fJ2 : ∀ n : Wd J, n.w.cell? ⟨kG, 0, none⟩ = some (.int .i64 q.x) := fun n => (LJ.out n).2.2.1.2.1
    have fJ3 : ∀ n : Wd J, n.w.cell? ⟨kG, 1, none⟩ = some (.int .i64 q.y) := fun n => (LJ.out n).2.2.2.1.2.1
    have fJ4 : ∀ n : Wd J, n.w.cell? ⟨kF, 0, none⟩ = some (.int .i64 p.x) := fun n => (LJ.out n).2.2.2.2.1.2.1
    have fJ5 : ∀ n : Wd J, n.w.cell? ⟨kF, 1, none⟩ = some (.int .i64 p.y) := fun n => (LJ.out n).2.2.2.2.2.1.2.1
    have fJ6 : ∀ n : Wd J, n.w.cell? ⟨kE, 0, none⟩ = some (.int .i64 d.lo) := fun n => (LJ.out n).2.2.2.2.2.2.1.2.1
    have fJ7 : ∀ n : Wd J, n.w.cell? ⟨kE, 1, none⟩ = some (.int .i64 d.hi) := fun n => (LJ.out n).2.2.2.2.2.2.2.1.2.1
    have fJ8 : ∀ n : Wd J, n.w.cell? ⟨kD, 0, none⟩ = some (.int .i64 s.lo) := fun n => (LJ.out n).2.2.2.2.2.2.2.2.1.2.1
    have fJ9 : ∀ n : Wd J, n.w.cell? ⟨kD, 1, none⟩ = some (.int .i64 s.hi) := fun n => (LJ.out n).2.2.2.2.2.2.2.2.2.1.2.1
    have fJ10 : ∀ n : Wd J, n.w.cell? ⟨w.heap.size + 1 + 1 + 1 + 1 + 1, 0, none⟩ = some (.int .u32 (z0)) := fun n => (LJ.out n).2.2.2.2.2.2.2.2.2.2.1.2.1
    have fJ11 : ∀ n : Wd J, n.w.cell? ⟨w.heap.size + 1 + 1 + 1 + 1 + 1, 1, none⟩ = some (.int .u32 (z1)) := fun n => (LJ.out n).2.2.2.2.2.2.2.2.2.2.2.1.2.1
    have fJ12 : ∀ n : Wd J, n.w.cell? ⟨w.heap.size + 1 + 1 + 1 + 1, 0, none⟩ = some (.int .u32 (y0)) := fun n => (LJ.out n).2.2.2.2.2.2.2.2.2.2.2.2.1.2.1
    have fJ13 : ∀ n : Wd J, n.w.cell? ⟨w.heap.size + 1 + 1 + 1 + 1, 1, none⟩ = some (.int .u32 (y1)) := fun n => (LJ.out n).2.2.2.2.2.2.2.2.2.2.2.2.2.1.2.1
    have fJ14 : ∀ n : Wd J, n.w.cell? ⟨w.heap.size + 1 + 1 + 1, 0, none⟩ = some (.int .u32 (x0)) := fun n => (LJ.out n).2.2.2.2.2.2.2.2.2.2.2.2.2.2.1.2.1
    have fJ15 : ∀ n : Wd J, n.w.cell? ⟨w.heap.size + 1 + 1 + 1, 1, none⟩ = some (.int .u32 (x1)) := fun n => (LJ.out n).2.2.2.2.2.2.2.2.2.2.2.2.2.2.2.1.2.1
    have fJ16 : ∀ n : Wd J, n.w.cell? ⟨w.heap.size + 1 + 1, 0, none⟩ = some (.int .i64 c.x.lo) := fun n => (LJ.out n).2.2.2.2.2.2.2.2.2.2.2.2.2.2.2.2.1.2.1
    have fJ17 : ∀ n : Wd J, n.w.cell? ⟨w.heap.size + 1 + 1, 1, none⟩ = some (.int .i64 c.x.hi) := fun n => (LJ.out n).2.2.2.2.2.2.2.2.2.2.2.2.2.2.2.2.2.1.2.1
    have fJ18 : ∀ n : Wd J, n.w.cell? ⟨w.heap.size + 1 + 1, 2, none⟩ = some (.int .i64 c.y.lo) := fun n => (LJ.out n).2.2.2.2.2.2.2.2.2.2.2.2.2.2.2.2.2.2.1.2.1
    have fJ19 : ∀ n : Wd J, n.w.cell? ⟨w.heap.size + 1 + 1, 3, none⟩ = some (.int .i64 c.y.hi) := fun n => (LJ.out n).2.2.2.2.2.2.2.2.2.2.2.2.2.2.2.2.2.2.2.1.2.1
    have fJ20 : ∀ n : Wd J, n.w.cell? ⟨w.heap.size + 1, 0, none⟩ = some (.int .i64 b.x.lo) := fun n => (LJ.out n).2.2.2.2.2.2.2.2.2.2.2.2.2.2.2.2.2.2.2.2.1.2.1
    have fJ21 : ∀ n : Wd J, n.w.cell? ⟨w.heap.size + 1, 1, none⟩ = some (.int .i64 b.x.hi) := fun n => (LJ.out n).2.2.2.2.2.2.2.2.2.2.2.2.2.2.2.2.2.2.2.2.2.1.2.1
    have fJ22 : ∀ n : Wd J, n.w.cell? ⟨w.heap.size + 1, 2, none⟩ = some (.int .i64 b.y.lo) := fun n => (LJ.out n).2.2.2.2.2.2.2.2.2.2.2.2.2.2.2.2.2.2.2.2.2.2.1.2.1
    have fJ23 : ∀ n : Wd J, n.w.cell? ⟨w.heap.size + 1, 3, none⟩ = some (.int .i64 b.y.hi) := fun n => (LJ.out n).2.2.2.2.2.2.2.2.2.2.2.2.2.2.2.2.2.2.2.2.2.2.2.1.2.1
    have fJ24 : ∀ n : Wd J, n.w.cell? ⟨w.heap.size, 0, none⟩ = some (.int .i64 a.x.lo) := fun n => (LJ.out n).2.2.2.2.2.2.2.2.2.2.2.2.2.2.2.2.2.2.2.2.2.2.2.2.1.2.1
    have fJ25 : ∀ n : Wd J, n.w.cell? ⟨w.heap.size, 1, none⟩ = some (.int .i64 a.x.hi) := fun n => (LJ.out n).2.2.2.2.2.2.2.2.2.2.2.2.2.2.2.2.2.2.2.2.2.2.2.2.2.1.2.1
    have fJ26 : ∀ n : Wd J, n.w.cell? ⟨w.heap.size, 2, none⟩ = some (.int .i64 a.y.lo) := fun n => (LJ.out n).2.2.2.2.2.2.2.2.2.2.2.2.2.2.2.2.2.2.2.2.2.2.2.2.2.2.1.2.1
    have fJ27 : ∀ n : Wd J, n.w.cell? ⟨w.heap.size, 3, none⟩ = some (.int .i64 a.y.hi) := fun n => (LJ.out n).2.2.2.2.2.2.2.2.2.2.2.2.2.2.2.2.2.2.2.2.2.2.2.2.2.2.2.1.2.1
    clear S0 hC0
    clear D8 HG LG BG
    have E1 := A3.out J HJ
    have E2 := cin HJ T1
    have E3 := cin HJ T2
    have E4 := cin HJ W1
    have E5 := cin HJ W2
    have E6 := cin HJ S3
    have E7 := cin HJ AT
    have E8 := cin HJ CL
    have E9 := cin HJ CT
    have E0 := cin HJ BX
    clear A3 T1 T2 W1 W2 S3 AT CL CT
    go_wp2_with (first | (go_at_call 30; with_reducible refine (E1 _).out.mono ?_; rintro e w' ⟨rfl, n, rfl⟩) | (go_at_call 19; with_reducible refine (E2 _).out.mono ?_; rintro e w' ⟨rfl, n, rfl⟩))
    refine wp_region_in J (HJ.out _ _ (Wd.h _) (below_dr _)) (by kernel_rfl) (by kernel_rfl) ?_
    repeat (go_big_quiet_step (first | with_reducible exact (E3 _).out | with_reducible exact (E4 _).out | with_reducible exact (E5 _).out))
    refine wpQuiet_nil ?_
    intro wx hwx
    obtain ⟨n1, rfl⟩ : ∃ n : Wd J, wx = n.w := ⟨⟨wx, hwx⟩, rfl⟩
    clear hwx
    clear E1 E2 E3 E4 E5
    go_upto_region 13 with (first | (go_at_call 63; with_reducible refine (E6 _).out.mono ?_; rintro e w' ⟨rfl, n, rfl⟩))
    go_cut [154] (fun x wx => x = .bool false ∧ ∃ m : Wd J, wx = m.w)
    case first =>
      obtain ⟨g1, g2, rfl, rfl⟩ | ⟨g1, g2, rfl, rfl⟩ | ⟨g1, g2, rfl, rfl⟩ | ⟨g1, g2, rfl, rfl⟩ | ⟨g1, g2, rfl, rfl⟩ | ⟨g1, g2, rfl, rfl⟩ | ⟨g1, g2, rfl, rfl⟩ | ⟨g1, g2, rfl, rfl⟩ | ⟨g1, g2, rfl, rfl⟩ | ⟨g1, g2, rfl, rfl⟩ := SC.out
      all_goals (clear SC; go_wp2_with fail; go_meet; exact ⟨by first | rfl | (simp; omega), _, rfl⟩)
    case rest =>
      obtain ⟨rfl, n3, rfl⟩ := hcut
      clear SC E6
      go_upto_region 17 with (first | (go_at_call 72; with_reducible refine (E7 _).out.mono ?_; rintro e w' ⟨rfl, n, rfl⟩) | (go_at_call 73; with_reducible refine (E8 _).out.mono ?_; rintro e w' ⟨rfl, n, rfl⟩))
      clear E7 E8
      obtain ⟨o, ho⟩ : ∃ o, cutB a = o := ⟨_, rfl⟩
      simp only [ho] at E9
      rcases o with _ | ⟨P, R⟩
      · clear ho
        have E9' : ∀ n : Wd J, Hid (Calls Try.prog 51 #[a.v] n.w fun e w'' => e = .returned (.tuple #[Bx.v ⟨⟨0, 0⟩, ⟨0, 0⟩⟩, Bx.v ⟨⟨0, 0⟩, ⟨0, 0⟩⟩, .bool false]) ∧ ∃ m : Wd J, w'' = m.w) := E9
        go_wp2_with (first | (go_at_call 51; with_reducible refine (E9' _).out.mono ?_; rintro e w' ⟨rfl, n, rfl⟩))
        obtain ⟨W0, hW0⟩ : ∃ W0, ((n.w).alloc (.cells #[.int .i64 (0), .int .i64 (0), .int .i64 (0), .int .i64 (0)] 60)).alloc (.cells #[.int .i64 (0), .int .i64 (0), .int .i64 (0), .int .i64 (0)] 60) = W0 := ⟨_, rfl⟩
        have S0 : St w W0 [(n.w.heap.size + 1, 0, .int .i64 (0)), (n.w.heap.size + 1, 1, .int .i64 (0)), (n.w.heap.size + 1, 2, .int .i64 (0)), (n.w.heap.size + 1, 3, .int .i64 (0)), (n.w.heap.size, 0, .int .i64 (0)), (n.w.heap.size, 1, .int .i64 (0)), (n.w.heap.size, 2, .int .i64 (0)), (n.w.heap.size, 3, .int .i64 (0)), (kJ, 0, .int .i64 r.x), (kJ, 1, .int .i64 r.y), (kG, 0, .int .i64 q.x), (kG, 1, .int .i64 q.y), (kF, 0, .int .i64 p.x), (kF, 1, .int .i64 p.y), (kE, 0, .int .i64 d.lo), (kE, 1, .int .i64 d.hi), (kD, 0, .int .i64 s.lo), (kD, 1, .int .i64 s.hi), (w.heap.size + 1 + 1 + 1 + 1 + 1, 0, .int .u32 (z0)), (w.heap.size + 1 + 1 + 1 + 1 + 1, 1, .int .u32 (z1)), (w.heap.size + 1 + 1 + 1 + 1, 0, .int .u32 (y0)), (w.heap.size + 1 + 1 + 1 + 1, 1, .int .u32 (y1)), (w.heap.size + 1 + 1 + 1, 0, .int .u32 (x0)), (w.heap.size + 1 + 1 + 1, 1, .int .u32 (x1)), (w.heap.size + 1 + 1, 0, .int .i64 c.x.lo), (w.heap.size + 1 + 1, 1, .int .i64 c.x.hi), (w.heap.size + 1 + 1, 2, .int .i64 c.y.lo), (w.heap.size + 1 + 1, 3, .int .i64 c.y.hi), (w.heap.size + 1, 0, .int .i64 b.x.lo), (w.heap.size + 1, 1, .int .i64 b.x.hi), (w.heap.size + 1, 2, .int .i64 b.y.lo), (w.heap.size + 1, 3, .int .i64 b.y.hi), (w.heap.size, 0, .int .i64 a.x.lo), (w.heap.size, 1, .int .i64 a.x.hi), (w.heap.size, 2, .int .i64 a.y.lo), (w.heap.size, 3, .int .i64 a.y.hi)] := by rw [← hW0]; exact (((⟨BJ.out n, LJ.out n⟩ : St w n.w _)).box #[.int .i64 (0), .int .i64 (0), .int .i64 (0), .int .i64 (0)] 60 (n.w.heap.size) (by simp)).box #[.int .i64 (0), .int .i64 (0), .int .i64 (0), .int .i64 (0)] 60 (n.w.heap.size + 1) (by simp)
        rw [hW0]
        clear hW0
        obtain ⟨kK, hkk⟩ : ∃ k, n.w.heap.size = k := ⟨_, rfl⟩
        have gkK : w.heap.size ≤ kK := by rw [← hkk]; exact (BJ.out n).size
        rw [hkk] at S0 ⊢
        clear hkk
        obtain ⟨K, hC0, HK, LK, BK, hne⟩ := cls S0
        haveI := hne
        obtain ⟨k0, rfl⟩ : ∃ n : Wd K, W0 = n.w := ⟨⟨_, hC0⟩, rfl⟩
        have fK0 : ∀ n : Wd K, n.w.cell? ⟨kK + 1, 0, none⟩ = some (.int .i64 (0)) := fun n => (LK.out n).1.2.1
        have fK1 : ∀ n : Wd K, n.w.cell? ⟨kK + 1, 1, none⟩ = some (.int .i64 (0)) := fun n => (LK.out n).2.1.2.1
        have fK2 : ∀ n : Wd K, n.w.cell? ⟨kK + 1, 2, none⟩ = some (.int .i64 (0)) := fun n => (LK.out n).2.2.1.2.1
        have fK3 : ∀ n : Wd K, n.w.cell? ⟨kK + 1, 3, none⟩ = some (.int .i64 (0)) := fun n => (LK.out n).2.2.2.1.2.1
        have fK4 : ∀ n : Wd K, n.w.cell? ⟨kK, 0, none⟩ = some (.int .i64 (0)) := fun n => (LK.out n).2.2.2.2.1.2.1
        have fK5 : ∀ n : Wd K, n.w.cell? ⟨kK, 1, none⟩ = some (.int .i64 (0)) := fun n => (LK.out n).2.2.2.2.2.1.2.1
        have fK6 : ∀ n : Wd K, n.w.cell? ⟨kK, 2, none⟩ = some (.int .i64 (0)) := fun n => (LK.out n).2.2.2.2.2.2.1.2.1
        have fK7 : ∀ n : Wd K, n.w.cell? ⟨kK, 3, none⟩ = some (.int .i64 (0)) := fun n => (LK.out n).2.2.2.2.2.2.2.1.2.1
        have fK8 : ∀ n : Wd K, n.w.cell? ⟨kJ, 0, none⟩ = some (.int .i64 r.x) := fun n => (LK.out n).2.2.2.2.2.2.2.2.1.2.1
        have fK9 : ∀ n : Wd K, n.w.cell? ⟨kJ, 1, none⟩ = some (.int .i64 r.y) := fun n => (LK.out n).2.2.2.2.2.2.2.2.2.1.2.1
        have fK10 : ∀ n : Wd K, n.w.cell? ⟨kG, 0, none⟩ = some (.int .i64 q.x) := fun n => (LK.out n).2.2.2.2.2.2.2.2.2.2.1.2.1
        have fK11 : ∀ n : Wd K, n.w.cell? ⟨kG, 1, none⟩ = some (.int .i64 q.y) := fun n => (LK.out n).2.2.2.2.2.2.2.2.2.2.2.1.2.1
        have fK12 : ∀ n : Wd K, n.w.cell? ⟨kF, 0, none⟩ = some (.int .i64 p.x) := fun n => (LK.out n).2.2.2.2.2.2.2.2.2.2.2.2.1.2.1
        have fK13 : ∀ n : Wd K, n.w.cell? ⟨kF, 1, none⟩ = some (.int .i64 p.y) := fun n => (LK.out n).2.2.2.2.2.2.2.2.2.2.2.2.2.1.2.1
        have fK14 : ∀ n : Wd K, n.w.cell? ⟨kE, 0, none⟩ = some (.int .i64 d.lo) := fun n => (LK.out n).2.2.2.2.2.2.2.2.2.2.2.2.2.2.1.2.1
        have fK15 : ∀ n : Wd K, n.w.cell? ⟨kE, 1, none⟩ = some (.int .i64 d.hi) := fun n => (LK.out n).2.2.2.2.2.2.2.2.2.2.2.2.2.2.2.1.2.1
        have fK16 : ∀ n : Wd K, n.w.cell? ⟨kD, 0, none⟩ = some (.int .i64 s.lo) := fun n => (LK.out n).2.2.2.2.2.2.2.2.2.2.2.2.2.2.2.2.1.2.1
        have fK17 : ∀ n : Wd K, n.w.cell? ⟨kD, 1, none⟩ = some (.int .i64 s.hi) := fun n => (LK.out n).2.2.2.2.2.2.2.2.2.2.2.2.2.2.2.2.2.1.2.1
        have fK18 : ∀ n : Wd K, n.w.cell? ⟨w.heap.size + 1 + 1 + 1 + 1 + 1, 0, none⟩ = some (.int .u32 (z0)) := fun n => (LK.out n).2.2.2.2.2.2.2.2.2.2.2.2.2.2.2.2.2.2.1.2.1
        have fK19 : ∀ n : Wd K, n.w.cell? ⟨w.heap.size + 1 + 1 + 1 + 1 + 1, 1, none⟩ = some (.int .u32 (z1)) := fun n => (LK.out n).2.2.2.2.2.2.2.2.2.2.2.2.2.2.2.2.2.2.2.1.2.1
        have fK20 : ∀ n : Wd K, n.w.cell? ⟨w.heap.size + 1 + 1 + 1 + 1, 0, none⟩ = some (.int .u32 (y0)) := fun n => (LK.out n).2.2.2.2.2.2.2.2.2.2.2.2.2.2.2.2.2.2.2.2.1.2.1
        have fK21 : ∀ n : Wd K, n.w.cell? ⟨w.heap.size + 1 + 1 + 1 + 1, 1, none⟩ = some (.int .u32 (y1)) := fun n => (LK.out n).2.2.2.2.2.2.2.2.2.2.2.2.2.2.2.2.2.2.2.2.2.1.2.1
        have fK22 : ∀ n : Wd K, n.w.cell? ⟨w.heap.size + 1 + 1 + 1, 0, none⟩ = some (.int .u32 (x0)) := fun n => (LK.out n).2.2.2.2.2.2.2.2.2.2.2.2.2.2.2.2.2.2.2.2.2.2.1.2.1
        have fK23 : ∀ n : Wd K, n.w.cell? ⟨w.heap.size + 1 + 1 + 1, 1, none⟩ = some (.int .u32 (x1)) := fun n => (LK.out n).2.2.2.2.2.2.2.2.2.2.2.2.2.2.2.2.2.2.2.2.2.2.2.1.2.1
        have fK24 : ∀ n : Wd K, n.w.cell? ⟨w.heap.size + 1 + 1, 0, none⟩ = some (.int .i64 c.x.lo) := fun n => (LK.out n).2.2.2.2.2.2.2.2.2.2.2.2.2.2.2.2.2.2.2.2.2.2.2.2.1.2.1
        have fK25 : ∀ n : Wd K, n.w.cell? ⟨w.heap.size + 1 + 1, 1, none⟩ = some (.int .i64 c.x.hi) := fun n => (LK.out n).2.2.2.2.2.2.2.2.2.2.2.2.2.2.2.2.2.2.2.2.2.2.2.2.2.1.2.1
        have fK26 : ∀ n : Wd K, n.w.cell? ⟨w.heap.size + 1 + 1, 2, none⟩ = some (.int .i64 c.y.lo) := fun n => (LK.out n).2.2.2.2.2.2.2.2.2.2.2.2.2.2.2.2.2.2.2.2.2.2.2.2.2.2.1.2.1
        have fK27 : ∀ n : Wd K, n.w.cell? ⟨w.heap.size + 1 + 1, 3, none⟩ = some (.int .i64 c.y.hi) := fun n => (LK.out n).2.2.2.2.2.2.2.2.2.2.2.2.2.2.2.2.2.2.2.2.2.2.2.2.2.2.2.1.2.1
        have fK28 : ∀ n : Wd K, n.w.cell? ⟨w.heap.size + 1, 0, none⟩ = some (.int .i64 b.x.lo) := fun n => (LK.out n).2.2.2.2.2.2.2.2.2.2.2.2.2.2.2.2.2.2.2.2.2.2.2.2.2.2.2.2.1.2.1
        have fK29 : ∀ n : Wd K, n.w.cell? ⟨w.heap.size + 1, 1, none⟩ = some (.int .i64 b.x.hi) := fun n => (LK.out n).2.2.2.2.2.2.2.2.2.2.2.2.2.2.2.2.2.2.2.2.2.2.2.2.2.2.2.2.2.1.2.1
        have fK30 : ∀ n : Wd K, n.w.cell? ⟨w.heap.size + 1, 2, none⟩ = some (.int .i64 b.y.lo) := fun n => (LK.out n).2.2.2.2.2.2.2.2.2.2.2.2.2.2.2.2.2.2.2.2.2.2.2.2.2.2.2.2.2.2.1.2.1
        have fK31 : ∀ n : Wd K, n.w.cell? ⟨w.heap.size + 1, 3, none⟩ = some (.int .i64 b.y.hi) := fun n => (LK.out n).2.2.2.2.2.2.2.2.2.2.2.2.2.2.2.2.2.2.2.2.2.2.2.2.2.2.2.2.2.2.2.1.2.1
        have fK32 : ∀ n : Wd K, n.w.cell? ⟨w.heap.size, 0, none⟩ = some (.int .i64 a.x.lo) := fun n => (LK.out n).2.2.2.2.2.2.2.2.2.2.2.2.2.2.2.2.2.2.2.2.2.2.2.2.2.2.2.2.2.2.2.2.1.2.1
        have fK33 : ∀ n : Wd K, n.w.cell? ⟨w.heap.size, 1, none⟩ = some (.int .i64 a.x.hi) := fun n => (LK.out n).2.2.2.2.2.2.2.2.2.2.2.2.2.2.2.2.2.2.2.2.2.2.2.2.2.2.2.2.2.2.2.2.2.1.2.1
        have fK34 : ∀ n : Wd K, n.w.cell? ⟨w.heap.size, 2, none⟩ = some (.int .i64 a.y.lo) := fun n => (LK.out n).2.2.2.2.2.2.2.2.2.2.2.2.2.2.2.2.2.2.2.2.2.2.2.2.2.2.2.2.2.2.2.2.2.2.1.2.1
        have fK35 : ∀ n : Wd K, n.w.cell? ⟨w.heap.size, 3, none⟩ = some (.int .i64 a.y.hi) := fun n => (LK.out n).2.2.2.2.2.2.2.2.2.2.2.2.2.2.2.2.2.2.2.2.2.2.2.2.2.2.2.2.2.2.2.2.2.2.2.1.2.1
        clear S0 hC0
        have F0 := cin HK BX
        go_wp2_with (first | (go_at_call 38; with_reducible refine (F0 _).out.mono ?_; rintro e w' ⟨rfl, n, rfl⟩))
        go_ret
        exact ⟨rfl, BK.out _⟩
      · obtain ⟨u1, u2, u3, u4, ⟨k1, k2⟩, k3, k4⟩ := HCS.out P R ho
        have E9' : ∀ n : Wd J, Hid (Calls Try.prog 51 #[a.v] n.w fun e w'' => e = .returned (.tuple #[P.v, R.v, .bool true]) ∧ ∃ m : Wd J, w'' = m.w) := E9
        obtain ⟨s1, hs1⟩ : ∃ s, sprd (cr P) (cr b) (cr c) = s := ⟨_, rfl⟩
        obtain ⟨s2, hs2⟩ : ∃ s, sprd (cr R) (cr b) (cr c) = s := ⟨_, rfl⟩
        obtain ⟨d1, hd1⟩ : ∃ s, dstB P b = s := ⟨_, rfl⟩
        obtain ⟨d2, hd2⟩ : ∃ s, dstB R b = s := ⟨_, rfl⟩
        simp only [hs1] at u1 k1 k2
        simp only [hs2] at u2 k1 k2
        simp only [hd1] at u3 k3 k4
        simp only [hd2] at u4 k3 k4
        have HKK := Lib.hid (And.intro (And.intro k1 k2) (And.intro k3 k4))
        clear hs1 hs2 hd1 hd2 ho k1 k2 k3 k4 HCS E9
        go_wp2_with (first | (go_at_call 51; with_reducible refine (E9' _).out.mono ?_; rintro e w' ⟨rfl, n, rfl⟩))
        obtain ⟨W0, hW0⟩ : ∃ W0, ((n.w).alloc (.cells #[.int .i64 P.x.lo, .int .i64 P.x.hi, .int .i64 P.y.lo, .int .i64 P.y.hi] 60)).alloc (.cells #[.int .i64 R.x.lo, .int .i64 R.x.hi, .int .i64 R.y.lo, .int .i64 R.y.hi] 60) = W0 := ⟨_, rfl⟩
        have S0 : St w W0 [(n.w.heap.size + 1, 0, .int .i64 R.x.lo), (n.w.heap.size + 1, 1, .int .i64 R.x.hi), (n.w.heap.size + 1, 2, .int .i64 R.y.lo), (n.w.heap.size + 1, 3, .int .i64 R.y.hi), (n.w.heap.size, 0, .int .i64 P.x.lo), (n.w.heap.size, 1, .int .i64 P.x.hi), (n.w.heap.size, 2, .int .i64 P.y.lo), (n.w.heap.size, 3, .int .i64 P.y.hi), (kJ, 0, .int .i64 r.x), (kJ, 1, .int .i64 r.y), (kG, 0, .int .i64 q.x), (kG, 1, .int .i64 q.y), (kF, 0, .int .i64 p.x), (kF, 1, .int .i64 p.y), (kE, 0, .int .i64 d.lo), (kE, 1, .int .i64 d.hi), (kD, 0, .int .i64 s.lo), (kD, 1, .int .i64 s.hi), (w.heap.size + 1 + 1 + 1 + 1 + 1, 0, .int .u32 (z0)), (w.heap.size + 1 + 1 + 1 + 1 + 1, 1, .int .u32 (z1)), (w.heap.size + 1 + 1 + 1 + 1, 0, .int .u32 (y0)), (w.heap.size + 1 + 1 + 1 + 1, 1, .int .u32 (y1)), (w.heap.size + 1 + 1 + 1, 0, .int .u32 (x0)), (w.heap.size + 1 + 1 + 1, 1, .int .u32 (x1)), (w.heap.size + 1 + 1, 0, .int .i64 c.x.lo), (w.heap.size + 1 + 1, 1, .int .i64 c.x.hi), (w.heap.size + 1 + 1, 2, .int .i64 c.y.lo), (w.heap.size + 1 + 1, 3, .int .i64 c.y.hi), (w.heap.size + 1, 0, .int .i64 b.x.lo), (w.heap.size + 1, 1, .int .i64 b.x.hi), (w.heap.size + 1, 2, .int .i64 b.y.lo), (w.heap.size + 1, 3, .int .i64 b.y.hi), (w.heap.size, 0, .int .i64 a.x.lo), (w.heap.size, 1, .int .i64 a.x.hi), (w.heap.size, 2, .int .i64 a.y.lo), (w.heap.size, 3, .int .i64 a.y.hi)] := by rw [← hW0]; exact (((⟨BJ.out n, LJ.out n⟩ : St w n.w _)).box #[.int .i64 P.x.lo, .int .i64 P.x.hi, .int .i64 P.y.lo, .int .i64 P.y.hi] 60 (n.w.heap.size) (by simp)).box #[.int .i64 R.x.lo, .int .i64 R.x.hi, .int .i64 R.y.lo, .int .i64 R.y.hi] 60 (n.w.heap.size + 1) (by simp)
        rw [hW0]
        clear hW0
        obtain ⟨kK, hkk⟩ : ∃ k, n.w.heap.size = k := ⟨_, rfl⟩
        have gkK : w.heap.size ≤ kK := by rw [← hkk]; exact (BJ.out n).size
        rw [hkk] at S0 ⊢
        clear hkk
        obtain ⟨K, hC0, HK, LK, BK, hne⟩ := cls S0
        haveI := hne
        obtain ⟨k0, rfl⟩ : ∃ n : Wd K, W0 = n.w := ⟨⟨_, hC0⟩, rfl⟩
        have fK0 : ∀ n : Wd K, n.w.cell? ⟨kK + 1, 0, none⟩ = some (.int .i64 R.x.lo) := fun n => (LK.out n).1.2.1
        have fK1 : ∀ n : Wd K, n.w.cell? ⟨kK + 1, 1, none⟩ = some (.int .i64 R.x.hi) := fun n => (LK.out n).2.1.2.1
        have fK2 : ∀ n : Wd K, n.w.cell? ⟨kK + 1, 2, none⟩ = some (.int .i64 R.y.lo) := fun n => (LK.out n).2.2.1.2.1
        have fK3 : ∀ n : Wd K, n.w.cell? ⟨kK + 1, 3, none⟩ = some (.int .i64 R.y.hi) := fun n => (LK.out n).2.2.2.1.2.1
        have fK4 : ∀ n : Wd K, n.w.cell? ⟨kK, 0, none⟩ = some (.int .i64 P.x.lo) := fun n => (LK.out n).2.2.2.2.1.2.1
        have fK5 : ∀ n : Wd K, n.w.cell? ⟨kK, 1, none⟩ = some (.int .i64 P.x.hi) := fun n => (LK.out n).2.2.2.2.2.1.2.1
        have fK6 : ∀ n : Wd K, n.w.cell? ⟨kK, 2, none⟩ = some (.int .i64 P.y.lo) := fun n => (LK.out n).2.2.2.2.2.2.1.2.1
        have fK7 : ∀ n : Wd K, n.w.cell? ⟨kK, 3, none⟩ = some (.int .i64 P.y.hi) := fun n => (LK.out n).2.2.2.2.2.2.2.1.2.1
        have fK8 : ∀ n : Wd K, n.w.cell? ⟨kJ, 0, none⟩ = some (.int .i64 r.x) := fun n => (LK.out n).2.2.2.2.2.2.2.2.1.2.1
        have fK9 : ∀ n : Wd K, n.w.cell? ⟨kJ, 1, none⟩ = some (.int .i64 r.y) := fun n => (LK.out n).2.2.2.2.2.2.2.2.2.1.2.1
        have fK10 : ∀ n : Wd K, n.w.cell? ⟨kG, 0, none⟩ = some (.int .i64 q.x) := fun n => (LK.out n).2.2.2.2.2.2.2.2.2.2.1.2.1
        have fK11 : ∀ n : Wd K, n.w.cell? ⟨kG, 1, none⟩ = some (.int .i64 q.y) := fun n => (LK.out n).2.2.2.2.2.2.2.2.2.2.2.1.2.1
        have fK12 : ∀ n : Wd K, n.w.cell? ⟨kF, 0, none⟩ = some (.int .i64 p.x) := fun n => (LK.out n).2.2.2.2.2.2.2.2.2.2.2.2.1.2.1
        have fK13 : ∀ n : Wd K, n.w.cell? ⟨kF, 1, none⟩ = some (.int .i64 p.y) := fun n => (LK.out n).2.2.2.2.2.2.2.2.2.2.2.2.2.1.2.1
        have fK14 : ∀ n : Wd K, n.w.cell? ⟨kE, 0, none⟩ = some (.int .i64 d.lo) := fun n => (LK.out n).2.2.2.2.2.2.2.2.2.2.2.2.2.2.1.2.1
        have fK15 : ∀ n : Wd K, n.w.cell? ⟨kE, 1, none⟩ = some (.int .i64 d.hi) := fun n => (LK.out n).2.2.2.2.2.2.2.2.2.2.2.2.2.2.2.1.2.1
        have fK16 : ∀ n : Wd K, n.w.cell? ⟨kD, 0, none⟩ = some (.int .i64 s.lo) := fun n => (LK.out n).2.2.2.2.2.2.2.2.2.2.2.2.2.2.2.2.1.2.1
        have fK17 : ∀ n : Wd K, n.w.cell? ⟨kD, 1, none⟩ = some (.int .i64 s.hi) := fun n => (LK.out n).2.2.2.2.2.2.2.2.2.2.2.2.2.2.2.2.2.1.2.1
        have fK18 : ∀ n : Wd K, n.w.cell? ⟨w.heap.size + 1 + 1 + 1 + 1 + 1, 0, none⟩ = some (.int .u32 (z0)) := fun n => (LK.out n).2.2.2.2.2.2.2.2.2.2.2.2.2.2.2.2.2.2.1.2.1
        have fK19 : ∀ n : Wd K, n.w.cell? ⟨w.heap.size + 1 + 1 + 1 + 1 + 1, 1, none⟩ = some (.int .u32 (z1)) := fun n => (LK.out n).2.2.2.2.2.2.2.2.2.2.2.2.2.2.2.2.2.2.2.1.2.1
        have fK20 : ∀ n : Wd K, n.w.cell? ⟨w.heap.size + 1 + 1 + 1 + 1, 0, none⟩ = some (.int .u32 (y0)) := fun n => (LK.out n).2.2.2.2.2.2.2.2.2.2.2.2.2.2.2.2.2.2.2.2.1.2.1
        have fK21 : ∀ n : Wd K, n.w.cell? ⟨w.heap.size + 1 + 1 + 1 + 1, 1, none⟩ = some (.int .u32 (y1)) := fun n => (LK.out n).2.2.2.2.2.2.2.2.2.2.2.2.2.2.2.2.2.2.2.2.2.1.2.1
        have fK22 : ∀ n : Wd K, n.w.cell? ⟨w.heap.size + 1 + 1 + 1, 0, none⟩ = some (.int .u32 (x0)) := fun n => (LK.out n).2.2.2.2.2.2.2.2.2.2.2.2.2.2.2.2.2.2.2.2.2.2.1.2.1
        have fK23 : ∀ n : Wd K, n.w.cell? ⟨w.heap.size + 1 + 1 + 1, 1, none⟩ = some (.int .u32 (x1)) := fun n => (LK.out n).2.2.2.2.2.2.2.2.2.2.2.2.2.2.2.2.2.2.2.2.2.2.2.1.2.1
        have fK24 : ∀ n : Wd K, n.w.cell? ⟨w.heap.size + 1 + 1, 0, none⟩ = some (.int .i64 c.x.lo) := fun n => (LK.out n).2.2.2.2.2.2.2.2.2.2.2.2.2.2.2.2.2.2.2.2.2.2.2.2.1.2.1
        have fK25 : ∀ n : Wd K, n.w.cell? ⟨w.heap.size + 1 + 1, 1, none⟩ = some (.int .i64 c.x.hi) := fun n => (LK.out n).2.2.2.2.2.2.2.2.2.2.2.2.2.2.2.2.2.2.2.2.2.2.2.2.2.1.2.1
        have fK26 : ∀ n : Wd K, n.w.cell? ⟨w.heap.size + 1 + 1, 2, none⟩ = some (.int .i64 c.y.lo) := fun n => (LK.out n).2.2.2.2.2.2.2.2.2.2.2.2.2.2.2.2.2.2.2.2.2.2.2.2.2.2.1.2.1
        have fK27 : ∀ n : Wd K, n.w.cell? ⟨w.heap.size + 1 + 1, 3, none⟩ = some (.int .i64 c.y.hi) := fun n => (LK.out n).2.2.2.2.2.2.2.2.2.2.2.2.2.2.2.2.2.2.2.2.2.2.2.2.2.2.2.1.2.1
        have fK28 : ∀ n : Wd K, n.w.cell? ⟨w.heap.size + 1, 0, none⟩ = some (.int .i64 b.x.lo) := fun n => (LK.out n).2.2.2.2.2.2.2.2.2.2.2.2.2.2.2.2.2.2.2.2.2.2.2.2.2.2.2.2.1.2.1
        have fK29 : ∀ n : Wd K, n.w.cell? ⟨w.heap.size + 1, 1, none⟩ = some (.int .i64 b.x.hi) := fun n => (LK.out n).2.2.2.2.2.2.2.2.2.2.2.2.2.2.2.2.2.2.2.2.2.2.2.2.2.2.2.2.2.1.2.1
        have fK30 : ∀ n : Wd K, n.w.cell? ⟨w.heap.size + 1, 2, none⟩ = some (.int .i64 b.y.lo) := fun n => (LK.out n).2.2.2.2.2.2.2.2.2.2.2.2.2.2.2.2.2.2.2.2.2.2.2.2.2.2.2.2.2.2.1.2.1
        have fK31 : ∀ n : Wd K, n.w.cell? ⟨w.heap.size + 1, 3, none⟩ = some (.int .i64 b.y.hi) := fun n => (LK.out n).2.2.2.2.2.2.2.2.2.2.2.2.2.2.2.2.2.2.2.2.2.2.2.2.2.2.2.2.2.2.2.1.2.1
        have fK32 : ∀ n : Wd K, n.w.cell? ⟨w.heap.size, 0, none⟩ = some (.int .i64 a.x.lo) := fun n => (LK.out n).2.2.2.2.2.2.2.2.2.2.2.2.2.2.2.2.2.2.2.2.2.2.2.2.2.2.2.2.2.2.2.2.1.2.1
        have fK33 : ∀ n : Wd K, n.w.cell? ⟨w.heap.size, 1, none⟩ = some (.int .i64 a.x.hi) := fun n => (LK.out n).2.2.2.2.2.2.2.2.2.2.2.2.2.2.2.2.2.2.2.2.2.2.2.2.2.2.2.2.2.2.2.2.2.1.2.1
        have fK34 : ∀ n : Wd K, n.w.cell? ⟨w.heap.size, 2, none⟩ = some (.int .i64 a.y.lo) := fun n => (LK.out n).2.2.2.2.2.2.2.2.2.2.2.2.2.2.2.2.2.2.2.2.2.2.2.2.2.2.2.2.2.2.2.2.2.2.1.2.1
        have fK35 : ∀ n : Wd K, n.w.cell? ⟨w.heap.size, 3, none⟩ = some (.int .i64 a.y.hi) := fun n => (LK.out n).2.2.2.2.2.2.2.2.2.2.2.2.2.2.2.2.2.2.2.2.2.2.2.2.2.2.2.2.2.2.2.2.2.2.2.1.2.1
        clear S0 hC0
        have F1 := cin HK u1
        clear E9' E0 u1 HJ LJ BJ
        go_wp2_with (first | (go_at_call 59; with_reducible refine (F1 _).out.mono ?_; rintro e w' ⟨rfl, n, rfl⟩))
        obtain ⟨W0, hW0⟩ : ∃ W0, (n.w).alloc (.cells #[.int .i64 s1.lo, .int .i64 s1.hi] 58) = W0 := ⟨_, rfl⟩
        have S0 : St w W0 [(n.w.heap.size, 0, .int .i64 s1.lo), (n.w.heap.size, 1, .int .i64 s1.hi), (kK + 1, 0, .int .i64 R.x.lo), (kK + 1, 1, .int .i64 R.x.hi), (kK + 1, 2, .int .i64 R.y.lo), (kK + 1, 3, .int .i64 R.y.hi), (kK, 0, .int .i64 P.x.lo), (kK, 1, .int .i64 P.x.hi), (kK, 2, .int .i64 P.y.lo), (kK, 3, .int .i64 P.y.hi), (kJ, 0, .int .i64 r.x), (kJ, 1, .int .i64 r.y), (kG, 0, .int .i64 q.x), (kG, 1, .int .i64 q.y), (kF, 0, .int .i64 p.x), (kF, 1, .int .i64 p.y), (kE, 0, .int .i64 d.lo), (kE, 1, .int .i64 d.hi), (kD, 0, .int .i64 s.lo), (kD, 1, .int .i64 s.hi), (w.heap.size + 1 + 1 + 1 + 1 + 1, 0, .int .u32 (z0)), (w.heap.size + 1 + 1 + 1 + 1 + 1, 1, .int .u32 (z1)), (w.heap.size + 1 + 1 + 1 + 1, 0, .int .u32 (y0)), (w.heap.size + 1 + 1 + 1 + 1, 1, .int .u32 (y1)), (w.heap.size + 1 + 1 + 1, 0, .int .u32 (x0)), (w.heap.size + 1 + 1 + 1, 1, .int .u32 (x1)), (w.heap.size + 1 + 1, 0, .int .i64 c.x.lo), (w.heap.size + 1 + 1, 1, .int .i64 c.x.hi), (w.heap.size + 1 + 1, 2, .int .i64 c.y.lo), (w.heap.size + 1 + 1, 3, .int .i64 c.y.hi), (w.heap.size + 1, 0, .int .i64 b.x.lo), (w.heap.size + 1, 1, .int .i64 b.x.hi), (w.heap.size + 1, 2, .int .i64 b.y.lo), (w.heap.size + 1, 3, .int .i64 b.y.hi), (w.heap.size, 0, .int .i64 a.x.lo), (w.heap.size, 1, .int .i64 a.x.hi), (w.heap.size, 2, .int .i64 a.y.lo), (w.heap.size, 3, .int .i64 a.y.hi)] := by rw [← hW0]; exact ((⟨BK.out n, LK.out n⟩ : St w n.w _)).box #[.int .i64 s1.lo, .int .i64 s1.hi] 58 (n.w.heap.size) (by simp)
        rw [hW0]
        clear hW0
        obtain ⟨kL, hkk⟩ : ∃ k, n.w.heap.size = k := ⟨_, rfl⟩
        have gkL : w.heap.size ≤ kL := by rw [← hkk]; exact (BK.out n).size
        rw [hkk] at S0 ⊢
        clear hkk
        obtain ⟨L, hC0, HL, LL, BL, hne⟩ := cls S0
        haveI := hne
        obtain ⟨l0, rfl⟩ : ∃ n : Wd L, W0 = n.w := ⟨⟨_, hC0⟩, rfl⟩
        have fL0 : ∀ n : Wd L, n.w.cell? ⟨kL, 0, none⟩ = some (.int .i64 s1.lo) := fun n => (LL.out n).1.2.1
        have fL1 : ∀ n : Wd L, n.w.cell? ⟨kL, 1, none⟩ = some (.int .i64 s1.hi) := fun n => (LL.out n).2.1.2.1
        have fL2 : ∀ n : Wd L, n.w.cell? ⟨kK + 1, 0, none⟩ = some (.int .i64 R.x.lo) := fun n => (LL.out n).2.2.1.2.1
        have fL3 : ∀ n : Wd L, n.w.cell? ⟨kK + 1, 1, none⟩ = some (.int .i64 R.x.hi) := fun n => (LL.out n).2.2.2.1.2.1
        have fL4 : ∀ n : Wd L, n.w.cell? ⟨kK + 1, 2, none⟩ = some (.int .i64 R.y.lo) := fun n => (LL.out n).2.2.2.2.1.2.1
        have fL5 : ∀ n : Wd L, n.w.cell? ⟨kK + 1, 3, none⟩ = some (.int .i64 R.y.hi) := fun n => (LL.out n).2.2.2.2.2.1.2.1
        have fL6 : ∀ n : Wd L, n.w.cell? ⟨kK, 0, none⟩ = some (.int .i64 P.x.lo) := fun n => (LL.out n).2.2.2.2.2.2.1.2.1
        have fL7 : ∀ n : Wd L, n.w.cell? ⟨kK, 1, none⟩ = some (.int .i64 P.x.hi) := fun n => (LL.out n).2.2.2.2.2.2.2.1.2.1
        have fL8 : ∀ n : Wd L, n.w.cell? ⟨kK, 2, none⟩ = some (.int .i64 P.y.lo) := fun n => (LL.out n).2.2.2.2.2.2.2.2.1.2.1
        have fL9 : ∀ n : Wd L, n.w.cell? ⟨kK, 3, none⟩ = some (.int .i64 P.y.hi) := fun n => (LL.out n).2.2.2.2.2.2.2.2.2.1.2.1
        have fL10 : ∀ n : Wd L, n.w.cell? ⟨kJ, 0, none⟩ = some (.int .i64 r.x) := fun n => (LL.out n).2.2.2.2.2.2.2.2.2.2.1.2.1
        have fL11 : ∀ n : Wd L, n.w.cell? ⟨kJ, 1, none⟩ = some (.int .i64 r.y) := fun n => (LL.out n).2.2.2.2.2.2.2.2.2.2.2.1.2.1
        have fL12 : ∀ n : Wd L, n.w.cell? ⟨kG, 0, none⟩ = some (.int .i64 q.x) := fun n => (LL.out n).2.2.2.2.2.2.2.2.2.2.2.2.1.2.1
        have fL13 : ∀ n : Wd L, n.w.cell? ⟨kG, 1, none⟩ = some (.int .i64 q.y) := fun n => (LL.out n).2.2.2.2.2.2.2.2.2.2.2.2.2.1.2.1
        have fL14 : ∀ n : Wd L, n.w.cell? ⟨kF, 0, none⟩ = some (.int .i64 p.x) := fun n => (LL.out n).2.2.2.2.2.2.2.2.2.2.2.2.2.2.1.2.1
        have fL15 : ∀ n : Wd L, n.w.cell? ⟨kF, 1, none⟩ = some (.int .i64 p.y) := fun n => (LL.out n).2.2.2.2.2.2.2.2.2.2.2.2.2.2.2.1.2.1
        have fL16 : ∀ n : Wd L, n.w.cell? ⟨kE, 0, none⟩ = some (.int .i64 d.lo) := fun n => (LL.out n).2.2.2.2.2.2.2.2.2.2.2.2.2.2.2.2.1.2.1
        have fL17 : ∀ n : Wd L, n.w.cell? ⟨kE, 1, none⟩ = some (.int .i64 d.hi) := fun n => (LL.out n).2.2.2.2.2.2.2.2.2.2.2.2.2.2.2.2.2.1.2.1
        have fL18 : ∀ n : Wd L, n.w.cell? ⟨kD, 0, none⟩ = some (.int .i64 s.lo) := fun n => (LL.out n).2.2.2.2.2.2.2.2.2.2.2.2.2.2.2.2.2.2.1.2.1
        have fL19 : ∀ n : Wd L, n.w.cell? ⟨kD, 1, none⟩ = some (.int .i64 s.hi) := fun n => (LL.out n).2.2.2.2.2.2.2.2.2.2.2.2.2.2.2.2.2.2.2.1.2.1
        have fL20 : ∀ n : Wd L, n.w.cell? ⟨w.heap.size + 1 + 1 + 1 + 1 + 1, 0, none⟩ = some (.int .u32 (z0)) := fun n => (LL.out n).2.2.2.2.2.2.2.2.2.2.2.2.2.2.2.2.2.2.2.2.1.2.1
        have fL21 : ∀ n : Wd L, n.w.cell? ⟨w.heap.size + 1 + 1 + 1 + 1 + 1, 1, none⟩ = some (.int .u32 (z1)) := fun n => (LL.out n).2.2.2.2.2.2.2.2.2.2.2.2.2.2.2.2.2.2.2.2.2.1.2.1
        have fL22 : ∀ n : Wd L, n.w.cell? ⟨w.heap.size + 1 + 1 + 1 + 1, 0, none⟩ = some (.int .u32 (y0)) := fun n => (LL.out n).2.2.2.2.2.2.2.2.2.2.2.2.2.2.2.2.2.2.2.2.2.2.1.2.1
        have fL23 : ∀ n : Wd L, n.w.cell? ⟨w.heap.size + 1 + 1 + 1 + 1, 1, none⟩ = some (.int .u32 (y1)) := fun n => (LL.out n).2.2.2.2.2.2.2.2.2.2.2.2.2.2.2.2.2.2.2.2.2.2.2.1.2.1
        have fL24 : ∀ n : Wd L, n.w.cell? ⟨w.heap.size + 1 + 1 + 1, 0, none⟩ = some (.int .u32 (x0)) := fun n => (LL.out n).2.2.2.2.2.2.2.2.2.2.2.2.2.2.2.2.2.2.2.2.2.2.2.2.1.2.1
        have fL25 : ∀ n : Wd L, n.w.cell? ⟨w.heap.size + 1 + 1 + 1, 1, none⟩ = some (.int .u32 (x1)) := fun n => (LL.out n).2.2.2.2.2.2.2.2.2.2.2.2.2.2.2.2.2.2.2.2.2.2.2.2.2.1.2.1
        have fL26 : ∀ n : Wd L, n.w.cell? ⟨w.heap.size + 1 + 1, 0, none⟩ = some (.int .i64 c.x.lo) := fun n => (LL.out n).2.2.2.2.2.2.2.2.2.2.2.2.2.2.2.2.2.2.2.2.2.2.2.2.2.2.1.2.1
        have fL27 : ∀ n : Wd L, n.w.cell? ⟨w.heap.size + 1 + 1, 1, none⟩ = some (.int .i64 c.x.hi) := fun n => (LL.out n).2.2.2.2.2.2.2.2.2.2.2.2.2.2.2.2.2.2.2.2.2.2.2.2.2.2.2.1.2.1
        have fL28 : ∀ n : Wd L, n.w.cell? ⟨w.heap.size + 1 + 1, 2, none⟩ = some (.int .i64 c.y.lo) := fun n => (LL.out n).2.2.2.2.2.2.2.2.2.2.2.2.2.2.2.2.2.2.2.2.2.2.2.2.2.2.2.2.1.2.1
        have fL29 : ∀ n : Wd L, n.w.cell? ⟨w.heap.size + 1 + 1, 3, none⟩ = some (.int .i64 c.y.hi) := fun n => (LL.out n).2.2.2.2.2.2.2.2.2.2.2.2.2.2.2.2.2.2.2.2.2.2.2.2.2.2.2.2.2.1.2.1
        have fL30 : ∀ n : Wd L, n.w.cell? ⟨w.heap.size + 1, 0, none⟩ = some (.int .i64 b.x.lo) := fun n => (LL.out n).2.2.2.2.2.2.2.2.2.2.2.2.2.2.2.2.2.2.2.2.2.2.2.2.2.2.2.2.2.2.1.2.1
        have fL31 : ∀ n : Wd L, n.w.cell? ⟨w.heap.size + 1, 1, none⟩ = some (.int .i64 b.x.hi) := fun n => (LL.out n).2.2.2.2.2.2.2.2.2.2.2.2.2.2.2.2.2.2.2.2.2.2.2.2.2.2.2.2.2.2.2.1.2.1
        have fL32 : ∀ n : Wd L, n.w.cell? ⟨w.heap.size + 1, 2, none⟩ = some (.int .i64 b.y.lo) := fun n => (LL.out n).2.2.2.2.2.2.2.2.2.2.2.2.2.2.2.2.2.2.2.2.2.2.2.2.2.2.2.2.2.2.2.2.1.2.1
        have fL33 : ∀ n : Wd L, n.w.cell? ⟨w.heap.size + 1, 3, none⟩ = some (.int .i64 b.y.hi) := fun n => (LL.out n).2.2.2.2.2.2.2.2.2.2.2.2.2.2.2.2.2.2.2.2.2.2.2.2.2.2.2.2.2.2.2.2.2.1.2.1
        have fL34 : ∀ n : Wd L, n.w.cell? ⟨w.heap.size, 0, none⟩ = some (.int .i64 a.x.lo) := fun n => (LL.out n).2.2.2.2.2.2.2.2.2.2.2.2.2.2.2.2.2.2.2.2.2.2.2.2.2.2.2.2.2.2.2.2.2.2.1.2.1
        have fL35 : ∀ n : Wd L, n.w.cell? ⟨w.heap.size, 1, none⟩ = some (.int .i64 a.x.hi) := fun n => (LL.out n).2.2.2.2.2.2.2.2.2.2.2.2.2.2.2.2.2.2.2.2.2.2.2.2.2.2.2.2.2.2.2.2.2.2.2.1.2.1
        have fL36 : ∀ n : Wd L, n.w.cell? ⟨w.heap.size, 2, none⟩ = some (.int .i64 a.y.lo) := fun n => (LL.out n).2.2.2.2.2.2.2.2.2.2.2.2.2.2.2.2.2.2.2.2.2.2.2.2.2.2.2.2.2.2.2.2.2.2.2.2.1.2.1
        have fL37 : ∀ n : Wd L, n.w.cell? ⟨w.heap.size, 3, none⟩ = some (.int .i64 a.y.hi) := fun n => (LL.out n).2.2.2.2.2.2.2.2.2.2.2.2.2.2.2.2.2.2.2.2.2.2.2.2.2.2.2.2.2.2.2.2.2.2.2.2.2.1.2.1
        clear S0 hC0
        have F2 := cin HL u2
        clear F1 u2 HK LK BK
        go_wp2_with (first | (go_at_call 59; with_reducible refine (F2 _).out.mono ?_; rintro e w' ⟨rfl, n, rfl⟩))
        obtain ⟨W0, hW0⟩ : ∃ W0, (n.w).alloc (.cells #[.int .i64 s2.lo, .int .i64 s2.hi] 58) = W0 := ⟨_, rfl⟩
        have S0 : St w W0 [(n.w.heap.size, 0, .int .i64 s2.lo), (n.w.heap.size, 1, .int .i64 s2.hi), (kL, 0, .int .i64 s1.lo), (kL, 1, .int .i64 s1.hi), (kK + 1, 0, .int .i64 R.x.lo), (kK + 1, 1, .int .i64 R.x.hi), (kK + 1, 2, .int .i64 R.y.lo), (kK + 1, 3, .int .i64 R.y.hi), (kK, 0, .int .i64 P.x.lo), (kK, 1, .int .i64 P.x.hi), (kK, 2, .int .i64 P.y.lo), (kK, 3, .int .i64 P.y.hi), (kJ, 0, .int .i64 r.x), (kJ, 1, .int .i64 r.y), (kG, 0, .int .i64 q.x), (kG, 1, .int .i64 q.y), (kF, 0, .int .i64 p.x), (kF, 1, .int .i64 p.y), (kE, 0, .int .i64 d.lo), (kE, 1, .int .i64 d.hi), (kD, 0, .int .i64 s.lo), (kD, 1, .int .i64 s.hi), (w.heap.size + 1 + 1 + 1 + 1 + 1, 0, .int .u32 (z0)), (w.heap.size + 1 + 1 + 1 + 1 + 1, 1, .int .u32 (z1)), (w.heap.size + 1 + 1 + 1 + 1, 0, .int .u32 (y0)), (w.heap.size + 1 + 1 + 1 + 1, 1, .int .u32 (y1)), (w.heap.size + 1 + 1 + 1, 0, .int .u32 (x0)), (w.heap.size + 1 + 1 + 1, 1, .int .u32 (x1)), (w.heap.size + 1 + 1, 0, .int .i64 c.x.lo), (w.heap.size + 1 + 1, 1, .int .i64 c.x.hi), (w.heap.size + 1 + 1, 2, .int .i64 c.y.lo), (w.heap.size + 1 + 1, 3, .int .i64 c.y.hi), (w.heap.size + 1, 0, .int .i64 b.x.lo), (w.heap.size + 1, 1, .int .i64 b.x.hi), (w.heap.size + 1, 2, .int .i64 b.y.lo), (w.heap.size + 1, 3, .int .i64 b.y.hi), (w.heap.size, 0, .int .i64 a.x.lo), (w.heap.size, 1, .int .i64 a.x.hi), (w.heap.size, 2, .int .i64 a.y.lo), (w.heap.size, 3, .int .i64 a.y.hi)] := by rw [← hW0]; exact ((⟨BL.out n, LL.out n⟩ : St w n.w _)).box #[.int .i64 s2.lo, .int .i64 s2.hi] 58 (n.w.heap.size) (by simp)
        rw [hW0]
        clear hW0
        obtain ⟨kM, hkk⟩ : ∃ k, n.w.heap.size = k := ⟨_, rfl⟩
        have gkM : w.heap.size ≤ kM := by rw [← hkk]; exact (BL.out n).size
        rw [hkk] at S0 ⊢
        clear hkk
        obtain ⟨M, hC0, HM, LM, BM, hne⟩ := cls S0
        haveI := hne
        obtain ⟨m0, rfl⟩ : ∃ n : Wd M, W0 = n.w := ⟨⟨_, hC0⟩, rfl⟩
        have fM0 : ∀ n : Wd M, n.w.cell? ⟨kM, 0, none⟩ = some (.int .i64 s2.lo) := fun n => (LM.out n).1.2.1
        have fM1 : ∀ n : Wd M, n.w.cell? ⟨kM, 1, none⟩ = some (.int .i64 s2.hi) := fun n => (LM.out n).2.1.2.1
        have fM2 : ∀ n : Wd M, n.w.cell? ⟨kL, 0, none⟩ = some (.int .i64 s1.lo) := fun n => (LM.out n).2.2.1.2.1
        have fM3 : ∀ n : Wd M, n.w.cell? ⟨kL, 1, none⟩ = some (.int .i64 s1.hi) := fun n => (LM.out n).2.2.2.1.2.1
        have fM4 : ∀ n : Wd M, n.w.cell? ⟨kK + 1, 0, none⟩ = some (.int .i64 R.x.lo) := fun n => (LM.out n).2.2.2.2.1.2.1
        have fM5 : ∀ n : Wd M, n.w.cell? ⟨kK + 1, 1, none⟩ = some (.int .i64 R.x.hi) := fun n => (LM.out n).2.2.2.2.2.1.2.1
        have fM6 : ∀ n : Wd M, n.w.cell? ⟨kK + 1, 2, none⟩ = some (.int .i64 R.y.lo) := fun n => (LM.out n).2.2.2.2.2.2.1.2.1
        have fM7 : ∀ n : Wd M, n.w.cell? ⟨kK + 1, 3, none⟩ = some (.int .i64 R.y.hi) := fun n => (LM.out n).2.2.2.2.2.2.2.1.2.1
        have fM8 : ∀ n : Wd M, n.w.cell? ⟨kK, 0, none⟩ = some (.int .i64 P.x.lo) := fun n => (LM.out n).2.2.2.2.2.2.2.2.1.2.1
        have fM9 : ∀ n : Wd M, n.w.cell? ⟨kK, 1, none⟩ = some (.int .i64 P.x.hi) := fun n => (LM.out n).2.2.2.2.2.2.2.2.2.1.2.1
        have fM10 : ∀ n : Wd M, n.w.cell? ⟨kK, 2, none⟩ = some (.int .i64 P.y.lo) := fun n => (LM.out n).2.2.2.2.2.2.2.2.2.2.1.2.1
        have fM11 : ∀ n : Wd M, n.w.cell? ⟨kK, 3, none⟩ = some (.int .i64 P.y.hi) := fun n => (LM.out n).2.2.2.2.2.2.2.2.2.2.2.1.2.1
        have fM12 : ∀ n : Wd M, n.w.cell? ⟨kJ, 0, none⟩ = some (.int .i64 r.x) := fun n => (LM.out n).2.2.2.2.2.2.2.2.2.2.2.2.1.2.1
        have fM13 : ∀ n : Wd M, n.w.cell? ⟨kJ, 1, none⟩ = some (.int .i64 r.y) := fun n => (LM.out n).2.2.2.2.2.2.2.2.2.2.2.2.2.1.2.1
        have fM14 : ∀ n : Wd M, n.w.cell? ⟨kG, 0, none⟩ = some (.int .i64 q.x) := fun n => (LM.out n).2.2.2.2.2.2.2.2.2.2.2.2.2.2.1.2.1
        have fM15 : ∀ n : Wd M, n.w.cell? ⟨kG, 1, none⟩ = some (.int .i64 q.y) := fun n => (LM.out n).2.2.2.2.2.2.2.2.2.2.2.2.2.2.2.1.2.1
        have fM16 : ∀ n : Wd M, n.w.cell? ⟨kF, 0, none⟩ = some (.int .i64 p.x) := fun n => (LM.out n).2.2.2.2.2.2.2.2.2.2.2.2.2.2.2.2.1.2.1
        have fM17 : ∀ n : Wd M, n.w.cell? ⟨kF, 1, none⟩ = some (.int .i64 p.y) := fun n => (LM.out n).2.2.2.2.2.2.2.2.2.2.2.2.2.2.2.2.2.1.2.1
        have fM18 : ∀ n : Wd M, n.w.cell? ⟨kE, 0, none⟩ = some (.int .i64 d.lo) := fun n => (LM.out n).2.2.2.2.2.2.2.2.2.2.2.2.2.2.2.2.2.2.1.2.1
        have fM19 : ∀ n : Wd M, n.w.cell? ⟨kE, 1, none⟩ = some (.int .i64 d.hi) := fun n => (LM.out n).2.2.2.2.2.2.2.2.2.2.2.2.2.2.2.2.2.2.2.1.2.1
        have fM20 : ∀ n : Wd M, n.w.cell? ⟨kD, 0, none⟩ = some (.int .i64 s.lo) := fun n => (LM.out n).2.2.2.2.2.2.2.2.2.2.2.2.2.2.2.2.2.2.2.2.1.2.1
        have fM21 : ∀ n : Wd M, n.w.cell? ⟨kD, 1, none⟩ = some (.int .i64 s.hi) := fun n => (LM.out n).2.2.2.2.2.2.2.2.2.2.2.2.2.2.2.2.2.2.2.2.2.1.2.1
        have fM22 : ∀ n : Wd M, n.w.cell? ⟨w.heap.size + 1 + 1 + 1 + 1 + 1, 0, none⟩ = some (.int .u32 (z0)) := fun n => (LM.out n).2.2.2.2.2.2.2.2.2.2.2.2.2.2.2.2.2.2.2.2.2.2.1.2.1
        have fM23 : ∀ n : Wd M, n.w.cell? ⟨w.heap.size + 1 + 1 + 1 + 1 + 1, 1, none⟩ = some (.int .u32 (z1)) := fun n => (LM.out n).2.2.2.2.2.2.2.2.2.2.2.2.2.2.2.2.2.2.2.2.2.2.2.1.2.1
        have fM24 : ∀ n : Wd M, n.w.cell? ⟨w.heap.size + 1 + 1 + 1 + 1, 0, none⟩ = some (.int .u32 (y0)) := fun n => (LM.out n).2.2.2.2.2.2.2.2.2.2.2.2.2.2.2.2.2.2.2.2.2.2.2.2.1.2.1
        have fM25 : ∀ n : Wd M, n.w.cell? ⟨w.heap.size + 1 + 1 + 1 + 1, 1, none⟩ = some (.int .u32 (y1)) := fun n => (LM.out n).2.2.2.2.2.2.2.2.2.2.2.2.2.2.2.2.2.2.2.2.2.2.2.2.2.1.2.1
        have fM26 : ∀ n : Wd M, n.w.cell? ⟨w.heap.size + 1 + 1 + 1, 0, none⟩ = some (.int .u32 (x0)) := fun n => (LM.out n).2.2.2.2.2.2.2.2.2.2.2.2.2.2.2.2.2.2.2.2.2.2.2.2.2.2.1.2.1
        have fM27 : ∀ n : Wd M, n.w.cell? ⟨w.heap.size + 1 + 1 + 1, 1, none⟩ = some (.int .u32 (x1)) := fun n => (LM.out n).2.2.2.2.2.2.2.2.2.2.2.2.2.2.2.2.2.2.2.2.2.2.2.2.2.2.2.1.2.1
        have fM28 : ∀ n : Wd M, n.w.cell? ⟨w.heap.size + 1 + 1, 0, none⟩ = some (.int .i64 c.x.lo) := fun n => (LM.out n).2.2.2.2.2.2.2.2.2.2.2.2.2.2.2.2.2.2.2.2.2.2.2.2.2.2.2.2.1.2.1
        have fM29 : ∀ n : Wd M, n.w.cell? ⟨w.heap.size + 1 + 1, 1, none⟩ = some (.int .i64 c.x.hi) := fun n => (LM.out n).2.2.2.2.2.2.2.2.2.2.2.2.2.2.2.2.2.2.2.2.2.2.2.2.2.2.2.2.2.1.2.1
        have fM30 : ∀ n : Wd M, n.w.cell? ⟨w.heap.size + 1 + 1, 2, none⟩ = some (.int .i64 c.y.lo) := fun n => (LM.out n).2.2.2.2.2.2.2.2.2.2.2.2.2.2.2.2.2.2.2.2.2.2.2.2.2.2.2.2.2.2.1.2.1
        have fM31 : ∀ n : Wd M, n.w.cell? ⟨w.heap.size + 1 + 1, 3, none⟩ = some (.int .i64 c.y.hi) := fun n => (LM.out n).2.2.2.2.2.2.2.2.2.2.2.2.2.2.2.2.2.2.2.2.2.2.2.2.2.2.2.2.2.2.2.1.2.1
        have fM32 : ∀ n : Wd M, n.w.cell? ⟨w.heap.size + 1, 0, none⟩ = some (.int .i64 b.x.lo) := fun n => (LM.out n).2.2.2.2.2.2.2.2.2.2.2.2.2.2.2.2.2.2.2.2.2.2.2.2.2.2.2.2.2.2.2.2.1.2.1
        have fM33 : ∀ n : Wd M, n.w.cell? ⟨w.heap.size + 1, 1, none⟩ = some (.int .i64 b.x.hi) := fun n => (LM.out n).2.2.2.2.2.2.2.2.2.2.2.2.2.2.2.2.2.2.2.2.2.2.2.2.2.2.2.2.2.2.2.2.2.1.2.1
        have fM34 : ∀ n : Wd M, n.w.cell? ⟨w.heap.size + 1, 2, none⟩ = some (.int .i64 b.y.lo) := fun n => (LM.out n).2.2.2.2.2.2.2.2.2.2.2.2.2.2.2.2.2.2.2.2.2.2.2.2.2.2.2.2.2.2.2.2.2.2.1.2.1
        have fM35 : ∀ n : Wd M, n.w.cell? ⟨w.heap.size + 1, 3, none⟩ = some (.int .i64 b.y.hi) := fun n => (LM.out n).2.2.2.2.2.2.2.2.2.2.2.2.2.2.2.2.2.2.2.2.2.2.2.2.2.2.2.2.2.2.2.2.2.2.2.1.2.1
        have fM36 : ∀ n : Wd M, n.w.cell? ⟨w.heap.size, 0, none⟩ = some (.int .i64 a.x.lo) := fun n => (LM.out n).2.2.2.2.2.2.2.2.2.2.2.2.2.2.2.2.2.2.2.2.2.2.2.2.2.2.2.2.2.2.2.2.2.2.2.2.1.2.1
        have fM37 : ∀ n : Wd M, n.w.cell? ⟨w.heap.size, 1, none⟩ = some (.int .i64 a.x.hi) := fun n => (LM.out n).2.2.2.2.2.2.2.2.2.2.2.2.2.2.2.2.2.2.2.2.2.2.2.2.2.2.2.2.2.2.2.2.2.2.2.2.2.1.2.1
        have fM38 : ∀ n : Wd M, n.w.cell? ⟨w.heap.size, 2, none⟩ = some (.int .i64 a.y.lo) := fun n => (LM.out n).2.2.2.2.2.2.2.2.2.2.2.2.2.2.2.2.2.2.2.2.2.2.2.2.2.2.2.2.2.2.2.2.2.2.2.2.2.2.1.2.1
        have fM39 : ∀ n : Wd M, n.w.cell? ⟨w.heap.size, 3, none⟩ = some (.int .i64 a.y.hi) := fun n => (LM.out n).2.2.2.2.2.2.2.2.2.2.2.2.2.2.2.2.2.2.2.2.2.2.2.2.2.2.2.2.2.2.2.2.2.2.2.2.2.2.2.1.2.1
        clear S0 hC0
        have F3 := cin HM u3
        clear F2 u3 HL LL BL
        go_wp2_with (first | (go_at_call 61; with_reducible refine (F3 _).out.mono ?_; rintro e w' ⟨rfl, n, rfl⟩))
        obtain ⟨W0, hW0⟩ : ∃ W0, (n.w).alloc (.cells #[.int .i64 d1.lo, .int .i64 d1.hi] 58) = W0 := ⟨_, rfl⟩
        have S0 : St w W0 [(n.w.heap.size, 0, .int .i64 d1.lo), (n.w.heap.size, 1, .int .i64 d1.hi), (kM, 0, .int .i64 s2.lo), (kM, 1, .int .i64 s2.hi), (kL, 0, .int .i64 s1.lo), (kL, 1, .int .i64 s1.hi), (kK + 1, 0, .int .i64 R.x.lo), (kK + 1, 1, .int .i64 R.x.hi), (kK + 1, 2, .int .i64 R.y.lo), (kK + 1, 3, .int .i64 R.y.hi), (kK, 0, .int .i64 P.x.lo), (kK, 1, .int .i64 P.x.hi), (kK, 2, .int .i64 P.y.lo), (kK, 3, .int .i64 P.y.hi), (kJ, 0, .int .i64 r.x), (kJ, 1, .int .i64 r.y), (kG, 0, .int .i64 q.x), (kG, 1, .int .i64 q.y), (kF, 0, .int .i64 p.x), (kF, 1, .int .i64 p.y), (kE, 0, .int .i64 d.lo), (kE, 1, .int .i64 d.hi), (kD, 0, .int .i64 s.lo), (kD, 1, .int .i64 s.hi), (w.heap.size + 1 + 1 + 1 + 1 + 1, 0, .int .u32 (z0)), (w.heap.size + 1 + 1 + 1 + 1 + 1, 1, .int .u32 (z1)), (w.heap.size + 1 + 1 + 1 + 1, 0, .int .u32 (y0)), (w.heap.size + 1 + 1 + 1 + 1, 1, .int .u32 (y1)), (w.heap.size + 1 + 1 + 1, 0, .int .u32 (x0)), (w.heap.size + 1 + 1 + 1, 1, .int .u32 (x1)), (w.heap.size + 1 + 1, 0, .int .i64 c.x.lo), (w.heap.size + 1 + 1, 1, .int .i64 c.x.hi), (w.heap.size + 1 + 1, 2, .int .i64 c.y.lo), (w.heap.size + 1 + 1, 3, .int .i64 c.y.hi), (w.heap.size + 1, 0, .int .i64 b.x.lo), (w.heap.size + 1, 1, .int .i64 b.x.hi), (w.heap.size + 1, 2, .int .i64 b.y.lo), (w.heap.size + 1, 3, .int .i64 b.y.hi), (w.heap.size, 0, .int .i64 a.x.lo), (w.heap.size, 1, .int .i64 a.x.hi), (w.heap.size, 2, .int .i64 a.y.lo), (w.heap.size, 3, .int .i64 a.y.hi)] := by rw [← hW0]; exact ((⟨BM.out n, LM.out n⟩ : St w n.w _)).box #[.int .i64 d1.lo, .int .i64 d1.hi] 58 (n.w.heap.size) (by simp)
        rw [hW0]
        clear hW0
        obtain ⟨kO, hkk⟩ : ∃ k, n.w.heap.size = k := ⟨_, rfl⟩
        have gkO : w.heap.size ≤ kO := by rw [← hkk]; exact (BM.out n).size
        rw [hkk] at S0 ⊢
        clear hkk
        obtain ⟨O, hC0, HO, LO, BO, hne⟩ := cls S0
        haveI := hne
        obtain ⟨o0, rfl⟩ : ∃ n : Wd O, W0 = n.w := ⟨⟨_, hC0⟩, rfl⟩
        have fO0 : ∀ n : Wd O, n.w.cell? ⟨kO, 0, none⟩ = some (.int .i64 d1.lo) := fun n => (LO.out n).1.2.1
        have fO1 : ∀ n : Wd O, n.w.cell? ⟨kO, 1, none⟩ = some (.int .i64 d1.hi) := fun n => (LO.out n).2.1.2.1
        have fO2 : ∀ n : Wd O, n.w.cell? ⟨kM, 0, none⟩ = some (.int .i64 s2.lo) := fun n => (LO.out n).2.2.1.2.1
        have fO3 : ∀ n : Wd O, n.w.cell? ⟨kM, 1, none⟩ = some (.int .i64 s2.hi) := fun n => (LO.out n).2.2.2.1.2.1
        have fO4 : ∀ n : Wd O, n.w.cell? ⟨kL, 0, none⟩ = some (.int .i64 s1.lo) := fun n => (LO.out n).2.2.2.2.1.2.1
        have fO5 : ∀ n : Wd O, n.w.cell? ⟨kL, 1, none⟩ = some (.int .i64 s1.hi) := fun n => (LO.out n).2.2.2.2.2.1.2.1
        have fO6 : ∀ n : Wd O, n.w.cell? ⟨kK + 1, 0, none⟩ = some (.int .i64 R.x.lo) := fun n => (LO.out n).2.2.2.2.2.2.1.2.1
        have fO7 : ∀ n : Wd O, n.w.cell? ⟨kK + 1, 1, none⟩ = some (.int .i64 R.x.hi) := fun n => (LO.out n).2.2.2.2.2.2.2.1.2.1
        have fO8 : ∀ n : Wd O, n.w.cell? ⟨kK + 1, 2, none⟩ = some (.int .i64 R.y.lo) := fun n => (LO.out n).2.2.2.2.2.2.2.2.1.2.1
        have fO9 : ∀ n : Wd O, n.w.cell? ⟨kK + 1, 3, none⟩ = some (.int .i64 R.y.hi) := fun n => (LO.out n).2.2.2.2.2.2.2.2.2.1.2.1
        have fO10 : ∀ n : Wd O, n.w.cell? ⟨kK, 0, none⟩ = some (.int .i64 P.x.lo) := fun n => (LO.out n).2.2.2.2.2.2.2.2.2.2.1.2.1
        have fO11 : ∀ n : Wd O, n.w.cell? ⟨kK, 1, none⟩ = some (.int .i64 P.x.hi) := fun n => (LO.out n).2.2.2.2.2.2.2.2.2.2.2.1.2.1
        have fO12 : ∀ n : Wd O, n.w.cell? ⟨kK, 2, none⟩ = some (.int .i64 P.y.lo) := fun n => (LO.out n).2.2.2.2.2.2.2.2.2.2.2.2.1.2.1
        have fO13 : ∀ n : Wd O, n.w.cell? ⟨kK, 3, none⟩ = some (.int .i64 P.y.hi) := fun n => (LO.out n).2.2.2.2.2.2.2.2.2.2.2.2.2.1.2.1
        have fO14 : ∀ n : Wd O, n.w.cell? ⟨kJ, 0, none⟩ = some (.int .i64 r.x) := fun n => (LO.out n).2.2.2.2.2.2.2.2.2.2.2.2.2.2.1.2.1
        have fO15 : ∀ n : Wd O, n.w.cell? ⟨kJ, 1, none⟩ = some (.int .i64 r.y) := fun n => (LO.out n).2.2.2.2.2.2.2.2.2.2.2.2.2.2.2.1.2.1
        have fO16 : ∀ n : Wd O, n.w.cell? ⟨kG, 0, none⟩ = some (.int .i64 q.x) := fun n => (LO.out n).2.2.2.2.2.2.2.2.2.2.2.2.2.2.2.2.1.2.1
        have fO17 : ∀ n : Wd O, n.w.cell? ⟨kG, 1, none⟩ = some (.int .i64 q.y) := fun n => (LO.out n).2.2.2.2.2.2.2.2.2.2.2.2.2.2.2.2.2.1.2.1
        have fO18 : ∀ n : Wd O, n.w.cell? ⟨kF, 0, none⟩ = some (.int .i64 p.x) := fun n => (LO.out n).2.2.2.2.2.2.2.2.2.2.2.2.2.2.2.2.2.2.1.2.1
        have fO19 : ∀ n : Wd O, n.w.cell? ⟨kF, 1, none⟩ = some (.int .i64 p.y) := fun n => (LO.out n).2.2.2.2.2.2.2.2.2.2.2.2.2.2.2.2.2.2.2.1.2.1
        have fO20 : ∀ n : Wd O, n.w.cell? ⟨kE, 0, none⟩ = some (.int .i64 d.lo) := fun n => (LO.out n).2.2.2.2.2.2.2.2.2.2.2.2.2.2.2.2.2.2.2.2.1.2.1
        have fO21 : ∀ n : Wd O, n.w.cell? ⟨kE, 1, none⟩ = some (.int .i64 d.hi) := fun n => (LO.out n).2.2.2.2.2.2.2.2.2.2.2.2.2.2.2.2.2.2.2.2.2.1.2.1
        have fO22 : ∀ n : Wd O, n.w.cell? ⟨kD, 0, none⟩ = some (.int .i64 s.lo) := fun n => (LO.out n).2.2.2.2.2.2.2.2.2.2.2.2.2.2.2.2.2.2.2.2.2.2.1.2.1
        have fO23 : ∀ n : Wd O, n.w.cell? ⟨kD, 1, none⟩ = some (.int .i64 s.hi) := fun n => (LO.out n).2.2.2.2.2.2.2.2.2.2.2.2.2.2.2.2.2.2.2.2.2.2.2.1.2.1
        have fO24 : ∀ n : Wd O, n.w.cell? ⟨w.heap.size + 1 + 1 + 1 + 1 + 1, 0, none⟩ = some (.int .u32 (z0)) := fun n => (LO.out n).2.2.2.2.2.2.2.2.2.2.2.2.2.2.2.2.2.2.2.2.2.2.2.2.1.2.1
        have fO25 : ∀ n : Wd O, n.w.cell? ⟨w.heap.size + 1 + 1 + 1 + 1 + 1, 1, none⟩ = some (.int .u32 (z1)) := fun n => (LO.out n).2.2.2.2.2.2.2.2.2.2.2.2.2.2.2.2.2.2.2.2.2.2.2.2.2.1.2.1
        have fO26 : ∀ n : Wd O, n.w.cell? ⟨w.heap.size + 1 + 1 + 1 + 1, 0, none⟩ = some (.int .u32 (y0)) := fun n => (LO.out n).2.2.2.2.2.2.2.2.2.2.2.2.2.2.2.2.2.2.2.2.2.2.2.2.2.2.1.2.1
        have fO27 : ∀ n : Wd O, n.w.cell? ⟨w.heap.size + 1 + 1 + 1 + 1, 1, none⟩ = some (.int .u32 (y1)) := fun n => (LO.out n).2.2.2.2.2.2.2.2.2.2.2.2.2.2.2.2.2.2.2.2.2.2.2.2.2.2.2.1.2.1
        have fO28 : ∀ n : Wd O, n.w.cell? ⟨w.heap.size + 1 + 1 + 1, 0, none⟩ = some (.int .u32 (x0)) := fun n => (LO.out n).2.2.2.2.2.2.2.2.2.2.2.2.2.2.2.2.2.2.2.2.2.2.2.2.2.2.2.2.1.2.1
        have fO29 : ∀ n : Wd O, n.w.cell? ⟨w.heap.size + 1 + 1 + 1, 1, none⟩ = some (.int .u32 (x1)) := fun n => (LO.out n).2.2.2.2.2.2.2.2.2.2.2.2.2.2.2.2.2.2.2.2.2.2.2.2.2.2.2.2.2.1.2.1
        have fO30 : ∀ n : Wd O, n.w.cell? ⟨w.heap.size + 1 + 1, 0, none⟩ = some (.int .i64 c.x.lo) := fun n => (LO.out n).2.2.2.2.2.2.2.2.2.2.2.2.2.2.2.2.2.2.2.2.2.2.2.2.2.2.2.2.2.2.1.2.1
        have fO31 : ∀ n : Wd O, n.w.cell? ⟨w.heap.size + 1 + 1, 1, none⟩ = some (.int .i64 c.x.hi) := fun n => (LO.out n).2.2.2.2.2.2.2.2.2.2.2.2.2.2.2.2.2.2.2.2.2.2.2.2.2.2.2.2.2.2.2.1.2.1
        have fO32 : ∀ n : Wd O, n.w.cell? ⟨w.heap.size + 1 + 1, 2, none⟩ = some (.int .i64 c.y.lo) := fun n => (LO.out n).2.2.2.2.2.2.2.2.2.2.2.2.2.2.2.2.2.2.2.2.2.2.2.2.2.2.2.2.2.2.2.2.1.2.1
        have fO33 : ∀ n : Wd O, n.w.cell? ⟨w.heap.size + 1 + 1, 3, none⟩ = some (.int .i64 c.y.hi) := fun n => (LO.out n).2.2.2.2.2.2.2.2.2.2.2.2.2.2.2.2.2.2.2.2.2.2.2.2.2.2.2.2.2.2.2.2.2.1.2.1
        have fO34 : ∀ n : Wd O, n.w.cell? ⟨w.heap.size + 1, 0, none⟩ = some (.int .i64 b.x.lo) := fun n => (LO.out n).2.2.2.2.2.2.2.2.2.2.2.2.2.2.2.2.2.2.2.2.2.2.2.2.2.2.2.2.2.2.2.2.2.2.1.2.1
        have fO35 : ∀ n : Wd O, n.w.cell? ⟨w.heap.size + 1, 1, none⟩ = some (.int .i64 b.x.hi) := fun n => (LO.out n).2.2.2.2.2.2.2.2.2.2.2.2.2.2.2.2.2.2.2.2.2.2.2.2.2.2.2.2.2.2.2.2.2.2.2.1.2.1
        have fO36 : ∀ n : Wd O, n.w.cell? ⟨w.heap.size + 1, 2, none⟩ = some (.int .i64 b.y.lo) := fun n => (LO.out n).2.2.2.2.2.2.2.2.2.2.2.2.2.2.2.2.2.2.2.2.2.2.2.2.2.2.2.2.2.2.2.2.2.2.2.2.1.2.1
        have fO37 : ∀ n : Wd O, n.w.cell? ⟨w.heap.size + 1, 3, none⟩ = some (.int .i64 b.y.hi) := fun n => (LO.out n).2.2.2.2.2.2.2.2.2.2.2.2.2.2.2.2.2.2.2.2.2.2.2.2.2.2.2.2.2.2.2.2.2.2.2.2.2.1.2.1
        have fO38 : ∀ n : Wd O, n.w.cell? ⟨w.heap.size, 0, none⟩ = some (.int .i64 a.x.lo) := fun n => (LO.out n).2.2.2.2.2.2.2.2.2.2.2.2.2.2.2.2.2.2.2.2.2.2.2.2.2.2.2.2.2.2.2.2.2.2.2.2.2.2.1.2.1
        have fO39 : ∀ n : Wd O, n.w.cell? ⟨w.heap.size, 1, none⟩ = some (.int .i64 a.x.hi) := fun n => (LO.out n).2.2.2.2.2.2.2.2.2.2.2.2.2.2.2.2.2.2.2.2.2.2.2.2.2.2.2.2.2.2.2.2.2.2.2.2.2.2.2.1.2.1
        have fO40 : ∀ n : Wd O, n.w.cell? ⟨w.heap.size, 2, none⟩ = some (.int .i64 a.y.lo) := fun n => (LO.out n).2.2.2.2.2.2.2.2.2.2.2.2.2.2.2.2.2.2.2.2.2.2.2.2.2.2.2.2.2.2.2.2.2.2.2.2.2.2.2.2.1.2.1
        have fO41 : ∀ n : Wd O, n.w.cell? ⟨w.heap.size, 3, none⟩ = some (.int .i64 a.y.hi) := fun n => (LO.out n).2.2.2.2.2.2.2.2.2.2.2.2.2.2.2.2.2.2.2.2.2.2.2.2.2.2.2.2.2.2.2.2.2.2.2.2.2.2.2.2.2.1.2.1
        clear S0 hC0
        have F4 := cin HO u4
        clear F3 u4 HM LM BM
        go_wp2_with (first | (go_at_call 61; with_reducible refine (F4 _).out.mono ?_; rintro e w' ⟨rfl, n, rfl⟩))
        obtain ⟨W0, hW0⟩ : ∃ W0, (n.w).alloc (.cells #[.int .i64 d2.lo, .int .i64 d2.hi] 58) = W0 := ⟨_, rfl⟩
        have S0 : St w W0 [(n.w.heap.size, 0, .int .i64 d2.lo), (n.w.heap.size, 1, .int .i64 d2.hi), (kO, 0, .int .i64 d1.lo), (kO, 1, .int .i64 d1.hi), (kM, 0, .int .i64 s2.lo), (kM, 1, .int .i64 s2.hi), (kL, 0, .int .i64 s1.lo), (kL, 1, .int .i64 s1.hi), (kK + 1, 0, .int .i64 R.x.lo), (kK + 1, 1, .int .i64 R.x.hi), (kK + 1, 2, .int .i64 R.y.lo), (kK + 1, 3, .int .i64 R.y.hi), (kK, 0, .int .i64 P.x.lo), (kK, 1, .int .i64 P.x.hi), (kK, 2, .int .i64 P.y.lo), (kK, 3, .int .i64 P.y.hi), (kJ, 0, .int .i64 r.x), (kJ, 1, .int .i64 r.y), (kG, 0, .int .i64 q.x), (kG, 1, .int .i64 q.y), (kF, 0, .int .i64 p.x), (kF, 1, .int .i64 p.y), (kE, 0, .int .i64 d.lo), (kE, 1, .int .i64 d.hi), (kD, 0, .int .i64 s.lo), (kD, 1, .int .i64 s.hi), (w.heap.size + 1 + 1 + 1 + 1 + 1, 0, .int .u32 (z0)), (w.heap.size + 1 + 1 + 1 + 1 + 1, 1, .int .u32 (z1)), (w.heap.size + 1 + 1 + 1 + 1, 0, .int .u32 (y0)), (w.heap.size + 1 + 1 + 1 + 1, 1, .int .u32 (y1)), (w.heap.size + 1 + 1 + 1, 0, .int .u32 (x0)), (w.heap.size + 1 + 1 + 1, 1, .int .u32 (x1)), (w.heap.size + 1 + 1, 0, .int .i64 c.x.lo), (w.heap.size + 1 + 1, 1, .int .i64 c.x.hi), (w.heap.size + 1 + 1, 2, .int .i64 c.y.lo), (w.heap.size + 1 + 1, 3, .int .i64 c.y.hi), (w.heap.size + 1, 0, .int .i64 b.x.lo), (w.heap.size + 1, 1, .int .i64 b.x.hi), (w.heap.size + 1, 2, .int .i64 b.y.lo), (w.heap.size + 1, 3, .int .i64 b.y.hi), (w.heap.size, 0, .int .i64 a.x.lo), (w.heap.size, 1, .int .i64 a.x.hi), (w.heap.size, 2, .int .i64 a.y.lo), (w.heap.size, 3, .int .i64 a.y.hi)] := by rw [← hW0]; exact ((⟨BO.out n, LO.out n⟩ : St w n.w _)).box #[.int .i64 d2.lo, .int .i64 d2.hi] 58 (n.w.heap.size) (by simp)
        rw [hW0]
        clear hW0
        obtain ⟨kQ, hkk⟩ : ∃ k, n.w.heap.size = k := ⟨_, rfl⟩
        have gkQ : w.heap.size ≤ kQ := by rw [← hkk]; exact (BO.out n).size
        rw [hkk] at S0 ⊢
        clear hkk
        obtain ⟨Q, hC0, HQ, LQ, BQ, hne⟩ := cls S0
        haveI := hne
        obtain ⟨q0, rfl⟩ : ∃ n : Wd Q, W0 = n.w := ⟨⟨_, hC0⟩, rfl⟩
        have fQ0 : ∀ n : Wd Q, n.w.cell? ⟨kQ, 0, none⟩ = some (.int .i64 d2.lo) := fun n => (LQ.out n).1.2.1
        have fQ1 : ∀ n : Wd Q, n.w.cell? ⟨kQ, 1, none⟩ = some (.int .i64 d2.hi) := fun n => (LQ.out n).2.1.2.1
        have fQ2 : ∀ n : Wd Q, n.w.cell? ⟨kO, 0, none⟩ = some (.int .i64 d1.lo) := fun n => (LQ.out n).2.2.1.2.1
        have fQ3 : ∀ n : Wd Q, n.w.cell? ⟨kO, 1, none⟩ = some (.int .i64 d1.hi) := fun n => (LQ.out n).2.2.2.1.2.1
        have fQ4 : ∀ n : Wd Q, n.w.cell? ⟨kM, 0, none⟩ = some (.int .i64 s2.lo) := fun n => (LQ.out n).2.2.2.2.1.2.1
        have fQ5 : ∀ n : Wd Q, n.w.cell? ⟨kM, 1, none⟩ = some (.int .i64 s2.hi) := fun n => (LQ.out n).2.2.2.2.2.1.2.1
        have fQ6 : ∀ n : Wd Q, n.w.cell? ⟨kL, 0, none⟩ = some (.int .i64 s1.lo) := fun n => (LQ.out n).2.2.2.2.2.2.1.2.1
        have fQ7 : ∀ n : Wd Q, n.w.cell? ⟨kL, 1, none⟩ = some (.int .i64 s1.hi) := fun n => (LQ.out n).2.2.2.2.2.2.2.1.2.1
        have fQ8 : ∀ n : Wd Q, n.w.cell? ⟨kK + 1, 0, none⟩ = some (.int .i64 R.x.lo) := fun n => (LQ.out n).2.2.2.2.2.2.2.2.1.2.1
        have fQ9 : ∀ n : Wd Q, n.w.cell? ⟨kK + 1, 1, none⟩ = some (.int .i64 R.x.hi) := fun n => (LQ.out n).2.2.2.2.2.2.2.2.2.1.2.1
        have fQ10 : ∀ n : Wd Q, n.w.cell? ⟨kK + 1, 2, none⟩ = some (.int .i64 R.y.lo) := fun n => (LQ.out n).2.2.2.2.2.2.2.2.2.2.1.2.1
        have fQ11 : ∀ n : Wd Q, n.w.cell? ⟨kK + 1, 3, none⟩ = some (.int .i64 R.y.hi) := fun n => (LQ.out n).2.2.2.2.2.2.2.2.2.2.2.1.2.1
        have fQ12 : ∀ n : Wd Q, n.w.cell? ⟨kK, 0, none⟩ = some (.int .i64 P.x.lo) := fun n => (LQ.out n).2.2.2.2.2.2.2.2.2.2.2.2.1.2.1
        have fQ13 : ∀ n : Wd Q, n.w.cell? ⟨kK, 1, none⟩ = some (.int .i64 P.x.hi) := fun n => (LQ.out n).2.2.2.2.2.2.2.2.2.2.2.2.2.1.2.1
        have fQ14 : ∀ n : Wd Q, n.w.cell? ⟨kK, 2, none⟩ = some (.int .i64 P.y.lo) := fun n => (LQ.out n).2.2.2.2.2.2.2.2.2.2.2.2.2.2.1.2.1
        have fQ15 : ∀ n : Wd Q, n.w.cell? ⟨kK, 3, none⟩ = some (.int .i64 P.y.hi) := fun n => (LQ.out n).2.2.2.2.2.2.2.2.2.2.2.2.2.2.2.1.2.1
        have fQ16 : ∀ n : Wd Q, n.w.cell? ⟨kJ, 0, none⟩ = some (.int .i64 r.x) := fun n => (LQ.out n).2.2.2.2.2.2.2.2.2.2.2.2.2.2.2.2.1.2.1
        have fQ17 : ∀ n : Wd Q, n.w.cell? ⟨kJ, 1, none⟩ = some (.int .i64 r.y) := fun n => (LQ.out n).2.2.2.2.2.2.2.2.2.2.2.2.2.2.2.2.2.1.2.1
        have fQ18 : ∀ n : Wd Q, n.w.cell? ⟨kG, 0, none⟩ = some (.int .i64 q.x) := fun n => (LQ.out n).2.2.2.2.2.2.2.2.2.2.2.2.2.2.2.2.2.2.1.2.1
        have fQ19 : ∀ n : Wd Q, n.w.cell? ⟨kG, 1, none⟩ = some (.int .i64 q.y) := fun n => (LQ.out n).2.2.2.2.2.2.2.2.2.2.2.2.2.2.2.2.2.2.2.1.2.1
        have fQ20 : ∀ n : Wd Q, n.w.cell? ⟨kF, 0, none⟩ = some (.int .i64 p.x) := fun n => (LQ.out n).2.2.2.2.2.2.2.2.2.2.2.2.2.2.2.2.2.2.2.2.1.2.1
        have fQ21 : ∀ n : Wd Q, n.w.cell? ⟨kF, 1, none⟩ = some (.int .i64 p.y) := fun n => (LQ.out n).2.2.2.2.2.2.2.2.2.2.2.2.2.2.2.2.2.2.2.2.2.1.2.1
        have fQ22 : ∀ n : Wd Q, n.w.cell? ⟨kE, 0, none⟩ = some (.int .i64 d.lo) := fun n => (LQ.out n).2.2.2.2.2.2.2.2.2.2.2.2.2.2.2.2.2.2.2.2.2.2.1.2.1
        have fQ23 : ∀ n : Wd Q, n.w.cell? ⟨kE, 1, none⟩ = some (.int .i64 d.hi) := fun n => (LQ.out n).2.2.2.2.2.2.2.2.2.2.2.2.2.2.2.2.2.2.2.2.2.2.2.1.2.1
        have fQ24 : ∀ n : Wd Q, n.w.cell? ⟨kD, 0, none⟩ = some (.int .i64 s.lo) := fun n => (LQ.out n).2.2.2.2.2.2.2.2.2.2.2.2.2.2.2.2.2.2.2.2.2.2.2.2.1.2.1
        have fQ25 : ∀ n : Wd Q, n.w.cell? ⟨kD, 1, none⟩ = some (.int .i64 s.hi) := fun n => (LQ.out n).2.2.2.2.2.2.2.2.2.2.2.2.2.2.2.2.2.2.2.2.2.2.2.2.2.1.2.1
        have fQ26 : ∀ n : Wd Q, n.w.cell? ⟨w.heap.size + 1 + 1 + 1 + 1 + 1, 0, none⟩ = some (.int .u32 (z0)) := fun n => (LQ.out n).2.2.2.2.2.2.2.2.2.2.2.2.2.2.2.2.2.2.2.2.2.2.2.2.2.2.1.2.1
        have fQ27 : ∀ n : Wd Q, n.w.cell? ⟨w.heap.size + 1 + 1 + 1 + 1 + 1, 1, none⟩ = some (.int .u32 (z1)) := fun n => (LQ.out n).2.2.2.2.2.2.2.2.2.2.2.2.2.2.2.2.2.2.2.2.2.2.2.2.2.2.2.1.2.1
        have fQ28 : ∀ n : Wd Q, n.w.cell? ⟨w.heap.size + 1 + 1 + 1 + 1, 0, none⟩ = some (.int .u32 (y0)) := fun n => (LQ.out n).2.2.2.2.2.2.2.2.2.2.2.2.2.2.2.2.2.2.2.2.2.2.2.2.2.2.2.2.1.2.1
        have fQ29 : ∀ n : Wd Q, n.w.cell? ⟨w.heap.size + 1 + 1 + 1 + 1, 1, none⟩ = some (.int .u32 (y1)) := fun n => (LQ.out n).2.2.2.2.2.2.2.2.2.2.2.2.2.2.2.2.2.2.2.2.2.2.2.2.2.2.2.2.2.1.2.1
        have fQ30 : ∀ n : Wd Q, n.w.cell? ⟨w.heap.size + 1 + 1 + 1, 0, none⟩ = some (.int .u32 (x0)) := fun n => (LQ.out n).2.2.2.2.2.2.2.2.2.2.2.2.2.2.2.2.2.2.2.2.2.2.2.2.2.2.2.2.2.2.1.2.1
        have fQ31 : ∀ n : Wd Q, n.w.cell? ⟨w.heap.size + 1 + 1 + 1, 1, none⟩ = some (.int .u32 (x1)) := fun n => (LQ.out n).2.2.2.2.2.2.2.2.2.2.2.2.2.2.2.2.2.2.2.2.2.2.2.2.2.2.2.2.2.2.2.1.2.1
        have fQ32 : ∀ n : Wd Q, n.w.cell? ⟨w.heap.size + 1 + 1, 0, none⟩ = some (.int .i64 c.x.lo) := fun n => (LQ.out n).2.2.2.2.2.2.2.2.2.2.2.2.2.2.2.2.2.2.2.2.2.2.2.2.2.2.2.2.2.2.2.2.1.2.1
        have fQ33 : ∀ n : Wd Q, n.w.cell? ⟨w.heap.size + 1 + 1, 1, none⟩ = some (.int .i64 c.x.hi) := fun n => (LQ.out n).2.2.2.2.2.2.2.2.2.2.2.2.2.2.2.2.2.2.2.2.2.2.2.2.2.2.2.2.2.2.2.2.2.1.2.1
        have fQ34 : ∀ n : Wd Q, n.w.cell? ⟨w.heap.size + 1 + 1, 2, none⟩ = some (.int .i64 c.y.lo) := fun n => (LQ.out n).2.2.2.2.2.2.2.2.2.2.2.2.2.2.2.2.2.2.2.2.2.2.2.2.2.2.2.2.2.2.2.2.2.2.1.2.1
        have fQ35 : ∀ n : Wd Q, n.w.cell? ⟨w.heap.size + 1 + 1, 3, none⟩ = some (.int .i64 c.y.hi) := fun n => (LQ.out n).2.2.2.2.2.2.2.2.2.2.2.2.2.2.2.2.2.2.2.2.2.2.2.2.2.2.2.2.2.2.2.2.2.2.2.1.2.1
        have fQ36 : ∀ n : Wd Q, n.w.cell? ⟨w.heap.size + 1, 0, none⟩ = some (.int .i64 b.x.lo) := fun n => (LQ.out n).2.2.2.2.2.2.2.2.2.2.2.2.2.2.2.2.2.2.2.2.2.2.2.2.2.2.2.2.2.2.2.2.2.2.2.2.1.2.1
        have fQ37 : ∀ n : Wd Q, n.w.cell? ⟨w.heap.size + 1, 1, none⟩ = some (.int .i64 b.x.hi) := fun n => (LQ.out n).2.2.2.2.2.2.2.2.2.2.2.2.2.2.2.2.2.2.2.2.2.2.2.2.2.2.2.2.2.2.2.2.2.2.2.2.2.1.2.1
        have fQ38 : ∀ n : Wd Q, n.w.cell? ⟨w.heap.size + 1, 2, none⟩ = some (.int .i64 b.y.lo) := fun n => (LQ.out n).2.2.2.2.2.2.2.2.2.2.2.2.2.2.2.2.2.2.2.2.2.2.2.2.2.2.2.2.2.2.2.2.2.2.2.2.2.2.1.2.1
        have fQ39 : ∀ n : Wd Q, n.w.cell? ⟨w.heap.size + 1, 3, none⟩ = some (.int .i64 b.y.hi) := fun n => (LQ.out n).2.2.2.2.2.2.2.2.2.2.2.2.2.2.2.2.2.2.2.2.2.2.2.2.2.2.2.2.2.2.2.2.2.2.2.2.2.2.2.1.2.1
        have fQ40 : ∀ n : Wd Q, n.w.cell? ⟨w.heap.size, 0, none⟩ = some (.int .i64 a.x.lo) := fun n => (LQ.out n).2.2.2.2.2.2.2.2.2.2.2.2.2.2.2.2.2.2.2.2.2.2.2.2.2.2.2.2.2.2.2.2.2.2.2.2.2.2.2.2.1.2.1
        have fQ41 : ∀ n : Wd Q, n.w.cell? ⟨w.heap.size, 1, none⟩ = some (.int .i64 a.x.hi) := fun n => (LQ.out n).2.2.2.2.2.2.2.2.2.2.2.2.2.2.2.2.2.2.2.2.2.2.2.2.2.2.2.2.2.2.2.2.2.2.2.2.2.2.2.2.2.1.2.1
        have fQ42 : ∀ n : Wd Q, n.w.cell? ⟨w.heap.size, 2, none⟩ = some (.int .i64 a.y.lo) := fun n => (LQ.out n).2.2.2.2.2.2.2.2.2.2.2.2.2.2.2.2.2.2.2.2.2.2.2.2.2.2.2.2.2.2.2.2.2.2.2.2.2.2.2.2.2.2.1.2.1
        have fQ43 : ∀ n : Wd Q, n.w.cell? ⟨w.heap.size, 3, none⟩ = some (.int .i64 a.y.hi) := fun n => (LQ.out n).2.2.2.2.2.2.2.2.2.2.2.2.2.2.2.2.2.2.2.2.2.2.2.2.2.2.2.2.2.2.2.2.2.2.2.2.2.2.2.2.2.2.2.1.2.1
        clear S0 hC0
        have F5 := cin HQ BX
        clear F4 HO LO BO
        have k1 := HKK.out.1.1
        have k2 := HKK.out.1.2
        have k3 := HKK.out.2.1
        have k4 := HKK.out.2.2
        go_wp2_with (first | (go_at_call 38; with_reducible refine (F5 _).out.mono ?_; rintro e w' ⟨rfl, n, rfl⟩))
        go_ret
        exact ⟨ret_bool (by simp), BQ.out _⟩
  · have P1 := fun W => Proper_any a W
    have P2 := fun W => Proper_any b W
    have P3 := fun W => Proper_any c W
    obtain ⟨za, hza⟩ : ∃ z, okB a = z := ⟨_, rfl⟩
    obtain ⟨zb, hzb⟩ : ∃ z, okB b = z := ⟨_, rfl⟩
    obtain ⟨zc, hzc⟩ : ∃ z, okB c = z := ⟨_, rfl⟩
    rw [hza, hzb, hzc] at hz
    simp only [hza] at P1
    simp only [hzb] at P2
    simp only [hzc] at P3
    have HZ := Lib.hid hz
    clear hz hza hzb hzc hx0 hx1 hy0 hy1 hz0 hz1
    go_enter Try.func14, Try.ntmps14
    go_wp2_with fail
    obtain ⟨W0, hW0⟩ : ∃ W0, ((((((w).alloc (.cells #[.int .i64 a.x.lo, .int .i64 a.x.hi, .int .i64 a.y.lo, .int .i64 a.y.hi] 60)).alloc (.cells #[.int .i64 b.x.lo, .int .i64 b.x.hi, .int .i64 b.y.lo, .int .i64 b.y.hi] 60)).alloc (.cells #[.int .i64 c.x.lo, .int .i64 c.x.hi, .int .i64 c.y.lo, .int .i64 c.y.hi] 60)).alloc (.cells #[.int .u32 (x0), .int .u32 (x1)] 85)).alloc (.cells #[.int .u32 (y0), .int .u32 (y1)] 85)).alloc (.cells #[.int .u32 (z0), .int .u32 (z1)] 85) = W0 := ⟨_, rfl⟩
    have S0 : St w W0 [(w.heap.size + 1 + 1 + 1 + 1 + 1, 0, .int .u32 (z0)), (w.heap.size + 1 + 1 + 1 + 1 + 1, 1, .int .u32 (z1)), (w.heap.size + 1 + 1 + 1 + 1, 0, .int .u32 (y0)), (w.heap.size + 1 + 1 + 1 + 1, 1, .int .u32 (y1)), (w.heap.size + 1 + 1 + 1, 0, .int .u32 (x0)), (w.heap.size + 1 + 1 + 1, 1, .int .u32 (x1)), (w.heap.size + 1 + 1, 0, .int .i64 c.x.lo), (w.heap.size + 1 + 1, 1, .int .i64 c.x.hi), (w.heap.size + 1 + 1, 2, .int .i64 c.y.lo), (w.heap.size + 1 + 1, 3, .int .i64 c.y.hi), (w.heap.size + 1, 0, .int .i64 b.x.lo), (w.heap.size + 1, 1, .int .i64 b.x.hi), (w.heap.size + 1, 2, .int .i64 b.y.lo), (w.heap.size + 1, 3, .int .i64 b.y.hi), (w.heap.size, 0, .int .i64 a.x.lo), (w.heap.size, 1, .int .i64 a.x.hi), (w.heap.size, 2, .int .i64 a.y.lo), (w.heap.size, 3, .int .i64 a.y.hi)] := by rw [← hW0]; exact (((((((St.nil w)).box #[.int .i64 a.x.lo, .int .i64 a.x.hi, .int .i64 a.y.lo, .int .i64 a.y.hi] 60 (w.heap.size) (by simp)).box #[.int .i64 b.x.lo, .int .i64 b.x.hi, .int .i64 b.y.lo, .int .i64 b.y.hi] 60 (w.heap.size + 1) (by simp)).box #[.int .i64 c.x.lo, .int .i64 c.x.hi, .int .i64 c.y.lo, .int .i64 c.y.hi] 60 (w.heap.size + 1 + 1) (by simp)).box #[.int .u32 (x0), .int .u32 (x1)] 85 (w.heap.size + 1 + 1 + 1) (by simp)).box #[.int .u32 (y0), .int .u32 (y1)] 85 (w.heap.size + 1 + 1 + 1 + 1) (by simp)).box #[.int .u32 (z0), .int .u32 (z1)] 85 (w.heap.size + 1 + 1 + 1 + 1 + 1) (by simp)
    rw [hW0]
    clear hW0
    obtain ⟨C, hC0, HC, LC, BC, hne⟩ := cls S0
    haveI := hne
    obtain ⟨c0, rfl⟩ : ∃ n : Wd C, W0 = n.w := ⟨⟨_, hC0⟩, rfl⟩
    have fC0 : ∀ n : Wd C, n.w.cell? ⟨w.heap.size + 1 + 1 + 1 + 1 + 1, 0, none⟩ = some (.int .u32 (z0)) := fun n => (LC.out n).1.2.1
    have fC1 : ∀ n : Wd C, n.w.cell? ⟨w.heap.size + 1 + 1 + 1 + 1 + 1, 1, none⟩ = some (.int .u32 (z1)) := fun n => (LC.out n).2.1.2.1
    have fC2 : ∀ n : Wd C, n.w.cell? ⟨w.heap.size + 1 + 1 + 1 + 1, 0, none⟩ = some (.int .u32 (y0)) := fun n => (LC.out n).2.2.1.2.1
    have fC3 : ∀ n : Wd C, n.w.cell? ⟨w.heap.size + 1 + 1 + 1 + 1, 1, none⟩ = some (.int .u32 (y1)) := fun n => (LC.out n).2.2.2.1.2.1
    have fC4 : ∀ n : Wd C, n.w.cell? ⟨w.heap.size + 1 + 1 + 1, 0, none⟩ = some (.int .u32 (x0)) := fun n => (LC.out n).2.2.2.2.1.2.1
    have fC5 : ∀ n : Wd C, n.w.cell? ⟨w.heap.size + 1 + 1 + 1, 1, none⟩ = some (.int .u32 (x1)) := fun n => (LC.out n).2.2.2.2.2.1.2.1
    have fC6 : ∀ n : Wd C, n.w.cell? ⟨w.heap.size + 1 + 1, 0, none⟩ = some (.int .i64 c.x.lo) := fun n => (LC.out n).2.2.2.2.2.2.1.2.1
    have fC7 : ∀ n : Wd C, n.w.cell? ⟨w.heap.size + 1 + 1, 1, none⟩ = some (.int .i64 c.x.hi) := fun n => (LC.out n).2.2.2.2.2.2.2.1.2.1
    have fC8 : ∀ n : Wd C, n.w.cell? ⟨w.heap.size + 1 + 1, 2, none⟩ = some (.int .i64 c.y.lo) := fun n => (LC.out n).2.2.2.2.2.2.2.2.1.2.1
    have fC9 : ∀ n : Wd C, n.w.cell? ⟨w.heap.size + 1 + 1, 3, none⟩ = some (.int .i64 c.y.hi) := fun n => (LC.out n).2.2.2.2.2.2.2.2.2.1.2.1
    have fC10 : ∀ n : Wd C, n.w.cell? ⟨w.heap.size + 1, 0, none⟩ = some (.int .i64 b.x.lo) := fun n => (LC.out n).2.2.2.2.2.2.2.2.2.2.1.2.1
    have fC11 : ∀ n : Wd C, n.w.cell? ⟨w.heap.size + 1, 1, none⟩ = some (.int .i64 b.x.hi) := fun n => (LC.out n).2.2.2.2.2.2.2.2.2.2.2.1.2.1
    have fC12 : ∀ n : Wd C, n.w.cell? ⟨w.heap.size + 1, 2, none⟩ = some (.int .i64 b.y.lo) := fun n => (LC.out n).2.2.2.2.2.2.2.2.2.2.2.2.1.2.1
    have fC13 : ∀ n : Wd C, n.w.cell? ⟨w.heap.size + 1, 3, none⟩ = some (.int .i64 b.y.hi) := fun n => (LC.out n).2.2.2.2.2.2.2.2.2.2.2.2.2.1.2.1
    have fC14 : ∀ n : Wd C, n.w.cell? ⟨w.heap.size, 0, none⟩ = some (.int .i64 a.x.lo) := fun n => (LC.out n).2.2.2.2.2.2.2.2.2.2.2.2.2.2.1.2.1
    have fC15 : ∀ n : Wd C, n.w.cell? ⟨w.heap.size, 1, none⟩ = some (.int .i64 a.x.hi) := fun n => (LC.out n).2.2.2.2.2.2.2.2.2.2.2.2.2.2.2.1.2.1
    have fC16 : ∀ n : Wd C, n.w.cell? ⟨w.heap.size, 2, none⟩ = some (.int .i64 a.y.lo) := fun n => (LC.out n).2.2.2.2.2.2.2.2.2.2.2.2.2.2.2.2.1.2.1
    have fC17 : ∀ n : Wd C, n.w.cell? ⟨w.heap.size, 3, none⟩ = some (.int .i64 a.y.hi) := fun n => (LC.out n).2.2.2.2.2.2.2.2.2.2.2.2.2.2.2.2.2.1.2.1
    clear S0 hC0
    have D1 := cin HC P1
    have D2 := cin HC P2
    have D3 := cin HC P3
    have D4 := cin HC BX
    clear P1 P2 P3
    cases za <;> cases zb <;> cases zc
    all_goals first
    | (exfalso; exact HZ.out ⟨rfl, rfl, rfl⟩)
    | (go_wp2_with (first | (go_at_call 53; with_reducible refine (D1 _).out.mono ?_; rintro e w' ⟨rfl, n, rfl⟩) | (go_at_call 53; with_reducible refine (D2 _).out.mono ?_; rintro e w' ⟨rfl, n, rfl⟩) | (go_at_call 53; with_reducible refine (D3 _).out.mono ?_; rintro e w' ⟨rfl, n, rfl⟩) | (go_at_call 38; with_reducible refine (D4 _).out.mono ?_; rintro e w' ⟨rfl, n, rfl⟩))
       go_ret
       exact ⟨rfl, BC.out _⟩)
end Go.Proofs.Ytdefpcjlbganpaa
namespace Go.Proofs.Ytdefpcjlbganpaa
open Go Go.ChangeShapes Go.WideShapes Go.RowKit Go.Joins Go.Deep
theorem trod_array2 {H : Type} {enc : TypeId × Value → H} {P : Program} {w : World} {base : Nat} {spare : Nat → Bool} {held : Bool} {t e : TypeId} {fuel : Nat} {c0 c1 : Value} {x : DataW H × List MemPlace} (ht : P.underlying t = some (.array 2 e)) (hce : P.cellsOf e = 1)
    (h : DataW.trod enc P w base spare held fuel t [c0, c1] = some x) :
    ∃ y0 y1 n, x = (.agg [y0.1, y1.1], y0.2 ++ y1.2) ∧ DataW.trod enc P w base spare held n e [c0] = some y0 ∧ DataW.trod enc P w base spare held n e [c1] = some y1 := by
  cases fuel with
  | zero => simp [DataW.trod] at h
  | succ n =>
    unfold DataW.trod at h
    rw [ht] at h
    have r3 : List.range 2 = [0, 1] := rfl
    simp [r3, hce] at h
    obtain ⟨_, h⟩ := h
    cases h0 : DataW.trod enc P w base spare held n e [c0] with
    | none => simp [h0] at h
    | some y0 =>
      cases h1 : DataW.trod enc P w base spare held n e [c1] with
      | none => simp [h0, h1] at h
      | some y1 =>
        simp [h0, h1] at h
        exact ⟨y0, y1, n, h.symm, h0, h1⟩
theorem trod_array2_mk {H : Type} {enc : TypeId × Value → H} {P : Program} {w : World} {base : Nat} {spare : Nat → Bool} {held : Bool} {t e : TypeId} {n : Nat} {c0 c1 : Value} {y0 y1 : DataW H × List MemPlace} (ht : P.underlying t = some (.array 2 e)) (hce : P.cellsOf e = 1) (hct : P.cellsOf t = 2)
    (h0 : DataW.trod enc P w base spare held n e [c0] = some y0) (h1 : DataW.trod enc P w base spare held n e [c1] = some y1) : DataW.trod enc P w base spare held (n + 1) t [c0, c1] = some (.agg [y0.1, y1.1], y0.2 ++ y1.2) := by
  unfold DataW.trod
  rw [ht]
  have r3 : List.range 2 = [0, 1] := rfl
  simp [r3, hce, hct, h0, h1]
set_option maxRecDepth 100000 in
/-- A pair of numbers among the arguments. -/
theorem read_ar {H : Type} {enc : TypeId × Value → H} {W : World} {base b0 : Nat} {sp : Nat → Bool} {hd : Bool} {v : Value} {d : DataW H} {p : List MemPlace} (hv : Value.okWide Try.prog W .any base 85 v) (h : DataW.Trod enc Try.prog W b0 sp hd 85 v d p) :
    ∃ x y : Int, v = .agg #[.int .u32 x, .int .u32 y] ∧ (0 ≤ x ∧ x ≤ 4294967295) ∧ (0 ≤ y ∧ y ≤ 4294967295) ∧ p = [] := by
  have hu := Try.underlying85
  have hc : Try.prog.cellsOf 85 = 2 := by kernel_rfl
  have hc3 : Try.prog.cellsOf 80 = 1 := by kernel_rfl
  have hv' := hv
  simp only [Value.okWide, hu] at hv'
  obtain ⟨cs, rfl, hsz, _⟩ := hv'
  obtain ⟨fuel, hf⟩ := h
  obtain ⟨l⟩ := cs
  rw [hc] at hsz
  match l, hsz with
  | [c0, c1], _ =>
    obtain ⟨y0, y1, n, hx, h0, h1⟩ := trod_array2 hu hc3 hf
    obtain ⟨u, e0, rfl, wx⟩ := DataW.trod_int Try.underlying80 h0
    obtain ⟨v, e1, rfl, wy⟩ := DataW.trod_int Try.underlying80 h1
    obtain rfl := List.singleton_inj.1 e0
    obtain rfl := List.singleton_inj.1 e1
    simp only [Prod.mk.injEq] at hx
    exact ⟨u, v, rfl, bounds_u32 wx, bounds_u32 wy, hx.2⟩
theorem holdLaw (a b c : Bx) (x0 x1 y0 y1 z0 z1 : Int) (w : World)
   (hx0 : 0 ≤ x0 ∧ x0 ≤ 4294967295) (hx1 : 0 ≤ x1 ∧ x1 ≤ 4294967295) (hy0 : 0 ≤ y0 ∧ y0 ≤ 4294967295) (hy1 : 0 ≤ y1 ∧ y1 ≤ 4294967295) (hz0 : 0 ≤ z0 ∧ z0 ≤ 4294967295) (hz1 : 0 ≤ z1 ∧ z1 ≤ 4294967295) :
   Calls Try.prog 14 #[a.v, b.v, c.v, .agg #[.int .u32 x0, .int .u32 x1], .agg #[.int .u32 y0, .int .u32 y1], .agg #[.int .u32 z0, .int .u32 z1]] w fun e w' => e = .returned (.bool true) ∧ Below w.heap.size w w' := holdsLaw boxes_is a b c x0 x1 y0 y1 z0 z1 w hx0 hx1 hy0 hy1 hz0 hz1
end Go.Proofs.Ytdefpcjlbganpaa
