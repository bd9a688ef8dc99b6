import Derived.RangeFuncNested
import Derived.RangeFuncBox
import Derived.RangeFuncBound
import Derived.RangeFuncCalls
import Derived.RangeFuncLeaves
import Derived.Shelf.Abstract
import Derived.Shelf.RegionOpen
import Derived.BigRegionIn
import Derived.Stop.RegionWithIn
import Derived.WalkKit
import Derived.OwnWalkIn
import Derived.TacticsInMore
import Derived.LoopNIn
import Derived.LoopIn
import Derived.Lib.Hide
import Derived.IntWalk
import Derived.Deep.QuietTactic
import Derived.Deep.RegionHeld3
import Derived.Deep.RegionLaw
import Derived.StillTailTactics
import Derived.WalkSmall
import Derived.Deep.DeepMust
import Derived.BigQuiet
import Derived.WalkLawsBesides
import Derived.WalkSpells
import Derived.LoopTactic
import Derived.Test.YtdefpcjlbganpaaSidesLaw
import Derived.Deep.DeepCutAuto
import Derived.Deep.CutBlock
namespace Go.Proofs.Ytdefpcjlbganpaa
open Go.RowKit Go.Shelf Go.BigFrame
attribute [local go_sem] Oper.semAt_some
attribute [local go_sem] World.cell?_alloc_some
set_option maxHeartbeats 400000 in
theorem box_any (a b c d : Int) (w : World) : Calls Try.prog 101 #[.int .i64 a, .int .i64 b, .int .i64 c, .int .i64 d] w fun e w' => e = .returned (Bx.v ⟨⟨a, b⟩, ⟨c, d⟩⟩) ∧ Below w.heap.size w w' := by
  go_enter Try.func101, Try.ntmps101
  go_wp2_with fail
  refine bodyPost_ret (v := Bx.v ⟨⟨a, b⟩, ⟨c, d⟩⟩) (by simp [results, Try.results101, go_sem]; done) rfl ⟨rfl, ?_⟩
  exact ((St.nil w).al _).b
set_option maxHeartbeats 400000 in
theorem chooseS_any (f : Bool) (s t : Sp) (w : World) : Calls Try.prog 122 #[.bool f, s.v, t.v] w fun e w' => e = .returned (if f then s else t).v ∧ Below w.heap.size w w' := by
  cases f
  · rw [if_neg (by simp)]
    go_enter Try.func122, Try.ntmps122
    go_wp2_with fail
    refine bodyPost_ret (v := t.v) (by simp [results, Try.results122, go_sem]; done) rfl ⟨rfl, ?_⟩
    exact ((((St.nil w).al _).al _).al _).b
  · rw [if_pos rfl]
    go_enter Try.func122, Try.ntmps122
    go_wp2_with fail
    refine bodyPost_ret (v := s.v) (by simp [results, Try.results122, go_sem]; done) rfl ⟨rfl, ?_⟩
    exact ((((St.nil w).al _).al _).al _).b
set_option maxHeartbeats 400000 in
theorem chooseB_any (f : Bool) (s t : Bx) (w : World) : Calls Try.prog 123 #[.bool f, s.v, t.v] w fun e w' => e = .returned (if f then s else t).v ∧ Below w.heap.size w w' := by
  cases f
  · rw [if_neg (by simp)]
    go_enter Try.func123, Try.ntmps123
    go_wp2_with fail
    refine bodyPost_ret (v := t.v) (by simp [results, Try.results123, go_sem]; done) rfl ⟨rfl, ?_⟩
    exact ((((St.nil w).al _).al _).al _).b
  · rw [if_pos rfl]
    go_enter Try.func123, Try.ntmps123
    go_wp2_with fail
    refine bodyPost_ret (v := s.v) (by simp [results, Try.results123, go_sem]; done) rfl ⟨rfl, ?_⟩
    exact ((((St.nil w).al _).al _).al _).b
/-- The middle of a span, and its halves. -/
def midS (s : Sp) : Int := (s.lo + s.hi) / 2
def hlo (s : Sp) : Sp := ⟨s.lo, midS s⟩
def hhi (s : Sp) : Sp := ⟨midS s + 1, s.hi⟩
set_option maxHeartbeats 1000000 in
theorem halves_any (s : Sp) (w : World) (h : okS s = true) : Calls Try.prog 121 #[s.v] w fun e w' => e = .returned (.tuple #[(hlo s).v, (hhi s).v]) ∧ Below w.heap.size w w' := by
  have hs := okS_sm h
  have h1 : Hid (wrap64 (s.lo + s.hi) = s.lo + s.hi) := w64 (by omega)
  have h2 : Hid (wrap64 ((s.lo + s.hi) / 2 + 1) = (s.lo + s.hi) / 2 + 1) := w64 (by omega)
  clear hs h
  obtain ⟨m, hm⟩ : ∃ m, (s.lo + s.hi) / 2 = m := ⟨_, rfl⟩
  have HM := Lib.hid hm
  rw [show hlo s = ⟨s.lo, m⟩ from by rw [hlo, midS, hm], show hhi s = ⟨m + 1, s.hi⟩ from by rw [hhi, midS, hm]]
  rw [hm] at h2
  clear hm
  go_enter Try.func121, Try.ntmps121
  go_wp2_with fail
  rw [h1.out, HM.out]
  clear HM h1
  go_region
  all_goals
    go_wp2_with fail
    refine bodyPost_ret (v := .tuple #[Sp.v ⟨s.lo, m⟩, Sp.v ⟨m + 1, s.hi⟩]) (by simp [results, Try.results121, go_sem, h2.out]) rfl ⟨rfl, ?_⟩
    exact (St.dr (St.al (St.al (St.al (St.nil w) _) _) _)).b
/-- How a span grows. -/
def grwS (s : Sp) (n : Int) : Sp := ⟨max (s.lo - min n 2097152) (-1048576), min (s.hi + min n 2097152) 1048576⟩
set_option maxHeartbeats 1000000 in
theorem growSpan_any (s : Sp) (n : Int) (w : World) (h : okS s = true) (h0 : 0 ≤ n) : Calls Try.prog 118 #[s.v, .int .i64 n] w fun e w' => e = .returned (grwS s n).v ∧ Below w.heap.size w w' := by
  have hs := okS_sm h
  obtain ⟨m, hm⟩ : ∃ m, min n 2097152 = m := ⟨_, rfl⟩
  have hm0 : 0 ≤ m ∧ m ≤ 2097152 := by omega
  have h1 : Hid (wrap64 (s.lo - m) = s.lo - m) := w64 (by omega)
  have h2 : Hid (wrap64 (s.hi + m) = s.hi + m) := w64 (by omega)
  have C := fun W => meetSpan_is ⟨s.lo - m, s.hi + m⟩ ⟨-1048576, 1048576⟩ W
  have e : grwS s n = mxS ⟨s.lo - m, s.hi + m⟩ ⟨-1048576, 1048576⟩ := by rw [grwS, mxS, hm]
  obtain ⟨X, hX⟩ : ∃ X, mxS ⟨s.lo - m, s.hi + m⟩ ⟨-1048576, 1048576⟩ = X := ⟨_, rfl⟩
  rw [e, hX]
  simp only [hX] at C
  have HM := Lib.hid hm
  have HC := Lib.hid C
  clear hm e hX hs h C
  by_cases hn : n ≤ 2097152
  · obtain rfl : m = n := by have := HM.out; omega
    clear HM
    go_enter Try.func118, Try.ntmps118
    go_wp2_with fail
    rw [h1.out, h2.out]
    refine (HC.out _).mono ?_
    rintro e w' ⟨rfl, rfl⟩
    go_wp2_with fail
    refine bodyPost_ret (v := X.v) (by simp [results, Try.results118, go_sem]) rfl ⟨rfl, ?_⟩
    exact (St.al (St.al (St.al (St.al (St.al (St.nil w) _) _) _) _) _).b
  · obtain rfl : m = 2097152 := by have := HM.out; omega
    clear HM
    go_enter Try.func118, Try.ntmps118
    go_wp2_with fail
    rw [h1.out, h2.out]
    refine (HC.out _).mono ?_
    rintro e w' ⟨rfl, rfl⟩
    go_wp2_with fail
    refine bodyPost_ret (v := X.v) (by simp [results, Try.results118, go_sem]) rfl ⟨rfl, ?_⟩
    exact (St.al (St.al (St.al (St.al (St.al (St.nil w) _) _) _) _) _).b
end Go.Proofs.Ytdefpcjlbganpaa
namespace Go.Proofs.Ytdefpcjlbganpaa
open Go.RowKit Go.Shelf Go.BigFrame
attribute [local go_sem] Oper.semAt_some
attribute [local go_sem] World.cell?_alloc_some
/-- A grown box. -/
def grwB (b : Bx) (n : Int) : Option Bx := if okB b && decide (0 ≤ n) then some ⟨grwS b.x n, grwS b.y n⟩ else none
set_option maxHeartbeats 4000000 in
theorem Grow_any (b : Bx) (n : Int) (w : World) : Calls Try.prog 49 #[b.v, .int .i64 n] w fun e w' => e = .returned (bxRes (grwB b n)) ∧ Below w.heap.size w w' := by
  have C1 := fun W => Proper_any b W
  cases hz : okB b
  · rw [hz] at C1
    rw [show grwB b n = none from by rw [grwB, hz]; rfl]
    clear hz
    go_enter Try.func49, Try.ntmps49
    go_wp2_with fail
    obtain ⟨W0, hW0⟩ : ∃ W0, ((w).alloc (.cells #[.int .i64 b.x.lo, .int .i64 b.x.hi, .int .i64 b.y.lo, .int .i64 b.y.hi] 60)).alloc (.cells #[.int .i64 (0), .int .i64 (0), .int .i64 (0), .int .i64 (0)] 60) = W0 := ⟨_, rfl⟩
    have S0 : St w W0 [(w.heap.size + 1, 0, .int .i64 (0)), (w.heap.size + 1, 1, .int .i64 (0)), (w.heap.size + 1, 2, .int .i64 (0)), (w.heap.size + 1, 3, .int .i64 (0)), (w.heap.size, 0, .int .i64 b.x.lo), (w.heap.size, 1, .int .i64 b.x.hi), (w.heap.size, 2, .int .i64 b.y.lo), (w.heap.size, 3, .int .i64 b.y.hi)] := by rw [← hW0]; exact (((St.nil w)).box #[.int .i64 b.x.lo, .int .i64 b.x.hi, .int .i64 b.y.lo, .int .i64 b.y.hi] 60 (w.heap.size) (by simp)).box #[.int .i64 (0), .int .i64 (0), .int .i64 (0), .int .i64 (0)] 60 (w.heap.size + 1) (by simp)
    rw [hW0]
    clear hW0
    obtain ⟨C, hC0, HC, LC, BC, hne⟩ := cls S0
    haveI := hne
    obtain ⟨c0, rfl⟩ : ∃ n : Wd C, W0 = n.w := ⟨⟨_, hC0⟩, rfl⟩
    have fC0 : ∀ n : Wd C, n.w.cell? ⟨w.heap.size + 1, 0, none⟩ = some (.int .i64 (0)) := fun n => (LC.out n).1.2.1
    have zC0 : ∀ n : Wd C, n.w.frozen? ⟨w.heap.size + 1, 0, none⟩ = false := fun n => (LC.out n).1.2.2
    have fC1 : ∀ n : Wd C, n.w.cell? ⟨w.heap.size + 1, 1, none⟩ = some (.int .i64 (0)) := fun n => (LC.out n).2.1.2.1
    have zC1 : ∀ n : Wd C, n.w.frozen? ⟨w.heap.size + 1, 1, none⟩ = false := fun n => (LC.out n).2.1.2.2
    have fC2 : ∀ n : Wd C, n.w.cell? ⟨w.heap.size + 1, 2, none⟩ = some (.int .i64 (0)) := fun n => (LC.out n).2.2.1.2.1
    have zC2 : ∀ n : Wd C, n.w.frozen? ⟨w.heap.size + 1, 2, none⟩ = false := fun n => (LC.out n).2.2.1.2.2
    have fC3 : ∀ n : Wd C, n.w.cell? ⟨w.heap.size + 1, 3, none⟩ = some (.int .i64 (0)) := fun n => (LC.out n).2.2.2.1.2.1
    have zC3 : ∀ n : Wd C, n.w.frozen? ⟨w.heap.size + 1, 3, none⟩ = false := fun n => (LC.out n).2.2.2.1.2.2
    have fC4 : ∀ n : Wd C, n.w.cell? ⟨w.heap.size, 0, none⟩ = some (.int .i64 b.x.lo) := fun n => (LC.out n).2.2.2.2.1.2.1
    have fC5 : ∀ n : Wd C, n.w.cell? ⟨w.heap.size, 1, none⟩ = some (.int .i64 b.x.hi) := fun n => (LC.out n).2.2.2.2.2.1.2.1
    have fC6 : ∀ n : Wd C, n.w.cell? ⟨w.heap.size, 2, none⟩ = some (.int .i64 b.y.lo) := fun n => (LC.out n).2.2.2.2.2.2.1.2.1
    have fC7 : ∀ n : Wd C, n.w.cell? ⟨w.heap.size, 3, none⟩ = some (.int .i64 b.y.hi) := fun n => (LC.out n).2.2.2.2.2.2.2.1.2.1
    clear S0 hC0
    have D1 := cin HC C1
    clear C1
    go_wp2_with (first | (go_at_call 53; with_reducible refine (D1 _).out.mono ?_; rintro e w' ⟨rfl, n, rfl⟩))
    refine bodyPost_ret (v := bxRes none) (by simp [results, Try.results49, go_sem, bxRes, bx0, fC0, fC1, fC2, fC3]) rfl ⟨rfl, ?_⟩
    exact below_set4 (BC.out _) _ _ _ _ _ (by omega)
  · rw [hz] at C1
    by_cases h0 : 0 ≤ n
    · obtain ⟨k1, k2⟩ := okB_iff.1 hz
      have C2 := fun W => growSpan_any b.x n W k1 h0
      have C3 := fun W => growSpan_any b.y n W k2 h0
      rw [show grwB b n = some ⟨grwS b.x n, grwS b.y n⟩ from by rw [grwB, hz, decide_eq_true h0]; rfl]
      obtain ⟨X, hX⟩ : ∃ X, grwS b.x n = X := ⟨_, rfl⟩
      obtain ⟨Y, hY⟩ : ∃ X, grwS b.y n = X := ⟨_, rfl⟩
      simp only [hX] at C2 ⊢
      simp only [hY] at C3 ⊢
      clear hz hX hY k1 k2
      go_enter Try.func49, Try.ntmps49
      go_wp2_with fail
      obtain ⟨W0, hW0⟩ : ∃ W0, ((w).alloc (.cells #[.int .i64 b.x.lo, .int .i64 b.x.hi, .int .i64 b.y.lo, .int .i64 b.y.hi] 60)).alloc (.cells #[.int .i64 (0), .int .i64 (0), .int .i64 (0), .int .i64 (0)] 60) = W0 := ⟨_, rfl⟩
      have S0 : St w W0 [(w.heap.size + 1, 0, .int .i64 (0)), (w.heap.size + 1, 1, .int .i64 (0)), (w.heap.size + 1, 2, .int .i64 (0)), (w.heap.size + 1, 3, .int .i64 (0)), (w.heap.size, 0, .int .i64 b.x.lo), (w.heap.size, 1, .int .i64 b.x.hi), (w.heap.size, 2, .int .i64 b.y.lo), (w.heap.size, 3, .int .i64 b.y.hi)] := by rw [← hW0]; exact (((St.nil w)).box #[.int .i64 b.x.lo, .int .i64 b.x.hi, .int .i64 b.y.lo, .int .i64 b.y.hi] 60 (w.heap.size) (by simp)).box #[.int .i64 (0), .int .i64 (0), .int .i64 (0), .int .i64 (0)] 60 (w.heap.size + 1) (by simp)
      rw [hW0]
      clear hW0
      obtain ⟨C, hC0, HC, LC, BC, hne⟩ := cls S0
      haveI := hne
      obtain ⟨c0, rfl⟩ : ∃ n : Wd C, W0 = n.w := ⟨⟨_, hC0⟩, rfl⟩
      have fC0 : ∀ n : Wd C, n.w.cell? ⟨w.heap.size + 1, 0, none⟩ = some (.int .i64 (0)) := fun n => (LC.out n).1.2.1
      have zC0 : ∀ n : Wd C, n.w.frozen? ⟨w.heap.size + 1, 0, none⟩ = false := fun n => (LC.out n).1.2.2
      have fC1 : ∀ n : Wd C, n.w.cell? ⟨w.heap.size + 1, 1, none⟩ = some (.int .i64 (0)) := fun n => (LC.out n).2.1.2.1
      have zC1 : ∀ n : Wd C, n.w.frozen? ⟨w.heap.size + 1, 1, none⟩ = false := fun n => (LC.out n).2.1.2.2
      have fC2 : ∀ n : Wd C, n.w.cell? ⟨w.heap.size + 1, 2, none⟩ = some (.int .i64 (0)) := fun n => (LC.out n).2.2.1.2.1
      have zC2 : ∀ n : Wd C, n.w.frozen? ⟨w.heap.size + 1, 2, none⟩ = false := fun n => (LC.out n).2.2.1.2.2
      have fC3 : ∀ n : Wd C, n.w.cell? ⟨w.heap.size + 1, 3, none⟩ = some (.int .i64 (0)) := fun n => (LC.out n).2.2.2.1.2.1
      have zC3 : ∀ n : Wd C, n.w.frozen? ⟨w.heap.size + 1, 3, none⟩ = false := fun n => (LC.out n).2.2.2.1.2.2
      have fC4 : ∀ n : Wd C, n.w.cell? ⟨w.heap.size, 0, none⟩ = some (.int .i64 b.x.lo) := fun n => (LC.out n).2.2.2.2.1.2.1
      have fC5 : ∀ n : Wd C, n.w.cell? ⟨w.heap.size, 1, none⟩ = some (.int .i64 b.x.hi) := fun n => (LC.out n).2.2.2.2.2.1.2.1
      have fC6 : ∀ n : Wd C, n.w.cell? ⟨w.heap.size, 2, none⟩ = some (.int .i64 b.y.lo) := fun n => (LC.out n).2.2.2.2.2.2.1.2.1
      have fC7 : ∀ n : Wd C, n.w.cell? ⟨w.heap.size, 3, none⟩ = some (.int .i64 b.y.hi) := fun n => (LC.out n).2.2.2.2.2.2.2.1.2.1
      clear S0 hC0
      have D1 := cin HC C1
      have D2 := cin HC C2
      have D3 := cin HC C3
      clear C1 C2 C3
      go_wp2_with (first | (go_at_call 53; with_reducible refine (D1 _).out.mono ?_; rintro e w' ⟨rfl, n, rfl⟩))
      refine wp_region_in_tail 8 C (HC.out _ _ (Wd.h _) (below_dr _)) (by kernel_rfl) (by kernel_rfl) ?_
      simp only [List.take_succ_cons, List.take_zero, List.drop_succ_cons, List.drop_zero]
      repeat (go_big_quiet_step (first | with_reducible exact (D2 _).out | with_reducible exact (D3 _).out))
      refine wpQuiet_nil ?_
      intro wx hwx
      obtain ⟨n2, rfl⟩ : ∃ n : Wd C, wx = n.w := ⟨⟨wx, hwx⟩, rfl⟩
      clear hwx
      go_wp2_with fail
      refine bodyPost_ret (v := bxRes (some ⟨X, Y⟩)) (by simp [results, Try.results49, go_sem, bxRes, bx0, fC0, fC1, fC2, fC3]) rfl ⟨rfl, ?_⟩
      exact below_set4 (BC.out _) _ _ _ _ _ (by omega)
    · rw [show grwB b n = none from by rw [grwB, hz, decide_eq_false h0]; rfl]
      clear hz
      go_enter Try.func49, Try.ntmps49
      go_wp2_with fail
      obtain ⟨W0, hW0⟩ : ∃ W0, ((w).alloc (.cells #[.int .i64 b.x.lo, .int .i64 b.x.hi, .int .i64 b.y.lo, .int .i64 b.y.hi] 60)).alloc (.cells #[.int .i64 (0), .int .i64 (0), .int .i64 (0), .int .i64 (0)] 60) = W0 := ⟨_, rfl⟩
      have S0 : St w W0 [(w.heap.size + 1, 0, .int .i64 (0)), (w.heap.size + 1, 1, .int .i64 (0)), (w.heap.size + 1, 2, .int .i64 (0)), (w.heap.size + 1, 3, .int .i64 (0)), (w.heap.size, 0, .int .i64 b.x.lo), (w.heap.size, 1, .int .i64 b.x.hi), (w.heap.size, 2, .int .i64 b.y.lo), (w.heap.size, 3, .int .i64 b.y.hi)] := by rw [← hW0]; exact (((St.nil w)).box #[.int .i64 b.x.lo, .int .i64 b.x.hi, .int .i64 b.y.lo, .int .i64 b.y.hi] 60 (w.heap.size) (by simp)).box #[.int .i64 (0), .int .i64 (0), .int .i64 (0), .int .i64 (0)] 60 (w.heap.size + 1) (by simp)
      rw [hW0]
      clear hW0
      obtain ⟨C, hC0, HC, LC, BC, hne⟩ := cls S0
      haveI := hne
      obtain ⟨c0, rfl⟩ : ∃ n : Wd C, W0 = n.w := ⟨⟨_, hC0⟩, rfl⟩
      have fC0 : ∀ n : Wd C, n.w.cell? ⟨w.heap.size + 1, 0, none⟩ = some (.int .i64 (0)) := fun n => (LC.out n).1.2.1
      have zC0 : ∀ n : Wd C, n.w.frozen? ⟨w.heap.size + 1, 0, none⟩ = false := fun n => (LC.out n).1.2.2
      have fC1 : ∀ n : Wd C, n.w.cell? ⟨w.heap.size + 1, 1, none⟩ = some (.int .i64 (0)) := fun n => (LC.out n).2.1.2.1
      have zC1 : ∀ n : Wd C, n.w.frozen? ⟨w.heap.size + 1, 1, none⟩ = false := fun n => (LC.out n).2.1.2.2
      have fC2 : ∀ n : Wd C, n.w.cell? ⟨w.heap.size + 1, 2, none⟩ = some (.int .i64 (0)) := fun n => (LC.out n).2.2.1.2.1
      have zC2 : ∀ n : Wd C, n.w.frozen? ⟨w.heap.size + 1, 2, none⟩ = false := fun n => (LC.out n).2.2.1.2.2
      have fC3 : ∀ n : Wd C, n.w.cell? ⟨w.heap.size + 1, 3, none⟩ = some (.int .i64 (0)) := fun n => (LC.out n).2.2.2.1.2.1
      have zC3 : ∀ n : Wd C, n.w.frozen? ⟨w.heap.size + 1, 3, none⟩ = false := fun n => (LC.out n).2.2.2.1.2.2
      have fC4 : ∀ n : Wd C, n.w.cell? ⟨w.heap.size, 0, none⟩ = some (.int .i64 b.x.lo) := fun n => (LC.out n).2.2.2.2.1.2.1
      have fC5 : ∀ n : Wd C, n.w.cell? ⟨w.heap.size, 1, none⟩ = some (.int .i64 b.x.hi) := fun n => (LC.out n).2.2.2.2.2.1.2.1
      have fC6 : ∀ n : Wd C, n.w.cell? ⟨w.heap.size, 2, none⟩ = some (.int .i64 b.y.lo) := fun n => (LC.out n).2.2.2.2.2.2.1.2.1
      have fC7 : ∀ n : Wd C, n.w.cell? ⟨w.heap.size, 3, none⟩ = some (.int .i64 b.y.hi) := fun n => (LC.out n).2.2.2.2.2.2.2.1.2.1
      clear S0 hC0
      have D1 := cin HC C1
      clear C1
      go_wp2_with (first | (go_at_call 53; with_reducible refine (D1 _).out.mono ?_; rintro e w' ⟨rfl, n, rfl⟩))
      refine bodyPost_ret (v := bxRes none) (by simp [results, Try.results49, go_sem, bxRes, bx0, fC0, fC1, fC2, fC3]) rfl ⟨rfl, ?_⟩
      exact below_set4 (BC.out _) _ _ _ _ _ (by omega)
theorem below_set4' {N : Nat} {w W : World} (h : Below N w W) (b : Nat) (v1 v2 v3 v4 : Value) (hb : N ≤ b) : Below N w ((((W.setCell ⟨b, 0, none⟩ v1).setCell ⟨b, 1, none⟩ v2).setCell ⟨b, 2, none⟩ v3).setCell ⟨b, 3, none⟩ v4) :=
  h.setCell (p := ⟨b, 0, none⟩) hb v1 |>.setCell (p := ⟨b, 1, none⟩) hb v2 |>.setCell (p := ⟨b, 2, none⟩) hb v3 |>.setCell (p := ⟨b, 3, none⟩) hb v4
/-- The halves of a box. -/
def cutB (b : Bx) : Option (Bx × Bx) :=
  if okB b && !sgl b then some (if b.y.hi - b.y.lo ≤ b.x.hi - b.x.lo then (⟨hlo b.x, b.y⟩, ⟨hhi b.x, b.y⟩) else (⟨b.x, hlo b.y⟩, ⟨b.x, hhi b.y⟩)) else none
def bx2Res (o : Option (Bx × Bx)) : Value := .tuple #[(o.getD (bx0, bx0)).1.v, (o.getD (bx0, bx0)).2.v, .bool o.isSome]
set_option maxRecDepth 100000 in
set_option maxHeartbeats 8000000 in
theorem Cut_any (b : Bx) (w : World) : Calls Try.prog 51 #[b.v] w fun e w' => e = .returned (bx2Res (cutB b)) ∧ Below w.heap.size w w' := by
  have C1 := fun W => Proper_any b W
  have C2 := fun W => single_any b W
  cases hz : okB b
  · rw [hz] at C1
    rw [show cutB b = none from by rw [cutB, hz]; rfl]
    clear hz
    go_enter Try.func51, Try.ntmps51
    go_wp2_with fail
    obtain ⟨W0, hW0⟩ : ∃ W0, (((w).alloc (.cells #[.int .i64 b.x.lo, .int .i64 b.x.hi, .int .i64 b.y.lo, .int .i64 b.y.hi] 60)).alloc (.cells #[.int .i64 (0), .int .i64 (0), .int .i64 (0), .int .i64 (0)] 60)).alloc (.cells #[.int .i64 (0), .int .i64 (0), .int .i64 (0), .int .i64 (0)] 60) = W0 := ⟨_, rfl⟩
    have S0 : St w W0 [(w.heap.size + 1 + 1, 0, .int .i64 (0)), (w.heap.size + 1 + 1, 1, .int .i64 (0)), (w.heap.size + 1 + 1, 2, .int .i64 (0)), (w.heap.size + 1 + 1, 3, .int .i64 (0)), (w.heap.size + 1, 0, .int .i64 (0)), (w.heap.size + 1, 1, .int .i64 (0)), (w.heap.size + 1, 2, .int .i64 (0)), (w.heap.size + 1, 3, .int .i64 (0)), (w.heap.size, 0, .int .i64 b.x.lo), (w.heap.size, 1, .int .i64 b.x.hi), (w.heap.size, 2, .int .i64 b.y.lo), (w.heap.size, 3, .int .i64 b.y.hi)] := by rw [← hW0]; exact ((((St.nil w)).box #[.int .i64 b.x.lo, .int .i64 b.x.hi, .int .i64 b.y.lo, .int .i64 b.y.hi] 60 (w.heap.size) (by simp)).box #[.int .i64 (0), .int .i64 (0), .int .i64 (0), .int .i64 (0)] 60 (w.heap.size + 1) (by simp)).box #[.int .i64 (0), .int .i64 (0), .int .i64 (0), .int .i64 (0)] 60 (w.heap.size + 1 + 1) (by simp)
    rw [hW0]
    clear hW0
    obtain ⟨C, hC0, HC, LC, BC, hne⟩ := cls S0
    haveI := hne
    obtain ⟨c0, rfl⟩ : ∃ n : Wd C, W0 = n.w := ⟨⟨_, hC0⟩, rfl⟩
    have fC0 : ∀ n : Wd C, n.w.cell? ⟨w.heap.size + 1 + 1, 0, none⟩ = some (.int .i64 (0)) := fun n => (LC.out n).1.2.1
    have zC0 : ∀ n : Wd C, n.w.frozen? ⟨w.heap.size + 1 + 1, 0, none⟩ = false := fun n => (LC.out n).1.2.2
    have fC1 : ∀ n : Wd C, n.w.cell? ⟨w.heap.size + 1 + 1, 1, none⟩ = some (.int .i64 (0)) := fun n => (LC.out n).2.1.2.1
    have zC1 : ∀ n : Wd C, n.w.frozen? ⟨w.heap.size + 1 + 1, 1, none⟩ = false := fun n => (LC.out n).2.1.2.2
    have fC2 : ∀ n : Wd C, n.w.cell? ⟨w.heap.size + 1 + 1, 2, none⟩ = some (.int .i64 (0)) := fun n => (LC.out n).2.2.1.2.1
    have zC2 : ∀ n : Wd C, n.w.frozen? ⟨w.heap.size + 1 + 1, 2, none⟩ = false := fun n => (LC.out n).2.2.1.2.2
    have fC3 : ∀ n : Wd C, n.w.cell? ⟨w.heap.size + 1 + 1, 3, none⟩ = some (.int .i64 (0)) := fun n => (LC.out n).2.2.2.1.2.1
    have zC3 : ∀ n : Wd C, n.w.frozen? ⟨w.heap.size + 1 + 1, 3, none⟩ = false := fun n => (LC.out n).2.2.2.1.2.2
    have fC4 : ∀ n : Wd C, n.w.cell? ⟨w.heap.size + 1, 0, none⟩ = some (.int .i64 (0)) := fun n => (LC.out n).2.2.2.2.1.2.1
    have zC4 : ∀ n : Wd C, n.w.frozen? ⟨w.heap.size + 1, 0, none⟩ = false := fun n => (LC.out n).2.2.2.2.1.2.2
    have fC5 : ∀ n : Wd C, n.w.cell? ⟨w.heap.size + 1, 1, none⟩ = some (.int .i64 (0)) := fun n => (LC.out n).2.2.2.2.2.1.2.1
    have zC5 : ∀ n : Wd C, n.w.frozen? ⟨w.heap.size + 1, 1, none⟩ = false := fun n => (LC.out n).2.2.2.2.2.1.2.2
    have fC6 : ∀ n : Wd C, n.w.cell? ⟨w.heap.size + 1, 2, none⟩ = some (.int .i64 (0)) := fun n => (LC.out n).2.2.2.2.2.2.1.2.1
    have zC6 : ∀ n : Wd C, n.w.frozen? ⟨w.heap.size + 1, 2, none⟩ = false := fun n => (LC.out n).2.2.2.2.2.2.1.2.2
    have fC7 : ∀ n : Wd C, n.w.cell? ⟨w.heap.size + 1, 3, none⟩ = some (.int .i64 (0)) := fun n => (LC.out n).2.2.2.2.2.2.2.1.2.1
    have zC7 : ∀ n : Wd C, n.w.frozen? ⟨w.heap.size + 1, 3, none⟩ = false := fun n => (LC.out n).2.2.2.2.2.2.2.1.2.2
    have fC8 : ∀ n : Wd C, n.w.cell? ⟨w.heap.size, 0, none⟩ = some (.int .i64 b.x.lo) := fun n => (LC.out n).2.2.2.2.2.2.2.2.1.2.1
    have fC9 : ∀ n : Wd C, n.w.cell? ⟨w.heap.size, 1, none⟩ = some (.int .i64 b.x.hi) := fun n => (LC.out n).2.2.2.2.2.2.2.2.2.1.2.1
    have fC10 : ∀ n : Wd C, n.w.cell? ⟨w.heap.size, 2, none⟩ = some (.int .i64 b.y.lo) := fun n => (LC.out n).2.2.2.2.2.2.2.2.2.2.1.2.1
    have fC11 : ∀ n : Wd C, n.w.cell? ⟨w.heap.size, 3, none⟩ = some (.int .i64 b.y.hi) := fun n => (LC.out n).2.2.2.2.2.2.2.2.2.2.2.1.2.1
    clear S0 hC0
    have D1 := cin HC C1
    clear C1
    go_wp2_with (first | (go_at_call 53; with_reducible refine (D1 _).out.mono ?_; rintro e w' ⟨rfl, n, rfl⟩))
    refine bodyPost_ret (v := bx2Res none) (by simp [results, Try.results51, go_sem, bx2Res, bx0, fC0, fC1, fC2, fC3, fC4, fC5, fC6, fC7]) rfl ⟨rfl, ?_⟩
    exact below_set4' (below_set4' (BC.out _) _ _ _ _ _ (by omega)) _ _ _ _ _ (by omega)
  · cases hs : sgl b
    · rw [hz] at C1
      rw [hs] at C2
      obtain ⟨k1, k2⟩ := okB_iff.1 hz
      have C3 := fun W => long_any b.x W k1
      have C4 := fun W => long_any b.y W k2
      obtain ⟨u, hu⟩ : ∃ u, b.x.hi - b.x.lo = u := ⟨_, rfl⟩
      obtain ⟨v, hv⟩ : ∃ v, b.y.hi - b.y.lo = v := ⟨_, rfl⟩
      obtain ⟨f, hf⟩ : ∃ f, decide (v ≤ u) = f := ⟨_, rfl⟩
      have C5 := fun W => chooseS_any f b.x b.y W
      obtain ⟨X, hX⟩ : ∃ X, (if f = true then b.x else b.y) = X := ⟨_, rfl⟩
      have kX : okS X = true := by rw [← hX]; split <;> assumption
      have C6 := fun W => halves_any X W kX
      obtain ⟨L, hL⟩ : ∃ L, hlo X = L := ⟨_, rfl⟩
      obtain ⟨H, hH⟩ : ∃ L, hhi X = L := ⟨_, rfl⟩
      have C7 := fun W => chooseB_any f ⟨L, b.y⟩ ⟨b.x, L⟩ W
      have C8 := fun W => chooseB_any f ⟨H, b.y⟩ ⟨b.x, H⟩ W
      obtain ⟨P, hP⟩ : ∃ P, (if f = true then (⟨L, b.y⟩ : Bx) else ⟨b.x, L⟩) = P := ⟨_, rfl⟩
      obtain ⟨Q, hQ⟩ : ∃ P, (if f = true then (⟨H, b.y⟩ : Bx) else ⟨b.x, H⟩) = P := ⟨_, rfl⟩
      have HR : Hid (cutB b = some (P, Q)) := by
        unfold Hid
        rw [cutB, hz, hs, hu, hv, ← hP, ← hQ, ← hL, ← hH, ← hX, ← hf]
        by_cases h : v ≤ u <;> simp [h]
      rw [HR.out]
      simp only [hu] at C3
      simp only [hv] at C4
      simp only [hX] at C5
      simp only [hL, hH] at C6
      simp only [hP] at C7
      simp only [hQ] at C8
      have HF := Lib.hid hf
      clear HR hz hs hu hv hX kX hL hH hP hQ k1 k2 hf
      go_enter Try.func51, Try.ntmps51
      go_wp2_with fail
      obtain ⟨W0, hW0⟩ : ∃ W0, (((w).alloc (.cells #[.int .i64 b.x.lo, .int .i64 b.x.hi, .int .i64 b.y.lo, .int .i64 b.y.hi] 60)).alloc (.cells #[.int .i64 (0), .int .i64 (0), .int .i64 (0), .int .i64 (0)] 60)).alloc (.cells #[.int .i64 (0), .int .i64 (0), .int .i64 (0), .int .i64 (0)] 60) = W0 := ⟨_, rfl⟩
      have S0 : St w W0 [(w.heap.size + 1 + 1, 0, .int .i64 (0)), (w.heap.size + 1 + 1, 1, .int .i64 (0)), (w.heap.size + 1 + 1, 2, .int .i64 (0)), (w.heap.size + 1 + 1, 3, .int .i64 (0)), (w.heap.size + 1, 0, .int .i64 (0)), (w.heap.size + 1, 1, .int .i64 (0)), (w.heap.size + 1, 2, .int .i64 (0)), (w.heap.size + 1, 3, .int .i64 (0)), (w.heap.size, 0, .int .i64 b.x.lo), (w.heap.size, 1, .int .i64 b.x.hi), (w.heap.size, 2, .int .i64 b.y.lo), (w.heap.size, 3, .int .i64 b.y.hi)] := by rw [← hW0]; exact ((((St.nil w)).box #[.int .i64 b.x.lo, .int .i64 b.x.hi, .int .i64 b.y.lo, .int .i64 b.y.hi] 60 (w.heap.size) (by simp)).box #[.int .i64 (0), .int .i64 (0), .int .i64 (0), .int .i64 (0)] 60 (w.heap.size + 1) (by simp)).box #[.int .i64 (0), .int .i64 (0), .int .i64 (0), .int .i64 (0)] 60 (w.heap.size + 1 + 1) (by simp)
      rw [hW0]
      clear hW0
      obtain ⟨C, hC0, HC, LC, BC, hne⟩ := cls S0
      haveI := hne
      obtain ⟨c0, rfl⟩ : ∃ n : Wd C, W0 = n.w := ⟨⟨_, hC0⟩, rfl⟩
      have fC0 : ∀ n : Wd C, n.w.cell? ⟨w.heap.size + 1 + 1, 0, none⟩ = some (.int .i64 (0)) := fun n => (LC.out n).1.2.1
      have zC0 : ∀ n : Wd C, n.w.frozen? ⟨w.heap.size + 1 + 1, 0, none⟩ = false := fun n => (LC.out n).1.2.2
      have fC1 : ∀ n : Wd C, n.w.cell? ⟨w.heap.size + 1 + 1, 1, none⟩ = some (.int .i64 (0)) := fun n => (LC.out n).2.1.2.1
      have zC1 : ∀ n : Wd C, n.w.frozen? ⟨w.heap.size + 1 + 1, 1, none⟩ = false := fun n => (LC.out n).2.1.2.2
      have fC2 : ∀ n : Wd C, n.w.cell? ⟨w.heap.size + 1 + 1, 2, none⟩ = some (.int .i64 (0)) := fun n => (LC.out n).2.2.1.2.1
      have zC2 : ∀ n : Wd C, n.w.frozen? ⟨w.heap.size + 1 + 1, 2, none⟩ = false := fun n => (LC.out n).2.2.1.2.2
      have fC3 : ∀ n : Wd C, n.w.cell? ⟨w.heap.size + 1 + 1, 3, none⟩ = some (.int .i64 (0)) := fun n => (LC.out n).2.2.2.1.2.1
      have zC3 : ∀ n : Wd C, n.w.frozen? ⟨w.heap.size + 1 + 1, 3, none⟩ = false := fun n => (LC.out n).2.2.2.1.2.2
      have fC4 : ∀ n : Wd C, n.w.cell? ⟨w.heap.size + 1, 0, none⟩ = some (.int .i64 (0)) := fun n => (LC.out n).2.2.2.2.1.2.1
      have zC4 : ∀ n : Wd C, n.w.frozen? ⟨w.heap.size + 1, 0, none⟩ = false := fun n => (LC.out n).2.2.2.2.1.2.2
      have fC5 : ∀ n : Wd C, n.w.cell? ⟨w.heap.size + 1, 1, none⟩ = some (.int .i64 (0)) := fun n => (LC.out n).2.2.2.2.2.1.2.1
      have zC5 : ∀ n : Wd C, n.w.frozen? ⟨w.heap.size + 1, 1, none⟩ = false := fun n => (LC.out n).2.2.2.2.2.1.2.2
      have fC6 : ∀ n : Wd C, n.w.cell? ⟨w.heap.size + 1, 2, none⟩ = some (.int .i64 (0)) := fun n => (LC.out n).2.2.2.2.2.2.1.2.1
      have zC6 : ∀ n : Wd C, n.w.frozen? ⟨w.heap.size + 1, 2, none⟩ = false := fun n => (LC.out n).2.2.2.2.2.2.1.2.2
      have fC7 : ∀ n : Wd C, n.w.cell? ⟨w.heap.size + 1, 3, none⟩ = some (.int .i64 (0)) := fun n => (LC.out n).2.2.2.2.2.2.2.1.2.1
      have zC7 : ∀ n : Wd C, n.w.frozen? ⟨w.heap.size + 1, 3, none⟩ = false := fun n => (LC.out n).2.2.2.2.2.2.2.1.2.2
      have fC8 : ∀ n : Wd C, n.w.cell? ⟨w.heap.size, 0, none⟩ = some (.int .i64 b.x.lo) := fun n => (LC.out n).2.2.2.2.2.2.2.2.1.2.1
      have fC9 : ∀ n : Wd C, n.w.cell? ⟨w.heap.size, 1, none⟩ = some (.int .i64 b.x.hi) := fun n => (LC.out n).2.2.2.2.2.2.2.2.2.1.2.1
      have fC10 : ∀ n : Wd C, n.w.cell? ⟨w.heap.size, 2, none⟩ = some (.int .i64 b.y.lo) := fun n => (LC.out n).2.2.2.2.2.2.2.2.2.2.1.2.1
      have fC11 : ∀ n : Wd C, n.w.cell? ⟨w.heap.size, 3, none⟩ = some (.int .i64 b.y.hi) := fun n => (LC.out n).2.2.2.2.2.2.2.2.2.2.2.1.2.1
      clear S0 hC0
      have D1 := cin HC C1
      have D2 := cin HC C2
      have D3 := cin HC C3
      have D4 := cin HC C4
      have D5 := cin HC C5
      have D6 := cin HC C6
      clear C1 C2 C3 C4 C5 C6
      go_wp2_with (first | (go_at_call 53; with_reducible refine (D1 _).out.mono ?_; rintro e w' ⟨rfl, n, rfl⟩) | (go_at_call 119; with_reducible refine (D2 _).out.mono ?_; rintro e w' ⟨rfl, n, rfl⟩))
      refine wp_region_in C (HC.out _ _ (Wd.h _) (below_dr _)) (by kernel_rfl) (by kernel_rfl) ?_
      repeat (go_big_quiet_step (first | with_reducible exact (D3 _).out | with_reducible exact (D4 _).out))
      refine wpQuiet_nil ?_
      intro wx hwx
      obtain ⟨n2, rfl⟩ : ∃ n : Wd C, wx = n.w := ⟨⟨wx, hwx⟩, rfl⟩
      clear hwx
      rw [HF.out]
      clear HF D1 D2 D3 D4
      go_wp2_with (first | (go_at_call 122; with_reducible refine (D5 _).out.mono ?_; rintro e w' ⟨rfl, n, rfl⟩) | (go_at_call 121; with_reducible refine (D6 _).out.mono ?_; rintro e w' ⟨rfl, n, rfl⟩))
      clear D5 D6
      obtain ⟨W0, hW0⟩ : ∃ W0, ((n.w).alloc (.cells #[.int .i64 L.lo, .int .i64 L.hi] 58)).alloc (.cells #[.int .i64 H.lo, .int .i64 H.hi] 58) = W0 := ⟨_, rfl⟩
      have S0 : St w W0 [(n.w.heap.size + 1, 0, .int .i64 H.lo), (n.w.heap.size + 1, 1, .int .i64 H.hi), (n.w.heap.size, 0, .int .i64 L.lo), (n.w.heap.size, 1, .int .i64 L.hi), (w.heap.size + 1 + 1, 0, .int .i64 (0)), (w.heap.size + 1 + 1, 1, .int .i64 (0)), (w.heap.size + 1 + 1, 2, .int .i64 (0)), (w.heap.size + 1 + 1, 3, .int .i64 (0)), (w.heap.size + 1, 0, .int .i64 (0)), (w.heap.size + 1, 1, .int .i64 (0)), (w.heap.size + 1, 2, .int .i64 (0)), (w.heap.size + 1, 3, .int .i64 (0)), (w.heap.size, 0, .int .i64 b.x.lo), (w.heap.size, 1, .int .i64 b.x.hi), (w.heap.size, 2, .int .i64 b.y.lo), (w.heap.size, 3, .int .i64 b.y.hi)] := by rw [← hW0]; exact (((⟨BC.out n, LC.out n⟩ : St w n.w _)).box #[.int .i64 L.lo, .int .i64 L.hi] 58 (n.w.heap.size) (by simp)).box #[.int .i64 H.lo, .int .i64 H.hi] 58 (n.w.heap.size + 1) (by simp)
      rw [hW0]
      clear hW0
      obtain ⟨kD, hkk⟩ : ∃ k, n.w.heap.size = k := ⟨_, rfl⟩
      rw [hkk] at S0 ⊢
      have eD1 : kD ≠ w.heap.size + 1 + 1 := by have h := (LC.out n).1.1; omega
      have dD1 : w.heap.size + 1 + 1 ≠ kD := Ne.symm eD1
      have eD2 : kD ≠ w.heap.size + 1 := by have h := (LC.out n).2.2.2.2.1.1; omega
      have dD2 : w.heap.size + 1 ≠ kD := Ne.symm eD2
      clear hkk
      obtain ⟨D, hC0, HD, LD, BD, hne⟩ := cls S0
      haveI := hne
      obtain ⟨d0, rfl⟩ : ∃ n : Wd D, W0 = n.w := ⟨⟨_, hC0⟩, rfl⟩
      have fD0 : ∀ n : Wd D, n.w.cell? ⟨kD + 1, 0, none⟩ = some (.int .i64 H.lo) := fun n => (LD.out n).1.2.1
      have fD1 : ∀ n : Wd D, n.w.cell? ⟨kD + 1, 1, none⟩ = some (.int .i64 H.hi) := fun n => (LD.out n).2.1.2.1
      have fD2 : ∀ n : Wd D, n.w.cell? ⟨kD, 0, none⟩ = some (.int .i64 L.lo) := fun n => (LD.out n).2.2.1.2.1
      have fD3 : ∀ n : Wd D, n.w.cell? ⟨kD, 1, none⟩ = some (.int .i64 L.hi) := fun n => (LD.out n).2.2.2.1.2.1
      have fD4 : ∀ n : Wd D, n.w.cell? ⟨w.heap.size + 1 + 1, 0, none⟩ = some (.int .i64 (0)) := fun n => (LD.out n).2.2.2.2.1.2.1
      have zD4 : ∀ n : Wd D, n.w.frozen? ⟨w.heap.size + 1 + 1, 0, none⟩ = false := fun n => (LD.out n).2.2.2.2.1.2.2
      have fD5 : ∀ n : Wd D, n.w.cell? ⟨w.heap.size + 1 + 1, 1, none⟩ = some (.int .i64 (0)) := fun n => (LD.out n).2.2.2.2.2.1.2.1
      have zD5 : ∀ n : Wd D, n.w.frozen? ⟨w.heap.size + 1 + 1, 1, none⟩ = false := fun n => (LD.out n).2.2.2.2.2.1.2.2
      have fD6 : ∀ n : Wd D, n.w.cell? ⟨w.heap.size + 1 + 1, 2, none⟩ = some (.int .i64 (0)) := fun n => (LD.out n).2.2.2.2.2.2.1.2.1
      have zD6 : ∀ n : Wd D, n.w.frozen? ⟨w.heap.size + 1 + 1, 2, none⟩ = false := fun n => (LD.out n).2.2.2.2.2.2.1.2.2
      have fD7 : ∀ n : Wd D, n.w.cell? ⟨w.heap.size + 1 + 1, 3, none⟩ = some (.int .i64 (0)) := fun n => (LD.out n).2.2.2.2.2.2.2.1.2.1
      have zD7 : ∀ n : Wd D, n.w.frozen? ⟨w.heap.size + 1 + 1, 3, none⟩ = false := fun n => (LD.out n).2.2.2.2.2.2.2.1.2.2
      have fD8 : ∀ n : Wd D, n.w.cell? ⟨w.heap.size + 1, 0, none⟩ = some (.int .i64 (0)) := fun n => (LD.out n).2.2.2.2.2.2.2.2.1.2.1
      have zD8 : ∀ n : Wd D, n.w.frozen? ⟨w.heap.size + 1, 0, none⟩ = false := fun n => (LD.out n).2.2.2.2.2.2.2.2.1.2.2
      have fD9 : ∀ n : Wd D, n.w.cell? ⟨w.heap.size + 1, 1, none⟩ = some (.int .i64 (0)) := fun n => (LD.out n).2.2.2.2.2.2.2.2.2.1.2.1
      have zD9 : ∀ n : Wd D, n.w.frozen? ⟨w.heap.size + 1, 1, none⟩ = false := fun n => (LD.out n).2.2.2.2.2.2.2.2.2.1.2.2
      have fD10 : ∀ n : Wd D, n.w.cell? ⟨w.heap.size + 1, 2, none⟩ = some (.int .i64 (0)) := fun n => (LD.out n).2.2.2.2.2.2.2.2.2.2.1.2.1
      have zD10 : ∀ n : Wd D, n.w.frozen? ⟨w.heap.size + 1, 2, none⟩ = false := fun n => (LD.out n).2.2.2.2.2.2.2.2.2.2.1.2.2
      have fD11 : ∀ n : Wd D, n.w.cell? ⟨w.heap.size + 1, 3, none⟩ = some (.int .i64 (0)) := fun n => (LD.out n).2.2.2.2.2.2.2.2.2.2.2.1.2.1
      have zD11 : ∀ n : Wd D, n.w.frozen? ⟨w.heap.size + 1, 3, none⟩ = false := fun n => (LD.out n).2.2.2.2.2.2.2.2.2.2.2.1.2.2
      have fD12 : ∀ n : Wd D, n.w.cell? ⟨w.heap.size, 0, none⟩ = some (.int .i64 b.x.lo) := fun n => (LD.out n).2.2.2.2.2.2.2.2.2.2.2.2.1.2.1
      have fD13 : ∀ n : Wd D, n.w.cell? ⟨w.heap.size, 1, none⟩ = some (.int .i64 b.x.hi) := fun n => (LD.out n).2.2.2.2.2.2.2.2.2.2.2.2.2.1.2.1
      have fD14 : ∀ n : Wd D, n.w.cell? ⟨w.heap.size, 2, none⟩ = some (.int .i64 b.y.lo) := fun n => (LD.out n).2.2.2.2.2.2.2.2.2.2.2.2.2.2.1.2.1
      have fD15 : ∀ n : Wd D, n.w.cell? ⟨w.heap.size, 3, none⟩ = some (.int .i64 b.y.hi) := fun n => (LD.out n).2.2.2.2.2.2.2.2.2.2.2.2.2.2.2.1.2.1
      clear S0 hC0
      have D7 := cin HD C7
      clear C7
      go_wp2_with (first | (go_at_call 123; with_reducible refine (D7 _).out.mono ?_; rintro e w' ⟨rfl, n, rfl⟩))
      obtain ⟨W0, hW0⟩ : ∃ W0, (n.w).alloc (.cells #[.int .i64 P.x.lo, .int .i64 P.x.hi, .int .i64 P.y.lo, .int .i64 P.y.hi] 60) = W0 := ⟨_, rfl⟩
      have S0 : St w W0 [(n.w.heap.size, 0, .int .i64 P.x.lo), (n.w.heap.size, 1, .int .i64 P.x.hi), (n.w.heap.size, 2, .int .i64 P.y.lo), (n.w.heap.size, 3, .int .i64 P.y.hi), (kD + 1, 0, .int .i64 H.lo), (kD + 1, 1, .int .i64 H.hi), (kD, 0, .int .i64 L.lo), (kD, 1, .int .i64 L.hi), (w.heap.size + 1 + 1, 0, .int .i64 (0)), (w.heap.size + 1 + 1, 1, .int .i64 (0)), (w.heap.size + 1 + 1, 2, .int .i64 (0)), (w.heap.size + 1 + 1, 3, .int .i64 (0)), (w.heap.size + 1, 0, .int .i64 (0)), (w.heap.size + 1, 1, .int .i64 (0)), (w.heap.size + 1, 2, .int .i64 (0)), (w.heap.size + 1, 3, .int .i64 (0)), (w.heap.size, 0, .int .i64 b.x.lo), (w.heap.size, 1, .int .i64 b.x.hi), (w.heap.size, 2, .int .i64 b.y.lo), (w.heap.size, 3, .int .i64 b.y.hi)] := by rw [← hW0]; exact ((⟨BD.out n, LD.out n⟩ : St w n.w _)).box #[.int .i64 P.x.lo, .int .i64 P.x.hi, .int .i64 P.y.lo, .int .i64 P.y.hi] 60 (n.w.heap.size) (by simp)
      rw [hW0]
      clear hW0
      obtain ⟨kE, hkk⟩ : ∃ k, n.w.heap.size = k := ⟨_, rfl⟩
      rw [hkk] at S0 ⊢
      have eE1 : kE ≠ w.heap.size + 1 + 1 := by have h := (LD.out n).2.2.2.2.1.1; omega
      have dE1 : w.heap.size + 1 + 1 ≠ kE := Ne.symm eE1
      have eE2 : kE ≠ w.heap.size + 1 := by have h := (LD.out n).2.2.2.2.2.2.2.2.1.1; omega
      have dE2 : w.heap.size + 1 ≠ kE := Ne.symm eE2
      clear hkk
      obtain ⟨E, hC0, HE, LE, BE, hne⟩ := cls S0
      haveI := hne
      obtain ⟨e0, rfl⟩ : ∃ n : Wd E, W0 = n.w := ⟨⟨_, hC0⟩, rfl⟩
      have fE0 : ∀ n : Wd E, n.w.cell? ⟨kE, 0, none⟩ = some (.int .i64 P.x.lo) := fun n => (LE.out n).1.2.1
      have fE1 : ∀ n : Wd E, n.w.cell? ⟨kE, 1, none⟩ = some (.int .i64 P.x.hi) := fun n => (LE.out n).2.1.2.1
      have fE2 : ∀ n : Wd E, n.w.cell? ⟨kE, 2, none⟩ = some (.int .i64 P.y.lo) := fun n => (LE.out n).2.2.1.2.1
      have fE3 : ∀ n : Wd E, n.w.cell? ⟨kE, 3, none⟩ = some (.int .i64 P.y.hi) := fun n => (LE.out n).2.2.2.1.2.1
      have fE4 : ∀ n : Wd E, n.w.cell? ⟨kD + 1, 0, none⟩ = some (.int .i64 H.lo) := fun n => (LE.out n).2.2.2.2.1.2.1
      have fE5 : ∀ n : Wd E, n.w.cell? ⟨kD + 1, 1, none⟩ = some (.int .i64 H.hi) := fun n => (LE.out n).2.2.2.2.2.1.2.1
      have fE6 : ∀ n : Wd E, n.w.cell? ⟨kD, 0, none⟩ = some (.int .i64 L.lo) := fun n => (LE.out n).2.2.2.2.2.2.1.2.1
      have fE7 : ∀ n : Wd E, n.w.cell? ⟨kD, 1, none⟩ = some (.int .i64 L.hi) := fun n => (LE.out n).2.2.2.2.2.2.2.1.2.1
      have fE8 : ∀ n : Wd E, n.w.cell? ⟨w.heap.size + 1 + 1, 0, none⟩ = some (.int .i64 (0)) := fun n => (LE.out n).2.2.2.2.2.2.2.2.1.2.1
      have zE8 : ∀ n : Wd E, n.w.frozen? ⟨w.heap.size + 1 + 1, 0, none⟩ = false := fun n => (LE.out n).2.2.2.2.2.2.2.2.1.2.2
      have fE9 : ∀ n : Wd E, n.w.cell? ⟨w.heap.size + 1 + 1, 1, none⟩ = some (.int .i64 (0)) := fun n => (LE.out n).2.2.2.2.2.2.2.2.2.1.2.1
      have zE9 : ∀ n : Wd E, n.w.frozen? ⟨w.heap.size + 1 + 1, 1, none⟩ = false := fun n => (LE.out n).2.2.2.2.2.2.2.2.2.1.2.2
      have fE10 : ∀ n : Wd E, n.w.cell? ⟨w.heap.size + 1 + 1, 2, none⟩ = some (.int .i64 (0)) := fun n => (LE.out n).2.2.2.2.2.2.2.2.2.2.1.2.1
      have zE10 : ∀ n : Wd E, n.w.frozen? ⟨w.heap.size + 1 + 1, 2, none⟩ = false := fun n => (LE.out n).2.2.2.2.2.2.2.2.2.2.1.2.2
      have fE11 : ∀ n : Wd E, n.w.cell? ⟨w.heap.size + 1 + 1, 3, none⟩ = some (.int .i64 (0)) := fun n => (LE.out n).2.2.2.2.2.2.2.2.2.2.2.1.2.1
      have zE11 : ∀ n : Wd E, n.w.frozen? ⟨w.heap.size + 1 + 1, 3, none⟩ = false := fun n => (LE.out n).2.2.2.2.2.2.2.2.2.2.2.1.2.2
      have fE12 : ∀ n : Wd E, n.w.cell? ⟨w.heap.size + 1, 0, none⟩ = some (.int .i64 (0)) := fun n => (LE.out n).2.2.2.2.2.2.2.2.2.2.2.2.1.2.1
      have zE12 : ∀ n : Wd E, n.w.frozen? ⟨w.heap.size + 1, 0, none⟩ = false := fun n => (LE.out n).2.2.2.2.2.2.2.2.2.2.2.2.1.2.2
      have fE13 : ∀ n : Wd E, n.w.cell? ⟨w.heap.size + 1, 1, none⟩ = some (.int .i64 (0)) := fun n => (LE.out n).2.2.2.2.2.2.2.2.2.2.2.2.2.1.2.1
      have zE13 : ∀ n : Wd E, n.w.frozen? ⟨w.heap.size + 1, 1, none⟩ = false := fun n => (LE.out n).2.2.2.2.2.2.2.2.2.2.2.2.2.1.2.2
      have fE14 : ∀ n : Wd E, n.w.cell? ⟨w.heap.size + 1, 2, none⟩ = some (.int .i64 (0)) := fun n => (LE.out n).2.2.2.2.2.2.2.2.2.2.2.2.2.2.1.2.1
      have zE14 : ∀ n : Wd E, n.w.frozen? ⟨w.heap.size + 1, 2, none⟩ = false := fun n => (LE.out n).2.2.2.2.2.2.2.2.2.2.2.2.2.2.1.2.2
      have fE15 : ∀ n : Wd E, n.w.cell? ⟨w.heap.size + 1, 3, none⟩ = some (.int .i64 (0)) := fun n => (LE.out n).2.2.2.2.2.2.2.2.2.2.2.2.2.2.2.1.2.1
      have zE15 : ∀ n : Wd E, n.w.frozen? ⟨w.heap.size + 1, 3, none⟩ = false := fun n => (LE.out n).2.2.2.2.2.2.2.2.2.2.2.2.2.2.2.1.2.2
      have fE16 : ∀ n : Wd E, n.w.cell? ⟨w.heap.size, 0, none⟩ = some (.int .i64 b.x.lo) := fun n => (LE.out n).2.2.2.2.2.2.2.2.2.2.2.2.2.2.2.2.1.2.1
      have fE17 : ∀ n : Wd E, n.w.cell? ⟨w.heap.size, 1, none⟩ = some (.int .i64 b.x.hi) := fun n => (LE.out n).2.2.2.2.2.2.2.2.2.2.2.2.2.2.2.2.2.1.2.1
      have fE18 : ∀ n : Wd E, n.w.cell? ⟨w.heap.size, 2, none⟩ = some (.int .i64 b.y.lo) := fun n => (LE.out n).2.2.2.2.2.2.2.2.2.2.2.2.2.2.2.2.2.2.1.2.1
      have fE19 : ∀ n : Wd E, n.w.cell? ⟨w.heap.size, 3, none⟩ = some (.int .i64 b.y.hi) := fun n => (LE.out n).2.2.2.2.2.2.2.2.2.2.2.2.2.2.2.2.2.2.2.1.2.1
      clear S0 hC0
      have D8 := cin HE C8
      clear C8
      go_wp2_with (first | (go_at_call 123; with_reducible refine (D8 _).out.mono ?_; rintro e w' ⟨rfl, n, rfl⟩))
      obtain ⟨W0, hW0⟩ : ∃ W0, (n.w).alloc (.cells #[.int .i64 Q.x.lo, .int .i64 Q.x.hi, .int .i64 Q.y.lo, .int .i64 Q.y.hi] 60) = W0 := ⟨_, rfl⟩
      have S0 : St w W0 [(n.w.heap.size, 0, .int .i64 Q.x.lo), (n.w.heap.size, 1, .int .i64 Q.x.hi), (n.w.heap.size, 2, .int .i64 Q.y.lo), (n.w.heap.size, 3, .int .i64 Q.y.hi), (kE, 0, .int .i64 P.x.lo), (kE, 1, .int .i64 P.x.hi), (kE, 2, .int .i64 P.y.lo), (kE, 3, .int .i64 P.y.hi), (kD + 1, 0, .int .i64 H.lo), (kD + 1, 1, .int .i64 H.hi), (kD, 0, .int .i64 L.lo), (kD, 1, .int .i64 L.hi), (w.heap.size + 1 + 1, 0, .int .i64 (0)), (w.heap.size + 1 + 1, 1, .int .i64 (0)), (w.heap.size + 1 + 1, 2, .int .i64 (0)), (w.heap.size + 1 + 1, 3, .int .i64 (0)), (w.heap.size + 1, 0, .int .i64 (0)), (w.heap.size + 1, 1, .int .i64 (0)), (w.heap.size + 1, 2, .int .i64 (0)), (w.heap.size + 1, 3, .int .i64 (0)), (w.heap.size, 0, .int .i64 b.x.lo), (w.heap.size, 1, .int .i64 b.x.hi), (w.heap.size, 2, .int .i64 b.y.lo), (w.heap.size, 3, .int .i64 b.y.hi)] := by rw [← hW0]; exact ((⟨BE.out n, LE.out n⟩ : St w n.w _)).box #[.int .i64 Q.x.lo, .int .i64 Q.x.hi, .int .i64 Q.y.lo, .int .i64 Q.y.hi] 60 (n.w.heap.size) (by simp)
      rw [hW0]
      clear hW0
      obtain ⟨kF, hkk⟩ : ∃ k, n.w.heap.size = k := ⟨_, rfl⟩
      rw [hkk] at S0 ⊢
      have eF1 : kF ≠ w.heap.size + 1 + 1 := by have h := (LE.out n).2.2.2.2.2.2.2.2.1.1; omega
      have dF1 : w.heap.size + 1 + 1 ≠ kF := Ne.symm eF1
      have eF2 : kF ≠ w.heap.size + 1 := by have h := (LE.out n).2.2.2.2.2.2.2.2.2.2.2.2.1.1; omega
      have dF2 : w.heap.size + 1 ≠ kF := Ne.symm eF2
      clear hkk
      obtain ⟨F, hC0, HF, LF, BF, hne⟩ := cls S0
      haveI := hne
      obtain ⟨f0, rfl⟩ : ∃ n : Wd F, W0 = n.w := ⟨⟨_, hC0⟩, rfl⟩
      have fF0 : ∀ n : Wd F, n.w.cell? ⟨kF, 0, none⟩ = some (.int .i64 Q.x.lo) := fun n => (LF.out n).1.2.1
      have fF1 : ∀ n : Wd F, n.w.cell? ⟨kF, 1, none⟩ = some (.int .i64 Q.x.hi) := fun n => (LF.out n).2.1.2.1
      have fF2 : ∀ n : Wd F, n.w.cell? ⟨kF, 2, none⟩ = some (.int .i64 Q.y.lo) := fun n => (LF.out n).2.2.1.2.1
      have fF3 : ∀ n : Wd F, n.w.cell? ⟨kF, 3, none⟩ = some (.int .i64 Q.y.hi) := fun n => (LF.out n).2.2.2.1.2.1
      have fF4 : ∀ n : Wd F, n.w.cell? ⟨kE, 0, none⟩ = some (.int .i64 P.x.lo) := fun n => (LF.out n).2.2.2.2.1.2.1
      have fF5 : ∀ n : Wd F, n.w.cell? ⟨kE, 1, none⟩ = some (.int .i64 P.x.hi) := fun n => (LF.out n).2.2.2.2.2.1.2.1
      have fF6 : ∀ n : Wd F, n.w.cell? ⟨kE, 2, none⟩ = some (.int .i64 P.y.lo) := fun n => (LF.out n).2.2.2.2.2.2.1.2.1
      have fF7 : ∀ n : Wd F, n.w.cell? ⟨kE, 3, none⟩ = some (.int .i64 P.y.hi) := fun n => (LF.out n).2.2.2.2.2.2.2.1.2.1
      have fF8 : ∀ n : Wd F, n.w.cell? ⟨kD + 1, 0, none⟩ = some (.int .i64 H.lo) := fun n => (LF.out n).2.2.2.2.2.2.2.2.1.2.1
      have fF9 : ∀ n : Wd F, n.w.cell? ⟨kD + 1, 1, none⟩ = some (.int .i64 H.hi) := fun n => (LF.out n).2.2.2.2.2.2.2.2.2.1.2.1
      have fF10 : ∀ n : Wd F, n.w.cell? ⟨kD, 0, none⟩ = some (.int .i64 L.lo) := fun n => (LF.out n).2.2.2.2.2.2.2.2.2.2.1.2.1
      have fF11 : ∀ n : Wd F, n.w.cell? ⟨kD, 1, none⟩ = some (.int .i64 L.hi) := fun n => (LF.out n).2.2.2.2.2.2.2.2.2.2.2.1.2.1
      have fF12 : ∀ n : Wd F, n.w.cell? ⟨w.heap.size + 1 + 1, 0, none⟩ = some (.int .i64 (0)) := fun n => (LF.out n).2.2.2.2.2.2.2.2.2.2.2.2.1.2.1
      have zF12 : ∀ n : Wd F, n.w.frozen? ⟨w.heap.size + 1 + 1, 0, none⟩ = false := fun n => (LF.out n).2.2.2.2.2.2.2.2.2.2.2.2.1.2.2
      have fF13 : ∀ n : Wd F, n.w.cell? ⟨w.heap.size + 1 + 1, 1, none⟩ = some (.int .i64 (0)) := fun n => (LF.out n).2.2.2.2.2.2.2.2.2.2.2.2.2.1.2.1
      have zF13 : ∀ n : Wd F, n.w.frozen? ⟨w.heap.size + 1 + 1, 1, none⟩ = false := fun n => (LF.out n).2.2.2.2.2.2.2.2.2.2.2.2.2.1.2.2
      have fF14 : ∀ n : Wd F, n.w.cell? ⟨w.heap.size + 1 + 1, 2, none⟩ = some (.int .i64 (0)) := fun n => (LF.out n).2.2.2.2.2.2.2.2.2.2.2.2.2.2.1.2.1
      have zF14 : ∀ n : Wd F, n.w.frozen? ⟨w.heap.size + 1 + 1, 2, none⟩ = false := fun n => (LF.out n).2.2.2.2.2.2.2.2.2.2.2.2.2.2.1.2.2
      have fF15 : ∀ n : Wd F, n.w.cell? ⟨w.heap.size + 1 + 1, 3, none⟩ = some (.int .i64 (0)) := fun n => (LF.out n).2.2.2.2.2.2.2.2.2.2.2.2.2.2.2.1.2.1
      have zF15 : ∀ n : Wd F, n.w.frozen? ⟨w.heap.size + 1 + 1, 3, none⟩ = false := fun n => (LF.out n).2.2.2.2.2.2.2.2.2.2.2.2.2.2.2.1.2.2
      have fF16 : ∀ n : Wd F, n.w.cell? ⟨w.heap.size + 1, 0, none⟩ = some (.int .i64 (0)) := fun n => (LF.out n).2.2.2.2.2.2.2.2.2.2.2.2.2.2.2.2.1.2.1
      have zF16 : ∀ n : Wd F, n.w.frozen? ⟨w.heap.size + 1, 0, none⟩ = false := fun n => (LF.out n).2.2.2.2.2.2.2.2.2.2.2.2.2.2.2.2.1.2.2
      have fF17 : ∀ n : Wd F, n.w.cell? ⟨w.heap.size + 1, 1, none⟩ = some (.int .i64 (0)) := fun n => (LF.out n).2.2.2.2.2.2.2.2.2.2.2.2.2.2.2.2.2.1.2.1
      have zF17 : ∀ n : Wd F, n.w.frozen? ⟨w.heap.size + 1, 1, none⟩ = false := fun n => (LF.out n).2.2.2.2.2.2.2.2.2.2.2.2.2.2.2.2.2.1.2.2
      have fF18 : ∀ n : Wd F, n.w.cell? ⟨w.heap.size + 1, 2, none⟩ = some (.int .i64 (0)) := fun n => (LF.out n).2.2.2.2.2.2.2.2.2.2.2.2.2.2.2.2.2.2.1.2.1
      have zF18 : ∀ n : Wd F, n.w.frozen? ⟨w.heap.size + 1, 2, none⟩ = false := fun n => (LF.out n).2.2.2.2.2.2.2.2.2.2.2.2.2.2.2.2.2.2.1.2.2
      have fF19 : ∀ n : Wd F, n.w.cell? ⟨w.heap.size + 1, 3, none⟩ = some (.int .i64 (0)) := fun n => (LF.out n).2.2.2.2.2.2.2.2.2.2.2.2.2.2.2.2.2.2.2.1.2.1
      have zF19 : ∀ n : Wd F, n.w.frozen? ⟨w.heap.size + 1, 3, none⟩ = false := fun n => (LF.out n).2.2.2.2.2.2.2.2.2.2.2.2.2.2.2.2.2.2.2.1.2.2
      have fF20 : ∀ n : Wd F, n.w.cell? ⟨w.heap.size, 0, none⟩ = some (.int .i64 b.x.lo) := fun n => (LF.out n).2.2.2.2.2.2.2.2.2.2.2.2.2.2.2.2.2.2.2.2.1.2.1
      have fF21 : ∀ n : Wd F, n.w.cell? ⟨w.heap.size, 1, none⟩ = some (.int .i64 b.x.hi) := fun n => (LF.out n).2.2.2.2.2.2.2.2.2.2.2.2.2.2.2.2.2.2.2.2.2.1.2.1
      have fF22 : ∀ n : Wd F, n.w.cell? ⟨w.heap.size, 2, none⟩ = some (.int .i64 b.y.lo) := fun n => (LF.out n).2.2.2.2.2.2.2.2.2.2.2.2.2.2.2.2.2.2.2.2.2.2.1.2.1
      have fF23 : ∀ n : Wd F, n.w.cell? ⟨w.heap.size, 3, none⟩ = some (.int .i64 b.y.hi) := fun n => (LF.out n).2.2.2.2.2.2.2.2.2.2.2.2.2.2.2.2.2.2.2.2.2.2.2.1.2.1
      clear S0 hC0
      clear fC0 fC1 fC2 fC3 fC4 fC5 fC6 fC7 fC8 fC9 fC10 fC11 fD0 fD1 fD2 fD3 fD4 fD5 fD6 fD7 fD8 fD9 fD10 fD11 fD12 fD13 fD14 fD15 fE0 fE1 fE2 fE3 fE4 fE5 fE6 fE7 fE8 fE9 fE10 fE11 fE12 fE13 fE14 fE15 fE16 fE17 fE18 fE19 fF8 fF9 fF10 fF11 fF20 fF21 fF22 fF23 zC0 zC1 zC2 zC3 zC4 zC5 zC6 zC7 zD4 zD5 zD6 zD7 zD8 zD9 zD10 zD11 zE8 zE9 zE10 zE11 zE12 zE13 zE14 zE15 HD HE LD LE HC LC
      go_region
      all_goals
        go_wp2_with fail
        refine bodyPost_ret (v := bx2Res (some (P, Q))) (by simp [results, Try.results51, go_sem, bx2Res, fF12, fF13, fF14, fF15, fF16, fF17, fF18, fF19]) rfl ⟨rfl, ?_⟩
        exact (below_set4' (below_set4' (BF.out _) _ _ _ _ _ (by omega)) _ _ _ _ _ (by omega)).drew
    · rw [hz] at C1
      rw [hs] at C2
      rw [show cutB b = none from by rw [cutB, hz, hs]; rfl]
      clear hz hs
      go_enter Try.func51, Try.ntmps51
      go_wp2_with fail
      obtain ⟨W0, hW0⟩ : ∃ W0, (((w).alloc (.cells #[.int .i64 b.x.lo, .int .i64 b.x.hi, .int .i64 b.y.lo, .int .i64 b.y.hi] 60)).alloc (.cells #[.int .i64 (0), .int .i64 (0), .int .i64 (0), .int .i64 (0)] 60)).alloc (.cells #[.int .i64 (0), .int .i64 (0), .int .i64 (0), .int .i64 (0)] 60) = W0 := ⟨_, rfl⟩
      have S0 : St w W0 [(w.heap.size + 1 + 1, 0, .int .i64 (0)), (w.heap.size + 1 + 1, 1, .int .i64 (0)), (w.heap.size + 1 + 1, 2, .int .i64 (0)), (w.heap.size + 1 + 1, 3, .int .i64 (0)), (w.heap.size + 1, 0, .int .i64 (0)), (w.heap.size + 1, 1, .int .i64 (0)), (w.heap.size + 1, 2, .int .i64 (0)), (w.heap.size + 1, 3, .int .i64 (0)), (w.heap.size, 0, .int .i64 b.x.lo), (w.heap.size, 1, .int .i64 b.x.hi), (w.heap.size, 2, .int .i64 b.y.lo), (w.heap.size, 3, .int .i64 b.y.hi)] := by rw [← hW0]; exact ((((St.nil w)).box #[.int .i64 b.x.lo, .int .i64 b.x.hi, .int .i64 b.y.lo, .int .i64 b.y.hi] 60 (w.heap.size) (by simp)).box #[.int .i64 (0), .int .i64 (0), .int .i64 (0), .int .i64 (0)] 60 (w.heap.size + 1) (by simp)).box #[.int .i64 (0), .int .i64 (0), .int .i64 (0), .int .i64 (0)] 60 (w.heap.size + 1 + 1) (by simp)
      rw [hW0]
      clear hW0
      obtain ⟨C, hC0, HC, LC, BC, hne⟩ := cls S0
      haveI := hne
      obtain ⟨c0, rfl⟩ : ∃ n : Wd C, W0 = n.w := ⟨⟨_, hC0⟩, rfl⟩
      have fC0 : ∀ n : Wd C, n.w.cell? ⟨w.heap.size + 1 + 1, 0, none⟩ = some (.int .i64 (0)) := fun n => (LC.out n).1.2.1
      have zC0 : ∀ n : Wd C, n.w.frozen? ⟨w.heap.size + 1 + 1, 0, none⟩ = false := fun n => (LC.out n).1.2.2
      have fC1 : ∀ n : Wd C, n.w.cell? ⟨w.heap.size + 1 + 1, 1, none⟩ = some (.int .i64 (0)) := fun n => (LC.out n).2.1.2.1
      have zC1 : ∀ n : Wd C, n.w.frozen? ⟨w.heap.size + 1 + 1, 1, none⟩ = false := fun n => (LC.out n).2.1.2.2
      have fC2 : ∀ n : Wd C, n.w.cell? ⟨w.heap.size + 1 + 1, 2, none⟩ = some (.int .i64 (0)) := fun n => (LC.out n).2.2.1.2.1
      have zC2 : ∀ n : Wd C, n.w.frozen? ⟨w.heap.size + 1 + 1, 2, none⟩ = false := fun n => (LC.out n).2.2.1.2.2
      have fC3 : ∀ n : Wd C, n.w.cell? ⟨w.heap.size + 1 + 1, 3, none⟩ = some (.int .i64 (0)) := fun n => (LC.out n).2.2.2.1.2.1
      have zC3 : ∀ n : Wd C, n.w.frozen? ⟨w.heap.size + 1 + 1, 3, none⟩ = false := fun n => (LC.out n).2.2.2.1.2.2
      have fC4 : ∀ n : Wd C, n.w.cell? ⟨w.heap.size + 1, 0, none⟩ = some (.int .i64 (0)) := fun n => (LC.out n).2.2.2.2.1.2.1
      have zC4 : ∀ n : Wd C, n.w.frozen? ⟨w.heap.size + 1, 0, none⟩ = false := fun n => (LC.out n).2.2.2.2.1.2.2
      have fC5 : ∀ n : Wd C, n.w.cell? ⟨w.heap.size + 1, 1, none⟩ = some (.int .i64 (0)) := fun n => (LC.out n).2.2.2.2.2.1.2.1
      have zC5 : ∀ n : Wd C, n.w.frozen? ⟨w.heap.size + 1, 1, none⟩ = false := fun n => (LC.out n).2.2.2.2.2.1.2.2
      have fC6 : ∀ n : Wd C, n.w.cell? ⟨w.heap.size + 1, 2, none⟩ = some (.int .i64 (0)) := fun n => (LC.out n).2.2.2.2.2.2.1.2.1
      have zC6 : ∀ n : Wd C, n.w.frozen? ⟨w.heap.size + 1, 2, none⟩ = false := fun n => (LC.out n).2.2.2.2.2.2.1.2.2
      have fC7 : ∀ n : Wd C, n.w.cell? ⟨w.heap.size + 1, 3, none⟩ = some (.int .i64 (0)) := fun n => (LC.out n).2.2.2.2.2.2.2.1.2.1
      have zC7 : ∀ n : Wd C, n.w.frozen? ⟨w.heap.size + 1, 3, none⟩ = false := fun n => (LC.out n).2.2.2.2.2.2.2.1.2.2
      have fC8 : ∀ n : Wd C, n.w.cell? ⟨w.heap.size, 0, none⟩ = some (.int .i64 b.x.lo) := fun n => (LC.out n).2.2.2.2.2.2.2.2.1.2.1
      have fC9 : ∀ n : Wd C, n.w.cell? ⟨w.heap.size, 1, none⟩ = some (.int .i64 b.x.hi) := fun n => (LC.out n).2.2.2.2.2.2.2.2.2.1.2.1
      have fC10 : ∀ n : Wd C, n.w.cell? ⟨w.heap.size, 2, none⟩ = some (.int .i64 b.y.lo) := fun n => (LC.out n).2.2.2.2.2.2.2.2.2.2.1.2.1
      have fC11 : ∀ n : Wd C, n.w.cell? ⟨w.heap.size, 3, none⟩ = some (.int .i64 b.y.hi) := fun n => (LC.out n).2.2.2.2.2.2.2.2.2.2.2.1.2.1
      clear S0 hC0
      have D1 := cin HC C1
      have D2 := cin HC C2
      clear C1 C2
      go_wp2_with (first | (go_at_call 53; with_reducible refine (D1 _).out.mono ?_; rintro e w' ⟨rfl, n, rfl⟩) | (go_at_call 119; with_reducible refine (D2 _).out.mono ?_; rintro e w' ⟨rfl, n, rfl⟩))
      refine bodyPost_ret (v := bx2Res none) (by simp [results, Try.results51, go_sem, bx2Res, bx0, fC0, fC1, fC2, fC3, fC4, fC5, fC6, fC7]) rfl ⟨rfl, ?_⟩
      exact below_set4' (below_set4' (BC.out _) _ _ _ _ _ (by omega)) _ _ _ _ _ (by omega)
end Go.Proofs.Ytdefpcjlbganpaa
namespace Go.Proofs.Ytdefpcjlbganpaa
open Go.RowKit Go.Shelf Go.BigFrame
attribute [local go_sem] Oper.semAt_some
attribute [local go_sem] World.cell?_alloc_some
/-- The least box that has two boxes. -/
def cvB (a b : Bx) : Option Bx := if okB a && okB b then some ⟨cvS a.x b.x, cvS a.y b.y⟩ else none
set_option maxHeartbeats 4000000 in
theorem Cover_any (a b : Bx) (w : World) : Calls Try.prog 47 #[a.v, b.v] w fun e w' => e = .returned (bxRes (cvB a b)) ∧ Below w.heap.size w w' := by
  have C1 := fun W => Proper_any a W
  have C2 := fun W => Proper_any b W
  cases ha : okB a
  · rw [ha] at C1
    rw [show cvB a b = none from by rw [cvB, ha]; rfl]
    clear ha C2
    go_enter Try.func47, Try.ntmps47
    go_wp2_with fail
    obtain ⟨W0, hW0⟩ : ∃ W0, (((w).alloc (.cells #[.int .i64 a.x.lo, .int .i64 a.x.hi, .int .i64 a.y.lo, .int .i64 a.y.hi] 60)).alloc (.cells #[.int .i64 b.x.lo, .int .i64 b.x.hi, .int .i64 b.y.lo, .int .i64 b.y.hi] 60)).alloc (.cells #[.int .i64 (0), .int .i64 (0), .int .i64 (0), .int .i64 (0)] 60) = W0 := ⟨_, rfl⟩
    have S0 : St w W0 [(w.heap.size + 1 + 1, 0, .int .i64 (0)), (w.heap.size + 1 + 1, 1, .int .i64 (0)), (w.heap.size + 1 + 1, 2, .int .i64 (0)), (w.heap.size + 1 + 1, 3, .int .i64 (0)), (w.heap.size + 1, 0, .int .i64 b.x.lo), (w.heap.size + 1, 1, .int .i64 b.x.hi), (w.heap.size + 1, 2, .int .i64 b.y.lo), (w.heap.size + 1, 3, .int .i64 b.y.hi), (w.heap.size, 0, .int .i64 a.x.lo), (w.heap.size, 1, .int .i64 a.x.hi), (w.heap.size, 2, .int .i64 a.y.lo), (w.heap.size, 3, .int .i64 a.y.hi)] := by rw [← hW0]; exact ((((St.nil w)).box #[.int .i64 a.x.lo, .int .i64 a.x.hi, .int .i64 a.y.lo, .int .i64 a.y.hi] 60 (w.heap.size) (by simp)).box #[.int .i64 b.x.lo, .int .i64 b.x.hi, .int .i64 b.y.lo, .int .i64 b.y.hi] 60 (w.heap.size + 1) (by simp)).box #[.int .i64 (0), .int .i64 (0), .int .i64 (0), .int .i64 (0)] 60 (w.heap.size + 1 + 1) (by simp)
    rw [hW0]
    clear hW0
    obtain ⟨C, hC0, HC, LC, BC, hne⟩ := cls S0
    haveI := hne
    obtain ⟨c0, rfl⟩ : ∃ n : Wd C, W0 = n.w := ⟨⟨_, hC0⟩, rfl⟩
    have fC0 : ∀ n : Wd C, n.w.cell? ⟨w.heap.size + 1 + 1, 0, none⟩ = some (.int .i64 (0)) := fun n => (LC.out n).1.2.1
    have zC0 : ∀ n : Wd C, n.w.frozen? ⟨w.heap.size + 1 + 1, 0, none⟩ = false := fun n => (LC.out n).1.2.2
    have fC1 : ∀ n : Wd C, n.w.cell? ⟨w.heap.size + 1 + 1, 1, none⟩ = some (.int .i64 (0)) := fun n => (LC.out n).2.1.2.1
    have zC1 : ∀ n : Wd C, n.w.frozen? ⟨w.heap.size + 1 + 1, 1, none⟩ = false := fun n => (LC.out n).2.1.2.2
    have fC2 : ∀ n : Wd C, n.w.cell? ⟨w.heap.size + 1 + 1, 2, none⟩ = some (.int .i64 (0)) := fun n => (LC.out n).2.2.1.2.1
    have zC2 : ∀ n : Wd C, n.w.frozen? ⟨w.heap.size + 1 + 1, 2, none⟩ = false := fun n => (LC.out n).2.2.1.2.2
    have fC3 : ∀ n : Wd C, n.w.cell? ⟨w.heap.size + 1 + 1, 3, none⟩ = some (.int .i64 (0)) := fun n => (LC.out n).2.2.2.1.2.1
    have zC3 : ∀ n : Wd C, n.w.frozen? ⟨w.heap.size + 1 + 1, 3, none⟩ = false := fun n => (LC.out n).2.2.2.1.2.2
    have fC4 : ∀ n : Wd C, n.w.cell? ⟨w.heap.size + 1, 0, none⟩ = some (.int .i64 b.x.lo) := fun n => (LC.out n).2.2.2.2.1.2.1
    have fC5 : ∀ n : Wd C, n.w.cell? ⟨w.heap.size + 1, 1, none⟩ = some (.int .i64 b.x.hi) := fun n => (LC.out n).2.2.2.2.2.1.2.1
    have fC6 : ∀ n : Wd C, n.w.cell? ⟨w.heap.size + 1, 2, none⟩ = some (.int .i64 b.y.lo) := fun n => (LC.out n).2.2.2.2.2.2.1.2.1
    have fC7 : ∀ n : Wd C, n.w.cell? ⟨w.heap.size + 1, 3, none⟩ = some (.int .i64 b.y.hi) := fun n => (LC.out n).2.2.2.2.2.2.2.1.2.1
    have fC8 : ∀ n : Wd C, n.w.cell? ⟨w.heap.size, 0, none⟩ = some (.int .i64 a.x.lo) := fun n => (LC.out n).2.2.2.2.2.2.2.2.1.2.1
    have fC9 : ∀ n : Wd C, n.w.cell? ⟨w.heap.size, 1, none⟩ = some (.int .i64 a.x.hi) := fun n => (LC.out n).2.2.2.2.2.2.2.2.2.1.2.1
    have fC10 : ∀ n : Wd C, n.w.cell? ⟨w.heap.size, 2, none⟩ = some (.int .i64 a.y.lo) := fun n => (LC.out n).2.2.2.2.2.2.2.2.2.2.1.2.1
    have fC11 : ∀ n : Wd C, n.w.cell? ⟨w.heap.size, 3, none⟩ = some (.int .i64 a.y.hi) := fun n => (LC.out n).2.2.2.2.2.2.2.2.2.2.2.1.2.1
    clear S0 hC0
    have D1 := cin HC C1
    clear C1
    go_wp2_with (first | (go_at_call 53; with_reducible refine (D1 _).out.mono ?_; rintro e w' ⟨rfl, n, rfl⟩))
    refine bodyPost_ret (v := bxRes none) (by simp [results, Try.results47, go_sem, bxRes, bx0, fC0, fC1, fC2, fC3]) rfl ⟨rfl, ?_⟩
    exact below_set4 (BC.out _) _ _ _ _ _ (by omega)
  · cases hb : okB b
    · rw [ha] at C1
      rw [hb] at C2
      rw [show cvB a b = none from by rw [cvB, ha, hb]; rfl]
      clear ha hb
      go_enter Try.func47, Try.ntmps47
      go_wp2_with fail
      obtain ⟨W0, hW0⟩ : ∃ W0, (((w).alloc (.cells #[.int .i64 a.x.lo, .int .i64 a.x.hi, .int .i64 a.y.lo, .int .i64 a.y.hi] 60)).alloc (.cells #[.int .i64 b.x.lo, .int .i64 b.x.hi, .int .i64 b.y.lo, .int .i64 b.y.hi] 60)).alloc (.cells #[.int .i64 (0), .int .i64 (0), .int .i64 (0), .int .i64 (0)] 60) = W0 := ⟨_, rfl⟩
      have S0 : St w W0 [(w.heap.size + 1 + 1, 0, .int .i64 (0)), (w.heap.size + 1 + 1, 1, .int .i64 (0)), (w.heap.size + 1 + 1, 2, .int .i64 (0)), (w.heap.size + 1 + 1, 3, .int .i64 (0)), (w.heap.size + 1, 0, .int .i64 b.x.lo), (w.heap.size + 1, 1, .int .i64 b.x.hi), (w.heap.size + 1, 2, .int .i64 b.y.lo), (w.heap.size + 1, 3, .int .i64 b.y.hi), (w.heap.size, 0, .int .i64 a.x.lo), (w.heap.size, 1, .int .i64 a.x.hi), (w.heap.size, 2, .int .i64 a.y.lo), (w.heap.size, 3, .int .i64 a.y.hi)] := by rw [← hW0]; exact ((((St.nil w)).box #[.int .i64 a.x.lo, .int .i64 a.x.hi, .int .i64 a.y.lo, .int .i64 a.y.hi] 60 (w.heap.size) (by simp)).box #[.int .i64 b.x.lo, .int .i64 b.x.hi, .int .i64 b.y.lo, .int .i64 b.y.hi] 60 (w.heap.size + 1) (by simp)).box #[.int .i64 (0), .int .i64 (0), .int .i64 (0), .int .i64 (0)] 60 (w.heap.size + 1 + 1) (by simp)
      rw [hW0]
      clear hW0
      obtain ⟨C, hC0, HC, LC, BC, hne⟩ := cls S0
      haveI := hne
      obtain ⟨c0, rfl⟩ : ∃ n : Wd C, W0 = n.w := ⟨⟨_, hC0⟩, rfl⟩
      have fC0 : ∀ n : Wd C, n.w.cell? ⟨w.heap.size + 1 + 1, 0, none⟩ = some (.int .i64 (0)) := fun n => (LC.out n).1.2.1
      have zC0 : ∀ n : Wd C, n.w.frozen? ⟨w.heap.size + 1 + 1, 0, none⟩ = false := fun n => (LC.out n).1.2.2
      have fC1 : ∀ n : Wd C, n.w.cell? ⟨w.heap.size + 1 + 1, 1, none⟩ = some (.int .i64 (0)) := fun n => (LC.out n).2.1.2.1
      have zC1 : ∀ n : Wd C, n.w.frozen? ⟨w.heap.size + 1 + 1, 1, none⟩ = false := fun n => (LC.out n).2.1.2.2
      have fC2 : ∀ n : Wd C, n.w.cell? ⟨w.heap.size + 1 + 1, 2, none⟩ = some (.int .i64 (0)) := fun n => (LC.out n).2.2.1.2.1
      have zC2 : ∀ n : Wd C, n.w.frozen? ⟨w.heap.size + 1 + 1, 2, none⟩ = false := fun n => (LC.out n).2.2.1.2.2
      have fC3 : ∀ n : Wd C, n.w.cell? ⟨w.heap.size + 1 + 1, 3, none⟩ = some (.int .i64 (0)) := fun n => (LC.out n).2.2.2.1.2.1
      have zC3 : ∀ n : Wd C, n.w.frozen? ⟨w.heap.size + 1 + 1, 3, none⟩ = false := fun n => (LC.out n).2.2.2.1.2.2
      have fC4 : ∀ n : Wd C, n.w.cell? ⟨w.heap.size + 1, 0, none⟩ = some (.int .i64 b.x.lo) := fun n => (LC.out n).2.2.2.2.1.2.1
      have fC5 : ∀ n : Wd C, n.w.cell? ⟨w.heap.size + 1, 1, none⟩ = some (.int .i64 b.x.hi) := fun n => (LC.out n).2.2.2.2.2.1.2.1
      have fC6 : ∀ n : Wd C, n.w.cell? ⟨w.heap.size + 1, 2, none⟩ = some (.int .i64 b.y.lo) := fun n => (LC.out n).2.2.2.2.2.2.1.2.1
      have fC7 : ∀ n : Wd C, n.w.cell? ⟨w.heap.size + 1, 3, none⟩ = some (.int .i64 b.y.hi) := fun n => (LC.out n).2.2.2.2.2.2.2.1.2.1
      have fC8 : ∀ n : Wd C, n.w.cell? ⟨w.heap.size, 0, none⟩ = some (.int .i64 a.x.lo) := fun n => (LC.out n).2.2.2.2.2.2.2.2.1.2.1
      have fC9 : ∀ n : Wd C, n.w.cell? ⟨w.heap.size, 1, none⟩ = some (.int .i64 a.x.hi) := fun n => (LC.out n).2.2.2.2.2.2.2.2.2.1.2.1
      have fC10 : ∀ n : Wd C, n.w.cell? ⟨w.heap.size, 2, none⟩ = some (.int .i64 a.y.lo) := fun n => (LC.out n).2.2.2.2.2.2.2.2.2.2.1.2.1
      have fC11 : ∀ n : Wd C, n.w.cell? ⟨w.heap.size, 3, none⟩ = some (.int .i64 a.y.hi) := fun n => (LC.out n).2.2.2.2.2.2.2.2.2.2.2.1.2.1
      clear S0 hC0
      have D1 := cin HC C1
      have D2 := cin HC C2
      clear C1 C2
      go_wp2_with (first | (go_at_call 53; with_reducible refine (D1 _).out.mono ?_; rintro e w' ⟨rfl, n, rfl⟩) | (go_at_call 53; with_reducible refine (D2 _).out.mono ?_; rintro e w' ⟨rfl, n, rfl⟩))
      refine bodyPost_ret (v := bxRes none) (by simp [results, Try.results47, go_sem, bxRes, bx0, fC0, fC1, fC2, fC3]) rfl ⟨rfl, ?_⟩
      exact below_set4 (BC.out _) _ _ _ _ _ (by omega)
    · rw [ha] at C1
      rw [hb] at C2
      have C3 := fun W => coverSpan_any a.x b.x W
      have C4 := fun W => coverSpan_any a.y b.y W
      rw [show cvB a b = some ⟨cvS a.x b.x, cvS a.y b.y⟩ from by rw [cvB, ha, hb]; rfl]
      obtain ⟨X, hX⟩ : ∃ X, cvS a.x b.x = X := ⟨_, rfl⟩
      obtain ⟨Y, hY⟩ : ∃ X, cvS a.y b.y = X := ⟨_, rfl⟩
      simp only [hX] at C3 ⊢
      simp only [hY] at C4 ⊢
      clear ha hb hX hY
      go_enter Try.func47, Try.ntmps47
      go_wp2_with fail
      obtain ⟨W0, hW0⟩ : ∃ W0, (((w).alloc (.cells #[.int .i64 a.x.lo, .int .i64 a.x.hi, .int .i64 a.y.lo, .int .i64 a.y.hi] 60)).alloc (.cells #[.int .i64 b.x.lo, .int .i64 b.x.hi, .int .i64 b.y.lo, .int .i64 b.y.hi] 60)).alloc (.cells #[.int .i64 (0), .int .i64 (0), .int .i64 (0), .int .i64 (0)] 60) = W0 := ⟨_, rfl⟩
      have S0 : St w W0 [(w.heap.size + 1 + 1, 0, .int .i64 (0)), (w.heap.size + 1 + 1, 1, .int .i64 (0)), (w.heap.size + 1 + 1, 2, .int .i64 (0)), (w.heap.size + 1 + 1, 3, .int .i64 (0)), (w.heap.size + 1, 0, .int .i64 b.x.lo), (w.heap.size + 1, 1, .int .i64 b.x.hi), (w.heap.size + 1, 2, .int .i64 b.y.lo), (w.heap.size + 1, 3, .int .i64 b.y.hi), (w.heap.size, 0, .int .i64 a.x.lo), (w.heap.size, 1, .int .i64 a.x.hi), (w.heap.size, 2, .int .i64 a.y.lo), (w.heap.size, 3, .int .i64 a.y.hi)] := by rw [← hW0]; exact ((((St.nil w)).box #[.int .i64 a.x.lo, .int .i64 a.x.hi, .int .i64 a.y.lo, .int .i64 a.y.hi] 60 (w.heap.size) (by simp)).box #[.int .i64 b.x.lo, .int .i64 b.x.hi, .int .i64 b.y.lo, .int .i64 b.y.hi] 60 (w.heap.size + 1) (by simp)).box #[.int .i64 (0), .int .i64 (0), .int .i64 (0), .int .i64 (0)] 60 (w.heap.size + 1 + 1) (by simp)
      rw [hW0]
      clear hW0
      obtain ⟨C, hC0, HC, LC, BC, hne⟩ := cls S0
      haveI := hne
      obtain ⟨c0, rfl⟩ : ∃ n : Wd C, W0 = n.w := ⟨⟨_, hC0⟩, rfl⟩
      have fC0 : ∀ n : Wd C, n.w.cell? ⟨w.heap.size + 1 + 1, 0, none⟩ = some (.int .i64 (0)) := fun n => (LC.out n).1.2.1
      have zC0 : ∀ n : Wd C, n.w.frozen? ⟨w.heap.size + 1 + 1, 0, none⟩ = false := fun n => (LC.out n).1.2.2
      have fC1 : ∀ n : Wd C, n.w.cell? ⟨w.heap.size + 1 + 1, 1, none⟩ = some (.int .i64 (0)) := fun n => (LC.out n).2.1.2.1
      have zC1 : ∀ n : Wd C, n.w.frozen? ⟨w.heap.size + 1 + 1, 1, none⟩ = false := fun n => (LC.out n).2.1.2.2
      have fC2 : ∀ n : Wd C, n.w.cell? ⟨w.heap.size + 1 + 1, 2, none⟩ = some (.int .i64 (0)) := fun n => (LC.out n).2.2.1.2.1
      have zC2 : ∀ n : Wd C, n.w.frozen? ⟨w.heap.size + 1 + 1, 2, none⟩ = false := fun n => (LC.out n).2.2.1.2.2
      have fC3 : ∀ n : Wd C, n.w.cell? ⟨w.heap.size + 1 + 1, 3, none⟩ = some (.int .i64 (0)) := fun n => (LC.out n).2.2.2.1.2.1
      have zC3 : ∀ n : Wd C, n.w.frozen? ⟨w.heap.size + 1 + 1, 3, none⟩ = false := fun n => (LC.out n).2.2.2.1.2.2
      have fC4 : ∀ n : Wd C, n.w.cell? ⟨w.heap.size + 1, 0, none⟩ = some (.int .i64 b.x.lo) := fun n => (LC.out n).2.2.2.2.1.2.1
      have fC5 : ∀ n : Wd C, n.w.cell? ⟨w.heap.size + 1, 1, none⟩ = some (.int .i64 b.x.hi) := fun n => (LC.out n).2.2.2.2.2.1.2.1
      have fC6 : ∀ n : Wd C, n.w.cell? ⟨w.heap.size + 1, 2, none⟩ = some (.int .i64 b.y.lo) := fun n => (LC.out n).2.2.2.2.2.2.1.2.1
      have fC7 : ∀ n : Wd C, n.w.cell? ⟨w.heap.size + 1, 3, none⟩ = some (.int .i64 b.y.hi) := fun n => (LC.out n).2.2.2.2.2.2.2.1.2.1
      have fC8 : ∀ n : Wd C, n.w.cell? ⟨w.heap.size, 0, none⟩ = some (.int .i64 a.x.lo) := fun n => (LC.out n).2.2.2.2.2.2.2.2.1.2.1
      have fC9 : ∀ n : Wd C, n.w.cell? ⟨w.heap.size, 1, none⟩ = some (.int .i64 a.x.hi) := fun n => (LC.out n).2.2.2.2.2.2.2.2.2.1.2.1
      have fC10 : ∀ n : Wd C, n.w.cell? ⟨w.heap.size, 2, none⟩ = some (.int .i64 a.y.lo) := fun n => (LC.out n).2.2.2.2.2.2.2.2.2.2.1.2.1
      have fC11 : ∀ n : Wd C, n.w.cell? ⟨w.heap.size, 3, none⟩ = some (.int .i64 a.y.hi) := fun n => (LC.out n).2.2.2.2.2.2.2.2.2.2.2.1.2.1
      clear S0 hC0
      have D1 := cin HC C1
      have D2 := cin HC C2
      have D3 := cin HC C3
      have D4 := cin HC C4
      clear C1 C2 C3 C4
      go_wp2_with (first | (go_at_call 53; with_reducible refine (D1 _).out.mono ?_; rintro e w' ⟨rfl, n, rfl⟩) | (go_at_call 53; with_reducible refine (D2 _).out.mono ?_; rintro e w' ⟨rfl, n, rfl⟩))
      refine wp_region_in_tail 10 C (HC.out _ _ (Wd.h _) (below_dr _)) (by kernel_rfl) (by kernel_rfl) ?_
      simp only [List.take_succ_cons, List.take_zero, List.drop_succ_cons, List.drop_zero]
      repeat (go_big_quiet_step (first | with_reducible exact (D3 _).out | with_reducible exact (D4 _).out))
      refine wpQuiet_nil ?_
      intro wx hwx
      obtain ⟨n2, rfl⟩ : ∃ n : Wd C, wx = n.w := ⟨⟨wx, hwx⟩, rfl⟩
      clear hwx
      go_wp2_with fail
      refine bodyPost_ret (v := bxRes (some ⟨X, Y⟩)) (by simp [results, Try.results47, go_sem, bxRes, bx0, fC0, fC1, fC2, fC3]) rfl ⟨rfl, ?_⟩
      exact below_set4 (BC.out _) _ _ _ _ _ (by omega)
end Go.Proofs.Ytdefpcjlbganpaa
