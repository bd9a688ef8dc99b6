import Derived.Test.YtdefpcjlbganpaaOn
import Derived.WalkKit
import Derived.LoopTactic
import Derived.WalkSpells
import Derived.WalkLawsBesides
import Derived.Lib.Hide
import Derived.BigQuiet
import Derived.IntWalk
import Derived.Deep.DeepMust
import Derived.WalkSmall
import Derived.StillTailTactics
import Derived.Deep.RegionLaw
import Derived.Deep.RegionHeld3
import Derived.Deep.QuietTactic
namespace Go.Proofs.Ytdefpcjlbganpaa
open Go.RowKit Go.BigFrame
def mxS (s t : Sp) : Sp := ⟨max s.lo t.lo, min s.hi t.hi⟩
def cvS (s t : Sp) : Sp := ⟨min s.lo t.lo, max s.hi t.hi⟩
set_option maxHeartbeats 400000 in
theorem meetSpan_is (s t : Sp) (w : World) :
   Calls Try.prog 116 #[s.v, t.v] w fun e w' => e = .returned (mxS s t).v ∧ w' = ((w.alloc (.cells #[.int .i64 s.lo, .int .i64 s.hi] 58)).alloc (.cells #[.int .i64 t.lo, .int .i64 t.hi] 58)).alloc (.cells #[.int .i64 (mxS s t).lo, .int .i64 (mxS s t).hi] 58) := by
  obtain ⟨m, hm⟩ : ∃ m, max s.lo t.lo = m := ⟨_, rfl⟩
  obtain ⟨n, hn⟩ : ∃ m, min s.hi t.hi = m := ⟨_, rfl⟩
  rw [show mxS s t = ⟨m, n⟩ from by rw [mxS, hm, hn]]
  have hm1 := Lib.hid hm
  have hn1 := Lib.hid hn
  clear hm hn
  go_enter Try.func116, Try.ntmps116
  go_wp2_with fail
  all_goals
    have e1 := hm1.out
    have e2 := hn1.out
    clear hm1 hn1
    first | (have e3 : m = s.lo := by omega) | (have e3 : m = t.lo := by omega)
    first | (have e4 : n = s.hi := by omega) | (have e4 : n = t.hi := by omega)
    subst e3 e4
    refine bodyPost_ret (v := Sp.v ⟨_, _⟩) (by simp [results, Try.results116, go_sem]) rfl ⟨rfl, rfl⟩
theorem meetSpan_any (s t : Sp) (w : World) :
   Calls Try.prog 116 #[s.v, t.v] w fun e w' => e = .returned (mxS s t).v ∧ Below w.heap.size w w' :=
  (meetSpan_is s t w).mono fun _ _ ⟨h, hw⟩ => ⟨h, hw ▸ ((((St.nil w).al _).al _).al _).b⟩
set_option maxHeartbeats 400000 in
theorem coverSpan_any (s t : Sp) (w : World) :
   Calls Try.prog 117 #[s.v, t.v] w fun e w' => e = .returned (cvS s t).v ∧ Below w.heap.size w w' := by
  go_enter Try.func117, Try.ntmps117
  go_wp2_with fail
  all_goals
    refine bodyPost_ret (v := (cvS s t).v) (by simp [results, Try.results117, go_sem, cvS]; omega) rfl ⟨rfl, ?_⟩
    exact ((((St.nil w).al _).al _).al _).b
def bx0 : Bx := ⟨⟨0, 0⟩, ⟨0, 0⟩⟩
def mxB (a b : Bx) : Bx := ⟨mxS a.x b.x, mxS a.y b.y⟩
/-- The common part of two boxes. -/
def meetB (a b : Bx) : Option Bx := if okB a && (okB b && okB (mxB a b)) then some (mxB a b) else none
def bxRes (o : Option Bx) : Value := .tuple #[(o.getD bx0).v, .bool o.isSome]
theorem below_set {w W : World} (h : Below w.heap.size w W) (b o : Nat) (v : Value) (hb : w.heap.size ≤ b) : Below w.heap.size w (W.setCell ⟨b, o, none⟩ v) := h.setCell (p := ⟨b, o, none⟩) hb v
theorem below_set4 {w W : World} (h : Below w.heap.size w W) (b : Nat) (v1 v2 v3 v4 : Value) (hb : w.heap.size ≤ b) : Below w.heap.size w ((((W.setCell ⟨b, 0, none⟩ v1).setCell ⟨b, 1, none⟩ v2).setCell ⟨b, 2, none⟩ v3).setCell ⟨b, 3, none⟩ v4) :=
  below_set (below_set (below_set (below_set h _ _ _ hb) _ _ _ hb) _ _ _ hb) _ _ _ hb
theorem below_al (W : World) (o : Obj) : Below W.heap.size W (W.alloc o) := (Below.refl _ _).alloc (Nat.le_refl _) _
/-- Two boxes' cells and a result's. -/
abbrev LBB (s t : Bx) (n : Nat) (v0 v1 v2 v3 : Value) : List (Nat × Nat × Value) :=
  (n + 1 + 1, 0, v0) :: (n + 1 + 1, 1, v1) :: (n + 1 + 1, 2, v2) :: (n + 1 + 1, 3, v3) ::
  (n + 1, 0, .int .i64 t.x.lo) :: (n + 1, 1, .int .i64 t.x.hi) :: (n + 1, 2, .int .i64 t.y.lo) :: (n + 1, 3, .int .i64 t.y.hi) ::
  (n, 0, .int .i64 s.x.lo) :: (n, 1, .int .i64 s.x.hi) :: (n, 2, .int .i64 s.y.lo) :: (n, 3, .int .i64 s.y.hi) :: []
abbrev z64 : Value := .int .i64 0
theorem unBB {w : World} {s t : Bx} {W : World} (S : St w W (LBB s t w.heap.size z64 z64 z64 z64)) :
    W.cell? ⟨w.heap.size, 0, none⟩ = some (.int .i64 s.x.lo) ∧ W.cell? ⟨w.heap.size, 1, none⟩ = some (.int .i64 s.x.hi) ∧ W.cell? ⟨w.heap.size, 2, none⟩ = some (.int .i64 s.y.lo) ∧ W.cell? ⟨w.heap.size, 3, none⟩ = some (.int .i64 s.y.hi) ∧
      W.cell? ⟨w.heap.size + 1, 0, none⟩ = some (.int .i64 t.x.lo) ∧ W.cell? ⟨w.heap.size + 1, 1, none⟩ = some (.int .i64 t.x.hi) ∧ W.cell? ⟨w.heap.size + 1, 2, none⟩ = some (.int .i64 t.y.lo) ∧ W.cell? ⟨w.heap.size + 1, 3, none⟩ = some (.int .i64 t.y.hi) ∧ St w W (LBB s t w.heap.size z64 z64 z64 z64) := by
  have S1 := S
  obtain ⟨_, ⟨_, p1⟩, ⟨_, p2⟩, ⟨_, p3⟩, ⟨_, p4⟩, ⟨_, p5⟩, ⟨_, p6⟩, ⟨_, p7⟩, ⟨_, p8⟩, ⟨_, p9⟩, ⟨_, pa⟩, ⟨_, pb⟩, ⟨_, pc⟩, _⟩ := S1
  exact ⟨p9.1, pa.1, pb.1, pc.1, p5.1, p6.1, p7.1, p8.1, S⟩
theorem keepBB {w : World} {s t : Bx} {W W' : World} (hb : Below W.heap.size W W')
    (h : W.cell? ⟨w.heap.size, 0, none⟩ = some (.int .i64 s.x.lo) ∧ W.cell? ⟨w.heap.size, 1, none⟩ = some (.int .i64 s.x.hi) ∧ W.cell? ⟨w.heap.size, 2, none⟩ = some (.int .i64 s.y.lo) ∧ W.cell? ⟨w.heap.size, 3, none⟩ = some (.int .i64 s.y.hi) ∧
      W.cell? ⟨w.heap.size + 1, 0, none⟩ = some (.int .i64 t.x.lo) ∧ W.cell? ⟨w.heap.size + 1, 1, none⟩ = some (.int .i64 t.x.hi) ∧ W.cell? ⟨w.heap.size + 1, 2, none⟩ = some (.int .i64 t.y.lo) ∧ W.cell? ⟨w.heap.size + 1, 3, none⟩ = some (.int .i64 t.y.hi) ∧ St w W (LBB s t w.heap.size z64 z64 z64 z64)) :
    W'.cell? ⟨w.heap.size, 0, none⟩ = some (.int .i64 s.x.lo) ∧ W'.cell? ⟨w.heap.size, 1, none⟩ = some (.int .i64 s.x.hi) ∧ W'.cell? ⟨w.heap.size, 2, none⟩ = some (.int .i64 s.y.lo) ∧ W'.cell? ⟨w.heap.size, 3, none⟩ = some (.int .i64 s.y.hi) ∧
      W'.cell? ⟨w.heap.size + 1, 0, none⟩ = some (.int .i64 t.x.lo) ∧ W'.cell? ⟨w.heap.size + 1, 1, none⟩ = some (.int .i64 t.x.hi) ∧ W'.cell? ⟨w.heap.size + 1, 2, none⟩ = some (.int .i64 t.y.lo) ∧ W'.cell? ⟨w.heap.size + 1, 3, none⟩ = some (.int .i64 t.y.hi) ∧ St w W' (LBB s t w.heap.size z64 z64 z64 z64) := by
  have S := h.2.2.2.2.2.2.2.2.next hb
  have S1 := S
  obtain ⟨_, ⟨_, p1⟩, ⟨_, p2⟩, ⟨_, p3⟩, ⟨_, p4⟩, ⟨_, p5⟩, ⟨_, p6⟩, ⟨_, p7⟩, ⟨_, p8⟩, ⟨_, p9⟩, ⟨_, pa⟩, ⟨_, pb⟩, ⟨_, pc⟩, _⟩ := S1
  exact ⟨p9.1, pa.1, pb.1, pc.1, p5.1, p6.1, p7.1, p8.1, S⟩
set_option maxRecDepth 100000 in
set_option maxHeartbeats 6000000 in
theorem Meet_any (s t : Bx) (w : World) :
   Calls Try.prog 45 #[s.v, t.v] w fun e w' => e = .returned (bxRes (meetB s t)) ∧ Below w.heap.size w w' := by
  have S := Lib.hid ((((St.nil w).boxB s 60 _ rfl).boxB t 60 (w.heap.size + 1) (by simp)).box4 (.int .i64 0) (.int .i64 0) (.int .i64 0) (.int .i64 0) 60 (w.heap.size + 1 + 1) (by simp))
  have C1 := fun W => Lib.hid (Proper_any s W)
  have C2 := fun W => Lib.hid (Proper_any t W)
  have C3 := fun W => Lib.hid (Proper_any (mxB s t) W)
  have CX := fun W => Lib.hid (meetSpan_is s.x t.x W)
  have CY := fun W => Lib.hid (meetSpan_is s.y t.y W)
  obtain ⟨a, ha⟩ : ∃ a, Hid (okB s = a) := ⟨_, rfl⟩
  obtain ⟨b, hb⟩ : ∃ a, Hid (okB t = a) := ⟨_, rfl⟩
  obtain ⟨c, hc⟩ : ∃ a, Hid (okB (mxB s t) = a) := ⟨_, rfl⟩
  obtain ⟨X, hX⟩ : ∃ X, Hid (mxS s.x t.x = X) := ⟨_, rfl⟩
  obtain ⟨Y, hY⟩ : ∃ X, Hid (mxS s.y t.y = X) := ⟨_, rfl⟩
  rw [show meetB s t = if a && (b && c) then some ⟨X, Y⟩ else none from by rw [meetB, ha.out, hb.out, hc.out, mxB, hX.out, hY.out]]
  simp only [ha.out, hb.out, hc.out, hX.out, hY.out] at C1 C2 C3 CX CY
  rw [show mxB s t = ⟨X, Y⟩ from by rw [mxB, hX.out, hY.out]] at C3
  clear ha hb hc hX hY
  have KN := fun W W' => Lib.hid (@keepBB w s t W W')
  cases a
  · rw [if_neg (by simp)]
    go_enter Try.func45, Try.ntmps45
    go_wp2_with fail
    refine (C1 _).out.mono ?_
    rintro e w1 ⟨rfl, hb1⟩
    have S1 := Lib.hid (S.out.next hb1)
    obtain ⟨_, ⟨_, p1⟩, ⟨_, p2⟩, ⟨_, p3⟩, ⟨_, p4⟩, _⟩ := S1.out
    clear hb1 S
    go_wp2_with fail
    refine bodyPost_ret (v := bxRes none) (by simp [results, Try.results45, go_sem, bxRes, bx0, p1, p2, p3, p4]) rfl ⟨rfl, ?_⟩
    exact below_set4 S1.out.b _ _ _ _ _ (by omega)
  · cases b
    · rw [if_neg (by simp)]
      go_enter Try.func45, Try.ntmps45
      go_wp2_with fail
      refine (C1 _).out.mono ?_
      rintro e w1 ⟨rfl, hb1⟩
      have S1 := Lib.hid (S.out.next hb1)
      clear hb1 S
      obtain ⟨_, ⟨_, p1⟩, ⟨_, p2⟩, ⟨_, p3⟩, ⟨_, p4⟩, ⟨_, p5⟩, ⟨_, p6⟩, ⟨_, p7⟩, ⟨_, p8⟩, _⟩ := S1.out
      go_wp2_with fail
      refine (C2 _).out.mono ?_
      rintro e w2 ⟨rfl, hb2⟩
      have S2 := Lib.hid (S1.out.next hb2)
      clear p1 p2 p3 p4 p5 p6 p7 p8 hb2 S1
      obtain ⟨_, ⟨_, p1⟩, ⟨_, p2⟩, ⟨_, p3⟩, ⟨_, p4⟩, _⟩ := S2.out
      go_wp2_with fail
      refine bodyPost_ret (v := bxRes none) (by simp [results, Try.results45, go_sem, bxRes, bx0, p1, p2, p3, p4]) rfl ⟨rfl, ?_⟩
      exact below_set4 S2.out.b _ _ _ _ _ (by omega)
    · obtain ⟨R, hR⟩ : ∃ R : Option Bx, Hid ((if (true && (true && c)) = true then some (⟨X, Y⟩ : Bx) else none) = R) := ⟨_, rfl⟩
      rw [hR.out]
      go_enter Try.func45, Try.ntmps45
      go_wp2_with fail
      refine (C1 _).out.mono ?_
      rintro e w1 ⟨rfl, hb1⟩
      have S1 := Lib.hid (S.out.next hb1)
      clear hb1 S
      obtain ⟨_, ⟨_, p1⟩, ⟨_, p2⟩, ⟨_, p3⟩, ⟨_, p4⟩, ⟨_, p5⟩, ⟨_, p6⟩, ⟨_, p7⟩, ⟨_, p8⟩, _⟩ := S1.out
      go_wp2_with fail
      refine (C2 _).out.mono ?_
      rintro e w2 ⟨rfl, hb2⟩
      have S2 := Lib.hid (S1.out.next hb2)
      clear p1 p2 p3 p4 p5 p6 p7 p8 hb2 S1
      go_wp2_with fail
      obtain ⟨_, p1, ⟨_, p2⟩, ⟨_, p3⟩, ⟨_, p4⟩, ⟨_, p5⟩, ⟨_, p6⟩, ⟨_, p7⟩, ⟨_, p8⟩, ⟨_, p9⟩, ⟨_, pa⟩, ⟨_, pb⟩, ⟨_, pc⟩, _⟩ := S2.out
      have hsz : w.heap.size + 1 + 1 < w2.heap.size := p1.1
      go_region_held3 (fun W => W.cell? ⟨w.heap.size, 0, none⟩ = some (.int .i64 s.x.lo) ∧ W.cell? ⟨w.heap.size, 1, none⟩ = some (.int .i64 s.x.hi) ∧ W.cell? ⟨w.heap.size, 2, none⟩ = some (.int .i64 s.y.lo) ∧ W.cell? ⟨w.heap.size, 3, none⟩ = some (.int .i64 s.y.hi) ∧
        W.cell? ⟨w.heap.size + 1, 0, none⟩ = some (.int .i64 t.x.lo) ∧ W.cell? ⟨w.heap.size + 1, 1, none⟩ = some (.int .i64 t.x.hi) ∧ W.cell? ⟨w.heap.size + 1, 2, none⟩ = some (.int .i64 t.y.lo) ∧ W.cell? ⟨w.heap.size + 1, 3, none⟩ = some (.int .i64 t.y.hi))
        (simp (maxDischargeDepth := 20) [*, World.cell?_alloc_some])
        (first | (go_at_call 116; with_reducible refine (CX _).out.mono ?_; rintro e w' ⟨rfl, rfl⟩) | (go_at_call 116; with_reducible refine (CY _).out.mono ?_; rintro e w' ⟨rfl, rfl⟩))
      · obtain ⟨Wn, hWn⟩ : ∃ Wn, (((((((w2.alloc (.cells #[.int .i64 s.x.lo, .int .i64 s.x.hi] 58)).alloc (.cells #[.int .i64 t.x.lo, .int .i64 t.x.hi] 58)).alloc (.cells #[.int .i64 X.lo, .int .i64 X.hi] 58)).alloc (.cells #[.int .i64 s.y.lo, .int .i64 s.y.hi] 58)).alloc (.cells #[.int .i64 t.y.lo, .int .i64 t.y.hi] 58)).alloc (.cells #[.int .i64 Y.lo, .int .i64 Y.hi] 58)).alloc (.cells #[.int .i64 X.lo, .int .i64 X.hi, .int .i64 Y.lo, .int .i64 Y.hi] 60)).drew = Wn := ⟨_, rfl⟩
        have S4 : St w Wn ((w2.heap.size + 1 + 1 + 1 + 1 + 1 + 1, 0, .int .i64 X.lo) :: (w2.heap.size + 1 + 1 + 1 + 1 + 1 + 1, 1, .int .i64 X.hi) :: (w2.heap.size + 1 + 1 + 1 + 1 + 1 + 1, 2, .int .i64 Y.lo) :: (w2.heap.size + 1 + 1 + 1 + 1 + 1 + 1, 3, .int .i64 Y.hi) :: LBB s t w.heap.size z64 z64 z64 z64) := by
          rw [← hWn]
          exact (St.dr (St.boxB (St.al (St.al (St.al (St.al (St.al (St.al S2.out _) _) _) _) _) _) ⟨X, Y⟩ 60 (w2.heap.size + 1 + 1 + 1 + 1 + 1 + 1) (by simp)))
        clear S2 hsz p1 p2 p3 p4 p5 p6 p7 p8 p9 pa pb pc
        rw [hWn]
        clear hWn
        have HS := Lib.hid S4
        obtain ⟨_, ⟨_, q1⟩, ⟨_, q2⟩, ⟨_, q3⟩, ⟨_, q4⟩, _⟩ := S4
        go_wp2_with fail
        refine (C3 _).out.mono ?_
        rintro e w5 ⟨rfl, hb5⟩
        have S5 := Lib.hid (HS.out.next hb5)
        clear hb5 HS q1 q2 q3 q4
        obtain ⟨_, ⟨_, q1⟩, ⟨_, q2⟩, ⟨_, q3⟩, ⟨_, q4⟩, ⟨l1, p1⟩, ⟨_, p2⟩, ⟨_, p3⟩, ⟨_, p4⟩, _⟩ := S5.out
        cases c
        · have hR1 : R = none := by rw [← hR.out]; simp
          clear hR
          go_wp2_with fail
          refine bodyPost_ret (v := bxRes none) (by simp [results, Try.results45, go_sem, bxRes, bx0, p1, p2, p3, p4]) rfl ⟨by rw [hR1], ?_⟩
          exact below_set4 S5.out.b _ _ _ _ _ (by omega)
        · have hR1 : R = some ⟨X, Y⟩ := by rw [← hR.out]; simp
          clear hR
          go_wp2_with fail
          refine bodyPost_ret (v := bxRes (some ⟨X, Y⟩)) (by simp [results, Try.results45, go_sem, bxRes, p1, p2, p3, p4]) rfl ⟨by rw [hR1], ?_⟩
          exact below_set4 S5.out.b _ _ _ _ _ (by omega)
      · obtain ⟨Wn, hWn⟩ : ∃ Wn, (((((((w2.alloc (.cells #[.int .i64 s.x.lo, .int .i64 s.x.hi] 58)).alloc (.cells #[.int .i64 t.x.lo, .int .i64 t.x.hi] 58)).alloc (.cells #[.int .i64 X.lo, .int .i64 X.hi] 58)).alloc (.cells #[.int .i64 X.lo, .int .i64 X.hi, .int .i64 Y.lo, .int .i64 Y.hi] 60)).alloc (.cells #[.int .i64 s.y.lo, .int .i64 s.y.hi] 58)).alloc (.cells #[.int .i64 t.y.lo, .int .i64 t.y.hi] 58)).alloc (.cells #[.int .i64 Y.lo, .int .i64 Y.hi] 58)).drew = Wn := ⟨_, rfl⟩
        have S4 : St w Wn ((w2.heap.size + 1 + 1 + 1, 0, .int .i64 X.lo) :: (w2.heap.size + 1 + 1 + 1, 1, .int .i64 X.hi) :: (w2.heap.size + 1 + 1 + 1, 2, .int .i64 Y.lo) :: (w2.heap.size + 1 + 1 + 1, 3, .int .i64 Y.hi) :: LBB s t w.heap.size z64 z64 z64 z64) := by
          rw [← hWn]
          exact (St.dr (St.al (St.al (St.al (St.boxB (St.al (St.al (St.al S2.out _) _) _) ⟨X, Y⟩ 60 (w2.heap.size + 1 + 1 + 1) (by simp)) _) _) _))
        clear S2 hsz p1 p2 p3 p4 p5 p6 p7 p8 p9 pa pb pc
        rw [hWn]
        clear hWn
        have HS := Lib.hid S4
        obtain ⟨_, ⟨_, q1⟩, ⟨_, q2⟩, ⟨_, q3⟩, ⟨_, q4⟩, _⟩ := S4
        go_wp2_with fail
        refine (C3 _).out.mono ?_
        rintro e w5 ⟨rfl, hb5⟩
        have S5 := Lib.hid (HS.out.next hb5)
        clear hb5 HS q1 q2 q3 q4
        obtain ⟨_, ⟨_, q1⟩, ⟨_, q2⟩, ⟨_, q3⟩, ⟨_, q4⟩, ⟨l1, p1⟩, ⟨_, p2⟩, ⟨_, p3⟩, ⟨_, p4⟩, _⟩ := S5.out
        cases c
        · have hR1 : R = none := by rw [← hR.out]; simp
          clear hR
          go_wp2_with fail
          refine bodyPost_ret (v := bxRes none) (by simp [results, Try.results45, go_sem, bxRes, bx0, p1, p2, p3, p4]) rfl ⟨by rw [hR1], ?_⟩
          exact below_set4 S5.out.b _ _ _ _ _ (by omega)
        · have hR1 : R = some ⟨X, Y⟩ := by rw [← hR.out]; simp
          clear hR
          go_wp2_with fail
          refine bodyPost_ret (v := bxRes (some ⟨X, Y⟩)) (by simp [results, Try.results45, go_sem, bxRes, p1, p2, p3, p4]) rfl ⟨by rw [hR1], ?_⟩
          exact below_set4 S5.out.b _ _ _ _ _ (by omega)
      · obtain ⟨Wn, hWn⟩ : ∃ Wn, (((((((w2.alloc (.cells #[.int .i64 X.lo, .int .i64 X.hi, .int .i64 Y.lo, .int .i64 Y.hi] 60)).alloc (.cells #[.int .i64 s.x.lo, .int .i64 s.x.hi] 58)).alloc (.cells #[.int .i64 t.x.lo, .int .i64 t.x.hi] 58)).alloc (.cells #[.int .i64 X.lo, .int .i64 X.hi] 58)).alloc (.cells #[.int .i64 s.y.lo, .int .i64 s.y.hi] 58)).alloc (.cells #[.int .i64 t.y.lo, .int .i64 t.y.hi] 58)).alloc (.cells #[.int .i64 Y.lo, .int .i64 Y.hi] 58)).drew = Wn := ⟨_, rfl⟩
        have S4 : St w Wn ((w2.heap.size, 0, .int .i64 X.lo) :: (w2.heap.size, 1, .int .i64 X.hi) :: (w2.heap.size, 2, .int .i64 Y.lo) :: (w2.heap.size, 3, .int .i64 Y.hi) :: LBB s t w.heap.size z64 z64 z64 z64) := by
          rw [← hWn]
          exact (St.dr (St.al (St.al (St.al (St.al (St.al (St.al (St.boxB S2.out ⟨X, Y⟩ 60 (w2.heap.size) (by simp)) _) _) _) _) _) _))
        clear S2 hsz p1 p2 p3 p4 p5 p6 p7 p8 p9 pa pb pc
        rw [hWn]
        clear hWn
        have HS := Lib.hid S4
        obtain ⟨_, ⟨_, q1⟩, ⟨_, q2⟩, ⟨_, q3⟩, ⟨_, q4⟩, _⟩ := S4
        go_wp2_with fail
        refine (C3 _).out.mono ?_
        rintro e w5 ⟨rfl, hb5⟩
        have S5 := Lib.hid (HS.out.next hb5)
        clear hb5 HS q1 q2 q3 q4
        obtain ⟨_, ⟨_, q1⟩, ⟨_, q2⟩, ⟨_, q3⟩, ⟨_, q4⟩, ⟨l1, p1⟩, ⟨_, p2⟩, ⟨_, p3⟩, ⟨_, p4⟩, _⟩ := S5.out
        cases c
        · have hR1 : R = none := by rw [← hR.out]; simp
          clear hR
          go_wp2_with fail
          refine bodyPost_ret (v := bxRes none) (by simp [results, Try.results45, go_sem, bxRes, bx0, p1, p2, p3, p4]) rfl ⟨by rw [hR1], ?_⟩
          exact below_set4 S5.out.b _ _ _ _ _ (by omega)
        · have hR1 : R = some ⟨X, Y⟩ := by rw [← hR.out]; simp
          clear hR
          go_wp2_with fail
          refine bodyPost_ret (v := bxRes (some ⟨X, Y⟩)) (by simp [results, Try.results45, go_sem, bxRes, p1, p2, p3, p4]) rfl ⟨by rw [hR1], ?_⟩
          exact below_set4 S5.out.b _ _ _ _ _ (by omega)
/-- A corner of a box. -/
def cr (b : Bx) : Nat → Pt
  | 0 => if okB b then ⟨b.x.lo, b.y.lo⟩ else ⟨0, 0⟩
  | 1 => if okB b then ⟨b.x.hi, b.y.lo⟩ else ⟨0, 0⟩
  | 2 => if okB b then ⟨b.x.hi, b.y.hi⟩ else ⟨0, 0⟩
  | _ => if okB b then ⟨b.x.lo, b.y.hi⟩ else ⟨0, 0⟩
abbrev c4 (a b c d : Pt) : Value := .agg #[.int .i64 a.x, .int .i64 a.y, .int .i64 b.x, .int .i64 b.y, .int .i64 c.x, .int .i64 c.y, .int .i64 d.x, .int .i64 d.y]
theorem St.box8 {w W : World} {l} (h : St w W l) (a b c d e f g i : Value) (t : TypeId) (k : Nat) (hb : W.heap.size = k) : St w (W.alloc (.cells #[a, b, c, d, e, f, g, i] t)) ((k, 0, a) :: (k, 1, b) :: (k, 2, c) :: (k, 3, d) :: (k, 4, e) :: (k, 5, f) :: (k, 6, g) :: (k, 7, i) :: l) := h.box #[a, b, c, d, e, f, g, i] t k hb
theorem below_set8 {w W : World} (h : Below w.heap.size w W) (b : Nat) (v1 v2 v3 v4 v5 v6 v7 v8 : Value) (hb : w.heap.size ≤ b) : Below w.heap.size w ((((((((W.setCell ⟨b, 0, none⟩ v1).setCell ⟨b, 1, none⟩ v2).setCell ⟨b, 2, none⟩ v3).setCell ⟨b, 3, none⟩ v4).setCell ⟨b, 4, none⟩ v5).setCell ⟨b, 5, none⟩ v6).setCell ⟨b, 6, none⟩ v7).setCell ⟨b, 7, none⟩ v8) :=
  h.setCell (p := ⟨b, 0, none⟩) hb v1 |>.setCell (p := ⟨b, 1, none⟩) hb v2 |>.setCell (p := ⟨b, 2, none⟩) hb v3 |>.setCell (p := ⟨b, 3, none⟩) hb v4 |>.setCell (p := ⟨b, 4, none⟩) hb v5 |>.setCell (p := ⟨b, 5, none⟩) hb v6 |>.setCell (p := ⟨b, 6, none⟩) hb v7 |>.setCell (p := ⟨b, 7, none⟩) hb v8
set_option maxHeartbeats 1000000 in
theorem Corners_any (b : Bx) (w : World) :
   Calls Try.prog 57 #[b.v] w fun e w' => e = .returned (c4 (cr b 0) (cr b 1) (cr b 2) (cr b 3)) ∧ Below w.heap.size w w' := by
  have S := Lib.hid (((St.nil w).boxB b 60 _ rfl).box8 (.int .i64 0) (.int .i64 0) (.int .i64 0) (.int .i64 0) (.int .i64 0) (.int .i64 0) (.int .i64 0) (.int .i64 0) 68 (w.heap.size + 1) (by simp))
  have C1 := fun W => Lib.hid (Proper_any b W)
  obtain ⟨a, ha⟩ : ∃ a, Hid (okB b = a) := ⟨_, rfl⟩
  simp only [ha.out] at C1
  cases a
  · obtain ⟨R, hR⟩ : ∃ R, Hid (c4 (cr b 0) (cr b 1) (cr b 2) (cr b 3) = R) := ⟨_, rfl⟩
    have hR1 : R = c4 ⟨0, 0⟩ ⟨0, 0⟩ ⟨0, 0⟩ ⟨0, 0⟩ := by rw [← hR.out]; simp [c4, cr, ha.out]
    rw [hR.out, hR1]
    clear hR hR1
    go_enter Try.func57, Try.ntmps57
    go_wp2_with fail
    refine (C1 _).out.mono ?_
    rintro e w1 ⟨rfl, hb1⟩
    have S1 := Lib.hid (S.out.next hb1)
    obtain ⟨_, ⟨_, p1⟩, ⟨_, p2⟩, ⟨_, p3⟩, ⟨_, p4⟩, ⟨_, p5⟩, ⟨_, p6⟩, ⟨_, p7⟩, ⟨_, p8⟩, _⟩ := S1.out
    clear hb1 S
    go_wp2_with fail
    refine bodyPost_ret (v := c4 ⟨0, 0⟩ ⟨0, 0⟩ ⟨0, 0⟩ ⟨0, 0⟩) (by simp [results, Try.results57, go_sem, p1, p2, p3, p4, p5, p6, p7, p8]) rfl ⟨rfl, ?_⟩
    exact below_set8 S1.out.b _ _ _ _ _ _ _ _ _ (by omega)
  · obtain ⟨R, hR⟩ : ∃ R, Hid (c4 (cr b 0) (cr b 1) (cr b 2) (cr b 3) = R) := ⟨_, rfl⟩
    have hR1 : R = c4 ⟨b.x.lo, b.y.lo⟩ ⟨b.x.hi, b.y.lo⟩ ⟨b.x.hi, b.y.hi⟩ ⟨b.x.lo, b.y.hi⟩ := by rw [← hR.out]; simp [c4, cr, ha.out]
    rw [hR.out, hR1]
    clear hR hR1
    go_enter Try.func57, Try.ntmps57
    go_wp2_with fail
    refine (C1 _).out.mono ?_
    rintro e w1 ⟨rfl, hb1⟩
    have S1 := Lib.hid (S.out.next hb1)
    obtain ⟨_, ⟨_, p1⟩, ⟨_, p2⟩, ⟨_, p3⟩, ⟨_, p4⟩, ⟨_, p5⟩, ⟨_, p6⟩, ⟨_, p7⟩, ⟨_, p8⟩, ⟨_, q1⟩, ⟨_, q2⟩, ⟨_, q3⟩, ⟨_, q4⟩, _⟩ := S1.out
    clear hb1 S
    go_wp2_with fail
    refine bodyPost_ret (v := c4 ⟨b.x.lo, b.y.lo⟩ ⟨b.x.hi, b.y.lo⟩ ⟨b.x.hi, b.y.hi⟩ ⟨b.x.lo, b.y.hi⟩) (by simp [results, Try.results57, go_sem, p1, p2, p3, p4, p5, p6, p7, p8]) rfl ⟨rfl, ?_⟩
    exact below_set8 S1.out.b _ _ _ _ _ _ _ _ _ (by omega)
/-- Has a proper box one point only? -/
def sgl (b : Bx) : Bool := decide (cr b 0 = cr b 2)
set_option maxHeartbeats 1000000 in
theorem single_any (b : Bx) (w : World) :
   Calls Try.prog 119 #[b.v] w fun e w' => e = .returned (.bool (sgl b)) ∧ Below w.heap.size w w' := by
  have C1 := fun W => Lib.hid (Corners_any b W)
  rw [sgl, pt_beq]
  obtain ⟨p, hp⟩ : ∃ p, cr b 0 = p := ⟨_, rfl⟩
  obtain ⟨q, hq⟩ : ∃ p, cr b 1 = p := ⟨_, rfl⟩
  obtain ⟨r, hr⟩ : ∃ p, cr b 2 = p := ⟨_, rfl⟩
  obtain ⟨s, hs⟩ : ∃ p, cr b 3 = p := ⟨_, rfl⟩
  simp only [hp, hq, hr, hs] at C1 ⊢
  clear hp hq hr hs
  go_enter Try.func119, Try.ntmps119
  go_wp2_with fail
  refine (C1 _).out.mono ?_
  rintro e w1 ⟨rfl, hb1⟩
  have S1 := Lib.hid (((St.nil w).al _).next hb1)
  clear hb1
  go_wp2_with fail
  all_goals (go_ret; exact ⟨ret_bool (by simp [*]), (S1.out.al _).b⟩)
end Go.Proofs.Ytdefpcjlbganpaa
