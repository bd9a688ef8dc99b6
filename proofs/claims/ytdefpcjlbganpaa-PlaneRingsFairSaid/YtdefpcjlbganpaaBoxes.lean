import Derived.Test.YtdefpcjlbganpaaRoot
import Derived.WalkKit
import Derived.LoopTactic
import Derived.WalkSpells
import Derived.WalkLawsBesides
import Derived.Lib.Hide
import Derived.BigQuiet
import Derived.IntWalk
import Derived.Deep.DeepMust
import Derived.WalkSmall
import Derived.StillTailTactics
import Derived.Deep.RegionLaw
import Derived.Deep.RegionHeld3
import Derived.Deep.QuietTactic
namespace Go.Proofs.Ytdefpcjlbganpaa
open Go.RowKit
/-- A span. -/
structure Sp where
  lo : Int
  hi : Int
deriving DecidableEq
abbrev Sp.v (s : Sp) : Value := .agg #[.int .i64 s.lo, .int .i64 s.hi]
/-- A segment. -/
structure Sg where
  a : Pt
  b : Pt
deriving DecidableEq
abbrev Sg.v (s : Sg) : Value := .agg #[.int .i64 s.a.x, .int .i64 s.a.y, .int .i64 s.b.x, .int .i64 s.b.y]
/-- A box. -/
structure Bx where
  x : Sp
  y : Sp
deriving DecidableEq
abbrev Bx.v (s : Bx) : Value := .agg #[.int .i64 s.x.lo, .int .i64 s.x.hi, .int .i64 s.y.lo, .int .i64 s.y.hi]
set_option maxHeartbeats 400000 in
theorem spanOf_any (m n : Int) (w : World) :
   Calls Try.prog 134 #[.int .i64 m, .int .i64 n] w fun e w' => e = .returned (Sp.v ⟨min m n, max m n⟩) ∧ w' = w.alloc (.cells #[.int .i64 (min m n), .int .i64 (max m n)] 58) := by
  go_enter Try.func134, Try.ntmps134
  go_wp2_with fail
  all_goals (try (have hmn : m = n := by omega); subst hmn)
  all_goals (first | rw [show min m n = m from by omega, show max m n = n from by omega] | rw [show min m n = n from by omega, show max m n = m from by omega] | rw [show min m m = m from by omega, show max m m = m from by omega])
  all_goals first
    | (refine bodyPost_ret (v := Sp.v ⟨m, n⟩) (by simp [results, Try.results134, go_sem]; done) rfl ⟨rfl, rfl⟩; done)
    | (refine bodyPost_ret (v := Sp.v ⟨n, m⟩) (by simp [results, Try.results134, go_sem]; done) rfl ⟨rfl, rfl⟩; done)
    | (refine bodyPost_ret (v := Sp.v ⟨m, m⟩) (by simp [results, Try.results134, go_sem]; done) rfl ⟨rfl, rfl⟩; done)
theorem St.box1 {w W : World} {l} (h : St w W l) (u : Value) (e : TypeId) (b : Nat) (hb : W.heap.size = b) : St w (W.alloc (.cells #[u] e)) ((b, 0, u) :: l) := h.box #[u] e b hb
theorem St.box4 {w W : World} {l} (h : St w W l) (u v u2 v2 : Value) (e : TypeId) (b : Nat) (hb : W.heap.size = b) : St w (W.alloc (.cells #[u, v, u2, v2] e)) ((b, 0, u) :: (b, 1, v) :: (b, 2, u2) :: (b, 3, v2) :: l) := h.box #[u, v, u2, v2] e b hb
theorem St.boxB {w W : World} {l} (h : St w W l) (s : Bx) (e : TypeId) (b : Nat) (hb : W.heap.size = b) : St w (W.alloc (.cells #[.int .i64 s.x.lo, .int .i64 s.x.hi, .int .i64 s.y.lo, .int .i64 s.y.hi] e)) ((b, 0, .int .i64 s.x.lo) :: (b, 1, .int .i64 s.x.hi) :: (b, 2, .int .i64 s.y.lo) :: (b, 3, .int .i64 s.y.hi) :: l) := h.box4 _ _ _ _ e b hb
theorem St.boxG {w W : World} {l} (h : St w W l) (s : Sg) (e : TypeId) (b : Nat) (hb : W.heap.size = b) : St w (W.alloc (.cells #[.int .i64 s.a.x, .int .i64 s.a.y, .int .i64 s.b.x, .int .i64 s.b.y] e)) ((b, 0, .int .i64 s.a.x) :: (b, 1, .int .i64 s.a.y) :: (b, 2, .int .i64 s.b.x) :: (b, 3, .int .i64 s.b.y) :: l) := h.box4 _ _ _ _ e b hb
theorem St.boxP {w W : World} {l} (h : St w W l) (s : Pt) (e : TypeId) (b : Nat) (hb : W.heap.size = b) : St w (W.alloc (.cells #[.int .i64 s.x, .int .i64 s.y] e)) ((b, 0, .int .i64 s.x) :: (b, 1, .int .i64 s.y) :: l) := h.box2 _ _ e b hb
theorem St.boxS {w W : World} {l} (h : St w W l) (s : Sp) (e : TypeId) (b : Nat) (hb : W.heap.size = b) : St w (W.alloc (.cells #[.int .i64 s.lo, .int .i64 s.hi] e)) ((b, 0, .int .i64 s.lo) :: (b, 1, .int .i64 s.hi) :: l) := h.box2 _ _ e b hb
/-- The least box that has both ends of a segment. -/
def bxOf (s : Sg) : Bx := ⟨⟨min s.a.x s.b.x, max s.a.x s.b.x⟩, ⟨min s.a.y s.b.y, max s.a.y s.b.y⟩⟩
set_option maxHeartbeats 400000 in
theorem boxOf_any (s : Sg) (w : World) :
   Calls Try.prog 86 #[s.v] w fun e w' => e = .returned (bxOf s).v ∧ Below w.heap.size w w' := by
  have C1 := fun m n W => Lib.hid (spanOf_any m n W)
  go_enter Try.func86, Try.ntmps86
  go_wp2_with fail
  go_region_held3 (fun w' => w'.cell? ⟨w.heap.size, 0, none⟩ = some (.int .i64 s.a.x) ∧ w'.cell? ⟨w.heap.size, 1, none⟩ = some (.int .i64 s.a.y) ∧ w'.cell? ⟨w.heap.size, 2, none⟩ = some (.int .i64 s.b.x) ∧ w'.cell? ⟨w.heap.size, 3, none⟩ = some (.int .i64 s.b.y)) (go_keep) (first | (go_at_call 134; refine (C1 _ _ _).out.mono ?_; rintro e w' ⟨rfl, rfl⟩))
  all_goals
    go_wp2_with fail
    refine bodyPost_ret (v := (bxOf s).v) (by simp [results, Try.results86, go_sem, bxOf]; done) rfl ⟨rfl, ?_⟩
    exact ((((((St.nil w).al _).al _).al _).al _).dr).b
def okS (s : Sp) : Bool := decide (s.lo ≤ s.hi) && (okC s.lo && okC s.hi)
def okB (b : Bx) : Bool := okS b.x && okS b.y
def inS (s : Sp) (n : Int) : Bool := decide (s.lo ≤ n) && decide (n ≤ s.hi)
def hds (b : Bx) (p : Pt) : Bool := okB b && (inS b.x p.x && inS b.y p.y)
set_option maxHeartbeats 400000 in
theorem within_any (s : Sp) (n : Int) (w : World) :
   Calls Try.prog 126 #[s.v, .int .i64 n] w fun e w' => e = .returned (.bool (inS s n)) ∧ Below w.heap.size w w' := by
  go_enter Try.func126, Try.ntmps126
  go_wp2
  all_goals (go_ret; refine ⟨ret_bool ?_, ((St.nil w).al _).b⟩; simp [inS] <;> omega)
set_option maxHeartbeats 400000 in
theorem properSpan_any (s : Sp) (w : World) :
   Calls Try.prog 125 #[s.v] w fun e w' => e = .returned (.bool (okS s)) ∧ Below w.heap.size w w' := by
  have C1 := fun W => Lib.hid (validCoord_any s.lo W)
  have C2 := fun W => Lib.hid (validCoord_any s.hi W)
  obtain ⟨a, ha⟩ : ∃ a, Hid (okC s.lo = a) := ⟨_, rfl⟩
  obtain ⟨b, hb⟩ : ∃ a, Hid (okC s.hi = a) := ⟨_, rfl⟩
  rw [show okS s = (decide (s.lo ≤ s.hi) && (a && b)) from by rw [okS, ha.out, hb.out]]
  simp only [ha.out, hb.out] at C1 C2
  by_cases h : s.lo ≤ s.hi
  · go_enter Try.func125, Try.ntmps125
    go_wp2_with fail
    refine (C1 _).out.mono ?_
    rintro e w' ⟨rfl, rfl⟩
    cases a
    · go_wp2_with fail
      go_ret
      exact ⟨ret_bool (by simp), (St.nil w).al _ |>.b⟩
    · go_wp2_with fail
      refine (C2 _).out.mono ?_
      rintro e w' ⟨rfl, rfl⟩
      go_wp2_with fail
      go_ret
      exact ⟨ret_bool (by simp [h]), (St.nil w).al _ |>.b⟩
  · go_enter Try.func125, Try.ntmps125
    go_wp2_with fail
    go_ret
    exact ⟨ret_bool (by simp; omega), (St.nil w).al _ |>.b⟩
set_option maxHeartbeats 400000 in
theorem Proper_any (s : Bx) (w : World) :
   Calls Try.prog 53 #[s.v] w fun e w' => e = .returned (.bool (okB s)) ∧ Below w.heap.size w w' := by
  have S := Lib.hid ((St.nil w).boxB s 60 _ rfl)
  have C1 := fun W => Lib.hid (properSpan_any s.x W)
  have C2 := fun W => Lib.hid (properSpan_any s.y W)
  obtain ⟨a, ha⟩ : ∃ a, Hid (okS s.x = a) := ⟨_, rfl⟩
  obtain ⟨b, hb⟩ : ∃ a, Hid (okS s.y = a) := ⟨_, rfl⟩
  rw [show okB s = (a && b) from by rw [okB, ha.out, hb.out]]
  simp only [ha.out, hb.out] at C1 C2
  go_enter Try.func53, Try.ntmps53
  go_wp2_with fail
  refine (C1 _).out.mono ?_
  rintro e w1 ⟨rfl, hb1⟩
  have S1 := Lib.hid (S.out.next hb1)
  obtain ⟨_, ⟨_, p1⟩, ⟨_, p2⟩, ⟨_, p3⟩, ⟨_, p4⟩, _⟩ := S1.out
  clear hb1 S
  cases a
  · go_wp2_with fail
    go_ret
    exact ⟨ret_bool (by simp), S1.out.b⟩
  · go_wp2_with fail
    refine (C2 _).out.mono ?_
    rintro e w2 ⟨rfl, hb2⟩
    have S2 := Lib.hid (S1.out.next hb2)
    clear p1 p2 p3 p4 hb2 S1
    go_wp2_with fail
    go_ret
    exact ⟨ret_bool (by simp), S2.out.b⟩
set_option maxHeartbeats 400000 in
theorem Holds_any (s : Bx) (p : Pt) (w : World) :
   Calls Try.prog 55 #[s.v, p.v] w fun e w' => e = .returned (.bool (hds s p)) ∧ Below w.heap.size w w' := by
  have S := Lib.hid (((St.nil w).boxB s 60 _ rfl).boxP p 23 (w.heap.size + 1) (by simp))
  have C0 := fun W => Lib.hid (Proper_any s W)
  have C1 := fun W => Lib.hid (within_any s.x p.x W)
  have C2 := fun W => Lib.hid (within_any s.y p.y W)
  obtain ⟨z, hz⟩ : ∃ a, Hid (okB s = a) := ⟨_, rfl⟩
  obtain ⟨a, ha⟩ : ∃ a, Hid (inS s.x p.x = a) := ⟨_, rfl⟩
  obtain ⟨b, hb⟩ : ∃ a, Hid (inS s.y p.y = a) := ⟨_, rfl⟩
  rw [show hds s p = (z && (a && b)) from by rw [hds, hz.out, ha.out, hb.out]]
  simp only [hz.out, ha.out, hb.out] at C0 C1 C2
  go_enter Try.func55, Try.ntmps55
  go_wp2_with fail
  refine (C0 _).out.mono ?_
  rintro e w0 ⟨rfl, hb0⟩
  have S0 := Lib.hid (S.out.next hb0)
  obtain ⟨_, ⟨_, p1⟩, ⟨_, p2⟩, ⟨_, p3⟩, ⟨_, p4⟩, ⟨_, p5⟩, ⟨_, p6⟩, _⟩ := S0.out
  clear hb0 S
  cases z
  · go_wp2_with fail
    go_ret
    exact ⟨ret_bool (by simp), S0.out.b⟩
  · go_wp2_with fail
    refine (C1 _).out.mono ?_
    rintro e w1 ⟨rfl, hb1⟩
    have S1 := Lib.hid (S0.out.next hb1)
    clear p1 p2 p3 p4 p5 p6 hb1 S0
    obtain ⟨_, ⟨_, p1⟩, ⟨_, p2⟩, ⟨_, p3⟩, ⟨_, p4⟩, ⟨_, p5⟩, ⟨_, p6⟩, _⟩ := S1.out
    cases a
    · go_wp2_with fail
      go_ret
      exact ⟨ret_bool (by simp), S1.out.b⟩
    · go_wp2_with fail
      refine (C2 _).out.mono ?_
      rintro e w2 ⟨rfl, hb2⟩
      have S2 := Lib.hid (S1.out.next hb2)
      clear p1 p2 p3 p4 p5 p6 hb2 S1
      go_wp2_with fail
      go_ret
      exact ⟨ret_bool (by simp), S2.out.b⟩
end Go.Proofs.Ytdefpcjlbganpaa
