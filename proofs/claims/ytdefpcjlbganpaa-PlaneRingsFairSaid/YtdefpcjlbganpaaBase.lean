import Derived.Test.YtdefpcjlbganpaaProg
import Derived.WalkKit

import Derived.LoopTactic
import Derived.WalkSpells
import Derived.WalkLawsBesides
import Derived.Lib.Hide
import Derived.BigQuiet
import Derived.IntWalk
import Derived.Deep.DeepMust
import Derived.WalkSmall
import Derived.StillTailTactics
import Derived.Deep.RegionLaw
import Derived.Deep.RegionHeld3
import Derived.Deep.QuietTactic
namespace Go.Proofs.Ytdefpcjlbganpaa
open Go.RowKit
def okC (n : Int) : Bool := decide (-1048576 ≤ n) && decide (n ≤ 1048576)
/-- A point. -/
structure Pt where
  x : Int
  y : Int
deriving DecidableEq
abbrev Pt.v (p : Pt) : Value := .agg #[.int .i64 p.x, .int .i64 p.y]
def okP (p : Pt) : Bool := okC p.x && okC p.y
/-- Cells that lie there, and may be written. -/
def Cs (W : World) : List (Nat × Nat × Value) → Prop
  | [] => True
  | (b, o, v) :: r => (b < W.heap.size ∧ W.cell? ⟨b, o, none⟩ = some v ∧ W.frozen? ⟨b, o, none⟩ = false) ∧ Cs W r
theorem Cs.keep {W W' : World} (hb : Below W.heap.size W W') : ∀ {l : List (Nat × Nat × Value)}, Cs W l → Cs W' l
  | [], _ => trivial
  | (b, o, v) :: _, h => ⟨⟨Nat.lt_of_lt_of_le h.1.1 hb.size, by rw [hb.cell (p := ⟨b, o, none⟩) h.1.1]; exact h.1.2.1, by rw [hb.frozen (p := ⟨b, o, none⟩) h.1.1]; exact h.1.2.2⟩, Cs.keep hb h.2⟩
theorem Cs.app {W : World} {m : List (Nat × Nat × Value)} (hm : Cs W m) : ∀ {l : List (Nat × Nat × Value)}, Cs W l → Cs W (l ++ m)
  | [], _ => hm
  | _ :: _, h => ⟨h.1, Cs.app hm h.2⟩
/-- Grown from w, and these cells lie there. -/
structure St (w W : World) (l : List (Nat × Nat × Value)) : Prop where
  b : Below w.heap.size w W
  c : Cs W l
theorem St.next {w W W' : World} {l} (h : St w W l) (hb : Below W.heap.size W W') : St w W' l :=
  ⟨h.b.trans (hb.mono h.b.size), h.c.keep hb⟩
theorem St.al {w W : World} {l} (h : St w W l) (o : Obj) : St w (W.alloc o) l :=
  h.next ((Below.refl _ _).alloc (Nat.le_refl _) _)
theorem below_dr (W : World) : Below W.heap.size W W.drew := (Below.refl _ _).drew
theorem St.dr {w W : World} {l} (h : St w W l) : St w W.drew l := h.next (below_dr W)
theorem St.nil (w : World) : St w w [] := ⟨Below.refl _ _, trivial⟩
theorem new_at (W : World) (cs : Array Value) (e : TypeId) (k : Nat) (u : Value) (h : cs.toList[k]? = some u) : (W.alloc (.cells cs e)).cell? ⟨W.heap.size, k, none⟩ = some u := by
  have h2 : cs[k]? = some u := by simpa using h
  go_simp
theorem new_fz (W : World) (cs : Array Value) (e : TypeId) (k : Nat) : (W.alloc (.cells cs e)).frozen? ⟨W.heap.size, k, none⟩ = false := by
  go_simp
/-- The cells of a block. -/
def blk (b : Nat) : Nat → List Value → List (Nat × Nat × Value)
  | _, [] => []
  | o, v :: r => (b, o, v) :: blk b (o + 1) r
theorem cs_blk (W : World) (cs : Array Value) (e : TypeId) : ∀ (l : List Value) (o : Nat), cs.toList.drop o = l → Cs (W.alloc (.cells cs e)) (blk W.heap.size o l)
  | [], _, _ => trivial
  | v :: r, o, h => by
    have h1 : cs.toList[o]? = some v := by
      have : (cs.toList.drop o)[0]? = some v := by rw [h]; rfl
      rwa [List.getElem?_drop, Nat.add_zero] at this
    refine ⟨⟨by simp, new_at W cs e o v h1, new_fz W cs e o⟩, cs_blk W cs e r (o + 1) ?_⟩
    rw [← List.drop_drop, h]; rfl
theorem St.box {w W : World} {l} (h : St w W l) (cs : Array Value) (e : TypeId) (b : Nat) (hb : W.heap.size = b) : St w (W.alloc (.cells cs e)) (blk b 0 cs.toList ++ l) := by
  subst hb
  exact ⟨(h.al _).b, Cs.app (h.al _).c (cs_blk W cs e _ 0 rfl)⟩
theorem St.box2 {w W : World} {l} (h : St w W l) (u v : Value) (e : TypeId) (b : Nat) (hb : W.heap.size = b) : St w (W.alloc (.cells #[u, v] e)) ((b, 0, u) :: (b, 1, v) :: l) :=
  h.box #[u, v] e b hb
theorem ret_bool {a b : Bool} (h : a = b) : Ending.returned (.bool a) = .returned (.bool b) := by rw [h]
theorem ret_int {k : IntKind} {a b : Int} (h : a = b) : Ending.returned (.int k a) = .returned (.int k b) := by rw [h]
set_option maxHeartbeats 400000 in
theorem validCoord_any (n : Int) (w : World) :
   Calls Try.prog 76 #[.int .i64 n] w fun e w' => e = .returned (.bool (okC n)) ∧ w = w' := by
  go_enter Try.func76, Try.ntmps76
  go_wp2
  all_goals (go_ret; refine ⟨ret_bool ?_, rfl⟩; simp [okC] <;> omega)
set_option maxHeartbeats 400000 in
theorem Valid_any (p : Pt) (w : World) :
   Calls Try.prog 17 #[p.v] w fun e w' => e = .returned (.bool (okP p)) ∧ Below w.heap.size w w' := by
  have C1 := fun W => Lib.hid (validCoord_any p.x W)
  have C2 := fun W => Lib.hid (validCoord_any p.y W)
  obtain ⟨a, ha⟩ : ∃ a, Hid (okC p.x = a) := ⟨_, rfl⟩
  obtain ⟨b, hb⟩ : ∃ a, Hid (okC p.y = a) := ⟨_, rfl⟩
  rw [show okP p = (a && b) from by rw [okP, ha.out, hb.out]]
  simp only [ha.out, hb.out] at C1 C2
  go_enter Try.func17, Try.ntmps17
  go_wp2_with fail
  refine (C1 _).out.mono ?_
  rintro e w' ⟨rfl, rfl⟩
  cases a
  · go_wp2_with fail
    go_ret
    exact ⟨rfl, (St.nil w).al _ |>.b⟩
  · go_wp2_with fail
    refine (C2 _).out.mono ?_
    rintro e w' ⟨rfl, rfl⟩
    go_wp2_with fail
    go_ret
    exact ⟨by cases b <;> rfl, (St.nil w).al _ |>.b⟩
theorem okC_iff {n : Int} : okC n = true ↔ -1048576 ≤ n ∧ n ≤ 1048576 := by simp [okC]
theorem okP_iff {p : Pt} : okP p = true ↔ (-1048576 ≤ p.x ∧ p.x ≤ 1048576) ∧ (-1048576 ≤ p.y ∧ p.y ≤ 1048576) := by simp [okP, okC_iff]
/-- Twice the area of a triangle. -/
def ar (a b c : Pt) : Int := (b.x - a.x) * (c.y - a.y) - (b.y - a.y) * (c.x - a.x)
/-- The square of a distance. -/
def dq (a b : Pt) : Int := (b.x - a.x) * (b.x - a.x) + (b.y - a.y) * (b.y - a.y)
theorem mul_abs {u v : Int} {A B : Nat} (hu : -(A : Int) ≤ u ∧ u ≤ A) (hv : -(B : Int) ≤ v ∧ v ≤ B) : -((A * B : Nat) : Int) ≤ u * v ∧ u * v ≤ ((A * B : Nat) : Int) := by
  have h1 : (u * v).natAbs ≤ A * B := by rw [Int.natAbs_mul]; exact Nat.mul_le_mul (by omega) (by omega)
  omega
theorem mul_sm {u v : Int} (hu : -2097152 ≤ u ∧ u ≤ 2097152) (hv : -2097152 ≤ v ∧ v ≤ 2097152) : -4398046511104 ≤ u * v ∧ u * v ≤ 4398046511104 :=
  mul_abs (A := 2097152) (B := 2097152) hu hv
theorem w64 {n : Int} (h : -9223372036854775808 ≤ n ∧ n ≤ 9223372036854775807) : wrap64 n = n := by unfold wrap64; omega
theorem ar_wrap (a b c : Pt) (ha : okP a = true) (hb : okP b = true) (hc : okP c = true) :
    wrap64 (wrap64 (wrap64 (b.x - a.x) * wrap64 (c.y - a.y)) - wrap64 (wrap64 (b.y - a.y) * wrap64 (c.x - a.x))) = ar a b c := by
  obtain ⟨a1, a2⟩ := okP_iff.1 ha
  obtain ⟨b1, b2⟩ := okP_iff.1 hb
  obtain ⟨c1, c2⟩ := okP_iff.1 hc
  have m1 := mul_sm (u := b.x - a.x) (v := c.y - a.y) (by omega) (by omega)
  have m2 := mul_sm (u := b.y - a.y) (v := c.x - a.x) (by omega) (by omega)
  rw [w64 (n := b.x - a.x) (by omega), w64 (n := c.y - a.y) (by omega), w64 (n := b.y - a.y) (by omega), w64 (n := c.x - a.x) (by omega),
    w64 (n := (b.x - a.x) * (c.y - a.y)) (by omega), w64 (n := (b.y - a.y) * (c.x - a.x)) (by omega), w64 (by omega)]
  rfl
theorem ar_sm (a b c : Pt) (ha : okP a = true) (hb : okP b = true) (hc : okP c = true) : -8796093022208 ≤ ar a b c ∧ ar a b c ≤ 8796093022208 := by
  obtain ⟨a1, a2⟩ := okP_iff.1 ha
  obtain ⟨b1, b2⟩ := okP_iff.1 hb
  obtain ⟨c1, c2⟩ := okP_iff.1 hc
  have m1 := mul_sm (u := b.x - a.x) (v := c.y - a.y) (by omega) (by omega)
  have m2 := mul_sm (u := b.y - a.y) (v := c.x - a.x) (by omega) (by omega)
  unfold ar
  omega
theorem sq_wrap {u v : Int} (hu : -2097152 ≤ u ∧ u ≤ 2097152) (hv : -2097152 ≤ v ∧ v ≤ 2097152) : wrap64 (wrap64 (u * u) + wrap64 (v * v)) = u * u + v * v := by
  have m1 := mul_sm hu hu
  have m2 := mul_sm hv hv
  rw [w64 (n := u * u) (by omega), w64 (n := v * v) (by omega), w64 (by omega)]
set_option maxHeartbeats 400000 in
theorem twiceArea_any (a b c : Pt) (w : World) (ha : okP a = true) (hb : okP b = true) (hc : okP c = true) :
   Calls Try.prog 79 #[a.v, b.v, c.v] w fun e w' => e = .returned (.int .i64 (ar a b c)) ∧ Below w.heap.size w w' := by
  have H := Lib.hid (ar_wrap a b c ha hb hc)
  clear ha hb hc
  go_enter Try.func79, Try.ntmps79
  go_wp2_with fail
  go_ret
  exact ⟨ret_int H.out, ((((St.nil w).al _).al _).al _).b⟩
set_option maxHeartbeats 400000 in
theorem twice_any (a b c : Pt) (w : World) (ha : okP a = true) (hb : okP b = true) (hc : okP c = true) :
   Calls Try.prog 82 #[a.v, b.v, c.v] w fun e w' => e = .returned (.int .i64 (ar a b c)) ∧ Below w.heap.size w w' := by
  have H := Lib.hid (ar_wrap a b c ha hb hc)
  clear ha hb hc
  go_enter Try.func82, Try.ntmps82
  go_wp2_with fail
  go_ret
  exact ⟨ret_int H.out, ((((St.nil w).al _).al _).al _).b⟩
set_option maxHeartbeats 400000 in
theorem squares_any (u v : Int) (w : World) (hu : -2097152 ≤ u ∧ u ≤ 2097152) (hv : -2097152 ≤ v ∧ v ≤ 2097152) :
   Calls Try.prog 83 #[.int .i64 u, .int .i64 v] w fun e w' => e = .returned (.int .i64 (u * u + v * v)) ∧ w = w' := by
  have H := Lib.hid (sq_wrap hu hv)
  clear hu hv
  go_enter Try.func83, Try.ntmps83
  go_wp2_with fail
  go_ret
  exact ⟨ret_int H.out, rfl⟩
set_option maxHeartbeats 400000 in
theorem square_any (a b : Pt) (w : World) (ha : okP a = true) (hb : okP b = true) :
   Calls Try.prog 84 #[a.v, b.v] w fun e w' => e = .returned (.int .i64 (dq a b)) ∧ Below w.heap.size w w' := by
  have H : Hid (wrap64 (wrap64 (wrap64 (a.x - b.x) * wrap64 (a.x - b.x)) + wrap64 (wrap64 (a.y - b.y) * wrap64 (a.y - b.y))) = dq a b) := by
    obtain ⟨a1, a2⟩ := okP_iff.1 ha
    obtain ⟨b1, b2⟩ := okP_iff.1 hb
    unfold Hid
    rw [w64 (n := a.x - b.x) (by omega), w64 (n := a.y - b.y) (by omega), sq_wrap (by omega) (by omega)]
    unfold dq
    rw [show b.x - a.x = -(a.x - b.x) from by omega, show b.y - a.y = -(a.y - b.y) from by omega, Int.neg_mul_neg, Int.neg_mul_neg]
  clear ha hb
  go_enter Try.func84, Try.ntmps84
  go_wp2_with fail
  go_ret
  exact ⟨ret_int H.out, (((St.nil w).al _).al _).b⟩
/-- The sign of a number. -/
def sg (n : Int) : Int := if 0 < n then 1 else if n < 0 then -1 else 0
set_option maxHeartbeats 400000 in
theorem sign_any (n : Int) (w : World) :
   Calls Try.prog 81 #[.int .i64 n] w fun e w' => e = .returned (.int .i64 (sg n)) ∧ w = w' := by
  go_enter Try.func81, Try.ntmps81
  go_wp2_with fail
  all_goals (go_ret; refine ⟨ret_int ?_, rfl⟩; simp [sg]; omega)
set_option maxHeartbeats 400000 in
theorem isNaN_any (n : Int) (w : World) :
   Calls Try.prog 133 #[.int .i64 n] w fun e w' => e = .returned (.bool false) ∧ w = w' := by
  go_enter Try.func133, Try.ntmps133
  go_wp2_with fail
  go_ret
  exact ⟨rfl, rfl⟩
/-- How two numbers compare. -/
def cm (a b : Int) : Int := if a < b then -1 else if b < a then 1 else 0
set_option maxHeartbeats 400000 in
theorem compare_any (a b : Int) (w : World) :
   Calls Try.prog 78 #[.int .i64 a, .int .i64 b] w fun e w' => e = .returned (.int .i64 (cm a b)) ∧ w = w' := by
  have C1 := fun n W => Lib.hid (isNaN_any n W)
  go_enter Try.func78, Try.ntmps78
  go_wp2_with (go_at_call 133; refine (C1 _ _).out.mono ?_; rintro e w' ⟨rfl, rfl⟩)
  all_goals (go_ret; refine ⟨ret_int ?_, rfl⟩; simp [cm]; omega)
set_option maxHeartbeats 400000 in
theorem rwithin_any (n lo hi : Int) (w : World) :
   Calls Try.prog 77 #[.int .i64 n, .int .i64 lo, .int .i64 hi] w fun e w' => e = .returned (.bool (decide (lo ≤ n) && decide (n ≤ hi))) ∧ w = w' := by
  go_enter Try.func77, Try.ntmps77
  go_wp2
  all_goals (go_ret; refine ⟨ret_bool ?_, rfl⟩; simp <;> omega)
set_option maxHeartbeats 400000 in
theorem rValid_any (p : Pt) (w : World) :
   Calls Try.prog 18 #[p.v] w fun e w' => e = .returned (.bool (okP p)) ∧ Below w.heap.size w w' := by
  have C1 := fun W => Lib.hid (rwithin_any p.x (-1048576) 1048576 W)
  have C2 := fun W => Lib.hid (rwithin_any p.y (-1048576) 1048576 W)
  obtain ⟨a, ha⟩ : ∃ a, Hid (okC p.x = a) := ⟨_, rfl⟩
  obtain ⟨b, hb⟩ : ∃ a, Hid (okC p.y = a) := ⟨_, rfl⟩
  rw [show okP p = (a && b) from by rw [okP, ha.out, hb.out]]
  simp only [show (decide (-1048576 ≤ p.x) && decide (p.x ≤ 1048576)) = a from ha.out, show (decide (-1048576 ≤ p.y) && decide (p.y ≤ 1048576)) = b from hb.out] at C1 C2
  go_enter Try.func18, Try.ntmps18
  go_wp2_with fail
  refine (C1 _).out.mono ?_
  rintro e w' ⟨rfl, rfl⟩
  go_wp2_with fail
  refine (C2 _).out.mono ?_
  rintro e w' ⟨rfl, rfl⟩
  cases a
  · go_wp2_with fail
    go_ret
    exact ⟨rfl, (St.nil w).al _ |>.b⟩
  · go_wp2_with fail
    go_ret
    exact ⟨by cases b <;> rfl, (St.nil w).al _ |>.b⟩
end Go.Proofs.Ytdefpcjlbganpaa
