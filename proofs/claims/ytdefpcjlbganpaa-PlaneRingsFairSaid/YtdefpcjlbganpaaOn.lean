import Derived.Test.YtdefpcjlbganpaaBoxes
import Derived.WalkKit
import Derived.LoopTactic
import Derived.WalkSpells
import Derived.WalkLawsBesides
import Derived.Lib.Hide
import Derived.BigQuiet
import Derived.IntWalk
import Derived.Deep.DeepMust
import Derived.WalkSmall
import Derived.StillTailTactics
import Derived.Deep.RegionLaw
import Derived.Deep.RegionHeld3
import Derived.Deep.QuietTactic
namespace Go.Proofs.Ytdefpcjlbganpaa
open Go.RowKit Go.BigFrame
def okG (s : Sg) : Bool := okP s.a && (okP s.b && decide (s.a ≠ s.b))
/-- What the loads of a region of a segment and a point read. -/
abbrev SGP (w : World) (s : Sg) (p : Pt) (b c : Nat) (W : World) : Prop :=
  W.cell? ⟨b, 0, none⟩ = some (.int .i64 s.a.x) ∧ W.cell? ⟨b, 1, none⟩ = some (.int .i64 s.a.y) ∧ W.cell? ⟨b, 2, none⟩ = some (.int .i64 s.b.x) ∧ W.cell? ⟨b, 3, none⟩ = some (.int .i64 s.b.y) ∧
  W.cell? ⟨c, 0, none⟩ = some (.int .i64 p.x) ∧ W.cell? ⟨c, 1, none⟩ = some (.int .i64 p.y) ∧ b < W.heap.size ∧ c < W.heap.size ∧ Below w.heap.size w W
theorem SGP.next {w W W' : World} {s p b c} (hb : Below W.heap.size W W') (h : SGP w s p b c W) : SGP w s p b c W' := by
  obtain ⟨h1, h2, h3, h4, h5, h6, h7, h8, h9⟩ := h
  have hs := hb.size
  exact ⟨(hb.cell (p := ⟨b, 0, none⟩) h7).trans h1, (hb.cell (p := ⟨b, 1, none⟩) h7).trans h2, (hb.cell (p := ⟨b, 2, none⟩) h7).trans h3, (hb.cell (p := ⟨b, 3, none⟩) h7).trans h4,
    (hb.cell (p := ⟨c, 0, none⟩) h8).trans h5, (hb.cell (p := ⟨c, 1, none⟩) h8).trans h6, by omega, by omega, h9.trans (hb.mono h9.size)⟩
theorem SGP.of {w W : World} {s : Sg} {p : Pt} {b c : Nat} {l} (h : St w W ((c, 0, .int .i64 p.x) :: (c, 1, .int .i64 p.y) :: (b, 0, .int .i64 s.a.x) :: (b, 1, .int .i64 s.a.y) :: (b, 2, .int .i64 s.b.x) :: (b, 3, .int .i64 s.b.y) :: l)) : SGP w s p b c W :=
  match h with
  | ⟨hb, h1, h2, h3, h4, h5, h6, _⟩ => ⟨h3.2.1, h4.2.1, h5.2.1, h6.2.1, h1.2.1, h2.2.1, h3.1, h1.1, hb⟩
/-- Does a segment have a point? -/
def onS (s : Sg) (p : Pt) : Bool := okG s && (hds (bxOf s) p && decide (trn s.a s.b p = 0))
theorem pt_beq (a b : Pt) : decide (a = b) = (decide (a.x = b.x) && decide (a.y = b.y)) := by
  obtain ⟨a1, a2⟩ := a
  obtain ⟨b1, b2⟩ := b
  simp
theorem pt_bne (a b : Pt) : decide (a ≠ b) = !(decide (a.x = b.x) && decide (a.y = b.y)) := by
  rw [← pt_beq]; simp
set_option maxHeartbeats 400000 in
theorem properSegment_any (s : Sg) (w : World) :
   Calls Try.prog 85 #[s.v] w fun e w' => e = .returned (.bool (okG s)) ∧ Below w.heap.size w w' := by
  have S := Lib.hid ((St.nil w).boxG s 31 _ rfl)
  have C1 := fun W => Lib.hid (Valid_any s.a W)
  have C2 := fun W => Lib.hid (Valid_any s.b W)
  obtain ⟨a, ha⟩ : ∃ a, Hid (okP s.a = a) := ⟨_, rfl⟩
  obtain ⟨b, hb⟩ : ∃ a, Hid (okP s.b = a) := ⟨_, rfl⟩
  rw [show okG s = (a && (b && decide (s.a ≠ s.b))) from by rw [okG, ha.out, hb.out]]
  simp only [ha.out, hb.out] at C1 C2
  go_enter Try.func85, Try.ntmps85
  go_wp2_with fail
  refine (C1 _).out.mono ?_
  rintro e w1 ⟨rfl, hb1⟩
  have S1 := Lib.hid (S.out.next hb1)
  obtain ⟨_, ⟨_, p1, _⟩, ⟨_, p2, _⟩, ⟨_, p3, _⟩, ⟨_, p4, _⟩, _⟩ := S1.out
  clear hb1 S
  cases a
  · go_wp2_with fail
    go_ret
    exact ⟨ret_bool (by simp), S1.out.b⟩
  · go_wp2_with fail
    refine (C2 _).out.mono ?_
    rintro e w2 ⟨rfl, hb2⟩
    have S2 := Lib.hid (S1.out.next hb2)
    clear p1 p2 p3 p4 hb2 S1
    obtain ⟨_, ⟨_, p1, _⟩, ⟨_, p2, _⟩, ⟨_, p3, _⟩, ⟨_, p4, _⟩, _⟩ := S2.out
    cases b
    · go_wp2_with fail
      go_ret
      exact ⟨ret_bool (by simp), S2.out.b⟩
    · go_wp2_with fail
      all_goals (go_ret; refine ⟨ret_bool ?_, S2.out.b⟩; rw [pt_bne]; simp [*])
/-- The worlds of a class. -/
structure Wd (C : World → Prop) where
  w : World
  h : C w
theorem wp_region_in {P : Program} {id : Nat} {Q : Exit → Act → World → Prop} {a : Act} {w : World} {l : List Oper} (C : World → Prop) (hC : C w.drew) (hm : P.follows .mixedOrders = true) (hB : Region.lexB .any l.toArray = true)
    (h : wpQuiet P l.toArray (fun w' => ∃ n : Wd C, w' = n.w) (fun a' => ∀ w', C w' → Q .normal a' w') l a) : (Code.region id l.toArray true).wp P Q a w := by
  have e : (fun w' => ∃ n : Wd C, w' = n.w) = C := funext fun w' => propext ⟨fun ⟨n, hn⟩ => hn ▸ n.h, fun hc => ⟨⟨w', hc⟩, rfl⟩⟩
  rw [e] at h
  exact wp_region_quiet (C := C) hm hB hC (by simpa using h)
theorem Calls.quiet_in {P : Program} {f : FuncId} {args : Array Value} {C : World → Prop} {w : World} {v : Value} (h : Calls P f args w fun e w' => e = .returned v ∧ C w') :
    Calls P f args w fun e w'' => e = .returned v ∧ ∃ n : Wd C, w'' = n.w :=
  h.mono fun _ w'' ⟨he, hc⟩ => ⟨he, ⟨w'', hc⟩, rfl⟩
set_option maxHeartbeats 1000000 in
theorem On_any (s : Sg) (p : Pt) (w : World) :
   Calls Try.prog 25 #[s.v, p.v] w fun e w' => e = .returned (.bool (onS s p)) ∧ Below w.heap.size w w' := by
  have S := Lib.hid (SGP.of (((St.nil w).boxG s 31 _ rfl).boxP p 23 (w.heap.size + 1) (by simp)).dr)
  have C0 := fun W => Lib.hid (properSegment_any s W)
  have C1 := fun W => Lib.hid (boxOf_any s W)
  have C2 := fun W => Lib.hid (Holds_any (bxOf s) p W)
  have C3 := fun W => Lib.hid (Turn_any s.a s.b p W)
  have KN := fun W W' => Lib.hid (@SGP.next w W W' s p w.heap.size (w.heap.size + 1))
  obtain ⟨B, hB⟩ : ∃ B, Hid (bxOf s = B) := ⟨_, rfl⟩
  obtain ⟨t, ht⟩ : ∃ t, Hid (trn s.a s.b p = t) := ⟨_, rfl⟩
  obtain ⟨z, hz⟩ : ∃ a, Hid (okG s = a) := ⟨_, rfl⟩
  obtain ⟨a, ha⟩ : ∃ a, Hid (hds B p = a) := ⟨_, rfl⟩
  rw [show onS s p = (z && (a && decide (t = 0))) from by rw [onS, hz.out, hB.out, ha.out, ht.out]]
  simp only [hz.out, hB.out, ha.out, ht.out] at C0 C1 C2 C3
  have f1 : ∀ n : Wd (SGP w s p w.heap.size (w.heap.size + 1)), n.w.cell? ⟨w.heap.size, 0, none⟩ = some (.int .i64 s.a.x) := fun n => n.h.1
  have f2 : ∀ n : Wd (SGP w s p w.heap.size (w.heap.size + 1)), n.w.cell? ⟨w.heap.size, 1, none⟩ = some (.int .i64 s.a.y) := fun n => n.h.2.1
  have f3 : ∀ n : Wd (SGP w s p w.heap.size (w.heap.size + 1)), n.w.cell? ⟨w.heap.size, 2, none⟩ = some (.int .i64 s.b.x) := fun n => n.h.2.2.1
  have f4 : ∀ n : Wd (SGP w s p w.heap.size (w.heap.size + 1)), n.w.cell? ⟨w.heap.size, 3, none⟩ = some (.int .i64 s.b.y) := fun n => n.h.2.2.2.1
  have f5 : ∀ n : Wd (SGP w s p w.heap.size (w.heap.size + 1)), n.w.cell? ⟨w.heap.size + 1, 0, none⟩ = some (.int .i64 p.x) := fun n => n.h.2.2.2.2.1
  have f6 : ∀ n : Wd (SGP w s p w.heap.size (w.heap.size + 1)), n.w.cell? ⟨w.heap.size + 1, 1, none⟩ = some (.int .i64 p.y) := fun n => n.h.2.2.2.2.2.1
  have D0 : ∀ n : Wd (SGP w s p w.heap.size (w.heap.size + 1)), Hid _ := fun n => Lib.hid (Calls.quiet_in (C := SGP w s p w.heap.size (w.heap.size + 1)) ((C0 n.w).out.mono fun e w' h => ⟨h.1, (KN _ _).out h.2 n.h⟩))
  have D1 : ∀ n : Wd (SGP w s p w.heap.size (w.heap.size + 1)), Hid _ := fun n => Lib.hid (Calls.quiet_in (C := SGP w s p w.heap.size (w.heap.size + 1)) ((C1 n.w).out.mono fun e w' h => ⟨h.1, (KN _ _).out h.2 n.h⟩))
  have D2 : ∀ n : Wd (SGP w s p w.heap.size (w.heap.size + 1)), Hid _ := fun n => Lib.hid (Calls.quiet_in (C := SGP w s p w.heap.size (w.heap.size + 1)) ((C2 n.w).out.mono fun e w' h => ⟨h.1, (KN _ _).out h.2 n.h⟩))
  have D3 : ∀ n : Wd (SGP w s p w.heap.size (w.heap.size + 1)), Hid _ := fun n => Lib.hid (Calls.quiet_in (C := SGP w s p w.heap.size (w.heap.size + 1)) ((C3 n.w).out.mono fun e w' h => ⟨h.1, (KN _ _).out h.2 n.h⟩))
  clear C0 C1 C2 C3
  haveI : Nonempty (Wd (SGP w s p w.heap.size (w.heap.size + 1))) := ⟨⟨_, S.out⟩⟩
  cases z
  · go_enter Try.func25, Try.ntmps25
    go_wp2_with fail
    refine wp_region_in (SGP w s p w.heap.size (w.heap.size + 1)) S.out (by kernel_rfl) (by kernel_rfl) ?_
    repeat (go_big_quiet_step (first | exact (D0 _).out | exact (D1 _).out | exact (D2 _).out | exact (D3 _).out))
    refine wpQuiet_nil ?_
    intro w1 hw1
    go_wp2_with fail
    go_ret
    exact ⟨ret_bool (by simp), hw1.2.2.2.2.2.2.2.2⟩
  · cases a
    · go_enter Try.func25, Try.ntmps25
      go_wp2_with fail
      refine wp_region_in (SGP w s p w.heap.size (w.heap.size + 1)) S.out (by kernel_rfl) (by kernel_rfl) ?_
      repeat (go_big_quiet_step (first | exact (D0 _).out | exact (D1 _).out | exact (D2 _).out | exact (D3 _).out))
      refine wpQuiet_nil ?_
      intro w1 hw1
      go_wp2_with fail
      go_ret
      exact ⟨ret_bool (by simp), hw1.2.2.2.2.2.2.2.2⟩
    · go_enter Try.func25, Try.ntmps25
      go_wp2_with fail
      refine wp_region_in (SGP w s p w.heap.size (w.heap.size + 1)) S.out (by kernel_rfl) (by kernel_rfl) ?_
      repeat (go_big_quiet_step (first | exact (D0 _).out | exact (D1 _).out | exact (D2 _).out | exact (D3 _).out))
      refine wpQuiet_nil ?_
      intro w1 hw1
      go_wp2_with fail
      go_ret
      exact ⟨ret_bool (by cases h : decide (t = 0) <;> simp_all), hw1.2.2.2.2.2.2.2.2⟩
end Go.Proofs.Ytdefpcjlbganpaa
