import Derived.Test.YtdefpcjlbganpaaSanity
import Derived.WalkKit
import Derived.LoopTactic
import Derived.WalkSpells
import Derived.WalkLawsBesides
import Derived.Lib.Hide
import Derived.BigQuiet
import Derived.IntWalk
import Derived.Deep.DeepMust
import Derived.WalkSmall
import Derived.StillTailTactics
import Derived.Deep.RegionLaw
import Derived.Deep.RegionHeld3
import Derived.Deep.QuietTactic
namespace Go.Proofs.Ytdefpcjlbganpaa
open Go.RowKit Go.BigFrame
set_option maxRecDepth 100000 in
set_option maxHeartbeats 8000000 in
/-- The law of turns answers true. -/
theorem turnsLaw (a b c : Pt) (n : Int) (w : World) (hn : -9223372036854775808 ≤ n ∧ n ≤ 9223372036854775807) :
   Calls Try.prog 3 #[a.v, b.v, c.v, .int .i64 n] w fun e w' => e = .returned (.bool true) ∧ Below w.heap.size w w' := by
  have S := Lib.hid ((((St.nil w).boxP a 23 _ rfl).boxP b 23 (w.heap.size + 1) (by simp)).boxP c 23 (w.heap.size + 1 + 1) (by simp))
  have CS := fun W => Lib.hid (sanity_any W)
  have C1 := fun W => Lib.hid (Valid_any a W)
  have C2 := fun W => Lib.hid (rValid_any a W)
  have C3 := fun W => Lib.hid (Turn_any a b c W)
  have C4 := fun W => Lib.hid (rTurn_any a b c W)
  have C5 := fun W => Lib.hid (Dist_any a b W)
  have C6 := fun W => Lib.hid (rDist_any a b W)
  have C7 := fun W => Lib.hid (Root_any n W hn)
  have C8 := fun W => Lib.hid (rRoot_any n W hn)
  obtain ⟨v1, h1⟩ : ∃ v, okP a = v := ⟨_, rfl⟩
  obtain ⟨v2, h2⟩ : ∃ v, trn a b c = v := ⟨_, rfl⟩
  obtain ⟨v3, h3⟩ : ∃ v, dst a b = v := ⟨_, rfl⟩
  obtain ⟨v4, h4⟩ : ∃ v, rt n 32 0 = v := ⟨_, rfl⟩
  rw [h1] at C1 C2
  rw [h2] at C3 C4
  rw [h3] at C5 C6
  rw [h4] at C7 C8
  clear h1 h2 h3 h4 hn
  go_enter Try.func3, Try.ntmps3
  go_wp2_with fail
  obtain ⟨W0, hW0⟩ : ∃ W0, ((w.alloc (.cells #[.int .i64 a.x, .int .i64 a.y] 23)).alloc (.cells #[.int .i64 b.x, .int .i64 b.y] 23)).alloc (.cells #[.int .i64 c.x, .int .i64 c.y] 23) = W0 := ⟨_, rfl⟩
  rw [hW0] at S ⊢
  clear hW0
  obtain ⟨L, hL⟩ : ∃ L : List (Nat × Nat × Value), ((w.heap.size + 1 + 1, 0, .int .i64 c.x) :: (w.heap.size + 1 + 1, 1, .int .i64 c.y) :: (w.heap.size + 1, 0, .int .i64 b.x) :: (w.heap.size + 1, 1, .int .i64 b.y) :: (w.heap.size, 0, .int .i64 a.x) :: (w.heap.size, 1, .int .i64 a.y) :: []) = L := ⟨_, rfl⟩
  rw [hL] at S
  have hC : CW W0 L W0 := ⟨Below.refl _ _, S.out.c⟩
  haveI : Nonempty (Wd (CW W0 L)) := ⟨⟨_, hC⟩⟩
  have hU : ∀ Wx, Cs Wx L → Cs Wx [(w.heap.size + 1 + 1, 0, .int .i64 c.x), (w.heap.size + 1 + 1, 1, .int .i64 c.y), (w.heap.size + 1, 0, .int .i64 b.x), (w.heap.size + 1, 1, .int .i64 b.y), (w.heap.size, 0, .int .i64 a.x), (w.heap.size, 1, .int .i64 a.y)] := fun Wx h => by rw [hL]; exact h
  have f0 : ∀ n : Wd (CW W0 L), n.w.cell? ⟨w.heap.size + 1 + 1, 0, none⟩ = some (.int .i64 c.x) := fun n => (hU _ n.h.2).1.2.1
  have f1 : ∀ n : Wd (CW W0 L), n.w.cell? ⟨w.heap.size + 1 + 1, 1, none⟩ = some (.int .i64 c.y) := fun n => (hU _ n.h.2).2.1.2.1
  have f2 : ∀ n : Wd (CW W0 L), n.w.cell? ⟨w.heap.size + 1, 0, none⟩ = some (.int .i64 b.x) := fun n => (hU _ n.h.2).2.2.1.2.1
  have f3 : ∀ n : Wd (CW W0 L), n.w.cell? ⟨w.heap.size + 1, 1, none⟩ = some (.int .i64 b.y) := fun n => (hU _ n.h.2).2.2.2.1.2.1
  have f4 : ∀ n : Wd (CW W0 L), n.w.cell? ⟨w.heap.size, 0, none⟩ = some (.int .i64 a.x) := fun n => (hU _ n.h.2).2.2.2.2.1.2.1
  have f5 : ∀ n : Wd (CW W0 L), n.w.cell? ⟨w.heap.size, 1, none⟩ = some (.int .i64 a.y) := fun n => (hU _ n.h.2).2.2.2.2.2.1.2.1
  have D0 := fun n : Wd (CW W0 L) => Lib.hid (Calls.quiet_in (C := CW W0 L) ((CS n.w).out.mono fun e w' h => ⟨h.1, n.h.next h.2⟩))
  have D1 := fun n : Wd (CW W0 L) => Lib.hid (Calls.quiet_in (C := CW W0 L) ((C1 n.w).out.mono fun e w' h => ⟨h.1, n.h.next h.2⟩))
  have D2 := fun n : Wd (CW W0 L) => Lib.hid (Calls.quiet_in (C := CW W0 L) ((C2 n.w).out.mono fun e w' h => ⟨h.1, n.h.next h.2⟩))
  have D3 := fun n : Wd (CW W0 L) => Lib.hid (Calls.quiet_in (C := CW W0 L) ((C3 n.w).out.mono fun e w' h => ⟨h.1, n.h.next h.2⟩))
  have D4 := fun n : Wd (CW W0 L) => Lib.hid (Calls.quiet_in (C := CW W0 L) ((C4 n.w).out.mono fun e w' h => ⟨h.1, n.h.next h.2⟩))
  have D5 := fun n : Wd (CW W0 L) => Lib.hid (Calls.quiet_in (C := CW W0 L) ((C5 n.w).out.mono fun e w' h => ⟨h.1, n.h.next h.2⟩))
  have D6 := fun n : Wd (CW W0 L) => Lib.hid (Calls.quiet_in (C := CW W0 L) ((C6 n.w).out.mono fun e w' h => ⟨h.1, n.h.next h.2⟩))
  have D7 := fun n : Wd (CW W0 L) => Lib.hid (Calls.quiet_in (C := CW W0 L) ((C7 n.w).out.mono fun e w' h => ⟨h.1, h.2 ▸ n.h⟩))
  have D8 := fun n : Wd (CW W0 L) => Lib.hid (Calls.quiet_in (C := CW W0 L) ((C8 n.w).out.mono fun e w' h => ⟨h.1, h.2 ▸ n.h⟩))
  have hCd : Hid (CW W0 L W0.drew) := hC.next (below_dr _)
  clear CS C1 C2 C3 C4 C5 C6 C7 C8 hL hU hC
  refine wp_region_in (CW W0 L) hCd.out (by kernel_rfl) (by kernel_rfl) ?_
  repeat (go_big_quiet_step (first | with_reducible exact (D0 _).out | with_reducible exact (D1 _).out | with_reducible exact (D2 _).out | with_reducible exact (D3 _).out | with_reducible exact (D4 _).out | with_reducible exact (D5 _).out | with_reducible exact (D6 _).out | with_reducible exact (D7 _).out | with_reducible exact (D8 _).out))
  refine wpQuiet_nil ?_
  intro wx hwx
  have HX : Hid (Below w.heap.size w wx) := S.out.b.trans (hwx.1.mono S.out.b.size)
  clear hwx D0 D1 D2 D3 D4 D5 D6 D7 D8 f0 f1 f2 f3 f4 f5 this hCd
  go_wp2_with fail
  go_ret
  exact ⟨rfl, HX.out⟩
end Go.Proofs.Ytdefpcjlbganpaa
