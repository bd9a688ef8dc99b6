import Derived.Test.YtdefpcjlbganpaaTurnsLaw
import Derived.WalkKit
import Derived.LoopTactic
import Derived.WalkSpells
import Derived.WalkLawsBesides
import Derived.Lib.Hide
import Derived.BigQuiet
import Derived.IntWalk
import Derived.Deep.DeepMust
import Derived.WalkSmall
import Derived.StillTailTactics
import Derived.Deep.RegionLaw
import Derived.Deep.RegionHeld3
import Derived.Deep.QuietTactic
namespace Go.Proofs.Ytdefpcjlbganpaa
open Go.RowKit Go.BigFrame
attribute [local go_sem] World.cell?_alloc_some
/-- Are two points the same? -/
def ptE (a b : Pt) : Bool := decide (a = b)
theorem eqP_run (a b : Pt) (w : World) : (binOp .eql 23 a.v b.v).run Try.prog w = .ok (.bool (ptE a b)) w := by
  unfold ptE
  rw [pt_beq]
  by_cases h1 : a.x = b.x <;> by_cases h2 : a.y = b.y
  all_goals (simp [go_sem, h1, h2]; done)
/-- A class of worlds: grown from one, with these cells. -/
theorem cls {w W0 : World} {L : List (Nat × Nat × Value)} (S : St w W0 L) : ∃ C : World → Prop, C W0 ∧ Hid (∀ W W', C W → Below W.heap.size W W' → C W') ∧ Hid (∀ n : Wd C, Cs n.w L) ∧ Hid (∀ n : Wd C, Below w.heap.size w n.w) ∧ Nonempty (Wd C) :=
  ⟨fun W => St w W L, S, fun _ _ h hb => h.next hb, fun n => n.h.c, fun n => n.h.b, ⟨⟨W0, S⟩⟩⟩
/-- A contract, in a class of worlds. -/
theorem cin {C : World → Prop} (H : Hid (∀ W W', C W → Below W.heap.size W W' → C W')) {f : FuncId} {args : Array Value} {v : Value} (h : ∀ W, Calls Try.prog f args W fun e w' => e = .returned v ∧ Below W.heap.size W w') (n : Wd C) :
    Hid (Calls Try.prog f args n.w fun e w'' => e = .returned v ∧ ∃ m : Wd C, w'' = m.w) :=
  Calls.quiet_in (C := C) ((h n.w).mono fun _ _ h => ⟨h.1, H.out _ _ n.h h.2⟩)
theorem csame {C : World → Prop} {f : FuncId} {args : Array Value} {v : Value} (h : ∀ W, Calls Try.prog f args W fun e w' => e = .returned v ∧ W = w') (n : Wd C) :
    Hid (Calls Try.prog f args n.w fun e w'' => e = .returned v ∧ ∃ m : Wd C, w'' = m.w) :=
  Calls.quiet_in (C := C) ((h n.w).mono fun _ _ h => ⟨h.1, h.2 ▸ n.h⟩)
end Go.Proofs.Ytdefpcjlbganpaa
