import Derived.Test.YtdefpcjlbganpaaRRings
import Derived.WalkKit
import Derived.LoopTactic
import Derived.WalkSpells
import Derived.WalkLawsBesides
import Derived.Lib.Hide
import Derived.BigQuiet
import Derived.IntWalk
import Derived.Deep.DeepMust
import Derived.WalkSmall
import Derived.StillTailTactics
import Derived.Deep.RegionLaw
import Derived.Deep.RegionHeld3
import Derived.Deep.QuietTactic
import Derived.Deep.DeepCutAuto
import Derived.Laws.AppendOwn
import Derived.Deep.CutBlock
namespace Go.Proofs.Ytdefpcjlbganpaa
open Go.RowKit Go.BigFrame
attribute [local go_sem] World.cell?_alloc_some
theorem ar_tup (l : List Pt) : ∃ a e : Int, arRes l = .tuple #[.int .i64 a, .int .i64 e] := by unfold arRes; split <;> exact ⟨_, _, rfl⟩
theorem sm_tup (l : List Pt) : ∃ (a : Bool) (e : Int), smRes l = .tuple #[.bool a, .int .i64 e] := by unfold smRes; split <;> exact ⟨_, _, rfl⟩
theorem wn_tup (l : List Pt) (p : Pt) : ∃ a e : Int, wnRes l p = .tuple #[.int .i64 a, .int .i64 e] := by
  unfold wnRes
  split
  · split
    · split <;> exact ⟨_, _, rfl⟩
    · exact ⟨_, _, rfl⟩
  · exact ⟨_, _, rfl⟩
theorem wh_tup (l : List Pt) (p : Pt) : ∃ a e : Int, whRes l p = .tuple #[.int .i64 a, .int .i64 e] := by
  unfold whRes
  split
  · split
    · split <;> exact ⟨_, _, rfl⟩
    · exact ⟨_, _, rfl⟩
  · exact ⟨_, _, rfl⟩
/-- Few points, or too many. -/
def fewB (n : Nat) : Bool := decide (n ≤ 40) || decide (200 < n)
theorem few_any (q : Option Addr) (n cap : Nat) (w : World) (hl : n ≤ 140737488355327) :
    Calls Try.prog 29 #[.slice q n cap] w fun e w' => e = .returned (.bool (fewB n)) ∧ w = w' := by
  obtain ⟨r, hr⟩ : ∃ r, Hid (fewB n = r) := ⟨_, rfl⟩
  rw [hr.out]
  go_enter Try.func29, Try.ntmps29
  go_wp2_with fail
  all_goals
    go_ret
    refine ⟨ret_bool ?_, rfl⟩
    rw [← hr.out, fewB, Bool.eq_iff_iff]
    simp at *
    omega
/-- A contract on a list, in a class of worlds. -/
theorem cinL {C : World → Prop} {w : World} (H : Hid (∀ W W', C W → Below W.heap.size W W' → C W')) (B : Hid (∀ n : Wd C, Below w.heap.size w n.w)) {f : FuncId} {args : Array Value} {v : Value} (h : ∀ W, Below w.heap.size w W → Calls Try.prog f args W fun e w' => e = .returned v ∧ Below W.heap.size W w') (n : Wd C) :
    Hid (Calls Try.prog f args n.w fun e w'' => e = .returned v ∧ ∃ m : Wd C, w'' = m.w) :=
  Calls.quiet_in (C := C) ((h n.w (B.out n)).mono fun _ _ h => ⟨h.1, H.out _ _ n.h h.2⟩)
set_option maxRecDepth 100000 in
set_option maxHeartbeats 16000000 in
/-- The law of rings as specified answers true. -/
theorem ringsLaw (q : Option Addr) (cap : Nat) (l : List Pt) (p : Pt) (w : World) (hl : l.length ≤ 140737488355327) (hp : PtsAt w q l) :
   Calls Try.prog 5 #[.slice q l.length cap, p.v] w fun e w' => e = .returned (.bool true) ∧ Below w.heap.size w w' := by
  have HP := Lib.hid hp
  have A1 := fun W (hb : Below w.heap.size w W) => Area_any q cap l W hl (HP.out.keep hb)
  have A2 := fun W (hb : Below w.heap.size w W) => rArea_any q cap l W hl (HP.out.keep hb)
  have S1 := fun W (hb : Below w.heap.size w W) => Simple_any q cap l W hl (HP.out.keep hb)
  have S2 := fun W (hb : Below w.heap.size w W) => rSimple_any q cap l W hl (HP.out.keep hb)
  have W1 := fun W (hb : Below w.heap.size w W) => Winding_any q cap l p W hl (HP.out.keep hb)
  have W2 := fun W (hb : Below w.heap.size w W) => rWinding_any q cap l p W hl (HP.out.keep hb)
  have X1 := fun W (hb : Below w.heap.size w W) => Where_any q cap l p W hl (HP.out.keep hb)
  have X2 := fun W (hb : Below w.heap.size w W) => rWhere_any q cap l p W hl (HP.out.keep hb)
  obtain ⟨a1, e1, h1⟩ := ar_tup l
  obtain ⟨a2, e2, h2⟩ := sm_tup l
  obtain ⟨a3, e3, h3⟩ := wn_tup l p
  obtain ⟨a4, e4, h4⟩ := wh_tup l p
  rw [h1] at A1 A2
  rw [h2] at S1 S2
  rw [h3] at W1 W2
  rw [h4] at X1 X2
  clear h1 h2 h3 h4 hp HP
  have F1 := fun W => few_any q l.length cap W hl
  obtain ⟨z, hz⟩ : ∃ z, fewB l.length = z := ⟨_, rfl⟩
  simp only [hz] at F1
  clear hz
  go_enter Try.func5, Try.ntmps5
  go_wp2_with fail
  obtain ⟨W0, hW0⟩ : ∃ W0, (w).alloc (.cells #[.int .i64 p.x, .int .i64 p.y] 23) = W0 := ⟨_, rfl⟩
  have S0 : St w W0 [(w.heap.size, 0, .int .i64 p.x), (w.heap.size, 1, .int .i64 p.y)] := by rw [← hW0]; exact ((St.nil w)).box #[.int .i64 p.x, .int .i64 p.y] 23 (w.heap.size) (by simp)
  rw [hW0]
  clear hW0
  obtain ⟨C, hC0, HC, LC, BC, hne⟩ := cls S0
  haveI := hne
  obtain ⟨c0, rfl⟩ : ∃ n : Wd C, W0 = n.w := ⟨⟨_, hC0⟩, rfl⟩
  have fC0 : ∀ n : Wd C, n.w.cell? ⟨w.heap.size, 0, none⟩ = some (.int .i64 p.x) := fun n => (LC.out n).1.2.1
  have fC1 : ∀ n : Wd C, n.w.cell? ⟨w.heap.size, 1, none⟩ = some (.int .i64 p.y) := fun n => (LC.out n).2.1.2.1
  clear S0 hC0
  have D0 := csame (C := C) F1
  have D1 := cinL HC BC A1
  have D2 := cinL HC BC A2
  have D3 := cinL HC BC S1
  have D4 := cinL HC BC S2
  have D5 := cinL HC BC W1
  have D6 := cinL HC BC W2
  have D7 := cinL HC BC X1
  have D8 := cinL HC BC X2
  have DS := cin HC sanity_any
  clear F1 A1 A2 S1 S2 W1 W2 X1 X2
  cases z
  · go_wp2_with (first | (go_at_call 29; with_reducible refine (D0 _).out.mono ?_; rintro e w' ⟨rfl, n, rfl⟩) | (go_at_call 16; with_reducible refine (DS _).out.mono ?_; rintro e w' ⟨rfl, n, rfl⟩))
    go_ret
    exact ⟨rfl, BC.out _⟩
  · go_wp2_with (first | (go_at_call 29; with_reducible refine (D0 _).out.mono ?_; rintro e w' ⟨rfl, n, rfl⟩) | (go_at_call 16; with_reducible refine (DS _).out.mono ?_; rintro e w' ⟨rfl, n, rfl⟩) | (go_at_call 30; with_reducible refine (D1 _).out.mono ?_; rintro e w' ⟨rfl, n, rfl⟩) | (go_at_call 31; with_reducible refine (D2 _).out.mono ?_; rintro e w' ⟨rfl, n, rfl⟩) | (go_at_call 32; with_reducible refine (D3 _).out.mono ?_; rintro e w' ⟨rfl, n, rfl⟩) | (go_at_call 33; with_reducible refine (D4 _).out.mono ?_; rintro e w' ⟨rfl, n, rfl⟩) | (go_at_call 34; with_reducible refine (D5 _).out.mono ?_; rintro e w' ⟨rfl, n, rfl⟩) | (go_at_call 35; with_reducible refine (D6 _).out.mono ?_; rintro e w' ⟨rfl, n, rfl⟩) | (go_at_call 36; with_reducible refine (D7 _).out.mono ?_; rintro e w' ⟨rfl, n, rfl⟩) | (go_at_call 37; with_reducible refine (D8 _).out.mono ?_; rintro e w' ⟨rfl, n, rfl⟩))
    go_ret
    exact ⟨rfl, BC.out _⟩
end Go.Proofs.Ytdefpcjlbganpaa
