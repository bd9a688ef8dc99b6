import Derived.Test.YtdefpcjlbganpaaRSides
import Derived.Test.YtdefpcjlbganpaaSides2
import Derived.WalkKit
import Derived.LoopTactic
import Derived.WalkSpells
import Derived.WalkLawsBesides
import Derived.Lib.Hide
import Derived.BigQuiet
import Derived.IntWalk
import Derived.Deep.DeepMust
import Derived.WalkSmall
import Derived.StillTailTactics
import Derived.Deep.RegionLaw
import Derived.Deep.RegionHeld3
import Derived.Deep.QuietTactic
import Derived.Deep.DeepCutAuto
import Derived.Laws.AppendOwn
import Derived.Deep.CutBlock
namespace Go.Proofs.Ytdefpcjlbganpaa
open Go.RowKit Go.BigFrame
attribute [local go_sem] World.cell?_alloc_some
theorem sd_tup (l : List Pt) (b : Bx) : ∃ a e : Int, sdRes l b = .tuple #[.int .i64 a, .int .i64 e] := by
  unfold sdRes
  split
  · split
    · split
      · exact ⟨_, _, rfl⟩
      · split <;> exact ⟨_, _, rfl⟩
    · exact ⟨_, _, rfl⟩
  · exact ⟨_, _, rfl⟩
set_option maxRecDepth 100000 in
set_option maxHeartbeats 16000000 in
/-- The law of sides as specified answers true. -/
theorem sidesLaw (q : Option Addr) (cap : Nat) (l : List Pt) (b : Bx) (w : World) (hl : l.length ≤ 140737488355327) (hp : PtsAt w q l) :
   Calls Try.prog 9 #[.slice q l.length cap, b.v] w fun e w' => e = .returned (.bool true) ∧ Below w.heap.size w w' := by
  have HP := Lib.hid hp
  have A1 := fun W (hb : Below w.heap.size w W) => Sides_any q cap l b W hl (HP.out.keep hb)
  have A2 := fun W (hb : Below w.heap.size w W) => rSides_any q cap l b W hl (HP.out.keep hb)
  obtain ⟨a1, e1, h1⟩ := sd_tup l b
  rw [h1] at A1 A2
  clear h1 hp HP
  have F1 := fun W => few_any q l.length cap W hl
  obtain ⟨z, hz⟩ : ∃ z, fewB l.length = z := ⟨_, rfl⟩
  simp only [hz] at F1
  clear hz
  go_enter Try.func9, Try.ntmps9
  go_wp2_with fail
  obtain ⟨W0, hW0⟩ : ∃ W0, (w).alloc (.cells #[.int .i64 b.x.lo, .int .i64 b.x.hi, .int .i64 b.y.lo, .int .i64 b.y.hi] 60) = W0 := ⟨_, rfl⟩
  have S0 : St w W0 [(w.heap.size, 0, .int .i64 b.x.lo), (w.heap.size, 1, .int .i64 b.x.hi), (w.heap.size, 2, .int .i64 b.y.lo), (w.heap.size, 3, .int .i64 b.y.hi)] := by rw [← hW0]; exact ((St.nil w)).box #[.int .i64 b.x.lo, .int .i64 b.x.hi, .int .i64 b.y.lo, .int .i64 b.y.hi] 60 (w.heap.size) (by simp)
  rw [hW0]
  clear hW0
  obtain ⟨C, hC0, HC, LC, BC, hne⟩ := cls S0
  haveI := hne
  obtain ⟨c0, rfl⟩ : ∃ n : Wd C, W0 = n.w := ⟨⟨_, hC0⟩, rfl⟩
  have fC0 : ∀ n : Wd C, n.w.cell? ⟨w.heap.size, 0, none⟩ = some (.int .i64 b.x.lo) := fun n => (LC.out n).1.2.1
  have fC1 : ∀ n : Wd C, n.w.cell? ⟨w.heap.size, 1, none⟩ = some (.int .i64 b.x.hi) := fun n => (LC.out n).2.1.2.1
  have fC2 : ∀ n : Wd C, n.w.cell? ⟨w.heap.size, 2, none⟩ = some (.int .i64 b.y.lo) := fun n => (LC.out n).2.2.1.2.1
  have fC3 : ∀ n : Wd C, n.w.cell? ⟨w.heap.size, 3, none⟩ = some (.int .i64 b.y.hi) := fun n => (LC.out n).2.2.2.1.2.1
  clear S0 hC0
  have D0 := csame (C := C) F1
  have D1 := cinL HC BC A1
  have D2 := cinL HC BC A2
  have DS := cin HC sanity_any
  clear F1 A1 A2
  cases z
  · go_wp2_with (first | (go_at_call 29; with_reducible refine (D0 _).out.mono ?_; rintro e w' ⟨rfl, n, rfl⟩) | (go_at_call 16; with_reducible refine (DS _).out.mono ?_; rintro e w' ⟨rfl, n, rfl⟩))
    go_ret
    exact ⟨rfl, BC.out _⟩
  · go_wp2_with (first | (go_at_call 29; with_reducible refine (D0 _).out.mono ?_; rintro e w' ⟨rfl, n, rfl⟩) | (go_at_call 16; with_reducible refine (DS _).out.mono ?_; rintro e w' ⟨rfl, n, rfl⟩) | (go_at_call 65; with_reducible refine (D1 _).out.mono ?_; rintro e w' ⟨rfl, n, rfl⟩) | (go_at_call 66; with_reducible refine (D2 _).out.mono ?_; rintro e w' ⟨rfl, n, rfl⟩))
    go_ret
    exact ⟨rfl, BC.out _⟩
end Go.Proofs.Ytdefpcjlbganpaa
