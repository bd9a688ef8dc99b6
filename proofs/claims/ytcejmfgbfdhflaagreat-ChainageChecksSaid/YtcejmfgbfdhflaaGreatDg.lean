import Derived.Test.YtcejmfgbfdhflaaGreatDf
import Derived.WalkKit
import Derived.LoopTactic
import Derived.WalkSpells
import Derived.WalkLawsBesides
import Derived.Lib.Hide
import Derived.BigQuiet
import Derived.IntWalk
import Derived.Deep.DeepMust
import Derived.WalkSmall
import Derived.StillTailTactics
import Derived.Deep.RegionLaw
import Derived.Deep.RegionHeld3
import Derived.Deep.QuietTactic
namespace Go.Proofs.YtcejmfgbfdhflaaGreat
open Go.RowKit Go.Shelf Go.BigFrame Go.Sort
attribute [local go_sem] World.cell?_alloc_some
abbrev c0L : Ch := ⟨1, 1800, 10000, 10010, 5⟩
abbrev p3L : Pf := ⟨3, 1, 1810, 10020, 10030⟩
abbrev p4L : Pf := ⟨4, 1, 1804, 10022, 10025⟩
abbrev p5L : Pf := ⟨5, 1, 1802, 10025, 10026⟩
abbrev r8L : Pf := ⟨8, 1, 1815, 10000, 10000⟩
abbrev cellsC (c : Ch) : Array Value := #[.int .i64 c.id, .int .i64 c.year, .int .i64 c.lo, .int .i64 c.hi, .int .i64 c.wear]
abbrev cellsP (c : Pf) : Array Value := #[.int .i64 c.id, .int .i64 c.ch, .int .i64 c.year, .int .i64 c.lo, .int .i64 c.hi]
theorem heap_new (W : World) (o : Obj) : (W.alloc o).heap[W.heap.size]? = some o := by
  show (W.heap.push o)[W.heap.size]? = some o
  simp
set_option maxHeartbeats 400000 in
theorem made_any (w : World) : Calls Tryz.prog 68 #[] w fun e w' => e = .returned (.agg #[.slice (some ⟨w.heap.size + 1, 0, none⟩) 1 1, .slice (some ⟨w.heap.size + 2, 0, none⟩) 1 1, .slice none 0 0]) ∧ (w'.heap[w.heap.size + 1]? = some (.cells (cellsC c0L) 90) ∧ w'.heap[w.heap.size + 2]? = some (.cells (cellsP p3L) 94)) ∧ Below w.heap.size w w' := by
  go_enter Tryz.func68, Tryz.ntmps68
  go_wp2_with fail
  refine bodyPost_ret (v := .agg #[.slice (some ⟨w.heap.size + 1, 0, none⟩) 1 1, .slice (some ⟨w.heap.size + 2, 0, none⟩) 1 1, .slice none 0 0]) (by simp [results, Tryz.results68, go_sem]) rfl ⟨rfl, ⟨?_, ?_⟩, ?_⟩
  · rw [Below.heap_alloc _ _ _ (by simp)]
    have := heap_new (w.alloc (.cells #[.slice (some ⟨w.heap.size + 1, 0, none⟩) 1 1, .slice (some ⟨w.heap.size + 1 + 1, 0, none⟩) 1 1, .slice none 0 0] 26)) (.cells (cellsC c0L) 90)
    simpa using this
  · have := heap_new ((w.alloc (.cells #[.slice (some ⟨w.heap.size + 1, 0, none⟩) 1 1, .slice (some ⟨w.heap.size + 1 + 1, 0, none⟩) 1 1, .slice none 0 0] 26)).alloc (.cells (cellsC c0L) 90)) (.cells (cellsP p3L) 94)
    simpa using this
  exact (((Gr.al _ _).trans (Gr.al _ _)).trans (Gr.al _ _)).below
set_option maxRecDepth 100000 in
set_option maxHeartbeats 3200000 in
theorem lawLong_any (x : WA) (y lo hi : Int) (w : World) (h : x.At w) :
    Calls Tryz.prog 69 #[x.v, .int .i64 y, .int .i64 lo, .int .i64 hi] w fun e w' => e = .returned (.bool (agE x 1 y == 0 && (lgLo x 1 y == lo && lgHi x 1 y == hi))) ∧ Below w.heap.size w w' := by
  have K1 := fun W (hb : Below w.heap.size w W) => Long_any x 1 y W (h.keep hb)
  obtain ⟨k, hk⟩ : ∃ k, agE x 1 y = k := ⟨_, rfl⟩
  obtain ⟨a, ha⟩ : ∃ k, lgLo x 1 y = k := ⟨_, rfl⟩
  obtain ⟨b, hb⟩ : ∃ k, lgHi x 1 y = k := ⟨_, rfl⟩
  rw [hk, ha, hb]
  simp only [hk, ha, hb] at K1
  clear h hk ha hb
  obtain ⟨cs, ps, rs, q1, q2, q3, c1, c2, c3⟩ := x
  simp only [WA.v] at *
  go_enter Tryz.func69, Tryz.ntmps69
  go_wp2_with fail
  refine (K1 _ (below_al _ _)).mono ?_
  rintro e w1 ⟨rfl, hb⟩
  have HB : Hid (Below w.heap.size w w1) := (below_al _ _).trans (hb.mono (by simp))
  clear hb K1
  by_cases h0 : k = 0
  · subst h0
    go_wp2_with fail
    all_goals (go_ret; exact ⟨ret_bool (by simp_all), HB.out.trans ((below_al _ _).mono HB.out.size)⟩)
  · have h0' : (k == 0) = false := by simpa using h0
    clear h0
    go_wp2_with fail
    all_goals (go_ret; exact ⟨ret_bool (by simp_all), HB.out.trans ((below_al _ _).mono HB.out.size)⟩)
end Go.Proofs.YtcejmfgbfdhflaaGreat
