import Derived.Test.YtmfhpddeclggfaaGreatDoorLy
import Derived.Test.YtmfhpddeclggfaaGreatDoorD7
import Derived.Test.YtmfhpddeclggfaaGreatDoorFam
import Derived.Laws.StructEq
import Derived.MapKept
import Derived.WideKeyRuns
import Derived.Maps.Own
import Derived.WalkKit
import Derived.LoopTactic
import Derived.WalkSpells
import Derived.WalkLawsBesides
import Derived.Lib.Hide
import Derived.BigQuiet
import Derived.IntWalk
import Derived.Deep.DeepMust
import Derived.WalkSmall
import Derived.StillTailTactics
import Derived.Deep.RegionLaw
import Derived.Deep.QuietTactic
import Derived.Deep.RegionHeld3
import Derived.Deep.AppendLies
namespace Go.Proofs.YtmfhpddeclggfaaGreatDoor
open Go.RowKit
theorem inf87 : (Tryz.prog.info? 87).map (fun i => (i.zero, i.size, i.bytes)) = some (some (.agg #[.int .i64 0, .slice none 0 0, .slice none 0 0, .bool false]), 4, 64) := by kernel_rfl
set_option maxRecDepth 100000 in
set_option maxHeartbeats 4000000 in
theorem found_one (t : ByteArray) (n : Nat) (D M : Nat) (last : Int) (R : Nat → Value) (L : List Ent) (g cap : Nat) (pc : Option Addr) (lc cc : Nat) (W : World) (hn : n ≤ 400) (hd : Desk W D M last R L) (hR : R n = .slice (some ⟨g, 0, none⟩) 1 cap) (_hg : g < W.heap.size)
    (hc0 : W.cell? ⟨g, 0, none⟩ = some (.int .i64 n)) (hc1 : W.cell? ⟨g, 1, none⟩ = some (.string t)) (hl : lookL n t L = (.slice pc lc cc)) (ht : t.size ≤ 1000000) (he : Env W) :
    Calls Tryz.prog 141 #[.pointer (some ⟨D, 0, none⟩), .int .i64 n] W fun e w' => ∃ (v' : Value) (n' : Int) (p : Option Addr) (k c : Nat), e = .returned v' ∧ w'.ownsRow W.heap.size 87 4 v' 1 [.int .i64 n', .slice p k c, (.slice pc lc cc), .bool false] ∧ Below W.heap.size W w' := by
  have HD := Lib.hid hd
  have HE := Lib.hid he
  have hDW : D < W.heap.size := World.block_lt_of_cell? W ⟨D, 0, none⟩ hd.c0
  have cR := hd.cr n hn
  rw [hR] at cR
  have cM := hd.cm
  have hn0 : (0 : Int) ≤ (n : Int) := by omega
  have hn4 : (n : Int) < 401 := by omega
  have RDS := Lib.hid (sRead t (W.alloc (.cells #[.int .i64 n, .string t] 242)) ht (he.next (below_alloc1 _ _)))
  clear hd he
  go_enter Tryz.func141, Tryz.ntmps141
  go_wp2_with fail
  refine wp_loop_rounds 2 ?_
  rw [rounds_succ]
  go_wp2_with fail
  refine RDS.out.mono ?_
  rintro e w1 hr
  obtain ⟨hb, n', p, k, c, er⟩ := rd_any hr
  subst er
  have hbW : Below W.heap.size W w1 := (below_alloc1 W _).trans (hb.mono (by simp))
  have hd1 : Desk w1 D M last R L := HD.out.grown (row := none) ⟨hbW.os, hbW.tape, hbW.output, hbW.size, fun i hi _ => hbW.block i hi⟩ (by simp) (by simp)
  have hs1 : W.heap.size + 1 ≤ w1.heap.size := by have := hb.size; simpa using this
  have q0 : w1.cell? ⟨W.heap.size, 0, none⟩ = some (.int .i64 n) := (hb.cell (p := ⟨W.heap.size, 0, none⟩) (by simp)).trans (nw_at W _ 242 0 _ rfl)
  have q1 : w1.cell? ⟨W.heap.size, 1, none⟩ = some (.string t) := (hb.cell (p := ⟨W.heap.size, 1, none⟩) (by simp)).trans (nw_at W _ 242 1 _ rfl)
  have HD1 := Lib.hid hd1
  have HBW := Lib.hid hbW
  have HS1 := Lib.hid hs1
  have hne : W.heap.size ≠ w1.heap.size := by omega
  have q2 : (w1.alloc (.cells #[.int .i64 n', .slice p k c] 39)).cell? ⟨W.heap.size, 0, none⟩ = some (.int .i64 n) := cell_al q0 _
  have q3 : (w1.alloc (.cells #[.int .i64 n', .slice p k c] 39)).cell? ⟨W.heap.size, 1, none⟩ = some (.string t) := cell_al q1 _
  have q4 : (w1.alloc (.cells #[.int .i64 n', .slice p k c] 39)).cell? ⟨D, 402, none⟩ = some (.map (some M)) := cell_al hd1.cm _
  have q5 : (w1.alloc (.cells #[.int .i64 n', .slice p k c] 39)).cell? ⟨w1.heap.size, 0, none⟩ = some (.int .i64 n') := nw_at w1 _ 39 0 _ rfl
  have q6 : (w1.alloc (.cells #[.int .i64 n', .slice p k c] 39)).cell? ⟨w1.heap.size, 1, none⟩ = some (.slice p k c) := nw_at w1 _ 39 1 _ rfl
  clear RDS hr hb hbW hd1 hs1
  go_wp2_with fail
  obtain ⟨W2, hW2⟩ : ∃ W2, w1.alloc (.cells #[.int .i64 n', .slice p k c] 39) = W2 := ⟨_, rfl⟩
  rw [hW2] at q2 q3 q4 q5 q6
  have hd2 : Desk W2 D M last R L := HD1.out.grown (hW2 ▸ grown_al w1 _) (by simp) (by simp)
  have hlk7 : Sem.run Tryz.prog (Instr.lookup 208 (.map (some M)) (keyV n t) false) W2.drew = .ok (.slice pc lc cc) W2.drew := by
    have := run_look (W := W2.drew) (M := M) (L := L) (hd2.mp.grown (grown_dr W2) (by simp)) n t
    rwa [hl] at this
  have hs2 : W2.heap.size = w1.heap.size + 1 := by rw [← hW2]; simp
  have hg2 : Hid (w1.grownBy W2 none) := hW2 ▸ grown_al w1 _
  have HS2 := Lib.hid hs2
  try rw [hW2]
  clear hW2 hd2 hs2 q0 q1
  obtain ⟨i0, hi, hz0, hz1, hz2⟩ := info_parts inf87
  go_region_held3 (fun w' => w'.cell? ⟨W.heap.size, 0, none⟩ = some (.int .i64 (n : Int)) ∧ w'.cell? ⟨W.heap.size, 1, none⟩ = some (.string t) ∧ w'.cell? ⟨D, 402, none⟩ = some (.map (some M)) ∧ w'.cell? ⟨w1.heap.size, 0, none⟩ = some (.int .i64 n') ∧ w'.cell? ⟨w1.heap.size, 1, none⟩ = some (.slice p k c))
    (first
      | go_keep
      | (go_split_ands
         refine ⟨?_, ?_, ?_, ?_, ?_⟩ <;> (rw [hgrow.cell (by assumption) (by simp [Value.ownBlock])])))
    ((refine step_append_lies _ (by rfl) _ _ _ (by rfl) W.heap.size 87 i0 _ 4 64 Tryz.underlying75 hi hz0 hz1 hz2 rfl (by omega) (.slice none 0 0) 0 [] (by rfl) (World.ownsRow_nil _ _ _ _)
        ⟨W2.heap.size, 0, none⟩ 1 1 [.int .i64 n', .slice p k c, (.slice pc lc cc), .bool false] (by rfl) (by rfl) (World.news_of_block (cs := #[.int .i64 n', .slice p k c, (.slice pc lc cc), .bool false]) (t := 87) (fr := (0, 0)) (heap_alloc_new W2 _)) (by simp [Value.oneCell'])
        (by omega) (by unfold maxLen; omega) (by omega) (by have h5 := HS1.out; have h6 := HS2.out; simp; omega) (W2.heap.size + 1) (by simp) ?_; intro gg cap w9 hown1 hgrow hat hlt))
  have zz : Hid (Below W.heap.size W w9) := by
    have h5 := HS1.out
    have h6 := HS2.out
    refine (HBW.out.trans (below_gr hg2.out (by omega) (by simp))).trans (below_gr (grown_tr (grown_tr (grown_al W2 _) (grown_dr _)) hgrow) (by omega) (by simp))
  have zo := Lib.hid hown1
  clear hown1 hgrow hat hlt
  go_wp2_with fail
  rw [rounds_succ]
  go_wp2_with fail
  go_ret
  exact ⟨_, n', p, k, c, rfl, zo.out, zz.out⟩
end Go.Proofs.YtmfhpddeclggfaaGreatDoor
