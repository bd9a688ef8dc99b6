import Derived.Test.YtcejmfgbfdhflaaGreatBa
import Derived.WalkKit
import Derived.LoopTactic
import Derived.WalkSpells
import Derived.WalkLawsBesides
import Derived.Lib.Hide
import Derived.BigQuiet
import Derived.IntWalk
import Derived.Deep.DeepMust
import Derived.WalkSmall
import Derived.StillTailTactics
import Derived.Deep.RegionLaw
import Derived.Deep.RegionHeld3
import Derived.Deep.QuietTactic
namespace Go.Proofs.YtcejmfgbfdhflaaGreat
open Go.RowKit Go.BigFrame Go.Sort
attribute [local go_sem] World.cell?_alloc_some
theorem fld30_0 (a b : Int) (w : World) : Sem.run Tryz.prog (Instr.field 30 (.agg #[.int .i64 a, .int .i64 b]) 0) w = .ok (.int .i64 a) w := by kernel_rfl
theorem fld30_1 (a b : Int) (w : World) : Sem.run Tryz.prog (Instr.field 30 (.agg #[.int .i64 a, .int .i64 b]) 1) w = .ok (.int .i64 b) w := by kernel_rfl
/-- A spell. -/
structure Spl where
  lo : Int
  hi : Int
  wear : Int
  ths : List Th
def okTh (t : Th) : Bool := inB 0 4000 t.year && okLong t.lo t.hi
theorem okTh_iff {t : Th} : okTh t = true ↔ (0 ≤ t.year ∧ t.year ≤ 4000) ∧ t.lo ≤ t.hi ∧ 9000 ≤ t.lo ∧ t.hi ≤ 12000 := by simp [okTh, inB, okLong, insB]
def lowT (wear : Int) (t : Th) (y : Int) : Int := t.lo - wear * max 0 (t.year - y)
def highT (wear : Int) (t : Th) (y : Int) : Int := t.hi + wear * max 0 (y - t.year)
theorem mul_bd {u v : Int} (h1 : 0 ≤ u ∧ u ≤ 1000) (h2 : 0 ≤ v ∧ v ≤ 4000) : 0 ≤ u * v ∧ u * v ≤ 4000000 :=
  ⟨Int.mul_nonneg h1.1 h2.1, by have := Int.mul_le_mul h1.2 h2.2 h2.1 (by decide); simpa using this⟩
theorem max0 (x : Int) : (if 0 < x then x else 0) = max 0 x := by split <;> omega
theorem low_wrap {wear y : Int} {t : Th} (ht : okTh t = true) (hw : 0 ≤ wear ∧ wear ≤ 1000) (hy : 0 ≤ y ∧ y ≤ 4000) : wrap64 (t.lo - wrap64 (wear * if 0 < wrap64 (t.year - y) then wrap64 (t.year - y) else 0)) = lowT wear t y := by
  obtain ⟨h1, h2, h3, h4⟩ := okTh_iff.1 ht
  have hm := mul_bd hw (v := max 0 (t.year - y)) (by omega)
  rw [max0, w64 (n := t.year - y) (by omega), w64 (n := wear * max 0 (t.year - y)) (by omega), w64 (by omega)]
  rfl
theorem high_wrap {wear y : Int} {t : Th} (ht : okTh t = true) (hw : 0 ≤ wear ∧ wear ≤ 1000) (hy : 0 ≤ y ∧ y ≤ 4000) : wrap64 (t.hi + wrap64 (wear * if 0 < wrap64 (y - t.year) then wrap64 (y - t.year) else 0)) = highT wear t y := by
  obtain ⟨h1, h2, h3, h4⟩ := okTh_iff.1 ht
  have hm := mul_bd hw (v := max 0 (y - t.year)) (by omega)
  rw [max0, w64 (n := y - t.year) (by omega), w64 (n := wear * max 0 (y - t.year)) (by omega), w64 (by omega)]
  rfl
/-- A contract in the worlds grown from one. -/
theorem cinGL {C : World → Prop} {w : World} (H : Hid (∀ W W', C W → Gr W W' → C W')) (B : Hid (∀ n : Wd C, Gr w n.w)) {f : FuncId} {args : Array Value} {v : Value} (h : ∀ W, Gr w W → Calls Tryz.prog f args W fun e w' => e = .returned v ∧ Gr W w') (n : Wd C) :
    Hid (Calls Tryz.prog f args n.w fun e w'' => e = .returned v ∧ ∃ m : Wd C, w'' = m.w) :=
  Calls.quiet_in (C := C) ((h n.w (B.out n)).mono fun _ _ h => ⟨h.1, H.out _ _ n.h h.2⟩)
set_option maxRecDepth 100000 in
set_option maxHeartbeats 3200000 in
theorem lowBy_any (lo hi wear : Int) (q : Option Addr) (nn cap : Nat) (v : Value) (t : Th) (y : Int) (w : World) (ht : okTh t = true) (hw : 0 ≤ wear ∧ wear ≤ 1000) (hy : 0 ≤ y ∧ y ≤ 4000) (hv : ThAt w v t) :
    Calls Tryz.prog 104 #[.agg #[.int .i64 lo, .int .i64 hi, .int .i64 wear, .slice q nn cap], v, .int .i64 y] w fun e w' => e = .returned (.int .i64 (lowT wear t y)) ∧ Gr w w' := by
  have HL := Lib.hid (low_wrap ht hw hy)
  clear ht hw hy
  have e1 := fld30_0
  have e2 := fld30_1
  rcases hv with ⟨id, we, rfl, -⟩ | ⟨b, ch, ty, rfl | rfl, rfl, hc⟩
  · have m1 := meth_my
    have m2 := meth_ml
    have C1 := fun W (_ : Gr w W) => mYear_any id t.year t.lo t.hi we W
    have C2 := fun W (_ : Gr w W) => mLong_any id t.year t.lo t.hi we W
    simp only [spv] at C2
    go_enter Tryz.func104, Tryz.ntmps104
    go_wp2_with fail
    obtain ⟨W0, hW0⟩ : ∃ W0, (w).alloc (.cells #[.int .i64 lo, .int .i64 hi, .int .i64 wear, .slice q nn cap] 111) = W0 := ⟨_, rfl⟩
    have S0 : StG w W0 [(w.heap.size, 0, .int .i64 lo), (w.heap.size, 1, .int .i64 hi), (w.heap.size, 2, .int .i64 wear), (w.heap.size, 3, .slice q nn cap)] := by rw [← hW0]; exact ((StG.nil w)).box #[.int .i64 lo, .int .i64 hi, .int .i64 wear, .slice q nn cap] 111 (w.heap.size) (by simp)
    rw [hW0]
    clear hW0
    obtain ⟨C, hC0, HC, LC, BC, hne⟩ := clsG S0
    haveI := hne
    obtain ⟨c0, rfl⟩ : ∃ n : Wd C, W0 = n.w := ⟨⟨_, hC0⟩, rfl⟩
    have fC0 : ∀ n : Wd C, n.w.cell? ⟨w.heap.size, 0, none⟩ = some (.int .i64 lo) := fun n => (LC.out n).1.2.1
    have fC1 : ∀ n : Wd C, n.w.cell? ⟨w.heap.size, 1, none⟩ = some (.int .i64 hi) := fun n => (LC.out n).2.1.2.1
    have fC2 : ∀ n : Wd C, n.w.cell? ⟨w.heap.size, 2, none⟩ = some (.int .i64 wear) := fun n => (LC.out n).2.2.1.2.1
    have fC3 : ∀ n : Wd C, n.w.cell? ⟨w.heap.size, 3, none⟩ = some (.slice q nn cap) := fun n => (LC.out n).2.2.2.1.2.1
    clear S0 hC0
    have D1 := cinGL HC BC C1
    have D2 := cinGL HC BC C2
    clear C1 C2
    refine wp_region_in C (HC.out _ _ (Wd.h _) (Gr.dr _)) (by kernel_rfl) (by kernel_rfl) ?_
    repeat (go_big_quiet_step (first | with_reducible exact (D1 _).out | with_reducible exact (D2 _).out))
    refine wpQuiet_nil ?_
    intro wx hwx
    obtain ⟨n, rfl⟩ : ∃ n : Wd C, wx = n.w := ⟨⟨wx, hwx⟩, rfl⟩
    clear hwx
    go_wp2_with fail
    all_goals (go_ret; refine ⟨ret_int ?_, BC.out _⟩; rw [← HL.out]; first | rw [if_pos ‹_›] | rw [if_neg (by omega), Int.mul_zero])
  · have m1 := meth_py
    have m2 := meth_pl
    have C1 := fun W (hg : Gr w W) => Calls.gr (pYear_any b t ch W (hc.keep hg.below))
    have C2 := fun W (hg : Gr w W) => pLong_any b t ch W (hc.keep hg.below)
    clear hc
    simp only [spv] at C2
    go_enter Tryz.func104, Tryz.ntmps104
    go_wp2_with fail
    obtain ⟨W0, hW0⟩ : ∃ W0, (w).alloc (.cells #[.int .i64 lo, .int .i64 hi, .int .i64 wear, .slice q nn cap] 111) = W0 := ⟨_, rfl⟩
    have S0 : StG w W0 [(w.heap.size, 0, .int .i64 lo), (w.heap.size, 1, .int .i64 hi), (w.heap.size, 2, .int .i64 wear), (w.heap.size, 3, .slice q nn cap)] := by rw [← hW0]; exact ((StG.nil w)).box #[.int .i64 lo, .int .i64 hi, .int .i64 wear, .slice q nn cap] 111 (w.heap.size) (by simp)
    rw [hW0]
    clear hW0
    obtain ⟨C, hC0, HC, LC, BC, hne⟩ := clsG S0
    haveI := hne
    obtain ⟨c0, rfl⟩ : ∃ n : Wd C, W0 = n.w := ⟨⟨_, hC0⟩, rfl⟩
    have fC0 : ∀ n : Wd C, n.w.cell? ⟨w.heap.size, 0, none⟩ = some (.int .i64 lo) := fun n => (LC.out n).1.2.1
    have fC1 : ∀ n : Wd C, n.w.cell? ⟨w.heap.size, 1, none⟩ = some (.int .i64 hi) := fun n => (LC.out n).2.1.2.1
    have fC2 : ∀ n : Wd C, n.w.cell? ⟨w.heap.size, 2, none⟩ = some (.int .i64 wear) := fun n => (LC.out n).2.2.1.2.1
    have fC3 : ∀ n : Wd C, n.w.cell? ⟨w.heap.size, 3, none⟩ = some (.slice q nn cap) := fun n => (LC.out n).2.2.2.1.2.1
    clear S0 hC0
    have D1 := cinGL HC BC C1
    have D2 := cinGL HC BC C2
    clear C1 C2
    refine wp_region_in C (HC.out _ _ (Wd.h _) (Gr.dr _)) (by kernel_rfl) (by kernel_rfl) ?_
    repeat (go_big_quiet_step (first | with_reducible exact (D1 _).out | with_reducible exact (D2 _).out))
    refine wpQuiet_nil ?_
    intro wx hwx
    obtain ⟨n, rfl⟩ : ∃ n : Wd C, wx = n.w := ⟨⟨wx, hwx⟩, rfl⟩
    clear hwx
    go_wp2_with fail
    all_goals (go_ret; refine ⟨ret_int ?_, BC.out _⟩; rw [← HL.out]; first | rw [if_pos ‹_›] | rw [if_neg (by omega), Int.mul_zero])
  · have m1 := meth_ry
    have m2 := meth_rl
    have C1 := fun W (hg : Gr w W) => Calls.gr (rYear_any b t ch W (hc.keep hg.below))
    have C2 := fun W (hg : Gr w W) => rLong_any b t ch W (hc.keep hg.below)
    clear hc
    simp only [spv] at C2
    go_enter Tryz.func104, Tryz.ntmps104
    go_wp2_with fail
    obtain ⟨W0, hW0⟩ : ∃ W0, (w).alloc (.cells #[.int .i64 lo, .int .i64 hi, .int .i64 wear, .slice q nn cap] 111) = W0 := ⟨_, rfl⟩
    have S0 : StG w W0 [(w.heap.size, 0, .int .i64 lo), (w.heap.size, 1, .int .i64 hi), (w.heap.size, 2, .int .i64 wear), (w.heap.size, 3, .slice q nn cap)] := by rw [← hW0]; exact ((StG.nil w)).box #[.int .i64 lo, .int .i64 hi, .int .i64 wear, .slice q nn cap] 111 (w.heap.size) (by simp)
    rw [hW0]
    clear hW0
    obtain ⟨C, hC0, HC, LC, BC, hne⟩ := clsG S0
    haveI := hne
    obtain ⟨c0, rfl⟩ : ∃ n : Wd C, W0 = n.w := ⟨⟨_, hC0⟩, rfl⟩
    have fC0 : ∀ n : Wd C, n.w.cell? ⟨w.heap.size, 0, none⟩ = some (.int .i64 lo) := fun n => (LC.out n).1.2.1
    have fC1 : ∀ n : Wd C, n.w.cell? ⟨w.heap.size, 1, none⟩ = some (.int .i64 hi) := fun n => (LC.out n).2.1.2.1
    have fC2 : ∀ n : Wd C, n.w.cell? ⟨w.heap.size, 2, none⟩ = some (.int .i64 wear) := fun n => (LC.out n).2.2.1.2.1
    have fC3 : ∀ n : Wd C, n.w.cell? ⟨w.heap.size, 3, none⟩ = some (.slice q nn cap) := fun n => (LC.out n).2.2.2.1.2.1
    clear S0 hC0
    have D1 := cinGL HC BC C1
    have D2 := cinGL HC BC C2
    clear C1 C2
    refine wp_region_in C (HC.out _ _ (Wd.h _) (Gr.dr _)) (by kernel_rfl) (by kernel_rfl) ?_
    repeat (go_big_quiet_step (first | with_reducible exact (D1 _).out | with_reducible exact (D2 _).out))
    refine wpQuiet_nil ?_
    intro wx hwx
    obtain ⟨n, rfl⟩ : ∃ n : Wd C, wx = n.w := ⟨⟨wx, hwx⟩, rfl⟩
    clear hwx
    go_wp2_with fail
    all_goals (go_ret; refine ⟨ret_int ?_, BC.out _⟩; rw [← HL.out]; first | rw [if_pos ‹_›] | rw [if_neg (by omega), Int.mul_zero])
set_option maxRecDepth 100000 in
set_option maxHeartbeats 3200000 in
theorem highBy_any (lo hi wear : Int) (q : Option Addr) (nn cap : Nat) (v : Value) (t : Th) (y : Int) (w : World) (ht : okTh t = true) (hw : 0 ≤ wear ∧ wear ≤ 1000) (hy : 0 ≤ y ∧ y ≤ 4000) (hv : ThAt w v t) :
    Calls Tryz.prog 106 #[.agg #[.int .i64 lo, .int .i64 hi, .int .i64 wear, .slice q nn cap], v, .int .i64 y] w fun e w' => e = .returned (.int .i64 (highT wear t y)) ∧ Gr w w' := by
  have HL := Lib.hid (high_wrap ht hw hy)
  clear ht hw hy
  have e1 := fld30_0
  have e2 := fld30_1
  rcases hv with ⟨id, we, rfl, -⟩ | ⟨b, ch, ty, rfl | rfl, rfl, hc⟩
  · have m1 := meth_my
    have m2 := meth_ml
    have C1 := fun W (_ : Gr w W) => mYear_any id t.year t.lo t.hi we W
    have C2 := fun W (_ : Gr w W) => mLong_any id t.year t.lo t.hi we W
    simp only [spv] at C2
    go_enter Tryz.func106, Tryz.ntmps106
    go_wp2_with fail
    obtain ⟨W0, hW0⟩ : ∃ W0, (w).alloc (.cells #[.int .i64 lo, .int .i64 hi, .int .i64 wear, .slice q nn cap] 111) = W0 := ⟨_, rfl⟩
    have S0 : StG w W0 [(w.heap.size, 0, .int .i64 lo), (w.heap.size, 1, .int .i64 hi), (w.heap.size, 2, .int .i64 wear), (w.heap.size, 3, .slice q nn cap)] := by rw [← hW0]; exact ((StG.nil w)).box #[.int .i64 lo, .int .i64 hi, .int .i64 wear, .slice q nn cap] 111 (w.heap.size) (by simp)
    rw [hW0]
    clear hW0
    obtain ⟨C, hC0, HC, LC, BC, hne⟩ := clsG S0
    haveI := hne
    obtain ⟨c0, rfl⟩ : ∃ n : Wd C, W0 = n.w := ⟨⟨_, hC0⟩, rfl⟩
    have fC0 : ∀ n : Wd C, n.w.cell? ⟨w.heap.size, 0, none⟩ = some (.int .i64 lo) := fun n => (LC.out n).1.2.1
    have fC1 : ∀ n : Wd C, n.w.cell? ⟨w.heap.size, 1, none⟩ = some (.int .i64 hi) := fun n => (LC.out n).2.1.2.1
    have fC2 : ∀ n : Wd C, n.w.cell? ⟨w.heap.size, 2, none⟩ = some (.int .i64 wear) := fun n => (LC.out n).2.2.1.2.1
    have fC3 : ∀ n : Wd C, n.w.cell? ⟨w.heap.size, 3, none⟩ = some (.slice q nn cap) := fun n => (LC.out n).2.2.2.1.2.1
    clear S0 hC0
    have D1 := cinGL HC BC C1
    have D2 := cinGL HC BC C2
    clear C1 C2
    refine wp_region_in C (HC.out _ _ (Wd.h _) (Gr.dr _)) (by kernel_rfl) (by kernel_rfl) ?_
    repeat (go_big_quiet_step (first | with_reducible exact (D1 _).out | with_reducible exact (D2 _).out))
    refine wpQuiet_nil ?_
    intro wx hwx
    obtain ⟨n, rfl⟩ : ∃ n : Wd C, wx = n.w := ⟨⟨wx, hwx⟩, rfl⟩
    clear hwx
    go_wp2_with fail
    all_goals (go_ret; refine ⟨ret_int ?_, BC.out _⟩; rw [← HL.out]; first | rw [if_pos ‹_›] | rw [if_neg (by omega), Int.mul_zero])
  · have m1 := meth_py
    have m2 := meth_pl
    have C1 := fun W (hg : Gr w W) => Calls.gr (pYear_any b t ch W (hc.keep hg.below))
    have C2 := fun W (hg : Gr w W) => pLong_any b t ch W (hc.keep hg.below)
    clear hc
    simp only [spv] at C2
    go_enter Tryz.func106, Tryz.ntmps106
    go_wp2_with fail
    obtain ⟨W0, hW0⟩ : ∃ W0, (w).alloc (.cells #[.int .i64 lo, .int .i64 hi, .int .i64 wear, .slice q nn cap] 111) = W0 := ⟨_, rfl⟩
    have S0 : StG w W0 [(w.heap.size, 0, .int .i64 lo), (w.heap.size, 1, .int .i64 hi), (w.heap.size, 2, .int .i64 wear), (w.heap.size, 3, .slice q nn cap)] := by rw [← hW0]; exact ((StG.nil w)).box #[.int .i64 lo, .int .i64 hi, .int .i64 wear, .slice q nn cap] 111 (w.heap.size) (by simp)
    rw [hW0]
    clear hW0
    obtain ⟨C, hC0, HC, LC, BC, hne⟩ := clsG S0
    haveI := hne
    obtain ⟨c0, rfl⟩ : ∃ n : Wd C, W0 = n.w := ⟨⟨_, hC0⟩, rfl⟩
    have fC0 : ∀ n : Wd C, n.w.cell? ⟨w.heap.size, 0, none⟩ = some (.int .i64 lo) := fun n => (LC.out n).1.2.1
    have fC1 : ∀ n : Wd C, n.w.cell? ⟨w.heap.size, 1, none⟩ = some (.int .i64 hi) := fun n => (LC.out n).2.1.2.1
    have fC2 : ∀ n : Wd C, n.w.cell? ⟨w.heap.size, 2, none⟩ = some (.int .i64 wear) := fun n => (LC.out n).2.2.1.2.1
    have fC3 : ∀ n : Wd C, n.w.cell? ⟨w.heap.size, 3, none⟩ = some (.slice q nn cap) := fun n => (LC.out n).2.2.2.1.2.1
    clear S0 hC0
    have D1 := cinGL HC BC C1
    have D2 := cinGL HC BC C2
    clear C1 C2
    refine wp_region_in C (HC.out _ _ (Wd.h _) (Gr.dr _)) (by kernel_rfl) (by kernel_rfl) ?_
    repeat (go_big_quiet_step (first | with_reducible exact (D1 _).out | with_reducible exact (D2 _).out))
    refine wpQuiet_nil ?_
    intro wx hwx
    obtain ⟨n, rfl⟩ : ∃ n : Wd C, wx = n.w := ⟨⟨wx, hwx⟩, rfl⟩
    clear hwx
    go_wp2_with fail
    all_goals (go_ret; refine ⟨ret_int ?_, BC.out _⟩; rw [← HL.out]; first | rw [if_pos ‹_›] | rw [if_neg (by omega), Int.mul_zero])
  · have m1 := meth_ry
    have m2 := meth_rl
    have C1 := fun W (hg : Gr w W) => Calls.gr (rYear_any b t ch W (hc.keep hg.below))
    have C2 := fun W (hg : Gr w W) => rLong_any b t ch W (hc.keep hg.below)
    clear hc
    simp only [spv] at C2
    go_enter Tryz.func106, Tryz.ntmps106
    go_wp2_with fail
    obtain ⟨W0, hW0⟩ : ∃ W0, (w).alloc (.cells #[.int .i64 lo, .int .i64 hi, .int .i64 wear, .slice q nn cap] 111) = W0 := ⟨_, rfl⟩
    have S0 : StG w W0 [(w.heap.size, 0, .int .i64 lo), (w.heap.size, 1, .int .i64 hi), (w.heap.size, 2, .int .i64 wear), (w.heap.size, 3, .slice q nn cap)] := by rw [← hW0]; exact ((StG.nil w)).box #[.int .i64 lo, .int .i64 hi, .int .i64 wear, .slice q nn cap] 111 (w.heap.size) (by simp)
    rw [hW0]
    clear hW0
    obtain ⟨C, hC0, HC, LC, BC, hne⟩ := clsG S0
    haveI := hne
    obtain ⟨c0, rfl⟩ : ∃ n : Wd C, W0 = n.w := ⟨⟨_, hC0⟩, rfl⟩
    have fC0 : ∀ n : Wd C, n.w.cell? ⟨w.heap.size, 0, none⟩ = some (.int .i64 lo) := fun n => (LC.out n).1.2.1
    have fC1 : ∀ n : Wd C, n.w.cell? ⟨w.heap.size, 1, none⟩ = some (.int .i64 hi) := fun n => (LC.out n).2.1.2.1
    have fC2 : ∀ n : Wd C, n.w.cell? ⟨w.heap.size, 2, none⟩ = some (.int .i64 wear) := fun n => (LC.out n).2.2.1.2.1
    have fC3 : ∀ n : Wd C, n.w.cell? ⟨w.heap.size, 3, none⟩ = some (.slice q nn cap) := fun n => (LC.out n).2.2.2.1.2.1
    clear S0 hC0
    have D1 := cinGL HC BC C1
    have D2 := cinGL HC BC C2
    clear C1 C2
    refine wp_region_in C (HC.out _ _ (Wd.h _) (Gr.dr _)) (by kernel_rfl) (by kernel_rfl) ?_
    repeat (go_big_quiet_step (first | with_reducible exact (D1 _).out | with_reducible exact (D2 _).out))
    refine wpQuiet_nil ?_
    intro wx hwx
    obtain ⟨n, rfl⟩ : ∃ n : Wd C, wx = n.w := ⟨⟨wx, hwx⟩, rfl⟩
    clear hwx
    go_wp2_with fail
    all_goals (go_ret; refine ⟨ret_int ?_, BC.out _⟩; rw [← HL.out]; first | rw [if_pos ‹_›] | rw [if_neg (by omega), Int.mul_zero])

end Go.Proofs.YtcejmfgbfdhflaaGreat
