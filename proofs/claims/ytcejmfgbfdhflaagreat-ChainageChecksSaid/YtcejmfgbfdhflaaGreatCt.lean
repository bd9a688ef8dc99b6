import Derived.Test.YtcejmfgbfdhflaaGreatLw
import Derived.WalkKit
import Derived.LoopTactic
import Derived.WalkSpells
import Derived.WalkLawsBesides
import Derived.Lib.Hide
import Derived.BigQuiet
import Derived.IntWalk
import Derived.Deep.DeepMust
import Derived.WalkSmall
import Derived.StillTailTactics
import Derived.Deep.RegionLaw
import Derived.Deep.RegionHeld3
import Derived.Deep.QuietTactic
namespace Go.Proofs.YtcejmfgbfdhflaaGreat
open Go.RowKit Go.BigFrame Go.Sort
attribute [local go_sem] World.cell?_alloc_some
set_option maxRecDepth 100000 in
theorem wpList_year {W : World} {v : Value} {t : Th} (hv : ThAt W v t) {ops : Array Oper} {rest : List Oper} {o : Oper} {a : Act} {Q : Exit → Act → World → Prop} (hgd : o.guard = none) (x : Operand)
    (ho : o.op = .call { callee := .invoke x "boundstone/chainage.year", args := #[], argTypes := #[] }) (hx : a.eval x = v)
    (h : ∀ w', Gr W w' → wpList Tryz.prog ops Q rest (a.put o.dst (.int .i64 t.year)) w') : wpList Tryz.prog ops Q (o :: rest) a W := by
  refine wpList_plain hgd fun K hK => ?_
  have m1 := meth_my
  have m2 := meth_py
  have m3 := meth_ry
  unfold Oper.wp
  obtain ⟨ev, hev⟩ : ∃ ev, ev = a.eval := ⟨_, rfl⟩
  rw [← hev] at hx ⊢
  clear hev
  rcases hv with ⟨id, we, rfl, -⟩ | ⟨b, ch, ty, rfl | rfl, rfl, hc⟩
  · simp [execOp, ho, hx, go_sem, m1]
    refine (mYear_any id t.year t.lo t.hi we W).mono ?_
    rintro e w' ⟨rfl, hg⟩
    exact hK _ _ (h _ hg)
  · have C := Calls.gr (pYear_any b t ch W hc)
    simp [execOp, ho, hx, go_sem, m2]
    refine C.mono ?_
    rintro e w' ⟨rfl, hg⟩
    exact hK _ _ (h _ hg)
  · have C := Calls.gr (rYear_any b t ch W hc)
    simp [execOp, ho, hx, go_sem, m3]
    refine C.mono ?_
    rintro e w' ⟨rfl, hg⟩
    exact hK _ _ (h _ hg)
/-- Do two things ask for more than they allow? -/
def clB (wear : Int) (a b : Th) : Bool := decide (highT wear b (max a.year b.year) < lowT wear a (max a.year b.year)) || decide (highT wear a (max a.year b.year) < lowT wear b (max a.year b.year))
set_option maxRecDepth 100000 in
set_option maxHeartbeats 6400000 in
theorem contradict_any (lo hi wear : Int) (q : Option Addr) (nn cap : Nat) (va vb : Value) (a b : Th) (w : World) (ha : okTh a = true) (hb : okTh b = true) (hw : 0 ≤ wear ∧ wear ≤ 1000) (hva : ThAt w va a) (hvb : ThAt w vb b) :
    Calls Tryz.prog 206 #[.agg #[.int .i64 lo, .int .i64 hi, .int .i64 wear, .slice q nn cap], va, vb] w fun e w' => e = .returned (.bool (clB wear a b)) ∧ Gr w w' := by
  obtain ⟨a1, -⟩ := okTh_iff.1 ha
  obtain ⟨b1, -⟩ := okTh_iff.1 hb
  obtain ⟨y, hy⟩ : ∃ y, max a.year b.year = y := ⟨_, rfl⟩
  have hy0 : 0 ≤ y ∧ y ≤ 4000 := by omega
  have HA := Lib.hid hva
  have HB := Lib.hid hvb
  have C1 := fun W (hg : Gr w W) => lowBy_any lo hi wear q nn cap va a y W ha hw hy0 (hva.keep hg.below)
  have C2 := fun W (hg : Gr w W) => highBy_any lo hi wear q nn cap vb b y W hb hw hy0 (hvb.keep hg.below)
  have C3 := fun W (hg : Gr w W) => lowBy_any lo hi wear q nn cap vb b y W hb hw hy0 (hvb.keep hg.below)
  have C4 := fun W (hg : Gr w W) => highBy_any lo hi wear q nn cap va a y W ha hw hy0 (hva.keep hg.below)
  unfold clB
  rw [hy]
  have HY : (if a.year < b.year then b.year else a.year) = y := by rw [ifmax]; exact hy
  obtain ⟨x1, h1⟩ : ∃ x, lowT wear a y = x := ⟨_, rfl⟩
  obtain ⟨x2, h2⟩ : ∃ x, highT wear b y = x := ⟨_, rfl⟩
  obtain ⟨x3, h3⟩ : ∃ x, lowT wear b y = x := ⟨_, rfl⟩
  obtain ⟨x4, h4⟩ : ∃ x, highT wear a y = x := ⟨_, rfl⟩
  rw [h1, h2, h3, h4]
  rw [h1] at C1
  rw [h2] at C2
  rw [h3] at C3
  rw [h4] at C4
  clear h1 h2 h3 h4 hva hvb ha hb hw a1 b1 hy hy0
  have fin : ∀ z1 z2 : Bool, (decide (x2 < x1) = z1) → (decide (x4 < x3) = z2) → Calls Tryz.prog 206 #[.agg #[.int .i64 lo, .int .i64 hi, .int .i64 wear, .slice q nn cap], va, vb] w fun e w' => e = .returned (.bool (z1 || z2)) ∧ Gr w w' := by
    intro z1 z2 hz1 hz2
    go_enter Tryz.func206, Tryz.ntmps206
    go_wp2_with (first
      | (refine wpList_year (HA.out.keep (Gr.al w _).below) rfl _ rfl rfl ?_; intro w1 hg1; have G1 : Hid (Gr w w1) := (Gr.al w _).trans hg1; have S1 := Lib.hid (((StG.nil w).box _ _ _ rfl).next hg1); clear hg1)
      | (refine wpList_year (HB.out.keep G1.out.below) rfl _ rfl rfl ?_; intro w2 hg2; have S2 := S1.out.next hg2; clear hg2))
    clear HY
    obtain ⟨C, hC0, HC, LC, BC, hne⟩ := clsG S2
    haveI := hne
    obtain ⟨c0, rfl⟩ : ∃ n : Wd C, w2 = n.w := ⟨⟨_, hC0⟩, rfl⟩
    have fC0 : ∀ n : Wd C, n.w.cell? ⟨w.heap.size, 0, none⟩ = some (.int .i64 lo) := fun n => (LC.out n).1.2.1
    have fC1 : ∀ n : Wd C, n.w.cell? ⟨w.heap.size, 1, none⟩ = some (.int .i64 hi) := fun n => (LC.out n).2.1.2.1
    have fC2 : ∀ n : Wd C, n.w.cell? ⟨w.heap.size, 2, none⟩ = some (.int .i64 wear) := fun n => (LC.out n).2.2.1.2.1
    have fC3 : ∀ n : Wd C, n.w.cell? ⟨w.heap.size, 3, none⟩ = some (.slice q nn cap) := fun n => (LC.out n).2.2.2.1.2.1
    clear S2 hC0
    have D1 := cinGL HC BC C1
    have D2 := cinGL HC BC C2
    have D3 := cinGL HC BC C3
    have D4 := cinGL HC BC C4
    clear C1 C2 C3 C4
    cases z1
    ·
      refine wp_region_in C (HC.out _ _ (Wd.h _) (Gr.dr _)) (by kernel_rfl) (by kernel_rfl) ?_
      repeat (go_big_quiet_step (first | with_reducible exact (D1 _).out | with_reducible exact (D2 _).out | with_reducible exact (D3 _).out | with_reducible exact (D4 _).out))
      refine wpQuiet_nil ?_
      intro wx hwx
      obtain ⟨n, rfl⟩ : ∃ n : Wd C, wx = n.w := ⟨⟨wx, hwx⟩, rfl⟩
      clear hwx
      go_wp2_with fail
      go_ret
      exact ⟨ret_bool (by simp), BC.out _⟩
    ·
      refine wp_region_in C (HC.out _ _ (Wd.h _) (Gr.dr _)) (by kernel_rfl) (by kernel_rfl) ?_
      repeat (go_big_quiet_step (first | with_reducible exact (D1 _).out | with_reducible exact (D2 _).out | with_reducible exact (D3 _).out | with_reducible exact (D4 _).out))
      refine wpQuiet_nil ?_
      intro wx hwx
      obtain ⟨n, rfl⟩ : ∃ n : Wd C, wx = n.w := ⟨⟨wx, hwx⟩, rfl⟩
      clear hwx
      go_wp2_with fail
      go_ret
      exact ⟨ret_bool (by simp), BC.out _⟩
  exact fin _ _ rfl rfl

end Go.Proofs.YtcejmfgbfdhflaaGreat
