import Derived.Test.YtcejmfgbfdhflaaGreatCs
import Derived.Test.YtcejmfgbfdhflaaGreatTail
import Derived.WalkKit
import Derived.LoopTactic
import Derived.WalkSpells
import Derived.WalkLawsBesides
import Derived.Lib.Hide
import Derived.BigQuiet
import Derived.IntWalk
import Derived.Deep.DeepMust
import Derived.WalkSmall
import Derived.StillTailTactics
import Derived.Deep.RegionLaw
import Derived.Deep.RegionHeld3
import Derived.Deep.QuietTactic
namespace Go.Proofs.YtcejmfgbfdhflaaGreat
open Go.RowKit Go.BigFrame Go.Sort
attribute [local go_sem] World.cell?_alloc_some
theorem OP.pairs {W : World} {B : Nat} {v : Value} {l : List (Int × Int)} (h : OP W B v l) : ∃ q cap, v = .slice q l.length cap ∧ (l = [] ∨ ∃ b, q = some ⟨b, 0, none⟩ ∧ B ≤ b ∧ b < W.heap.size ∧ ∀ j p, l[j]? = some p → W.cell? ⟨b, j * 2, none⟩ = some (.int .i64 p.1) ∧ W.cell? ⟨b, j * 2 + 1, none⟩ = some (.int .i64 p.2)) := by
  obtain ⟨h1, ⟨rfl, h2⟩ | ⟨g, cap, cur, rfl, hg, hc, h3, h4, h5, h6⟩⟩ := h
  · exact ⟨none, 0, by rw [h2], .inl (List.length_eq_zero_iff.1 h2)⟩
  · refine ⟨some ⟨g, 0, none⟩, cap, rfl, .inr ⟨g, rfl, hg, (Array.getElem?_eq_some_iff.1 hc).1, fun j q hq => ?_⟩⟩
    have hj : j < l.length := (List.getElem?_eq_some_iff.1 hq).1
    obtain ⟨g1, g2⟩ := flat2_get hq
    rw [← h6] at g1 g2
    rw [List.getElem?_take_of_lt (by omega)] at g1 g2
    exact ⟨by simpa [World.cell?, hc] using g1, by simpa [World.cell?, hc] using g2⟩
set_option maxRecDepth 100000 in
set_option maxHeartbeats 800000 in
theorem agrees_any (s : Spl) (q : Option Addr) (cap : Nat) (w : World) (hs : okS s = true) (hcap : s.ths.length ≤ cap) (hcm : cap ≤ maxLen) (h : ThsAt w q s.ths) :
    Calls Tryz.prog 116 #[s.v q cap] w fun e w' => e = .returned (.bool (decide (clS s = []))) ∧ Below w.heap.size w w' := by
  have CC := clashes1_any s q cap (w.alloc (.cells #[.int .i64 s.lo, .int .i64 s.hi, .int .i64 s.wear, .slice q s.ths.length cap] 111)) hs hcap hcm (h.keep (Gr.al _ _).below)
  obtain ⟨l, hl⟩ : ∃ l, clS s = l := ⟨_, rfl⟩
  rw [hl] at CC
  rw [hl]
  clear hl h hs hcap hcm
  obtain ⟨lo, hi, wear, ths⟩ := s
  simp only [Spl.v] at *
  go_enter Tryz.func116, Tryz.ntmps116
  go_wp2_with fail
  refine CC.mono ?_
  rintro e w1 ⟨v, rfl, hO, hb⟩
  obtain ⟨q2, cap2, rfl, -⟩ := OP.pairs hO
  have HB : Hid (Below w.heap.size w w1) := (Gr.al _ _).below.trans (hb.mono (by simp))
  clear hO hb CC
  go_wp2_with fail
  go_ret
  refine ⟨ret_bool ?_, HB.out⟩
  cases l <;> simp <;> omega
set_option maxRecDepth 100000 in
set_option maxHeartbeats 3200000 in
theorem long_any (s : Spl) (q : Option Addr) (cap : Nat) (y : Int) (w : World) (hs : okS s = true) (hy : 0 ≤ y ∧ y ≤ 4000) (h : ThsAt w q s.ths) :
    Calls Tryz.prog 100 #[s.v q cap, .int .i64 y] w fun e w' => e = .returned (spv (lowS s y) (highS s y)) ∧ Below w.heap.size w w' := by
  have C1 := fun W (hb : Below w.heap.size w W) => low_any s q cap y W hs hy (h.keep hb)
  have C2 := fun W (hb : Below w.heap.size w W) => high_any s q cap y W hs hy (h.keep hb)
  obtain ⟨x1, h1⟩ : ∃ x, lowS s y = x := ⟨_, rfl⟩
  obtain ⟨x2, h2⟩ : ∃ x, highS s y = x := ⟨_, rfl⟩
  rw [h1] at C1
  rw [h2] at C2
  rw [h1, h2]
  clear h1 h2 h hs hy
  obtain ⟨lo, hi, wear, ths⟩ := s
  simp only [Spl.v] at *
  go_enter Tryz.func100, Tryz.ntmps100
  go_wp2_with fail
  obtain ⟨W0, hW0⟩ : ∃ W0, ((w).alloc (.cells #[.int .i64 lo, .int .i64 hi, .int .i64 wear, .slice q ths.length cap] 111)).alloc (.cells #[.int .i64 0, .int .i64 0] 30) = W0 := ⟨_, rfl⟩
  have S0 : St w W0 [(w.heap.size + 1, 0, .int .i64 0), (w.heap.size + 1, 1, .int .i64 0), (w.heap.size, 0, .int .i64 lo), (w.heap.size, 1, .int .i64 hi), (w.heap.size, 2, .int .i64 wear), (w.heap.size, 3, .slice q ths.length cap)] := by rw [← hW0]; exact (((St.nil w)).box #[.int .i64 lo, .int .i64 hi, .int .i64 wear, .slice q ths.length cap] 111 (w.heap.size) (by simp)).box #[.int .i64 0, .int .i64 0] 30 (w.heap.size + 1) (by simp)
  rw [hW0]
  clear hW0
  obtain ⟨C, hC0, HC, LC, BC, hne⟩ := cls S0
  haveI := hne
  obtain ⟨c0, rfl⟩ : ∃ n : Wd C, W0 = n.w := ⟨⟨_, hC0⟩, rfl⟩
  have fC0 : ∀ n : Wd C, n.w.cell? ⟨w.heap.size + 1, 0, none⟩ = some (.int .i64 0) := fun n => (LC.out n).1.2.1
  have zC0 : ∀ n : Wd C, n.w.frozen? ⟨w.heap.size + 1, 0, none⟩ = false := fun n => (LC.out n).1.2.2
  have fC1 : ∀ n : Wd C, n.w.cell? ⟨w.heap.size + 1, 1, none⟩ = some (.int .i64 0) := fun n => (LC.out n).2.1.2.1
  have zC1 : ∀ n : Wd C, n.w.frozen? ⟨w.heap.size + 1, 1, none⟩ = false := fun n => (LC.out n).2.1.2.2
  have fC2 : ∀ n : Wd C, n.w.cell? ⟨w.heap.size, 0, none⟩ = some (.int .i64 lo) := fun n => (LC.out n).2.2.1.2.1
  have fC3 : ∀ n : Wd C, n.w.cell? ⟨w.heap.size, 1, none⟩ = some (.int .i64 hi) := fun n => (LC.out n).2.2.2.1.2.1
  have fC4 : ∀ n : Wd C, n.w.cell? ⟨w.heap.size, 2, none⟩ = some (.int .i64 wear) := fun n => (LC.out n).2.2.2.2.1.2.1
  have fC5 : ∀ n : Wd C, n.w.cell? ⟨w.heap.size, 3, none⟩ = some (.slice q ths.length cap) := fun n => (LC.out n).2.2.2.2.2.1.2.1
  clear S0 hC0
  have D1 := cinL HC BC C1
  have D2 := cinL HC BC C2
  clear C1 C2
  refine wp_region_in_tail 6 C (HC.out _ _ (Wd.h _) (below_dr _)) (by kernel_rfl) (by kernel_rfl) ?_
  simp only [List.take_succ_cons, List.take_zero, List.drop_succ_cons, List.drop_zero]
  repeat (go_big_quiet_step (first | with_reducible exact (D1 _).out | with_reducible exact (D2 _).out))
  refine wpQuiet_nil ?_
  intro wx hwx
  obtain ⟨n2, rfl⟩ : ∃ n : Wd C, wx = n.w := ⟨⟨wx, hwx⟩, rfl⟩
  clear hwx D1 D2
  go_wp2_with fail
  refine bodyPost_ret (v := spv x1 x2) (by simp [results, Tryz.results100, go_sem, fC0, fC1]) rfl ⟨rfl, ?_⟩
  exact ((BC.out n2).setCell (p := ⟨w.heap.size + 1, 0, none⟩) (Nat.le_succ _) _).setCell (p := ⟨w.heap.size + 1, 1, none⟩) (Nat.le_succ _) _

end Go.Proofs.YtcejmfgbfdhflaaGreat
