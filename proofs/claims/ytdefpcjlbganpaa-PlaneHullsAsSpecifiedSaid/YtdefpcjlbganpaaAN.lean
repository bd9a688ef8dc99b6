import Derived.RangeFuncNested
import Derived.RangeFuncBox
import Derived.RangeFuncBound
import Derived.RangeFuncCalls
import Derived.RangeFuncLeaves
import Derived.Shelf.Abstract
import Derived.Shelf.RegionOpen
import Derived.BigRegionIn
import Derived.Stop.RegionWithIn
import Derived.WalkKit
import Derived.OwnWalkIn
import Derived.TacticsInMore
import Derived.LoopNIn
import Derived.LoopIn
import Derived.Lib.Hide
import Derived.IntWalk
import Derived.Deep.QuietTactic
import Derived.Deep.RegionHeld3
import Derived.Deep.RegionLaw
import Derived.StillTailTactics
import Derived.WalkSmall
import Derived.Deep.DeepMust
import Derived.BigQuiet
import Derived.WalkLawsBesides
import Derived.WalkSpells
import Derived.LoopTactic
import Derived.Test.YtdefpcjlbganpaaHU
import Derived.Test.YtdefpcjlbganpaaMEx
import Derived.Test.YtdefpcjlbganpaaAM
import Derived.Test.YtdefpcjlbganpaaMBxs
import Derived.Test.YtdefpcjlbganpaaMCut
import Derived.Test.YtdefpcjlbganpaaMDist
import Derived.Lib.SliceRun
import Derived.Lib.SlicesCompact
import Derived.Deep.LoopGhost
import Derived.Deep.DeepCutAuto
import Derived.Deep.CutBlock
import Derived.Maps.AppendAt
import Derived.Lib.MinMax
import Derived.Test.YtdefpcjlbganpaaRingsLaw
import Derived.Test.YtdefpcjlbganpaaHullLaw
import Derived.Test.YtdefpcjlbganpaaMSort
namespace Go.Proofs.Ytdefpcjlbganpaa
open Go.RowKit Go.Shelf Go.BigFrame Go.Sort
attribute [local go_sem] Oper.semAt_some
attribute [local go_sem] World.cell?_alloc_some
def RhPost (w : World) (n : Int) (m : List Pt) (e : Ending) (w' : World) : Prop := ∃ a c, e = .returned (.agg #[.slice a m.length c, .int .i64 n]) ∧ PtsAt w' a m ∧ Below w.heap.size w w'
set_option maxRecDepth 100000 in
set_option maxHeartbeats 16000000 in
theorem rHull_any (q : Option Addr) (cap : Nat) (l : List Pt) (w : World) (hl : l.length ≤ 140737488355327) (hp : PtsAt w q l) :
    Calls Try.prog 40 #[.slice q l.length cap] w (RhPost w (ck 1 l) (if ck 1 l = 0 then hullC l else [])) := by
  have C0 : ∀ W, Below w.heap.size w W → Calls Try.prog 92 #[.slice q l.length cap, .int .i64 1] W fun e w' => e = .returned (.int .i64 (ck 1 l)) ∧ Below W.heap.size W w' := fun W hb => rpoints_any 1 q cap l W hl (hp.keep hb)
  by_cases hck : ck 1 l = 0
  · obtain ⟨h1, h200, hall⟩ := ck_len hck
    rw [hck, if_pos rfl]
    rw [hck] at C0
    have hok : ∀ q ∈ l, okP q = true := List.all_eq_true.1 hall
    obtain ⟨hn1, hn2, hn3, hn4⟩ := hull_gw l h1 hok
    rcases hp with rfl | ⟨b, o, rfl, hbl, hc⟩
    · simp at h1
    have HCL : Hid (∀ (W : World), Below w.heap.size w W → ∀ k, k < l.length → W.cell? ⟨b, o + k * 2, none⟩ = some (.int .i64 (pt l k).x) ∧ W.cell? ⟨b, o + k * 2 + 1, none⟩ = some (.int .i64 (pt l k).y)) := fun W hb k hk => by
      have hq : l[k]? = some (pt l k) := by rw [List.getElem?_eq_getElem hk]; simp [pt, hk]
      obtain ⟨c1, c2⟩ := hc k _ hq
      exact ⟨(hb.cell (p := ⟨b, o + k * 2, none⟩) hbl).trans c1, (hb.cell (p := ⟨b, o + k * 2 + 1, none⟩) hbl).trans c2⟩
    have HOK : Hid (∀ k, k < l.length → okP (pt l k) = true) := fun k hk => hok _ (pt_mem hk)
    obtain ⟨h, hh⟩ : ∃ h, hullC l = h := ⟨_, rfl⟩
    rw [hh] at hn1 hn2 hn3 hn4 ⊢
    have HN := Lib.hid (And.intro hn3 hn4)
    clear hck hall hok hh hn3 hn4 hc hbl
    go_enter Try.func40, Try.ntmps40
    go_wp2_with fail
    obtain ⟨W0, hW0⟩ : ∃ W0, (w).alloc (.cells #[.slice none 0 0, .int .i64 0] 47) = W0 := ⟨_, rfl⟩
    have S0 : St w W0 [(w.heap.size, 0, .slice none 0 0), (w.heap.size, 1, .int .i64 0)] := by rw [← hW0]; exact ((St.nil w)).box #[.slice none 0 0, .int .i64 0] 47 (w.heap.size) (by simp)
    rw [hW0]
    clear hW0
    obtain ⟨C, hC0, HC, LC, BC, hne⟩ := cls S0
    haveI := hne
    obtain ⟨c0, rfl⟩ : ∃ n : Wd C, W0 = n.w := ⟨⟨_, hC0⟩, rfl⟩
    have fC0 : ∀ n : Wd C, n.w.cell? ⟨w.heap.size, 0, none⟩ = some (.slice none 0 0) := fun n => (LC.out n).1.2.1
    have zC0 : ∀ n : Wd C, n.w.frozen? ⟨w.heap.size, 0, none⟩ = false := fun n => (LC.out n).1.2.2
    have fC1 : ∀ n : Wd C, n.w.cell? ⟨w.heap.size, 1, none⟩ = some (.int .i64 0) := fun n => (LC.out n).2.1.2.1
    have zC1 : ∀ n : Wd C, n.w.frozen? ⟨w.heap.size, 1, none⟩ = false := fun n => (LC.out n).2.1.2.2
    clear S0 hC0
    have D0 := cinL HC BC C0
    clear C0
    have g0 : ∀ n : Wd C, n.w.cell? ⟨b, o, none⟩ = some (.int .i64 (pt l 0).x) := fun n => by have := (HCL.out n.w (BC.out n) 0 h1).1; simpa using this
    have g1 : ∀ n : Wd C, n.w.cell? ⟨b, o + 1, none⟩ = some (.int .i64 (pt l 0).y) := fun n => by have := (HCL.out n.w (BC.out n) 0 h1).2; simpa using this
    have hl0 : (0 : Nat) < l.length := h1
    go_upto_region 5 with (first | (go_at_call 92; with_reducible refine (D0 _).out.mono ?_; rintro e w' ⟨rfl, n, rfl⟩))
    obtain ⟨W0, hW0⟩ : ∃ W0, (n.w).alloc (.cells #[.int .i64 (pt l 0).x, .int .i64 (pt l 0).y] 23) = W0 := ⟨_, rfl⟩
    have S0 : St w W0 [(n.w.heap.size, 0, .int .i64 (pt l 0).x), (n.w.heap.size, 1, .int .i64 (pt l 0).y), (w.heap.size, 0, .slice none 0 0), (w.heap.size, 1, .int .i64 0)] := by rw [← hW0]; exact ((⟨BC.out n, LC.out n⟩ : St w n.w _)).box #[.int .i64 (pt l 0).x, .int .i64 (pt l 0).y] 23 (n.w.heap.size) (by simp)
    rw [hW0]
    clear hW0
    obtain ⟨kF, hkk⟩ : ∃ k, n.w.heap.size = k := ⟨_, rfl⟩
    have gkF : w.heap.size ≤ kF := by rw [← hkk]; exact (BC.out n).size
    rw [hkk] at S0 ⊢
    have eF1 : kF ≠ w.heap.size := by have h := (LC.out n).1.1; omega
    have dF1 : w.heap.size ≠ kF := Ne.symm eF1
    clear hkk
    obtain ⟨F, hC0, HF, LF, BF, hne⟩ := cls S0
    haveI := hne
    obtain ⟨f0, rfl⟩ : ∃ n : Wd F, W0 = n.w := ⟨⟨_, hC0⟩, rfl⟩
    have fF0 : ∀ n : Wd F, n.w.cell? ⟨kF, 0, none⟩ = some (.int .i64 (pt l 0).x) := fun n => (LF.out n).1.2.1
    have zF0 : ∀ n : Wd F, n.w.frozen? ⟨kF, 0, none⟩ = false := fun n => (LF.out n).1.2.2
    have fF1 : ∀ n : Wd F, n.w.cell? ⟨kF, 1, none⟩ = some (.int .i64 (pt l 0).y) := fun n => (LF.out n).2.1.2.1
    have zF1 : ∀ n : Wd F, n.w.frozen? ⟨kF, 1, none⟩ = false := fun n => (LF.out n).2.1.2.2
    have fF2 : ∀ n : Wd F, n.w.cell? ⟨w.heap.size, 0, none⟩ = some (.slice none 0 0) := fun n => (LF.out n).2.2.1.2.1
    have zF2 : ∀ n : Wd F, n.w.frozen? ⟨w.heap.size, 0, none⟩ = false := fun n => (LF.out n).2.2.1.2.2
    have fF3 : ∀ n : Wd F, n.w.cell? ⟨w.heap.size, 1, none⟩ = some (.int .i64 0) := fun n => (LF.out n).2.2.2.1.2.1
    have zF3 : ∀ n : Wd F, n.w.frozen? ⟨w.heap.size, 1, none⟩ = false := fun n => (LF.out n).2.2.2.1.2.2
    clear S0 hC0
    clear D0 g0 g1
    have hS0 : Hid (St w f0.w ((kF, 0, .int .i64 (mnK l 0).x) :: (kF, 1, .int .i64 (mnK l 0).y) :: [(w.heap.size, 0, .slice none 0 0), (w.heap.size, 1, .int .i64 0)])) := ⟨BF.out f0, LF.out f0⟩
    have hL := Lib.hid (show ∀ x ∈ ([(w.heap.size, 0, .slice none 0 0), (w.heap.size, 1, .int .i64 0)] : List (Nat × Nat × Value)), x.1 ≠ kF from by simp only [List.forall_mem_cons, List.not_mem_nil, false_implies, implies_true, and_true]; have h := (LF.out f0).2.2.1.1; have h2 := eF1; omega)
    have hgk := Lib.hid gkF
    have hne : Hid (w.heap.size < kF) := by have h2 := eF1; unfold Hid; omega
    go_wp2_with fail
    go_loopg [5] l.length (fun gh i wr => ∃ k : Nat, i = .int .i64 ((k : Int) + 1) ∧ k + 1 ≤ l.length ∧ l.length - (k + 1) ≤ gh ∧ Hid (St w wr ((kF, 0, .int .i64 (mnK l k).x) :: (kF, 1, .int .i64 (mnK l k).y) :: [(w.heap.size, 0, .slice none 0 0), (w.heap.size, 1, .int .i64 0)])))
    case atStart => exact ⟨0, by simp, by omega, by omega, hS0⟩
    case round =>
      obtain ⟨k, rfl, hk, hgg, hS⟩ := hrel
      clear hS0
      by_cases hlt : k + 1 < l.length
      · have hS := hS.out
        have HMN : Hid (mnK l (k + 1) = if (pt l (k + 1)).x < (mnK l k).x ∨ ((pt l (k + 1)).x = (mnK l k).x ∧ (pt l (k + 1)).y < (mnK l k).y) then pt l (k + 1) else mnK l k) := rfl
        have HCP : Hid (∀ W, Below w.heap.size w W → W.cell? ⟨b, o + (k + 1) * 2, none⟩ = some (.int .i64 (pt l (k + 1)).x) ∧ W.cell? ⟨b, o + (k + 1) * 2 + 1, none⟩ = some (.int .i64 (pt l (k + 1)).y)) := fun W hb => HCL.out W hb (k + 1) hlt
        obtain ⟨p, hp⟩ : ∃ p, pt l (k + 1) = p := ⟨_, rfl⟩
        obtain ⟨m, hm⟩ : ∃ m, mnK l k = m := ⟨_, rfl⟩
        rw [hp, hm] at HMN
        rw [hp] at HCP
        rw [hm] at hS
        clear hp hm
        obtain ⟨J, hC0, HJ, LJ, BJ, hne⟩ := cls hS
        haveI := hne
        obtain ⟨j0, rfl⟩ : ∃ n : Wd J, wr = n.w := ⟨⟨_, hC0⟩, rfl⟩
        have fJ0 : ∀ n : Wd J, n.w.cell? ⟨kF, 0, none⟩ = some (.int .i64 m.x) := fun n => (LJ.out n).1.2.1
        have fJ1 : ∀ n : Wd J, n.w.cell? ⟨kF, 1, none⟩ = some (.int .i64 m.y) := fun n => (LJ.out n).2.1.2.1
        have fJ2 : ∀ n : Wd J, n.w.cell? ⟨w.heap.size, 0, none⟩ = some (.slice none 0 0) := fun n => (LJ.out n).2.2.1.2.1
        have zJ2 : ∀ n : Wd J, n.w.frozen? ⟨w.heap.size, 0, none⟩ = false := fun n => (LJ.out n).2.2.1.2.2
        have fJ3 : ∀ n : Wd J, n.w.cell? ⟨w.heap.size, 1, none⟩ = some (.int .i64 0) := fun n => (LJ.out n).2.2.2.1.2.1
        have zJ3 : ∀ n : Wd J, n.w.frozen? ⟨w.heap.size, 1, none⟩ = false := fun n => (LJ.out n).2.2.2.1.2.2
        clear hS hC0
        have z0 : ∀ n : Wd J, n.w.frozen? ⟨kF, 0, none⟩ = false := fun n => (LJ.out n).1.2.2
        have z1 : ∀ n : Wd J, n.w.frozen? ⟨kF, 1, none⟩ = false := fun n => (LJ.out n).2.1.2.2
        have g0 : ∀ n : Wd J, n.w.cell? ⟨b, o + (k + 1) * 2, none⟩ = some (.int .i64 p.x) := fun n => (HCP.out n.w (BJ.out n)).1
        have g1 : ∀ n : Wd J, n.w.cell? ⟨b, o + (k + 1) * 2 + 1, none⟩ = some (.int .i64 p.y) := fun n => (HCP.out n.w (BJ.out n)).2
        obtain ⟨y1, hy1⟩ : ∃ z, decide (p.x < m.x) = z := ⟨_, rfl⟩
        obtain ⟨y2, hy2⟩ : ∃ z, (p.x == m.x) = z := ⟨_, rfl⟩
        obtain ⟨y3, hy3⟩ : ∃ z, decide (p.y < m.y) = z := ⟨_, rfl⟩
        have HM2 : Hid (mnK l (k + 1) = if (y1 || (y2 && y3)) = true then p else m) := by
          unfold Hid
          rw [HMN.out, ← hy1, ← hy2, ← hy3]
          simp only [Bool.or_eq_true, Bool.and_eq_true, decide_eq_true_eq, beq_iff_eq]
        have hw1 : ((k : Int) + 1).toNat = k + 1 := by omega
        have hw2 : IntKind.i64.wrap ((k : Int) + 1 + 1) = (k : Int) + 1 + 1 := (wrapEq _).trans (w64 (by omega))
        clear HMN
        go_wp2_with fail
        cases y1 <;> cases y2 <;> cases y3
        all_goals
          refine wp_region_in J (HJ.out _ _ (Wd.h _) (below_dr _)) (by kernel_rfl) (by kernel_rfl) ?_
          repeat (go_big_quiet_step (first | fail))
          refine wpQuiet_nil ?_
          intro wx hwx
          obtain ⟨n2, rfl⟩ : ∃ n : Wd J, wx = n.w := ⟨⟨wx, hwx⟩, rfl⟩
          clear hwx
          go_wp2_with fail
          go_roundg (l.length - (k + 1 + 1))
          case measure => omega
          case rel =>
            refine ⟨k + 1, by simp, by omega, Nat.le_refl _, ?_⟩
            unfold Hid
            rw [HM2.out]
            first
            | exact ⟨BJ.out n2, LJ.out n2⟩
            | exact St.set2 ⟨BJ.out n2, LJ.out n2⟩ hgk.out hL.out _ _
      · have hk1 : k + 1 = l.length := by omega
        obtain rfl : k = l.length - 1 := by omega
        have hS := hS.out
        have HNN := HN
        obtain ⟨m, hm⟩ : ∃ m, mnK l (l.length - 1) = m := ⟨_, rfl⟩
        rw [hm] at hS HNN
        clear hm HN
        obtain ⟨J, hC0, HJ, LJ, BJ, hne⟩ := cls hS
        haveI := hne
        obtain ⟨j0, rfl⟩ : ∃ n : Wd J, wr = n.w := ⟨⟨_, hC0⟩, rfl⟩
        have fJ0 : ∀ n : Wd J, n.w.cell? ⟨kF, 0, none⟩ = some (.int .i64 m.x) := fun n => (LJ.out n).1.2.1
        have fJ1 : ∀ n : Wd J, n.w.cell? ⟨kF, 1, none⟩ = some (.int .i64 m.y) := fun n => (LJ.out n).2.1.2.1
        have fJ2 : ∀ n : Wd J, n.w.cell? ⟨w.heap.size, 0, none⟩ = some (.slice none 0 0) := fun n => (LJ.out n).2.2.1.2.1
        have zJ2 : ∀ n : Wd J, n.w.frozen? ⟨w.heap.size, 0, none⟩ = false := fun n => (LJ.out n).2.2.1.2.2
        have fJ3 : ∀ n : Wd J, n.w.cell? ⟨w.heap.size, 1, none⟩ = some (.int .i64 0) := fun n => (LJ.out n).2.2.2.1.2.1
        have zJ3 : ∀ n : Wd J, n.w.frozen? ⟨w.heap.size, 1, none⟩ = false := fun n => (LJ.out n).2.2.2.1.2.2
        clear hS hC0
        have hln : ((l.length - 1 : Nat) : Int) + 1 = (l.length : Int) := by omega
        go_wp2_with fail
        clear hln hk1
        obtain ⟨kO, hkO⟩ : ∃ k, j0.w.heap.size = k := ⟨_, rfl⟩
        have hLO : ∀ x ∈ ([(kF, 0, .int .i64 m.x), (kF, 1, .int .i64 m.y), (w.heap.size, 0, .slice none 0 0), (w.heap.size, 1, .int .i64 0)] : List (Nat × Nat × Value)), x.1 < kO := by
          have h1 := (LJ.out j0).1.1
          have h2 := (LJ.out j0).2.2.1.1
          rw [hkO] at h1 h2
          simp only [List.forall_mem_cons, List.not_mem_nil, false_implies, implies_true, and_true]
          omega
        have hwO : w.heap.size ≤ kO := by rw [← hkO]; exact (BJ.out j0).size
        have hP0 : Hid (PO w kO [(kF, 0, .int .i64 m.x), (kF, 1, .int .i64 m.y), (w.heap.size, 0, .slice none 0 0), (w.heap.size, 1, .int .i64 0)] (.slice (some ⟨kO, 0, none⟩) 1 1) [m] (j0.w.alloc (.cells #[.int .i64 m.x, .int .i64 m.y] 23))) := by
          refine ⟨St.al ⟨BJ.out j0, LJ.out j0⟩ _, hLO, hwO, by rw [← hkO]; simp, rfl, .inr ⟨kO, 1, #[.int .i64 m.x, .int .i64 m.y], rfl, Nat.le_refl _, ?_, Nat.le_refl _, by decide, rfl, rfl⟩⟩
          rw [← hkO]
          exact heap_alloc_new _ _
        have HLO := Lib.hid hLO
        have hm0 : h[0]? = some m := HNN.out.1
        have hq0 : [m] = h.take 1 := by
          cases h with
          | nil => simp at hm0
          | cons x r => obtain rfl : x = m := by simpa using hm0
                        rfl
        have HQ0 := Lib.hid hq0
        rw [hkO]
        have HWO := Lib.hid hwO
        clear hLO hm0 hq0 hkO hwO HC LC BC HF LF BF LJ BJ HJ hL
        go_loopg [6] h.length (fun gh s6 wr => ∃ (k g c : Nat), s6 = .slice (some ⟨g, 0, none⟩) (k + 1) c ∧ k + 1 ≤ h.length ∧ h.length - k ≤ gh ∧ k + 1 ≤ c ∧ c ≤ maxLen ∧ Hid (PO w kO [(kF, 0, .int .i64 m.x), (kF, 1, .int .i64 m.y), (w.heap.size, 0, .slice none 0 0), (w.heap.size, 1, .int .i64 0)] (.slice (some ⟨g, 0, none⟩) (k + 1) c) (h.take (k + 1)) wr))
        case atStart => exact ⟨0, kO, 1, rfl, by omega, by omega, by omega, by decide, by unfold Hid; rw [← HQ0.out]; exact hP0.out⟩
        case round =>
          obtain ⟨k, g, c, rfl, hkh, hgk2, hkc, hcm, hPO⟩ := hrel
          obtain ⟨u1, rfl⟩ : ∃ u, u = wr := ⟨_, rfl⟩
          unfold maxLen at hcm
          obtain ⟨v0, hv0⟩ : ∃ p, h[k]? = some p := ⟨_, List.getElem?_eq_getElem (by omega)⟩
          have htk : (h.take (k + 1))[k]? = some v0 := by rw [List.getElem?_take_of_lt (by omega)]; exact hv0
          have hlk : (h.take (k + 1)).length = k + 1 := by rw [List.length_take]; omega
          obtain ⟨s, hs⟩ : ∃ s, h.take (k + 1) = s := ⟨_, rfl⟩
          have HS := Lib.hid hs
          rw [hs] at htk hlk hPO
          have P1 : Hid (PO w kO [(kF, 0, .int .i64 m.x), (kF, 1, .int .i64 m.y), (w.heap.size, 0, .slice none 0 0), (w.heap.size, 1, .int .i64 0)] (.slice (some ⟨g, 0, none⟩) s.length c) s u1) := by unfold Hid; rw [hlk]; exact hPO.out
          obtain ⟨okv, oknx, hlt', hend⟩ := HNN.out.2 k v0 hv0
          have HK := Lib.hid (And.intro okv (And.intro oknx (And.intro hlt' hend)))
          obtain ⟨⟨c1, _⟩, c2, _⟩ := P1.out.cells k v0 htk
          have HHK := Lib.hid hlk
          have hgB : Hid (kO ≤ g ∧ g < u1.heap.size) := by
            obtain ⟨cur, hc, _, _, hg, _, _⟩ := P1.out.block (by omega)
            exact ⟨hg, (Array.getElem?_eq_some_iff.1 hc).1⟩
          have hw5 : IntKind.i64.wrap ((k : Int) + 1 - 1) = (k : Int) := (wrapEq _).trans ((w64 (by omega)).trans (by omega))
          clear hs
          have hlen1 : ((k + 1 : Nat) : Int) ≤ (l.length : Int) := by omega
          have hlen2 : ¬ (l.length : Int) < ((k : Int) + 1) := by omega
          clear hv0 htk okv oknx hlt' hend hlk hPO
          go_wp2_with fail
          obtain ⟨W0, hW0⟩ : ∃ W0, ((u1).alloc (.cells #[.int .i64 v0.x, .int .i64 v0.y] 23)).alloc (.cells #[.int .i64 v0.x, .int .i64 v0.y] 23) = W0 := ⟨_, rfl⟩
          have S0 : St u1 W0 [(u1.heap.size + 1, 0, .int .i64 v0.x), (u1.heap.size + 1, 1, .int .i64 v0.y), (u1.heap.size, 0, .int .i64 v0.x), (u1.heap.size, 1, .int .i64 v0.y)] := by rw [← hW0]; exact (((St.nil u1)).box #[.int .i64 v0.x, .int .i64 v0.y] 23 (u1.heap.size) (by simp)).box #[.int .i64 v0.x, .int .i64 v0.y] 23 (u1.heap.size + 1) (by simp)
          rw [hW0]
          clear hW0
          obtain ⟨A, hC0, HA, LA, BA, hne⟩ := cls S0
          haveI := hne
          obtain ⟨a0, rfl⟩ : ∃ n : Wd A, W0 = n.w := ⟨⟨_, hC0⟩, rfl⟩
          have fA0 : ∀ n : Wd A, n.w.cell? ⟨u1.heap.size + 1, 0, none⟩ = some (.int .i64 v0.x) := fun n => (LA.out n).1.2.1
          have zA0 : ∀ n : Wd A, n.w.frozen? ⟨u1.heap.size + 1, 0, none⟩ = false := fun n => (LA.out n).1.2.2
          have fA1 : ∀ n : Wd A, n.w.cell? ⟨u1.heap.size + 1, 1, none⟩ = some (.int .i64 v0.y) := fun n => (LA.out n).2.1.2.1
          have zA1 : ∀ n : Wd A, n.w.frozen? ⟨u1.heap.size + 1, 1, none⟩ = false := fun n => (LA.out n).2.1.2.2
          have fA2 : ∀ n : Wd A, n.w.cell? ⟨u1.heap.size, 0, none⟩ = some (.int .i64 v0.x) := fun n => (LA.out n).2.2.1.2.1
          have zA2 : ∀ n : Wd A, n.w.frozen? ⟨u1.heap.size, 0, none⟩ = false := fun n => (LA.out n).2.2.1.2.2
          have fA3 : ∀ n : Wd A, n.w.cell? ⟨u1.heap.size, 1, none⟩ = some (.int .i64 v0.y) := fun n => (LA.out n).2.2.2.1.2.1
          have zA3 : ∀ n : Wd A, n.w.frozen? ⟨u1.heap.size, 1, none⟩ = false := fun n => (LA.out n).2.2.2.1.2.2
          clear S0 hC0
          go_loopg [9] l.length (fun gh i wr => ∃ j : Nat, i = .int .i64 (j : Int) ∧ j ≤ l.length ∧ l.length - j ≤ gh ∧ Hid (St u1 wr ((u1.heap.size + 1, 0, .int .i64 (nxK v0 l j).x) :: (u1.heap.size + 1, 1, .int .i64 (nxK v0 l j).y) :: (u1.heap.size, 0, .int .i64 v0.x) :: (u1.heap.size, 1, .int .i64 v0.y) :: [])))
          case atStart => exact ⟨0, rfl, by omega, by omega, ⟨BA.out a0, LA.out a0⟩⟩
          case round =>
            obtain ⟨j, rfl, hj, hg3, hS⟩ := hrel
            by_cases hlj : j < l.length
            · have hS := hS.out
              have HNX : Hid (nxK v0 l (j + 1) = if pt l j = v0 then nxK v0 l j else if nxK v0 l j = v0 ∨ ar v0 (nxK v0 l j) (pt l j) < 0 ∨ ar v0 (nxK v0 l j) (pt l j) = 0 ∧ dq v0 (nxK v0 l j) < dq v0 (pt l j) then pt l j else nxK v0 l j) := rfl
              have HCP : Hid (∀ W, Below w.heap.size w W → W.cell? ⟨b, o + j * 2, none⟩ = some (.int .i64 (pt l j).x) ∧ W.cell? ⟨b, o + j * 2 + 1, none⟩ = some (.int .i64 (pt l j).y)) := fun W hb => HCL.out W hb j hlj
              have okc := HK.out.2.1 j (by omega)
              have okp := HOK.out j hlj
              obtain ⟨p, hp⟩ : ∃ p, pt l j = p := ⟨_, rfl⟩
              obtain ⟨cN, hc⟩ : ∃ p, nxK v0 l j = p := ⟨_, rfl⟩
              rw [hp, hc] at HNX
              rw [hp] at HCP okp
              rw [hc] at okc hS
              have T1 := fun W => twice_any v0 cN p W HK.out.1 okc okp
              have T2 := fun W => square_any v0 p W HK.out.1 okp
              have T3 := fun W => square_any v0 cN W HK.out.1 okc
              obtain ⟨t, ht⟩ : ∃ t, ar v0 cN p = t := ⟨_, rfl⟩
              obtain ⟨dP, hdP⟩ : ∃ t, dq v0 p = t := ⟨_, rfl⟩
              obtain ⟨dN, hdN⟩ : ∃ t, dq v0 cN = t := ⟨_, rfl⟩
              rw [ht, hdP, hdN] at HNX
              simp only [ht] at T1
              simp only [hdP] at T2
              simp only [hdN] at T3
              clear hp hc ht hdP hdN okc okp
              obtain ⟨T, hC0, HT, LT, BT, hne⟩ := cls hS
              haveI := hne
              obtain ⟨t0, rfl⟩ : ∃ n : Wd T, wr = n.w := ⟨⟨_, hC0⟩, rfl⟩
              have fT0 : ∀ n : Wd T, n.w.cell? ⟨u1.heap.size+1, 0, none⟩ = some (.int .i64 cN.x) := fun n => (LT.out n).1.2.1
              have fT1 : ∀ n : Wd T, n.w.cell? ⟨u1.heap.size+1, 1, none⟩ = some (.int .i64 cN.y) := fun n => (LT.out n).2.1.2.1
              have fT2 : ∀ n : Wd T, n.w.cell? ⟨u1.heap.size, 0, none⟩ = some (.int .i64 v0.x) := fun n => (LT.out n).2.2.1.2.1
              have fT3 : ∀ n : Wd T, n.w.cell? ⟨u1.heap.size, 1, none⟩ = some (.int .i64 v0.y) := fun n => (LT.out n).2.2.2.1.2.1
              clear hS hC0
              have z0 : ∀ n : Wd T, n.w.frozen? ⟨u1.heap.size + 1, 0, none⟩ = false := fun n => (LT.out n).1.2.2
              have z1 : ∀ n : Wd T, n.w.frozen? ⟨u1.heap.size + 1, 1, none⟩ = false := fun n => (LT.out n).2.1.2.2
              have BW : Hid (∀ n : Wd T, Below w.heap.size w n.w) := fun n => P1.out.st.b.trans ((BT.out n).mono P1.out.st.b.size)
              have g0 : ∀ n : Wd T, n.w.cell? ⟨b, o + j * 2, none⟩ = some (.int .i64 p.x) := fun n => (HCP.out n.w (BW.out n)).1
              have g1 : ∀ n : Wd T, n.w.cell? ⟨b, o + j * 2 + 1, none⟩ = some (.int .i64 p.y) := fun n => (HCP.out n.w (BW.out n)).2
              have D1 := cin HT T1
              have D2 := cin HT T2
              have D3 := cin HT T3
              have ke := fun W => eqP_run p v0 W
              have ke2 := fun W => eqP_run cN v0 W
              obtain ⟨e0, he0⟩ : ∃ z, ptE p v0 = z := ⟨_, rfl⟩
              obtain ⟨e1, he1⟩ : ∃ z, ptE cN v0 = z := ⟨_, rfl⟩
              obtain ⟨e2, he2⟩ : ∃ z, decide (t < 0) = z := ⟨_, rfl⟩
              obtain ⟨e3, he3⟩ : ∃ z, (t == 0) = z := ⟨_, rfl⟩
              obtain ⟨e4, he4⟩ : ∃ z, decide (dN < dP) = z := ⟨_, rfl⟩
              rw [he0] at ke
              rw [he1] at ke2
              have HM2 : Hid (nxK v0 l (j + 1) = if e0 = true then cN else if (e1 || (e2 || (e3 && e4))) = true then p else cN) := by
                unfold Hid
                rw [HNX.out, ← he0, ← he1, ← he2, ← he3, ← he4]
                simp only [ptE, Bool.or_eq_true, Bool.and_eq_true, decide_eq_true_eq, beq_iff_eq]
              have hw6 : IntKind.i64.wrap ((j : Int) + 1) = (j : Int) + 1 := (wrapEq _).trans (w64 (by omega))
              clear HNX he0 he1 T1 T2 T3 fA0 fA1 fA2 fA3
              cases e0
              · go_wp2_with fail
                refine wp_region_in T (HT.out _ _ (Wd.h _) (below_dr _)) (by kernel_rfl) (by kernel_rfl) ?_
                repeat (go_big_quiet_step (first | fail))
                refine wpQuiet_nil ?_
                intro wx hwx
                obtain ⟨n2, rfl⟩ : ∃ n : Wd T, wx = n.w := ⟨⟨wx, hwx⟩, rfl⟩
                clear hwx
                clear ke
                go_wp2_with fail
                refine wp_region_in T (HT.out _ _ (Wd.h _) (below_dr _)) (by kernel_rfl) (by kernel_rfl) ?_
                repeat (go_big_quiet_step (first | with_reducible exact (D1 _).out))
                refine wpQuiet_nil ?_
                intro wx hwx
                obtain ⟨n3, rfl⟩ : ∃ n : Wd T, wx = n.w := ⟨⟨wx, hwx⟩, rfl⟩
                clear hwx
                clear D1
                go_wp2_with fail
                cases e1 <;> cases e2 <;> cases e3 <;> cases e4
                all_goals
                  refine wp_region_in T (HT.out _ _ (Wd.h _) (below_dr _)) (by kernel_rfl) (by kernel_rfl) ?_
                  repeat (go_big_quiet_step (first | with_reducible exact (D2 _).out | with_reducible exact (D3 _).out))
                  refine wpQuiet_nil ?_
                  intro wx hwx
                  obtain ⟨n4, rfl⟩ : ∃ n : Wd T, wx = n.w := ⟨⟨wx, hwx⟩, rfl⟩
                  clear hwx
                  go_wp2_with fail
                  go_roundg (l.length - (j + 1))
                  case measure => omega
                  case rel =>
                    refine ⟨j + 1, by simp, by omega, Nat.le_refl _, ?_⟩
                    unfold Hid
                    rw [HM2.out]
                    first
                    | exact ⟨BT.out n4, LT.out n4⟩
                    | exact St.set2 ⟨BT.out n4, LT.out n4⟩ (by omega) (by simp) _ _
              · go_wp2_with fail
                refine wp_region_in T (HT.out _ _ (Wd.h _) (below_dr _)) (by kernel_rfl) (by kernel_rfl) ?_
                repeat (go_big_quiet_step (first | fail))
                refine wpQuiet_nil ?_
                intro wx hwx
                obtain ⟨n2, rfl⟩ : ∃ n : Wd T, wx = n.w := ⟨⟨wx, hwx⟩, rfl⟩
                clear hwx
                go_wp2_with fail
                go_roundg (l.length - (j + 1))
                case measure => omega
                case rel =>
                  refine ⟨j + 1, by simp, by omega, Nat.le_refl _, ?_⟩
                  unfold Hid
                  rw [HM2.out]
                  exact ⟨BT.out n2, LT.out n2⟩
            · obtain rfl : j = l.length := by omega
              have hS := hS.out
              have HKK : Hid (okP (nxK v0 l l.length) = true ∧ (k + 1 < h.length → h[k + 1]? = some (nxK v0 l l.length) ∧ nxK v0 l l.length ≠ v0 ∧ nxK v0 l l.length ≠ m) ∧ (k + 1 = h.length → nxK v0 l l.length = m)) := ⟨HK.out.2.1 _ (Nat.le_refl _), HK.out.2.2.1, HK.out.2.2.2⟩
              obtain ⟨nx, hnx⟩ : ∃ p, nxK v0 l l.length = p := ⟨_, rfl⟩
              rw [hnx] at HKK hS
              clear hnx
              obtain ⟨U, hC0, HU, LU, BU, hne⟩ := cls hS
              haveI := hne
              obtain ⟨u0, rfl⟩ : ∃ n : Wd U, wr = n.w := ⟨⟨_, hC0⟩, rfl⟩
              have fU0 : ∀ n : Wd U, n.w.cell? ⟨u1.heap.size+1, 0, none⟩ = some (.int .i64 nx.x) := fun n => (LU.out n).1.2.1
              have fU1 : ∀ n : Wd U, n.w.cell? ⟨u1.heap.size+1, 1, none⟩ = some (.int .i64 nx.y) := fun n => (LU.out n).2.1.2.1
              have fU2 : ∀ n : Wd U, n.w.cell? ⟨u1.heap.size, 0, none⟩ = some (.int .i64 v0.x) := fun n => (LU.out n).2.2.1.2.1
              have fU3 : ∀ n : Wd U, n.w.cell? ⟨u1.heap.size, 1, none⟩ = some (.int .i64 v0.y) := fun n => (LU.out n).2.2.2.1.2.1
              clear hS hC0
              obtain ⟨⟨q1, q2, _⟩, ⟨_, q3, _⟩, ⟨q4, q5, q6⟩, ⟨_, q7, q8⟩, _⟩ := P1.out.st.c
              have m0 : ∀ n : Wd U, n.w.cell? ⟨kF, 0, none⟩ = some (.int .i64 m.x) := fun n => ((BU.out n).cell (p := ⟨kF, 0, none⟩) q1).trans q2
              have m1 : ∀ n : Wd U, n.w.cell? ⟨kF, 1, none⟩ = some (.int .i64 m.y) := fun n => ((BU.out n).cell (p := ⟨kF, 1, none⟩) q1).trans q3
              have r0 : ∀ n : Wd U, n.w.cell? ⟨w.heap.size, 0, none⟩ = some (.slice none 0 0) := fun n => ((BU.out n).cell (p := ⟨w.heap.size, 0, none⟩) q4).trans q5
              have r1 : ∀ n : Wd U, n.w.cell? ⟨w.heap.size, 1, none⟩ = some (.int .i64 0) := fun n => ((BU.out n).cell (p := ⟨w.heap.size, 1, none⟩) q4).trans q7
              have y0 : ∀ n : Wd U, n.w.frozen? ⟨w.heap.size, 0, none⟩ = false := fun n => ((BU.out n).frozen (p := ⟨w.heap.size, 0, none⟩) q4).trans q6
              have y1 : ∀ n : Wd U, n.w.frozen? ⟨w.heap.size, 1, none⟩ = false := fun n => ((BU.out n).frozen (p := ⟨w.heap.size, 1, none⟩) q4).trans q8
              have ke3 := fun W => eqP_run nx m W
              have ke4 := fun W => eqP_run nx v0 W
              have PU : ∀ n : Wd U, Hid (PO w kO [(kF, 0, .int .i64 m.x), (kF, 1, .int .i64 m.y), (w.heap.size, 0, .slice none 0 0), (w.heap.size, 1, .int .i64 0)] (.slice (some ⟨g, 0, none⟩) (k + 1) c) s n.w) := fun n => by
                have := P1.out.next (BU.out n)
                rw [HHK.out] at this
                exact this
              clear q1 q2 q3 q4 q5 q6 q7 q8 fA0 fA1 fA2 fA3 c1 c2
              by_cases hlast : k + 1 = h.length
              · obtain rfl : nx = m := HKK.out.2.2 hlast
                have hz : ptE nx nx = true := by simp [ptE]
                rw [hz] at ke3
                have hss : Hid (s = h) := by unfold Hid; rw [← HS.out, hlast]; exact List.take_of_length_le (Nat.le_refl _)
                have HLAST := Lib.hid hlast
                clear hz ke4 hlast
                go_wp2_with fail
                refine bodyPost_ret (v := .agg #[.slice (some ⟨g, 0, none⟩) (k + 1) c, .int .i64 0]) (by simp [results, Try.results40, go_sem, r0, r1]) rfl ⟨some ⟨g, 0, none⟩, c, by rw [HLAST.out], ?_, ?_⟩
                · have hpt := (PU u0).out.pts
                  obtain ⟨a, c', e, hq⟩ := hpt
                  injection e with e1
                  rw [← e1, hss.out] at hq
                  rcases hq with hq | ⟨b', o', e, hlt', hq⟩
                  · exact .inl hq
                  · injection e with e
                    injection e with e1 e2
                    subst e1 e2
                    refine .inr ⟨g, 0, rfl, by simpa using hlt', fun j x hj => ?_⟩
                    obtain ⟨h1, h2⟩ := hq j x hj
                    have hgw : g ≠ w.heap.size := by have := hgB.out.1; have := HLO.out (w.heap.size, 0, .slice none 0 0) (by simp); simp only at this; omega
                    rw [cell_other _ _ _ _ _ _ (.inl hgw), cell_other _ _ _ _ _ _ (.inl hgw), cell_other _ _ _ _ _ _ (.inl hgw), cell_other _ _ _ _ _ _ (.inl hgw)]
                    exact ⟨h1, h2⟩
                · exact below_set (below_set (P1.out.st.b.trans ((BU.out _).mono P1.out.st.b.size)) _ _ _ (by omega)) _ _ _ (by omega)
              · obtain ⟨hh1, hh2, hh3⟩ := HKK.out.2.1 (by omega)
                have hz3 : ptE nx m = false := by unfold ptE; exact decide_eq_false hh3
                have hz4 : ptE nx v0 = false := by unfold ptE; exact decide_eq_false hh2
                rw [hz3] at ke3
                rw [hz4] at ke4
                have HNX2 : Hid (h.take (k + 1 + 1) = s ++ [nx]) := by
                  unfold Hid
                  rw [List.take_add_one, HS.out, hh1]
                  rfl
                have hsl : Hid (s.length ≤ 1000000) := by unfold Hid; rw [HHK.out]; omega
                clear hz3 hz4 hh1 hh2 hh3
                go_wp2_with (at_builtin; refine app1 (PU _).out nx hsl.out rfl _ _ rfl rfl rfl ?_; intro v' w' hPO')
                obtain ⟨g', c', rfl, _, hc1, hc2⟩ := hPO'.shape (by simp)
                have hl2 : (s ++ [nx]).length = k + 1 + 1 := by rw [List.length_append, HHK.out]; rfl
                rw [hl2] at hPO' hc1
                go_roundg (h.length - (k + 1))
                case measure => omega
                case rel => exact ⟨k + 1, g', c', by rw [hl2], by omega, Nat.le_refl _, hc1, hc2, by unfold Hid; rw [HNX2.out]; exact hPO'⟩
  · have hck' := hck
    obtain ⟨c, hc⟩ : ∃ c, ck 1 l = c := ⟨_, rfl⟩
    simp only [hc] at C0 hck ⊢
    rw [if_neg hck]
    have he' : (c == 0) = false := by simpa using hck
    have he2 : (c != 0) = true := by simpa using hck
    clear hc hp hck'
    go_enter Try.func40, Try.ntmps40
    go_wp2_with fail
    obtain ⟨W0, hW0⟩ : ∃ W0, (w).alloc (.cells #[.slice none 0 0, .int .i64 0] 47) = W0 := ⟨_, rfl⟩
    have S0 : St w W0 [(w.heap.size, 0, .slice none 0 0), (w.heap.size, 1, .int .i64 0)] := by rw [← hW0]; exact ((St.nil w)).box #[.slice none 0 0, .int .i64 0] 47 (w.heap.size) (by simp)
    rw [hW0]
    clear hW0
    obtain ⟨C, hC0, HC, LC, BC, hne⟩ := cls S0
    haveI := hne
    obtain ⟨c0, rfl⟩ : ∃ n : Wd C, W0 = n.w := ⟨⟨_, hC0⟩, rfl⟩
    have fC0 : ∀ n : Wd C, n.w.cell? ⟨w.heap.size, 0, none⟩ = some (.slice none 0 0) := fun n => (LC.out n).1.2.1
    have zC0 : ∀ n : Wd C, n.w.frozen? ⟨w.heap.size, 0, none⟩ = false := fun n => (LC.out n).1.2.2
    have fC1 : ∀ n : Wd C, n.w.cell? ⟨w.heap.size, 1, none⟩ = some (.int .i64 0) := fun n => (LC.out n).2.1.2.1
    have zC1 : ∀ n : Wd C, n.w.frozen? ⟨w.heap.size, 1, none⟩ = false := fun n => (LC.out n).2.1.2.2
    clear S0 hC0
    have D0 := cinL HC BC C0
    clear C0
    go_wp2_with (first | (go_at_call 92; with_reducible refine (D0 _).out.mono ?_; rintro e w' ⟨rfl, n, rfl⟩))
    refine bodyPost_ret (v := .agg #[.slice none 0 0, .int .i64 c]) (by simp [results, Try.results40, go_sem, fC0, fC1]) rfl ⟨none, 0, rfl, Or.inl rfl, ?_⟩
    exact below_set (below_set (BC.out _) _ _ _ (by omega)) _ _ _ (by omega)
end Go.Proofs.Ytdefpcjlbganpaa
namespace Go.Proofs.Ytdefpcjlbganpaa
open Go.RowKit Go.Shelf Go.BigFrame Go.Sort
attribute [local go_sem] Oper.semAt_some
attribute [local go_sem] World.cell?_alloc_some
abbrev iv (x : Int) : Value := .int .i64 x
theorem Try.inf3' : (Try.prog.info? 3).map (fun i => (i.zero, i.size, i.bytes)) = some (some (.int .i64 0), 1, 8) := by kernel_rfl
theorem belowG {w W W' : World} {B n : Nat} {v : Value} {xs : List Value} (h : Below B w W) (hB : B ≤ w.heap.size) (ho : W.ownsRow B 3 1 v n xs) (hg : W.grownBy W' v.ownBlock) : Below B w W' := by
  refine h.trans ⟨hg.os, hg.tape, hg.output, hg.size, fun k hk => hg.block k (Nat.lt_of_lt_of_le (Nat.lt_of_lt_of_le hk hB) h.size) (fun e => ?_)⟩
  have := ownBlock_lo ho e.symm
  omega
set_option maxRecDepth 100000 in
/-- Numbers put behind those of a slice that the call alone holds; they may be none, of nil too. -/
theorem stepI {ops : Array Oper} {o : Oper} {a : Act} {W : World} {K : Act → World → Prop} {Q : Exit → Act → World → Prop} {E : Prop} (hgd : o.guard = none) (s x : Operand)
    (ho : o.op = .call { callee := .builtin .append, args := #[s, x], argTypes := #[49, 49] }) (B : Nat) (v : Value) (n : Nat) (xs : List Int) (hs : a.eval s = v) (hown : W.ownsRow B 3 1 v n (xs.map iv))
    (A : Option Addr) (m c : Nat) (news : List Int) (hx : a.eval x = .slice A m c) (hm : news.length = m) (hr : IntsAt W A news) (hle : n + m ≤ 1000000) (hB : B ≤ W.heap.size)
    (h : ∀ v' w', w'.ownsRow B 3 1 v' (n + m) ((xs ++ news).map iv) → W.grownBy w' v.ownBlock → K (a.put o.dst v') w') :
    if Region.wanted o (yielded ops a.tmps) = true then Oper.wp Try.prog o a W K Q else E := by
  have hw : Region.wanted o (yielded ops a.tmps) = true := by simp [Region.wanted, hgd]
  rw [if_pos hw]
  obtain ⟨i0, hi, hz0, hz1, hz2⟩ := info_parts Try.inf3'
  have h1 : ∀ u ∈ news.map iv, u.oneCell' = true := fun u hu => by
    obtain ⟨y, _, rfl⟩ := List.mem_map.1 hu
    rfl
  have hml : (news.map iv).length = m * 1 := by simp [hm]
  by_cases hA : A = none
  · have hnil : news = [] := by
      rcases hr with e | ⟨b, off, e, _⟩
      · exact e
      · rw [hA] at e; cases e
    subst hA hnil
    obtain rfl : m = 0 := by simpa using hm.symm
    have hrun : (Builtin.append_ #[49, 49] o.type #[v, .slice none 0 c]).run Try.prog W = .ok v W := by
      rcases hown.2 with ⟨rfl, rfl⟩ | ⟨g, cap, cur, rfl, _, _, hnc, _⟩
      · simp [Builtin.append_, run_underlying Try.underlying49, sizeOf, typeInfo, hi, Builtin.lenOf, Builtin.firstCells]
      · simp [Builtin.append_, run_underlying Try.underlying49, sizeOf, typeInfo, hi, Builtin.lenOf, Builtin.firstCells, hnc, storeCells]
    unfold Oper.wp execOp
    simp only [ho, resolve, invoke, builtin, Sem.run_bind, Sem.run_pure, Result.andThen_ok, List.map_toArray, List.map_cons, List.map_nil, hs, hx, hrun]
    exact h v W (by simpa using hown) (World.grownBy.refl W _)
  · obtain ⟨ad, hA⟩ : ∃ ad, A = some ad := by cases A with
      | none => exact absurd rfl hA
      | some ad => exact ⟨ad, rfl⟩
    subst hA
    have hcells : ∀ j u, (news.map iv)[j]? = some u → W.cell? (ad.add j) = some u := fun j u hu => by
      rw [List.getElem?_map] at hu
      obtain ⟨y, hy, rfl⟩ := Option.map_eq_some_iff.1 hu
      rcases hr with e | ⟨b, off, e, _, hc⟩
      · rw [e] at hy; simp at hy
      · injection e with e
        subst e
        have := hc j y hy
        unfold Addr.add
        split
        · rename_i h0; subst h0; simpa using this
        · exact this
    obtain ⟨v', w', hrun, h2, h3, _⟩ := run_append_own_at (P := Try.prog) W B 49 o.type 3 i0 (.int .i64 0) 1 8 Try.underlying49 hi hz0 hz1 hz2 rfl (by decide) v n (xs.map iv) hown ad m c (news.map iv) hml hcells h1 (by unfold maxLen; omega) (by omega) hB
    unfold Oper.wp execOp
    simp only [ho, resolve, invoke, builtin, Sem.run_bind, Sem.run_pure, Result.andThen_ok, List.map_toArray, List.map_cons, List.map_nil, hs, hx, hrun]
    exact h v' w' (by rw [List.map_append]; exact h2) h3
theorem own0 {W : World} {B b : Nat} (hb : W.heap[b]? = some (.cells #[] 3 (0, 0))) (hB : B ≤ b) : W.ownsRow B 3 1 (.slice (some ⟨b, 0, none⟩) 0 0) 0 (([] : List Int).map iv) :=
  ⟨rfl, .inr ⟨b, 0, #[], rfl, hB, hb, Nat.le_refl _, by decide, rfl, rfl⟩⟩
theorem ownI {W : World} {B n : Nat} {v : Value} {xs : List Int} (h : W.ownsRow B 3 1 v n (xs.map iv)) (h0 : 0 < n) : ∃ g c, v = .slice (some ⟨g, 0, none⟩) n c ∧ n ≤ c ∧ c ≤ maxLen ∧ B ≤ g ∧ IntsAt W (some ⟨g, 0, none⟩) xs := by
  obtain ⟨h1, ⟨_, h2⟩ | ⟨g, cap, cur, rfl, hg, hc, h3, h4, h5, h6⟩⟩ := h
  · omega
  · refine ⟨g, cap, rfl, h3, h4, hg, .inr ⟨g, 0, rfl, (Array.getElem?_eq_some_iff.1 hc).1, fun j x hj => ?_⟩⟩
    have hjl : j < xs.length := (List.getElem?_eq_some_iff.1 hj).1
    have hl : xs.length = n := by simpa using h1
    have e : (xs.map iv)[j]? = some (iv x) := by rw [List.getElem?_map, hj]; rfl
    rw [← h6, List.getElem?_take_of_lt (by omega)] at e
    have e2 : cur[j]? = some (.int .i64 x) := by simpa using e
    rw [Nat.zero_add]
    simpa [World.cell?, hc] using e2
theorem intsOne {W : World} {b : Nat} {x : Int} (h : Cs W [(b, 0, .int .i64 x)]) : IntsAt W (some ⟨b, 0, none⟩) [x] := by
  refine .inr ⟨b, 0, rfl, h.1.1, fun j y hj => ?_⟩
  match j, hj with
  | 0, hj =>
    obtain rfl : x = y := by simpa using hj
    exact h.1.2.1
theorem intsNew (W : World) (x : Int) : IntsAt (W.alloc (.cells #[.int .i64 x] 3)) (some ⟨W.heap.size, 0, none⟩) [x] :=
  .inr ⟨_, 0, rfl, by simp, fun j y hj => by
    match j, hj with
    | 0, hj =>
      obtain rfl : x = y := by simpa using hj
      exact new_at W _ 3 0 _ rfl⟩
theorem belA (u : World) (o : Obj) : Below u.heap.size u (u.drew.alloc o) := ((Below.refl _ _).drew).alloc (Nat.le_refl _) _
theorem belAA (u : World) (o o' : Obj) : Below u.heap.size u ((u.drew.alloc o).alloc o') := (belA u o).alloc (belA u o).size _
theorem newCs (W : World) (x : Int) : Cs (W.alloc (.cells #[.int .i64 x] 3)) [(W.heap.size, 0, .int .i64 x)] := ((St.nil W).box #[.int .i64 x] 3 _ rfl).c
theorem heap_lt (W : World) (o : Obj) (b : Nat) (h : b < W.heap.size) : (W.alloc o).heap[b]? = W.heap[b]? := by
  show (W.heap.push o)[b]? = _
  rw [Array.getElem?_push, if_neg (by omega)]
theorem sz1 (u : World) (o : Obj) : (u.drew.alloc o).heap.size = u.heap.size + 1 := by
  show (u.heap.push o).size = _
  simp
theorem own1 (u : World) : Hid ((u.drew.alloc (.cells #[] 3)).ownsRow u.heap.size 3 1 (.slice (some ⟨u.heap.size, 0, none⟩) 0 0) 0 (([] : List Int).map iv)) := own0 (heap_alloc_new u.drew _) (Nat.le_refl _)
theorem own2 (u : World) (x : Int) : Hid (((u.drew.alloc (.cells #[] 3)).alloc (.cells #[.int .i64 x] 3)).ownsRow u.heap.size 3 1 (.slice (some ⟨u.heap.size, 0, none⟩) 0 0) 0 (([] : List Int).map iv)) :=
  own0 ((heap_lt _ _ _ (by rw [sz1]; omega)).trans (heap_alloc_new u.drew _)) (Nat.le_refl _)
theorem own3 (u : World) (x : Int) : Hid (((u.drew.alloc (.cells #[.int .i64 x] 3)).alloc (.cells #[] 3)).ownsRow u.heap.size 3 1 (.slice (some ⟨u.heap.size + 1, 0, none⟩) 0 0) 0 (([] : List Int).map iv)) := by
  have h := heap_alloc_new (u.drew.alloc (.cells #[.int .i64 x] 3)) (.cells #[] 3)
  rw [sz1] at h
  exact own0 h (by omega)
theorem cs2 {u W' : World} {x : Int} (hg : ((u.drew.alloc (.cells #[] 3)).alloc (.cells #[.int .i64 x] 3)).grownBy W' (some u.heap.size)) : IntsAt W' (some ⟨u.heap.size + 1, 0, none⟩) [x] := by
  have h := newCs (u.drew.alloc (.cells #[] 3)) x
  rw [sz1] at h
  exact intsOne (h.grown hg (fun y hy e => by
    obtain rfl := List.mem_singleton.1 hy
    injection e with e
    simp only at e
    omega))
theorem cs3 {u W' : World} {x : Int} (hg : ((u.drew.alloc (.cells #[.int .i64 x] 3)).alloc (.cells #[] 3)).grownBy W' (some (u.heap.size + 1))) : IntsAt W' (some ⟨u.heap.size, 0, none⟩) [x] := by
  have h : Cs (u.drew.alloc (.cells #[.int .i64 x] 3)) [(u.heap.size, 0, .int .i64 x)] := newCs u.drew x
  have h2 : Cs ((u.drew.alloc (.cells #[.int .i64 x] 3)).alloc (.cells #[] 3)) [(u.heap.size, 0, .int .i64 x)] := h.keep (below_al _ _)
  exact intsOne (h2.grown hg (fun y hy e => by
    obtain rfl := List.mem_singleton.1 hy
    injection e with e
    simp only at e
    omega))
theorem cut_take {W : World} {A : Option Addr} {m : List Nat} (h : IntsAt W A (m.map fun (i : Nat) => (i : Int))) (a : Nat) : IntsAt W A ((m.take a).map fun (i : Nat) => (i : Int)) := by
  rcases h with h | ⟨b, o, rfl, hb, h⟩
  · obtain rfl : m = [] := by simpa using h
    exact .inl (by simp)
  · refine .inr ⟨b, o, rfl, hb, fun j x hj => h j x ?_⟩
    rw [List.map_take] at hj
    have hja : j < a := by have := (List.getElem?_eq_some_iff.1 hj).1; rw [List.length_take] at this; omega
    rwa [List.getElem?_take_of_lt hja] at hj
theorem cut_drop {W : World} {g : Nat} {m : List Nat} (h : IntsAt W (some ⟨g, 0, none⟩) (m.map fun (i : Nat) => (i : Int))) (a : Nat) : IntsAt W (some ⟨g, a, none⟩) ((m.drop a).map fun (i : Nat) => (i : Int)) := by
  rcases h with h | ⟨b, o, e, hb, h⟩
  · obtain rfl : m = [] := by simpa using h
    exact .inl (by simp)
  · injection e with e
    injection e with e1 e2
    subst e1 e2
    refine .inr ⟨g, a, rfl, hb, fun j x hj => ?_⟩
    rw [List.map_drop, List.getElem?_drop] at hj
    have := h (a + j) x hj
    rwa [Nat.zero_add] at this
theorem cut_all {W : World} {A A' : Option Addr} {m : List Nat} {a : Nat} (_ : IntsAt W A (m.map fun (i : Nat) => (i : Int))) (hm : m.length = a) : IntsAt W A' ((m.drop a).map fun (i : Nat) => (i : Int)) :=
  .inl (by rw [List.drop_of_length_le (by omega)]; rfl)

theorem cell_lt {W : World} {b o : Nat} {v : Value} (h : W.cell? ⟨b, o, none⟩ = some v) : b < W.heap.size := by
  by_cases hb : b < W.heap.size
  · exact hb
  · rw [World.cell?, Array.getElem?_eq_none (by simpa using hb)] at h
    cases h
theorem ints_set {W : World} {A : Option Addr} {xs : List Int} (h : IntsAt W A xs) (b o : Nat) (v : Value) (hb : ∀ g, A = some ⟨g, 0, none⟩ → g ≠ b) (h0 : ∀ a, A = some a → a.off = 0) : IntsAt (W.setCell ⟨b, o, none⟩ v) A xs := by
  rcases h with h | ⟨b', o', rfl, hl, h⟩
  · exact .inl h
  · obtain rfl : o' = 0 := h0 _ rfl
    refine .inr ⟨b', 0, rfl, Nat.lt_of_lt_of_le hl ((Below.refl b W).setCell (p := ⟨b, o, none⟩) (Nat.le_refl _) v).size, fun j x hj => ?_⟩
    rw [cell_other _ _ _ _ _ _ (.inl (hb _ rfl))]
    exact h j x hj
def RaPost (w : World) (n : Int) (m : List Int) (e : Ending) (w' : World) : Prop := ∃ a c, e = .returned (.agg #[.slice a m.length c, .int .i64 n]) ∧ IntsAt w' a m ∧ Below w.heap.size w w'
set_option maxRecDepth 100000 in
set_option maxHeartbeats 16000000 in
theorem rAround_any (o : Pt) (q : Option Addr) (cap : Nat) (l : List Pt) (w : World) (hl : l.length ≤ 140737488355327) (hp : PtsAt w q l) :
    Calls Try.prog 42 #[o.v, .slice q l.length cap] w (RaPost w (arE o l) (arL o l)) := by
  have C0 : ∀ W, Below w.heap.size w W → Calls Try.prog 92 #[.slice q l.length cap, .int .i64 0] W fun e w' => e = .returned (.int .i64 (ck 0 l)) ∧ Below W.heap.size W w' := fun W hb => rpoints_any 0 q cap l W hl (hp.keep hb)
  by_cases hck : ck 0 l = 0
  · obtain ⟨_, h200, hall⟩ := ck_len hck
    rw [hck] at C0
    have C1 := fun W => rValid_any o W
    by_cases hgo : okP o = true
    · have HO := Lib.hid hgo
      rw [hgo] at C1
      have hok : ∀ q ∈ l, okP q = true := List.all_eq_true.1 hall
      have HE1 : Hid (o ∈ l → arE o l = 1 ∧ arL o l = []) := fun h => by
        have : arE o l = 1 := by unfold arE; rw [if_pos hck, if_neg (by simp [h])]
        exact ⟨this, by unfold arL; rw [if_neg (by rw [this]; decide)]⟩
      have HE0 : Hid (o ∉ l → arE o l = 0 ∧ arL o l = (insK o l l.length).map fun (i : Nat) => (i : Int)) := fun h => by
        have : arE o l = 0 := by unfold arE; rw [if_pos hck, if_pos (by simp [h, hgo])]
        exact ⟨this, by unfold arL; rw [if_pos this]; exact arOrd_ins hgo hok h⟩
      have HOK : Hid (∀ k, k < l.length → okP (pt l k) = true) := fun k hk => hok _ (pt_mem hk)
      have HPT : Hid (∀ k, k < l.length → pt l k ∈ l) := fun k hk => pt_mem hk
      have HIN : Hid (o ∈ l → ∃ k, k < l.length ∧ pt l k = o) := fun h => by
        obtain ⟨j, hj⟩ := List.getElem?_of_mem h
        exact ⟨j, (List.getElem?_eq_some_iff.1 hj).1, by simp [pt, hj]⟩
      have HCL : Hid (∃ b off, ∀ (W : World), Below w.heap.size w W → ∀ k, k < l.length → q = some ⟨b, off, none⟩ ∧ W.cell? ⟨b, off + k * 2, none⟩ = some (.int .i64 (pt l k).x) ∧ W.cell? ⟨b, off + k * 2 + 1, none⟩ = some (.int .i64 (pt l k).y)) := by
        rcases hp with rfl | ⟨b, off, rfl, hbl, hc⟩
        · exact ⟨0, 0, fun W hb k hk => by simp at hk⟩
        · refine ⟨b, off, fun W hb k hk => ?_⟩
          have hq : l[k]? = some (pt l k) := by rw [List.getElem?_eq_getElem hk]; simp [pt, hk]
          obtain ⟨c1, c2⟩ := hc k _ hq
          exact ⟨rfl, (hb.cell (p := ⟨b, off + k * 2, none⟩) hbl).trans c1, (hb.cell (p := ⟨b, off + k * 2 + 1, none⟩) hbl).trans c2⟩
      obtain ⟨n0, hn0⟩ : ∃ n, arE o l = n := ⟨_, rfl⟩
      obtain ⟨m0, hm0⟩ : ∃ n, arL o l = n := ⟨_, rfl⟩
      rw [hn0, hm0] at HE1 HE0 ⊢
      clear hck hall hgo hp hok hn0 hm0
      go_enter Try.func42, Try.ntmps42
      go_wp2_with fail
      obtain ⟨W0, hW0⟩ : ∃ W0, ((w).alloc (.cells #[.int .i64 o.x, .int .i64 o.y] 23)).alloc (.cells #[.slice none 0 0, .int .i64 0] 53) = W0 := ⟨_, rfl⟩
      have S0 : St w W0 [(w.heap.size + 1, 0, .slice none 0 0), (w.heap.size + 1, 1, .int .i64 0), (w.heap.size, 0, .int .i64 o.x), (w.heap.size, 1, .int .i64 o.y)] := by rw [← hW0]; exact (((St.nil w)).box #[.int .i64 o.x, .int .i64 o.y] 23 (w.heap.size) (by simp)).box #[.slice none 0 0, .int .i64 0] 53 (w.heap.size + 1) (by simp)
      rw [hW0]
      clear hW0
      obtain ⟨C, hC0, HC, LC, BC, hne⟩ := cls S0
      haveI := hne
      obtain ⟨c0, rfl⟩ : ∃ n : Wd C, W0 = n.w := ⟨⟨_, hC0⟩, rfl⟩
      have fC0 : ∀ n : Wd C, n.w.cell? ⟨w.heap.size + 1, 0, none⟩ = some (.slice none 0 0) := fun n => (LC.out n).1.2.1
      have zC0 : ∀ n : Wd C, n.w.frozen? ⟨w.heap.size + 1, 0, none⟩ = false := fun n => (LC.out n).1.2.2
      have fC1 : ∀ n : Wd C, n.w.cell? ⟨w.heap.size + 1, 1, none⟩ = some (.int .i64 0) := fun n => (LC.out n).2.1.2.1
      have zC1 : ∀ n : Wd C, n.w.frozen? ⟨w.heap.size + 1, 1, none⟩ = false := fun n => (LC.out n).2.1.2.2
      have fC2 : ∀ n : Wd C, n.w.cell? ⟨w.heap.size, 0, none⟩ = some (.int .i64 o.x) := fun n => (LC.out n).2.2.1.2.1
      have fC3 : ∀ n : Wd C, n.w.cell? ⟨w.heap.size, 1, none⟩ = some (.int .i64 o.y) := fun n => (LC.out n).2.2.2.1.2.1
      clear S0 hC0
      have D0 := cinL HC BC C0
      have D1 := cin HC C1
      clear C0 C1
      go_wp2_with (first | (go_at_call 92; with_reducible refine (D0 _).out.mono ?_; rintro e w' ⟨rfl, n, rfl⟩) | (go_at_call 18; with_reducible refine (D1 _).out.mono ?_; rintro e w' ⟨rfl, n, rfl⟩))
      obtain ⟨b, off, HB⟩ := HCL.out
      have HB := Lib.hid HB
      have HC0 : Hid (0 ≤ l.length ∧ l.length ≤ 200) := ⟨by omega, h200⟩
      clear HCL D0 D1
      go_loopg [7, 8] l.length (fun gh s7 i wr => ∃ (k : Nat) (n : Wd C) (A : Option Addr) (c : Nat), wr = n.w ∧ i = .int .i64 (k : Int) ∧ k ≤ l.length ∧ l.length - k ≤ gh ∧ s7 = .slice A k c ∧ Hid (A = none ∧ k = 0 ∧ c = 0 ∨ ∃ g, A = some ⟨g, 0, none⟩ ∧ 0 < k ∧ k ≤ c ∧ c ≤ maxLen ∧ w.heap.size + 1 < g) ∧ Hid (IntsAt n.w A ((insK o l k).map fun (i : Nat) => (i : Int))) ∧ Hid (∀ j, j < k → pt l j ≠ o))
      case atStart => exact ⟨0, n, none, 0, rfl, rfl, by omega, by omega, rfl, .inl ⟨rfl, rfl, rfl⟩, Or.inl rfl, fun j hj => absurd hj (by omega)⟩
      case round =>
        obtain ⟨k, n, A, c, rfl, rfl, hk, hgg, rfl, HSH, HI, HNO⟩ := hrel
        obtain ⟨E, hE0, HE, LE, BE, hneE⟩ := cls (St.nil n.w)
        haveI := hneE
        have EC : Hid (∀ e : Wd E, C e.w) := fun e => HC.out _ _ n.h (BE.out e)
        have EI : Hid (∀ W, Below n.w.heap.size n.w W → E W) := fun W hb => HE.out _ _ hE0 hb
        have fo0 : ∀ e : Wd E, e.w.cell? ⟨w.heap.size, 0, none⟩ = some (.int .i64 o.x) := fun e => fC2 ⟨e.w, EC.out e⟩
        have fo1 : ∀ e : Wd E, e.w.cell? ⟨w.heap.size, 1, none⟩ = some (.int .i64 o.y) := fun e => fC3 ⟨e.w, EC.out e⟩
        have fr0 : ∀ e : Wd E, e.w.cell? ⟨w.heap.size + 1, 0, none⟩ = some (.slice none 0 0) := fun e => fC0 ⟨e.w, EC.out e⟩
        have fr1 : ∀ e : Wd E, e.w.cell? ⟨w.heap.size + 1, 1, none⟩ = some (.int .i64 0) := fun e => fC1 ⟨e.w, EC.out e⟩
        have zr0 : ∀ e : Wd E, e.w.frozen? ⟨w.heap.size + 1, 0, none⟩ = false := fun e => zC0 ⟨e.w, EC.out e⟩
        have zr1 : ∀ e : Wd E, e.w.frozen? ⟨w.heap.size + 1, 1, none⟩ = false := fun e => zC1 ⟨e.w, EC.out e⟩
        obtain ⟨e0, he0⟩ : ∃ e : Wd E, n.w = e.w := ⟨⟨_, hE0⟩, rfl⟩
        have HE0' := Lib.hid he0
        have HSZ : Hid (∀ e : Wd E, w.heap.size + 1 < e.w.heap.size) := fun e => cell_lt (fr0 e)
        clear hE0 he0
        have hk200 : k ≤ 200 := by have := HC0.out; omega
        by_cases hlt : k < l.length
        · have HBK := fun (W : World) (hb : Below w.heap.size w W) => HB.out W hb k hlt
          obtain rfl : q = some ⟨b, off, none⟩ := (HBK n.w (BC.out n)).1
          have okp := HOK.out k hlt
          have HPK := Lib.hid (HPT.out k hlt)
          have HAT0 : Hid (∀ m a, atK o l k m (a + 1) = if ahB o (pt l k) (pt l (m.getD a 0)) then atK o l k m a else a + 1) := fun m a => rfl
          have HSTEP : Hid (∀ m, insK o l k = m → insK o l (k + 1) = m.take (atK o l k m k) ++ k :: m.drop (atK o l k m k)) := fun m e => by rw [← e]; rfl
          obtain ⟨p, hp⟩ : ∃ p, pt l k = p := ⟨_, rfl⟩
          rw [hp] at okp HPK HAT0
          have g0 : ∀ e : Wd E, e.w.cell? ⟨b, off + k * 2, none⟩ = some (.int .i64 p.x) := fun e => by rw [← hp]; exact (HBK e.w (BC.out ⟨e.w, EC.out e⟩)).2.1
          have g1 : ∀ e : Wd E, e.w.cell? ⟨b, off + k * 2 + 1, none⟩ = some (.int .i64 p.y) := fun e => by rw [← hp]; exact (HBK e.w (BC.out ⟨e.w, EC.out e⟩)).2.2
          have HPP := Lib.hid hp
          have ke := fun W => eqP_run p o W
          obtain ⟨z, hz⟩ : ∃ z, ptE p o = z := ⟨_, rfl⟩
          rw [hz] at ke
          have HZ := Lib.hid hz
          have HOKP := Lib.hid okp
          clear hp hz HBK okp
          go_wp2_with fail
          refine wp_region_in E (EI.out _ (below_dr _)) (by kernel_rfl) (by kernel_rfl) ?_
          repeat (go_big_quiet_step (fail))
          refine wpQuiet_nil ?_
          intro wx hwx
          obtain ⟨n2, rfl⟩ : ∃ n : Wd E, wx = n.w := ⟨⟨wx, hwx⟩, rfl⟩
          clear hwx ke
          cases z
          · have hpo : Hid (p ≠ o) := fun e => by have := HZ.out; rw [e] at this; simp [ptE] at this
            obtain ⟨m, hm⟩ : ∃ m, insK o l k = m := ⟨_, rfl⟩
            have hml : m.length = k := by rw [← hm]; exact insK_len o l k
            have HMT : Hid (∀ x ∈ m, x < k) := fun x hx => insK_lt o l k x (by rw [hm]; exact hx)
            have HST := Lib.hid (HSTEP.out m hm)
            rw [hm] at HI
            have HIS : Hid (∀ W, Below n.w.heap.size n.w W → IntsAt W A (m.map fun (i : Nat) => (i : Int))) := fun W hb => HI.out.keep hb
            have HML := Lib.hid hml
            clear hm HSTEP HI hml
            clear g0 g1 fr0 fr1 zr0 zr1 fC0 fC1 fC2 fC3 zC0 zC1
            have G0 : Hid (∀ e : Wd E, e.w.cell? ⟨b, off + k * 2, none⟩ = some (.int .i64 p.x) ∧ e.w.cell? ⟨b, off + k * 2 + 1, none⟩ = some (.int .i64 p.y)) := fun e => by
              have h := HB.out e.w (BC.out ⟨e.w, EC.out e⟩) k hlt
              rw [HPP.out] at h
              exact h.2
            have g0 : ∀ e : Wd E, e.w.cell? ⟨b, off + k * 2, none⟩ = some (.int .i64 p.x) := fun e => (G0.out e).1
            have g1 : ∀ e : Wd E, e.w.cell? ⟨b, off + k * 2 + 1, none⟩ = some (.int .i64 p.y) := fun e => (G0.out e).2
            go_wp2_with fail
            go_loopg [9] k (fun gh s9 wr => ∃ (a : Nat) (e : Wd E), wr = e.w ∧ s9 = .int .i64 (a : Int) ∧ a ≤ k ∧ a ≤ gh ∧ Hid (atK o l k m k = atK o l k m a))
            case atStart => exact ⟨k, n2, rfl, rfl, Nat.le_refl _, Nat.le_refl _, rfl⟩
            case round =>
              obtain ⟨a, e, rfl, rfl, hak, hag, HA⟩ := hrel
              rcases a with _ | a
              · have HAT : Hid (atK o l k m k = 0) := HA.out
                go_wp2_with fail
                refine wp_region_in E (HE.out _ _ (Wd.h _) (below_dr _)) (by kernel_rfl) (by kernel_rfl) ?_
                repeat (go_big_quiet_step (fail))
                refine wpQuiet_nil ?_
                intro wx hwx
                obtain ⟨e2, rfl⟩ : ∃ n : Wd E, wx = n.w := ⟨⟨wx, hwx⟩, rfl⟩
                clear hwx
                go_wp2_with fail
                rcases HSH.out with ⟨rfl, rfl, rfl⟩ | ⟨g, rfl, hk0, hkc, hcm, hgw⟩
                · obtain rfl : m = [] := List.eq_nil_of_length_eq_zero HML.out
                  have hu0 : Hid (Below n.w.heap.size n.w e2.w) := BE.out e2
                  have hsz := HSZ.out e2
                  obtain ⟨u, hu⟩ : ∃ u, e2.w = u := ⟨_, rfl⟩
                  rw [hu] at hu0 hsz ⊢
                  have hsz := Lib.hid hsz
                  have HIU : Hid (∀ W, Below u.heap.size u W → IntsAt W (none) ((([] : List Nat)).map fun (i : Nat) => (i : Int))) := fun W hb => HIS.out W (hu0.out.trans (hb.mono hu0.out.size))
                  have R60 : Hid (∀ W, Below u.heap.size u W → IntsAt W (none) (((([] : List Nat)).take (0)).map fun (i : Nat) => (i : Int))) := fun W hb => cut_take (HIU.out W hb) _
                  have R67 : Hid (∀ W, Below u.heap.size u W → IntsAt W (none) (((([] : List Nat)).drop (0)).map fun (i : Nat) => (i : Int))) := fun W hb => Or.inl rfl
                  have HL1 : Hid ((((([] : List Nat)).take (0)).map fun (i : Nat) => (i : Int)).length = 0) := by unfold Hid; rw [List.length_map, List.length_take, HML.out]; omega
                  have HL2 : Hid ((((([] : List Nat)).drop (0)).map fun (i : Nat) => (i : Int)).length = 0 - (0)) := by unfold Hid; rw [List.length_map, List.length_drop, HML.out]
                  clear hu
                  go_region_law (first
                    | (refine stepI rfl (.tmp 57) (.tmp 60) rfl u.heap.size _ 0 [] rfl (own1 u).out _ _ _ _ rfl HL1.out (R60.out _ (belA u _)) (by omega) (belA u _).size ?_; intro v1 w1 ho1 hg1; have hb1 := Lib.hid (belowG (belA u _) (Nat.le_refl _) (own1 u).out hg1); have hO1 := Lib.hid ho1; clear ho1 hg1)
                    | (refine stepI rfl (.tmp 57) (.tmp 60) rfl u.heap.size _ 0 [] rfl (own2 u _).out _ _ _ _ rfl HL1.out (R60.out _ (belAA u _ _)) (by omega) (belAA u _ _).size ?_; intro v1 w1 ho1 hg1; have hb1 := Lib.hid (belowG (belAA u _ _) (Nat.le_refl _) (own2 u _).out hg1); have hN := Lib.hid (cs2 hg1); have hO1 := Lib.hid ho1; clear ho1 hg1)
                    | (refine stepI rfl (.tmp 57) (.tmp 60) rfl u.heap.size _ 0 [] rfl (own3 u _).out _ _ _ _ rfl HL1.out (R60.out _ (belAA u _ _)) (by omega) (belAA u _ _).size ?_; intro v1 w1 ho1 hg1; have hb1 := Lib.hid (belowG (belAA u _ _) (Nat.le_refl _) (own3 u _).out hg1); have hN := Lib.hid (cs3 hg1); have hO1 := Lib.hid ho1; clear ho1 hg1)
                    | (refine stepI rfl (.tmp 61) (.tmp 63) rfl u.heap.size _ _ _ rfl (ownsRow_keep hO1.out (below_al _ _)) _ 1 _ [((0 : Nat) : Int)] rfl rfl (intsNew _ _) (by omega) (Nat.le_trans hb1.out.size (by simp)) ?_; intro v2 w2 ho2 hg2; have hb2 := Lib.hid (belowG (hb1.out.trans ((below_al _ _).mono hb1.out.size)) (Nat.le_refl _) (ownsRow_keep hO1.out (below_al _ _)) hg2); have hO2 := Lib.hid ho2; clear ho2 hg2 hO1 hb1)
                    | (refine stepI rfl (.tmp 61) (.tmp 63) rfl u.heap.size _ _ _ rfl hO1.out _ 1 _ [((0 : Nat) : Int)] rfl rfl hN.out (by omega) hb1.out.size ?_; intro v2 w2 ho2 hg2; have hb2 := Lib.hid (belowG hb1.out (Nat.le_refl _) hO1.out hg2); have hO2 := Lib.hid ho2; clear ho2 hg2 hO1 hb1 hN)
                    | (refine stepI rfl (.tmp 64) (.tmp 67) rfl u.heap.size _ _ _ rfl hO2.out _ _ _ _ rfl HL2.out (R67.out _ hb2.out) (by omega) hb2.out.size ?_; intro v3 w3 ho3 hg3; have hb3 := Lib.hid (belowG hb2.out (Nat.le_refl _) hO2.out hg3); have hO3 := Lib.hid ho3; clear ho3 hg3 hO2 hb2))
                  all_goals
                    obtain ⟨N, rfl, hO4⟩ : ∃ N, N = 0 + 1 ∧ w3.ownsRow u.heap.size 3 1 v3 N _ := ⟨_, by omega, hO3.out⟩
                    obtain ⟨g3, c3, rfl, hc3, hc4, hc5, hI3⟩ := ownI hO4 (by omega)
                    have HI3 := Lib.hid hI3
                    have HC3 := Lib.hid (And.intro hc3 (And.intro hc4 (Nat.lt_of_lt_of_le hsz.out hc5)))
                    clear hO4 hI3 hc3 hc4 hc5
                    go_wp2_with fail
                    go_roundg (l.length - (0 + 1))
                    case measure => omega
                    case rel =>
                      refine ⟨0 + 1, ⟨w3, HC.out _ _ n.h (hu0.out.trans (hb3.out.mono hu0.out.size))⟩, some ⟨g3, 0, none⟩, c3, rfl, by simp, by omega, Nat.le_refl _, rfl, .inr ⟨g3, rfl, by omega, HC3.out.1, HC3.out.2.1, HC3.out.2.2⟩, ?_, ?_⟩
                      · unfold Hid
                        have h := HI3.out
                        rw [HST.out, HAT.out]
                        simpa using h
                      · intro j hj
                        by_cases e : j = 0
                        · subst e; rw [HPP.out]; exact hpo.out
                        · exact HNO.out j (by omega)
                · unfold maxLen at hcm; clear hgw
                  have hca : ¬ c = 0 := by omega
                  have hu0 : Hid (Below n.w.heap.size n.w e2.w) := BE.out e2
                  have hsz := HSZ.out e2
                  obtain ⟨u, hu⟩ : ∃ u, e2.w = u := ⟨_, rfl⟩
                  rw [hu] at hu0 hsz ⊢
                  have hsz := Lib.hid hsz
                  have HIU : Hid (∀ W, Below u.heap.size u W → IntsAt W (some ⟨g, 0, none⟩) ((m).map fun (i : Nat) => (i : Int))) := fun W hb => HIS.out W (hu0.out.trans (hb.mono hu0.out.size))
                  have R60 : Hid (∀ W, Below u.heap.size u W → IntsAt W (some ⟨g, 0, none⟩) (((m).take (0)).map fun (i : Nat) => (i : Int))) := fun W hb => cut_take (HIU.out W hb) _
                  have R67 : Hid (∀ W, Below u.heap.size u W → IntsAt W (some ⟨g, 0, none⟩) (((m).drop (0)).map fun (i : Nat) => (i : Int))) := fun W hb => HIU.out W hb
                  have HL1 : Hid ((((m).take (0)).map fun (i : Nat) => (i : Int)).length = 0) := by unfold Hid; rw [List.length_map, List.length_take, HML.out]; omega
                  have HL2 : Hid ((((m).drop (0)).map fun (i : Nat) => (i : Int)).length = k - (0)) := by unfold Hid; rw [List.length_map, List.length_drop, HML.out]
                  clear hu
                  go_region_law (first
                    | (refine stepI rfl (.tmp 57) (.tmp 60) rfl u.heap.size _ 0 [] rfl (own1 u).out _ _ _ _ rfl HL1.out (R60.out _ (belA u _)) (by omega) (belA u _).size ?_; intro v1 w1 ho1 hg1; have hb1 := Lib.hid (belowG (belA u _) (Nat.le_refl _) (own1 u).out hg1); have hO1 := Lib.hid ho1; clear ho1 hg1)
                    | (refine stepI rfl (.tmp 57) (.tmp 60) rfl u.heap.size _ 0 [] rfl (own2 u _).out _ _ _ _ rfl HL1.out (R60.out _ (belAA u _ _)) (by omega) (belAA u _ _).size ?_; intro v1 w1 ho1 hg1; have hb1 := Lib.hid (belowG (belAA u _ _) (Nat.le_refl _) (own2 u _).out hg1); have hN := Lib.hid (cs2 hg1); have hO1 := Lib.hid ho1; clear ho1 hg1)
                    | (refine stepI rfl (.tmp 57) (.tmp 60) rfl u.heap.size _ 0 [] rfl (own3 u _).out _ _ _ _ rfl HL1.out (R60.out _ (belAA u _ _)) (by omega) (belAA u _ _).size ?_; intro v1 w1 ho1 hg1; have hb1 := Lib.hid (belowG (belAA u _ _) (Nat.le_refl _) (own3 u _).out hg1); have hN := Lib.hid (cs3 hg1); have hO1 := Lib.hid ho1; clear ho1 hg1)
                    | (refine stepI rfl (.tmp 61) (.tmp 63) rfl u.heap.size _ _ _ rfl (ownsRow_keep hO1.out (below_al _ _)) _ 1 _ [(k : Int)] rfl rfl (intsNew _ _) (by omega) (Nat.le_trans hb1.out.size (by simp)) ?_; intro v2 w2 ho2 hg2; have hb2 := Lib.hid (belowG (hb1.out.trans ((below_al _ _).mono hb1.out.size)) (Nat.le_refl _) (ownsRow_keep hO1.out (below_al _ _)) hg2); have hO2 := Lib.hid ho2; clear ho2 hg2 hO1 hb1)
                    | (refine stepI rfl (.tmp 61) (.tmp 63) rfl u.heap.size _ _ _ rfl hO1.out _ 1 _ [(k : Int)] rfl rfl hN.out (by omega) hb1.out.size ?_; intro v2 w2 ho2 hg2; have hb2 := Lib.hid (belowG hb1.out (Nat.le_refl _) hO1.out hg2); have hO2 := Lib.hid ho2; clear ho2 hg2 hO1 hb1 hN)
                    | (refine stepI rfl (.tmp 64) (.tmp 67) rfl u.heap.size _ _ _ rfl hO2.out _ _ _ _ rfl HL2.out (R67.out _ hb2.out) (by omega) hb2.out.size ?_; intro v3 w3 ho3 hg3; have hb3 := Lib.hid (belowG hb2.out (Nat.le_refl _) hO2.out hg3); have hO3 := Lib.hid ho3; clear ho3 hg3 hO2 hb2))
                  all_goals
                    obtain ⟨N, rfl, hO4⟩ : ∃ N, N = k + 1 ∧ w3.ownsRow u.heap.size 3 1 v3 N _ := ⟨_, by omega, hO3.out⟩
                    obtain ⟨g3, c3, rfl, hc3, hc4, hc5, hI3⟩ := ownI hO4 (by omega)
                    have HI3 := Lib.hid hI3
                    have HC3 := Lib.hid (And.intro hc3 (And.intro hc4 (Nat.lt_of_lt_of_le hsz.out hc5)))
                    clear hO4 hI3 hc3 hc4 hc5
                    go_wp2_with fail
                    go_roundg (l.length - (k + 1))
                    case measure => omega
                    case rel =>
                      refine ⟨k + 1, ⟨w3, HC.out _ _ n.h (hu0.out.trans (hb3.out.mono hu0.out.size))⟩, some ⟨g3, 0, none⟩, c3, rfl, by simp, by omega, Nat.le_refl _, rfl, .inr ⟨g3, rfl, by omega, HC3.out.1, HC3.out.2.1, HC3.out.2.2⟩, ?_, ?_⟩
                      · unfold Hid
                        have h := HI3.out
                        rw [HST.out, HAT.out]
                        simpa using h
                      · intro j hj
                        by_cases e : j = k
                        · subst e; rw [HPP.out]; exact hpo.out
                        · exact HNO.out j (by omega)
              · have haC : a + 1 ≤ k := hak
                rcases HSH.out with ⟨rfl, rfl, rfl⟩ | ⟨g, rfl, hk0, hkc, hcm, hgw⟩
                · omega
                unfold maxLen at hcm; clear hgw
                obtain ⟨x, hx⟩ : ∃ x, m.getD a 0 = x := ⟨_, rfl⟩
                have hxm : m[a]? = some x := by
                  have : a < m.length := by rw [HML.out]; omega
                  rw [← hx]; simp [this]
                have hxk : x < k := HMT.out x (List.mem_of_getElem? hxm)
                have HAS : Hid (atK o l k m k = if ahB o p (pt l x) then atK o l k m a else a + 1) := by unfold Hid; rw [HA.out, HAT0.out, hx]
                have gx : ∀ e : Wd E, e.w.cell? ⟨g, a, none⟩ = some (.int .i64 (x : Int)) := fun e => by
                  rcases HIS.out e.w (BE.out e) with h | ⟨b', o', e', _, h⟩
                  · have : m = [] := by simpa using h
                    rw [this] at hxm; simp at hxm
                  · injection e' with e'
                    injection e' with e1 e2
                    subst e1 e2
                    have := h a (x : Int) (by rw [List.getElem?_map, hxm]; rfl)
                    rwa [Nat.zero_add] at this
                have gp0 : ∀ e : Wd E, e.w.cell? ⟨b, off + x * 2, none⟩ = some (.int .i64 (pt l x).x) := fun e => (HB.out e.w (BC.out ⟨e.w, EC.out e⟩) x (by omega)).2.1
                have gp1 : ∀ e : Wd E, e.w.cell? ⟨b, off + x * 2 + 1, none⟩ = some (.int .i64 (pt l x).y) := fun e => (HB.out e.w (BC.out ⟨e.w, EC.out e⟩) x (by omega)).2.2
                have T1 := fun W => ahead_any o p (pt l x) W HO.out HOKP.out (HOK.out x (by omega))
                obtain ⟨z, hz⟩ : ∃ z, ahB o p (pt l x) = z := ⟨_, rfl⟩
                simp only [hz] at T1 HAS
                have D1 := cin HE T1
                have hw1 : IntKind.i64.wrap ((a : Int) + 1 - 1) = (a : Int) := (wrapEq _).trans ((w64 (by omega)).trans (by omega))
                have hw2 : max 0 (a : Int) = (a : Int) := by omega
                have hxl : (x : Int) < (l.length : Int) := by omega
                clear hz T1 hx hxm
                go_wp2_with fail
                refine wp_region_in E (HE.out _ _ (Wd.h _) (below_dr _)) (by kernel_rfl) (by kernel_rfl) ?_
                repeat (go_big_quiet_step (with_reducible exact (D1 _).out))
                refine wpQuiet_nil ?_
                intro wx hwx
                obtain ⟨e2, rfl⟩ : ∃ n : Wd E, wx = n.w := ⟨⟨wx, hwx⟩, rfl⟩
                clear hwx D1 gx gp0 gp1
                cases z
                · have HAT : Hid (atK o l k m k = a + 1) := HAS.out
                  clear HAS hw1 hw2 hxl
                  go_wp2_with fail
                  have hac : a + 1 ≤ c := by omega
                  have hac' : (a : Int) + 1 ≤ (c : Int) := by omega
                  have ha1 : 0 ≤ (a : Int) + 1 := by omega
                  have hak' : (a : Int) + 1 ≤ (k : Int) := by omega
                  by_cases hca : c = a + 1
                  · have hka : Hid (k = a + 1) := by unfold Hid; omega
                    subst hca
                    have hu0 : Hid (Below n.w.heap.size n.w e2.w) := BE.out e2
                    have hsz := HSZ.out e2
                    obtain ⟨u, hu⟩ : ∃ u, e2.w = u := ⟨_, rfl⟩
                    rw [hu] at hu0 hsz ⊢
                    have hsz := Lib.hid hsz
                    have HIU : Hid (∀ W, Below u.heap.size u W → IntsAt W (some ⟨g, 0, none⟩) ((m).map fun (i : Nat) => (i : Int))) := fun W hb => HIS.out W (hu0.out.trans (hb.mono hu0.out.size))
                    have R60 : Hid (∀ W, Below u.heap.size u W → IntsAt W (some ⟨g, 0, none⟩) (((m).take (a + 1)).map fun (i : Nat) => (i : Int))) := fun W hb => cut_take (HIU.out W hb) _
                    have R67 : Hid (∀ W, Below u.heap.size u W → IntsAt W (some ⟨g, 0, none⟩) (((m).drop (a + 1)).map fun (i : Nat) => (i : Int))) := fun W hb => cut_all (HIU.out W hb) (HML.out.trans hka.out)
                    have HL1 : Hid ((((m).take (a + 1)).map fun (i : Nat) => (i : Int)).length = a + 1) := by unfold Hid; rw [List.length_map, List.length_take, HML.out]; omega
                    have HL2 : Hid ((((m).drop (a + 1)).map fun (i : Nat) => (i : Int)).length = 0) := by unfold Hid; rw [List.length_map, List.length_drop, HML.out]; have := hka.out; omega
                    clear hu
                    go_region_law (first
                      | (refine stepI rfl (.tmp 57) (.tmp 60) rfl u.heap.size _ 0 [] rfl (own1 u).out _ _ _ _ rfl HL1.out (R60.out _ (belA u _)) (by omega) (belA u _).size ?_; intro v1 w1 ho1 hg1; have hb1 := Lib.hid (belowG (belA u _) (Nat.le_refl _) (own1 u).out hg1); have hO1 := Lib.hid ho1; clear ho1 hg1)
                      | (refine stepI rfl (.tmp 57) (.tmp 60) rfl u.heap.size _ 0 [] rfl (own2 u _).out _ _ _ _ rfl HL1.out (R60.out _ (belAA u _ _)) (by omega) (belAA u _ _).size ?_; intro v1 w1 ho1 hg1; have hb1 := Lib.hid (belowG (belAA u _ _) (Nat.le_refl _) (own2 u _).out hg1); have hN := Lib.hid (cs2 hg1); have hO1 := Lib.hid ho1; clear ho1 hg1)
                      | (refine stepI rfl (.tmp 57) (.tmp 60) rfl u.heap.size _ 0 [] rfl (own3 u _).out _ _ _ _ rfl HL1.out (R60.out _ (belAA u _ _)) (by omega) (belAA u _ _).size ?_; intro v1 w1 ho1 hg1; have hb1 := Lib.hid (belowG (belAA u _ _) (Nat.le_refl _) (own3 u _).out hg1); have hN := Lib.hid (cs3 hg1); have hO1 := Lib.hid ho1; clear ho1 hg1)
                      | (refine stepI rfl (.tmp 61) (.tmp 63) rfl u.heap.size _ _ _ rfl (ownsRow_keep hO1.out (below_al _ _)) _ 1 _ [(k : Int)] rfl rfl (intsNew _ _) (by omega) (Nat.le_trans hb1.out.size (by simp)) ?_; intro v2 w2 ho2 hg2; have hb2 := Lib.hid (belowG (hb1.out.trans ((below_al _ _).mono hb1.out.size)) (Nat.le_refl _) (ownsRow_keep hO1.out (below_al _ _)) hg2); have hO2 := Lib.hid ho2; clear ho2 hg2 hO1 hb1)
                      | (refine stepI rfl (.tmp 61) (.tmp 63) rfl u.heap.size _ _ _ rfl hO1.out _ 1 _ [(k : Int)] rfl rfl hN.out (by omega) hb1.out.size ?_; intro v2 w2 ho2 hg2; have hb2 := Lib.hid (belowG hb1.out (Nat.le_refl _) hO1.out hg2); have hO2 := Lib.hid ho2; clear ho2 hg2 hO1 hb1 hN)
                      | (refine stepI rfl (.tmp 64) (.tmp 67) rfl u.heap.size _ _ _ rfl hO2.out _ _ _ _ rfl HL2.out (R67.out _ hb2.out) (by omega) hb2.out.size ?_; intro v3 w3 ho3 hg3; have hb3 := Lib.hid (belowG hb2.out (Nat.le_refl _) hO2.out hg3); have hO3 := Lib.hid ho3; clear ho3 hg3 hO2 hb2))
                    all_goals
                      obtain ⟨N, rfl, hO4⟩ : ∃ N, N = k + 1 ∧ w3.ownsRow u.heap.size 3 1 v3 N _ := ⟨_, by have := hka.out; omega, hO3.out⟩
                      obtain ⟨g3, c3, rfl, hc3, hc4, hc5, hI3⟩ := ownI hO4 (by omega)
                      have HI3 := Lib.hid hI3
                      have HC3 := Lib.hid (And.intro hc3 (And.intro hc4 (Nat.lt_of_lt_of_le hsz.out hc5)))
                      clear hO4 hI3 hc3 hc4 hc5
                      go_wp2_with fail
                      go_roundg (l.length - (k + 1))
                      case measure => omega
                      case rel =>
                        refine ⟨k + 1, ⟨w3, HC.out _ _ n.h (hu0.out.trans (hb3.out.mono hu0.out.size))⟩, some ⟨g3, 0, none⟩, c3, rfl, by simp, by omega, Nat.le_refl _, rfl, .inr ⟨g3, rfl, by omega, HC3.out.1, HC3.out.2.1, HC3.out.2.2⟩, ?_, ?_⟩
                        · unfold Hid
                          have h := HI3.out
                          rw [HST.out, HAT.out]
                          simpa using h
                        · intro j hj
                          by_cases e : j = k
                          · subst e; rw [HPP.out]; exact hpo.out
                          · exact HNO.out j (by omega)
                  · have hca' : ¬ c - (a + 1) = 0 := by omega
                    have hu0 : Hid (Below n.w.heap.size n.w e2.w) := BE.out e2
                    have hsz := HSZ.out e2
                    obtain ⟨u, hu⟩ : ∃ u, e2.w = u := ⟨_, rfl⟩
                    rw [hu] at hu0 hsz ⊢
                    have hsz := Lib.hid hsz
                    have HIU : Hid (∀ W, Below u.heap.size u W → IntsAt W (some ⟨g, 0, none⟩) ((m).map fun (i : Nat) => (i : Int))) := fun W hb => HIS.out W (hu0.out.trans (hb.mono hu0.out.size))
                    have R60 : Hid (∀ W, Below u.heap.size u W → IntsAt W (some ⟨g, 0, none⟩) (((m).take (a + 1)).map fun (i : Nat) => (i : Int))) := fun W hb => cut_take (HIU.out W hb) _
                    have R67 : Hid (∀ W, Below u.heap.size u W → IntsAt W (some ⟨g, a + 1, none⟩) (((m).drop (a + 1)).map fun (i : Nat) => (i : Int))) := fun W hb => cut_drop (HIU.out W hb) _
                    have HL1 : Hid ((((m).take (a + 1)).map fun (i : Nat) => (i : Int)).length = a + 1) := by unfold Hid; rw [List.length_map, List.length_take, HML.out]; omega
                    have HL2 : Hid ((((m).drop (a + 1)).map fun (i : Nat) => (i : Int)).length = k - (a + 1)) := by unfold Hid; rw [List.length_map, List.length_drop, HML.out]
                    clear hu
                    go_region_law (first
                      | (refine stepI rfl (.tmp 57) (.tmp 60) rfl u.heap.size _ 0 [] rfl (own1 u).out _ _ _ _ rfl HL1.out (R60.out _ (belA u _)) (by omega) (belA u _).size ?_; intro v1 w1 ho1 hg1; have hb1 := Lib.hid (belowG (belA u _) (Nat.le_refl _) (own1 u).out hg1); have hO1 := Lib.hid ho1; clear ho1 hg1)
                      | (refine stepI rfl (.tmp 57) (.tmp 60) rfl u.heap.size _ 0 [] rfl (own2 u _).out _ _ _ _ rfl HL1.out (R60.out _ (belAA u _ _)) (by omega) (belAA u _ _).size ?_; intro v1 w1 ho1 hg1; have hb1 := Lib.hid (belowG (belAA u _ _) (Nat.le_refl _) (own2 u _).out hg1); have hN := Lib.hid (cs2 hg1); have hO1 := Lib.hid ho1; clear ho1 hg1)
                      | (refine stepI rfl (.tmp 57) (.tmp 60) rfl u.heap.size _ 0 [] rfl (own3 u _).out _ _ _ _ rfl HL1.out (R60.out _ (belAA u _ _)) (by omega) (belAA u _ _).size ?_; intro v1 w1 ho1 hg1; have hb1 := Lib.hid (belowG (belAA u _ _) (Nat.le_refl _) (own3 u _).out hg1); have hN := Lib.hid (cs3 hg1); have hO1 := Lib.hid ho1; clear ho1 hg1)
                      | (refine stepI rfl (.tmp 61) (.tmp 63) rfl u.heap.size _ _ _ rfl (ownsRow_keep hO1.out (below_al _ _)) _ 1 _ [(k : Int)] rfl rfl (intsNew _ _) (by omega) (Nat.le_trans hb1.out.size (by simp)) ?_; intro v2 w2 ho2 hg2; have hb2 := Lib.hid (belowG (hb1.out.trans ((below_al _ _).mono hb1.out.size)) (Nat.le_refl _) (ownsRow_keep hO1.out (below_al _ _)) hg2); have hO2 := Lib.hid ho2; clear ho2 hg2 hO1 hb1)
                      | (refine stepI rfl (.tmp 61) (.tmp 63) rfl u.heap.size _ _ _ rfl hO1.out _ 1 _ [(k : Int)] rfl rfl hN.out (by omega) hb1.out.size ?_; intro v2 w2 ho2 hg2; have hb2 := Lib.hid (belowG hb1.out (Nat.le_refl _) hO1.out hg2); have hO2 := Lib.hid ho2; clear ho2 hg2 hO1 hb1 hN)
                      | (refine stepI rfl (.tmp 64) (.tmp 67) rfl u.heap.size _ _ _ rfl hO2.out _ _ _ _ rfl HL2.out (R67.out _ hb2.out) (by omega) hb2.out.size ?_; intro v3 w3 ho3 hg3; have hb3 := Lib.hid (belowG hb2.out (Nat.le_refl _) hO2.out hg3); have hO3 := Lib.hid ho3; clear ho3 hg3 hO2 hb2))
                    all_goals
                      obtain ⟨N, rfl, hO4⟩ : ∃ N, N = k + 1 ∧ w3.ownsRow u.heap.size 3 1 v3 N _ := ⟨_, by omega, hO3.out⟩
                      obtain ⟨g3, c3, rfl, hc3, hc4, hc5, hI3⟩ := ownI hO4 (by omega)
                      have HI3 := Lib.hid hI3
                      have HC3 := Lib.hid (And.intro hc3 (And.intro hc4 (Nat.lt_of_lt_of_le hsz.out hc5)))
                      clear hO4 hI3 hc3 hc4 hc5
                      go_wp2_with fail
                      go_roundg (l.length - (k + 1))
                      case measure => omega
                      case rel =>
                        refine ⟨k + 1, ⟨w3, HC.out _ _ n.h (hu0.out.trans (hb3.out.mono hu0.out.size))⟩, some ⟨g3, 0, none⟩, c3, rfl, by simp, by omega, Nat.le_refl _, rfl, .inr ⟨g3, rfl, by omega, HC3.out.1, HC3.out.2.1, HC3.out.2.2⟩, ?_, ?_⟩
                        · unfold Hid
                          have h := HI3.out
                          rw [HST.out, HAT.out]
                          simpa using h
                        · intro j hj
                          by_cases e : j = k
                          · subst e; rw [HPP.out]; exact hpo.out
                          · exact HNO.out j (by omega)
                · have HAA : Hid (atK o l k m k = atK o l k m a) := HAS.out
                  go_wp2_with fail
                  go_roundg a
                  case measure => omega
                  case rel => exact ⟨a, e2, rfl, by simp, by omega, Nat.le_refl _, HAA⟩
          · have hpo : p = o := of_decide_eq_true HZ.out
            obtain ⟨rfl, rfl⟩ := HE1.out (by rw [← hpo]; exact HPK.out)
            go_wp2_with fail
            refine bodyPost_ret (v := .agg #[.slice none 0 0, .int .i64 1]) (by simp [results, Try.results42, go_sem, fr0, fr1]) rfl ⟨none, 0, rfl, Or.inl rfl, ?_⟩
            exact below_set (below_set (BC.out ⟨n2.w, EC.out n2⟩) _ _ _ (by omega)) _ _ _ (by omega)
        · obtain rfl : k = l.length := by omega
          have hno : o ∉ l := fun h => by
            obtain ⟨j, hj, e⟩ := HIN.out h
            exact HNO.out j hj e
          obtain ⟨rfl, rfl⟩ := HE0.out hno
          go_wp2_with fail
          refine bodyPost_ret (v := .agg #[.slice A l.length c, .int .i64 0]) (by simp [results, Try.results42, go_sem, fC0, fC1]) rfl ⟨A, c, by rw [List.length_map, insK_len], ?_, ?_⟩
          · have HI2 : IntsAt n.w A ((insK o l l.length).map fun (i : Nat) => (i : Int)) := HI.out
            have hA : ∀ a, A = some a → a.off = 0 ∧ a.block ≠ w.heap.size + 1 := fun a e => by
              rcases HSH.out with ⟨h, _⟩ | ⟨g, h, _, _, _, hgw⟩
              · rw [h] at e; cases e
              · rw [h] at e; injection e with e; subst e; exact ⟨rfl, by simp only; omega⟩
            have h0 : ∀ a, A = some a → a.off = 0 := fun a e => (hA a e).1
            have hb : ∀ g, A = some ⟨g, 0, none⟩ → g ≠ w.heap.size + 1 := fun g e => (hA _ e).2
            exact ints_set (ints_set HI2 _ _ _ hb h0) _ _ _ hb h0
          · exact below_set (below_set (BC.out _) _ _ _ (by omega)) _ _ _ (by omega)
    · have hgo' : okP o = false := by simpa using hgo
      rw [hgo'] at C1
      have hE : arE o l = 1 := by unfold arE; rw [if_pos hck, if_neg (by simp [hgo'])]
      have hL : arL o l = [] := by unfold arL; rw [if_neg (by rw [hE]; decide)]
      rw [hE, hL]
      clear hck hall hgo hgo' hp hE hL
      go_enter Try.func42, Try.ntmps42
      go_wp2_with fail
      obtain ⟨W0, hW0⟩ : ∃ W0, ((w).alloc (.cells #[.int .i64 o.x, .int .i64 o.y] 23)).alloc (.cells #[.slice none 0 0, .int .i64 0] 53) = W0 := ⟨_, rfl⟩
      have S0 : St w W0 [(w.heap.size + 1, 0, .slice none 0 0), (w.heap.size + 1, 1, .int .i64 0), (w.heap.size, 0, .int .i64 o.x), (w.heap.size, 1, .int .i64 o.y)] := by rw [← hW0]; exact (((St.nil w)).box #[.int .i64 o.x, .int .i64 o.y] 23 (w.heap.size) (by simp)).box #[.slice none 0 0, .int .i64 0] 53 (w.heap.size + 1) (by simp)
      rw [hW0]
      clear hW0
      obtain ⟨C, hC0, HC, LC, BC, hne⟩ := cls S0
      haveI := hne
      obtain ⟨c0, rfl⟩ : ∃ n : Wd C, W0 = n.w := ⟨⟨_, hC0⟩, rfl⟩
      have fC0 : ∀ n : Wd C, n.w.cell? ⟨w.heap.size + 1, 0, none⟩ = some (.slice none 0 0) := fun n => (LC.out n).1.2.1
      have zC0 : ∀ n : Wd C, n.w.frozen? ⟨w.heap.size + 1, 0, none⟩ = false := fun n => (LC.out n).1.2.2
      have fC1 : ∀ n : Wd C, n.w.cell? ⟨w.heap.size + 1, 1, none⟩ = some (.int .i64 0) := fun n => (LC.out n).2.1.2.1
      have zC1 : ∀ n : Wd C, n.w.frozen? ⟨w.heap.size + 1, 1, none⟩ = false := fun n => (LC.out n).2.1.2.2
      have fC2 : ∀ n : Wd C, n.w.cell? ⟨w.heap.size, 0, none⟩ = some (.int .i64 o.x) := fun n => (LC.out n).2.2.1.2.1
      have fC3 : ∀ n : Wd C, n.w.cell? ⟨w.heap.size, 1, none⟩ = some (.int .i64 o.y) := fun n => (LC.out n).2.2.2.1.2.1
      clear S0 hC0
      have D0 := cinL HC BC C0
      have D1 := cin HC C1
      clear C0 C1
      go_wp2_with (first | (go_at_call 92; with_reducible refine (D0 _).out.mono ?_; rintro e w' ⟨rfl, n, rfl⟩) | (go_at_call 18; with_reducible refine (D1 _).out.mono ?_; rintro e w' ⟨rfl, n, rfl⟩))
      refine bodyPost_ret (v := .agg #[.slice none 0 0, .int .i64 1]) (by simp [results, Try.results42, go_sem, fC0, fC1]) rfl ⟨none, 0, rfl, Or.inl rfl, ?_⟩
      exact below_set (below_set (BC.out _) _ _ _ (by omega)) _ _ _ (by omega)
  · have hE : arE o l = ck 0 l := by unfold arE; rw [if_neg hck]
    have hL : arL o l = [] := by unfold arL; rw [hE, if_neg hck]
    rw [hE, hL]
    obtain ⟨c, hc⟩ : ∃ c, ck 0 l = c := ⟨_, rfl⟩
    simp only [hc] at C0 hck ⊢
    have he' : (c == 0) = false := by simpa using hck
    have he2 : (c != 0) = true := by simpa using hck
    clear hc hp hE hL
    go_enter Try.func42, Try.ntmps42
    go_wp2_with fail
    obtain ⟨W0, hW0⟩ : ∃ W0, ((w).alloc (.cells #[.int .i64 o.x, .int .i64 o.y] 23)).alloc (.cells #[.slice none 0 0, .int .i64 0] 53) = W0 := ⟨_, rfl⟩
    have S0 : St w W0 [(w.heap.size + 1, 0, .slice none 0 0), (w.heap.size + 1, 1, .int .i64 0), (w.heap.size, 0, .int .i64 o.x), (w.heap.size, 1, .int .i64 o.y)] := by rw [← hW0]; exact (((St.nil w)).box #[.int .i64 o.x, .int .i64 o.y] 23 (w.heap.size) (by simp)).box #[.slice none 0 0, .int .i64 0] 53 (w.heap.size + 1) (by simp)
    rw [hW0]
    clear hW0
    obtain ⟨C, hC0, HC, LC, BC, hne⟩ := cls S0
    haveI := hne
    obtain ⟨c0, rfl⟩ : ∃ n : Wd C, W0 = n.w := ⟨⟨_, hC0⟩, rfl⟩
    have fC0 : ∀ n : Wd C, n.w.cell? ⟨w.heap.size + 1, 0, none⟩ = some (.slice none 0 0) := fun n => (LC.out n).1.2.1
    have zC0 : ∀ n : Wd C, n.w.frozen? ⟨w.heap.size + 1, 0, none⟩ = false := fun n => (LC.out n).1.2.2
    have fC1 : ∀ n : Wd C, n.w.cell? ⟨w.heap.size + 1, 1, none⟩ = some (.int .i64 0) := fun n => (LC.out n).2.1.2.1
    have zC1 : ∀ n : Wd C, n.w.frozen? ⟨w.heap.size + 1, 1, none⟩ = false := fun n => (LC.out n).2.1.2.2
    have fC2 : ∀ n : Wd C, n.w.cell? ⟨w.heap.size, 0, none⟩ = some (.int .i64 o.x) := fun n => (LC.out n).2.2.1.2.1
    have fC3 : ∀ n : Wd C, n.w.cell? ⟨w.heap.size, 1, none⟩ = some (.int .i64 o.y) := fun n => (LC.out n).2.2.2.1.2.1
    clear S0 hC0
    have D0 := cinL HC BC C0
    clear C0
    go_wp2_with (first | (go_at_call 92; with_reducible refine (D0 _).out.mono ?_; rintro e w' ⟨rfl, n, rfl⟩))
    refine bodyPost_ret (v := .agg #[.slice none 0 0, .int .i64 c]) (by simp [results, Try.results42, go_sem, fC0, fC1]) rfl ⟨none, 0, rfl, Or.inl rfl, ?_⟩
    exact below_set (below_set (BC.out _) _ _ _ (by omega)) _ _ _ (by omega)
end Go.Proofs.Ytdefpcjlbganpaa
namespace Go.Proofs.Ytdefpcjlbganpaa
open Go.RowKit Go.Shelf Go.BigFrame Go.Sort
attribute [local go_sem] Oper.semAt_some
attribute [local go_sem] World.cell?_alloc_some
def hul (l : List Pt) : List Pt := if ck 1 l = 0 then hullC l else []
theorem hul_len (l : List Pt) : (hul l).length ≤ 400 := by
  unfold hul
  split
  · rename_i h
    obtain ⟨_, h2, _⟩ := ck_len h
    have := hullC_len l
    omega
  · simp
theorem arL_le (o : Pt) (l : List Pt) : (arL o l).length ≤ 200 := by
  unfold arL
  split
  · rename_i h
    rw [arL_len]
    unfold arE at h
    split at h
    · rename_i h0
      exact (ck_len h0).2.1
    · contradiction
  · simp
theorem new2 (W : World) (v1 v2 : Value) (T : TypeId) : Cs (W.alloc (.cells #[v1, v2] T)) [(W.heap.size, 0, v1), (W.heap.size, 1, v2)] := ((St.nil W).box #[v1, v2] T _ (by simp)).c
set_option maxHeartbeats 4000000 in
theorem Hull_tot (q : Option Addr) (cap : Nat) (l : List Pt) (w : World) (hl : l.length ≤ 140737488355327) (hp : PtsAt w q l) :
    Calls Try.prog 39 #[.slice q l.length cap] w fun e w' => ∃ a c, e = .returned (.tuple #[.slice a (hul l).length c, .int .i64 (ck 1 l)]) ∧ PtsAt w' a (hul l) ∧ Below w.heap.size w w' := by
  by_cases hck : ck 1 l = 0
  · obtain ⟨h1, h2, hall⟩ := ck_len hck
    rcases hp with rfl | ⟨b, o, rfl, hbl, hc⟩
    · simp at h1
    refine (Hull_any b o cap l w h1 h2 hall (Or.inr ⟨b, o, rfl, hbl, hc⟩)).mono ?_
    rintro e w' ⟨v, rfl, P⟩
    obtain ⟨a, c, rfl, hq⟩ := P.pts
    have e1 : hul l = hullC l := if_pos hck
    rw [hck, e1]
    exact ⟨a, c, rfl, hq, P.st.b⟩
  · refine (Hull_err q cap l w hl hp hck).mono ?_
    rintro e w' ⟨rfl, hb⟩
    have e1 : hul l = [] := if_neg hck
    rw [e1]
    exact ⟨none, 0, rfl, Or.inl rfl, hb⟩
set_option maxRecDepth 100000 in
set_option maxHeartbeats 16000000 in
theorem hlsaLaw (BX : ∀ W, Calls Try.prog 38 #[] W fun e w' => e = .returned (.bool true) ∧ Below W.heap.size W w') (q : Option Addr) (cap : Nat) (l : List Pt) (o : Pt) (w : World) (hl : l.length ≤ 140737488355327) (hp : PtsAt w q l) :
    Calls Try.prog 6 #[.slice q l.length cap, o.v] w fun e w' => e = .returned (.bool true) ∧ Below w.heap.size w w' := by
  have HP := Lib.hid hp
  have A1 : Hid (∀ W, Below w.heap.size w W → _) := fun W hb => Hull_tot q cap l W hl (HP.out.keep hb)
  have A2 : Hid (∀ W, Below w.heap.size w W → _) := fun W hb => rHull_any q cap l W hl (HP.out.keep hb)
  have A3 : Hid (∀ W, Below w.heap.size w W → _) := fun W hb => Around_all o q cap l W hl (HP.out.keep hb)
  have A4 : Hid (∀ W, Below w.heap.size w W → _) := fun W hb => rAround_any o q cap l W hl (HP.out.keep hb)
  unfold RhPost at A2
  unfold ArPost at A3
  unfold RaPost at A4
  have hh4 := hul_len l
  have hm4 := arL_le o l
  rw [show (if ck 1 l = 0 then hullC l else []) = hul l from rfl] at A2
  obtain ⟨h, hh⟩ : ∃ h, hul l = h := ⟨_, rfl⟩
  obtain ⟨m, hm⟩ : ∃ m, arL o l = m := ⟨_, rfl⟩
  obtain ⟨n1, hn1⟩ : ∃ n, ck 1 l = n := ⟨_, rfl⟩
  obtain ⟨n2, hn2⟩ : ∃ n, arE o l = n := ⟨_, rfl⟩
  rw [hh] at A1 A2 hh4
  rw [hm] at A3 A4 hm4
  rw [hn1] at A1 A2
  rw [hn2] at A3 A4
  have F1 := fun W => few_any q l.length cap W hl
  obtain ⟨z, hz⟩ : ∃ z, fewB l.length = z := ⟨_, rfl⟩
  simp only [hz] at F1
  clear hz hh hm hn1 hn2 hp HP
  go_enter Try.func6, Try.ntmps6
  go_wp2_with fail
  obtain ⟨W0, hW0⟩ : ∃ W0, (w).alloc (.cells #[.int .i64 o.x, .int .i64 o.y] 23) = W0 := ⟨_, rfl⟩
  have S0 : St w W0 [(w.heap.size, 0, .int .i64 o.x), (w.heap.size, 1, .int .i64 o.y)] := by rw [← hW0]; exact ((St.nil w)).box #[.int .i64 o.x, .int .i64 o.y] 23 (w.heap.size) (by simp)
  rw [hW0]
  clear hW0
  obtain ⟨C, hC0, HC, LC, BC, hne⟩ := cls S0
  haveI := hne
  obtain ⟨c0, rfl⟩ : ∃ n : Wd C, W0 = n.w := ⟨⟨_, hC0⟩, rfl⟩
  have fC0 : ∀ n : Wd C, n.w.cell? ⟨w.heap.size, 0, none⟩ = some (.int .i64 o.x) := fun n => (LC.out n).1.2.1
  have fC1 : ∀ n : Wd C, n.w.cell? ⟨w.heap.size, 1, none⟩ = some (.int .i64 o.y) := fun n => (LC.out n).2.1.2.1
  clear S0 hC0
  have D0 := csame (C := C) F1
  have D9 := cin HC BX
  cases z
  · go_wp2_with (first | (go_at_call 29; with_reducible refine (D0 _).out.mono ?_; rintro e w' ⟨rfl, n, rfl⟩) | (go_at_call 38; with_reducible refine (D9 _).out.mono ?_; rintro e w' ⟨rfl, n, rfl⟩))
    go_ret
    exact ⟨rfl, BC.out _⟩
  · go_wp2_with (first | (go_at_call 29; with_reducible refine (D0 _).out.mono ?_; rintro e w' ⟨rfl, n, rfl⟩))
    go_wp2_with (go_at_call 39; with_reducible refine (A1.out _ (BC.out _)).mono ?_; rintro e w1 ⟨a1, c1, rfl, hP1, hB1⟩)
    have P1 := Lib.hid hP1
    have K1 : Hid (C w1) := HC.out _ _ (Wd.h _) hB1
    have B1 : Hid (Below w.heap.size w w1) := (BC.out ⟨w1, K1.out⟩)
    clear hP1 hB1 A1
    have HP1 : Hid (∀ W, Below w1.heap.size w1 W → PtsAt W a1 h) := fun W hb => P1.out.keep hb
    clear P1
    go_wp2_with (first
      | (go_at_call 40; with_reducible refine (A2.out _ B1.out).mono ?_; rintro e w2 ⟨a2, c2, rfl, hP2, hB2⟩
         have K2 : Hid (Below w1.heap.size w1 (w2.alloc (.cells #[.slice a2 h.length c2, .int .i64 n1] 47))) := hB2.trans ((below_al w2 (.cells #[.slice a2 h.length c2, .int .i64 n1] 47)).mono hB2.size)
         have Q2 := Lib.hid (new2 w2 (.slice a2 h.length c2) (.int .i64 n1) 47)
         have P2 : Hid (PtsAt (w2.alloc (.cells #[.slice a2 h.length c2, .int .i64 n1] 47)) a2 h) := hP2.keep (below_al _ _)
         have L2 : Hid (C (w2.alloc (.cells #[.slice a2 h.length c2, .int .i64 n1] 47))) := HC.out _ _ K1.out K2.out
         have x0 : (w2.alloc (.cells #[.slice a2 h.length c2, .int .i64 n1] 47)).cell? ⟨w.heap.size, 0, none⟩ = some (.int .i64 o.x) := fC0 ⟨_, L2.out⟩
         have x1 : (w2.alloc (.cells #[.slice a2 h.length c2, .int .i64 n1] 47)).cell? ⟨w.heap.size, 1, none⟩ = some (.int .i64 o.y) := fC1 ⟨_, L2.out⟩
         clear hP2 hB2 A2)
      | (go_at_call 41; with_reducible refine (A3.out _ (BC.out ⟨_, L2.out⟩)).mono ?_; rintro e w3 ⟨a3, c3, rfl, hP3, hB3⟩
         have L3 : Hid (C w3) := HC.out _ _ L2.out hB3
         have Q3 := Lib.hid (Q2.out.keep hB3)
         have P23 : Hid (PtsAt w3 a2 h) := P2.out.keep hB3
         have P13 : Hid (PtsAt w3 a1 h) := (HP1.out _ K2.out).keep hB3
         have P3 := Lib.hid hP3
         have y0 : w3.cell? ⟨w.heap.size, 0, none⟩ = some (.int .i64 o.x) := fC0 ⟨_, L3.out⟩
         have y1 : w3.cell? ⟨w.heap.size, 1, none⟩ = some (.int .i64 o.y) := fC1 ⟨_, L3.out⟩
         clear hP3 hB3 A3 x0 x1 Q2 P2 HP1 K2)
      | (go_at_call 42; with_reducible refine (A4.out _ (BC.out ⟨_, L3.out⟩)).mono ?_; rintro e w4 ⟨a4, c4, rfl, hP4, hB4⟩
         have hB : Below w3.heap.size w3 (w4.alloc (.cells #[.slice a4 m.length c4, .int .i64 n2] 53)) := hB4.trans ((below_al w4 _).mono hB4.size)
         have L4 : Hid (C (w4.alloc (.cells #[.slice a4 m.length c4, .int .i64 n2] 53))) := HC.out _ _ L3.out hB
         have R4 : Hid (Cs (w4.alloc (.cells #[.slice a4 m.length c4, .int .i64 n2] 53)) _) := Q3.out.keep hB
         have Q4 := Lib.hid (new2 w4 (.slice a4 m.length c4) (.int .i64 n2) 53)
         have P24 : Hid (PtsAt (w4.alloc (.cells #[.slice a4 m.length c4, .int .i64 n2] 53)) a2 h) := P23.out.keep hB
         have P14 : Hid (PtsAt (w4.alloc (.cells #[.slice a4 m.length c4, .int .i64 n2] 53)) a1 h) := P13.out.keep hB
         have P34 : Hid (IntsAt (w4.alloc (.cells #[.slice a4 m.length c4, .int .i64 n2] 53)) a3 m) := P3.out.keep hB
         have P44 : Hid (IntsAt (w4.alloc (.cells #[.slice a4 m.length c4, .int .i64 n2] 53)) a4 m) := hP4.keep (below_al _ _)
         clear hP4 hB4 hB A4 y0 y1 Q3 P23 P13 P3)
      | (go_at_call 38; with_reducible refine (BX _).mono ?_; rintro e w5 ⟨rfl, hB⟩
         have L5 : Hid (C w5) := HC.out _ _ L4.out hB
         have R5 := Lib.hid (R4.out.keep hB)
         have Q5 := Lib.hid (Q4.out.keep hB)
         have P25 : Hid (PtsAt w5 a2 h) := P24.out.keep hB
         have P15 : Hid (PtsAt w5 a1 h) := P14.out.keep hB
         have P35 : Hid (IntsAt w5 a3 m) := P34.out.keep hB
         have P45 : Hid (IntsAt w5 a4 m) := P44.out.keep hB
         have u0 := R5.out.1.2.1
         have u1 := R5.out.2.1.2.1
         have u2 := Q5.out.1.2.1
         have u3 := Q5.out.2.1.2.1
         clear hB P24 P14 P34 P44 R4 Q4)
      | (go_at_call 43; with_reducible refine (sameP_any _ _ _ _ _ _ _ (by omega) (by omega) P15.out P25.out).mono ?_; rintro e w6 ⟨rfl, hB⟩
         have L6 : Hid (C w6) := HC.out _ _ L5.out hB
         have Q6 := Lib.hid (Q5.out.keep hB)
         have P36 : Hid (IntsAt w6 a3 m) := P35.out.keep hB
         have P46 : Hid (IntsAt w6 a4 m) := P45.out.keep hB
         have v2 := Q6.out.1.2.1
         have v3 := Q6.out.2.1.2.1
         clear hB P25 P15 P35 P45 R5 Q5 u0 u1 u2 u3
         rw [decide_eq_true rfl])
      | (go_at_call 44; with_reducible refine (sameI_any _ _ _ _ _ _ _ (by omega) (by omega) P36.out P46.out).mono ?_; rintro e w7 ⟨rfl, hB⟩
         have L7 : Hid (C w7) := HC.out _ _ L6.out hB
         clear hB P36 P46 Q6 v2 v3
         rw [decide_eq_true rfl]))
    go_ret
    exact ⟨rfl, BC.out ⟨_, L7.out⟩⟩
theorem hlsLaw (q : Option Addr) (cap : Nat) (l : List Pt) (o : Pt) (w : World) (hl : l.length ≤ 140737488355327) (hp : PtsAt w q l) :
    Calls Try.prog 6 #[.slice q l.length cap, o.v] w fun e w' => e = .returned (.bool true) ∧ Below w.heap.size w w' := hlsaLaw boxes_is q cap l o w hl hp
end Go.Proofs.Ytdefpcjlbganpaa
