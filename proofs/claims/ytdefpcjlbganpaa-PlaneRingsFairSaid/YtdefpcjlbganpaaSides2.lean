import Derived.RangeFuncNested
import Derived.RangeFuncBox
import Derived.RangeFuncBound
import Derived.RangeFuncCalls
import Derived.RangeFuncLeaves
import Derived.Shelf.Abstract
import Derived.Shelf.RegionOpen
import Derived.BigRegionIn
import Derived.Stop.RegionWithIn
import Derived.WalkKit
import Derived.OwnWalkIn
import Derived.TacticsInMore
import Derived.LoopNIn
import Derived.LoopIn
import Derived.Lib.Hide
import Derived.IntWalk
import Derived.Deep.QuietTactic
import Derived.Deep.RegionHeld3
import Derived.Deep.RegionLaw
import Derived.StillTailTactics
import Derived.WalkSmall
import Derived.Deep.DeepMust
import Derived.BigQuiet
import Derived.WalkLawsBesides
import Derived.WalkSpells
import Derived.LoopTactic
import Derived.Test.YtdefpcjlbganpaaGrid
import Derived.Test.YtdefpcjlbganpaaSides1
namespace Go.Proofs.Ytdefpcjlbganpaa
open Go.RowKit Go.Shelf Go.BigFrame
attribute [local go_sem] Oper.semAt_some
attribute [local go_sem] World.cell?_alloc_some
set_option maxRecDepth 100000 in
set_option maxHeartbeats 8000000 in
theorem Sides_main (q : Option Addr) (cap : Nat) (l : List Pt) (b : Bx) (w : World) (hp : PtsAt w q l) (hc : ck 3 l = 0) (hz : okB b = true) (hcn : ¬ 4096 < cntB b) (hs : smp l = true) :
    Calls Try.prog 65 #[.slice q l.length cap, b.v] w fun e w' => e = .returned (sdRes l b) ∧ Below w.heap.size w w' := by
  obtain ⟨h3, h200, hall⟩ := ck_len hc
  have HP := Lib.hid hp
  have HR : Hid (sdRes l b = .tuple #[.int .i64 (sdFold l (gridP b)), .int .i64 0]) := by unfold Hid; rw [sdRes, if_pos hc, hz, if_neg hcn, hs]; simp
  rw [HR.out]
  have C0 := fun W (hb : Below w.heap.size w W) => checkPolygon_any q cap l W (by omega) (HP.out.keep hb)
  have C1 := fun W => Proper_any b W
  obtain ⟨k1, k2⟩ := okB_iff.1 hz
  have C2 := fun W => long_any b.x W k1
  have C3 := fun W => long_any b.y W k2
  have C4 := fun W (hb : Below w.heap.size w W) => simple_any q cap l W (by omega) (by omega) (HP.out.keep hb)
  have HCN := Lib.hid (cntB_sm hz)
  rw [hc] at C0
  rw [hz] at C1
  rw [hs] at C4
  obtain ⟨u, hu⟩ : ∃ u, b.x.hi - b.x.lo = u := ⟨_, rfl⟩
  obtain ⟨v, hv⟩ : ∃ v, b.y.hi - b.y.lo = v := ⟨_, rfl⟩
  simp only [hu] at C2
  simp only [hv] at C3
  rw [hu, hv] at HCN
  have hgt : ¬ 4096 < wrap64 (wrap64 (u + 1) * wrap64 (v + 1)) := by rw [HCN.out]; exact hcn
  have HOK := Lib.hid (And.intro hz (And.intro h3 h200))
  clear HR hc h3 h200 hall hp hz hcn HCN hu hv k1 k2 hs
  refine (callsIn_wide (n := 5)).1 ?_
  refine callsIn_of_wp_marks Try.func65 rfl trivial ?_ rfl
  simp only [Try.ntmps65, List.size_toArray, List.length_cons, List.length_nil, Nat.reduceAdd, Nat.reduceSub, Array.replicate_succ, Array.replicate_zero, List.push_toArray, List.append_toArray, List.nil_append, List.cons_append]
  gi_wp2
  obtain ⟨W0, hW0⟩ : ∃ W0, ((w).alloc (.cells #[.slice q l.length cap] 35)).alloc (.cells #[.int .i64 b.x.lo, .int .i64 b.x.hi, .int .i64 b.y.lo, .int .i64 b.y.hi] 60) = W0 := ⟨_, rfl⟩
  have S0 : St w W0 [(w.heap.size + 1, 0, .int .i64 b.x.lo), (w.heap.size + 1, 1, .int .i64 b.x.hi), (w.heap.size + 1, 2, .int .i64 b.y.lo), (w.heap.size + 1, 3, .int .i64 b.y.hi), (w.heap.size, 0, .slice q l.length cap)] := by rw [← hW0]; exact (((St.nil w)).box #[.slice q l.length cap] 35 (w.heap.size) (by simp)).box #[.int .i64 b.x.lo, .int .i64 b.x.hi, .int .i64 b.y.lo, .int .i64 b.y.hi] 60 (w.heap.size + 1) (by simp)
  rw [hW0]
  clear hW0
  obtain ⟨C, hC0, HC, LC, BC, hne⟩ := cls S0
  haveI := hne
  obtain ⟨c0, rfl⟩ : ∃ n : Wd C, W0 = n.w := ⟨⟨_, hC0⟩, rfl⟩
  have fC0 : ∀ n : Wd C, n.w.cell? ⟨w.heap.size + 1, 0, none⟩ = some (.int .i64 b.x.lo) := fun n => (LC.out n).1.2.1
  have fC1 : ∀ n : Wd C, n.w.cell? ⟨w.heap.size + 1, 1, none⟩ = some (.int .i64 b.x.hi) := fun n => (LC.out n).2.1.2.1
  have fC2 : ∀ n : Wd C, n.w.cell? ⟨w.heap.size + 1, 2, none⟩ = some (.int .i64 b.y.lo) := fun n => (LC.out n).2.2.1.2.1
  have fC3 : ∀ n : Wd C, n.w.cell? ⟨w.heap.size + 1, 3, none⟩ = some (.int .i64 b.y.hi) := fun n => (LC.out n).2.2.2.1.2.1
  have fC4 : ∀ n : Wd C, n.w.cell? ⟨w.heap.size, 0, none⟩ = some (.slice q l.length cap) := fun n => (LC.out n).2.2.2.2.1.2.1
  clear S0 hC0
  have D0 := cinL HC BC C0
  have D1 := cin HC C1
  have D2 := cin HC C2
  have D3 := cin HC C3
  have D4 := cinL HC BC C4
  clear C0 C1 C2 C3 C4
  gi_wp2_with (first | (refine ⟨trivial, ?_⟩; gi_at_call 90; refine (callsIn_wide.2 (D0 _).out).mono ?_; rintro e w' ⟨rfl, n, rfl⟩) | (refine ⟨trivial, ?_⟩; gi_at_call 53; refine (callsIn_wide.2 (D1 _).out).mono ?_; rintro e w' ⟨rfl, n, rfl⟩))
  refine wpIn_region_in_w C (HC.out _ _ (Wd.h _) (below_dr _)) (by kernel_rfl) (by kernel_rfl) (by kernel_rfl) ?_
  repeat (go_big_quiet_step (first | with_reducible exact (D2 _).out | with_reducible exact (D3 _).out))
  refine wpQuiet_nil ?_
  intro wx hwx
  obtain ⟨n2, rfl⟩ : ∃ n : Wd C, wx = n.w := ⟨⟨wx, hwx⟩, rfl⟩
  clear hwx
  gi_wp2_with (first | (refine ⟨trivial, ?_⟩; gi_at_call 93; refine (callsIn_wide.2 (D4 _).out).mono ?_; rintro e w' ⟨rfl, n, rfl⟩) | (refine ⟨trivial, ?_⟩; gi_at_call 129; refine (points_in Fence.wide _ trivial rfl b _).mono ?_; rintro e w' ⟨rfl, rfl⟩))
  have hs1 := (BC.out n).size
  have hlw : w.heap.size + 1 < n.w.heap.size := (LC.out n).1.1
  obtain ⟨kS, hkS⟩ : ∃ k, n.w.heap.size = k := ⟨_, rfl⟩
  have E0 : Hid (St n.w ((n.w.alloc (.cells #[.int .i64 0] 74)).alloc (.cells #[.int .i64 b.x.lo, .int .i64 b.x.hi, .int .i64 b.y.lo, .int .i64 b.y.hi] 60)) ((kS + 1, 0, .int .i64 b.x.lo) :: (kS + 1, 1, .int .i64 b.x.hi) :: (kS + 1, 2, .int .i64 b.y.lo) :: (kS + 1, 3, .int .i64 b.y.hi) :: (kS, 0, .int .i64 0) :: [])) :=
    ((St.nil n.w).box #[.int .i64 0] 74 kS hkS).box #[.int .i64 b.x.lo, .int .i64 b.x.hi, .int .i64 b.y.lo, .int .i64 b.y.hi] 60 (kS + 1) (by simp [hkS])
  have hsz : ((n.w.alloc (.cells #[.int .i64 0] 74)).alloc (.cells #[.int .i64 b.x.lo, .int .i64 b.x.hi, .int .i64 b.y.lo, .int .i64 b.y.hi] 60)).heap.size = kS + 2 := by simp [hkS]
  have hBn : Hid (Below w.heap.size w ((n.w.alloc (.cells #[.int .i64 0] 74)).alloc (.cells #[.int .i64 b.x.lo, .int .i64 b.x.hi, .int .i64 b.y.lo, .int .i64 b.y.hi] 60))) := (BC.out n).trans (E0.out.b.mono hs1)
  have hLn : Hid (Cs ((n.w.alloc (.cells #[.int .i64 0] 74)).alloc (.cells #[.int .i64 b.x.lo, .int .i64 b.x.hi, .int .i64 b.y.lo, .int .i64 b.y.hi] 60)) [(w.heap.size, 0, .slice q l.length cap)]) := Cs.keep (W := n.w) E0.out.b ⟨(LC.out n).2.2.2.2.1, trivial⟩
  rw [hkS] at hs1 hlw ⊢
  obtain ⟨W0, hW0⟩ : ∃ W0, (n.w.alloc (.cells #[.int .i64 0] 74)).alloc (.cells #[.int .i64 b.x.lo, .int .i64 b.x.hi, .int .i64 b.y.lo, .int .i64 b.y.hi] 60) = W0 := ⟨_, rfl⟩
  rw [hW0] at E0 hsz hBn hLn ⊢
  have EC := E0.out.c
  clear hW0 E0 hkS D0 D1 D2 D3 D4 fC0 fC1 fC2 fC3 fC4 hgt
  refine wpIn_rangeFunc_ownH rfl (by omega) (gf := 143) (lb := #[.pointer (some ⟨kS + 1, 0, none⟩)]) rfl trivial (enters_of Try.func143 (by kernel_rfl) rfl)
    (points_stops Fence.wide 4 trivial rfl (by omega) (kS + 1) kS b HOK.out.1 W0 (by omega) (by omega) EC.1.2.1 EC.2.1.2.1 EC.2.2.1.2.1 EC.2.2.2.1.2.1) kpC_t (kpC_b (by omega) (by omega)) (Below.refl _ _) (fun _ => rfl)
    (fun pre W => (Cs W [(kS, 0, .int .i64 (sdFold l pre))] ∧ Cs W [(w.heap.size, 0, .slice q l.length cap)]) ∧ Below w.heap.size W0 W)
    (fun _ _ _ => False)
    (OwnFrom.and (OwnFrom.and (cs_ownFrom _ (fun pre => [(kS, 0, .int .i64 (sdFold l pre))])) (cs_ownFrom _ (fun _ => [(w.heap.size, 0, .slice q l.length cap)]))) (ownFrom_below (by omega) (by omega)))
    (fun _ _ _ _ _ hs _ _ => hs)
    ⟨⟨⟨EC.2.2.2.2.1, trivial⟩, hLn.out⟩, Below.refl _ _⟩
    (fun x a' W => ∃ B, kS + 1 < B ∧ Cs W [(B, 0, .int .i64 x.x), (B, 1, .int .i64 x.y)] ∧ a' = { tmps := #[Value.slice q l.length cap, b.v, Value.pointer (some ⟨w.heap.size, 0, none⟩), Value.pointer (some ⟨w.heap.size + 1, 0, none⟩), Value.int IntKind.i64 0, Value.int IntKind.i64 0, Value.int IntKind.i64 0, Value.pointer (some ⟨kS, 0, none⟩), .pointer (some ⟨B, 0, none⟩), Value.slice q l.length cap, Value.int IntKind.i64 0, Value.int IntKind.i64 0, Value.bool false, undef, b.v, Value.bool true, Value.bool false, Value.pointer (some ⟨w.heap.size + 1, 0, none⟩), .agg #[.int .i64 b.x.lo, .int .i64 b.x.hi], .int .i64 u, .int .i64 (wrap64 (u + 1)), .pointer (some ⟨w.heap.size + 1, 2, none⟩), .agg #[.int .i64 b.y.lo, .int .i64 b.y.hi], .int .i64 v, .int .i64 (wrap64 (v + 1)), .int .i64 (wrap64 (wrap64 (u + 1) * wrap64 (v + 1))), .bool (decide (4096 < wrap64 (wrap64 (u + 1) * wrap64 (v + 1)))), Value.slice q l.length cap, Value.bool true, Value.bool false, b.v, Value.func (Fn.func 143) #[] #[.pointer (some ⟨kS + 1, 0, none⟩)], .agg #[.int .i64 x.x, .int .i64 x.y], undef, undef, undef, undef, undef, undef, undef], defers := [] })
    (fun x a' _ X Y row hs hg hr => by obtain ⟨B, h1, h2, h3⟩ := hs; exact ⟨B, h1, Cs.own hg (fun r e => (hr r e).2) h2, h3⟩)
    ?assign ?body ?done ?stop
  case assign =>
    rintro lp pre x W K ⟨⟨hI, hS⟩, hB1⟩ hK
    gi_wp2
    exact hK _ _ ((KeepsOthers.alloc _ _).from _) (KpC.of (below_al' _ _) (by have := hB1.size; omega)) ⟨⟨hI.keep (below_al' _ _), hS.keep (below_al' _ _)⟩, hB1.alloc (by have := hB1.size; omega) _⟩
      ⟨W.heap.size, by have := hB1.size; omega, cs_blk W #[.int .i64 x.x, .int .i64 x.y] 23 _ 0 rfl, rfl⟩
  case body =>
    rintro lp pre x a' W hlp ⟨r, hr⟩ ⟨⟨hI, hS⟩, hB1⟩ ⟨B, hBx, bX, rfl⟩ hlt
    have hSt : St W W [(kS, 0, .int .i64 (sdFold l pre)), (w.heap.size, 0, .slice q l.length cap), (B, 0, .int .i64 x.x), (B, 1, .int .i64 x.y)] := ⟨Below.refl _ _, hI.1, hS.1, bX⟩
    obtain ⟨E, hE0, HE, LE, BE, hne2⟩ := cls hSt
    haveI := hne2
    have g0 : ∀ n : Wd E, n.w.cell? ⟨kS, 0, none⟩ = some (.int .i64 (sdFold l pre)) := fun n => (LE.out n).1.2.1
    have g1 : ∀ n : Wd E, n.w.cell? ⟨w.heap.size, 0, none⟩ = some (.slice q l.length cap) := fun n => (LE.out n).2.1.2.1
    have g2 : ∀ n : Wd E, n.w.cell? ⟨B, 0, none⟩ = some (.int .i64 x.x) := fun n => (LE.out n).2.2.1.2.1
    have g3 : ∀ n : Wd E, n.w.cell? ⟨B, 1, none⟩ = some (.int .i64 x.y) := fun n => (LE.out n).2.2.2.1.2.1
    have HWs := Lib.hid hB1.size
    have HBW : Hid (Below w.heap.size w W) := hBn.out.trans hB1
    have CW1 := fun n : Wd E => where_any q cap l x n.w (by have := HOK.out.2.2; omega) (by have := HOK.out.2.1; omega) (HP.out.keep (HBW.out.trans ((BE.out n).mono HBW.out.size)))
    obtain ⟨wv, hwv⟩ : ∃ v, whr l x = v := ⟨_, rfl⟩
    have HF : Hid (sdFold l (pre ++ [x]) = bits .or .i64 (sdFold l pre) (sdSg wv)) := by unfold Hid; rw [sdFold_snoc, hwv]
    rw [hwv] at CW1
    have F1 := fun n : Wd E => Lib.hid (Calls.quiet_in (C := E) ((CW1 n).mono fun _ _ h => ⟨h.1, HE.out _ _ n.h h.2⟩))
    have F2 := csame (C := E) (fun W => sideSign_any wv W)
    obtain ⟨sv, hsv⟩ : ∃ v, sdSg wv = v := ⟨_, rfl⟩
    rw [hsv] at F2 HF
    have HH := Lib.hid (And.intro (And.intro hI hS) hB1)
    have HE0 := Lib.hid hE0
    clear hSt hI hS bX hB1 CW1 hwv hsv hE0
    gi_wp2
    refine wpIn_region_in_tail (l := lp) 6 E (HE.out _ _ HE0.out (below_dr _)) (by kernel_rfl) (by kernel_rfl) (by kernel_rfl) ?_
    simp only [List.take_succ_cons, List.take_zero, List.drop_succ_cons, List.drop_zero]
    repeat (go_big_quiet_step (first | with_reducible exact (F1 _).out | with_reducible exact (F2 _).out))
    refine wpQuiet_nil ?_
    intro wx hwx
    obtain ⟨n3, rfl⟩ : ∃ n : Wd E, wx = n.w := ⟨⟨wx, hwx⟩, rfl⟩
    clear hwx F1 F2
    have HX := Lib.hid (BE.out n3)
    have HC3 := Lib.hid (LE.out n3)
    obtain ⟨⟨_, i1, i2⟩, _⟩ := HC3.out
    gi_wp2
    have hXs := HX.out.size
    have hWW := HWs.out
    refine ⟨(KeepsFrom.of_below HX.out).trans ((KeepsOthers.setCell _ _ _).from _), (KpC.of HX.out (by omega)).trans (KpC.set _ (Nat.le_refl _) (by omega)), ⟨⟨?_, ?_⟩, ?_⟩⟩
    · rw [HF.out]
      exact Cs.set1 (u := .int .i64 (sdFold l pre)) ⟨HC3.out.1, trivial⟩
    · exact Cs.far (fun y hy => by simp at hy; rw [hy]; simp; omega) (HH.out.1.2.keep HX.out)
    · exact (HH.out.2.trans (HX.out.mono (by omega))).setCell (p := ⟨kS, 0, none⟩) (by simp; omega) _
  case done =>
    rintro D zs W hD rfl ⟨⟨hI, hS⟩, hB1⟩ hK
    obtain ⟨⟨_, i1, i2⟩, _⟩ := hI
    gi_wp2
    refine ⟨by simp, .inl ⟨_, _, rfl, run_takeDeferred hK, ?_⟩⟩
    exact ⟨_, results_tmp2 rfl _ _ _, rfl, (hBn.out.trans hB1).trans (belowK_b (w := w) (Nat.le_refl _) W D _ _ (by omega) hK rfl rfl)⟩
  case stop =>
    rintro D c pre W _ _ h _
    exact h.elim
theorem Sides_any (q : Option Addr) (cap : Nat) (l : List Pt) (b : Bx) (w : World) (hl : l.length ≤ 140737488355327) (hp : PtsAt w q l) :
    Calls Try.prog 65 #[.slice q l.length cap, b.v] w fun e w' => e = .returned (sdRes l b) ∧ Below w.heap.size w w' := by
  by_cases h : ck 3 l = 0 ∧ okB b = true ∧ ¬ 4096 < cntB b ∧ smp l = true
  · exact Sides_main q cap l b w hp h.1 h.2.1 h.2.2.1 h.2.2.2
  · exact Sides_early q cap l b w hl hp h
end Go.Proofs.Ytdefpcjlbganpaa
