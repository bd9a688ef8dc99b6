import Derived.RangeFuncNested
import Derived.RangeFuncBox
import Derived.RangeFuncBound
import Derived.RangeFuncCalls
import Derived.RangeFuncLeaves
import Derived.Shelf.Abstract
import Derived.Shelf.RegionOpen
import Derived.WalkKit
import Derived.OwnWalkIn
import Derived.TacticsInMore
import Derived.LoopNIn
import Derived.LoopIn
import Derived.Lib.Hide
import Derived.IntWalk
import Derived.Test.YtdefpcjlbganpaaArea
namespace Go.Proofs.Ytdefpcjlbganpaa
open Go.RowKit Go.Shelf
attribute [local go_sem] Oper.semAt_some
theorem KeepsFrom.of_below {B : Nat} {W W' : World} (hb : Below W.heap.size W W') : KeepsFrom B W W' := ⟨hb.size, fun k _ _ hk _ => (hb.block k (Array.getElem?_eq_some_iff.1 hk).1).trans hk⟩
/-- One edge more, of the winding. -/
def wnStep (p : Pt) (n : Int) (x : Nat × Sg) : Int :=
  if x.2.a.y ≤ p.y ∧ p.y < x.2.b.y ∧ 0 < trn x.2.a x.2.b p then wrap64 (n + 1)
  else if p.y < x.2.a.y ∧ x.2.b.y ≤ p.y ∧ trn x.2.a x.2.b p < 0 then wrap64 (n - 1) else n
def wnr (p : Pt) (l : List (Nat × Sg)) : Int := l.foldl (wnStep p) 0
theorem wnr_snoc (p : Pt) (l : List (Nat × Sg)) (x : Nat × Sg) : wnr p (l ++ [x]) = wnStep p (wnr p l) x := by simp [wnr]
set_option maxRecDepth 100000 in
set_option maxHeartbeats 2000000 in
theorem winding_any (q : Option Addr) (cap : Nat) (l : List Pt) (p : Pt) (w : World) (hl : l.length ≤ 1000) (h0 : 0 < l.length) (hp : PtsAt w q l) :
    Calls Try.prog 96 #[.slice q l.length cap, p.v] w fun e w' => e = .returned (.int .i64 (wnr p (egs l))) ∧ Below w.heap.size w w' := by
  obtain ⟨b, o, rfl, hbl, hcc⟩ := pts_cells hp h0
  clear hp
  have CT := fun x W => Lib.hid (Turn_any x.2.a x.2.b p W : Calls Try.prog 19 #[(x : Nat × Sg).2.a.v, x.2.b.v, p.v] W _)
  refine (callsIn_wide (n := 5)).1 ?_
  refine callsIn_of_wp_marks Try.func96 rfl trivial ?_ rfl
  simp only [Try.ntmps96, List.size_toArray, List.length_cons, List.length_nil, Nat.reduceAdd, Nat.reduceSub, Array.replicate_succ, Array.replicate_zero, List.push_toArray, List.append_toArray, List.nil_append, List.cons_append]
  gi_wp2_with (refine ⟨trivial, ?_⟩; gi_at_call 91; refine (edges_in Fence.wide _ trivial rfl _ _ _ _).mono ?_; rintro e w' ⟨rfl, rfl⟩)
  have E0 : Hid (St w (((w.alloc (Obj.cells #[Value.int IntKind.i64 p.x, Value.int IntKind.i64 p.y] 23)).alloc (Obj.cells #[Value.int IntKind.i64 0] 3)).alloc (Obj.cells #[Value.slice (some ⟨b, o, none⟩) l.length cap] 35)) ((w.heap.size + 1 + 1, 0, .slice (some ⟨b, o, none⟩) l.length cap) :: (w.heap.size + 1, 0, .int .i64 0) :: (w.heap.size, 0, .int .i64 p.x) :: (w.heap.size, 1, .int .i64 p.y) :: [])) :=
    (((St.nil w).boxP p 23 _ rfl).box #[.int .i64 0] 3 (w.heap.size + 1) (by simp)).box #[.slice (some ⟨b, o, none⟩) l.length cap] 35 (w.heap.size + 1 + 1) (by simp)
  have hsz : (((w.alloc (Obj.cells #[Value.int IntKind.i64 p.x, Value.int IntKind.i64 p.y] 23)).alloc (Obj.cells #[Value.int IntKind.i64 0] 3)).alloc (Obj.cells #[Value.slice (some ⟨b, o, none⟩) l.length cap] 35)).heap.size = w.heap.size + 3 := by simp
  obtain ⟨W0, hW0⟩ : ∃ W0, (((w.alloc (Obj.cells #[Value.int IntKind.i64 p.x, Value.int IntKind.i64 p.y] 23)).alloc (Obj.cells #[Value.int IntKind.i64 0] 3)).alloc (Obj.cells #[Value.slice (some ⟨b, o, none⟩) l.length cap] 35)) = W0 := ⟨_, rfl⟩
  rw [hW0] at E0 hsz ⊢
  clear hW0
  have hB0 : Below w.heap.size w W0 := E0.out.b
  have hcc1 : ∀ j, j < l.length → W0.cell? ⟨b, o + j * 2, none⟩ = some (.int .i64 (pt l j).x) ∧ W0.cell? ⟨b, o + j * 2 + 1, none⟩ = some (.int .i64 (pt l j).y) := fun j hj =>
    ⟨(hB0.cell (p := ⟨b, o + j * 2, none⟩) hbl).trans (hcc j hj).1, (hB0.cell (p := ⟨b, o + j * 2 + 1, none⟩) hbl).trans (hcc j hj).2⟩
  refine wpIn_rangeFunc_ownH rfl (by omega) (gf := 136) (lb := #[.pointer (some ⟨w.heap.size + 1 + 1, 0, none⟩)]) rfl trivial (enters_of Try.func136 (by kernel_rfl) rfl)
    (edges_stops Fence.wide 4 trivial rfl (by omega) (w.heap.size + 1 + 1) w.heap.size b o cap l (by omega) (by omega) W0 (by omega) (by omega) E0.out.c.1.2.1 hcc1) kpE_t (kpE_b (by omega) (by omega)) (Below.refl _ _) (fun _ => rfl)
    (fun pre W => (Cs W [(w.heap.size + 1, 0, .int .i64 (wnr p pre))] ∧ Cs W [(w.heap.size, 0, .int .i64 p.x), (w.heap.size, 1, .int .i64 p.y)]) ∧ Below w.heap.size W0 W)
    (fun _ _ _ => False)
    (OwnFrom.and (OwnFrom.and (cs_ownFrom _ (fun pre => [(w.heap.size + 1, 0, .int .i64 (wnr p pre))])) (cs_ownFrom _ (fun _ => [(w.heap.size, 0, .int .i64 p.x), (w.heap.size, 1, .int .i64 p.y)]))) (ownFrom_below (by omega) (by omega)))
    (fun _ _ _ _ _ hs _ _ => hs)
    ⟨⟨⟨E0.out.c.2.1, trivial⟩, E0.out.c.2.2⟩, Below.refl _ _⟩
    (fun x a' W => ∃ B, w.heap.size + 1 + 1 < B ∧ Cs W [(B, 0, .int .i64 x.2.a.x), (B, 1, .int .i64 x.2.a.y), (B, 2, .int .i64 x.2.b.x), (B, 3, .int .i64 x.2.b.y)] ∧ a' = { tmps := #[Value.slice (some ⟨b, o, none⟩) l.length cap, .agg #[.int .i64 p.x, .int .i64 p.y], undef, .pointer (some ⟨w.heap.size, 0, none⟩), .int .i64 0, .pointer (some ⟨w.heap.size + 1, 0, none⟩), undef, .pointer (some ⟨B, 0, none⟩), undef, Value.slice (some ⟨b, o, none⟩) l.length cap, Value.func (Fn.func 136) #[] #[.pointer (some ⟨w.heap.size + 1 + 1, 0, none⟩)], .int .i64 (x.1 : Int), .agg #[.int .i64 x.2.a.x, .int .i64 x.2.a.y, .int .i64 x.2.b.x, .int .i64 x.2.b.y], undef, undef, undef, undef, undef, undef, undef, undef, undef, undef, undef, undef, undef, undef, undef, undef, undef, undef, undef, undef, undef, undef, undef, undef, undef, undef, undef, undef, undef, undef, undef, undef, undef, undef, undef, undef, undef, undef, undef, undef, undef, undef, undef, undef, undef, undef, undef, undef, undef], defers := [] })
    (fun x a' _ X Y row hs hg hr => by obtain ⟨B, h1, h2, h3⟩ := hs; exact ⟨B, h1, Cs.own hg (fun r e => (hr r e).2) h2, h3⟩)
    ?assign ?body ?done ?stop
  case assign =>
    rintro lp pre x W K ⟨⟨hI, hP⟩, hB1⟩ hK
    gi_wp2
    exact hK _ _ ((KeepsOthers.alloc _ _).from _) (KpE.of (below_al' _ _) (by have := hB1.size; omega)) ⟨⟨hI.keep (below_al' _ _), hP.keep (below_al' _ _)⟩, hB1.alloc (by have := hB1.size; omega) _⟩
      ⟨W.heap.size, by have := hB1.size; omega, cs_blk W #[.int .i64 x.2.a.x, .int .i64 x.2.a.y, .int .i64 x.2.b.x, .int .i64 x.2.b.y] 31 _ 0 rfl, rfl⟩
  case body =>
    rintro lp pre x a' W hlp ⟨r, hr⟩ ⟨⟨hI, hP⟩, hB1⟩ ⟨B, hBx, bX, rfl⟩ hlt
    have hX' := bX
    have hP' := hP
    obtain ⟨⟨_, x1, _⟩, ⟨_, x2, _⟩, ⟨_, x3, _⟩, ⟨_, x4, _⟩, _⟩ := hX'
    obtain ⟨⟨_, p1, _⟩, ⟨_, p2, _⟩, _⟩ := hP'
    have hsW := hB1.size
    have hH := Lib.hid (And.intro (And.intro hI hP) (And.intro hB1 bX))
    obtain ⟨t, ht⟩ : ∃ t, trn x.2.a x.2.b p = t := ⟨_, rfl⟩
    obtain ⟨N, hN⟩ : ∃ N, wnr p pre = N := ⟨_, rfl⟩
    have hst : wnr p (pre ++ [x]) = if x.2.a.y ≤ p.y ∧ p.y < x.2.b.y ∧ 0 < t then wrap64 (N + 1) else if p.y < x.2.a.y ∧ x.2.b.y ≤ p.y ∧ t < 0 then wrap64 (N - 1) else N := by rw [wnr_snoc, wnStep, ht, hN]
    have HST := Lib.hid hst
    have C := CT x W
    rw [ht] at C
    clear hI hP hB1 bX hst ht
    gi_wp2_with (refine ⟨trivial, ?_⟩; gi_at_call 19; refine (CallsIn.inRound lp (callsIn_wide.2 C.out)).mono ?_; rintro e w2 ⟨rfl, hb2⟩; clear x1 x2 x3 x4 p1 p2; obtain ⟨⟨_, x1, _⟩, ⟨_, x2, _⟩, ⟨_, x3, _⟩, ⟨_, x4, _⟩, _⟩ := hH.out.2.2.keep hb2; obtain ⟨⟨_, p1, _⟩, ⟨_, p2, _⟩, _⟩ := hH.out.1.2.keep hb2; obtain ⟨⟨_, i1, i2⟩, _⟩ := hH.out.1.1.keep hb2; rw [hN] at i1)
    all_goals
      first
        | (refine ⟨(KeepsFrom.of_below hb2).trans ((KeepsOthers.setCell _ _ _).from _), (KpE.of hb2 (by omega)).trans (KpE.set _ (by omega) (by omega)), ⟨⟨?_, Cs.far (by simp) (hH.out.1.2.keep hb2)⟩, (hH.out.2.1.trans (hb2.mono (by omega))).setCell (p := ⟨w.heap.size + 1, 0, none⟩) (by simp) _⟩⟩
           rw [HST.out]
           first | rw [if_pos (by omega)] | rw [if_neg (by omega), if_pos (by omega)]
           exact Cs.set1 (hH.out.1.1.keep hb2))
        | (refine ⟨KeepsFrom.of_below hb2, KpE.of hb2 (by omega), ⟨⟨?_, hH.out.1.2.keep hb2⟩, hH.out.2.1.trans (hb2.mono (by omega))⟩⟩
           rw [HST.out, if_neg (by omega), if_neg (by omega), ← hN]
           exact hH.out.1.1.keep hb2)
  case done =>
    rintro D zs W hD rfl ⟨⟨hI, hP⟩, hB1⟩ hK
    obtain ⟨⟨_, i1, i2⟩, _⟩ := hI
    gi_wp2
    refine ⟨by simp, .inl ⟨_, _, rfl, run_takeDeferred hK, ?_⟩⟩
    exact ⟨_, results_tmp rfl _ _ _, rfl, (hB0.trans hB1).trans (belowK_b (w := w) (Nat.le_refl _) W D _ _ (by omega) hK rfl rfl)⟩
  case stop =>
    rintro D c pre W _ _ h _
    exact h.elim
end Go.Proofs.Ytdefpcjlbganpaa
