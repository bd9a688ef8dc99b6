import Derived.RangeFuncNested
import Derived.RangeFuncBox
import Derived.RangeFuncBound
import Derived.RangeFuncCalls
import Derived.RangeFuncLeaves
import Derived.Shelf.Abstract
import Derived.Shelf.RegionOpen
import Derived.WalkKit
import Derived.OwnWalkIn
import Derived.TacticsInMore
import Derived.LoopNIn
import Derived.LoopIn
import Derived.Lib.Hide
import Derived.IntWalk
import Derived.Test.YtdefpcjlbganpaaWind
namespace Go.Proofs.Ytdefpcjlbganpaa
open Go.RowKit Go.Shelf
attribute [local go_sem] Oper.semAt_some
/-- Does an edge begin at a point, or have it? -/
def oeB (p : Pt) (x : Nat × Sg) : Bool := decide (x.2.a = p) || onS x.2 p
set_option maxRecDepth 100000 in
set_option maxHeartbeats 2000000 in
theorem onEdge_any (q : Option Addr) (cap : Nat) (l : List Pt) (p : Pt) (w : World) (hl : l.length ≤ 1000) (h0 : 0 < l.length) (hp : PtsAt w q l) :
    Calls Try.prog 95 #[.slice q l.length cap, p.v] w fun e w' => e = .returned (.bool ((egs l).any (oeB p))) ∧ Below w.heap.size w w' := by
  obtain ⟨px, py⟩ := p
  obtain ⟨b, o, rfl, hbl, hcc⟩ := pts_cells hp h0
  clear hp
  have CT := fun (x : Nat × Sg) W => Lib.hid (On_any x.2 ⟨px, py⟩ W)
  refine (callsIn_wide (n := 5)).1 ?_
  refine callsIn_of_wp_marks Try.func95 rfl trivial ?_ rfl
  simp only [Try.ntmps95, List.size_toArray, List.length_cons, List.length_nil, Nat.reduceAdd, Nat.reduceSub, Array.replicate_succ, Array.replicate_zero, List.push_toArray, List.append_toArray, List.nil_append, List.cons_append]
  gi_wp2_with (refine ⟨trivial, ?_⟩; gi_at_call 91; refine (edges_in Fence.wide _ trivial rfl _ _ _ _).mono ?_; rintro e w' ⟨rfl, rfl⟩)
  have E0 : Hid (St w (((w.alloc (Obj.cells #[Value.int IntKind.i64 px, Value.int IntKind.i64 py] 23)).alloc (Obj.cells #[Value.bool false] 4)).alloc (Obj.cells #[Value.slice (some ⟨b, o, none⟩) l.length cap] 35)) ((w.heap.size + 1 + 1, 0, .slice (some ⟨b, o, none⟩) l.length cap) :: (w.heap.size + 1, 0, .bool false) :: (w.heap.size, 0, .int .i64 px) :: (w.heap.size, 1, .int .i64 py) :: [])) :=
    (((St.nil w).boxP ⟨px, py⟩ 23 _ rfl).box #[.bool false] 4 (w.heap.size + 1) (by simp)).box #[.slice (some ⟨b, o, none⟩) l.length cap] 35 (w.heap.size + 1 + 1) (by simp)
  have hsz : (((w.alloc (Obj.cells #[Value.int IntKind.i64 px, Value.int IntKind.i64 py] 23)).alloc (Obj.cells #[Value.bool false] 4)).alloc (Obj.cells #[Value.slice (some ⟨b, o, none⟩) l.length cap] 35)).heap.size = w.heap.size + 3 := by simp
  obtain ⟨W0, hW0⟩ : ∃ W0, (((w.alloc (Obj.cells #[Value.int IntKind.i64 px, Value.int IntKind.i64 py] 23)).alloc (Obj.cells #[Value.bool false] 4)).alloc (Obj.cells #[Value.slice (some ⟨b, o, none⟩) l.length cap] 35)) = W0 := ⟨_, rfl⟩
  rw [hW0] at E0 hsz ⊢
  clear hW0
  have hB0 : Below w.heap.size w W0 := E0.out.b
  have hcc1 : ∀ j, j < l.length → W0.cell? ⟨b, o + j * 2, none⟩ = some (.int .i64 (pt l j).x) ∧ W0.cell? ⟨b, o + j * 2 + 1, none⟩ = some (.int .i64 (pt l j).y) := fun j hj =>
    ⟨(hB0.cell (p := ⟨b, o + j * 2, none⟩) hbl).trans (hcc j hj).1, (hB0.cell (p := ⟨b, o + j * 2 + 1, none⟩) hbl).trans (hcc j hj).2⟩
  refine wpIn_rangeFunc_ownH rfl (by omega) (gf := 136) (lb := #[.pointer (some ⟨w.heap.size + 1 + 1, 0, none⟩)]) rfl trivial (enters_of Try.func136 (by kernel_rfl) rfl)
    (edges_stops Fence.wide 4 trivial rfl (by omega) (w.heap.size + 1 + 1) w.heap.size b o cap l (by omega) (by omega) W0 (by omega) (by omega) E0.out.c.1.2.1 hcc1) kpE_t (kpE_b (by omega) (by omega)) (Below.refl _ _) (fun _ => rfl)
    (fun pre W => (Cs W [(w.heap.size + 1, 0, .bool false)] ∧ Cs W [(w.heap.size, 0, .int .i64 px), (w.heap.size, 1, .int .i64 py)]) ∧ (Below w.heap.size W0 W ∧ pre.any (oeB ⟨px, py⟩) = false))
    (fun c pre W => (Cs W [(w.heap.size + 1, 0, .bool true)]) ∧ (Below w.heap.size W0 W ∧ (c = .ret ∧ pre.any (oeB ⟨px, py⟩) = true)))
    (OwnFrom.and (OwnFrom.and (cs_ownFrom _ (fun _ => [(w.heap.size + 1, 0, .bool false)])) (cs_ownFrom _ (fun _ => [(w.heap.size, 0, .int .i64 px), (w.heap.size, 1, .int .i64 py)]))) (OwnFrom.and (ownFrom_below (by omega) (by omega)) (fun _ _ _ _ hs _ _ => hs)))
    (fun _ => OwnFrom.and (cs_ownFrom _ (fun _ => [(w.heap.size + 1, 0, .bool true)])) (OwnFrom.and (ownFrom_below (by omega) (by omega)) (fun _ _ _ _ hs _ _ => hs)))
    ⟨⟨⟨E0.out.c.2.1, trivial⟩, E0.out.c.2.2⟩, Below.refl _ _, rfl⟩
    (fun x a' W => ∃ B, w.heap.size + 1 + 1 < B ∧ Cs W [(B, 0, .int .i64 x.2.a.x), (B, 1, .int .i64 x.2.a.y), (B, 2, .int .i64 x.2.b.x), (B, 3, .int .i64 x.2.b.y)] ∧ a' = { tmps := #[Value.slice (some ⟨b, o, none⟩) l.length cap, .agg #[.int .i64 px, .int .i64 py], undef, .pointer (some ⟨w.heap.size, 0, none⟩), .pointer (some ⟨w.heap.size + 1, 0, none⟩), undef, .pointer (some ⟨B, 0, none⟩), Value.slice (some ⟨b, o, none⟩) l.length cap, Value.func (Fn.func 136) #[] #[.pointer (some ⟨w.heap.size + 1 + 1, 0, none⟩)], .int .i64 (x.1 : Int), .agg #[.int .i64 x.2.a.x, .int .i64 x.2.a.y, .int .i64 x.2.b.x, .int .i64 x.2.b.y], undef, undef, undef, undef, undef, undef, undef, undef, undef], defers := [] })
    (fun x a' _ X Y row hs hg hr => by obtain ⟨B, h1, h2, h3⟩ := hs; exact ⟨B, h1, Cs.own hg (fun r e => (hr r e).2) h2, h3⟩)
    ?assign ?body ?done ?stop
  case assign =>
    rintro lp pre x W K ⟨⟨hI, hP⟩, hB1, hA⟩ hK
    gi_wp2
    exact hK _ _ ((KeepsOthers.alloc _ _).from _) (KpE.of (below_al' _ _) (by have := hB1.size; omega)) ⟨⟨hI.keep (below_al' _ _), hP.keep (below_al' _ _)⟩, hB1.alloc (by have := hB1.size; omega) _, hA⟩
      ⟨W.heap.size, by have := hB1.size; omega, cs_blk W #[.int .i64 x.2.a.x, .int .i64 x.2.a.y, .int .i64 x.2.b.x, .int .i64 x.2.b.y] 31 _ 0 rfl, rfl⟩
  case body =>
    rintro lp pre ⟨xi, ⟨⟨ax, ay⟩, ⟨bx, bY⟩⟩⟩ a' W hlp ⟨r, hr⟩ ⟨⟨hI, hP⟩, hB1, hA⟩ ⟨B, hBx, bX, rfl⟩ hlt
    dsimp only at bX hP
    have hsW := hB1.size
    obtain ⟨t, ht⟩ : ∃ t, onS ⟨⟨ax, ay⟩, ⟨bx, bY⟩⟩ ⟨px, py⟩ = t := ⟨_, rfl⟩
    have hst : (pre ++ [(xi, (⟨⟨ax, ay⟩, ⟨bx, bY⟩⟩ : Sg))]).any (oeB ⟨px, py⟩) = ((decide (ax = px) && decide (ay = py)) || t) := by rw [List.any_append, hA, Bool.false_or, List.any_cons, List.any_nil, Bool.or_false, oeB, pt_beq, ht]
    have C : ∀ W, Hid (Calls Try.prog 25 #[.agg #[.int .i64 ax, .int .i64 ay, .int .i64 bx, .int .i64 bY], .agg #[.int .i64 px, .int .i64 py]] W fun e w' => e = .returned (.bool t) ∧ Below W.heap.size W w') := fun W => by rw [← ht]; exact CT (xi, ⟨⟨ax, ay⟩, ⟨bx, bY⟩⟩) W
    clear hA CT
    have key : ∀ (wx : World), Cs wx [(w.heap.size + 1, 0, .bool false)] → Cs wx [(w.heap.size, 0, .int .i64 px), (w.heap.size, 1, .int .i64 py)] → Below W.heap.size W wx → True := fun _ _ _ _ => trivial
    by_cases hax : ax = px
    · subst hax
      by_cases hay : ay = py
      · subst hay
        have hv : Hid ((pre ++ [(xi, (⟨⟨ax, ay⟩, ⟨bx, bY⟩⟩ : Sg))]).any (oeB ⟨ax, ay⟩) = true) := by unfold Hid; rw [hst]; simp
        have hX' := bX
        have hP' := hP
        obtain ⟨⟨_, x1, _⟩, ⟨_, x2, _⟩, ⟨_, x3, _⟩, ⟨_, x4, _⟩, _⟩ := hX'
        obtain ⟨⟨_, p1, _⟩, ⟨_, p2, _⟩, _⟩ := hP'
        have hI' := hI
        obtain ⟨⟨_, i1, i2⟩, _⟩ := hI'
        have hH := Lib.hid (And.intro hI hB1)
        clear hst ht C key bX hP hI hB1
        gi_wp2
        refine ⟨trivial, ?_⟩
        gi_wp2
        exact ⟨(KeepsOthers.setCell _ _ _).from _, ⟨hH.out.1.set1, (hH.out.2).setCell (p := ⟨w.heap.size + 1, 0, none⟩) (by simp) _, rfl, hv.out⟩⟩
      · have hv : Hid ((pre ++ [(xi, (⟨⟨ax, ay⟩, ⟨bx, bY⟩⟩ : Sg))]).any (oeB ⟨ax, py⟩) = t) := by unfold Hid; rw [hst]; simp [hay]
        have hX' := bX
        have hP' := hP
        obtain ⟨⟨_, x1, _⟩, ⟨_, x2, _⟩, ⟨_, x3, _⟩, ⟨_, x4, _⟩, _⟩ := hX'
        obtain ⟨⟨_, p1, _⟩, ⟨_, p2, _⟩, _⟩ := hP'
        have hH := Lib.hid (And.intro (And.intro hI hP) hB1)
        clear hst ht key bX hP hI hB1
        gi_wp2_with (refine ⟨trivial, ?_⟩; gi_at_call 25; refine (CallsIn.inRound lp (callsIn_wide.2 (C _).out)).mono ?_; rintro e w2 ⟨rfl, hb2⟩; clear x1 x2 x3 x4 p1 p2; obtain ⟨⟨_, i1, i2⟩, _⟩ := hH.out.1.1.keep hb2)
        all_goals
          first
            | (refine ⟨(KeepsFrom.of_below hb2).trans ((KeepsOthers.setCell _ _ _).from _), Cs.set1 (hH.out.1.1.keep hb2), (hH.out.2.trans (hb2.mono (by omega))).setCell (p := ⟨w.heap.size + 1, 0, none⟩) (by simp) _, rfl, ?_⟩
               rw [hv.out]; assumption)
            | (refine ⟨KeepsFrom.of_below hb2, KpE.of hb2 (by omega), ⟨hH.out.1.1.keep hb2, hH.out.1.2.keep hb2⟩, hH.out.2.trans (hb2.mono (by omega)), ?_⟩
               rw [hv.out]; assumption)
    · have hv : Hid ((pre ++ [(xi, (⟨⟨ax, ay⟩, ⟨bx, bY⟩⟩ : Sg))]).any (oeB ⟨px, py⟩) = t) := by unfold Hid; rw [hst]; simp [hax]
      have hX' := bX
      have hP' := hP
      obtain ⟨⟨_, x1, _⟩, ⟨_, x2, _⟩, ⟨_, x3, _⟩, ⟨_, x4, _⟩, _⟩ := hX'
      obtain ⟨⟨_, p1, _⟩, ⟨_, p2, _⟩, _⟩ := hP'
      have hH := Lib.hid (And.intro (And.intro hI hP) hB1)
      clear hst ht key bX hP hI hB1
      gi_wp2_with (refine ⟨trivial, ?_⟩; gi_at_call 25; refine (CallsIn.inRound lp (callsIn_wide.2 (C _).out)).mono ?_; rintro e w2 ⟨rfl, hb2⟩; clear x1 x2 x3 x4 p1 p2; obtain ⟨⟨_, i1, i2⟩, _⟩ := hH.out.1.1.keep hb2)
      all_goals
        first
          | (refine ⟨(KeepsFrom.of_below hb2).trans ((KeepsOthers.setCell _ _ _).from _), Cs.set1 (hH.out.1.1.keep hb2), (hH.out.2.trans (hb2.mono (by omega))).setCell (p := ⟨w.heap.size + 1, 0, none⟩) (by simp) _, rfl, ?_⟩
             rw [hv.out]; assumption)
          | (refine ⟨KeepsFrom.of_below hb2, KpE.of hb2 (by omega), ⟨hH.out.1.1.keep hb2, hH.out.1.2.keep hb2⟩, hH.out.2.trans (hb2.mono (by omega)), ?_⟩
             rw [hv.out]; assumption)
  case done =>
    rintro D zs W hD rfl ⟨⟨hI, hP⟩, hB1, hA⟩ hK
    have hI2 := hI.set1 (v := .bool false)
    have hK2 := (KeepsOthers.setCell W ⟨w.heap.size + 1, 0, none⟩ (Value.bool false)).same D _ hK rfl
    have hI3 := Cs.own (grownBy_putObj' _ D (.deferred none)) (fun r e => by cases e; exact ⟨_, hK2, rfl⟩) hI2
    obtain ⟨⟨_, i1, i2⟩, _⟩ := hI
    obtain ⟨⟨_, j1, _⟩, _⟩ := hI3
    gi_wp2
    refine ⟨by simp, .inl ⟨_, _, rfl, run_takeDeferred hK2, ?_⟩⟩
    refine ⟨.bool false, by simp [results, Try.results95, go_sem, j1], by rw [hA], ?_⟩
    exact ((hB0.trans hB1).setCell (p := ⟨w.heap.size + 1, 0, none⟩) (by simp) _).trans (belowK_b (w := w) (Nat.le_refl _) _ D _ _ (by omega) hK2 rfl rfl)
  case stop =>
    rintro D c pre W hD hSp ⟨hI, hB1, rfl, hA⟩ hK
    have hI3 := Cs.own (grownBy_putObj' _ D (.deferred none)) (fun r e => by cases e; exact ⟨_, hK, rfl⟩) hI
    obtain ⟨⟨_, j1, _⟩, _⟩ := hI3
    obtain ⟨tl, htl⟩ := hSp
    have hA2 : (egs l).any (oeB ⟨px, py⟩) = true := by rw [← htl, List.any_append, hA, Bool.true_or]
    gi_wp2
    refine ⟨by simp, .inl ⟨_, _, rfl, run_takeDeferred hK, ?_⟩⟩
    refine ⟨.bool true, by simp [results, Try.results95, go_sem, j1], by rw [hA2], ?_⟩
    exact (hB0.trans hB1).trans (belowK_b (w := w) (Nat.le_refl _) _ D _ _ (by omega) hK rfl rfl)
end Go.Proofs.Ytdefpcjlbganpaa
