import Derived.RangeFuncNested
import Derived.RangeFuncBox
import Derived.RangeFuncBound
import Derived.RangeFuncCalls
import Derived.RangeFuncLeaves
import Derived.Shelf.Abstract
import Derived.Shelf.RegionOpen
import Derived.WalkKit
import Derived.OwnWalkIn
import Derived.TacticsInMore
import Derived.LoopNIn
import Derived.LoopIn
import Derived.Lib.Hide
import Derived.IntWalk
import Derived.Test.YtdefpcjlbganpaaPgn
namespace Go.Proofs.Ytdefpcjlbganpaa
open Go.RowKit Go.Shelf
attribute [local go_sem] Oper.semAt_some
/-- One edge more, as it is reckoned. -/
def awStep (n : Int) (x : Nat × Sg) : Int := wrap64 (n + wrap64 (wrap64 (x.2.a.x * x.2.b.y) - wrap64 (x.2.b.x * x.2.a.y)))
def awr (l : List (Nat × Sg)) : Int := l.foldl awStep 0
theorem awr_snoc (l : List (Nat × Sg)) (x : Nat × Sg) : awr (l ++ [x]) = awStep (awr l) x := by simp [awr]
/-- What Area returns. -/
def arRes (l : List Pt) : Value := if ck 3 l = 0 then .tuple #[.int .i64 (awr (egs l)), .int .i64 0] else .tuple #[.int .i64 0, .int .i64 (ck 3 l)]
theorem ck_len {k : Nat} {l : List Pt} (h : ck k l = 0) : k ≤ l.length ∧ l.length ≤ 200 ∧ l.all okP = true := by
  unfold ck at h
  split at h
  · cases h
  · split at h
    · exact ⟨by omega, by omega, by assumption⟩
    · cases h
set_option maxRecDepth 100000 in
set_option maxHeartbeats 2000000 in
theorem Area_any (p : Option Addr) (cap : Nat) (l : List Pt) (w : World) (hl : l.length ≤ 140737488355327) (hp : PtsAt w p l) :
    Calls Try.prog 30 #[.slice p l.length cap] w fun e w' => e = .returned (arRes l) ∧ Below w.heap.size w w' := by
  obtain ⟨c, hc⟩ : ∃ c, ck 3 l = c := ⟨_, rfl⟩
  have CP := Lib.hid (checkPolygon_any p cap l w hl hp)
  have hHp := Lib.hid hp
  clear hp
  rw [hc] at CP
  by_cases h0 : c = 0
  · subst h0
    obtain ⟨h3, h200, hall⟩ := ck_len hc
    have hR : Hid (arRes l = .tuple #[.int .i64 (awr (egs l)), .int .i64 0]) := by unfold Hid arRes; rw [if_pos hc]
    rw [hR.out]
    clear hR hc hall
    refine (callsIn_wide (n := 5)).1 ?_
    refine callsIn_of_wp_marks Try.func30 rfl trivial ?_ rfl
    simp only [Try.ntmps30, List.size_toArray, List.length_cons, List.length_nil, Nat.reduceAdd, Nat.reduceSub, Array.replicate_succ, Array.replicate_zero, List.push_toArray, List.append_toArray, List.nil_append, List.cons_append]
    gi_wp2_with (refine ⟨trivial, ?_⟩; gi_at_call 90; refine (callsIn_wide.2 CP.out).mono ?_; rintro e w1 ⟨rfl, hb1⟩; gi_wp2; gi_wp2_with (refine ⟨trivial, ?_⟩; gi_at_call 91; refine (edges_in Fence.wide _ trivial rfl _ _ _ _).mono ?_; rintro e w' ⟨rfl, rfl⟩))
    obtain ⟨b, o, rfl, hbl, hcc⟩ := pts_cells hHp.out (by omega)
    have hs1 := hb1.size
    have E0 : Hid (St w1 ((w1.alloc (Obj.cells #[Value.int IntKind.i64 0] 3)).alloc (Obj.cells #[Value.slice (some ⟨b, o, none⟩) l.length cap] 35)) ((w1.heap.size + 1, 0, .slice (some ⟨b, o, none⟩) l.length cap) :: (w1.heap.size, 0, .int .i64 0) :: [])) :=
      ((St.nil w1).box #[.int .i64 0] 3 _ rfl).box #[.slice (some ⟨b, o, none⟩) l.length cap] 35 (w1.heap.size + 1) (by simp)
    have hsz : ((w1.alloc (Obj.cells #[Value.int IntKind.i64 0] 3)).alloc (Obj.cells #[Value.slice (some ⟨b, o, none⟩) l.length cap] 35)).heap.size = w1.heap.size + 2 := by simp
    have hcc1 : ∀ j, j < l.length → ((w1.alloc (Obj.cells #[Value.int IntKind.i64 0] 3)).alloc (Obj.cells #[Value.slice (some ⟨b, o, none⟩) l.length cap] 35)).cell? ⟨b, o + j * 2, none⟩ = some (.int .i64 (pt l j).x) ∧ ((w1.alloc (Obj.cells #[Value.int IntKind.i64 0] 3)).alloc (Obj.cells #[Value.slice (some ⟨b, o, none⟩) l.length cap] 35)).cell? ⟨b, o + j * 2 + 1, none⟩ = some (.int .i64 (pt l j).y) := fun j hj =>
      have hB := hb1.trans (E0.out.b.mono hs1)
      ⟨(hB.cell (p := ⟨b, o + j * 2, none⟩) hbl).trans (hcc j hj).1, (hB.cell (p := ⟨b, o + j * 2 + 1, none⟩) hbl).trans (hcc j hj).2⟩
    obtain ⟨W0, hW0⟩ : ∃ W0, ((w1.alloc (Obj.cells #[Value.int IntKind.i64 0] 3)).alloc (Obj.cells #[Value.slice (some ⟨b, o, none⟩) l.length cap] 35)) = W0 := ⟨_, rfl⟩
    rw [hW0] at E0 hsz hcc1 ⊢
    clear hW0
    have hB0 : Below w.heap.size w W0 := hb1.trans (E0.out.b.mono hs1)
    refine wpIn_rangeFunc_ownH rfl (by omega) (gf := 136) (lb := #[.pointer (some ⟨w1.heap.size + 1, 0, none⟩)]) rfl trivial (enters_of Try.func136 (by kernel_rfl) rfl)
      (edges_stops Fence.wide 4 trivial rfl (by omega) (w1.heap.size + 1) w1.heap.size b o cap l (by omega) (by omega) W0 (by omega) (by omega) E0.out.c.1.2.1 hcc1) kpE_t (kpE_b (by omega) (by omega)) (Below.refl _ _) (fun _ => rfl)
      (fun pre W => Cs W [(w1.heap.size, 0, .int .i64 (awr pre))] ∧ Below w.heap.size W0 W)
      (fun _ _ _ => False)
      (OwnFrom.and (cs_ownFrom _ (fun pre => [(w1.heap.size, 0, .int .i64 (awr pre))])) (ownFrom_below (by omega) (by omega)))
      (fun _ _ _ _ _ hs _ _ => hs)
      ⟨E0.out.c.2, Below.refl _ _⟩
      (fun x a' W => ∃ B, w1.heap.size + 1 < B ∧ Cs W [(B, 0, .int .i64 x.2.a.x), (B, 1, .int .i64 x.2.a.y), (B, 2, .int .i64 x.2.b.x), (B, 3, .int .i64 x.2.b.y)] ∧ a' = { tmps := #[Value.slice (some ⟨b, o, none⟩) l.length cap, undef, Value.int IntKind.i64 0, Value.int IntKind.i64 0, Value.int IntKind.i64 0, Value.pointer (some { block := w1.heap.size, off := 0 }), undef, .pointer (some ⟨B, 0, none⟩), Value.slice (some ⟨b, o, none⟩) l.length cap, Value.int IntKind.i64 0, Value.int IntKind.i64 0, Value.bool false, undef, Value.slice (some ⟨b, o, none⟩) l.length cap, Value.func (Fn.func 136) #[] #[Value.pointer (some { block := w1.heap.size + 1, off := 0 })], .int .i64 (x.1 : Int), .agg #[.int .i64 x.2.a.x, .int .i64 x.2.a.y, .int .i64 x.2.b.x, .int .i64 x.2.b.y], undef, undef, undef, undef, undef, undef, undef, undef, undef, undef, undef, undef, undef, undef, undef, undef, undef, undef], defers := [] })
      (fun x a' _ X Y row hs hg hr => by obtain ⟨B, h1, h2, h3⟩ := hs; exact ⟨B, h1, Cs.own hg (fun r e => (hr r e).2) h2, h3⟩)
      ?assign ?body ?done ?stop
    case assign =>
      rintro lp pre x W K ⟨hI, hB1⟩ hK
      gi_wp2
      exact hK _ _ ((KeepsOthers.alloc _ _).from _) (KpE.of (below_al' _ _) (Nat.le_of_lt hI.1.1)) ⟨hI.keep (below_al' _ _), hB1.alloc (by have := hB1.size; omega) _⟩
        ⟨W.heap.size, by have := hB1.size; omega, cs_blk W #[.int .i64 x.2.a.x, .int .i64 x.2.a.y, .int .i64 x.2.b.x, .int .i64 x.2.b.y] 31 _ 0 rfl, rfl⟩
    case body =>
      rintro lp pre x a' W hlp ⟨r, hr⟩ ⟨hI, hB1⟩ ⟨B, hBx, bX, rfl⟩ hlt
      have hI' := hI
      have hX' := bX
      obtain ⟨⟨_, i1, i2⟩, _⟩ := hI'
      obtain ⟨⟨_, x1, _⟩, ⟨_, x2, _⟩, ⟨_, x3, _⟩, ⟨_, x4, _⟩, _⟩ := hX'
      have hH := Lib.hid hI
      clear hI
      gi_wp2
      refine ⟨(KeepsOthers.setCell _ _ _).from _, KpE.set _ (Nat.le_refl _) (by omega), ⟨by rw [awr_snoc]; exact hH.out.set1, hB1.setCell (p := ⟨w1.heap.size, 0, none⟩) hs1 _⟩⟩
    case done =>
      rintro D zs W hD rfl ⟨hI, hB1⟩ hK
      obtain ⟨⟨_, i1, i2⟩, _⟩ := hI
      gi_wp2
      refine ⟨by simp, .inl ⟨_, _, rfl, run_takeDeferred hK, ?_⟩⟩
      exact ⟨_, results_tmp2 rfl _ _ _, rfl, (hB0.trans hB1).trans (belowK_b (w := w) (Nat.le_refl _) W D _ _ (by omega) hK rfl rfl)⟩
    case stop =>
      rintro D c pre W _ _ h _
      exact h.elim
  · have hR : Hid (arRes l = .tuple #[.int .i64 0, .int .i64 c]) := by unfold Hid arRes; rw [if_neg (by rw [hc]; exact h0), hc]
    rw [hR.out]
    clear hR hc
    go_enter Try.func30, Try.ntmps30
    go_wp2_with fail
    refine CP.out.mono ?_
    rintro e w1 ⟨rfl, hb⟩
    go_wp2_with fail
    go_ret2
    exact ⟨rfl, hb⟩
end Go.Proofs.Ytdefpcjlbganpaa
