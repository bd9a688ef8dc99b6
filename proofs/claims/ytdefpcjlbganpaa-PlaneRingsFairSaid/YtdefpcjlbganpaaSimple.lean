import Derived.RangeFuncNested
import Derived.RangeFuncBox
import Derived.RangeFuncBound
import Derived.RangeFuncCalls
import Derived.RangeFuncLeaves
import Derived.Shelf.Abstract
import Derived.Shelf.RegionOpen
import Derived.WalkKit
import Derived.OwnWalkIn
import Derived.TacticsInMore
import Derived.LoopNIn
import Derived.LoopIn
import Derived.Lib.Hide
import Derived.IntWalk
import Derived.Test.YtdefpcjlbganpaaQuietIn
import Derived.Test.YtdefpcjlbganpaaMeeting
namespace Go.Proofs.Ytdefpcjlbganpaa
open Go.RowKit Go.Shelf Go.BigFrame
attribute [local go_sem] Oper.semAt_some
/-- How an edge of a simple polygon meets a later one. -/
def smM (k n : Int) : Int := if k = 1 ∨ k = wrap64 (n - 1) then 1 else 0
set_option maxHeartbeats 400000 in
theorem simpleMeeting_any (k n : Int) (w : World) :
   Calls Try.prog 137 #[.int .i64 k, .int .i64 n] w fun e w' => e = .returned (.int .i64 (smM k n)) ∧ w = w' := by
  obtain ⟨m, hm⟩ : ∃ m, wrap64 (n - 1) = m := ⟨_, rfl⟩
  have HM : Hid (smM k n = if k = 1 ∨ k = m then 1 else 0) := by unfold Hid smM; rw [hm]
  obtain ⟨M, hM⟩ : ∃ M, smM k n = M := ⟨_, rfl⟩
  rw [hM] at HM ⊢
  by_cases h1 : k = 1
  · have : M = 1 := by rw [HM.out, if_pos (Or.inl h1)]
    subst this
    clear HM hM hm
    subst h1
    go_enter Try.func137, Try.ntmps137
    go_wp2_with fail
    all_goals (go_ret; exact ⟨rfl, rfl⟩)
  · by_cases h2 : k = m
    · have : M = 1 := by rw [HM.out, if_pos (Or.inr h2)]
      subst this
      clear HM hM
      subst h2
      go_enter Try.func137, Try.ntmps137
      go_wp2_with fail
      all_goals (go_ret; exact ⟨rfl, rfl⟩)
    · have : M = 0 := by rw [HM.out, if_neg (by omega)]
      subst this
      clear HM hM
      go_enter Try.func137, Try.ntmps137
      go_wp2_with fail
      all_goals (go_ret; first | exact ⟨rfl, rfl⟩ | (exfalso; simp_all))
theorem ownFrom_kpE {β : Type} {n Bs B : Nat} {W : World} (hn : n ≤ W.heap.size) (hB : n ≤ B) : OwnFrom B (fun (_ : β) W' => KpE n Bs W W') := fun s X Y row hs hg hr =>
  ⟨ownFrom_below (β := β) hn hB s X Y row hs.1 hg hr, fun v h => cell_kept (hs.2 v h) hg (fun r e => (hr r e).2)⟩
/-- Do two edges not meet as those of a simple polygon with n corners? -/
def badP (n : Nat) (x y : Nat × Sg) : Bool := decide ((x.1 : Int) < (y.1 : Int)) && !decide (mtg x.2 y.2 = smM (wrap64 ((y.1 : Int) - (x.1 : Int))) (n : Int))
/-- Is a polygon simple? -/
def smp (l : List Pt) : Bool := (egs l).all fun x => !(egs l).any (badP l.length x)
/-- A class of worlds: grown from one, and these cells lie there. -/
def CW (Wb : World) (L : List (Nat × Nat × Value)) (W : World) : Prop := Below Wb.heap.size Wb W ∧ Cs W L
theorem CW.next {Wb : World} {L} {W W' : World} (h : CW Wb L W) (hb : Below W.heap.size W W') : CW Wb L W' := ⟨h.1.trans (hb.mono h.1.size), h.2.keep hb⟩
set_option maxRecDepth 100000 in
set_option maxHeartbeats 4000000 in
theorem simple_any (q : Option Addr) (cap : Nat) (l : List Pt) (w : World) (hl : l.length ≤ 1000) (h0 : 0 < l.length) (hp : PtsAt w q l) :
    Calls Try.prog 93 #[.slice q l.length cap] w fun e w' => e = .returned (.bool (smp l)) ∧ Below w.heap.size w w' := by
  obtain ⟨b, o, rfl, hbl, hcc⟩ := pts_cells hp h0
  clear hp
  have CM := fun (s t : Sg) W => Lib.hid (Meeting_any s t W)
  have CS := fun (k : Int) W => Lib.hid (simpleMeeting_any k (l.length : Int) W)
  refine (callsIn_wide (n := 7)).1 ?_
  refine callsIn_of_wp_marks Try.func93 rfl trivial ?_ rfl
  simp only [Try.ntmps93, List.size_toArray, List.length_cons, List.length_nil, Nat.reduceAdd, Nat.reduceSub, Array.replicate_succ, Array.replicate_zero, List.push_toArray, List.append_toArray, List.nil_append, List.cons_append]
  gi_wp2_with (refine ⟨trivial, ?_⟩; gi_at_call 91; refine (edges_in Fence.wide _ trivial rfl _ _ _ _).mono ?_; rintro e w' ⟨rfl, rfl⟩)
  have E0 : Hid (St w (((w.alloc (Obj.cells #[Value.slice (some ⟨b, o, none⟩) l.length cap] 35)).alloc (Obj.cells #[Value.bool false] 4)).alloc (Obj.cells #[Value.slice (some ⟨b, o, none⟩) l.length cap] 35)) ((w.heap.size + 1 + 1, 0, .slice (some ⟨b, o, none⟩) l.length cap) :: (w.heap.size + 1, 0, .bool false) :: (w.heap.size, 0, .slice (some ⟨b, o, none⟩) l.length cap) :: [])) :=
    (((St.nil w).box #[.slice (some ⟨b, o, none⟩) l.length cap] 35 _ rfl).box #[.bool false] 4 (w.heap.size + 1) (by simp)).box #[.slice (some ⟨b, o, none⟩) l.length cap] 35 (w.heap.size + 1 + 1) (by simp)
  have hsz : (((w.alloc (Obj.cells #[Value.slice (some ⟨b, o, none⟩) l.length cap] 35)).alloc (Obj.cells #[Value.bool false] 4)).alloc (Obj.cells #[Value.slice (some ⟨b, o, none⟩) l.length cap] 35)).heap.size = w.heap.size + 3 := by simp
  obtain ⟨W0, hW0⟩ : ∃ W0, (((w.alloc (Obj.cells #[Value.slice (some ⟨b, o, none⟩) l.length cap] 35)).alloc (Obj.cells #[Value.bool false] 4)).alloc (Obj.cells #[Value.slice (some ⟨b, o, none⟩) l.length cap] 35)) = W0 := ⟨_, rfl⟩
  rw [hW0] at E0 hsz ⊢
  clear hW0
  have hB0 : Below w.heap.size w W0 := E0.out.b
  have hcc1 : ∀ W, Below w.heap.size W0 W → ∀ j, j < l.length → W.cell? ⟨b, o + j * 2, none⟩ = some (.int .i64 (pt l j).x) ∧ W.cell? ⟨b, o + j * 2 + 1, none⟩ = some (.int .i64 (pt l j).y) := fun W hW j hj =>
    have hB := hB0.trans hW
    ⟨(hB.cell (p := ⟨b, o + j * 2, none⟩) hbl).trans (hcc j hj).1, (hB.cell (p := ⟨b, o + j * 2 + 1, none⟩) hbl).trans (hcc j hj).2⟩
  refine wpIn_rangeFunc_ownH rfl (by omega) (gf := 136) (lb := #[.pointer (some ⟨w.heap.size + 1 + 1, 0, none⟩)]) rfl trivial (enters_of Try.func136 (by kernel_rfl) rfl)
    (edges_stops Fence.wide 6 trivial rfl (by omega) (w.heap.size + 1 + 1) w.heap.size b o cap l (by omega) (by omega) W0 (by omega) (by omega) E0.out.c.1.2.1 (hcc1 W0 (Below.refl _ _))) kpE_t (kpE_b (by omega) (by omega)) (Below.refl _ _) (fun _ => rfl)
    (fun pre W => (Cs W [(w.heap.size + 1, 0, .bool false)] ∧ Cs W [(w.heap.size, 0, .slice (some ⟨b, o, none⟩) l.length cap)]) ∧ (Below w.heap.size W0 W ∧ (pre.all fun x => !(egs l).any (badP l.length x)) = true))
    (fun c pre W => (Cs W [(w.heap.size + 1, 0, .bool false)]) ∧ (Below w.heap.size W0 W ∧ (c = .ret ∧ (pre.all fun x => !(egs l).any (badP l.length x)) = false)))
    (OwnFrom.and (OwnFrom.and (cs_ownFrom _ (fun _ => [(w.heap.size + 1, 0, .bool false)])) (cs_ownFrom _ (fun _ => [(w.heap.size, 0, .slice (some ⟨b, o, none⟩) l.length cap)]))) (OwnFrom.and (ownFrom_below (by omega) (by omega)) (fun _ _ _ _ hs _ _ => hs)))
    (fun _ => OwnFrom.and (cs_ownFrom _ (fun _ => [(w.heap.size + 1, 0, .bool false)])) (OwnFrom.and (ownFrom_below (by omega) (by omega)) (fun _ _ _ _ hs _ _ => hs)))
    ⟨⟨⟨E0.out.c.2.1, trivial⟩, E0.out.c.2.2⟩, Below.refl _ _, rfl⟩
    (fun x a' W => ∃ Bi Bg, (w.heap.size + 1 + 1 < Bi ∧ w.heap.size + 1 + 1 < Bg) ∧ (Cs W [(Bi, 0, .int .i64 (x.1 : Int))] ∧ Cs W [(Bg, 0, .int .i64 x.2.a.x), (Bg, 1, .int .i64 x.2.a.y), (Bg, 2, .int .i64 x.2.b.x), (Bg, 3, .int .i64 x.2.b.y)]) ∧ a' = { tmps := #[Value.slice (some ⟨b, o, none⟩) l.length cap, .pointer (some ⟨w.heap.size, 0, none⟩), .pointer (some ⟨w.heap.size + 1, 0, none⟩), .pointer (some ⟨Bi, 0, none⟩), .pointer (some ⟨Bg, 0, none⟩), undef, undef, Value.slice (some ⟨b, o, none⟩) l.length cap, Value.func (Fn.func 136) #[] #[.pointer (some ⟨w.heap.size + 1 + 1, 0, none⟩)], .int .i64 (x.1 : Int), .agg #[.int .i64 x.2.a.x, .int .i64 x.2.a.y, .int .i64 x.2.b.x, .int .i64 x.2.b.y], undef, undef, undef, undef, undef, undef, undef, undef, undef, undef, undef, undef, undef, undef, undef, undef, undef, undef, undef], defers := [] })
    (fun x a' _ X Y row hs hg hr => by obtain ⟨Bi, Bg, h1, ⟨h2, h3⟩, h4⟩ := hs; exact ⟨Bi, Bg, h1, ⟨Cs.own hg (fun r e => (hr r e).2) h2, Cs.own hg (fun r e => (hr r e).2) h3⟩, h4⟩)
    ?assign ?body ?done ?stop
  case assign =>
    rintro lp pre x W K ⟨⟨hI, hP⟩, hB1, hA⟩ hK
    have hsW := hB1.size
    have hb2 : Below W.heap.size W ((W.alloc (.cells #[.int .i64 (x.1 : Int)] 3)).alloc (.cells #[.int .i64 x.2.a.x, .int .i64 x.2.a.y, .int .i64 x.2.b.x, .int .i64 x.2.b.y] 31)) := (below_al' _ _).trans ((below_al' _ _).mono (by simp))
    have c1 := (cs_blk W #[.int .i64 (x.1 : Int)] 3 _ 0 rfl).keep (below_al' (W.alloc (.cells #[.int .i64 (x.1 : Int)] 3)) (.cells #[.int .i64 x.2.a.x, .int .i64 x.2.a.y, .int .i64 x.2.b.x, .int .i64 x.2.b.y] 31))
    have c2 := cs_blk (W.alloc (.cells #[.int .i64 (x.1 : Int)] 3)) #[.int .i64 x.2.a.x, .int .i64 x.2.a.y, .int .i64 x.2.b.x, .int .i64 x.2.b.y] 31 _ 0 rfl
    rw [World.size_alloc] at c2
    gi_wp2
    exact hK _ _ (KeepsFrom.of_below hb2) (KpE.of hb2 (by omega)) ⟨⟨hI.keep hb2, hP.keep hb2⟩, hB1.trans (hb2.mono (by omega)), hA⟩
      ⟨W.heap.size, W.heap.size + 1, ⟨by omega, by omega⟩, ⟨c1, c2⟩, rfl⟩
  case body =>
    rintro lp pre ⟨xi, sx⟩ a' W hlp ⟨r, hr⟩ ⟨⟨hI, hP⟩, hB1, hA⟩ ⟨Bi, Bg, ⟨hBi, hBg⟩, ⟨cI, cG⟩, rfl⟩ hlt
    dsimp only at cI cG
    have hsW := hB1.size
    have hP' := hP
    obtain ⟨⟨_, p1, _⟩, _⟩ := hP'
    have hH := Lib.hid (And.intro (And.intro (And.intro hI hP) (And.intro cI cG)) (And.intro hB1 hA))
    clear hI hP cI cG hB1 hA
    gi_wp2_with (refine ⟨trivial, ?_⟩; gi_at_call 91; refine (CallsIn.inRound lp (edges_in Fence.wide _ trivial rfl _ _ _ _)).mono ?_; rintro e w' ⟨rfl, rfl⟩)
    have hr' : (W.alloc (.cells #[Value.slice (some ⟨b, o, none⟩) l.length cap] 35)).heap[lp]? = some (.loop r) := (Below.heap_alloc W _ lp (Array.getElem?_eq_some_iff.1 hr).1).trans hr
    have hbW := below_al' W (.cells #[Value.slice (some ⟨b, o, none⟩) l.length cap] 35)
    have hW1s : (W.alloc (.cells #[Value.slice (some ⟨b, o, none⟩) l.length cap] 35)).heap.size = W.heap.size + 1 := by simp
    have hBx : (W.alloc (.cells #[Value.slice (some ⟨b, o, none⟩) l.length cap] 35)).cell? ⟨W.heap.size, 0, none⟩ = some (Value.slice (some ⟨b, o, none⟩) l.length cap) := new_at W _ 35 0 _ rfl
    obtain ⟨W1, hW1⟩ : ∃ W1, W.alloc (.cells #[Value.slice (some ⟨b, o, none⟩) l.length cap] 35) = W1 := ⟨_, rfl⟩
    rw [hW1] at hr' hbW hW1s hBx ⊢
    clear hW1
    have hB1 : Below w.heap.size W0 W1 := hH.out.2.1.trans (hbW.mono (by omega))
    refine wpIn_rangeFunc_ownN (l₀ := lp) (r₀ := r) rfl hr' (by omega) (gf := 136) (lb := #[.pointer (some ⟨W.heap.size, 0, none⟩)]) rfl trivial (enters_of Try.func136 (by kernel_rfl) rfl)
      ((edges_stops Fence.wide 4 trivial rfl (by omega) W.heap.size w.heap.size b o cap l (by omega) (by omega) W1 (by omega) (by omega) hBx (hcc1 W1 hB1)).inRound lp) kpE_t (kpE_b (by omega) (by omega)) (Below.refl _ _) (fun _ => rfl)
      (fun pre' W' => ((Cs W' [(w.heap.size + 1, 0, .bool false)] ∧ Cs W' [(w.heap.size, 0, Value.slice (some ⟨b, o, none⟩) l.length cap)]) ∧ (Cs W' [(Bi, 0, .int .i64 (xi : Int))] ∧ Cs W' [(Bg, 0, .int .i64 sx.a.x), (Bg, 1, .int .i64 sx.a.y), (Bg, 2, .int .i64 sx.b.x), (Bg, 3, .int .i64 sx.b.y)])) ∧ ((KpE w.heap.size (w.heap.size + 1 + 1) W W' ∧ KeepsFrom W0.heap.size W W') ∧ (Below w.heap.size W1 W' ∧ pre'.any (badP l.length (xi, sx)) = false)))
      (fun c pre' W' => Cs W' [(w.heap.size + 1, 0, .bool false)] ∧ ((KeepsFrom W0.heap.size W W' ∧ Below w.heap.size W1 W') ∧ (c = .ret ∧ pre'.any (badP l.length (xi, sx)) = true)))
      (OwnFrom.and (OwnFrom.and (OwnFrom.and (cs_ownFrom _ (fun _ => [(w.heap.size + 1, 0, .bool false)])) (cs_ownFrom _ (fun _ => [(w.heap.size, 0, Value.slice (some ⟨b, o, none⟩) l.length cap)]))) (OwnFrom.and (cs_ownFrom _ (fun _ => [(Bi, 0, .int .i64 (xi : Int))])) (cs_ownFrom _ (fun _ => [(Bg, 0, .int .i64 sx.a.x), (Bg, 1, .int .i64 sx.a.y), (Bg, 2, .int .i64 sx.b.x), (Bg, 3, .int .i64 sx.b.y)]))))
        (OwnFrom.and (OwnFrom.and (ownFrom_kpE (by omega) (by omega)) (ownFrom_keepsFrom (by omega))) (OwnFrom.and (ownFrom_below (by omega) (by omega)) (fun _ _ _ _ hs _ _ => hs))))
      (fun _ => OwnFrom.and (cs_ownFrom _ (fun _ => [(w.heap.size + 1, 0, .bool false)])) (OwnFrom.and (OwnFrom.and (ownFrom_keepsFrom (by omega)) (ownFrom_below (by omega) (by omega))) (fun _ _ _ _ hs _ _ => hs)))
      ⟨⟨⟨hH.out.1.1.1.keep hbW, hH.out.1.1.2.keep hbW⟩, hH.out.1.2.1.keep hbW, hH.out.1.2.2.keep hbW⟩, ⟨KpE.of hbW (by omega), KeepsFrom.of_below hbW⟩, Below.refl _ _, rfl⟩
      (fun y a'' W' => ∃ Bt, Cs W' [(Bt, 0, .int .i64 y.2.a.x), (Bt, 1, .int .i64 y.2.a.y), (Bt, 2, .int .i64 y.2.b.x), (Bt, 3, .int .i64 y.2.b.y)] ∧ a'' = { tmps := #[Value.slice (some ⟨b, o, none⟩) l.length cap, .pointer (some ⟨w.heap.size, 0, none⟩), .pointer (some ⟨w.heap.size + 1, 0, none⟩), .pointer (some ⟨Bi, 0, none⟩), .pointer (some ⟨Bg, 0, none⟩), .int .i64 (y.1 : Int), .pointer (some ⟨Bt, 0, none⟩), Value.slice (some ⟨b, o, none⟩) l.length cap, Value.func (Fn.func 136) #[] #[.pointer (some ⟨w.heap.size + 1 + 1, 0, none⟩)], .int .i64 (xi : Int), .agg #[.int .i64 sx.a.x, .int .i64 sx.a.y, .int .i64 sx.b.x, .int .i64 sx.b.y], Value.slice (some ⟨b, o, none⟩) l.length cap, Value.func (Fn.func 136) #[] #[.pointer (some ⟨W.heap.size, 0, none⟩)], .int .i64 (y.1 : Int), .agg #[.int .i64 y.2.a.x, .int .i64 y.2.a.y, .int .i64 y.2.b.x, .int .i64 y.2.b.y], undef, undef, undef, undef, undef, undef, undef, undef, undef, undef, undef, undef, undef, undef, undef], defers := [] })
      (fun y a'' _ X Y row hs hg hr => by obtain ⟨Bt, h1, h2⟩ := hs; exact ⟨Bt, Cs.own hg (fun r e => (hr r e).2) h1, h2⟩)
      ?assign2 ?body2 ?done2 ?stop2
    case assign2 =>
      rintro l2 pre' y W' K ⟨⟨⟨g1, g2⟩, g3, g4⟩, ⟨g5, g6⟩, g7, g8⟩ hK
      have hs7 := g7.size
      have hb2 := below_al' W' (.cells #[.int .i64 y.2.a.x, .int .i64 y.2.a.y, .int .i64 y.2.b.x, .int .i64 y.2.b.y] 31)
      have c2 := cs_blk W' #[.int .i64 y.2.a.x, .int .i64 y.2.a.y, .int .i64 y.2.b.x, .int .i64 y.2.b.y] 31 _ 0 rfl
      gi_wp2
      exact hK _ _ (KeepsFrom.of_below hb2) (KpE.of hb2 (by omega)) ⟨⟨⟨g1.keep hb2, g2.keep hb2⟩, g3.keep hb2, g4.keep hb2⟩, ⟨g5.trans (KpE.of hb2 (by omega)), g6.trans (KeepsFrom.of_below hb2)⟩, g7.trans (hb2.mono (by omega)), g8⟩ ⟨W'.heap.size, c2, rfl⟩
    case body2 =>
      rintro l2 pre' ⟨yi, sy⟩ a'' W' hl2 ⟨r2, hr2⟩ ⟨⟨⟨g1, g2⟩, g3, g4⟩, ⟨g5, g6⟩, g7, g8⟩ ⟨Bt, cT, rfl⟩ hlt2
      dsimp only at cT
      have hs7 := g7.size
      obtain ⟨L, hL⟩ : ∃ L, [(Bi, 0, .int .i64 (xi : Int)), (Bg, 0, .int .i64 sx.a.x), (Bg, 1, .int .i64 sx.a.y), (Bg, 2, .int .i64 sx.b.x), (Bg, 3, .int .i64 sx.b.y), (Bt, 0, .int .i64 sy.a.x), (Bt, 1, .int .i64 sy.a.y), (Bt, 2, .int .i64 sy.b.x), (Bt, 3, .int .i64 sy.b.y), (w.heap.size, 0, Value.slice (some ⟨b, o, none⟩) l.length cap)] = L := ⟨_, rfl⟩
      have hC : CW W' L W' := ⟨Below.refl _ _, by rw [← hL]; exact ⟨g3.1, g4.1, g4.2.1, g4.2.2.1, g4.2.2.2.1, cT.1, cT.2.1, cT.2.2.1, cT.2.2.2.1, g2⟩⟩
      have hCd : Hid (CW W' L W'.drew) := hC.next (below_dr W')
      haveI : Nonempty (Wd (CW W' L)) := ⟨⟨_, hC⟩⟩
      have hU : ∀ Wx, Cs Wx L → Cs Wx [(Bi, 0, .int .i64 (xi : Int)), (Bg, 0, .int .i64 sx.a.x), (Bg, 1, .int .i64 sx.a.y), (Bg, 2, .int .i64 sx.b.x), (Bg, 3, .int .i64 sx.b.y), (Bt, 0, .int .i64 sy.a.x), (Bt, 1, .int .i64 sy.a.y), (Bt, 2, .int .i64 sy.b.x), (Bt, 3, .int .i64 sy.b.y), (w.heap.size, 0, Value.slice (some ⟨b, o, none⟩) l.length cap)] := fun Wx h => by rw [hL]; exact h
      have f0 : ∀ n : Wd (CW W' L), n.w.cell? ⟨Bi, 0, none⟩ = some (.int .i64 (xi : Int)) := fun n => (hU _ n.h.2).1.2.1
      have f1 : ∀ n : Wd (CW W' L), n.w.cell? ⟨Bg, 0, none⟩ = some (.int .i64 sx.a.x) := fun n => (hU _ n.h.2).2.1.2.1
      have f2 : ∀ n : Wd (CW W' L), n.w.cell? ⟨Bg, 1, none⟩ = some (.int .i64 sx.a.y) := fun n => (hU _ n.h.2).2.2.1.2.1
      have f3 : ∀ n : Wd (CW W' L), n.w.cell? ⟨Bg, 2, none⟩ = some (.int .i64 sx.b.x) := fun n => (hU _ n.h.2).2.2.2.1.2.1
      have f4 : ∀ n : Wd (CW W' L), n.w.cell? ⟨Bg, 3, none⟩ = some (.int .i64 sx.b.y) := fun n => (hU _ n.h.2).2.2.2.2.1.2.1
      have f5 : ∀ n : Wd (CW W' L), n.w.cell? ⟨Bt, 0, none⟩ = some (.int .i64 sy.a.x) := fun n => (hU _ n.h.2).2.2.2.2.2.1.2.1
      have f6 : ∀ n : Wd (CW W' L), n.w.cell? ⟨Bt, 1, none⟩ = some (.int .i64 sy.a.y) := fun n => (hU _ n.h.2).2.2.2.2.2.2.1.2.1
      have f7 : ∀ n : Wd (CW W' L), n.w.cell? ⟨Bt, 2, none⟩ = some (.int .i64 sy.b.x) := fun n => (hU _ n.h.2).2.2.2.2.2.2.2.1.2.1
      have f8 : ∀ n : Wd (CW W' L), n.w.cell? ⟨Bt, 3, none⟩ = some (.int .i64 sy.b.y) := fun n => (hU _ n.h.2).2.2.2.2.2.2.2.2.1.2.1
      have f9 : ∀ n : Wd (CW W' L), n.w.cell? ⟨w.heap.size, 0, none⟩ = some (Value.slice (some ⟨b, o, none⟩) l.length cap) := fun n => (hU _ n.h.2).2.2.2.2.2.2.2.2.2.1.2.1
      obtain ⟨M, hM⟩ : ∃ M, mtg sx sy = M := ⟨_, rfl⟩
      obtain ⟨k, hk⟩ : ∃ k, wrap64 ((yi : Int) - (xi : Int)) = k := ⟨_, rfl⟩
      obtain ⟨K, hK⟩ : ∃ K, smM k (l.length : Int) = K := ⟨_, rfl⟩
      have D1 := fun n : Wd (CW W' L) => Lib.hid (Calls.quiet_in (C := CW W' L) ((CM sx sy n.w).out.mono fun e w' h => ⟨h.1, n.h.next h.2⟩))
      have D2 := fun n : Wd (CW W' L) => Lib.hid (Calls.quiet_in (C := CW W' L) ((CS k n.w).out.mono fun e w' h => ⟨h.1, h.2 ▸ n.h⟩))
      have hst : (pre' ++ [(yi, sy)]).any (badP l.length (xi, sx)) = (decide ((xi : Int) < (yi : Int)) && !decide (M = K)) := by rw [List.any_append, g8, Bool.false_or, List.any_cons, List.any_nil, Bool.or_false, badP, hM, hk, hK]
      rw [hM] at D1
      rw [hK] at D2
      have HST := Lib.hid hst
      have hG := Lib.hid (And.intro (And.intro (And.intro g1 g2) (And.intro g3 g4)) (And.intro (And.intro g5 g6) g7))
      clear CM CS hL hU hM hK hst g1 g2 g3 g4 g5 g6 g7 g8 cT hC
      by_cases hij : xi < yi
      · have hd : decide (xi < yi) = true := by simp [hij]
        have hst1 : Hid ((pre' ++ [(yi, sy)]).any (badP l.length (xi, sx)) = !decide (M = K)) := by unfold Hid; rw [HST.out]; simp [hij]
        gi_wp2
        refine wpIn_region_in (l := l2) (CW W' L) hCd.out (by kernel_rfl) (by kernel_rfl) (by kernel_rfl) ?_
        repeat (go_big_quiet_step (first | with_reducible exact (D1 _).out | with_reducible exact (D2 _).out))
        refine wpQuiet_nil ?_
        intro wx hwx
        have hX := Lib.hid hwx.1
        obtain ⟨⟨_, i1, i2⟩, _⟩ := hG.out.1.1.1.keep hwx.1
        clear hwx D1 D2 f0 f1 f2 f3 f4 f5 f6 f7 f8 f9 this hCd
        by_cases hMK : M = K
        · have hb : (M != K) = false := by simp [hMK]
          have hst2 : Hid ((pre' ++ [(yi, sy)]).any (badP l.length (xi, sx)) = false) := by unfold Hid; rw [hst1.out]; simp [hMK]
          clear hMK
          gi_wp2
          exact ⟨KeepsFrom.of_below hX.out, KpE.of hX.out (by omega), ⟨⟨hG.out.1.1.1.keep hX.out, hG.out.1.1.2.keep hX.out⟩, hG.out.1.2.1.keep hX.out, hG.out.1.2.2.keep hX.out⟩, ⟨hG.out.2.1.1.trans (KpE.of hX.out (by omega)), hG.out.2.1.2.trans (KeepsFrom.of_below hX.out)⟩, hG.out.2.2.trans (hX.out.mono (by omega)), hst2.out⟩
        · have hb : (M != K) = true := by simp [hMK]
          have hst2 : Hid ((pre' ++ [(yi, sy)]).any (badP l.length (xi, sx)) = true) := by unfold Hid; rw [hst1.out]; simp [hMK]
          clear hMK
          gi_wp2
          exact ⟨(KeepsFrom.of_below hX.out).trans ((KeepsOthers.setCell _ _ _).from _), Cs.set1 (hG.out.1.1.1.keep hX.out), ⟨(hG.out.2.1.2.trans (KeepsFrom.of_below hX.out)).trans ((KeepsOthers.setCell _ _ _).from _), (hG.out.2.2.trans (hX.out.mono (by omega))).setCell (p := ⟨w.heap.size + 1, 0, none⟩) (by simp) _⟩, rfl, hst2.out⟩
      · have hd : decide (xi < yi) = false := by simp [hij]
        have hst1 : Hid ((pre' ++ [(yi, sy)]).any (badP l.length (xi, sx)) = false) := by unfold Hid; rw [HST.out]; simp; omega
        gi_wp2
        refine wpIn_region_in (l := l2) (CW W' L) hCd.out (by kernel_rfl) (by kernel_rfl) (by kernel_rfl) ?_
        repeat (go_big_quiet_step (first | with_reducible exact (D1 _).out | with_reducible exact (D2 _).out))
        refine wpQuiet_nil ?_
        intro wx hwx
        have hX := Lib.hid hwx.1
        clear hwx D1 D2 f0 f1 f2 f3 f4 f5 f6 f7 f8 f9 this hCd
        gi_wp2
        exact ⟨KeepsFrom.of_below hX.out, KpE.of hX.out (by omega), ⟨⟨hG.out.1.1.1.keep hX.out, hG.out.1.1.2.keep hX.out⟩, hG.out.1.2.1.keep hX.out, hG.out.1.2.2.keep hX.out⟩, ⟨hG.out.2.1.1.trans (KpE.of hX.out (by omega)), hG.out.2.1.2.trans (KeepsFrom.of_below hX.out)⟩, hG.out.2.2.trans (hX.out.mono (by omega)), hst1.out⟩
    case done2 =>
      rintro zs W' rfl ⟨⟨⟨g1, g2⟩, g3, g4⟩, ⟨g5, g6⟩, g7, g8⟩
      gi_wp2
      exact ⟨g6, g5, ⟨g1, g2⟩, hB1.trans g7, by rw [List.all_append, hH.out.2.2]; simp [g8]⟩
    case stop2 =>
      rintro c pre' W' hSp ⟨g1, ⟨g6, g7⟩, rfl, g8⟩
      obtain ⟨tl, htl⟩ := hSp
      gi_wp2
      exact ⟨g6, g1, hB1.trans g7, rfl, by rw [List.all_append, hH.out.2.2, ← htl]; simp [g8]⟩
  case done =>
    rintro D zs W hD rfl ⟨⟨hI, hP⟩, hB1, hA⟩ hK
    have hI2 := hI.set1 (v := .bool true)
    have hK2 := (KeepsOthers.setCell W ⟨w.heap.size + 1, 0, none⟩ (Value.bool true)).same D _ hK rfl
    have hI3 := Cs.own (grownBy_putObj' _ D (.deferred none)) (fun r e => by cases e; exact ⟨_, hK2, rfl⟩) hI2
    obtain ⟨⟨_, i1, i2⟩, _⟩ := hI
    obtain ⟨⟨_, j1, _⟩, _⟩ := hI3
    gi_wp2
    refine ⟨by simp, .inl ⟨_, _, rfl, run_takeDeferred hK2, ?_⟩⟩
    refine ⟨.bool true, by simp [results, Try.results93, go_sem, j1], by rw [smp, hA], ?_⟩
    exact ((hB0.trans hB1).setCell (p := ⟨w.heap.size + 1, 0, none⟩) (by simp) _).trans (belowK_b (w := w) (Nat.le_refl _) _ D _ _ (by omega) hK2 rfl rfl)
  case stop =>
    rintro D c pre W hD hSp ⟨hI, hB1, rfl, hA⟩ hK
    have hI3 := Cs.own (grownBy_putObj' _ D (.deferred none)) (fun r e => by cases e; exact ⟨_, hK, rfl⟩) hI
    obtain ⟨⟨_, j1, _⟩, _⟩ := hI3
    obtain ⟨tl, htl⟩ := hSp
    have hA2 : smp l = false := by rw [smp, ← htl, List.all_append]; simp only [htl, hA, Bool.false_and]
    gi_wp2
    refine ⟨by simp, .inl ⟨_, _, rfl, run_takeDeferred hK, ?_⟩⟩
    refine ⟨.bool false, by simp [results, Try.results93, go_sem, j1], by rw [hA2], ?_⟩
    exact (hB0.trans hB1).trans (belowK_b (w := w) (Nat.le_refl _) _ D _ _ (by omega) hK rfl rfl)
end Go.Proofs.Ytdefpcjlbganpaa
