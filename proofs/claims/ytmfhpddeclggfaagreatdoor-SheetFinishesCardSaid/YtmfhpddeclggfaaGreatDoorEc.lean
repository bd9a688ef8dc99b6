import Derived.RangeFuncNested
import Derived.RangeFuncBound
import Derived.RangeFuncCalls
import Derived.RangeFuncLeaves
import Derived.Test.YtmfhpddeclggfaaGreatDoorEa
import Derived.RangeFuncBox
import Derived.Shelf.Abstract
import Derived.Shelf.RegionOpen
import Derived.OwnWalkIn
import Derived.TacticsInMore
import Derived.LoopNIn
import Derived.LoopIn
import Derived.Maps.AppendAt
import Derived.Maps.OwnIn
import Derived.RegionIn
import Derived.BigRegionIn
import Derived.Stop.RegionWithIn
import Derived.WalkKit
import Derived.Test.YtmfhpddeclggfaaGreatDoorCz
import Derived.LoopTactic
import Derived.WalkSpells
import Derived.WalkLawsBesides
import Derived.Lib.Hide
import Derived.BigQuiet
import Derived.IntWalk
import Derived.Deep.DeepMust
import Derived.WalkSmall
import Derived.StillTailTactics
import Derived.Deep.RegionLaw
import Derived.Deep.QuietTactic
import Derived.Deep.Cut
import Derived.Deep.DeepCutAuto
import Derived.Deep.LoopGhost
import Derived.Laws.AppendOwn
namespace Go.Proofs.YtmfhpddeclggfaaGreatDoor
open Go.RowKit
/-! The reference's Whole. -/
open Go.Shelf
/-- The words that lie where a slice of readings points to. -/
def FromFs (gs : List GL) (k : Nat) (fs : List FL) : Prop := gs = (fs.take k).map FL.g
theorem fromFs_snoc {fs : List FL} {k : Nat} (h : k < fs.length) : (fs.take (k + 1)).map FL.g = (fs.take k).map FL.g ++ [(fs.getD k default).g] := by
  rw [List.take_succ_eq_append_getElem h, List.map_append, List.getD, List.getElem?_eq_getElem h]
  rfl
/-- How the world stands while the reference gathers words: the book, the result, the list. -/
structure RWh (w W : World) (v bk : Value) (q1 q2 : Value) (k : Nat) (fs : List FL) : Prop where
  bel : Below w.heap.size w W
  lt : w.heap.size + 1 + 1 < W.heap.size
  b0 : W.cell? ⟨w.heap.size, 0, none⟩ = some bk
  r0 : W.cell? ⟨w.heap.size + 1, 0, none⟩ = some (.slice none 0 0)
  r1 : W.cell? ⟨w.heap.size + 1, 1, none⟩ = some (.int .i64 0)
  fr : ∀ o, W.frozen? ⟨w.heap.size + 1, o, none⟩ = false
  c0 : W.cell? ⟨w.heap.size + 1 + 1, 0, none⟩ = some v
  c1 : W.cell? ⟨w.heap.size + 1 + 1, 1, none⟩ = some (.int .i64 0)
  fc : ∀ o, W.frozen? ⟨w.heap.size + 1 + 1, o, none⟩ = false
  row : W.ownsRow (w.heap.size + 3) 37 1 v k (flatW ((fs.take k).map FL.g))
theorem RWh.next {w W W' : World} {v bk q1 q2 : Value} {k : Nat} {fs : List FL} (h : RWh w W v bk q1 q2 k fs) (hb : Below W.heap.size W W') : RWh w W' v bk q1 q2 k fs := by
  have hl := h.lt
  have hs := hb.size
  exact ⟨h.bel.trans (hb.mono h.bel.size), by omega, (hb.cell (p := ⟨w.heap.size, 0, none⟩) (by show w.heap.size < _; omega)).trans h.b0, (hb.cell (p := ⟨w.heap.size + 1, 0, none⟩) (by show w.heap.size + 1 < _; omega)).trans h.r0, (hb.cell (p := ⟨w.heap.size + 1, 1, none⟩) (by show w.heap.size + 1 < _; omega)).trans h.r1, fun o => (hb.frozen (p := ⟨w.heap.size + 1, o, none⟩) (by show w.heap.size + 1 < _; omega)).trans (h.fr o),
    (hb.cell (p := ⟨w.heap.size + 1 + 1, 0, none⟩) (by show w.heap.size + 1 + 1 < _; omega)).trans h.c0, (hb.cell (p := ⟨w.heap.size + 1 + 1, 1, none⟩) (by show w.heap.size + 1 + 1 < _; omega)).trans h.c1, fun o => (hb.frozen (p := ⟨w.heap.size + 1 + 1, o, none⟩) (by show w.heap.size + 1 + 1 < _; omega)).trans (h.fc o), ownsRow_keep h.row hb⟩
/-- One list of words more, laid in the cell. -/
theorem RWh.add {w W W' : World} {v v' bk q1 q2 : Value} {k : Nat} {fs : List FL} (h : RWh w W v bk q1 q2 k fs) (hk : k < fs.length) (hown : W'.ownsRow (w.heap.size + 3) 37 1 v' (k + 1) (flatW ((fs.take k).map FL.g) ++ flatW [(fs.getD k default).g])) (hgr : W.grownBy W' v.ownBlock) :
    RWh w (W'.setCell ⟨w.heap.size + 1 + 1, 0, none⟩ v') v' bk q1 q2 (k + 1) fs := by
  have hl := h.lt
  have hs := hgr.size
  have ne : ∀ r, r < w.heap.size + 3 → some r ≠ v.ownBlock := fun r hr e => by have := (h.row.lt _ e.symm).1; omega
  have blk : ∀ r, r < w.heap.size + 3 → W'.heap[r]? = W.heap[r]? := fun r hr => hgr.block r (by omega) (ne r hr)
  have cel : ∀ r o, r < w.heap.size + 3 → W'.cell? ⟨r, o, none⟩ = W.cell? ⟨r, o, none⟩ := fun r o hr => World.cell?_of_block (a := ⟨r, o, none⟩) (blk r hr)
  have frz : ∀ r o, r < w.heap.size + 3 → W'.frozen? ⟨r, o, none⟩ = W.frozen? ⟨r, o, none⟩ := fun r o hr => World.frozen?_of_block (a := ⟨r, o, none⟩) (blk r hr)
  have oth : ∀ r o, r ≠ w.heap.size + 1 + 1 → (W'.setCell ⟨w.heap.size + 1 + 1, 0, none⟩ v').cell? ⟨r, o, none⟩ = W'.cell? ⟨r, o, none⟩ := fun r o hr => World.cell?_setCell_other _ _ _ _ (fun e => hr (congrArg Addr.block e).symm)
  refine ⟨?_, ?_, ?_, ?_, ?_, fun o => ?_, ?_, ?_, fun o => ?_, ?_⟩
  · exact (h.bel.grown hgr (by omega) (fun k e => by have := (h.row.lt k e).1; omega)).setCell (p := ⟨w.heap.size + 1 + 1, 0, none⟩) (by show w.heap.size ≤ w.heap.size + 1 + 1; omega) _
  · rw [World.size_setCell]; omega
  · rw [oth _ _ (by omega), cel _ _ (by omega)]; exact h.b0
  · rw [oth _ _ (by omega), cel _ _ (by omega)]; exact h.r0
  · rw [oth _ _ (by omega), cel _ _ (by omega)]; exact h.r1
  · rw [World.frozen?_setCell, frz _ _ (by omega)]; exact h.fr o
  · exact World.cell?_setCell_same' W' _ _ (by rw [cel _ _ (by omega), h.c0]; rfl)
  · rw [World.cell?_setCell_other _ _ _ _ (fun e => by cases e), cel _ _ (by omega)]; exact h.c1
  · rw [World.frozen?_setCell, frz _ _ (by omega)]; exact h.fc o
  · rw [fromFs_snoc hk, flatW_app]
    refine hown.kept (grownBy_setCellAt W' (w.heap.size + 1 + 1) 0 _) ?_
    cases hv : v'.ownBlock with
    | none => exact .inl rfl
    | some g => exact .inr (fun e => by have h1 := (hown.lt g hv).1; have h2 := Option.some.inj e; omega)
theorem RWh.start (w : World) (p : Option Addr) (n c : Nat) (x y : Value) (fs : List FL) : RWh w (((w.alloc (.cells #[.slice p n c, x, y] 78)).alloc (.cells #[.slice none 0 0, .int .i64 0] 91)).alloc (.cells #[.slice none 0 0, .int .i64 0] 91)) (.slice none 0 0) (.slice p n c) x y 0 fs := by
  have s1 : (w.alloc (.cells #[.slice p n c, x, y] 78)).heap.size = w.heap.size + 1 := by simp
  have s2 : ((w.alloc (.cells #[.slice p n c, x, y] 78)).alloc (.cells #[.slice none 0 0, .int .i64 0] 91)).heap.size = w.heap.size + 1 + 1 := by simp
  have c0 := nw_at w #[.slice p n c, x, y] 78 0 _ rfl
  have d0 := nw_at (w.alloc (.cells #[.slice p n c, x, y] 78)) #[.slice none 0 0, .int .i64 0] 91 0 _ rfl
  have d1 := nw_at (w.alloc (.cells #[.slice p n c, x, y] 78)) #[.slice none 0 0, .int .i64 0] 91 1 _ rfl
  have df := fun o => frozen_new (w.alloc (.cells #[.slice p n c, x, y] 78)) #[.slice none 0 0, .int .i64 0] 91 o
  have e0 := nw_at ((w.alloc (.cells #[.slice p n c, x, y] 78)).alloc (.cells #[.slice none 0 0, .int .i64 0] 91)) #[.slice none 0 0, .int .i64 0] 91 0 _ rfl
  have e1 := nw_at ((w.alloc (.cells #[.slice p n c, x, y] 78)).alloc (.cells #[.slice none 0 0, .int .i64 0] 91)) #[.slice none 0 0, .int .i64 0] 91 1 _ rfl
  have ef := fun o => frozen_new ((w.alloc (.cells #[.slice p n c, x, y] 78)).alloc (.cells #[.slice none 0 0, .int .i64 0] 91)) #[.slice none 0 0, .int .i64 0] 91 o
  rw [s1] at d0 d1 df
  rw [s2] at e0 e1 ef
  have b1 := below_alloc1 (w.alloc (.cells #[.slice p n c, x, y] 78)) (.cells #[.slice none 0 0, .int .i64 0] 91)
  have b2 := below_alloc1 ((w.alloc (.cells #[.slice p n c, x, y] 78)).alloc (.cells #[.slice none 0 0, .int .i64 0] 91)) (.cells #[.slice none 0 0, .int .i64 0] 91)
  rw [s1] at b1
  rw [s2] at b2
  refine ⟨((below_alloc1 _ _).trans (b1.mono (by omega))).trans (b2.mono (by omega)), by simp, ?_, ?_, ?_, fun o => ?_, e0, e1, ef, World.ownsRow_nil _ _ _ _⟩
  · rw [b2.cell (p := ⟨w.heap.size, 0, none⟩) (by show w.heap.size < _; omega), b1.cell (p := ⟨w.heap.size, 0, none⟩) (by show w.heap.size < _; omega)]; exact c0
  · rw [b2.cell (p := ⟨w.heap.size + 1, 0, none⟩) (by show w.heap.size + 1 < _; omega)]; exact d0
  · rw [b2.cell (p := ⟨w.heap.size + 1, 1, none⟩) (by show w.heap.size + 1 < _; omega)]; exact d1
  · rw [b2.frozen (p := ⟨w.heap.size + 1, o, none⟩) (by show w.heap.size + 1 < _; omega)]; exact df o
set_option maxRecDepth 100000 in
set_option maxHeartbeats 4000000 in
theorem rWhole_bad (p : Option Addr) (n c : Nat) (q1 q2 : Option Addr) (n1 c1 n2 c2 : Nat) (fs : List FL) (w : World) (h : 0 < n1 ∨ 0 < n2) :
    Calls Tryz.prog 57 #[bookV p n c q1 n1 c1 q2 n2 c2] w fun e w' => ∃ (q : Option Addr) (cap : Nat) (gs : List GL), e = .returned (.agg #[.slice q gs.length cap, .int .i64 (whErr n1 n2 fs)]) ∧ Below w.heap.size w w' ∧ ListsAt w' q gs ∧ gs.map GL.ws = whL n1 n2 fs := by
  unfold bookV
  by_cases h1 : 0 < n1
  · have e1 : whErr n1 n2 fs = 9 := by unfold whErr; rw [if_pos h1]
    have e2 : whL n1 n2 fs = [] := by unfold whL; rw [e1, if_neg (by decide)]
    rw [e1, e2]
    have h1' : (0 : Int) < (n1 : Int) := by omega
    clear e1 e2 h h1
    go_enter Tryz.func57, Tryz.ntmps57
    go_wp2_with fail
    refine bodyPost_ret (v := .agg #[.slice none 0 0, .int .i64 9]) (by simp [results, Tryz.results57, go_sem]) rfl ⟨none, 0, [], rfl, ?_, ⟨.inl rfl, fun j hj => absurd hj (Nat.not_lt_zero _)⟩, rfl⟩
    exact (below_alloc1 _ _).alloc (by simp) _
  · have h2 : 0 < n2 := by omega
    have e1 : whErr n1 n2 fs = 5 := by unfold whErr; rw [if_neg h1, if_pos h2]
    have e2 : whL n1 n2 fs = [] := by unfold whL; rw [e1, if_neg (by decide)]
    rw [e1, e2]
    have h1' : ¬ (0 : Int) < (n1 : Int) := by omega
    have h2' : (0 : Int) < (n2 : Int) := by omega
    clear e1 e2 h h1 h2
    go_enter Tryz.func57, Tryz.ntmps57
    go_wp2_with fail
    refine bodyPost_ret (v := .agg #[.slice none 0 0, .int .i64 5]) (by simp [results, Tryz.results57, go_sem]) rfl ⟨none, 0, [], rfl, ?_, ⟨.inl rfl, fun j hj => absurd hj (Nat.not_lt_zero _)⟩, rfl⟩
    exact (below_alloc1 _ _).alloc (by simp) _
theorem lists_row {W : World} {B xm xc : Nat} {xq p : Option Addr} {fs : List FL} (h : W.ownsRow B 37 1 (.slice xq xm xc) fs.length (flatW (fs.map FL.g))) (hf : FoundsAt W p fs) : ∃ cap, (Value.slice xq xm xc) = .slice xq fs.length cap ∧ ListsAt W xq (fs.map FL.g) := by
  have gd : ∀ j, j < fs.length → (fs.map FL.g).getD j default = (fs.getD j default).g := fun j hj => by
    rw [List.getD, List.getD, List.getElem?_map, List.getElem?_eq_getElem hj]; rfl
  have hst : ∀ j, j < (fs.map FL.g).length → StrsAt W ((fs.map FL.g).getD j default).p ((fs.map FL.g).getD j default).ws := fun j hj => by
    rw [List.length_map] at hj
    rw [gd j hj]; exact hf.2 j hj
  obtain ⟨h1, ⟨h0, h2⟩ | ⟨g, cap, cur, h0, hg, hc, h3, h4, h5, h6⟩⟩ := h
  · cases h0
    exact ⟨0, by rw [h2], .inl (List.length_eq_zero_iff.1 (by rw [List.length_map]; exact h2)), hst⟩
  · cases h0
    refine ⟨_, rfl, .inr ⟨g, 0, rfl, (Array.getElem?_eq_some_iff.1 hc).1, fun j hj => ?_⟩, hst⟩
    rw [List.length_map] at hj
    have e : (fs.map FL.g)[j]? = some ((fs.map FL.g).getD j default) := by rw [List.getD, List.getElem?_eq_getElem (by rw [List.length_map]; exact hj)]; rfl
    have k1 := flatW_get e
    rw [← h6, List.getElem?_take_of_lt (by omega)] at k1
    rw [Nat.zero_add]
    simpa [World.cell?, hc] using k1
set_option maxRecDepth 100000 in
set_option maxHeartbeats 8000000 in
theorem rWhole_any (p : Option Addr) (c : Nat) (fs : List FL) (q1 q2 : Option Addr) (c1 c2 : Nat) (w : World) (hl : fs.length ≤ 1000000) (hp : FoundsAt w p fs) :
    Calls Tryz.prog 57 #[bookV p fs.length c q1 0 c1 q2 0 c2] w fun e w' => ∃ (q : Option Addr) (cap : Nat) (gs : List GL), e = .returned (.agg #[.slice q gs.length cap, .int .i64 (whErr 0 0 fs)]) ∧ Below w.heap.size w w' ∧ ListsAt w' q gs ∧ gs.map GL.ws = whL 0 0 fs := by
  unfold bookV
  have HP := Lib.hid hp
  obtain ⟨N, hN⟩ : ∃ N, Hid (fs.length = N) := ⟨_, rfl⟩
  have R0 := Lib.hid (RWh.start w p N c (.slice q1 0 c1) (.slice q2 0 c2) fs)
  rw [hN.out] at hl ⊢
  clear hp
  obtain ⟨i0, hi, hz0, hz1, hz4⟩ := info_parts inf37
  go_enter Tryz.func57, Tryz.ntmps57
  go_wp2_with fail
  go_loopw [4] (fun i wr => ∃ (k : Nat) (v : Value), k ≤ N ∧ i = .int .i64 k ∧ Hid (∀ j, j < k → (fs.getD j default).g.n = (j : Int) + 1) ∧ Hid (RWh w wr v (.slice p N c) (.slice q1 0 c1) (.slice q2 0 c2) k fs)) (fun i _ => N - (intOf i).toNat)
  case atStart => exact ⟨0, _, Nat.zero_le _, rfl, fun j h => absurd h (Nat.not_lt_zero _), R0⟩
  case round =>
    clear R0
    obtain ⟨k, v, hk, rfl, HN, R⟩ := hrel
    have b0 := R.out.b0
    by_cases hlt : k < N
    · have hkl : k < fs.length := by rw [hN.out]; exact hlt
      obtain ⟨n, q, c0, ws, cp, cn, cc, rs, hg⟩ := fl_cases (fs.getD k default)
      have HG := Lib.hid hg
      obtain ⟨b, o, rfl, hb, a0, a1, a2, a3, hst⟩ := fd_at (HP.out.below R.out.bel) hkl hg
      have hlt' : (k : Int) < (N : Int) := by omega
      have hk0 : (0 : Int) ≤ (k : Int) := by omega
      obtain ⟨L, hL⟩ : ∃ L, Hid (ws.length = L) := ⟨_, rfl⟩
      rw [hL.out] at a1
      clear a2 a3 hst
      by_cases hn : n = (k : Int) + 1
      · subst hn
        have HN1 : Hid (∀ j, j < k + 1 → (fs.getD j default).g.n = (j : Int) + 1) := by
          intro j hj
          by_cases h : j < k
          · exact HN.out j h
          · obtain rfl : j = k := by omega
            rw [HG.out]
        obtain ⟨xq, xm, xc, rfl⟩ := own_slice R.out.row
        have c0' := R.out.c0
        have hb2 := Lib.hid hb
        have HK1 : Hid (k + 1 ≤ maxLen) := by unfold Hid maxLen; omega
        have HK2 : Hid ((k + 1) * 24 ≤ 140737488355328) := by unfold Hid; omega
        have R1a := fun X => Lib.hid (R.out.next (below_alloc1 _ X))
        have R1 := fun X => Lib.hid ((R1a X).out.next (Below.refl _ _).drew)
        have d0 := fun X => (R1a X).out.c0
        have d1 := fun X => (R1a X).out.b0
        have d2 := fun X => ((below_alloc1 wr X).cell (p := ⟨b, o + k * 4 + 1, none⟩) hb).trans a1
        have HLT := Lib.hid R.out.lt
        have HNO : Hid (some (w.heap.size + 1 + 1) ≠ (Value.slice xq xm xc).ownBlock) := fun e => by have := (R.out.row.lt _ e.symm).1; omega
        clear hb hg
        go_wp2_with fail
        go_region_law (refine step_append_own_at rfl (.tmp 34) (.tmp 42) 51 rfl (w.heap.size + 3) 37 i0 (.slice none 0 0) 1 24 Tryz.underlying51 hi hz0 hz1 hz4 rfl (by decide) (.slice xq xm xc) k (flatW ((fs.take k).map FL.g)) rfl (R1 _).out.row ⟨wr.heap.size, 0, none⟩ 1 1 [.slice q L c0] rfl rfl (cells_new_drew _ #[.slice q L c0] 37) (by simp [Value.oneCell']) HK1.out HK2.out (by have := HLT.out; simp; omega) ?_; intro v' w4 hown hgrow hat _; obtain ⟨g', cap', rfl⟩ := ownsRow_succ hown; have hf4 := (World.frozen?_of_block (a := ⟨w.heap.size + 1 + 1, 0, none⟩) (hgrow.block _ (R1 _).out.lt HNO.out)).trans ((R1 _).out.fc 0); have hc4 := (World.cell?_of_block (a := ⟨w.heap.size + 1 + 1, 0, none⟩) (hgrow.block _ (R1 _).out.lt HNO.out)).trans (R1 _).out.c0; have HO := Lib.hid hown; have HGr := Lib.hid hgrow; clear hown hgrow hat)
        all_goals
          go_wp2
          go_roundw
          case rel =>
            refine ⟨k + 1, .slice (some ⟨g', 0, none⟩) (k + 1) cap', by omega, by go_num, HN1, ?_⟩
            refine (R1 _).out.add hkl ?_ HGr.out
            rw [HG.out]
            show w4.ownsRow (w.heap.size + 3) 37 1 _ (k + 1) (flatW ((fs.take k).map FL.g) ++ [.slice q ws.length c0])
            rw [hL.out]
            exact HO.out
          case measure => simp [intOf]; omega
      · have h1 : (n != (k : Int) + 1) = true := bne_iff_ne.2 hn
        have hne : numd fs = false := numd_at hkl (by rw [hg]; exact hn)
        have e1 : Hid (whErr 0 0 fs = 1) := by unfold Hid whErr; rw [if_neg (by decide), if_neg (by decide), hne]; rfl
        have e2 : Hid (whL 0 0 fs = []) := by unfold Hid whL; rw [e1.out, if_neg (by decide)]
        have r0 := R.out.r0
        have r1 := R.out.r1
        have f0 := R.out.fr 0
        have f1 := R.out.fr 1
        clear hn hne hg
        go_wp2_with fail
        refine bodyPost_ret (v := .agg #[.slice none 0 0, .int .i64 1]) (by simp [results, Tryz.results57, go_sem, r0, r1]) rfl ⟨none, 0, [], by rw [e1.out]; rfl, ?_, ⟨.inl rfl, fun j hj => absurd hj (Nat.not_lt_zero _)⟩, by rw [e2.out]; rfl⟩
        exact (R.out.bel.setCell (p := ⟨w.heap.size + 1, 0, none⟩) (by show w.heap.size ≤ w.heap.size + 1; omega) _).setCell (p := ⟨w.heap.size + 1, 1, none⟩) (by show w.heap.size ≤ w.heap.size + 1; omega) _
    · obtain rfl : k = N := by omega
      have hnd : numd fs = true := numd_all (by rw [hN.out]; exact HN.out)
      have e1 : Hid (whErr 0 0 fs = 0) := by unfold Hid whErr; rw [if_neg (by decide), if_neg (by decide), hnd]; rfl
      have e2 : Hid (whL 0 0 fs = fs.map (fun f => f.g.ws)) := by unfold Hid whL; rw [e1.out, if_pos rfl]
      have hrow := R.out.row
      rw [← hN.out, List.take_length] at hrow
      have c0 := R.out.c0
      have c1 := R.out.c1
      have r0 := R.out.r0
      have r1 := R.out.r1
      have f0 := R.out.fr 0
      have f1 := R.out.fr 1
      obtain ⟨xq, xm, xc, rfl⟩ := own_slice hrow
      have HRow := Lib.hid hrow
      clear hnd hrow
      go_wp2_with fail
      refine bodyPost_ret (v := .agg #[.slice xq xm xc, .int .i64 0]) (by simp [results, Tryz.results57, go_sem, r0, r1]) rfl ?_
      have hB : Below w.heap.size w ((wr.setCell ⟨w.heap.size + 1, 0, none⟩ (.slice xq xm xc)).setCell ⟨w.heap.size + 1, 1, none⟩ (.int .i64 0)) :=
        (R.out.bel.setCell (p := ⟨w.heap.size + 1, 0, none⟩) (by show w.heap.size ≤ w.heap.size + 1; omega) _).setCell (p := ⟨w.heap.size + 1, 1, none⟩) (by show w.heap.size ≤ w.heap.size + 1; omega) _
      have hfa := HP.out.below hB
      have hrow2 : ((wr.setCell ⟨w.heap.size + 1, 0, none⟩ (.slice xq xm xc)).setCell ⟨w.heap.size + 1, 1, none⟩ (.int .i64 0)).ownsRow (w.heap.size + 3) 37 1 (.slice xq xm xc) fs.length (flatW (fs.map FL.g)) := by
        have hne : ∀ g, (Value.slice xq xm xc).ownBlock = some g → (Value.slice xq xm xc).ownBlock = none ∨ (Value.slice xq xm xc).ownBlock ≠ some (w.heap.size + 1) := fun g hv => .inr (fun e => by have h1 := (HRow.out.lt _ e).1; omega)
        have hno : (Value.slice xq xm xc).ownBlock = none ∨ (Value.slice xq xm xc).ownBlock ≠ some (w.heap.size + 1) := .inr (fun e => by have h1 := (HRow.out.lt _ e).1; omega)
        exact (HRow.out.kept (grownBy_setCellAt wr (w.heap.size + 1) 0 _) hno).kept (grownBy_setCellAt _ (w.heap.size + 1) 1 _) hno
      have hLs : ∃ cap, (Value.slice xq xm xc) = .slice xq fs.length cap ∧ ListsAt ((wr.setCell ⟨w.heap.size + 1, 0, none⟩ (.slice xq xm xc)).setCell ⟨w.heap.size + 1, 1, none⟩ (.int .i64 0)) xq (fs.map FL.g) := lists_row hrow2 hfa
      obtain ⟨cap, hcap, hL2⟩ := hLs
      refine ⟨xq, cap, fs.map FL.g, ?_, hB, hL2, ?_⟩
      · rw [e1.out, List.length_map, ← hcap]
      · rw [e2.out, List.map_map]; rfl
/-- The reference's Whole, whatever the book. -/
theorem rWhole (p : Option Addr) (c : Nat) (fs : List FL) (q1 q2 : Option Addr) (n1 c1 n2 c2 : Nat) (w : World) (hl : fs.length ≤ 1000000) (hp : FoundsAt w p fs) :
    Calls Tryz.prog 57 #[bookV p fs.length c q1 n1 c1 q2 n2 c2] w fun e w' => ∃ (q : Option Addr) (cap : Nat) (gs : List GL), e = .returned (.agg #[.slice q gs.length cap, .int .i64 (whErr n1 n2 fs)]) ∧ Below w.heap.size w w' ∧ ListsAt w' q gs ∧ gs.map GL.ws = whL n1 n2 fs := by
  by_cases h : 0 < n1 ∨ 0 < n2
  · exact rWhole_bad p fs.length c q1 q2 n1 c1 n2 c2 fs w h
  · obtain rfl : n1 = 0 := by omega
    obtain rfl : n2 = 0 := by omega
    exact rWhole_any p c fs q1 q2 c1 c2 w hl hp
end Go.Proofs.YtmfhpddeclggfaaGreatDoor
