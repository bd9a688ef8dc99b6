import Derived.RangeFuncNested
import Derived.RangeFuncBound
import Derived.RangeFuncCalls
import Derived.RangeFuncLeaves
import Derived.Test.YtmfhpddeclggfaaGreatDoorEa
import Derived.RangeFuncBox
import Derived.Shelf.Abstract
import Derived.Shelf.RegionOpen
import Derived.OwnWalkIn
import Derived.TacticsInMore
import Derived.LoopNIn
import Derived.LoopIn
import Derived.Maps.AppendAt
import Derived.Maps.OwnIn
import Derived.RegionIn
import Derived.BigRegionIn
import Derived.Stop.RegionWithIn
import Derived.WalkKit
import Derived.LoopTactic
import Derived.WalkSpells
import Derived.WalkLawsBesides
import Derived.Lib.Hide
import Derived.BigQuiet
import Derived.IntWalk
import Derived.Deep.DeepMust
import Derived.WalkSmall
import Derived.StillTailTactics
import Derived.Deep.RegionLaw
import Derived.Deep.QuietTactic
import Derived.Deep.Cut
import Derived.Deep.DeepCutAuto
import Derived.Deep.LoopGhost
import Derived.Laws.AppendOwn
namespace Go.Proofs.YtmfhpddeclggfaaGreatDoor
open Go.RowKit
/-! Whole. -/
open Go.Shelf
theorem take_words (fs : List FL) (k : Nat) (h : k < fs.length) : (fs.take (k + 1)).map (fun f => f.g.ws) = (fs.take k).map (fun f => f.g.ws) ++ [(fs.getD k default).g.ws] := by
  rw [List.take_succ_eq_append_getElem h, List.map_append, List.getD, List.getElem?_eq_getElem h]
  rfl
/-- How the world stands while words are gathered. -/
structure WH (w W : World) (B : Nat) (v : Value) (k : Nat) (fs : List FL) : Prop where
  bel : Below w.heap.size w W
  ow : ∃ gs : List GL, gs.length = k ∧ gs.map GL.ws = (fs.take k).map (fun f => f.g.ws) ∧ OW B W v gs
  hB : w.heap.size ≤ B
  hW : B ≤ W.heap.size
theorem WH.next {w W W' : World} {B : Nat} {v : Value} {k : Nat} {fs : List FL} (h : WH w W B v k fs) (hb : Below W.heap.size W W') : WH w W' B v k fs := by
  obtain ⟨gs, h1, h2, h3⟩ := h.ow
  exact ⟨h.bel.trans (hb.mono h.bel.size), ⟨gs, h1, h2, h3.below hb⟩, h.hB, by have := hb.size; have := h.hW; omega⟩
theorem own_ne {W : World} {B C : Nat} {v : Value} {gs : List GL} (h : OW B W v gs) (hC : W.heap.size ≤ C) : ∀ k, v.ownBlock = some k → k < C := fun k e => by
  have := (h.row.lt k e).2; omega
set_option maxRecDepth 100000 in
set_option maxHeartbeats 4000000 in
theorem sWhole_bad (p : Option Addr) (n c : Nat) (q1 q2 : Option Addr) (n1 c1 n2 c2 : Nat) (fs : List FL) (w : World) (h : 0 < n1 ∨ 0 < n2) :
    Calls Tryz.prog 56 #[bookV p n c q1 n1 c1 q2 n2 c2] w fun e w' => ∃ (q : Option Addr) (cap : Nat) (gs : List GL), e = .returned (.tuple #[.slice q gs.length cap, .int .i64 (whErr n1 n2 fs)]) ∧ Below w.heap.size w w' ∧ ListsAt w' q gs ∧ gs.map GL.ws = whL n1 n2 fs := by
  unfold bookV
  by_cases h1 : 0 < n1
  · have e1 : whErr n1 n2 fs = 9 := by unfold whErr; rw [if_pos h1]
    have e2 : whL n1 n2 fs = [] := by unfold whL; rw [e1, if_neg (by decide)]
    rw [e1, e2]
    have h1' : (0 : Int) < (n1 : Int) := by omega
    clear e1 e2 h h1
    go_enter Tryz.func56, Tryz.ntmps56
    go_wp2_with fail
    go_ret2
    exact ⟨none, 0, [], rfl, below_alloc1 _ _, ⟨.inl rfl, fun j hj => absurd hj (Nat.not_lt_zero _)⟩, rfl⟩
  · have h2 : 0 < n2 := by omega
    have e1 : whErr n1 n2 fs = 5 := by unfold whErr; rw [if_neg h1, if_pos h2]
    have e2 : whL n1 n2 fs = [] := by unfold whL; rw [e1, if_neg (by decide)]
    rw [e1, e2]
    have h1' : ¬ (0 : Int) < (n1 : Int) := by omega
    have h2' : (0 : Int) < (n2 : Int) := by omega
    clear e1 e2 h h1 h2
    go_enter Tryz.func56, Tryz.ntmps56
    go_wp2_with fail
    go_ret2
    exact ⟨none, 0, [], rfl, below_alloc1 _ _, ⟨.inl rfl, fun j hj => absurd hj (Nat.not_lt_zero _)⟩, rfl⟩
set_option maxRecDepth 100000 in
set_option maxHeartbeats 4000000 in
theorem sWhole_any (p : Option Addr) (c : Nat) (fs : List FL) (q1 q2 : Option Addr) (c1 c2 : Nat) (w : World) (hl : fs.length ≤ 1000000) (hz : ∀ j, (fs.getD j default).g.ws.length * 16 ≤ 140737488355328) (hp : FoundsAt w p fs) :
    Calls Tryz.prog 56 #[bookV p fs.length c q1 0 c1 q2 0 c2] w fun e w' => ∃ (q : Option Addr) (cap : Nat) (gs : List GL), e = .returned (.tuple #[.slice q gs.length cap, .int .i64 (whErr 0 0 fs)]) ∧ Below w.heap.size w w' ∧ ListsAt w' q gs ∧ gs.map GL.ws = whL 0 0 fs := by
  unfold bookV
  have HP := Lib.hid hp
  have HZ := Lib.hid hz
  have HL := Lib.hid hl
  obtain ⟨N, hN⟩ : ∃ N, Hid (fs.length = N) := ⟨_, rfl⟩
  rw [hN.out] at hl ⊢
  clear hp hz
  obtain ⟨i0, hi, hz0, hz1, hz4⟩ := info_parts inf37
  have R0 : Hid (WH w (w.alloc (.cells #[.slice p N c, .slice q1 0 c1, .slice q2 0 c2] 78)) (w.heap.size + 1) (.slice none 0 0) 0 fs) :=
    ⟨below_alloc1 _ _, ⟨[], rfl, rfl, OW.nil _ _⟩, by omega, by simp⟩
  go_enter Tryz.func56, Tryz.ntmps56
  go_wp2_with fail
  go_loopw [4, 18] (fun v i wr => ∃ k : Nat, k ≤ N ∧ i = .int .i64 k ∧ Hid (∀ j, j < k → (fs.getD j default).g.n = (j : Int) + 1) ∧ Hid (WH w wr (w.heap.size + 1) v k fs)) (fun _ i _ => N - (intOf i).toNat)
  case atStart => exact ⟨0, Nat.zero_le _, rfl, fun j h => absurd h (Nat.not_lt_zero _), R0⟩
  case round =>
    clear R0
    obtain ⟨k, hk, rfl, HN, R⟩ := hrel
    by_cases hlt : k < N
    · have hkl : k < fs.length := by rw [hN.out]; exact hlt
      obtain ⟨n, q, c0, ws, cp, cn, cc, rs, hg⟩ := fl_cases (fs.getD k default)
      have HG := Lib.hid hg
      obtain ⟨b, o, rfl, hb, a0, a1, a2, a3, hst⟩ := fd_at (HP.out.below R.out.bel) hkl hg
      have hzz := HZ.out k
      rw [hg] at hzz
      have hlt' : (k : Int) < (N : Int) := by omega
      by_cases hn : n = (k : Int) + 1
      · subst hn
        have HN1 : Hid (∀ j, j < k + 1 → (fs.getD j default).g.n = (j : Int) + 1) := by
          intro j hj
          by_cases h : j < k
          · exact HN.out j h
          · obtain rfl : j = k := by omega
            rw [HG.out]
        have R1 := Lib.hid (R.out.next (below_alloc1 wr (.cells #[.int .i64 ((k : Int) + 1), .slice q ws.length c0, .slice cp cn cc, .bool rs] 87)))
        have C1 := Lib.hid (sCloneS q c0 ws (wr.alloc (.cells #[.int .i64 ((k : Int) + 1), .slice q ws.length c0, .slice cp cn cc, .bool rs] 87)) (by unfold maxLen; simp only at hzz; omega) hzz (hst.below (below_alloc1 _ _)))
        have HWK : Hid ((fs.take (k + 1)).map (fun f => f.g.ws) = (fs.take k).map (fun f => f.g.ws) ++ [ws]) := by
          have := take_words fs k hkl
          rw [hg] at this
          exact this
        have HK1 : Hid (k + 1 ≤ maxLen) := by unfold Hid maxLen; omega
        have HK2 : Hid ((k + 1) * 24 ≤ 140737488355328) := by unfold Hid; omega
        obtain ⟨L, hL⟩ : ∃ L, Hid (ws.length = L) := ⟨_, rfl⟩
        rw [hL.out] at a1 R1 C1
        clear hg hzz hst hb
        go_wp2_with fail
        refine C1.out.mono ?_
        rintro e w4 ⟨q', c', rfl, hb4, hst4, hpf4⟩
        obtain ⟨gs, hgl, hgw, hO⟩ := R1.out.ow
        have HW4 : Hid (WdsAt 0 w4 u4 (.slice none 0 0) q' ws) := WdsAt.mk hst4 hpf4 (Nat.zero_le _) (own_ne hO (Nat.le_refl _)) (fun k e => by cases e)
        have O4 := Lib.hid (hO.below hb4)
        have R4 := Lib.hid (R1.out.next hb4)
        have HGL := Lib.hid hgl
        have HGW := Lib.hid hgw
        clear hb4 hst4 hpf4 C1 hO hgl hgw R R1 HN a0 a1 a2 a3
        have HNW : Hid (∀ j u, ([.slice q' L c'] : List Value)[j]? = some u → (w4.alloc (.cells #[.slice q' L c'] 37)).cell? ((⟨w4.heap.size, 0, none⟩ : Addr).add j) = some u) := cells_new w4 #[.slice q' L c'] 37
        have HK3 : Hid (w.heap.size + 1 ≤ (w4.alloc (.cells #[.slice q' L c'] 37)).heap.size) := by have := R4.out.hW; unfold Hid; simp; omega
        have HRW : Hid ((w4.alloc (.cells #[.slice q' L c'] 37)).ownsRow (w.heap.size + 1) 37 1 u4 k (flatW gs)) := by have := (O4.out.row.alloc (.cells #[.slice q' L c'] 37)); rwa [HGL.out] at this
        go_wp2_with (at_builtin; refine wpList_append_own_at _ rfl (.tmp 29) (.tmp 34) 51 rfl (w.heap.size + 1) 37 i0 (.slice none 0 0) 1 24 Tryz.underlying51 hi hz0 hz1 hz4 rfl (by decide) u4 k (flatW gs) rfl HRW.out ⟨w4.heap.size, 0, none⟩ 1 1 [.slice q' L c'] rfl rfl HNW.out (by simp [Value.oneCell']) HK1.out HK2.out HK3.out ?_; intro v' w5 hown hgrow _ hat)
        refine ⟨⟨k + 1, by omega, by go_num, HN1, ?_⟩, by simp [intOf]; omega⟩
        have HA := Lib.hid (grown_al w4 (.cells #[.slice q' L c'] 37))
        have hsz : w4.heap.size ≤ w5.heap.size := by have := hgrow.size; simp at this; omega
        refine ⟨(R4.out.bel.alloc R4.out.bel.size _).grown hgrow (by have := R4.out.bel.size; simp; omega) (fun g hg => by have := (HRW.out.lt g hg).1; omega), ⟨gs ++ [⟨0, q', c', ws⟩], by simp [HGL.out], ?_, ?_⟩, by omega, by have := R4.out.hW; omega⟩
        · rw [List.map_append, HGW.out, HWK.out]; rfl
        · have hO5 : OW (w.heap.size + 1) (w4.alloc (.cells #[.slice q' L c'] 37)) u4 gs := O4.out.below (below_alloc1 _ _)
          refine hO5.add (g := ⟨0, q', c', ws⟩) (HW4.out.grown HA.out (fun b _ _ _ _ e => by cases e)) ?_ hgrow hat
          rw [HGL.out]
          show w5.ownsRow (w.heap.size + 1) 37 1 v' (k + 1) (flatW gs ++ [.slice q' ws.length c'])
          rw [hL.out]
          exact hown
      · have h1 : (n != (k : Int) + 1) = true := bne_iff_ne.2 hn
        have hne : numd fs = false := numd_at hkl (by rw [hg]; exact hn)
        have e1 : Hid (whErr 0 0 fs = 1) := by unfold Hid whErr; rw [if_neg (by decide), if_neg (by decide), hne]; rfl
        have e2 : Hid (whL 0 0 fs = []) := by unfold Hid whL; rw [e1.out, if_neg (by decide)]
        obtain ⟨L, hL⟩ : ∃ L, Hid (ws.length = L) := ⟨_, rfl⟩
        rw [hL.out] at a1
        clear hn hne hst hzz hg
        go_wp2_with fail
        go_ret2
        refine ⟨none, 0, [], by rw [e1.out]; rfl, ?_, ⟨.inl rfl, fun j hj => absurd hj (Nat.not_lt_zero _)⟩, by rw [e2.out]; rfl⟩
        exact R.out.bel.alloc R.out.bel.size _
    · obtain rfl : k = N := by omega
      have hnd : numd fs = true := numd_all (by rw [hN.out]; exact HN.out)
      have e1 : Hid (whErr 0 0 fs = 0) := by unfold Hid whErr; rw [if_neg (by decide), if_neg (by decide), hnd]; rfl
      have e2 : Hid (whL 0 0 fs = fs.map (fun f => f.g.ws)) := by unfold Hid whL; rw [e1.out, if_pos rfl]
      obtain ⟨gs, hgl, hgw, hO⟩ := R.out.ow
      rw [← hN.out, List.take_length] at hgw
      obtain ⟨q, cap, rfl, hls⟩ := hO.lists
      have HGW := Lib.hid hgw
      have HLS := Lib.hid hls
      have HGL := Lib.hid hgl
      rw [hgl]
      clear hnd hgw hO hls hgl
      go_wp2_with fail
      go_ret2
      exact ⟨q, cap, gs, by rw [e1.out, HGL.out]; rfl, R.out.bel, HLS.out, by rw [e2.out, HGW.out]⟩
/-- Whole, whatever the book. -/
theorem sWhole (p : Option Addr) (c : Nat) (fs : List FL) (q1 q2 : Option Addr) (n1 c1 n2 c2 : Nat) (w : World) (hl : fs.length ≤ 1000000) (hz : ∀ j, (fs.getD j default).g.ws.length * 16 ≤ 140737488355328) (hp : FoundsAt w p fs) :
    Calls Tryz.prog 56 #[bookV p fs.length c q1 n1 c1 q2 n2 c2] w fun e w' => ∃ (q : Option Addr) (cap : Nat) (gs : List GL), e = .returned (.tuple #[.slice q gs.length cap, .int .i64 (whErr n1 n2 fs)]) ∧ Below w.heap.size w w' ∧ ListsAt w' q gs ∧ gs.map GL.ws = whL n1 n2 fs := by
  by_cases h : 0 < n1 ∨ 0 < n2
  · exact sWhole_bad p fs.length c q1 q2 n1 c1 n2 c2 fs w h
  · obtain rfl : n1 = 0 := by omega
    obtain rfl : n2 = 0 := by omega
    exact sWhole_any p c fs q1 q2 c1 c2 w hl hz hp
end Go.Proofs.YtmfhpddeclggfaaGreatDoor
