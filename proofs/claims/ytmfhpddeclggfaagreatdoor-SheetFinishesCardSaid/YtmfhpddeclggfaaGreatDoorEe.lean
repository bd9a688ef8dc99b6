import Derived.RangeFuncNested
import Derived.RangeFuncBound
import Derived.RangeFuncCalls
import Derived.RangeFuncLeaves
import Derived.Test.YtmfhpddeclggfaaGreatDoorEd
import Derived.RangeFuncBox
import Derived.Shelf.Abstract
import Derived.Shelf.RegionOpen
import Derived.OwnWalkIn
import Derived.TacticsInMore
import Derived.LoopNIn
import Derived.LoopIn
import Derived.Maps.AppendAt
import Derived.Maps.OwnIn
import Derived.RegionIn
import Derived.BigRegionIn
import Derived.Stop.RegionWithIn
import Derived.WalkKit
import Derived.Test.YtmfhpddeclggfaaGreatDoorRSheet
import Derived.LoopTactic
import Derived.WalkSpells
import Derived.WalkLawsBesides
import Derived.Lib.Hide
import Derived.BigQuiet
import Derived.IntWalk
import Derived.Deep.DeepMust
import Derived.WalkSmall
import Derived.StillTailTactics
import Derived.Deep.RegionLaw
import Derived.Deep.QuietTactic
import Derived.Deep.Cut
import Derived.Deep.DeepCutAuto
import Derived.Deep.LoopGhost
import Derived.Laws.AppendOwn
namespace Go.Proofs.YtmfhpddeclggfaaGreatDoor
open Go.RowKit
/-! The reference's Fair. -/
open Go.Shelf
/-- How the world stands while the reference writes: the book and the result. -/
structure RF (w W : World) (bk : Value) : Prop where
  bel : Below w.heap.size w W
  lt : w.heap.size + 1 < W.heap.size
  b0 : W.cell? ⟨w.heap.size, 0, none⟩ = some bk
  r0 : W.cell? ⟨w.heap.size + 1, 0, none⟩ = some (.string ⟨#[]⟩)
  r1 : W.cell? ⟨w.heap.size + 1, 1, none⟩ = some (.int .i64 0)
  fr : ∀ o, W.frozen? ⟨w.heap.size + 1, o, none⟩ = false
theorem RF.start (w : World) (bk x y : Value) : RF w ((w.alloc (.cells #[bk, x, y] 78)).alloc (.cells #[.string ⟨#[]⟩, .int .i64 0] 32)) bk := by
  have s1 : (w.alloc (.cells #[bk, x, y] 78)).heap.size = w.heap.size + 1 := by simp
  have c0 := nw_at w #[bk, x, y] 78 0 _ rfl
  have d0 := nw_at (w.alloc (.cells #[bk, x, y] 78)) #[.string ⟨#[]⟩, .int .i64 0] 32 0 _ rfl
  have d1 := nw_at (w.alloc (.cells #[bk, x, y] 78)) #[.string ⟨#[]⟩, .int .i64 0] 32 1 _ rfl
  have df := fun o => frozen_new (w.alloc (.cells #[bk, x, y] 78)) #[.string ⟨#[]⟩, .int .i64 0] 32 o
  rw [s1] at d0 d1 df
  have b1 := below_alloc1 (w.alloc (.cells #[bk, x, y] 78)) (.cells #[.string ⟨#[]⟩, .int .i64 0] 32)
  rw [s1] at b1
  refine ⟨(below_alloc1 _ _).trans (b1.mono (by omega)), by simp, ?_, d0, d1, df⟩
  rw [b1.cell (p := ⟨w.heap.size, 0, none⟩) (by show w.heap.size < _; omega)]; exact c0
theorem RF.keep {w W W' : World} {bk : Value} (h : RF w W bk) (hb : Below W.heap.size W W') : RF w W' bk := by
  have hl := h.lt
  have hs := hb.size
  exact ⟨h.bel.trans (hb.mono h.bel.size), by omega, (hb.cell (p := ⟨w.heap.size, 0, none⟩) (by show w.heap.size < _; omega)).trans h.b0, (hb.cell (p := ⟨w.heap.size + 1, 0, none⟩) (by show w.heap.size + 1 < _; omega)).trans h.r0, (hb.cell (p := ⟨w.heap.size + 1, 1, none⟩) (by show w.heap.size + 1 < _; omega)).trans h.r1, fun o => (hb.frozen (p := ⟨w.heap.size + 1, o, none⟩) (by show w.heap.size + 1 < _; omega)).trans (h.fr o)⟩
theorem RF.set {w W : World} {bk : Value} (h : RF w W bk) (x y : Value) : Below w.heap.size w ((W.setCell ⟨w.heap.size + 1, 0, none⟩ x).setCell ⟨w.heap.size + 1, 1, none⟩ y) :=
  (h.bel.setCell (p := ⟨w.heap.size + 1, 0, none⟩) (by show w.heap.size ≤ w.heap.size + 1; omega) _).setCell (p := ⟨w.heap.size + 1, 1, none⟩) (by show w.heap.size ≤ w.heap.size + 1; omega) _
set_option maxRecDepth 100000 in
set_option maxHeartbeats 4000000 in
theorem rFair (p : Option Addr) (c : Nat) (fs : List FL) (q1 q2 : Option Addr) (n1 c1 n2 c2 : Nat) (w : World) (hl : fs.length ≤ 400) (hz : ∀ j, j < fs.length → (fs.getD j default).g.small) (hp : FoundsAt w p fs) :
    Calls Tryz.prog 59 #[bookV p fs.length c q1 n1 c1 q2 n2 c2] w fun e w' => e = .returned (shAgg (fs.map FL.g)) ∧ Below w.heap.size w w' := by
  unfold bookV
  have HP := Lib.hid hp
  have HS := Lib.hid hz
  obtain ⟨ls, hls⟩ : ∃ ls, Hid (fs.map FL.g = ls) := ⟨_, rfl⟩
  obtain ⟨N, hN⟩ : ∃ N, Hid (fs.length = N) := ⟨_, rfl⟩
  have HLN : Hid (ls.length = N) := by unfold Hid; rw [← hls.out, List.length_map]; exact hN.out
  have HLG : Hid (∀ j, j < fs.length → ls.getD j default = (fs.getD j default).g) := fun j hj => by rw [← hls.out]; exact gmap_at hj
  have R0 := Lib.hid (RF.start w (.slice p N c) (.slice q1 n1 c1) (.slice q2 n2 c2))
  rw [hls.out]
  rw [hN.out] at hl ⊢
  clear hp hz
  go_enter Tryz.func59, Tryz.ntmps59
  go_wp2_with fail
  go_loopw [3, 4] (fun v i wr => ∃ (k : Nat) (V : ByteArray), k ≤ N ∧ i = .int .i64 k ∧ v = .string V ∧ Hid (V.data.toList = waText (ls.take k)) ∧ Hid (∀ j, j < k → lineErr (ls.getD j default).n (ls.getD j default).ws = 0) ∧ Hid (RF w wr (.slice p N c))) (fun _ i _ => N - (intOf i).toNat)
  case atStart => exact ⟨0, _, Nat.zero_le _, rfl, rfl, rfl, fun j h => absurd h (Nat.not_lt_zero _), R0⟩
  case round =>
    clear R0
    obtain ⟨k, V, hk, rfl, rfl, HV, HN, R⟩ := hrel
    have b0 := R.out.b0
    by_cases hlt : k < N
    · have hkl : k < fs.length := by rw [hN.out]; exact hlt
      obtain ⟨n, q, c0, ws, cp, cn, cc, rs, hg⟩ := fl_cases (fs.getD k default)
      have hgn : ls.getD k default = ⟨n, q, c0, ws⟩ := by rw [HLG.out k hkl, hg]
      obtain ⟨b, o, rfl, hb, a0, a1, a2, a3, hst⟩ := fd_at (HP.out.below R.out.bel) hkl hg
      have hsm := HS.out k hkl
      rw [hg] at hsm
      have C := rWrite n q c0 ws wr hsm.1 hsm.2 hst
      have HG := Lib.hid hgn
      have hlt' : (k : Int) < (N : Int) := by omega
      clear hsm hst hgn hg a2 a3
      have hVs : V.size ≤ 6001 * 400 := by
        rw [Lib.size_eq, HV.out]
        have h1 := waText_len (ls.take k) fun j hj => by
          rw [List.length_take] at hj
          rw [List.getD, List.getElem?_take_of_lt (by omega), ← List.getD]
          exact HN.out j (by omega)
        rw [List.length_take] at h1
        omega
      obtain ⟨L, hL⟩ : ∃ L, Hid (ws.length = L) := ⟨_, rfl⟩
      rw [hL.out] at a1
      by_cases h0 : lineErr n ws = 0
      · unfold wrAgg at C
        rw [if_pos h0, hL.out] at C
        obtain ⟨T, hT⟩ : ∃ T, Hid (bs (lineT n ws) = T) := ⟨_, rfl⟩
        have hTs := lineT_size h0
        rw [hT.out] at C hTs
        have C1 := Lib.hid C
        have HN1 : Hid (∀ j, j < k + 1 → lineErr (ls.getD j default).n (ls.getD j default).ws = 0) := by
          intro j hj
          by_cases h : j < k
          · exact HN.out j h
          · obtain rfl : j = k := by omega
            rw [HG.out]; exact h0
        have a1' : ¬ 9223372036854775807 < V.size + T.size := by omega
        have a2' : ¬ 9223372036854775807 < V.size + T.size + 1 := by omega
        clear C h0 hTs hVs
        go_wp2_with fail
        refine C1.out.mono ?_
        rintro e w4 ⟨rfl, hb4⟩
        have R2 := Lib.hid ((R.out.keep hb4).keep (below_alloc1 w4 (.cells #[.string T, .int .i64 0] 32)))
        clear hb4 R C1 a0 a1
        go_wp2_with fail
        refine ⟨⟨k + 1, _, by omega, by go_num, rfl, ?_, HN1, R2⟩, by simp [intOf]; omega⟩
        unfold Hid
        rw [ByteArray.data_append, ByteArray.data_append, Array.toList_append, Array.toList_append, HV.out, waText_snoc ls k (by rw [HLN.out]; exact hlt), HG.out, ← hT.out, bs_list]
      · have h1 : (lineErr n ws != 0) = true := bne_iff_ne.2 h0
        unfold wrAgg at C
        rw [if_neg h0, hL.out] at C
        have C1 := Lib.hid C
        have HR : Hid (shAgg ls = .agg #[.string ⟨#[]⟩, .int .i64 (lineErr n ws)]) := by
          have e := waErr_at ls k (by rw [HLN.out]; exact hlt) HN.out (by rw [HG.out]; exact h0)
          rw [HG.out] at e
          unfold shAgg Hid
          rw [e, if_neg h0]
        obtain ⟨er, her⟩ : ∃ er, Hid (lineErr n ws = er) := ⟨_, rfl⟩
        rw [her.out] at h1 HR C1
        clear C h0
        go_wp2_with fail
        refine C1.out.mono ?_
        rintro e w4 ⟨rfl, hb4⟩
        have R2 := Lib.hid ((R.out.keep hb4).keep (below_alloc1 w4 (.cells #[.string ⟨#[]⟩, .int .i64 er] 32)))
        have r0 := R2.out.r0
        have r1 := R2.out.r1
        have f0 := R2.out.fr 0
        have f1 := R2.out.fr 1
        clear hb4 R C1 a0 a1
        go_wp2_with fail
        refine bodyPost_ret (v := .agg #[.string ⟨#[]⟩, .int .i64 er]) (by simp [results, Tryz.results59, go_sem, r0, r1]) rfl ⟨by rw [HR.out], R2.out.set _ _⟩
    · obtain rfl : k = N := by omega
      have hR : waErr ls = 0 := waErr_none ls (by rw [HLN.out]; exact HN.out)
      have HR : Hid (shAgg ls = .agg #[.string V, .int .i64 0]) := by
        have hv := HV.out
        rw [← HLN.out, List.take_length] at hv
        unfold shAgg Hid
        rw [if_pos hR, ← hv]; rfl
      have r0 := R.out.r0
      have r1 := R.out.r1
      have f0 := R.out.fr 0
      have f1 := R.out.fr 1
      clear hR HV HN
      go_wp2_with fail
      refine bodyPost_ret (v := .agg #[.string V, .int .i64 0]) (by simp [results, Tryz.results59, go_sem, r0, r1]) rfl ⟨by rw [HR.out], R.out.set _ _⟩
end Go.Proofs.YtmfhpddeclggfaaGreatDoor
