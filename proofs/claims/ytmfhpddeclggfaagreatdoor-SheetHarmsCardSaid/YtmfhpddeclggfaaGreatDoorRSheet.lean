import Derived.Test.YtmfhpddeclggfaaGreatDoorRWrite
import Derived.WalkKit
import Derived.LoopTactic
import Derived.WalkSpells
import Derived.WalkLawsBesides
import Derived.Lib.Hide
import Derived.BigQuiet
import Derived.IntWalk
import Derived.Deep.DeepMust
import Derived.WalkSmall
import Derived.StillTailTactics
import Derived.Lib.SlBytesConst
import Derived.Deep.RegionLaw
import Derived.Deep.QuietTactic
namespace Go.Proofs.YtmfhpddeclggfaaGreatDoor
open Go.RowKit
/-- The reference's answer to the writing of a sheet of at most 400 lines. -/
def shAgg (ls : List GL) : Value := if waErr ls = 0 then .agg #[.string (bs (waText ls)), .int .i64 0] else .agg #[.string ⟨#[]⟩, .int .i64 (waErr ls)]
/-- The cell of the result, while lines are written. -/
structure RC (w W : World) : Prop where
  bel : Below w.heap.size w W
  k : K2 W w.heap.size (.string ⟨#[]⟩) (.int .i64 0)
  fr : ∀ o, W.frozen? ⟨w.heap.size, o, none⟩ = false
theorem RC.start (w : World) : RC w (w.alloc (.cells #[.string ⟨#[]⟩, .int .i64 0] 32)) := ⟨below_alloc1 _ _, K2.new _ _ _ _, fun o => frozen_new _ _ _ o⟩
theorem RC.keep {w W W' : World} (h : RC w W) (hb : Below W.heap.size W W') : RC w W' :=
  ⟨h.bel.trans (hb.mono h.bel.size), h.k.keep hb, fun o => by rw [hb.frozen (p := ⟨w.heap.size, o, none⟩) h.k.1]; exact h.fr o⟩
theorem RC.set {w W : World} (h : RC w W) (x y : Value) : Below w.heap.size w ((W.setCell ⟨w.heap.size, 0, none⟩ x).setCell ⟨w.heap.size, 1, none⟩ y) :=
  (h.bel.setCell (p := ⟨w.heap.size, 0, none⟩) (Nat.le_refl _) _).setCell (p := ⟨w.heap.size, 1, none⟩) (Nat.le_refl _) _
set_option maxRecDepth 100000 in
set_option maxHeartbeats 1000000 in
theorem rSheet_long (p : Option Addr) (n cap : Nat) (w : World) (hn : 400 < (n : Int)) :
    Calls Tryz.prog 39 #[.slice p n cap] w fun e w' => e = .returned (.agg #[.string ⟨#[]⟩, .int .i64 2]) ∧ Below w.heap.size w w' := by
  go_enter Tryz.func39, Tryz.ntmps39
  go_wp2_with fail
  refine bodyPost_ret (v := .agg #[.string ⟨#[]⟩, .int .i64 2]) (by simp [results, Tryz.results39, go_sem]) rfl ⟨rfl, below_alloc1 _ _⟩
set_option maxRecDepth 100000 in
set_option maxHeartbeats 1000000 in
theorem rSheet_ok (p : Option Addr) (cap : Nat) (ls : List GL) (w : World) (hn : ls.length ≤ 400) (hs : ∀ j, j < ls.length → (ls.getD j default).small) (hp : ListsAt w p ls) :
    Calls Tryz.prog 39 #[.slice p ls.length cap] w fun e w' => e = .returned (shAgg (numbered ls)) ∧ Below w.heap.size w w' := by
  have HP := Lib.hid hp
  have HS := Lib.hid hs
  have R0 := Lib.hid (RC.start w)
  clear hp hs
  have hn' : ¬ (400 < (ls.length : Int)) := by omega
  go_enter Tryz.func39, Tryz.ntmps39
  go_wp2_with fail
  go_loopw [3, 4] (fun v i wr => ∃ (k : Nat) (V : ByteArray), k ≤ ls.length ∧ i = .int .i64 k ∧ v = .string V ∧ Hid (V.data.toList = waText ((numbered ls).take k)) ∧ Hid (∀ j, j < k → lineErr ((numbered ls).getD j default).n ((numbered ls).getD j default).ws = 0) ∧ Hid (RC w wr)) (fun _ i _ => ls.length - (intOf i).toNat)
  case atStart => exact ⟨0, _, Nat.zero_le _, rfl, rfl, rfl, fun j h => absurd h (Nat.not_lt_zero _), R0⟩
  case round =>
    clear R0
    obtain ⟨k, V, hk, rfl, rfl, HV, HN, R⟩ := hrel
    by_cases hlt : k < ls.length
    · obtain ⟨n, q, c, ws, hg⟩ : ∃ n q c ws, Hid (ls.getD k default = ⟨n, q, c, ws⟩) := ⟨_, _, _, _, rfl⟩
      have hgn := numbered_at ls k hlt
      rw [hg.out] at hgn
      obtain ⟨b, o, rfl, hc0⟩ : ∃ b o, p = some ⟨b, o, none⟩ ∧ wr.cell? ⟨b, o + k, none⟩ = some (.slice q ws.length c) := by
        rcases (HP.out.below R.out.bel).1 with h | ⟨b, o, e1, e2, e3⟩
        · rw [h] at hlt; exact absurd hlt (by simp)
        · have := e3 k hlt
          rw [hg.out] at this
          exact ⟨b, o, e1, this⟩
      have hsm := HS.out k hlt
      have hst := (HP.out.below R.out.bel).2 k hlt
      rw [hg.out] at hsm hst
      have C := rWrite ((k : Int) + 1) q c ws wr hsm.1 hsm.2 hst
      have HG := Lib.hid hgn
      clear hsm hst hgn
      have hVs : V.size ≤ 6001 * 400 := by
        rw [Lib.size_eq, HV.out]
        have h1 := waText_len ((numbered ls).take k) fun j hj => by
          rw [List.length_take] at hj
          rw [List.getD, List.getElem?_take_of_lt (by omega), ← List.getD]
          exact HN.out j (by omega)
        rw [List.length_take] at h1
        omega
      by_cases h0 : lineErr ((k : Int) + 1) ws = 0
      · unfold wrAgg at C
        rw [if_pos h0] at C
        obtain ⟨T, hT⟩ : ∃ T, Hid (bs (lineT ((k : Int) + 1) ws) = T) := ⟨_, rfl⟩
        have hTs := lineT_size h0
        rw [hT.out] at C hTs
        have C1 := Lib.hid C
        have HN1 : Hid (∀ j, j < k + 1 → lineErr ((numbered ls).getD j default).n ((numbered ls).getD j default).ws = 0) := by
          intro j hj
          by_cases h : j < k
          · exact HN.out j h
          · obtain rfl : j = k := by omega
            rw [HG.out]; exact h0
        have a1 : ¬ 9223372036854775807 < V.size + T.size := by omega
        have a2 : ¬ 9223372036854775807 < V.size + T.size + 1 := by omega
        clear C h0 hTs hVs
        go_wp2_with fail
        refine C1.out.mono ?_
        rintro e w4 ⟨rfl, hb4⟩
        have R2 := Lib.hid ((R.out.keep hb4).keep (below_alloc1 w4 (.cells #[.string T, .int .i64 0] 32)))
        clear hb4 R C1 hc0
        go_wp2_with fail
        refine ⟨⟨k + 1, _, by omega, by go_num, rfl, ?_, HN1, R2⟩, by simp [intOf]; omega⟩
        unfold Hid
        rw [ByteArray.data_append, ByteArray.data_append, Array.toList_append, Array.toList_append, HV.out, waText_snoc (numbered ls) k (by rw [numbered_len]; exact hlt), HG.out, ← hT.out, bs_list]
      · have h1 : (lineErr ((k : Int) + 1) ws != 0) = true := bne_iff_ne.2 h0
        unfold wrAgg at C
        rw [if_neg h0] at C
        have C1 := Lib.hid C
        have HR : Hid (shAgg (numbered ls) = .agg #[.string ⟨#[]⟩, .int .i64 (lineErr ((k : Int) + 1) ws)]) := by
          have e := waErr_at (numbered ls) k (by rw [numbered_len]; exact hlt) HN.out (by rw [HG.out]; exact h0)
          rw [HG.out] at e
          unfold shAgg Hid
          rw [e, if_neg h0]
        clear C h0
        go_wp2_with fail
        refine C1.out.mono ?_
        rintro e w4 ⟨rfl, hb4⟩
        have R2 := Lib.hid ((R.out.keep hb4).keep (below_alloc1 w4 (.cells #[.string ⟨#[]⟩, .int .i64 (lineErr ((k : Int) + 1) ws)] 32)))
        have r0 := R2.out.k.2.1
        have r1 := R2.out.k.2.2
        have f0 := R2.out.fr 0
        have f1 := R2.out.fr 1
        clear hb4 R C1 hc0
        go_wp2_with fail
        refine bodyPost_ret (v := .agg #[.string ⟨#[]⟩, .int .i64 (lineErr ((k : Int) + 1) ws)]) (by simp [results, Tryz.results39, go_sem, r0, r1]) rfl ⟨by rw [HR.out], R2.out.set _ _⟩
    · obtain rfl : k = ls.length := by omega
      have hR : waErr (numbered ls) = 0 := waErr_none (numbered ls) (by rw [numbered_len]; exact HN.out)
      have HR : Hid (shAgg (numbered ls) = .agg #[.string V, .int .i64 0]) := by
        have hv := HV.out
        rw [← numbered_len, List.take_length] at hv
        unfold shAgg Hid
        rw [if_pos hR, ← hv]; rfl
      have r0 := R.out.k.2.1
      have r1 := R.out.k.2.2
      have f0 := R.out.fr 0
      have f1 := R.out.fr 1
      clear hR HV HN
      go_wp2_with fail
      refine bodyPost_ret (v := .agg #[.string V, .int .i64 0]) (by simp [results, Tryz.results39, go_sem, r0, r1]) rfl ⟨by rw [HR.out], R.out.set _ _⟩
end Go.Proofs.YtmfhpddeclggfaaGreatDoor
