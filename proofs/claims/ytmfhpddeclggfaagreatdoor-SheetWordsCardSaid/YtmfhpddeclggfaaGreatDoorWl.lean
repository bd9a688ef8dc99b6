import Derived.Test.YtmfhpddeclggfaaGreatDoorMp
import Derived.Test.YtmfhpddeclggfaaGreatDoorFam
import Derived.Laws.StructEq
import Derived.MapKept
import Derived.WideKeyRuns
import Derived.Maps.Own
import Derived.WalkKit
import Derived.LoopTactic
import Derived.WalkSpells
import Derived.WalkLawsBesides
import Derived.Lib.Hide
import Derived.BigQuiet
import Derived.IntWalk
import Derived.Deep.DeepMust
import Derived.WalkSmall
import Derived.StillTailTactics
import Derived.Deep.RegionLaw
import Derived.Deep.QuietTactic
import Derived.Deep.RegionHeld3
import Derived.Deep.AppendLies
namespace Go.Proofs.YtmfhpddeclggfaaGreatDoor
open Go.RowKit
theorem inf3 : (Tryz.prog.info? 3).map (fun i => (i.zero, i.size, i.bytes)) = some (some (.int .i64 0), 1, 8) := by kernel_rfl
/-- The cells of numbers. -/
abbrev cellsI (zs : List Int) : List Value := zs.map (Value.int .i64)
set_option maxRecDepth 100000 in
set_option maxHeartbeats 1000000 in
theorem withLast_new (v : Value) (zs : List Int) (k : Int) (B : Nat) (w : World) (hO : w.ownsRow B 3 1 v zs.length (cellsI zs)) (hk : zs.getLast? ≠ some k) (hl : zs.length ≤ 1000000) (hB : B ≤ w.heap.size) :
    Calls Tryz.prog 184 #[v, .int .i64 k] w fun e w' => ∃ v', e = .returned v' ∧ w'.ownsRow B 3 1 v' (zs.length + 1) (cellsI (zs ++ [k])) ∧ w.grownBy w' v.ownBlock ∧ (v'.ownBlock = some (w.heap.size + 1) ∨ (v'.ownBlock = v.ownBlock ∧ v.ownBlock ≠ none)) ∧ w.heap.size < w'.heap.size := by
  obtain ⟨i0, hi, hz0, hz1, hz2⟩ := info_parts inf3
  have fin : ∀ w2 v', w2.ownsRow B 3 1 v' (zs.length + 1) (cellsI zs ++ [.int .i64 k]) → (w.alloc (.cells #[.int .i64 k] 3)).grownBy w2 v.ownBlock → (v'.ownBlock = some (w.alloc (.cells #[.int .i64 k] 3)).heap.size ∨ (v'.ownBlock = v.ownBlock ∧ v.ownBlock ≠ none)) →
      w2.ownsRow B 3 1 v' (zs.length + 1) (cellsI (zs ++ [k])) ∧ w.grownBy w2 v.ownBlock ∧ (v'.ownBlock = some (w.heap.size + 1) ∨ (v'.ownBlock = v.ownBlock ∧ v.ownBlock ≠ none)) ∧ w.heap.size < w2.heap.size := by
    intro w2 v' h1 h2 h3
    rw [World.size_alloc] at h3
    have hs := h2.size
    rw [World.size_alloc] at hs
    refine ⟨by rw [cellsI, List.map_append]; exact h1, ⟨h2.os, h2.tape, h2.output, by omega, fun j hj hne => (h2.block j (by rw [World.size_alloc]; omega) hne).trans (Below.heap_alloc w _ j hj)⟩, h3, by omega⟩
  have FIN := Lib.hid fin
  have HO := Lib.hid hO
  have hnews : ∀ j u, ([.int .i64 k] : List Value)[j]? = some u → (w.alloc (.cells #[.int .i64 k] 3)).cell? ((⟨w.heap.size, 0, none⟩ : Addr).add j) = some u := cells_new w #[.int .i64 k] 3
  have HN := Lib.hid hnews
  clear fin hO hnews
  rcases HO.out.2 with ⟨rfl, h0⟩ | ⟨g, cap, cur, rfl, hg, hc, h3, h4, h5, h6⟩
  · have hz : zs = [] := List.length_eq_zero_iff.1 h0
    subst hz
    clear hk h0
    go_enter Tryz.func184, Tryz.ntmps184
    go_wp2_with (at_builtin; refine wpList_append_where _ rfl (.tmp 19) (.tmp 21) 85 rfl B 3 i0 (.int .i64 0) 1 8 Tryz.underlying85 hi hz0 hz1 hz2 rfl (by decide) (.slice none 0 0) 0 [] rfl (HO.out.alloc _) ⟨w.heap.size, 0, none⟩ 1 1 [.int .i64 k] (by decide) rfl rfl HN.out (by simp [Value.oneCell']) (by decide) (by decide) (by rw [World.size_alloc]; omega) ?_; intro v' w2 hO2 hg2 hw2)
    go_ret
    exact ⟨_, rfl, FIN.out _ _ hO2 hg2 hw2⟩
  · have hcell : ∀ j x, zs[j]? = some x → w.cell? ⟨g, j, none⟩ = some (.int .i64 x) := by
      intro j x hj
      have hlt : j < zs.length := (List.getElem?_eq_some_iff.1 hj).1
      have g1 : (cellsI zs)[j]? = some (.int .i64 x) := by rw [cellsI, List.getElem?_map, hj]; rfl
      rw [← h6, List.getElem?_take_of_lt (by omega)] at g1
      simpa [World.cell?, hc] using g1
    by_cases hz : zs = []
    · subst hz
      clear hk hcell hc h3 h4 h5 h6 hg
      go_enter Tryz.func184, Tryz.ntmps184
      go_wp2_with (at_builtin; refine wpList_append_where _ rfl (.tmp 19) (.tmp 21) 85 rfl B 3 i0 (.int .i64 0) 1 8 Tryz.underlying85 hi hz0 hz1 hz2 rfl (by decide) (.slice (some ⟨g, 0, none⟩) 0 cap) 0 [] rfl (HO.out.alloc _) ⟨w.heap.size, 0, none⟩ 1 1 [.int .i64 k] (by decide) rfl rfl HN.out (by simp [Value.oneCell']) (by decide) (by decide) (by rw [World.size_alloc]; omega) ?_; intro v' w2 hO2 hg2 hw2)
      go_ret
      exact ⟨_, rfl, FIN.out _ _ hO2 hg2 hw2⟩
    · obtain ⟨m, hm⟩ : ∃ m, zs.length = m + 1 := ⟨zs.length - 1, by have := List.length_pos_iff.2 hz; omega⟩
      obtain ⟨x, hx⟩ : ∃ x, zs[m]? = some x := ⟨zs[m], List.getElem?_eq_getElem (by omega)⟩
      have c1 := hcell m x hx
      have hne : x ≠ k := by
        intro e
        apply hk
        rw [List.getLast?_eq_getElem?, hm]
        simpa [e] using hx
      have hw0 : IntKind.i64.wrap (((m : Int) + 1) - 1) = (m : Int) := by rw [show ((m : Int) + 1) - 1 = m from by omega, IntKind.wrap_i64]; unfold wrap64 at *; omega
      have HM := Lib.hid hm
      rw [hm] at HO FIN ⊢
      have hml : m + 1 ≤ 1000000 := by omega
      have HL1 : Hid (m + 1 + 1 ≤ maxLen) := by unfold Hid maxLen; omega
      have HL2 : Hid ((m + 1 + 1) * 8 ≤ 140737488355328) := by unfold Hid; omega
      clear hk hcell hc h3 h4 h5 h6 hg hz hx hm hl
      go_enter Tryz.func184, Tryz.ntmps184
      go_wp2_with (at_builtin; refine wpList_append_where _ rfl (.tmp 19) (.tmp 21) 85 rfl B 3 i0 (.int .i64 0) 1 8 Tryz.underlying85 hi hz0 hz1 hz2 rfl (by decide) (.slice (some ⟨g, 0, none⟩) (m + 1) cap) (m + 1) (cellsI zs) rfl (HO.out.alloc _) ⟨w.heap.size, 0, none⟩ 1 1 [.int .i64 k] (by decide) rfl rfl HN.out (by simp [Value.oneCell']) HL1.out HL2.out (by rw [World.size_alloc]; omega) ?_; intro v' w2 hO2 hg2 hw2)
      go_ret
      exact ⟨_, rfl, FIN.out _ _ hO2 hg2 hw2⟩
end Go.Proofs.YtmfhpddeclggfaaGreatDoor
