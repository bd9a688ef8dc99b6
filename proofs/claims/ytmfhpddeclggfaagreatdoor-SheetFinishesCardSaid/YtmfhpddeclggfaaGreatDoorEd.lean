import Derived.RangeFuncNested
import Derived.RangeFuncBound
import Derived.RangeFuncCalls
import Derived.RangeFuncLeaves
import Derived.Test.YtmfhpddeclggfaaGreatDoorEa
import Derived.RangeFuncBox
import Derived.Shelf.Abstract
import Derived.Shelf.RegionOpen
import Derived.OwnWalkIn
import Derived.TacticsInMore
import Derived.LoopNIn
import Derived.LoopIn
import Derived.Maps.AppendAt
import Derived.Maps.OwnIn
import Derived.RegionIn
import Derived.BigRegionIn
import Derived.Stop.RegionWithIn
import Derived.WalkKit
import Derived.LoopTactic
import Derived.WalkSpells
import Derived.WalkLawsBesides
import Derived.Lib.Hide
import Derived.BigQuiet
import Derived.IntWalk
import Derived.Deep.DeepMust
import Derived.WalkSmall
import Derived.StillTailTactics
import Derived.Deep.RegionLaw
import Derived.Deep.QuietTactic
import Derived.Deep.Cut
import Derived.Deep.DeepCutAuto
import Derived.Deep.LoopGhost
import Derived.Laws.AppendOwn
namespace Go.Proofs.YtmfhpddeclggfaaGreatDoor
open Go.RowKit
/-! Fair. -/
open Go.Shelf
/-- The lines laid so far in a slice at the block B. -/
structure SF (w W : World) (B : Nat) (fs : List FL) (k : Nat) : Prop where
  bel : Below w.heap.size w W
  hB : w.heap.size ≤ B
  lt : B < W.heap.size
  fr : ∀ o, W.frozen? ⟨B, o, none⟩ = false
  old : ∀ o, o < fs.length * 2 → ∃ v, W.cell? ⟨B, o, none⟩ = some v
  new : ∀ j, j < k → W.cell? ⟨B, j * 2, none⟩ = some (.int .i64 (fs.getD j default).g.n) ∧ W.cell? ⟨B, j * 2 + 1, none⟩ = some (.slice (fs.getD j default).g.p (fs.getD j default).g.ws.length (fs.getD j default).g.cap)
theorem SF.start (w : World) (X : Obj) (fs : List FL) (N : Nat) (hN : fs.length = N) : SF w ((w.alloc X).alloc (.cells (madeCells #[.int .i64 0, .slice none 0 0] (N * 2)) 39)) (w.heap.size + 1) fs 0 := by
  have s1 : (w.alloc X).heap.size = w.heap.size + 1 := by simp
  have b1 := below_alloc1 (w.alloc X) (.cells (madeCells #[.int .i64 0, .slice none 0 0] (N * 2)) 39)
  have f1 := fun o => frozen_new (w.alloc X) (madeCells #[.int .i64 0, .slice none 0 0] (N * 2)) 39 o
  have m1 := fun o => made_some (w.alloc X) #[.int .i64 0, .slice none 0 0] (N * 2) 39 o
  rw [s1] at b1 f1 m1
  exact ⟨(below_alloc1 _ _).trans (b1.mono (by omega)), by omega, by simp, f1, fun o h => m1 o (by rw [← hN]; exact h), fun j h => absurd h (Nat.not_lt_zero _)⟩
theorem SF.keep {w W W' : World} {B : Nat} {fs : List FL} {k : Nat} (h : SF w W B fs k) (hb : Below W.heap.size W W') : SF w W' B fs k :=
  ⟨h.bel.trans (hb.mono h.bel.size), h.hB, Nat.lt_of_lt_of_le h.lt hb.size, fun o => (hb.frozen (p := ⟨B, o, none⟩) h.lt).trans (h.fr o), fun o ho => by
    obtain ⟨v, hv⟩ := h.old o ho
    exact ⟨v, (hb.cell (p := ⟨B, o, none⟩) h.lt).trans hv⟩, fun j hj => ⟨(hb.cell (p := ⟨B, j * 2, none⟩) h.lt).trans (h.new j hj).1, (hb.cell (p := ⟨B, j * 2 + 1, none⟩) h.lt).trans (h.new j hj).2⟩⟩
theorem SF.next {w W : World} {B : Nat} {fs : List FL} {k : Nat} (h : SF w W B fs k) (hk : k < fs.length) :
    SF w ((W.setCell ⟨B, k * 2, none⟩ (.int .i64 (fs.getD k default).g.n)).setCell ⟨B, k * 2 + 1, none⟩ (.slice (fs.getD k default).g.p (fs.getD k default).g.ws.length (fs.getD k default).g.cap)) B fs (k + 1) := by
  obtain ⟨v0, h0⟩ := h.old (k * 2) (by omega)
  obtain ⟨v1, h1⟩ := h.old (k * 2 + 1) (by omega)
  have h1' : (W.setCell ⟨B, k * 2, none⟩ (.int .i64 (fs.getD k default).g.n)).cell? ⟨B, k * 2 + 1, none⟩ = some v1 := by
    rw [World.cell?_setCell_other _ _ _ _ (addr_ne (by omega))]; exact h1
  refine ⟨(h.bel.setCell (p := ⟨B, k * 2, none⟩) h.hB _).setCell (p := ⟨B, k * 2 + 1, none⟩) h.hB _, h.hB, by simpa using h.lt, fun o => ?_, fun o ho => ?_, fun j hj => ?_⟩
  · rw [World.frozen?_setCell, World.frozen?_setCell]; exact h.fr o
  · by_cases e1 : k * 2 + 1 = o
    · subst e1
      exact ⟨_, World.cell?_setCell_same _ _ _ h1'⟩
    · rw [World.cell?_setCell_other _ _ _ _ (addr_ne e1)]
      by_cases e0 : k * 2 = o
      · subst e0
        exact ⟨_, World.cell?_setCell_same _ _ _ h0⟩
      · rw [World.cell?_setCell_other _ _ _ _ (addr_ne e0)]
        exact h.old o ho
  · by_cases e : j = k
    · subst e
      refine ⟨?_, World.cell?_setCell_same _ _ _ h1'⟩
      rw [World.cell?_setCell_other _ _ _ _ (addr_ne (by omega))]
      exact World.cell?_setCell_same _ _ _ h0
    · have := h.new j (by omega)
      rw [World.cell?_setCell_other _ _ _ _ (addr_ne (by omega)), World.cell?_setCell_other _ _ _ _ (addr_ne (by omega)), World.cell?_setCell_other _ _ _ _ (addr_ne (by omega)), World.cell?_setCell_other _ _ _ _ (addr_ne (by omega))]
      exact this
theorem gmap_at {fs : List FL} {j : Nat} (hj : j < fs.length) : (fs.map FL.g).getD j default = (fs.getD j default).g := by
  rw [List.getD, List.getD, List.getElem?_map, List.getElem?_eq_getElem hj]; rfl
set_option maxRecDepth 100000 in
set_option maxHeartbeats 4000000 in
theorem sFair (p : Option Addr) (c : Nat) (fs : List FL) (q1 q2 : Option Addr) (n1 c1 n2 c2 : Nat) (w : World) (hl : fs.length ≤ 1000000) (hz : ∀ j, j < fs.length → (fs.getD j default).g.small) (hp : FoundsAt w p fs) (he : Env w) :
    Calls Tryz.prog 58 #[bookV p fs.length c q1 n1 c1 q2 n2 c2] w fun e w' => e = .returned (waRes (fs.map FL.g)) ∧ Below w.heap.size w w' := by
  unfold bookV
  have HP := Lib.hid hp
  have HE := Lib.hid he
  have HZ := Lib.hid hz
  obtain ⟨N, hN⟩ : ∃ N, Hid (fs.length = N) := ⟨_, rfl⟩
  obtain ⟨ls, hls⟩ : ∃ ls, Hid (fs.map FL.g = ls) := ⟨_, rfl⟩
  rw [hls.out]
  rw [hN.out] at hl ⊢
  have mk := make39 (w.alloc (.cells #[.slice p N c, .slice q1 n1 c1, .slice q2 n2 c2] 78)) N (by omega)
  have S0 := Lib.hid (SF.start w (.cells #[.slice p N c, .slice q1 n1 c1, .slice q2 n2 c2] 78) fs N hN.out)
  have s1 : (w.alloc (.cells #[.slice p N c, .slice q1 n1 c1, .slice q2 n2 c2] 78)).heap.size = w.heap.size + 1 := by simp
  rw [s1] at mk
  clear hp he hz s1
  go_enter Tryz.func58, Tryz.ntmps58
  go_wp2_with fail
  go_loopw [14] (fun i wr => ∃ k : Nat, k ≤ N ∧ i = .int .i64 k ∧ Hid (SF w wr (w.heap.size + 1) fs k)) (fun i _ => N - (intOf i).toNat)
  case atStart => exact ⟨0, Nat.zero_le _, rfl, S0⟩
  case round =>
    clear S0
    obtain ⟨k, hk, rfl, S⟩ := hrel
    by_cases hlt : k < N
    · have hkl : k < fs.length := by rw [hN.out]; exact hlt
      obtain ⟨n, q, c0, ws, cp, cn, cc, rs, hg⟩ := fl_cases (fs.getD k default)
      obtain ⟨b, o, rfl, hb, a0, a1, a2, a3, hst⟩ := fd_at (HP.out.below S.out.bel) hkl hg
      have hlt' : (k : Int) < (N : Int) := by omega
      obtain ⟨L, hL⟩ : ∃ L, Hid (ws.length = L) := ⟨_, rfl⟩
      have S1 : Hid (SF w ((((wr.alloc (.cells #[.int .i64 n, .slice q L c0, .slice cp cn cc, .bool rs] 87)).setCell ⟨w.heap.size + 1, k * 2, none⟩ (.int .i64 n)).setCell ⟨w.heap.size + 1, k * 2 + 1, none⟩ (.slice q L c0))) (w.heap.size + 1) fs (k + 1)) := by
        have := (S.out.keep (below_alloc1 wr (.cells #[.int .i64 n, .slice q L c0, .slice cp cn cc, .bool rs] 87))).next hkl
        rw [hg] at this
        simp only [hL.out] at this
        exact this
      have S2 := Lib.hid (S.out.keep (below_alloc1 wr (.cells #[.int .i64 n, .slice q L c0, .slice cp cn cc, .bool rs] 87)))
      rw [hL.out] at a1
      have f0 := S2.out.fr (k * 2)
      have f1 := S2.out.fr (k * 2 + 1)
      obtain ⟨v0, d0⟩ := S2.out.old (k * 2) (by omega)
      obtain ⟨v1, d1⟩ := S2.out.old (k * 2 + 1) (by omega)
      clear hb hst hg
      go_wp2_with fail
      exact ⟨⟨k + 1, by omega, by go_num, S1⟩, by simp [intOf]; omega⟩
    · obtain rfl : k = N := by omega
      have hln : LinesAt wr (some ⟨w.heap.size + 1, 0, none⟩) (fs.map FL.g) := by
        refine ⟨Or.inr ⟨_, 0, rfl, S.out.lt, fun j hj => ?_⟩, fun j hj => ?_⟩
        · rw [List.length_map] at hj
          rw [gmap_at hj]
          have := S.out.new j (by rw [hN.out] at hj; exact hj)
          rw [Nat.zero_add]
          exact this
        · rw [List.length_map] at hj
          rw [gmap_at hj]
          exact (HP.out.2 j hj).below S.out.bel
      have C := sWriteAll (some ⟨w.heap.size + 1, 0, none⟩) k (fs.map FL.g) wr (by rw [List.length_map, hN.out]; omega) (fun j hj => by rw [List.length_map] at hj; rw [gmap_at hj]; exact HZ.out j hj) hln (HE.out.next S.out.bel)
      rw [List.length_map, hN.out, hls.out] at C
      have C1 := Lib.hid C
      clear C hln
      go_wp2_with fail
      refine C1.out.mono ?_
      rintro e w3 ⟨rfl, hb3⟩
      have HB : Hid (Below w.heap.size w w3) := S.out.bel.trans (hb3.mono S.out.bel.size)
      clear hb3
      by_cases h0 : waErr ls = 0
      · have hR : waRes ls = .tuple #[.string (bs (waText ls)), .int .i64 0] := by unfold waRes; rw [if_pos h0]
        rw [hR]
        have HR := Lib.hid hR
        clear h0 hR
        go_wp2_with fail
        go_ret2
        exact ⟨by rw [HR.out]; rfl, HB.out⟩
      · have hR : waRes ls = .tuple #[.string ⟨#[]⟩, .int .i64 (waErr ls)] := by unfold waRes; rw [if_neg h0]
        rw [hR]
        have HR := Lib.hid hR
        clear h0 hR
        go_wp2_with fail
        go_ret2
        exact ⟨by rw [HR.out]; rfl, HB.out⟩
end Go.Proofs.YtmfhpddeclggfaaGreatDoor
