import Derived.Test.YtmfhpddeclggfaaGreatDoorVIfa
import Derived.Maps.Own
import Derived.Maps.OwnOps
import Derived.Maps.OwnSet
import Derived.Lib.SlKeysI
import Derived.RangeFuncNested
import Derived.RangeFuncBound
import Derived.RangeFuncCalls
import Derived.RangeFuncLeaves
import Derived.RangeFuncBox
import Derived.Shelf.Abstract
import Derived.Shelf.RegionOpen
import Derived.OwnWalkIn
import Derived.TacticsInMore
import Derived.LoopNIn
import Derived.LoopIn
import Derived.Maps.AppendAt
import Derived.Maps.OwnIn
import Derived.RegionIn
import Derived.BigRegionIn
import Derived.Stop.RegionWithIn
import Derived.WalkKit
import Derived.LoopTactic
import Derived.WalkSpells
import Derived.WalkLawsBesides
import Derived.Lib.Hide
import Derived.BigQuiet
import Derived.IntWalk
import Derived.Deep.DeepMust
import Derived.WalkSmall
import Derived.StillTailTactics
import Derived.Deep.RegionLaw
import Derived.Deep.QuietTactic
import Derived.Deep.Cut
import Derived.Deep.DeepCutAuto
import Derived.Deep.LoopGhost
import Derived.Laws.AppendOwn
import Derived.Deep.RegionHeld3
import Derived.Deep.AppendLies
import Derived.Test.YtmfhpddeclggfaaGreatDoorIfk
import Derived.Test.YtmfhpddeclggfaaGreatDoorVIfb
import Derived.Test.YtmfhpddeclggfaaGreatDoorVIg
import Derived.Test.YtmfhpddeclggfaaGreatDoorVIh
import Derived.Test.YtmfhpddeclggfaaGreatDoorVIia
import Derived.Test.YtmfhpddeclggfaaGreatDoorVIib
import Derived.Test.YtmfhpddeclggfaaGreatDoorKf
import Derived.Test.YtmfhpddeclggfaaGreatDoorVIic
import Derived.Test.YtmfhpddeclggfaaGreatDoorVc
import Derived.Test.YtmfhpddeclggfaaGreatDoorVMa
import Derived.Test.YtmfhpddeclggfaaGreatDoorVMb
namespace Go.Proofs.YtmfhpddeclggfaaGreatDoor
open Go.RowKit
/-! How a book that was put together is read. -/
theorem fdV_ws (d : DS) (n : Nat) : ∀ f ∈ fdV d n, f.2.1.length ≤ 40 := by
  intro f hf
  unfold fdV at hf
  split at hf
  · unfold rsD at hf
    split at hf
    · cases hf
    · unfold rsF at hf
      obtain ⟨z, -, hz⟩ := List.mem_flatMap.1 hf
      unfold ov1 at hz
      split at hz
      · rw [List.mem_singleton] at hz
        obtain ⟨T, hT⟩ : ∃ T, ovS (ovO ((ofL (d.os n) z.toNat).map Prod.snd)) = T := ⟨_, rfl⟩
        rw [hT] at hz
        have h5 : f.2.1 = lineWs T := by rw [hz]
        rw [h5]
        exact lineWs_len T
      · cases hz
  · obtain ⟨t, -, rfl⟩ := List.mem_map.1 hf
    have h5 : (rdw t).length ≤ 40 := by
      unfold rdw
      split
      · exact lineWs_len t
      · exact Nat.zero_le _
    exact h5
theorem coD_ws (d : DS) : ∀ k, (∀ f ∈ (coD d k).1, f.2.1.length ≤ 40) ∧ ∀ f ∈ (coD d k).2.1, f.2.1.length ≤ 40
  | 0 => (⟨fun f h => (by cases h), fun f h => (by cases h)⟩ : (∀ f ∈ ([] : List FV), f.2.1.length ≤ 40) ∧ ∀ f ∈ ([] : List FV), f.2.1.length ≤ 40)
  | k + 1 => by
    obtain ⟨h1, h2⟩ := coD_ws d k
    have h3 := fdV_ws d (k + 1)
    rw [coD]
    unfold stB
    split
    · exact ⟨h1, h2⟩
    · rename_i f e
      rw [e] at h3
      exact ⟨fun x hx => (List.mem_append.1 hx).elim (h1 x) (h3 x), h2⟩
    · rename_i f g fs e
      rw [e] at h3
      exact ⟨h1, fun x hx => (List.mem_append.1 hx).elim (h2 x) (h3 x)⟩
theorem map_ws {ls : List (FL × List Int)} {L : List FV} (h : ls.map kG = L) (hw : ∀ f ∈ L, f.2.1.length ≤ 40) (j : Nat) : (ls.getD j default).1.g.ws.length ≤ maxLen := by
  by_cases hj : j < ls.length
  · have hm : kG (ls.getD j default) ∈ L := by
      rw [← h, List.getD, List.getElem?_eq_getElem hj]
      exact List.mem_map.2 ⟨_, List.getElem_mem hj, rfl⟩
    have := hw _ hm
    unfold kG at this
    unfold maxLen
    dsimp only at this
    omega
  · rw [List.getD, List.getElem?_eq_none (by omega)]
    exact Nat.zero_le _
theorem bk_founds {B : Nat} {W : World} {v : Value} {ls : List (FL × List Int)} (ho : W.ownsRow B 87 4 v ls.length (flatF ls)) (hk : ∀ f ∈ ls, StrsAt W f.1.g.p f.1.g.ws ∧ IntsAt W f.1.cp f.2 ∧ f.1.cn = f.2.length) : ∃ p c, v = .slice p ls.length c ∧ FoundsC W p ls := by
  have hat : ∀ j, j < ls.length → ls.getD j default ∈ ls := fun j hj => by rw [List.getD, List.getElem?_eq_getElem hj]; exact List.getElem_mem hj
  by_cases h0 : ls = []
  · subst h0
    obtain ⟨p, c, rfl⟩ := own_slice2 ho
    exact ⟨p, c, rfl, ⟨.inl rfl, fun j hj => absurd hj (Nat.not_lt_zero _)⟩, fun j hj => absurd hj (Nat.not_lt_zero _)⟩
  · obtain ⟨g, cap, rfl, -, hl, hc⟩ := own_at ho (List.length_pos_iff.2 h0) (flatF_len ls)
    refine ⟨_, _, rfl, ⟨.inr ⟨g, 0, rfl, hl, fun j hj => ?_⟩, fun j hj => ?_⟩, fun j hj => ⟨(hk _ (hat j hj)).2.1, (hk _ (hat j hj)).2.2⟩⟩
    all_goals rw [List.length_map] at hj
    rotate_left
    · rw [fst_at hj]; exact (hk _ (hat j hj)).1
    obtain ⟨g0, g1, g2, g3⟩ := flatF_at ls j hj
    rw [Nat.zero_add, fst_at hj]
    exact ⟨hc _ _ g0, hc _ _ g1, hc _ _ g2, hc _ _ g3⟩
theorem cellsS_at : ∀ (l : List (Int × Int)) (k : Nat), k < l.length → (cellsS l)[k * 2]? = some (.int .i64 (l.getD k (0, 0)).1) ∧ (cellsS l)[k * 2 + 1]? = some (.int .i64 (l.getD k (0, 0)).2)
  | [], _, h => absurd h (Nat.not_lt_zero _)
  | x :: l, 0, _ => ⟨rfl, rfl⟩
  | x :: l, k + 1, h => by
    have := cellsS_at l k (Nat.lt_of_succ_lt_succ h)
    have e : (k + 1) * 2 = k * 2 + 1 + 1 := by omega
    rw [e]
    exact this
theorem bk_spans {B : Nat} {W : World} {v : Value} {gs : List (Int × Int)} (ho : W.ownsRow B 176 2 v gs.length (cellsS gs)) : ∃ p c, v = .slice p gs.length c ∧ SpansAt W p gs := by
  by_cases h0 : gs = []
  · subst h0
    obtain ⟨p, c, rfl⟩ := own_slice2 ho
    exact ⟨p, c, rfl, .inl rfl⟩
  · obtain ⟨g, cap, rfl, -, hl, hc⟩ := own_at ho (List.length_pos_iff.2 h0) (cellsS_len gs)
    refine ⟨_, _, rfl, .inr ⟨g, 0, rfl, hl, fun j hj => ?_⟩⟩
    obtain ⟨g0, g1⟩ := cellsS_at gs j hj
    rw [Nat.zero_add]
    exact ⟨hc _ _ g0, hc _ _ g1⟩
/-- A book, as it lies: its lines, its clashes and its gaps. -/
structure BkAt (W : World) (b : BV) (p0 p1 p2 : Option Addr) (c0 c1 c2 : Nat) (ls cs : List (FL × List Int)) : Prop where
  l : FoundsC W p0 ls
  c : FoundsC W p1 cs
  g : SpansAt W p2 b.2.2
  kl : ls.map kG = b.1
  kc : cs.map kG = b.2.1
theorem BkAt.below {W W' : World} {b : BV} {p0 p1 p2 : Option Addr} {c0 c1 c2 : Nat} {ls cs : List (FL × List Int)} (h : BkAt W b p0 p1 p2 c0 c1 c2 ls cs) (hb : Below W.heap.size W W') : BkAt W' b p0 p1 p2 c0 c1 c2 ls cs := ⟨h.l.below hb, h.c.below hb, h.g.below hb, h.kl, h.kc⟩
theorem col_at {W w' : World} {b : BV} {er : Int} {e : Ending} (h : ColP W b er e w') : Below W.heap.size W w' ∧ ∃ p0 p1 p2 c0 c1 c2 ls cs, e = .returned (.tuple #[.agg #[.slice p0 b.1.length c0, .slice p1 b.2.1.length c1, .slice p2 b.2.2.length c2], .int .i64 er]) ∧ BkAt w' b p0 p1 p2 c0 c1 c2 ls cs := by
  obtain ⟨v, rfl, vl, vc, vg, ls, cs, e2, o0, o1, o2, hk, k1, k2, hb⟩ := h
  cases e2
  obtain ⟨p0, c0, rfl, f0⟩ := bk_founds o0 (fun f hf => hk f (.inl hf))
  obtain ⟨p1, c1, rfl, f1⟩ := bk_founds o1 (fun f hf => hk f (.inr hf))
  obtain ⟨p2, c2, rfl, f2⟩ := bk_spans o2
  exact ⟨hb, p0, p1, p2, c0, c1, c2, ls, cs, by rw [← k1, ← k2, List.length_map, List.length_map], f0, f1, f2, k1, k2⟩
theorem coB_len (cs : List ByteArray) (h : ∀ j, (cs.getD j ByteArray.empty).size ≤ 99999) (hn : cs.length ≤ 8) : (coB cs).1.length ≤ 1000000000 ∧ (coB cs).2.1.length ≤ 1000000000 ∧ (coB cs).2.2.length ≤ 1000000000 := by
  have hc : ∀ j, ((cs.map scL).getD j []).length ≤ 100000 := fun j => by
    rw [scs_getD]
    split
    · have := scL_len (cs.getD j ByteArray.empty); have := h j; omega
    · exact Nat.zero_le _
  have hz : SzD (layF (cs.map scL) cs.length) 1000000 := (layF_sz (cs.map scL) 100000 hc cs.length).mono (Nat.le_trans (Nat.mul_le_mul_right 100000 hn) (by decide))
  have hok := layF_ok (cs.map scL) (fun j s hs => by
    rw [scs_getD] at hs
    split at hs
    · exact (scL_mem hs).1
    · cases hs) (fun j s hs => by
    rw [scs_getD] at hs
    split at hs
    · have := (scL_mem hs).2; have := h j; omega
    · cases hs) cs.length
  obtain ⟨h1, h2, h3⟩ := coD_len (layF (cs.map scL) cs.length) 1000000 hz (layF (cs.map scL) cs.length).last
  have h4 : (layF (cs.map scL) cs.length).last * (1000000 + 1) ≤ 400 * (1000000 + 1) := Nat.mul_le_mul_right _ hok.last
  have h5 := hok.last
  unfold coB
  exact ⟨by omega, Nat.le_trans h2 (Nat.le_trans h4 (by decide)), by omega⟩
end Go.Proofs.YtmfhpddeclggfaaGreatDoor
