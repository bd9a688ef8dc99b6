import Derived.RangeFuncNested
import Derived.RangeFuncBound
import Derived.RangeFuncCalls
import Derived.RangeFuncLeaves
import Derived.Test.YtmfhpddeclggfaaGreatDoorGj
import Derived.RangeFuncBox
import Derived.Shelf.Abstract
import Derived.Shelf.RegionOpen
import Derived.OwnWalkIn
import Derived.TacticsInMore
import Derived.LoopNIn
import Derived.LoopIn
import Derived.Maps.AppendAt
import Derived.Maps.OwnIn
import Derived.RegionIn
import Derived.BigRegionIn
import Derived.Stop.RegionWithIn
import Derived.WalkKit
import Derived.Test.YtmfhpddeclggfaaGreatDoorGi
import Derived.LoopTactic
import Derived.WalkSpells
import Derived.WalkLawsBesides
import Derived.Lib.Hide
import Derived.BigQuiet
import Derived.IntWalk
import Derived.Deep.DeepMust
import Derived.WalkSmall
import Derived.StillTailTactics
import Derived.Deep.RegionLaw
import Derived.Deep.QuietTactic
import Derived.Deep.Cut
import Derived.Deep.DeepCutAuto
import Derived.Deep.LoopGhost
import Derived.Laws.AppendOwn
namespace Go.Proofs.YtmfhpddeclggfaaGreatDoor
open Go.RowKit
/-! The reference's Harmed. -/
open Go.Shelf
theorem bs_extract (s : ByteArray) (n : Nat) : s.extract 0 n = bs (s.data.toList.take n) := by
  have : (s.extract 0 n).data.toList = s.data.toList.take n := by simp
  rw [← this]
  rfl
theorem rHd_no (s : ByteArray) (f lo : Bool) (h : HM) (w : World) (hs : s.size ≤ 1000000) (hk1 : ¬ h.k < 1) (hk5 : ¬ 5 < h.k) (hh : hurt ⟨s.data.toList, f, lo⟩ h = none) :
    Calls Tryz.prog 105 #[rpV s f lo, hmV h] w fun e w' => e = .returned (.tuple #[rpV s f lo, .int .i64 1]) ∧ Below w.heap.size w w' := by
  obtain ⟨k, a, x, d⟩ := h
  simp only at hk1 hk5
  have hsl : s.data.toList.length = s.size := by simp
  unfold hurt at hh
  cases lo with
  | true => rw [if_pos rfl] at hh; cases hh
  | false =>
    rw [if_neg (fun e => Bool.false_ne_true e)] at hh
    simp only at hh
    by_cases k1 : k = 1
    · rw [if_pos k1] at hh; cases hh
    rw [if_neg k1] at hh
    by_cases k2 : k = 2
    · rw [if_pos k2] at hh
      subst k2
      by_cases c : 0 ≤ x ∧ x ≤ (s.data.toList.length : Int)
      · rw [if_pos c] at hh; cases hh
      · exact rHd_2n s f a x d w hs (by omega)
    rw [if_neg k2] at hh
    by_cases k5 : k = 5
    · rw [if_pos k5] at hh
      subst k5
      by_cases c : 0 ≤ x ∧ x < (s.data.toList.length : Int) - 1
      · rw [if_pos c] at hh; cases hh
      · exact rHd_5n s f a x d w hs (by omega)
    rw [if_neg k5] at hh
    have k34 : k = 3 ∨ k = 4 := by omega
    rcases k34 with rfl | rfl
    · unfold putB at hh
      simp only at hh
      by_cases c : 0 ≤ x ∧ x < (s.data.toList.length : Int)
      · rw [if_pos ⟨c.1, c.2, by rw [if_neg (by decide)]; decide, by rw [if_neg (by decide)]; decide⟩] at hh; cases hh
      · exact rHd_3n s f a x d w hs (by omega)
    · unfold putB at hh
      simp only [if_true] at hh
      by_cases c : 0 ≤ x ∧ x < (s.data.toList.length : Int)
      · by_cases c2 : 0 ≤ d ∧ d ≤ 255
        · rw [if_pos ⟨c.1, c.2, c2.1, c2.2⟩] at hh; cases hh
        · exact rHd_4m s f a x d w hs c.1 (by omega) (by omega)
      · exact rHd_4n s f a x d w hs (by omega)
theorem rHd_yes (s : ByteArray) (f lo : Bool) (h : HM) (q : PT) (w : World) (hs : s.size ≤ 1000000) (hk1 : ¬ h.k < 1) (hk5 : ¬ 5 < h.k) (hh : hurt ⟨s.data.toList, f, lo⟩ h = some q) :
    Calls Tryz.prog 105 #[rpV s f lo, hmV h] w fun e w' => e = .returned (.tuple #[rpV (bs q.c) q.fd q.lo, .int .i64 0]) ∧ Below w.heap.size w w' := by
  obtain ⟨k, a, x, d⟩ := h
  simp only at hk1 hk5
  have hsl : s.data.toList.length = s.size := by simp
  unfold hurt at hh
  cases lo with
  | true =>
    rw [if_pos rfl] at hh
    obtain rfl := Option.some.inj hh
    exact rHd_lost s f k a x d w
  | false =>
    rw [if_neg (fun e => Bool.false_ne_true e)] at hh
    simp only at hh
    by_cases k1 : k = 1
    · rw [if_pos k1] at hh
      obtain rfl := Option.some.inj hh
      subst k1
      exact rHd_1 s f a x d w hs
    rw [if_neg k1] at hh
    by_cases k2 : k = 2
    · rw [if_pos k2] at hh
      subst k2
      by_cases c : 0 ≤ x ∧ x ≤ (s.data.toList.length : Int)
      · rw [if_pos c] at hh
        obtain rfl := Option.some.inj hh
        have := rHd_2y s f a x d w hs c.1 (by omega)
        rw [bs_extract] at this
        exact this
      · rw [if_neg c] at hh; cases hh
    rw [if_neg k2] at hh
    by_cases k5 : k = 5
    · rw [if_pos k5] at hh
      subst k5
      by_cases c : 0 ≤ x ∧ x < (s.data.toList.length : Int) - 1
      · rw [if_pos c] at hh
        obtain rfl := Option.some.inj hh
        exact rHd_5y s f a x d w hs c.1 (by omega)
      · rw [if_neg c] at hh; cases hh
    rw [if_neg k5] at hh
    have k34 : k = 3 ∨ k = 4 := by omega
    rcases k34 with rfl | rfl
    · unfold putB at hh
      simp only at hh
      by_cases c : 0 ≤ x ∧ x < (s.data.toList.length : Int)
      · rw [if_pos ⟨c.1, c.2, by rw [if_neg (by decide)]; decide, by rw [if_neg (by decide)]; decide⟩] at hh
        obtain rfl := Option.some.inj hh
        exact rHd_3y s f a x d w hs c.1 (by omega)
      · rw [if_neg (fun e => c ⟨e.1, e.2.1⟩)] at hh; cases hh
    · unfold putB at hh
      simp only [if_true] at hh
      by_cases c : 0 ≤ x ∧ x < (s.data.toList.length : Int) ∧ 0 ≤ d ∧ d ≤ 255
      · rw [if_pos c] at hh
        obtain rfl := Option.some.inj hh
        exact rHd_4y s f a x d w hs c.1 (by omega) c.2.2.1 c.2.2.2
      · rw [if_neg c] at hh; cases hh
/-- The reference's parts lie there. -/
structure RG (W : World) (g : Nat) (ps : List PT) : Prop where
  ltg : g < W.heap.size
  cel : ∀ (j : Nat) (p : PT), ps[j]? = some p → W.cell? ⟨g, j * 3, none⟩ = some (.string (bs p.c)) ∧ W.cell? ⟨g, j * 3 + 1, none⟩ = some (.bool p.fd) ∧ W.cell? ⟨g, j * 3 + 2, none⟩ = some (.bool p.lo)
  frz : ∀ i, W.frozen? ⟨g, i, none⟩ = false
theorem rg_place {B : Nat} {W : World} {v : Value} {ps : List PT} (h : W.ownsRow B 162 3 v ps.length (flatR ps)) : ∃ q cap, v = .slice q ps.length cap ∧ (ps = [] ∨ ∃ g, q = some ⟨g, 0, none⟩ ∧ B ≤ g ∧ RG W g ps) := by
  obtain ⟨h1, ⟨rfl, h2⟩ | ⟨g, cap, cur, rfl, hg, hc, h3, h4, h5, h6⟩⟩ := h
  · exact ⟨none, 0, by rw [h2], .inl (List.length_eq_zero_iff.1 h2)⟩
  · refine ⟨some ⟨g, 0, none⟩, cap, rfl, .inr ⟨g, rfl, hg, (Array.getElem?_eq_some_iff.1 hc).1, fun j x hj => ?_, fun i => ?_⟩⟩
    · obtain ⟨k1, k2, k3⟩ := flatR_get hj
      have hjl : j < ps.length := (List.getElem?_eq_some_iff.1 hj).1
      rw [← h6, List.getElem?_take_of_lt (by omega)] at k1 k2 k3
      exact ⟨by simpa [World.cell?, hc] using k1, by simpa [World.cell?, hc] using k2, by simpa [World.cell?, hc] using k3⟩
    · simp [World.frozen?, hc]
theorem RG.below {W W' : World} {g : Nat} {ps : List PT} (h : RG W g ps) (hb : Below W.heap.size W W') : RG W' g ps :=
  ⟨Nat.lt_of_lt_of_le h.ltg hb.size, fun j x hj => by
    obtain ⟨a, b, c⟩ := h.cel j x hj
    exact ⟨(hb.cell (p := ⟨g, j * 3, none⟩) h.ltg).trans a, (hb.cell (p := ⟨g, j * 3 + 1, none⟩) h.ltg).trans b, (hb.cell (p := ⟨g, j * 3 + 2, none⟩) h.ltg).trans c⟩,
    fun i => (hb.frozen (p := ⟨g, i, none⟩) h.ltg).trans (h.frz i)⟩
theorem RG.set {W : World} {g : Nat} {ps : List PT} (h : RG W g ps) {j : Nat} (hj : j < ps.length) (p : PT) : RG (((W.setCell ⟨g, j * 3, none⟩ (.string (bs p.c))).setCell ⟨g, j * 3 + 1, none⟩ (.bool p.fd)).setCell ⟨g, j * 3 + 2, none⟩ (.bool p.lo)) g (ps.set j p) := by
  obtain ⟨k0, k1, k2⟩ := h.cel j _ (List.getElem?_eq_getElem hj)
  refine ⟨by simpa using h.ltg, fun i x hi => ?_, fun i => by rw [World.frozen?_setCell, World.frozen?_setCell, World.frozen?_setCell]; exact h.frz i⟩
  by_cases e : i = j
  · subst e
    rw [List.getElem?_set_self hj] at hi
    obtain rfl := Option.some.inj hi
    refine ⟨?_, ?_, ?_⟩
    · rw [World.cell?_setCell_other _ _ _ _ (addr_ne (by omega)), World.cell?_setCell_other _ _ _ _ (addr_ne (by omega))]
      exact World.cell?_setCell_same _ _ _ k0
    · rw [World.cell?_setCell_other _ _ _ _ (addr_ne (by omega))]
      exact World.cell?_setCell_same _ _ _ ((World.cell?_setCell_other _ _ _ _ (addr_ne (by omega))).trans k1)
    · exact World.cell?_setCell_same _ _ _ ((World.cell?_setCell_other _ _ _ _ (addr_ne (by omega))).trans ((World.cell?_setCell_other _ _ _ _ (addr_ne (by omega))).trans k2))
  · rw [List.getElem?_set_ne (Ne.symm e)] at hi
    obtain ⟨a, b, c⟩ := h.cel i x hi
    refine ⟨?_, ?_, ?_⟩
    · rw [World.cell?_setCell_other _ _ _ _ (addr_ne (by omega)), World.cell?_setCell_other _ _ _ _ (addr_ne (by omega)), World.cell?_setCell_other _ _ _ _ (addr_ne (by omega))]; exact a
    · rw [World.cell?_setCell_other _ _ _ _ (addr_ne (by omega)), World.cell?_setCell_other _ _ _ _ (addr_ne (by omega)), World.cell?_setCell_other _ _ _ _ (addr_ne (by omega))]; exact b
    · rw [World.cell?_setCell_other _ _ _ _ (addr_ne (by omega)), World.cell?_setCell_other _ _ _ _ (addr_ne (by omega)), World.cell?_setCell_other _ _ _ _ (addr_ne (by omega))]; exact c
end Go.Proofs.YtmfhpddeclggfaaGreatDoor
