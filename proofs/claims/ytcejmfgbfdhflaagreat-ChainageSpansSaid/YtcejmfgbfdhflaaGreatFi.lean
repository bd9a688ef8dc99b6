import Derived.Test.YtcejmfgbfdhflaaGreatFg
import Derived.WalkKit
import Derived.LoopTactic
import Derived.WalkSpells
import Derived.WalkLawsBesides
import Derived.Lib.Hide
import Derived.BigQuiet
import Derived.IntWalk
import Derived.Deep.DeepMust
import Derived.WalkSmall
import Derived.StillTailTactics
import Derived.Deep.RegionLaw
import Derived.Deep.RegionHeld3
import Derived.Deep.QuietTactic
namespace Go.Proofs.YtcejmfgbfdhflaaGreat
open Go.RowKit Go.BigFrame Go.Sort
attribute [local go_sem] World.cell?_alloc_some
theorem ts_up (x : WA) (c : Ch) : ((tsO x c).map (·.year)).Pairwise (fun a b => a ≤ b) := by rw [List.pairwise_map]; exact srtB_up _
theorem ts_get {x : WA} {c : Ch} {j : Nat} (hj : j < (tsO x c).length) : (tsO x c).getD j dTh = (tsO x c)[j] := by
  rw [List.getD_eq_getElem?_getD, List.getElem?_eq_getElem hj]; rfl
theorem ts_cnt {x : WA} {c : Ch} {j : Nat} (hj : j < (tsO x c).length) (y : Int) : (tsO x c)[j].year ≤ y ↔ j < cntU ((tsO x c).map (·.year)) y := by
  have := sorted_cnt y _ (ts_up x c) j (by simpa using hj)
  simpa using this
theorem in_sp {x : WA} {c : Ch} {y : Int} (h : c.year ≤ y) (h4 : y ≤ 4000) : (spA x c (ixO x c y)).lo ≤ y ∧ y ≤ (spA x c (ixO x c y)).hi := by
  have h1 := cnt_pos (x := x) h
  have h2 := ix_lt (x := x) h
  constructor
  · show ((tsO x c).getD (ixO x c y) dTh).year ≤ y
    rw [ts_get h2]
    exact (ts_cnt h2 y).2 (by omega)
  · show y ≤ hiP (tsO x c) (ixO x c y)
    unfold hiP
    split
    · rename_i h3
      rw [ts_get h3]
      have := (not_congr (ts_cnt h3 y)).2 (by omega)
      omega
    · exact h4
theorem ix_sp {x : WA} {c : Ch} {y : Int} {j : Nat} (hj : j < (tsO x c).length) (h1 : (spA x c j).lo ≤ y) (h2 : y ≤ (spA x c j).hi) : ixO x c y = j := by
  have k1 : (tsO x c)[j].year ≤ y := by
    have : ((tsO x c).getD j dTh).year ≤ y := h1
    rwa [ts_get hj] at this
  have k2 := (ts_cnt hj y).1 k1
  have k3 : cntU ((tsO x c).map (·.year)) y ≤ j + 1 := by
    have k4 : y ≤ hiP (tsO x c) j := h2
    unfold hiP at k4
    split at k4
    · rename_i h3
      rw [ts_get h3] at k4
      have := (not_congr (ts_cnt h3 y)).1 (by omega)
      omega
    · have := cntU_le ((tsO x c).map (·.year)) y
      rw [List.length_map] at this
      omega
  unfold ixO
  omega
theorem sp_ne {x : WA} {c : Ch} (hw : OkW x) (hkc : OkC x c) {j : Nat} (hj : j < (tsO x c).length) : (spA x c j).lo ≤ (spA x c j).hi := by
  have hok := begs_ok hkc
  have hm := fun t (ht : t ∈ tsO x c) => hok t ((srtB_perm _).subset ht)
  show ((tsO x c).getD j dTh).year ≤ hiP (tsO x c) j
  rw [ts_get hj]
  unfold hiP
  split
  · rename_i h3
    rw [ts_get h3]
    have k1 : (tsO x c)[j].year ≤ (tsO x c)[j + 1].year := List.pairwise_iff_getElem.1 (srtB_up (begs x.rs c)) j (j + 1) hj h3 (by omega)
    have k2 : (tsO x c).Pairwise fun a b => a.year ≠ b.year := ((srtB_perm (begs x.rs c)).symm.pairwise_iff (fun h => h.symm)).1 (begs_ne hw hkc)
    have k3 := List.pairwise_iff_getElem.1 k2 j (j + 1) hj h3 (by omega)
    omega
  · have := (okTh_iff.1 (hm _ (List.getElem_mem hj)).1).1
    omega
theorem badTo_iff {S : Nat → Spl} {lo hi : Int} {n : Nat} : badTo S lo hi n = true ↔ ∃ j, j < n ∧ badS (S j) lo hi = true := by
  induction n with
  | zero => simp [badTo]
  | succ n ih =>
    simp only [badTo, Bool.or_eq_true, ih]
    constructor
    · rintro (⟨j, h1, h2⟩ | h)
      · exact ⟨j, by omega, h2⟩
      · exact ⟨n, by omega, h⟩
    · rintro ⟨j, h1, h2⟩
      rcases Nat.lt_or_ge j n with h | h
      · exact .inl ⟨j, h, h2⟩
      · obtain rfl : j = n := by omega
        exact .inr h2
theorem bad_iff {x : WA} {c : Ch} (hw : OkW x) (hkc : OkC x c) {lo hi : Int} (h1 : c.year ≤ lo) (h2 : lo ≤ hi) (h3 : hi ≤ 4000) :
    badTo (spA x c) lo hi (tsO x c).length = true ↔ ∃ y, lo ≤ y ∧ y ≤ hi ∧ clS (spO x c y) ≠ [] := by
  rw [badTo_iff]
  constructor
  · rintro ⟨j, hj, hb⟩
    unfold badS at hb
    simp only [Bool.and_eq_true, decide_eq_true_eq, Bool.not_eq_true', decide_eq_false_iff_not] at hb
    obtain ⟨⟨b1, b2⟩, b3⟩ := hb
    have hne := sp_ne hw hkc hj
    refine ⟨max lo (spA x c j).lo, by omega, by omega, ?_⟩
    have := ix_sp hj (y := max lo (spA x c j).lo) (by omega) (by omega)
    show clS (spA x c (ixO x c (max lo (spA x c j).lo))) ≠ []
    rw [this]; exact b3
  · rintro ⟨y, k1, k2, k3⟩
    obtain ⟨i1, i2⟩ := in_sp (x := x) (c := c) (y := y) (by omega) (by omega)
    refine ⟨ixO x c y, ix_lt (by omega), ?_⟩
    unfold badS
    have k3' : ¬ clS (spA x c (ixO x c y)) = [] := k3
    simp only [Bool.and_eq_true, decide_eq_true_eq, Bool.not_eq_true', decide_eq_false_iff_not]
    exact ⟨⟨by omega, by omega⟩, k3'⟩
/-- What the years' known lengths say. -/
structure WornF (x : WA) (ch lo hi : Int) : Prop where
  at_ : ∀ y, lo ≤ y → y ≤ hi → (agE x ch y = 0 ∧ lgLo x ch y = lowS (spO x (chOr x.cs ch) y) y ∧ lgHi x ch y = highS (spO x (chOr x.cs ch) y) y) ∨ (agE x ch y ≠ 0 ∧ agE x ch y = alE x ch lo hi)
  all : (∀ y, lo ≤ y → y ≤ hi → agE x ch y = 0) → alE x ch lo hi = 0
theorem wornF {x : WA} {ch lo hi : Int} (h : yrE x ch lo hi = 0) : WornF x ch lo hi := by
  obtain ⟨hw, hkc, ⟨y1, y2, y3, y4, y5⟩, hk, hc, hA⟩ := yrE_zero h
  have hb := bad_iff hw hkc y1 y2 y3
  have hs : ∀ y, lo ≤ y → y ≤ hi → agE x ch y = if clS (spO x (chOr x.cs ch) y) = [] then 0 else 9 := fun y a b => by
    unfold agE
    rw [if_neg (by rw [sE_at hk hc ⟨by omega, by omega⟩]; simp)]
  refine ⟨fun y a b => ?_, fun H => ?_⟩
  · have e := hs y a b
    by_cases hz : clS (spO x (chOr x.cs ch) y) = []
    · rw [if_pos hz] at e
      exact .inl ⟨e, by unfold lgLo; rw [if_pos e], by unfold lgHi; rw [if_pos e]⟩
    · rw [if_neg hz] at e
      refine .inr ⟨by rw [e]; decide, ?_⟩
      rw [e, hA, if_pos (hb.2 ⟨y, a, b, hz⟩)]
  · rw [hA, if_neg]
    intro hbt
    obtain ⟨y, a, b, hz⟩ := hb.1 hbt
    have e := hs y a b
    rw [H y a b, if_neg hz] at e
    cases e
end Go.Proofs.YtcejmfgbfdhflaaGreat
