import Derived.RangeFuncNested
import Derived.RangeFuncBound
import Derived.RangeFuncCalls
import Derived.RangeFuncLeaves
import Derived.Test.YtmfhpddeclggfaaGreatDoorGc5
import Derived.RangeFuncBox
import Derived.Shelf.Abstract
import Derived.Shelf.RegionOpen
import Derived.OwnWalkIn
import Derived.TacticsInMore
import Derived.LoopNIn
import Derived.LoopIn
import Derived.Maps.AppendAt
import Derived.Maps.OwnIn
import Derived.RegionIn
import Derived.BigRegionIn
import Derived.Stop.RegionWithIn
import Derived.WalkKit
import Derived.Test.YtmfhpddeclggfaaGreatDoorGe
import Derived.LoopTactic
import Derived.WalkSpells
import Derived.WalkLawsBesides
import Derived.Lib.Hide
import Derived.BigQuiet
import Derived.IntWalk
import Derived.Deep.DeepMust
import Derived.WalkSmall
import Derived.StillTailTactics
import Derived.Deep.RegionLaw
import Derived.Deep.QuietTactic
import Derived.Deep.Cut
import Derived.Deep.DeepCutAuto
import Derived.Deep.LoopGhost
import Derived.Laws.AppendOwn
namespace Go.Proofs.YtmfhpddeclggfaaGreatDoor
open Go.RowKit
/-! Parts in place. -/
open Go.Shelf
structure PG (B : Nat) (W : World) (g : Nat) (cs : List CB) : Prop where
  geB : B ≤ g
  ltg : g < W.heap.size
  cel : ∀ (j : Nat) (x : CB), cs[j]? = some x → W.cell? ⟨g, j * 3, none⟩ = some (.slice (some ⟨x.b, 0, none⟩) x.p.c.length x.cap) ∧ W.cell? ⟨g, j * 3 + 1, none⟩ = some (.string (fdS x.p.fd)) ∧ W.cell? ⟨g, j * 3 + 2, none⟩ = some (.bool x.p.lo)
  frz : ∀ i, W.frozen? ⟨g, i, none⟩ = false
  con : ∀ (j : Nat) (x : CB), cs[j]? = some x → ByAt B W (.slice (some ⟨g, 0, none⟩) 0 0) x
  dis : (cs.map CB.b).Nodup
theorem PL.place {B : Nat} {W : World} {v : Value} {cs : List CB} (h : PL B W v cs) : ∃ q cap, v = .slice q cs.length cap ∧ (cs = [] ∨ ∃ g, q = some ⟨g, 0, none⟩ ∧ PG B W g cs) := by
  obtain ⟨h1, ⟨rfl, h2⟩ | ⟨g, cap, cur, rfl, hg, hc, h3, h4, h5, h6⟩⟩ := h.row
  · exact ⟨none, 0, by rw [h2], .inl (List.length_eq_zero_iff.1 h2)⟩
  · refine ⟨some ⟨g, 0, none⟩, cap, rfl, .inr ⟨g, rfl, hg, (Array.getElem?_eq_some_iff.1 hc).1, fun j x hj => ?_, fun i => ?_, fun j x hj => ?_, ?_⟩⟩
    · obtain ⟨k1, k2, k3⟩ := flatC_get hj
      have hjl : j < cs.length := (List.getElem?_eq_some_iff.1 hj).1
      rw [← h6, List.getElem?_take_of_lt (by omega)] at k1 k2 k3
      exact ⟨by simpa [World.cell?, hc] using k1, by simpa [World.cell?, hc] using k2, by simpa [World.cell?, hc] using k3⟩
    · simp [World.frozen?, hc]
    · have k := h.con x (List.mem_of_getElem? hj)
      exact ⟨k.ge, k.lt, k.ne, k.cb, k.fb, k.hc, k.hl⟩
    · exact List.pairwise_map.2 h.dis
theorem PG.below {B : Nat} {W W' : World} {g : Nat} {cs : List CB} (h : PG B W g cs) (hb : Below W.heap.size W W') : PG B W' g cs :=
  ⟨h.geB, Nat.lt_of_lt_of_le h.ltg hb.size, fun j x hj => by
    obtain ⟨a, b, c⟩ := h.cel j x hj
    exact ⟨(hb.cell (p := ⟨g, j * 3, none⟩) h.ltg).trans a, (hb.cell (p := ⟨g, j * 3 + 1, none⟩) h.ltg).trans b, (hb.cell (p := ⟨g, j * 3 + 2, none⟩) h.ltg).trans c⟩,
    fun i => (hb.frozen (p := ⟨g, i, none⟩) h.ltg).trans (h.frz i), fun j x hj => (h.con j x hj).blk hb.size (hb.block _ (h.con j x hj).lt), h.dis⟩
theorem PG.part {B : Nat} {W : World} {g : Nat} {cs : List CB} (h : PG B W g cs) {j : Nat} {x : CB} (hj : cs[j]? = some x) : PartAt W g (j * 3) x.b x.cap x.p := by
  have k := h.con j x hj
  obtain ⟨a, b, c⟩ := h.cel j x hj
  exact ⟨h.ltg, k.lt, fun e => k.ne (by rw [e]; rfl), a, c, h.frz, k.cb, k.fb, k.hc, k.hl⟩
theorem nodup_ne {cs : List CB} (h : (cs.map CB.b).Nodup) {i j : Nat} {x y : CB} (hi : cs[i]? = some x) (hj : cs[j]? = some y) (hne : i ≠ j) : x.b ≠ y.b := by
  intro e
  have h1 : (cs.map CB.b)[i]? = some x.b := by rw [List.getElem?_map, hi]; rfl
  have h2 : (cs.map CB.b)[j]? = some x.b := by rw [List.getElem?_map, hj, e]; rfl
  have hil := (List.getElem?_eq_some_iff.1 h1).1
  exact hne ((List.getElem?_inj hil h).1 (h1.trans h2.symm))
theorem PG.set {B : Nat} {W W' : World} {g : Nat} {cs : List CB} (h : PG B W g cs) {j : Nat} {x : CB} (hj : cs[j]? = some x) {p : PT} (ho : Only W W' g (j * 3) x.b) (hp : PartAt W' g (j * 3) x.b x.cap p) (hfd : p.fd = x.p.fd) : PG B W' g (cs.set j ⟨p, x.b, x.cap⟩) := by
  have hjl := (List.getElem?_eq_some_iff.1 hj).1
  have k := h.con j x hj
  have xg : x.b ≠ g := fun e => k.ne (by rw [e]; rfl)
  have hsz : W.heap.size ≤ W'.heap.size := (ho.bel 0 (Nat.zero_le _) (Nat.zero_le _) (Nat.zero_le _)).size
  refine ⟨h.geB, hp.ltg, fun i y hi => ?_, fun i => (ho.frz g i h.ltg).trans (h.frz i), fun i y hi => ?_, ?_⟩
  · by_cases e : i = j
    · subst e
      rw [List.getElem?_set_self hjl] at hi
      obtain rfl := Option.some.inj hi
      refine ⟨hp.s0, ?_, hp.s2⟩
      rw [ho.cel g (i * 3 + 1) h.ltg (Ne.symm xg) (.inr ⟨by omega, by omega⟩)]
      show _ = some (Value.string (fdS p.fd))
      rw [hfd]; exact (h.cel i x hj).2.1
    · rw [List.getElem?_set_ne (Ne.symm e)] at hi
      obtain ⟨a, b, c⟩ := h.cel i y hi
      exact ⟨by rw [ho.cel g (i * 3) h.ltg (Ne.symm xg) (.inr ⟨by omega, by omega⟩)]; exact a, by rw [ho.cel g (i * 3 + 1) h.ltg (Ne.symm xg) (.inr ⟨by omega, by omega⟩)]; exact b, by rw [ho.cel g (i * 3 + 2) h.ltg (Ne.symm xg) (.inr ⟨by omega, by omega⟩)]; exact c⟩
  · by_cases e : i = j
    · subst e
      rw [List.getElem?_set_self hjl] at hi
      obtain rfl := Option.some.inj hi
      exact ⟨k.ge, hp.ltb, k.ne, hp.cb, hp.fb, hp.hc, hp.hl⟩
    · rw [List.getElem?_set_ne (Ne.symm e)] at hi
      have ky := h.con i y hi
      have hyx := nodup_ne h.dis hi hj e
      have yg : y.b ≠ g := fun e => ky.ne (by rw [e]; rfl)
      exact ⟨ky.ge, by have := ky.lt; omega, ky.ne, fun o hl => (ho.cel y.b o ky.lt hyx (.inl yg)).trans (ky.cb o hl), fun o hl => (ho.frz y.b o ky.lt).trans (ky.fb o hl), ky.hc, ky.hl⟩
  · rw [List.map_set]
    have : (cs.map CB.b).set j x.b = cs.map CB.b := by
      apply List.ext_getElem?
      intro n
      by_cases e : n = j
      · subst e
        rw [List.getElem?_set_self (by simpa using hjl), List.getElem?_map, hj]; rfl
      · rw [List.getElem?_set_ne (Ne.symm e)]
    rw [this]; exact h.dis
theorem PG.bel {B : Nat} {W W' : World} {g : Nat} {cs : List CB} (h : PG B W g cs) {j : Nat} {x : CB} (hj : cs[j]? = some x) (ho : Only W W' g (j * 3) x.b) (hB : B ≤ W.heap.size) : Below B W W' := ho.bel B h.geB (h.con j x hj).ge hB
/-! suffer, all kinds. -/
theorem sSuffer_f (g o b cap : Nat) (p : PT) (h : HM) (w : World) (hp : PartAt w g o b cap p) (hh : (h.k < 1 ∨ 5 < h.k) ∨ hurt p h = none) :
    Calls Tryz.prog 102 #[.pointer (some ⟨g, o, none⟩), hmV h] w fun e w' => e = .returned (.bool false) ∧ Below w.heap.size w w' := by
  obtain ⟨k, a, x, d⟩ := h
  by_cases hk : k < 1 ∨ 5 < k
  · exact sSuf_bad g o k a x d w hk
  · have h1 : ¬ k < 1 := fun e => hk (.inl e)
    have h2 : ¬ 5 < k := fun e => hk (.inr e)
    have hn : hurt p ⟨k, a, x, d⟩ = none := hh.resolve_left hk
    have hl : p.lo = false := by
      cases hl : p.lo with
      | false => rfl
      | true => unfold hurt at hn; rw [if_pos hl] at hn; cases hn
    refine sSuf_no g o b cap p k a x d w h1 h2 hp hl ?_
    unfold hurt at hn
    rw [if_neg (by rw [hl]; decide)] at hn
    unfold hasB
    simp only at hn ⊢
    by_cases k1 : k = 1
    · rw [if_pos k1] at hn; cases hn
    rw [if_neg k1] at hn
    by_cases k2 : k = 2
    · rw [if_pos k2] at hn ⊢
      by_cases c : 0 ≤ x ∧ x ≤ p.c.length
      · rw [if_pos c] at hn; cases hn
      · rw [← Bool.decide_and]; exact decide_eq_false c
    rw [if_neg k2] at hn ⊢
    by_cases k5 : k = 5
    · rw [if_pos k5] at hn
      subst k5
      rw [if_neg (by decide), if_neg (by decide), if_pos rfl]
      by_cases c : 0 ≤ x ∧ x < (p.c.length : Int) - 1
      · rw [if_pos c] at hn; cases hn
      · rw [← Bool.decide_and]; exact decide_eq_false c
    rw [if_neg k5] at hn
    have k34 : k = 3 ∨ k = 4 := by omega
    rcases k34 with rfl | rfl
    · rw [if_pos rfl]
      unfold putB at hn
      simp only at hn
      rw [← Bool.decide_and]
      refine decide_eq_false fun c => ?_
      rw [if_pos ⟨c.1, c.2, by rw [if_neg (by decide)]; decide, by rw [if_neg (by decide)]; decide⟩] at hn
      cases hn
    · rw [if_neg (by decide), if_pos rfl]
      unfold putB at hn
      simp only [if_true] at hn
      rw [← Bool.decide_and, ← Bool.decide_and, ← Bool.decide_and]
      refine decide_eq_false fun c => ?_
      rw [if_pos ⟨c.1.1.1, c.1.1.2, c.1.2, c.2⟩] at hn
      cases hn
theorem sSuffer_t (g o b cap : Nat) (p q : PT) (h : HM) (w : World) (hp : PartAt w g o b cap p) (hk1 : ¬ h.k < 1) (hk5 : ¬ 5 < h.k) (hh : hurt p h = some q) :
    Calls Tryz.prog 102 #[.pointer (some ⟨g, o, none⟩), hmV h] w fun e w' => e = .returned (.bool true) ∧ Only w w' g o b ∧ PartAt w' g o b cap q := by
  obtain ⟨k, a, x, d⟩ := h
  simp only at hk1 hk5
  unfold hurt at hh
  by_cases hl : p.lo = true
  · rw [if_pos hl] at hh
    obtain rfl := Option.some.inj hh
    exact (sSuf_lost g o b cap p k a x d w hk1 hk5 hp hl).mono fun e w' h => ⟨h.1, Only.below h.2, hp.below h.2⟩
  · have hl' : p.lo = false := by simpa using hl
    rw [if_neg hl] at hh
    simp only at hh
    by_cases k1 : k = 1
    · rw [if_pos k1] at hh
      obtain rfl := Option.some.inj hh
      subst k1
      exact sSuf_1 g o b cap p a x d w hp hl' rfl
    rw [if_neg k1] at hh
    by_cases k2 : k = 2
    · rw [if_pos k2] at hh
      subst k2
      by_cases c : 0 ≤ x ∧ x ≤ p.c.length
      · rw [if_pos c] at hh
        obtain rfl := Option.some.inj hh
        exact sSuf_2 g o b cap p a x d w hp hl' (by simp [hasB, c.1, c.2])
      · rw [if_neg c] at hh; cases hh
    rw [if_neg k2] at hh
    by_cases k5 : k = 5
    · rw [if_pos k5] at hh
      subst k5
      by_cases c : 0 ≤ x ∧ x < (p.c.length : Int) - 1
      · rw [if_pos c] at hh
        obtain rfl := Option.some.inj hh
        exact sSuf_5 g o b cap p a x d w hp hl' (by simp [hasB, c.1, c.2])
      · rw [if_neg c] at hh; cases hh
    rw [if_neg k5] at hh
    have k34 : k = 3 ∨ k = 4 := by omega
    rcases k34 with rfl | rfl
    · unfold putB at hh
      simp only at hh
      by_cases c : 0 ≤ x ∧ x < p.c.length
      · rw [if_pos ⟨c.1, c.2, by rw [if_neg (by decide)]; decide, by rw [if_neg (by decide)]; decide⟩] at hh
        obtain rfl := Option.some.inj hh
        exact sSuf_3 g o b cap p a x d w hp hl' (by simp [hasB, c.1, c.2])
      · rw [if_neg (fun e => c ⟨e.1, e.2.1⟩)] at hh; cases hh
    · unfold putB at hh
      simp only [if_true] at hh
      by_cases c : 0 ≤ x ∧ x < p.c.length ∧ 0 ≤ d ∧ d ≤ 255
      · rw [if_pos c] at hh
        obtain rfl := Option.some.inj hh
        exact sSuf_4 g o b cap p a x d w hp hl' (by simp [hasB, c.1, c.2.1, c.2.2.1, c.2.2.2])
      · rw [if_neg c] at hh; cases hh
end Go.Proofs.YtmfhpddeclggfaaGreatDoor
