import Derived.Test.YtmfhpddeclggfaaGreatDoorWIfa
import Derived.Maps.Own
import Derived.Maps.OwnOps
import Derived.Maps.OwnSet
import Derived.Lib.SlKeysI
import Derived.RangeFuncNested
import Derived.RangeFuncBound
import Derived.RangeFuncCalls
import Derived.RangeFuncLeaves
import Derived.RangeFuncBox
import Derived.Shelf.Abstract
import Derived.Shelf.RegionOpen
import Derived.OwnWalkIn
import Derived.TacticsInMore
import Derived.LoopNIn
import Derived.LoopIn
import Derived.Maps.AppendAt
import Derived.Maps.OwnIn
import Derived.RegionIn
import Derived.BigRegionIn
import Derived.Stop.RegionWithIn
import Derived.WalkKit
import Derived.LoopTactic
import Derived.WalkSpells
import Derived.WalkLawsBesides
import Derived.Lib.Hide
import Derived.BigQuiet
import Derived.IntWalk
import Derived.Deep.DeepMust
import Derived.WalkSmall
import Derived.StillTailTactics
import Derived.Deep.RegionLaw
import Derived.Deep.QuietTactic
import Derived.Deep.Cut
import Derived.Deep.DeepCutAuto
import Derived.Deep.LoopGhost
import Derived.Laws.AppendOwn
import Derived.Deep.RegionHeld3
import Derived.Deep.AppendLies
import Derived.Test.YtmfhpddeclggfaaGreatDoorIfk
import Derived.Test.YtmfhpddeclggfaaGreatDoorWIfb
import Derived.Test.YtmfhpddeclggfaaGreatDoorWIg
import Derived.Test.YtmfhpddeclggfaaGreatDoorWIh
import Derived.Test.YtmfhpddeclggfaaGreatDoorWIia
import Derived.Test.YtmfhpddeclggfaaGreatDoorWIib
import Derived.Test.YtmfhpddeclggfaaGreatDoorKf
import Derived.Test.YtmfhpddeclggfaaGreatDoorWIic
import Derived.Test.YtmfhpddeclggfaaGreatDoorWc
import Derived.Test.YtmfhpddeclggfaaGreatDoorWMa
import Derived.Test.YtmfhpddeclggfaaGreatDoorWMb
import Derived.Test.YtmfhpddeclggfaaGreatDoorWCz
import Derived.Test.YtmfhpddeclggfaaGreatDoorWMc
import Derived.Test.YtmfhpddeclggfaaGreatDoorWHa
import Derived.Laws.OwnMore
import Derived.Test.YtmfhpddeclggfaaGreatDoorWCx
import Derived.Test.YtmfhpddeclggfaaGreatDoorWHh
import Derived.Test.YtmfhpddeclggfaaGreatDoorWHf
import Derived.Test.YtmfhpddeclggfaaGreatDoorWHe
import Derived.Test.YtmfhpddeclggfaaGreatDoorWHi
import Derived.Test.YtmfhpddeclggfaaGreatDoorWHd
import Derived.Test.YtmfhpddeclggfaaGreatDoorWNa
import Derived.Test.YtmfhpddeclggfaaGreatDoorWNb
import Derived.Test.YtmfhpddeclggfaaGreatDoorWNc
namespace Go.Proofs.YtmfhpddeclggfaaGreatDoor
open Go.RowKit Go.Shelf
/-! The reference's sorted copies, as they lie. -/
/-- What lies in a range of blocks, and stays while these stay. -/
structure RngAt (W : World) (lo hi : Nat) (s : SS) : Prop where
  le : hi ≤ W.heap.size
  at' : ∀ W' : World, hi ≤ W'.heap.size → (∀ b, lo ≤ b → b < hi → W'.heap[b]? = W.heap[b]?) → LinesAt W' s.lp s.ls ∧ StrsAt W' s.op s.os
theorem RngAt.next {W W' : World} {lo hi : Nat} {s : SS} (h : RngAt W lo hi s) (hs : W.heap.size ≤ W'.heap.size) (hb : ∀ b, lo ≤ b → b < hi → W'.heap[b]? = W.heap[b]?) : RngAt W' lo hi s :=
  ⟨Nat.le_trans h.le hs, fun V h1 h2 => h.at' V h1 (fun b g1 g2 => (h2 b g1 g2).trans (hb b g1 g2))⟩
theorem flatG_len (gs : List GL) : (flatG gs).length = gs.length * 2 := by
  induction gs with
  | nil => rfl
  | cons g gs ih => simp [flatG, ih]; omega
theorem rng_of {B : Nat} {W : World} {vl vo : Value} {gs : List GL} {os : List ByteArray} (h : LN B W vl vo gs os) : ∃ lp lc op oc, vl = .slice lp gs.length lc ∧ vo = .slice op os.length oc ∧ RngAt W B W.heap.size ⟨gs, lp, lc, os, op, oc⟩ := by
  obtain ⟨lp, lc, rfl⟩ := own_slice2 h.row
  obtain ⟨op, oc, rfl⟩ := own_slice2 h.oth
  refine ⟨lp, lc, op, oc, rfl, rfl, Nat.le_refl _, fun W' hs hb => ⟨⟨?_, fun j hj => ?_⟩, ?_⟩⟩
  · dsimp only
    by_cases h0 : gs = []
    · exact .inl h0
    · obtain ⟨g, cap, e, hg1, hg2, hc⟩ := own_at h.row (List.length_pos_iff.2 h0) (flatG_len gs)
      obtain ⟨rfl, rfl⟩ : lp = some ⟨g, 0, none⟩ ∧ lc = cap := by simpa using e
      refine .inr ⟨g, 0, rfl, Nat.lt_of_lt_of_le hg2 hs, fun j hj => ?_⟩
      have hq : gs[j]? = some (gs.getD j default) := by rw [List.getD, List.getElem?_eq_getElem hj]; rfl
      obtain ⟨g0, g1⟩ := flatG_get hq
      rw [Nat.zero_add]
      exact ⟨(World.cell?_of_block (a := ⟨g, j * 2, none⟩) (hb g hg1 hg2)).trans (hc _ _ g0), (World.cell?_of_block (a := ⟨g, j * 2 + 1, none⟩) (hb g hg1 hg2)).trans (hc _ _ g1)⟩
  · dsimp only at hj ⊢
    have hm : gs.getD j default ∈ gs := by rw [List.getD, List.getElem?_eq_getElem hj]; exact List.getElem_mem hj
    rcases h.wds _ hm with h1 | ⟨b, o, h1, h2, h3, -, -, h4⟩
    · exact .inl h1
    · exact .inr ⟨b, o, h1, Nat.lt_of_lt_of_le h3 hs, fun i hi => (World.cell?_of_block (a := ⟨b, o + i, none⟩) (hb b h2 h3)).trans (h4 i hi)⟩
  · dsimp only
    by_cases h0 : os = []
    · exact .inl h0
    · obtain ⟨g, cap, e, hg1, hg2, hc⟩ := own_at (s := 1) h.oth (List.length_pos_iff.2 h0) (by simp)
      obtain ⟨rfl, rfl⟩ : op = some ⟨g, 0, none⟩ ∧ oc = cap := by simpa using e
      refine .inr ⟨g, 0, rfl, Nat.lt_of_lt_of_le hg2 hs, fun j hj => ?_⟩
      rw [Nat.zero_add]
      refine (World.cell?_of_block (a := ⟨g, j, none⟩) (hb g hg1 hg2)).trans (hc _ _ ?_)
      rw [strsV, List.getElem?_map, List.getD, List.getElem?_eq_getElem hj]; rfl
def flatSS (ss : List SS) : List Value := ss.flatMap fun s => [.slice s.lp s.ls.length s.lc, .slice s.op s.os.length s.oc]
theorem flatSS_app (a b : List SS) : flatSS (a ++ b) = flatSS a ++ flatSS b := by simp [flatSS]
theorem flatSS_len (l : List SS) : (flatSS l).length = l.length * 2 := by
  induction l with
  | nil => rfl
  | cons s l ih => simp [flatSS] at ih ⊢; omega
theorem flatSS_at : ∀ (l : List SS) (k : Nat), k < l.length → (flatSS l)[k * 2]? = some (.slice (l.getD k default).lp (l.getD k default).ls.length (l.getD k default).lc) ∧ (flatSS l)[k * 2 + 1]? = some (.slice (l.getD k default).op (l.getD k default).os.length (l.getD k default).oc)
  | [], _, h => absurd h (Nat.not_lt_zero _)
  | x :: l, 0, _ => ⟨rfl, rfl⟩
  | x :: l, k + 1, h => by
    have := flatSS_at l k (Nat.lt_of_succ_lt_succ h)
    have e : (k + 1) * 2 = k * 2 + 1 + 1 := by omega
    rw [e]
    exact this
theorem flatSS_one {ss : List SS} : ∀ u ∈ flatSS ss, u.oneCell' = true := fun u hu => by
  unfold flatSS at hu
  obtain ⟨s, -, hs⟩ := List.mem_flatMap.1 hu
  simp only [List.mem_cons, List.not_mem_nil, or_false] at hs
  rcases hs with rfl | rfl <;> rfl
/-- The sorted copies, as far as they are laid. -/
structure AllR (w W : World) (v : Value) (ss : List SS) (cs : List ByteArray) : Prop where
  bel : Below w.heap.size w W
  row : W.ownsRow w.heap.size 59 2 v ss.length (flatSS ss)
  at' : ∀ s ∈ ss, ∃ lo hi, RngAt W lo hi s ∧ ∀ g, v.ownBlock = some g → g < lo ∨ hi ≤ g
  ks : ∀ j, j < ss.length → SKey (ss.getD j default) (cs.getD j ByteArray.empty)
theorem AllR.mk0 (w : World) (cs : List ByteArray) : AllR w w (.slice none 0 0) [] cs := ⟨Below.refl _ _, World.ownsRow_nil _ _ _ _, fun _ h => absurd h List.not_mem_nil, fun _ h => absurd h (Nat.not_lt_zero _)⟩
theorem AllR.next {w W W' : World} {v : Value} {ss : List SS} {cs : List ByteArray} (h : AllR w W v ss cs) (hb : Below W.heap.size W W') : AllR w W' v ss cs :=
  ⟨h.bel.trans (hb.mono h.bel.size), ownsRow_keep h.row hb, fun s hs => by
    obtain ⟨lo, hi, h1, h2⟩ := h.at' s hs
    exact ⟨lo, hi, h1.next hb.size (fun b _ hb2 => hb.block b (Nat.lt_of_lt_of_le hb2 h1.le)), h2⟩, h.ks⟩
theorem AllR.add {w W W2 W4 : World} {v v' vl vo : Value} {ss : List SS} {cs : List ByteArray} (h : AllR w W v ss cs) (hb : Below W.heap.size W W2) (hL : LNP W.heap.size W2 vl vo (partsN (cs.getD ss.length ByteArray.empty)))
    (X : Obj) (hown : W4.ownsRow w.heap.size 59 2 v' (ss.length + 1) (flatSS ss ++ [vl, vo])) (hgr : (W2.alloc X).grownBy W4 v.ownBlock) (hat : v'.ownBlock = v.ownBlock ∨ v'.ownBlock = some (W2.alloc X).heap.size) : ∃ ss', ss'.length = ss.length + 1 ∧ AllR w W4 v' ss' cs := by
  obtain ⟨gs, hk, hLN⟩ := hL
  obtain ⟨lp, lc, op, oc, rfl, rfl, hR⟩ := rng_of hLN
  have hsz : (W2.alloc X).heap.size = W2.heap.size + 1 := by simp
  have hg4 := hgr.size
  have hlt : ∀ g, v.ownBlock = some g → w.heap.size ≤ g ∧ g < W.heap.size := h.row.lt
  have h3 := (h.next hb).next (below_alloc1 W2 X)
  refine ⟨ss ++ [⟨gs, lp, lc, otsOf (partsN (cs.getD ss.length ByteArray.empty)), op, oc⟩], by simp, h3.bel.grown hgr h3.bel.size (fun k e => (hlt k e).1), ?_, fun s hs => ?_, fun j hj => ?_⟩
  · rw [List.length_append, flatSS_app]; exact hown
  · have fresh : ∀ {lo hi : Nat}, RngAt (W2.alloc X) lo hi s → (∀ g, v.ownBlock = some g → g < lo ∨ hi ≤ g) → ∃ lo hi, RngAt W4 lo hi s ∧ ∀ g, v'.ownBlock = some g → g < lo ∨ hi ≤ g := fun {lo hi} h1 h2 => by
      refine ⟨lo, hi, h1.next hgr.size (fun b g1 g2 => hgr.block b (Nat.lt_of_lt_of_le g2 h1.le) (fun e => by have := h2 b e.symm; omega)), fun g hg => ?_⟩
      rcases hat with hat | hat
      · exact h2 g (by rw [← hat]; exact hg)
      · rw [hat] at hg
        have := Option.some.inj hg
        have := h1.le
        exact .inr (by omega)
    rcases List.mem_append.1 hs with hs | hs
    · obtain ⟨lo, hi, h1, h2⟩ := h3.at' s hs
      exact fresh h1 h2
    · rw [List.mem_singleton.1 hs] at fresh ⊢
      exact fresh (hR.next (by omega) (fun b _ g2 => (below_alloc1 W2 X).block b g2)) (fun g hg => .inl (hlt g hg).2)
  · by_cases hj2 : j < ss.length
    · rw [List.getD, List.getElem?_append_left hj2]
      exact h.ks j hj2
    · have e : j = ss.length := by rw [List.length_append] at hj; simp at hj; omega
      subst e
      rw [List.getD, List.getElem?_append_right (Nat.le_refl _), Nat.sub_self]
      exact ⟨hk, rfl⟩
theorem AllR.sorts {w W : World} {v : Value} {ss : List SS} {cs : List ByteArray} (h : AllR w W v ss cs) : ∃ p c, v = .slice p ss.length c ∧ SortsAt W p ss := by
  by_cases h0 : ss = []
  · subst h0
    obtain ⟨p, c, rfl⟩ := own_slice2 h.row
    exact ⟨p, c, rfl, .inl rfl⟩
  · obtain ⟨g, cap, rfl, -, hl, hc⟩ := own_at h.row (List.length_pos_iff.2 h0) (flatSS_len ss)
    refine ⟨_, _, rfl, .inr ⟨g, 0, rfl, hl, fun j hj => ?_⟩⟩
    obtain ⟨g0, g1⟩ := flatSS_at ss j hj
    have hm : ss.getD j default ∈ ss := by rw [List.getD, List.getElem?_eq_getElem hj]; exact List.getElem_mem hj
    obtain ⟨lo, hi, h1, -⟩ := h.at' _ hm
    obtain ⟨h2, h3⟩ := h1.at' W h1.le (fun _ _ _ => rfl)
    rw [Nat.zero_add]
    exact ⟨hc _ _ g0, hc _ _ g1, h2, h3⟩
theorem inf59 : (Tryz.prog.info? 59).map (fun i => (i.zero, i.size, i.bytes)) = some (some (.agg #[.slice none 0 0, .slice none 0 0]), 2, 48) := by kernel_rfl
end Go.Proofs.YtmfhpddeclggfaaGreatDoor
