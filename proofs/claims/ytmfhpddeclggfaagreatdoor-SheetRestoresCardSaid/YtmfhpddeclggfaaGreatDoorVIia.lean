import Derived.Test.YtmfhpddeclggfaaGreatDoorVIfa
import Derived.Maps.Own
import Derived.Maps.OwnOps
import Derived.Maps.OwnSet
import Derived.Lib.SlKeysI
import Derived.RangeFuncNested
import Derived.RangeFuncBound
import Derived.RangeFuncCalls
import Derived.RangeFuncLeaves
import Derived.RangeFuncBox
import Derived.Shelf.Abstract
import Derived.Shelf.RegionOpen
import Derived.OwnWalkIn
import Derived.TacticsInMore
import Derived.LoopNIn
import Derived.LoopIn
import Derived.Maps.AppendAt
import Derived.Maps.OwnIn
import Derived.RegionIn
import Derived.BigRegionIn
import Derived.Stop.RegionWithIn
import Derived.WalkKit
import Derived.LoopTactic
import Derived.WalkSpells
import Derived.WalkLawsBesides
import Derived.Lib.Hide
import Derived.BigQuiet
import Derived.IntWalk
import Derived.Deep.DeepMust
import Derived.WalkSmall
import Derived.StillTailTactics
import Derived.Deep.RegionLaw
import Derived.Deep.QuietTactic
import Derived.Deep.Cut
import Derived.Deep.DeepCutAuto
import Derived.Deep.LoopGhost
import Derived.Laws.AppendOwn
import Derived.Deep.RegionHeld3
import Derived.Deep.AppendLies
import Derived.Test.YtmfhpddeclggfaaGreatDoorIfk
import Derived.Test.YtmfhpddeclggfaaGreatDoorVIfb
import Derived.Test.YtmfhpddeclggfaaGreatDoorVIg
import Derived.Test.YtmfhpddeclggfaaGreatDoorVIh
namespace Go.Proofs.YtmfhpddeclggfaaGreatDoor
open Go.RowKit
/-! The book that is put together: plain, and how it lies. -/
abbrev BV := List FV × List FV × List (Int × Int)
/-- One number more. -/
def stB (d : DS) (b : BV) (n : Nat) : BV := match fdV d n with
  | [] => (b.1, b.2.1, exG b.2.2 n)
  | [f] => (b.1 ++ [f], b.2.1, b.2.2)
  | f :: g :: fs => (b.1, b.2.1 ++ (f :: g :: fs), b.2.2)
/-- The book of the first numbers. -/
def coD (d : DS) : Nat → BV
  | 0 => ([], [], [])
  | k + 1 => stB d (coD d k) (k + 1)
theorem rsD_len (l : List (Int × ByteArray)) : (rsD l).length ≤ 1 := by
  unfold rsD
  split
  · exact Nat.zero_le _
  · omega
theorem fdV_len (d : DS) (n c : Nat) (h : SzD d c) : (fdV d n).length ≤ c + 1 := by
  unfold fdV
  split
  · have := rsD_len (d.os n); omega
  · rw [List.length_map]; have := h.fr n; omega
theorem exG_len (gs : List (Int × Int)) (n : Int) : (exG gs n).length ≤ gs.length + 1 := by
  unfold exG
  split
  · split <;> simp
  · simp
theorem coD_len (d : DS) (c : Nat) (h : SzD d c) : ∀ k, (coD d k).1.length ≤ k ∧ (coD d k).2.1.length ≤ k * (c + 1) ∧ (coD d k).2.2.length ≤ k
  | 0 => ⟨Nat.le_refl _, Nat.zero_le _, Nat.le_refl _⟩
  | k + 1 => by
    obtain ⟨h1, h2, h3⟩ := coD_len d c h k
    have h4 := fdV_len d (k + 1) c h
    have h5 := exG_len (coD d k).2.2 ((k + 1 : Nat) : Int)
    rw [coD, Nat.succ_mul]
    unfold stB
    split
    · rename_i e
      exact ⟨by dsimp only; omega, by dsimp only; omega, by dsimp only; omega⟩
    · rename_i f e
      exact ⟨by dsimp only; simp; omega, by dsimp only; omega, by dsimp only; omega⟩
    · rename_i f g fs e
      rw [e] at h4
      exact ⟨by dsimp only; omega, by dsimp only; rw [List.length_append]; omega, by dsimp only; omega⟩
/-- Rows side by side, one of which has grown. -/
theorem fam_grown2 {ι : Type} [DecidableEq ι] {B : Nat} {f : ι → Row} {W W' : World} (h : Fam B f W) (i : ι) (r : Row) (hg : W.grownBy W' (f i).v.ownBlock) (ho : W'.ownsRow B r.e r.k r.v r.n r.xs)
    (hat : r.v.ownBlock = (f i).v.ownBlock ∨ ∃ x, r.v.ownBlock = some x ∧ W.heap.size ≤ x) : Fam B (fun j => if j = i then r else f j) W' := by
  have lt : ∀ j g, (f j).v.ownBlock = some g → g < W.heap.size := fun j g hj => ((h.own j).lt g hj).2
  refine ⟨fun j => ?_, fun j l g hj hl => ?_⟩
  · show W'.ownsRow B (if j = i then r else f j).e (if j = i then r else f j).k (if j = i then r else f j).v (if j = i then r else f j).n (if j = i then r else f j).xs
    by_cases e : j = i
    · simp only [if_pos e]; exact ho
    · simp only [if_neg e]
      refine (h.own j).kept hg ?_
      cases hb : (f j).v.ownBlock with
      | none => exact .inl rfl
      | some g => exact .inr (fun e2 => e (h.apart j i g hb e2.symm))
  · by_cases e : j = i <;> by_cases e2 : l = i
    · rw [e, e2]
    · simp only [if_pos e] at hj
      simp only [if_neg e2] at hl
      rcases hat with h3 | ⟨x, h3, h4⟩
      · rw [h3] at hj; exact absurd (h.apart l i g hl hj) e2
      · rw [h3] at hj; cases hj; exact absurd (lt l _ hl) (by omega)
    · simp only [if_neg e] at hj
      simp only [if_pos e2] at hl
      rcases hat with h3 | ⟨x, h3, h4⟩
      · rw [h3] at hl; exact absurd (h.apart j i g hj hl) e
      · rw [h3] at hl; cases hl; exact absurd (lt j _ hj) (by omega)
    · simp only [if_neg e] at hj
      simp only [if_neg e2] at hl
      exact h.apart j l g hj hl
def bkR (vs : Fin 3 → Value) (ls cs : List (FL × List Int)) (gs : List (Int × Int)) : Fin 3 → Row
  | 0 => ⟨87, 4, vs 0, ls.length, flatF ls⟩
  | 1 => ⟨87, 4, vs 1, cs.length, flatF cs⟩
  | 2 => ⟨176, 2, vs 2, gs.length, cellsS gs⟩
theorem bkR_v (vs : Fin 3 → Value) (ls cs : List (FL × List Int)) (gs : List (Int × Int)) (i : Fin 3) : (bkR vs ls cs gs i).v = vs i := by
  match i with
  | 0 => rfl
  | 1 => rfl
  | 2 => rfl
/-- A block that lies there and is none of the book's. -/
def Off3 (W : World) (bb : Nat) (vs : Fin 3 → Value) (q : Option Addr) : Prop := ∀ ad, q = some ad → ad.block < W.heap.size ∧ ad.block ≠ bb ∧ ∀ i, some ad.block ≠ (vs i).ownBlock
/-- What lies behind a reading. -/
structure FOk (W : World) (bb : Nat) (vs : Fin 3 → Value) (f : FL × List Int) : Prop where
  s : StrsAt W f.1.g.p f.1.g.ws
  so : f.1.g.ws = [] ∨ Off3 W bb vs f.1.g.p
  i : IntsAt W f.1.cp f.2
  io : f.2 = [] ∨ Off3 W bb vs f.1.cp
  n : f.1.cn = f.2.length
/-- A book that is being put together, in a box and three rows of its own. -/
structure BkS (w W : World) (vs : Fin 3 → Value) (ls cs : List (FL × List Int)) (gs : List (Int × Int)) : Prop where
  bel : Below w.heap.size w W
  lt : w.heap.size < W.heap.size
  cell : ∀ i : Fin 3, W.cell? ⟨w.heap.size, i.val, none⟩ = some (vs i)
  fz : ∀ o, W.frozen? ⟨w.heap.size, o, none⟩ = false
  fam : Fam (w.heap.size + 1) (bkR vs ls cs gs) W
  ok : ∀ f, f ∈ ls ∨ f ∈ cs → FOk W w.heap.size vs f
theorem Off3.below {W W' : World} {bb : Nat} {vs : Fin 3 → Value} {q : Option Addr} (h : Off3 W bb vs q) (hs : W.heap.size ≤ W'.heap.size) : Off3 W' bb vs q := fun ad e => ⟨Nat.lt_of_lt_of_le (h ad e).1 hs, (h ad e).2⟩
theorem FOk.below {W W' : World} {bb : Nat} {vs : Fin 3 → Value} {f : FL × List Int} (h : FOk W bb vs f) (hb : Below W.heap.size W W') : FOk W' bb vs f :=
  ⟨h.s.below hb, h.so.imp id (fun h => h.below hb.size), h.i.below hb, h.io.imp id (fun h => h.below hb.size), h.n⟩
theorem BkS.next {w W W' : World} {vs : Fin 3 → Value} {ls cs : List (FL × List Int)} {gs : List (Int × Int)} (h : BkS w W vs ls cs gs) (hb : Below W.heap.size W W') : BkS w W' vs ls cs gs :=
  ⟨h.bel.trans (hb.mono h.bel.size), Nat.lt_of_lt_of_le h.lt hb.size, fun i => (hb.cell (p := ⟨w.heap.size, i.val, none⟩) h.lt).trans (h.cell i), fun o => (hb.frozen (p := ⟨w.heap.size, o, none⟩) h.lt).trans (h.fz o), ⟨fun i => ownsRow_keep (h.fam.own i) hb, h.fam.apart⟩, fun f hf => (h.ok f hf).below hb⟩
theorem BkS.mk0 (w : World) (t : TypeId) : BkS w (w.alloc (.cells #[.slice none 0 0, .slice none 0 0, .slice none 0 0] t)) (fun _ => .slice none 0 0) [] [] [] := by
  refine ⟨below_alloc1 _ _, by simp, fun i => ?_, fun o => frozen_new w _ _ o, ⟨fun i => ?_, fun i j g hi => ?_⟩, fun f hf => by rcases hf with h | h <;> cases h⟩
  · match i with
    | 0 => exact nw_at w _ t 0 _ rfl
    | 1 => exact nw_at w _ t 1 _ rfl
    | 2 => exact nw_at w _ t 2 _ rfl
  · match i with
    | 0 => exact World.ownsRow_nil _ _ _ _
    | 1 => exact World.ownsRow_nil _ _ _ _
    | 2 => exact World.ownsRow_nil _ _ _ _
  · rw [bkR_v] at hi; cases hi
theorem BkS.own {w W : World} {vs : Fin 3 → Value} {ls cs : List (FL × List Int)} {gs : List (Int × Int)} (h : BkS w W vs ls cs gs) (i : Fin 3) : ∀ g, (vs i).ownBlock = some g → w.heap.size + 1 ≤ g ∧ g < W.heap.size := fun g e => (h.fam.own i).lt g (by rw [bkR_v]; exact e)
/-- A row has grown, and its header is written. -/
theorem BkS.grow {w W W' : World} {vs : Fin 3 → Value} {ls cs ls' cs' : List (FL × List Int)} {gs gs' : List (Int × Int)} (h : BkS w W vs ls cs gs) (i : Fin 3) (v' : Value)
    (hr : ∀ j, j ≠ i → bkR (fun j => if j = i then v' else vs j) ls' cs' gs' j = bkR vs ls cs gs j)
    (hown : W'.ownsRow (w.heap.size + 1) (bkR (fun j => if j = i then v' else vs j) ls' cs' gs' i).e (bkR (fun j => if j = i then v' else vs j) ls' cs' gs' i).k v' (bkR (fun j => if j = i then v' else vs j) ls' cs' gs' i).n (bkR (fun j => if j = i then v' else vs j) ls' cs' gs' i).xs)
    (hgr : W.grownBy W' (vs i).ownBlock) (hat : v'.ownBlock = (vs i).ownBlock ∨ ∃ x, v'.ownBlock = some x ∧ W.heap.size ≤ x)
    (hnew : ∀ f, f ∈ ls' ∨ f ∈ cs' → f ∈ ls ∨ f ∈ cs ∨ FOk W w.heap.size vs f) :
    BkS w (W'.setCell ⟨w.heap.size, i.val, none⟩ v') (fun j => if j = i then v' else vs j) ls' cs' gs' := by
  have hne : ∀ j, some w.heap.size ≠ (vs j).ownBlock := fun j e => by have := (h.own j _ e.symm).1; omega
  have hb : W'.heap[w.heap.size]? = W.heap[w.heap.size]? := hgr.block _ h.lt (hne i)
  have kc : ∀ j : Fin 3, W'.cell? ⟨w.heap.size, j.val, none⟩ = some (vs j) := fun j => (World.cell?_of_block (a := ⟨w.heap.size, j.val, none⟩) hb).trans (h.cell j)
  have hF := fam_grown2 h.fam i (bkR (fun j => if j = i then v' else vs j) ls' cs' gs' i) (W' := W') (by rw [bkR_v]; exact hgr) (by rw [bkR_v, if_pos rfl]; exact hown) (by rw [bkR_v, bkR_v, if_pos rfl]; exact hat)
  have hF2 : Fam (w.heap.size + 1) (bkR (fun j => if j = i then v' else vs j) ls' cs' gs') W' := fam_ext hF (fun j => by
    by_cases e : j = i
    · rw [if_pos e, e]
    · rw [if_neg e, hr j e])
  have hst := grownBy_setCellAt W' w.heap.size i.val v'
  refine ⟨?_, ?_, fun j => ?_, fun o => ?_, hF2.kept hst (fun j => ?_), fun f hf => ?_⟩
  · exact (h.bel.grown hgr (Nat.le_of_lt h.lt) (fun k e => by have := (h.own i k e).1; omega)).setCell (p := ⟨w.heap.size, i.val, none⟩) (Nat.le_refl _) _
  · rw [World.size_setCell]; exact Nat.lt_of_lt_of_le h.lt hgr.size
  · by_cases e : j = i
    · subst e
      rw [if_pos rfl]
      exact World.cell?_setCell_same _ _ _ (kc j)
    · rw [if_neg e, World.cell?_setCell_other _ _ _ _ (addr_ne (fun e2 => e (Fin.ext e2.symm)))]
      exact kc j
  · rw [World.frozen?_setCell]; exact (World.frozen?_of_block (a := ⟨w.heap.size, o, none⟩) hb).trans (h.fz o)
  · cases hv : (bkR (fun j => if j = i then v' else vs j) ls' cs' gs' j).v.ownBlock with
    | none => exact .inl rfl
    | some g => exact .inr (fun e => by have := ((hF2.own j).lt g hv).1; cases e; omega)
  · have hf0 : FOk W w.heap.size vs f := by
      rcases hnew f hf with h1 | h1 | h1
      · exact h.ok f (.inl h1)
      · exact h.ok f (.inr h1)
      · exact h1
    have hc : ∀ q, Off3 W w.heap.size vs q → Off3 (W'.setCell ⟨w.heap.size, i.val, none⟩ v') w.heap.size (fun j => if j = i then v' else vs j) q ∧ ∀ ad, q = some ad → ∀ o, (W'.setCell ⟨w.heap.size, i.val, none⟩ v').cell? ⟨ad.block, o, none⟩ = W.cell? ⟨ad.block, o, none⟩ := fun q hq => by
      refine ⟨fun ad e => ?_, fun ad e o => ?_⟩
      · obtain ⟨g1, g2, g3⟩ := hq ad e
        refine ⟨by rw [World.size_setCell]; exact Nat.lt_of_lt_of_le g1 hgr.size, g2, fun j => ?_⟩
        dsimp only
        split
        · rcases hat with h3 | ⟨x, h3, h4⟩
          · rw [h3]; exact g3 i
          · rw [h3]; exact fun e2 => by have := Option.some.inj e2; omega
        · exact g3 j
      · obtain ⟨g1, g2, g3⟩ := hq ad e
        rw [World.cell?_setCell_other _ _ _ _ (fun e2 => g2 (congrArg Addr.block e2).symm)]
        exact World.cell?_of_block (a := ⟨ad.block, o, none⟩) (hgr.block _ g1 (g3 i))
    refine ⟨hf0.s.keep (by rw [World.size_setCell]; exact hgr.size) (hf0.so.imp id (fun h => (hc _ h).2)), hf0.so.imp id (fun h => (hc _ h).1), hf0.i.keep2 (by rw [World.size_setCell]; exact hgr.size) (hf0.io.imp id (fun h => (hc _ h).2)), hf0.io.imp id (fun h => (hc _ h).1), hf0.n⟩
/-- What found has left can be put into the book. -/
theorem fok_of {w W W' : World} {vs : Fin 3 → Value} {ls cs : List (FL × List Int)} {gs : List (Int × Int)} {vo : Value} {fs : List (FL × List Int)} (h : BkS w W vs ls cs gs) (hR : RT W W' vo (.slice none 0 0) fs []) (hP : ∀ f ∈ fs, FdW w W f) : ∀ f ∈ fs, FOk W' w.heap.size vs f := fun f hf => by
  obtain ⟨k, hk, e⟩ := List.getElem_of_mem hf
  have hg := hR.at' k hk
  rw [List.getD, List.getElem?_eq_getElem hk] at hg
  simp only [Option.getD_some, e] at hg
  obtain ⟨g1, g2, g3, g4, g5⟩ := hg
  obtain ⟨p1, p2⟩ := hP f hf
  have new : ∀ q, PFrom W.heap.size q → (∀ ad, q = some ad → ad.block < W'.heap.size) → Off3 W' w.heap.size vs q := fun q hq hlt ad e => ⟨hlt ad e, by have := hq ad e; have := h.lt; omega, fun i e2 => by have := (h.own i _ e2.symm).2; have := hq ad e; omega⟩
  refine ⟨g1, g2.imp id (fun h2 => new _ p1 (fun ad e => (h2 ad e).1)), g3, ?_, g5⟩
  rcases p2 with p2 | p2
  · exact g4.imp id (fun h2 => new _ p2 (fun ad e => (h2 ad e).1))
  · rcases p2 with h1 | ⟨b, o, h1, h2, -⟩
    · exact .inl h1
    · refine .inr (fun ad e => ?_)
      rw [e] at h1; cases h1
      refine ⟨Nat.lt_of_lt_of_le h2 (Nat.le_trans h.bel.size hR.bel.size), ?_, fun i e2 => ?_⟩
      · exact Nat.ne_of_lt h2
      · have h3 : w.heap.size + 1 ≤ b := (h.own i b e2.symm).1
        omega
end Go.Proofs.YtmfhpddeclggfaaGreatDoor
