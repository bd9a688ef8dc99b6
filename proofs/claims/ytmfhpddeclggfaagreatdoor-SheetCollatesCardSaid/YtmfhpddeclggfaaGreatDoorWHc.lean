import Derived.RangeFuncNested
import Derived.RangeFuncBound
import Derived.RangeFuncCalls
import Derived.RangeFuncLeaves
import Derived.Test.YtmfhpddeclggfaaGreatDoorWHb
import Derived.RangeFuncBox
import Derived.Shelf.Abstract
import Derived.Shelf.RegionOpen
import Derived.OwnWalkIn
import Derived.TacticsInMore
import Derived.LoopNIn
import Derived.LoopIn
import Derived.Maps.AppendAt
import Derived.Maps.OwnIn
import Derived.RegionIn
import Derived.BigRegionIn
import Derived.Stop.RegionWithIn
import Derived.WalkKit
import Derived.LoopTactic
import Derived.WalkSpells
import Derived.WalkLawsBesides
import Derived.Lib.Hide
import Derived.BigQuiet
import Derived.IntWalk
import Derived.Deep.DeepMust
import Derived.WalkSmall
import Derived.StillTailTactics
import Derived.Deep.RegionLaw
import Derived.Deep.QuietTactic
import Derived.Deep.Cut
import Derived.Deep.DeepCutAuto
import Derived.Deep.LoopGhost
import Derived.Laws.AppendOwn
namespace Go.Proofs.YtmfhpddeclggfaaGreatDoor
open Go.RowKit
/-! The reference's pieces of a length that speak of a number. -/
open Go.Shelf
/-- What lies in a sorted copy. -/
structure SS where
  ls : List GL
  lp : Option Addr
  lc : Nat
  os : List ByteArray
  op : Option Addr
  oc : Nat
instance : Inhabited SS := ⟨⟨[], none, 0, [], none, 0⟩⟩
/-- These sorted copies lie there. -/
def SortsAt (W : World) (p : Option Addr) (ss : List SS) : Prop :=
  ss = [] ∨ ∃ b o, p = some ⟨b, o, none⟩ ∧ b < W.heap.size ∧ ∀ j, j < ss.length → W.cell? ⟨b, o + j * 2, none⟩ = some (.slice (ss.getD j default).lp (ss.getD j default).ls.length (ss.getD j default).lc) ∧ W.cell? ⟨b, o + j * 2 + 1, none⟩ = some (.slice (ss.getD j default).op (ss.getD j default).os.length (ss.getD j default).oc) ∧ LinesAt W (ss.getD j default).lp (ss.getD j default).ls ∧ StrsAt W (ss.getD j default).op (ss.getD j default).os
theorem SortsAt.below {W W' : World} {p : Option Addr} {ss : List SS} (h : SortsAt W p ss) (hb : Below W.heap.size W W') : SortsAt W' p ss := by
  rcases h with h | ⟨b, o, h1, h2, h3⟩
  · exact .inl h
  · exact .inr ⟨b, o, h1, Nat.lt_of_lt_of_le h2 hb.size, fun j hj => ⟨(hb.cell (p := ⟨b, o + j * 2, none⟩) h2).trans (h3 j hj).1, (hb.cell (p := ⟨b, o + j * 2 + 1, none⟩) h2).trans (h3 j hj).2.1, (h3 j hj).2.2.1.below hb, (h3 j hj).2.2.2.below hb⟩⟩
theorem sort_at {W : World} {p : Option Addr} {ss : List SS} (h : SortsAt W p ss) {k : Nat} (hk : k < ss.length) : ∃ b o, p = some ⟨b, o, none⟩ ∧ b < W.heap.size ∧ W.cell? ⟨b, o + k * 2, none⟩ = some (.slice (ss.getD k default).lp (ss.getD k default).ls.length (ss.getD k default).lc) ∧ W.cell? ⟨b, o + k * 2 + 1, none⟩ = some (.slice (ss.getD k default).op (ss.getD k default).os.length (ss.getD k default).oc) ∧ LinesAt W (ss.getD k default).lp (ss.getD k default).ls ∧ StrsAt W (ss.getD k default).op (ss.getD k default).os := by
  rcases h with h | ⟨b, o, h1, h2, h3⟩
  · rw [h] at hk; exact absurd hk (by simp)
  · exact ⟨b, o, h1, h2, h3 k hk⟩
/-- A piece of this length that speaks of this number. -/
def ofB (n : Int) (len : Nat) (x : ByteArray) : Bool := (spk x.data.toList == some n) && x.size == len
/-- One piece more, of the copy with the index i. -/
def stO (n : Int) (len : Nat) (i : Int) (a : List ByteArray × List Int) (x : ByteArray) : List ByteArray × List Int := if ofB n len x = true then (a.1 ++ [x], addL a.2 i) else a
def ofP (n : Int) (len : Nat) (i : Int) (a : List ByteArray × List Int) (os : List ByteArray) : List ByteArray × List Int := os.foldl (stO n len i) a
/-- The pieces of this length that speak of this number, and their copies: of the first k copies. -/
def ofC (n : Int) (len : Nat) (ss : List SS) : Nat → List ByteArray × List Int
  | 0 => ([], [])
  | k + 1 => ofP n len k (ofC n len ss k) (ss.getD k default).os
theorem ofP_snoc (n : Int) (len : Nat) (i : Int) (a : List ByteArray × List Int) (os : List ByteArray) (k : Nat) (h : k < os.length) : ofP n len i a (os.take (k + 1)) = stO n len i (ofP n len i a (os.take k)) (os.getD k ByteArray.empty) := by
  unfold ofP
  rw [List.take_succ_eq_append_getElem h, List.foldl_append, List.getD, List.getElem?_eq_getElem h]
  rfl
theorem stO_len (n : Int) (len : Nat) (i : Int) (a : List ByteArray × List Int) (x : ByteArray) : (stO n len i a x).1.length ≤ a.1.length + 1 ∧ (stO n len i a x).2.length ≤ a.2.length + 1 := by
  unfold stO addL
  split
  · constructor
    · simp
    · dsimp only; split <;> simp
  · exact ⟨Nat.le_succ _, Nat.le_succ _⟩
theorem ofP_len (n : Int) (len : Nat) (i : Int) : ∀ (os : List ByteArray) (a : List ByteArray × List Int), (ofP n len i a os).1.length ≤ a.1.length + os.length ∧ (ofP n len i a os).2.length ≤ a.2.length + os.length
  | [], _ => ⟨Nat.le_refl _, Nat.le_refl _⟩
  | x :: os, a => by
    have h1 := stO_len n len i a x
    have h2 := ofP_len n len i os (stO n len i a x)
    have e : ofP n len i a (x :: os) = ofP n len i (stO n len i a x) os := rfl
    rw [e, List.length_cons]
    omega
theorem addL_last (zs : List Int) (i : Int) : (addL zs i).getLast? = some i := by
  unfold addL
  split
  · assumption
  · simp
theorem addL_again (zs : List Int) (i : Int) : addL (addL zs i) i = addL zs i := by
  rw [addL, if_pos (addL_last zs i)]
theorem addL_ne (zs : List Int) (i : Int) : addL zs i ≠ [] := fun h => by
  have := addL_last zs i
  rw [h] at this; cases this
theorem ofP_copies (n : Int) (len : Nat) (i : Int) : ∀ (os : List ByteArray) (a : List ByteArray × List Int), (ofP n len i a os).2 = a.2 ∨ (ofP n len i a os).2 = addL a.2 i
  | [], _ => .inl rfl
  | x :: os, a => by
    have h2 := ofP_copies n len i os (stO n len i a x)
    have e : ofP n len i a (x :: os) = ofP n len i (stO n len i a x) os := rfl
    have h1 : (stO n len i a x).2 = a.2 ∨ (stO n len i a x).2 = addL a.2 i := by
      unfold stO; split
      · exact .inr rfl
      · exact .inl rfl
    rw [e]
    rcases h1 with h1 | h1 <;> rw [h1] at h2
    · exact h2
    · rw [addL_again] at h2
      exact .inr (h2.elim id id)
theorem addL_le (zs : List Int) (i : Int) : (addL zs i).length ≤ zs.length + 1 := by
  unfold addL; split <;> simp
theorem ofC_copies (n : Int) (len : Nat) (ss : List SS) : ∀ k, (ofC n len ss k).2.length ≤ k
  | 0 => Nat.le_refl _
  | k + 1 => by
    have h1 := ofC_copies n len ss k
    have h2 := ofP_copies n len k (ss.getD k default).os (ofC n len ss k)
    have h3 := addL_le (ofC n len ss k).2 k
    rw [ofC]
    rcases h2 with h2 | h2 <;> rw [h2] <;> omega
theorem ofP_copies_le (n : Int) (len : Nat) (ss : List SS) (k : Nat) (os : List ByteArray) : (ofP n len k (ofC n len ss k) os).2.length ≤ k + 1 := by
  have h1 := ofC_copies n len ss k
  have h2 := ofP_copies n len k os (ofC n len ss k)
  have h3 := addL_le (ofC n len ss k).2 k
  rcases h2 with h2 | h2 <;> rw [h2] <;> omega
theorem ofC_pieces (n : Int) (len : Nat) (ss : List SS) (M : Nat) (h : ∀ j, (ss.getD j default).os.length ≤ M) : ∀ k, (ofC n len ss k).1.length ≤ k * M
  | 0 => Nat.zero_le _
  | k + 1 => by
    have h1 := ofC_pieces n len ss M h k
    have h2 := (ofP_len n len k (ss.getD k default).os (ofC n len ss k)).1
    have h3 := h k
    rw [ofC, Nat.succ_mul]; omega
theorem IntsAt.keep {W W' : World} {q : Option Addr} {zs : List Int} (h : IntsAt W q zs) (hs : W.heap.size ≤ W'.heap.size) (hc : ∀ ad, q = some ad → ∀ i, W'.cell? ⟨ad.block, i, none⟩ = W.cell? ⟨ad.block, i, none⟩) : IntsAt W' q zs := by
  rcases h with h | ⟨b, o, h1, h2, h3⟩
  · exact .inl h
  · exact .inr ⟨b, o, h1, Nat.lt_of_lt_of_le h2 hs, fun j hj => (hc _ h1 _).trans (h3 j hj)⟩
theorem row_grown {B n k : Nat} {e : TypeId} {W W' : World} {v : Value} {xs : List Value} {row : Option Nat} (h : W.ownsRow B e k v n xs) (hg : W.grownBy W' row) (hr : ∀ r, row = some r → r < B) : W'.ownsRow B e k v n xs := by
  refine h.kept hg ?_
  cases hv : v.ownBlock with
  | none => exact .inl rfl
  | some g => exact .inr (fun e => by have h1 := (h.lt g hv).1; have h2 := hr g e.symm; omega)
/-- Two cells, with pieces and the indices of copies. -/
structure RSp (w1 W : World) (vl vc : Value) (a : List ByteArray × List Int) : Prop where
  c0 : W.cell? ⟨w1.heap.size, 0, none⟩ = some vl
  c1 : W.cell? ⟨w1.heap.size, 1, none⟩ = some vc
  fz : ∀ o, W.frozen? ⟨w1.heap.size, o, none⟩ = false
  bel : Below w1.heap.size w1 W
  lt : w1.heap.size < W.heap.size
  row : W.ownsRow (w1.heap.size + 1) 9 1 vl a.1.length (strsV a.1)
  cop : ∃ q d, vc = .slice q a.2.length d ∧ IntsAt W q a.2 ∧ ∀ ad, q = some ad → w1.heap.size < ad.block ∧ ad.block < W.heap.size ∧ some ad.block ≠ vl.ownBlock
theorem RSp.mk0 (w : World) (t : TypeId) : RSp w (w.alloc (.cells #[.slice none 0 0, .slice none 0 0] t)) (.slice none 0 0) (.slice none 0 0) ([], []) :=
  ⟨nw_at w _ t 0 _ rfl, nw_at w _ t 1 _ rfl, fun o => frozen_new w _ _ o, below_alloc1 _ _, by simp, World.ownsRow_nil _ _ _ _, none, 0, rfl, .inl rfl, fun ad e => by cases e⟩
theorem RSp.next {w1 W W' : World} {vl vc : Value} {a : List ByteArray × List Int} (h : RSp w1 W vl vc a) (hb : Below W.heap.size W W') : RSp w1 W' vl vc a :=
  ⟨(hb.cell (p := ⟨w1.heap.size, 0, none⟩) h.lt).trans h.c0, (hb.cell (p := ⟨w1.heap.size, 1, none⟩) h.lt).trans h.c1, fun o => (hb.frozen (p := ⟨w1.heap.size, o, none⟩) h.lt).trans (h.fz o), h.bel.trans (hb.mono (Nat.le_of_lt h.lt)), Nat.lt_of_lt_of_le h.lt hb.size, ownsRow_keep h.row hb, by
    obtain ⟨q, d, h1, h2, h3⟩ := h.cop
    exact ⟨q, d, h1, h2.below hb, fun ad e => ⟨(h3 ad e).1, Nat.lt_of_lt_of_le (h3 ad e).2.1 hb.size, (h3 ad e).2.2⟩⟩⟩
theorem RSp.piece {w1 W W' : World} {vl vc v' : Value} {a : List ByteArray × List Int} {x : ByteArray} (h : RSp w1 W vl vc a)
    (hown : W'.ownsRow (w1.heap.size + 1) 9 1 v' (a.1.length + 1) (strsV a.1 ++ strsV [x])) (hgr : W.grownBy W' vl.ownBlock) (hat : v'.ownBlock = vl.ownBlock ∨ v'.ownBlock = some W.heap.size) : RSp w1 (W'.setCell ⟨w1.heap.size, 0, none⟩ v') v' vc (a.1 ++ [x], a.2) := by
  have hne : some w1.heap.size ≠ vl.ownBlock := fun e => by have := (h.row.lt _ e.symm).1; omega
  have hb : W'.heap[w1.heap.size]? = W.heap[w1.heap.size]? := hgr.block _ h.lt hne
  have k0 := (World.cell?_of_block (a := ⟨w1.heap.size, 0, none⟩) hb).trans h.c0
  have k1 := (World.cell?_of_block (a := ⟨w1.heap.size, 1, none⟩) hb).trans h.c1
  refine ⟨World.cell?_setCell_same' W' _ _ (by rw [k0]; rfl), ?_, fun o => ?_, ?_, ?_, ?_, ?_⟩
  · rw [World.cell?_setCell_other _ _ _ _ (fun e => by cases e)]; exact k1
  · rw [World.frozen?_setCell]; exact (World.frozen?_of_block (a := ⟨w1.heap.size, o, none⟩) hb).trans (h.fz o)
  · exact (h.bel.grown hgr (Nat.le_of_lt h.lt) (fun k e => by have := (h.row.lt k e).1; omega)).setCell (p := ⟨w1.heap.size, 0, none⟩) (Nat.le_refl _) _
  · rw [World.size_setCell]; exact Nat.lt_of_lt_of_le h.lt hgr.size
  · have e : strsV (a.1 ++ [x]) = strsV a.1 ++ strsV [x] := by simp [strsV]
    simp only [List.length_append, List.length_cons, List.length_nil, e]
    exact row_grown hown (grownBy_setCellAt W' w1.heap.size 0 _) (fun r e => by cases e; exact Nat.lt_succ_self _)
  · obtain ⟨q, d, h1, h2, h3⟩ := h.cop
    refine ⟨q, d, h1, h2.keep (by rw [World.size_setCell]; exact hgr.size) (fun ad e i => ?_), fun ad e => ⟨(h3 ad e).1, ?_, ?_⟩⟩
    · obtain ⟨g1, g2, g3⟩ := h3 ad e
      rw [World.cell?_setCell_other _ _ _ _ (fun e => by have := congrArg Addr.block e; dsimp only at this; omega)]
      exact World.cell?_of_block (a := ⟨ad.block, i, none⟩) (hgr.block _ g2 g3)
    · rw [World.size_setCell]; exact Nat.lt_of_lt_of_le (h3 ad e).2.1 hgr.size
    · obtain ⟨g1, g2, g3⟩ := h3 ad e
      rcases hat with hat | hat <;> rw [hat]
      · exact g3
      · exact fun e => by have := Option.some.inj e; omega
theorem RSp.copy {w1 W W' : World} {vl vc : Value} {a : List ByteArray × List Int} {q q' : Option Addr} {d d' : Nat} {zs : List Int} (h : RSp w1 W vl vc a) (hv : vc = .slice q a.2.length d) (hb : Below W.heap.size W W') (hz : zs ≠ []) (hi : IntsAt W' q' zs) (hq : q' = q ∨ PFrom W.heap.size q') : RSp w1 (W'.setCell ⟨w1.heap.size, 1, none⟩ (.slice q' zs.length d')) vl (.slice q' zs.length d') (a.1, zs) := by
  have H := h.next hb
  have hD : ∀ ad, q' = some ad → w1.heap.size < ad.block ∧ ad.block < W'.heap.size ∧ some ad.block ≠ vl.ownBlock := fun ad e => by
    have hlt : ad.block < W'.heap.size := by
      rcases hi with h | ⟨b, o, h1, h2, -⟩
      · exact absurd h hz
      · rw [e] at h1; cases h1; exact h2
    rcases hq with hq | hq
    · obtain ⟨q0, d0, g1, -, g3⟩ := h.cop
      rw [hv] at g1
      cases g1
      rw [hq] at e
      exact ⟨(g3 ad e).1, hlt, (g3 ad e).2.2⟩
    · have g := hq ad e
      have := h.lt
      exact ⟨by omega, hlt, fun e => by have := (h.row.lt _ e.symm).2; omega⟩
  refine ⟨?_, World.cell?_setCell_same' W' _ _ (by rw [H.c1]; rfl), fun o => ?_, ?_, ?_, ?_, q', d', rfl, ?_, ?_⟩
  · rw [World.cell?_setCell_other _ _ _ _ (fun e => by cases e)]; exact H.c0
  · rw [World.frozen?_setCell]; exact H.fz o
  · exact H.bel.setCell (p := ⟨w1.heap.size, 1, none⟩) (Nat.le_refl _) _
  · rw [World.size_setCell]; exact H.lt
  · exact row_grown H.row (grownBy_setCellAt W' w1.heap.size 1 _) (fun r e => by cases e; exact Nat.lt_succ_self _)
  · refine hi.keep (by rw [World.size_setCell]; exact Nat.le_refl _) (fun ad e i => ?_)
    rw [World.cell?_setCell_other _ _ _ _ (fun e' => by have := congrArg Addr.block e'; have := (hD ad e).1; dsimp only at *; omega)]
  · rw [World.size_setCell]; exact hD
end Go.Proofs.YtmfhpddeclggfaaGreatDoor
