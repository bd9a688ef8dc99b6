import Derived.Test.YtmfhpddeclggfaaGreatDoorDk
import Derived.Test.YtmfhpddeclggfaaGreatDoorFam
import Derived.Laws.StructEq
import Derived.MapKept
import Derived.WideKeyRuns
import Derived.Maps.Own
import Derived.WalkKit
import Derived.LoopTactic
import Derived.WalkSpells
import Derived.WalkLawsBesides
import Derived.Lib.Hide
import Derived.BigQuiet
import Derived.IntWalk
import Derived.Deep.DeepMust
import Derived.WalkSmall
import Derived.StillTailTactics
import Derived.Deep.RegionLaw
import Derived.Deep.QuietTactic
import Derived.Deep.RegionHeld3
import Derived.Deep.AppendLies
namespace Go.Proofs.YtmfhpddeclggfaaGreatDoor
open Go.RowKit
theorem below_gr {base : Nat} {W W' : World} {row : Option Nat} (hg : W.grownBy W' row) (hb : base ≤ W.heap.size) (hr : ∀ k, row = some k → base ≤ k) : Below base W W' := (Below.refl base W).grown hg hb hr
/-- The world behind the reading that is appended. -/
theorem ad_w7 {ι : Type} [DecidableEq ι] {f : ι → Row} {i1 : ι} {B D M base : Nat} {last : Int} {R : Nat → Value} {L : List Ent} {n m : Nat} {t : ByteArray} {xs : List Value} {W6 w1 : World} {gg cap : Nat}
    (hd : Desk W6 D M last R L) (hn : n ≤ 400) (hF : Fam B f W6) (hDB : D < B) (hMB : M < B) (hB : B ≤ W6.heap.size) (hD0 : base ≤ D) (h1 : f i1 = ⟨242, 2, R n, m, xs⟩)
    (hown : w1.ownsRow B 242 2 (.slice (some ⟨gg, 0, none⟩) (m + 1) cap) (m + 1) (xs ++ [.int .i64 (n : Int), .string t]))
    (hgrow : (W6.alloc (.cells #[.int .i64 (n : Int), .string t] 242)).drew.grownBy w1 (R n).ownBlock) (hat : (R n).ownBlock = some gg ∨ gg = W6.heap.size + 1) :
    ∃ W7, w1.setCell ⟨D, 1 + n, none⟩ (.slice (some ⟨gg, 0, none⟩) (m + 1) cap) = W7 ∧ Desk W7 D M last (fun j => if j = n then .slice (some ⟨gg, 0, none⟩) (m + 1) cap else R j) L ∧
      Fam B (fun j => if j = i1 then ⟨242, 2, .slice (some ⟨gg, 0, none⟩) (m + 1) cap, m + 1, xs ++ [.int .i64 (n : Int), .string t]⟩ else f j) W7 ∧ Below base W6 W7 ∧ W6.heap.size ≤ W7.heap.size := by
  have hr : ∀ k, (R n).ownBlock = some k → B ≤ k ∧ k < W6.heap.size := fun k hk => by
    have h5 := (hF.own i1).lt k
    rw [h1] at h5
    exact h5 hk
  have hnD : (R n).ownBlock ≠ some D := fun e => by have := hr D e; omega
  have hnM : (R n).ownBlock ≠ some M := fun e => by have := hr M e; omega
  have hga : W6.grownBy (W6.alloc (.cells #[.int .i64 (n : Int), .string t] 242)).drew none := grown_tr (grown_al _ _) (grown_dr _)
  have hd1 := (hd.grown hga (by simp) (by simp)).grown hgrow hnD hnM
  have hFa := hF.kept hga (fun i => by cases (f i).v.ownBlock <;> simp)
  have hs6 : (W6.alloc (.cells #[.int .i64 (n : Int), .string t] 242)).drew.heap.size = W6.heap.size + 1 := by show (W6.alloc _).heap.size = _; simp
  have hF1 := hFa.grown i1 ⟨242, 2, .slice (some ⟨gg, 0, none⟩) (m + 1) cap, m + 1, xs ++ [.int .i64 (n : Int), .string t]⟩ (W' := w1) (by rw [h1]; exact hgrow) hown (by
    rw [h1, hs6]
    rcases hat with h | h
    · exact .inr ⟨by rw [h]; rfl, by rw [h]; simp⟩
    · exact .inl (by rw [h]; rfl))
  have hsz := hgrow.size
  rw [hs6] at hsz
  refine ⟨_, rfl, hd1.row n hn _, hF1.kept (grownBy_setCellAt w1 D (1 + n) _) (fun i => ?_), ?_, ?_⟩
  · cases hv : (if i = i1 then (⟨242, 2, .slice (some ⟨gg, 0, none⟩) (m + 1) cap, m + 1, xs ++ [.int .i64 (n : Int), .string t]⟩ : Row) else f i).v.ownBlock with
    | none => exact .inl rfl
    | some g => exact .inr (fun e => by have := ((hF1.own i).lt g hv).1; cases e; omega)
  · exact ((below_gr hga (by omega) (by simp)).trans (below_gr hgrow (by omega) (fun k hk => by have := hr k hk; omega))).trans (below_gr (grownBy_setCellAt w1 D (1 + n) _) (by omega) (fun k hk => by cases hk; exact hD0))
  · simp only [World.size_setCell]; omega
/-- The world behind the map's store. -/
theorem ad_w9 {ι : Type} [DecidableEq ι] {f : ι → Row} {i2 : ι} {B D M base : Nat} {last : Int} {R : Nat → Value} {L : List Ent} {n : Int} {t : ByteArray} {v v' : Value} {l : Nat} {zs : List Value} {zs' : List Value} {W7 w2 W8 : World}
    (hd : Desk W7 D M last R L) (hF : Fam B f W7) (hDB : D < B) (hMB : M < B) (hB : B ≤ W7.heap.size) (hM0 : base ≤ M) (hD0 : base ≤ D) (h2 : f i2 = ⟨3, 1, v, l, zs⟩)
    (hown : w2.ownsRow B 3 1 v' (l + 1) zs') (hgrow : W7.grownBy w2 v.ownBlock) (hat : v'.ownBlock = some (W7.heap.size + 1) ∨ (v'.ownBlock = v.ownBlock ∧ v.ownBlock ≠ none))
    (hM : MapIs W8 M (updL n t v' L)) (hg8 : w2.grownBy W8 (some M)) :
    Desk W8 D M last R (updL n t v' L) ∧ Fam B (fun j => if j = i2 then ⟨3, 1, v', l + 1, zs'⟩ else f j) W8 ∧ Below base W7 W8 ∧ W7.heap.size ≤ W8.heap.size := by
  have hr : ∀ k, v.ownBlock = some k → B ≤ k ∧ k < W7.heap.size := fun k hk => by
    have h5 := (hF.own i2).lt k
    rw [h2] at h5
    exact h5 hk
  have hDM := desk_ne hd
  have hnD : v.ownBlock ≠ some D := fun e => by have := hr D e; omega
  have hnM : v.ownBlock ≠ some M := fun e => by have := hr M e; omega
  have hd2 := hd.grown hgrow hnD hnM
  have hbD := hg8.block D (World.block_lt_of_cell? w2 ⟨D, 0, none⟩ hd2.c0) (fun e => hDM (Option.some.inj e))
  have hsz := hgrow.size
  have hs8 := hg8.size
  have hF2 : Fam B (fun j => if j = i2 then ⟨3, 1, v', l + 1, zs'⟩ else f j) w2 := by
    refine ⟨fun j => ?_, fun i j g hi hj => ?_⟩
    · show w2.ownsRow B (if j = i2 then (⟨3, 1, v', l + 1, zs'⟩ : Row) else f j).e _ _ _ _
      by_cases e : j = i2
      · simp only [if_pos e]; exact hown
      · simp only [if_neg e]
        refine (hF.own j).kept hgrow ?_
        cases hb : (f j).v.ownBlock with
        | none => exact .inl rfl
        | some g => exact .inr (fun e2 => e (hF.apart j i2 g hb (by rw [h2]; exact e2.symm)))
    · have lt : ∀ j g, (f j).v.ownBlock = some g → g < W7.heap.size := fun j g hj => ((hF.own j).lt g hj).2
      by_cases e : i = i2 <;> by_cases e2 : j = i2
      · rw [e, e2]
      · simp only [if_pos e] at hi
        simp only [if_neg e2] at hj
        rcases hat with h | ⟨h, _⟩
        · rw [h] at hi; cases hi; exact absurd (lt j _ hj) (by omega)
        · rw [h] at hi; exact absurd (hF.apart j i2 g hj (by rw [h2]; exact hi)) e2
      · simp only [if_neg e] at hi
        simp only [if_pos e2] at hj
        rcases hat with h | ⟨h, _⟩
        · rw [h] at hj; cases hj; exact absurd (lt i _ hi) (by omega)
        · rw [h] at hj; exact absurd (hF.apart i i2 g hi (by rw [h2]; exact hj)) e
      · simp only [if_neg e] at hi
        simp only [if_neg e2] at hj
        exact hF.apart i j g hi hj
  refine ⟨⟨(World.cell?_of_block (a := ⟨D, 0, none⟩) hbD).trans hd2.c0, fun n hn => (World.cell?_of_block (a := ⟨D, 1 + n, none⟩) hbD).trans (hd2.cr n hn), (World.cell?_of_block (a := ⟨D, 402, none⟩) hbD).trans hd2.cm, fun o => (World.frozen?_of_block (a := ⟨D, o, none⟩) hbD).trans (hd2.fz o), hM⟩, hF2.kept hg8 (fun i => ?_), ?_, by omega⟩
  · cases hv : (if i = i2 then (⟨3, 1, v', l + 1, zs'⟩ : Row) else f i).v.ownBlock with
    | none => exact .inl rfl
    | some g => exact .inr (fun e => by have := ((hF2.own i).lt g hv).1; cases e; omega)
  · exact (below_gr hgrow (by omega) (fun k hk => by have := hr k hk; omega)).trans (below_gr hg8 (by omega) (fun k hk => by cases hk; exact hM0))
end Go.Proofs.YtmfhpddeclggfaaGreatDoor
