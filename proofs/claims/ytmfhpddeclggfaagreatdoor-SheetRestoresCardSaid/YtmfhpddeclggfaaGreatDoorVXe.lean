import Derived.Test.YtmfhpddeclggfaaGreatDoorVXc
import Derived.Test.YtmfhpddeclggfaaGreatDoorVNoLaw
import Derived.Test.YtmfhpddeclggfaaGreatDoorVTd0
import Derived.Test.YtmfhpddeclggfaaGreatDoorVTb
import Derived.Test.YtmfhpddeclggfaaGreatDoorVIia
import Derived.Test.YtmfhpddeclggfaaGreatDoorTf
import Derived.Test.YtmfhpddeclggfaaGreatDoorVTc
import Derived.Test.YtmfhpddeclggfaaGreatDoorVTa
import Derived.Test.YtmfhpddeclggfaaGreatDoorVIfb
import Derived.Test.YtmfhpddeclggfaaGreatDoorVc
import Derived.Test.YtmfhpddeclggfaaGreatDoorKf
import Derived.Test.YtmfhpddeclggfaaGreatDoorOm
import Derived.Lib.ConvBytes
import Derived.Laws.IdiomStrings
import Derived.WalkKit
import Derived.LoopTactic
import Derived.WalkSpells
import Derived.WalkLawsBesides
import Derived.Lib.Hide
import Derived.BigQuiet
import Derived.IntWalk
import Derived.Deep.DeepMust
import Derived.WalkSmall
import Derived.StillTailTactics
import Derived.Deep.RegionLaw
import Derived.Deep.QuietTactic
import Derived.Deep.Cut
import Derived.Deep.DeepCutAuto
import Derived.Deep.LoopGhost
import Derived.Deep.RegionHeld3
import Derived.Laws.OwnMore
import Derived.Laws.RangeAny
import Derived.Laws.RangeString
import Derived.Lib.OthersKept
import Derived.Test.YtmfhpddeclggfaaGreatDoorVUd
namespace Go.Proofs.YtmfhpddeclggfaaGreatDoor
open Go Go.RowKit Go.BigFrame
theorem bool_at {W : World} {p : Option Addr} {zs : List Bool} (h : BoolsAt W p zs) {k : Nat} (hk : k < zs.length) : ∃ b o, p = some ⟨b, o, none⟩ ∧ b < W.heap.size ∧ W.cell? ⟨b, o + k, none⟩ = some (.bool (zs.getD k false)) := by
  rcases h with h | ⟨b, o, h1, h2, h3⟩
  · subst h; cases hk
  · exact ⟨b, o, h1, h2, h3 k hk⟩
theorem boolss_at {W : World} {p : Option Addr} {ys : List (Option Addr × Nat × List Bool)} (h : BoolssAt W p ys) {k : Nat} (hk : k < ys.length) :
    ∃ b o, p = some ⟨b, o, none⟩ ∧ b < W.heap.size ∧ W.cell? ⟨b, o + k, none⟩ = some (.slice (ys.getD k default).1 (ys.getD k default).2.2.length (ys.getD k default).2.1) ∧ BoolsAt W (ys.getD k default).1 (ys.getD k default).2.2 := by
  rcases h.1 with h1 | ⟨b, o, h1, h2, h3⟩
  · subst h1; cases hk
  · exact ⟨b, o, h1, h2, h3 k hk, h.2 k hk⟩
theorem BoolssAt.below {W W' : World} {p : Option Addr} {ys : List (Option Addr × Nat × List Bool)} (h : BoolssAt W p ys) (hb : Below W.heap.size W W') : BoolssAt W' p ys :=
  ⟨h.1.imp id fun ⟨b, o, h1, h2, h3⟩ => ⟨b, o, h1, Nat.lt_of_lt_of_le h2 hb.size, fun j hj => (hb.cell (p := ⟨b, o + j, none⟩) h2).trans (h3 j hj)⟩, fun j hj => (h.2 j hj).below hb⟩
/-- What is known of a line when k copies are done. -/
structure CP (s : ByteArray) (H : List (List (Option (List UInt8)))) (m k : Nat) (gd : Bool) (l : List Bool) : Prop where
  g : gd = true → ∀ k', k' < k → ∀ c, (H.getD k' [])[m]? = some (some c) → c ≠ s.data.toList ∧ (blB (bs c) s = true → spk c = some ((m : Int) + 1))
  r : ∀ p, p < s.size → l.getD p false = true → ∃ k', k' < k ∧ ∃ c, (H.getD k' [])[m]? = some (some c) ∧ blB (bs c) s = true ∧ c.getD p 0 ≠ 63
theorem CP.zero (s : ByteArray) (H : List (List (Option (List UInt8)))) (m n : Nat) : CP s H m 0 true (List.replicate n false) :=
  ⟨fun _ k' hk => absurd hk (Nat.not_lt_zero _), fun p _ h => by
    by_cases hp : p < n
    · simp [List.getD, hp] at h
    · simp [List.getD, hp] at h⟩
theorem CP.lost {s : ByteArray} {H : List (List (Option (List UInt8)))} {m k : Nat} {gd : Bool} {l : List Bool} (h : CP s H m k gd l) (e : (H.getD k [])[m]? = some none) : CP s H m (k + 1) gd l :=
  ⟨fun hg k' hk c hc => by
    rcases Nat.lt_succ_iff_lt_or_eq.1 hk with h1 | rfl
    · exact h.g hg k' h1 c hc
    · rw [e] at hc; exact absurd hc (by simp), fun p hp hl => by
    obtain ⟨k', h1, h2⟩ := h.r p hp hl
    exact ⟨k', Nat.lt_succ_of_lt h1, h2⟩⟩
theorem CP.bad {s : ByteArray} {H : List (List (Option (List UInt8)))} {m k : Nat} {gd : Bool} {l : List Bool} (h : CP s H m k gd l) : CP s H m (k + 1) false l :=
  ⟨fun hg => absurd hg Bool.false_ne_true, fun p hp hl => by
    obtain ⟨k', h1, h2⟩ := h.r p hp hl
    exact ⟨k', Nat.lt_succ_of_lt h1, h2⟩⟩
theorem CP.other {s : ByteArray} {H : List (List (Option (List UInt8)))} {m k : Nat} {gd gd' : Bool} {l : List Bool} (h : CP s H m k gd l) {c : List UInt8} (e : (H.getD k [])[m]? = some (some c)) (hne : c ≠ s.data.toList) (hb : blB (bs c) s = false) (hg : gd' = true → gd = true) : CP s H m (k + 1) gd' l :=
  ⟨fun hg' k' hk c' hc => by
    rcases Nat.lt_succ_iff_lt_or_eq.1 hk with h1 | rfl
    · exact h.g (hg hg') k' h1 c' hc
    · rw [e] at hc; cases hc
      exact ⟨hne, fun hb' => absurd (hb.symm.trans hb') Bool.false_ne_true⟩, fun p hp hl => by
    obtain ⟨k', h1, h2⟩ := h.r p hp hl
    exact ⟨k', Nat.lt_succ_of_lt h1, h2⟩⟩
theorem CP.mine {s : ByteArray} {H : List (List (Option (List UInt8)))} {m k : Nat} {gd gd' : Bool} {l l' : List Bool} (h : CP s H m k gd l) {c : List UInt8} (e : (H.getD k [])[m]? = some (some c)) (hne : c ≠ s.data.toList) (hb : blB (bs c) s = true) (hg : gd' = true → gd = true ∧ spk c = some ((m : Int) + 1))
    (hl : ∀ p, p < s.size → l'.getD p false = true → l.getD p false = true ∨ c.getD p 0 ≠ 63) : CP s H m (k + 1) gd' l' :=
  ⟨fun hg' k' hk c' hc => by
    rcases Nat.lt_succ_iff_lt_or_eq.1 hk with h1 | rfl
    · exact h.g (hg hg').1 k' h1 c' hc
    · rw [e] at hc; cases hc
      exact ⟨hne, fun _ => (hg hg').2⟩, fun p hp hl' => by
    rcases hl p hp hl' with h1 | h1
    · obtain ⟨k', h1, h2⟩ := h.r p hp h1
      exact ⟨k', Nat.lt_succ_of_lt h1, h2⟩
    · exact ⟨k, Nat.lt_succ_self k, c, e, hb, h1⟩⟩
theorem mN_none {s : ByteArray} {H : List (List (Option (List UInt8)))} {m k : Nat} (e : (H.getD k [])[m]? = some none) : mN s H m k = 0 := by
  unfold mN; rw [e]; rfl
theorem mN_no {s : ByteArray} {H : List (List (Option (List UInt8)))} {m k : Nat} {c : List UInt8} (e : (H.getD k [])[m]? = some (some c)) (h : c = s.data.toList ∨ blB (bs c) s = false) : mN s H m k = 0 := by
  unfold mN; rw [e]
  refine if_neg fun hm => ?_
  obtain ⟨c', e', h1, h2⟩ := mB_some hm
  cases e'
  rcases h with h | h
  · exact h1 h
  · rw [h] at h2; cases h2
theorem mN_yes {s : ByteArray} {H : List (List (Option (List UInt8)))} {m k : Nat} {c : List UInt8} (e : (H.getD k [])[m]? = some (some c)) (h1 : c ≠ s.data.toList) (h2 : blB (bs c) s = true) : mN s H m k = 1 := by
  unfold mN; rw [e]
  refine if_pos ?_
  show (!decide (c = s.data.toList) && blB (bs c) s) = true
  rw [decide_eq_false h1, h2]
  rfl
theorem sumN_bd {s : ByteArray} {H : List (List (Option (List UInt8)))} {m : Nat} : ∀ k, sumN (mN s H m) k ≤ k
  | 0 => Nat.le_refl _
  | k + 1 => Nat.add_le_add (sumN_bd k) (by unfold mN; split <;> omega)
end Go.Proofs.YtmfhpddeclggfaaGreatDoor
