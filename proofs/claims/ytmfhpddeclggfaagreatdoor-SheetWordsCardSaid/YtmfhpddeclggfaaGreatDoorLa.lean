import Derived.Test.YtmfhpddeclggfaaGreatDoorAo
import Derived.Test.YtmfhpddeclggfaaGreatDoorD7
import Derived.Test.YtmfhpddeclggfaaGreatDoorFam
import Derived.Laws.StructEq
import Derived.MapKept
import Derived.WideKeyRuns
import Derived.Maps.Own
import Derived.WalkKit
import Derived.LoopTactic
import Derived.WalkSpells
import Derived.WalkLawsBesides
import Derived.Lib.Hide
import Derived.BigQuiet
import Derived.IntWalk
import Derived.Deep.DeepMust
import Derived.WalkSmall
import Derived.StillTailTactics
import Derived.Deep.RegionLaw
import Derived.Deep.QuietTactic
import Derived.Deep.RegionHeld3
import Derived.Deep.AppendLies
namespace Go.Proofs.YtmfhpddeclggfaaGreatDoor
open Go.RowKit
/-- What a desk's rows say: no reading, or one, with the copies that show it. -/
def entR (n : Int) (t : ByteArray) (v : Value) (ks : List Int) : List Ent := if ks = [] then [] else [(n, t, v)]
def rowR (n : Int) (t : ByteArray) (v : Value) (ks : List Int) : Row := if ks = [] then ⟨242, 2, v, 0, []⟩ else ⟨242, 2, v, 1, [.int .i64 n, .string t]⟩
def famL (t1 t2 : ByteArray) (R : Nat → Value) (v1 v2 : Value) (ks1 ks2 : List Int) (i : Fin 4) : Row :=
  if i = 0 then rowR 1 t1 (R 1) ks1 else if i = 1 then rowR 2 t2 (R 2) ks2 else if i = 2 then ⟨3, 1, v1, ks1.length, cellsI ks1⟩ else ⟨3, 1, v2, ks2.length, cellsI ks2⟩
/-- The desk with the readings of two lines. -/
def La (last : Int) (ks1 ks2 : List Int) (t1 t2 : ByteArray) (D M : Nat) (W : World) : Prop :=
  ∃ (B : Nat) (R : Nat → Value) (v1 v2 : Value), Desk W D M last R (entR 1 t1 v1 ks1 ++ entR 2 t2 v2 ks2) ∧ Fam B (famL t1 t2 R v1 v2 ks1 ks2) W ∧ B ≤ W.heap.size ∧ D < B ∧ M < B ∧ (ks1 = [] → v1 = .slice none 0 0) ∧ (ks2 = [] → v2 = .slice none 0 0)
theorem La.below {last : Int} {ks1 ks2 : List Int} {t1 t2 : ByteArray} {D M : Nat} {W W' : World} (h : La last ks1 ks2 t1 t2 D M W) (hb : Below W.heap.size W W') : La last ks1 ks2 t1 t2 D M W' := by
  obtain ⟨B, R, v1, v2, hd, hF, hB, hD, hM, n1, n2⟩ := h
  have c : ∀ a v, a.block < W.heap.size → W.cell? a = some v → W'.cell? a = some v := fun a v ha hv => (hb.cell ha).trans hv
  refine ⟨B, R, v1, v2, ⟨c _ _ (by show D < _; omega) hd.c0, fun n hn => c _ _ (by show D < _; omega) (hd.cr n hn), c _ _ (by show D < _; omega) hd.cm, fun o => (hb.frozen (p := ⟨D, o, none⟩) (by show D < _; omega)).trans (hd.fz o), ?_⟩, ⟨fun i => ownsRow_keep (hF.own i) hb, hF.apart⟩, Nat.le_trans hB hb.size, hD, hM, n1, n2⟩
  obtain ⟨es, clock, hm, hL⟩ := hd.mp
  exact ⟨es, clock, (hb.block M (by omega)).trans hm, hL⟩
theorem keyB_ne {a b : Int} (h : a ≠ b) (s t : ByteArray) : keyB a s b t = false := by simp [keyB, h]
theorem keyB_self (a : Int) (s : ByteArray) : keyB a s a s = true := by simp [keyB]
theorem fam_ext {B : Nat} {ι : Type} {f g : ι → Row} {W : World} (h : Fam B f W) (e : ∀ i, f i = g i) : Fam B g W := by
  rw [← funext e]; exact h
/-- The first line's first copy. -/
theorem la_1 (t1 t2 : ByteArray) (D M base : Nat) (W : World) (hD0 : base ≤ D) (hM0 : base ≤ M) (h : La 0 [] [] t1 t2 D M W) (k : Int) :
    Calls Tryz.prog 166 #[.pointer (some ⟨D, 0, none⟩), .int .i64 k, .agg #[.int .i64 1, .string t1, .bool true]] W fun e w' => e = .returned (.tuple #[]) ∧ La 1 [k] [] t1 t2 D M w' ∧ Below base W w' := by
  obtain ⟨B, R, v1, v2, hd, hF, hB, hD, hM, n1, n2⟩ := h
  have hv1 : v1 = .slice none 0 0 := n1 rfl
  subst hv1
  refine (add_new (famL t1 t2 R (.slice none 0 0) v2 [] []) 0 2 (by decide) B D M base hD0 hM0 0 R _ k 1 t1 0 [] W hd (by omega) hF hB hD hM (desk_ne hd) rfl (by omega) rfl rfl).mono ?_
  rintro e w' ⟨rfl, u1, u2, hd', hF', hb, hs⟩
  refine ⟨rfl, ⟨B, fun j => if j = 1 then u1 else R j, u2, v2, hd', fam_ext hF' ?_, by omega, hD, hM, by simp, n2⟩, hb⟩
  intro i
  match i with
  | 0 => rfl
  | 1 => rfl
  | 2 => rfl
  | 3 => rfl
/-- The second line's first copy. -/
theorem la_2 (t1 t2 : ByteArray) (D M base : Nat) (W : World) (hD0 : base ≤ D) (hM0 : base ≤ M) (ks1 : List Int) (h1 : ks1 ≠ []) (h : La 1 ks1 [] t1 t2 D M W) (k : Int) :
    Calls Tryz.prog 166 #[.pointer (some ⟨D, 0, none⟩), .int .i64 k, .agg #[.int .i64 2, .string t2, .bool true]] W fun e w' => e = .returned (.tuple #[]) ∧ La 2 ks1 [k] t1 t2 D M w' ∧ Below base W w' := by
  obtain ⟨B, R, v1, v2, hd, hF, hB, hD, hM, n1, n2⟩ := h
  have hv2 : v2 = .slice none 0 0 := n2 rfl
  subst hv2
  have hk : idxL 2 t2 (entR 1 t1 v1 ks1 ++ entR 2 t2 (.slice none 0 0) []) = none := by
    simp [entR, h1, idxL, keyB_ne]
  refine (add_new (famL t1 t2 R v1 (.slice none 0 0) ks1 []) 1 3 (by decide) B D M base hD0 hM0 1 R _ k 2 t2 0 [] W hd (by omega) hF hB hD hM (desk_ne hd) rfl (by omega) rfl hk).mono ?_
  rintro e w' ⟨rfl, u1, u2, hd', hF', hb, hs⟩
  refine ⟨rfl, ⟨B, fun j => if j = 2 then u1 else R j, v1, u2, ?_, fam_ext hF' ?_, by omega, hD, hM, n1, by simp⟩, hb⟩
  · have e : updL 2 t2 u2 (entR 1 t1 v1 ks1 ++ entR 2 t2 (.slice none 0 0) []) = entR 1 t1 v1 ks1 ++ entR 2 t2 u2 [k] := by
      unfold updL
      rw [hk]
      simp [entR, h1]
    rw [← e]
    exact hd'
  intro i
  match i with
  | 0 => rfl
  | 1 => rfl
  | 2 => rfl
  | 3 => rfl
/-- The second line's second copy. -/
theorem la_3 (t1 t2 : ByteArray) (D M base : Nat) (W : World) (hD0 : base ≤ D) (hM0 : base ≤ M) (ks1 ks2 : List Int) (h1 : ks1 ≠ []) (h2 : ks2 ≠ []) (k : Int) (hk : ks2.getLast? ≠ some k) (hl : ks2.length ≤ 1000) (h : La 2 ks1 ks2 t1 t2 D M W) :
    Calls Tryz.prog 166 #[.pointer (some ⟨D, 0, none⟩), .int .i64 k, .agg #[.int .i64 2, .string t2, .bool true]] W fun e w' => e = .returned (.tuple #[]) ∧ La 2 ks1 (ks2 ++ [k]) t1 t2 D M w' ∧ Below base W w' := by
  obtain ⟨B, R, v1, v2, hd, hF, hB, hD, hM, n1, n2⟩ := h
  have o3 := hF.own 3
  obtain ⟨a0, l0, c0, rfl⟩ : ∃ a0 l0 c0, v2 = .slice (some a0) l0 c0 := by
    rcases o3.2 with ⟨_, e⟩ | ⟨g, cap, cur, e, _⟩
    · exact absurd (List.length_eq_zero_iff.1 e) h2
    · exact ⟨_, _, _, e⟩
  have hix : idxL 2 t2 (entR 1 t1 v1 ks1 ++ entR 2 t2 (.slice (some a0) l0 c0) ks2) = some 1 := by
    simp [entR, h1, h2, idxL, keyB_ne, keyB_self]
  have hlk : lookL 2 t2 (entR 1 t1 v1 ks1 ++ entR 2 t2 (.slice (some a0) l0 c0) ks2) = .slice (some a0) l0 c0 := by
    unfold lookL
    rw [hix]
    simp [entR, h1, h2]
  refine (add_old (famL t1 t2 R v1 (.slice (some a0) l0 c0) ks1 ks2) 3 B D M base hD0 hM0 2 R _ k 2 t2 a0 l0 c0 ks2 W hd (by omega) hF hB hD hM rfl hk hl hlk).mono ?_
  rintro e w' ⟨rfl, u2, hd', hF', hb, hs⟩
  refine ⟨rfl, ⟨B, R, v1, u2, ?_, fam_ext hF' ?_, by omega, hD, hM, n1, by simp⟩, hb⟩
  · have e : updL 2 t2 u2 (entR 1 t1 v1 ks1 ++ entR 2 t2 (.slice (some a0) l0 c0) ks2) = entR 1 t1 v1 ks1 ++ entR 2 t2 u2 (ks2 ++ [k]) := by
      unfold updL
      rw [hix]
      simp [entR, h1, h2]
    rw [← e]
    exact hd'
  intro i
  match i with
  | 0 => rfl
  | 1 => simp [famL, rowR, h2]
  | 2 => rfl
  | 3 => simp [famL]
end Go.Proofs.YtmfhpddeclggfaaGreatDoor
