import Derived.Test.YtmfhpddeclggfaaGreatDoorFo
import Derived.Test.YtmfhpddeclggfaaGreatDoorD7
import Derived.Test.YtmfhpddeclggfaaGreatDoorFam
import Derived.Laws.StructEq
import Derived.MapKept
import Derived.WideKeyRuns
import Derived.Maps.Own
import Derived.WalkKit
import Derived.LoopTactic
import Derived.WalkSpells
import Derived.WalkLawsBesides
import Derived.Lib.Hide
import Derived.BigQuiet
import Derived.IntWalk
import Derived.Deep.DeepMust
import Derived.WalkSmall
import Derived.StillTailTactics
import Derived.Deep.RegionLaw
import Derived.Deep.QuietTactic
import Derived.Deep.RegionHeld3
import Derived.Deep.AppendLies
namespace Go.Proofs.YtmfhpddeclggfaaGreatDoor
open Go.RowKit
theorem own_at {W : World} {B : Nat} {e : TypeId} {s n : Nat} {v : Value} {xs : List Value} (h : W.ownsRow B e s v n xs) (hn : 0 < n) (hl : xs.length = n * s) : ∃ g cap, v = .slice (some ⟨g, 0, none⟩) n cap ∧ B ≤ g ∧ g < W.heap.size ∧ ∀ j u, xs[j]? = some u → W.cell? ⟨g, j, none⟩ = some u := by
  obtain ⟨h1, ⟨rfl, h2⟩ | ⟨g, cap, cur, rfl, hg, hc, h3, h4, h5, h6⟩⟩ := h
  · exact absurd h2 (by omega)
  · refine ⟨g, cap, rfl, hg, (Array.getElem?_eq_some_iff.1 hc).1, fun j u hj => ?_⟩
    have hjl : j < xs.length := (List.getElem?_eq_some_iff.1 hj).1
    rw [← h6, List.getElem?_take_of_lt (by omega)] at hj
    simpa [World.cell?, hc] using hj
/-- What is read of a desk with two lines. -/
theorem la_read {ks1 ks2 : List Int} {t1 t2 : ByteArray} {D M : Nat} {W : World} (h1 : ks1 ≠ []) (h2 : ks2 ≠ []) (h : La 2 ks1 ks2 t1 t2 D M W) :
    ∃ (R : Nat → Value) (L : List Ent), Desk W D M 2 R L ∧
      (∃ g cap, R 1 = .slice (some ⟨g, 0, none⟩) 1 cap ∧ g < W.heap.size ∧ W.cell? ⟨g, 0, none⟩ = some (.int .i64 1) ∧ W.cell? ⟨g, 1, none⟩ = some (.string t1)) ∧
      (∃ g cap, R 2 = .slice (some ⟨g, 0, none⟩) 1 cap ∧ g < W.heap.size ∧ W.cell? ⟨g, 0, none⟩ = some (.int .i64 2) ∧ W.cell? ⟨g, 1, none⟩ = some (.string t2)) ∧
      (∃ a c, lookL 1 t1 L = .slice (some a) ks1.length c) ∧ (∃ a c, lookL 2 t2 L = .slice (some a) ks2.length c) := by
  obtain ⟨B, R, v1, v2, hd, hF, hB, hD, hM, n1, n2⟩ := h
  have o0 := hF.own 0
  have o1 := hF.own 1
  have o2 := hF.own 2
  have o3 := hF.own 3
  have e0 : famL t1 t2 R v1 v2 ks1 ks2 0 = ⟨242, 2, R 1, 1, [.int .i64 1, .string t1]⟩ := by simp [famL, rowR, h1]
  have e1 : famL t1 t2 R v1 v2 ks1 ks2 1 = ⟨242, 2, R 2, 1, [.int .i64 2, .string t2]⟩ := by simp [famL, rowR, h2]
  rw [e0] at o0
  rw [e1] at o1
  have hl1 : 0 < ks1.length := List.length_pos_iff.2 h1
  have hl2 : 0 < ks2.length := List.length_pos_iff.2 h2
  obtain ⟨g0, p0, r0, -, b0, c0⟩ := own_at o0 Nat.one_pos rfl
  obtain ⟨g1, p1, r1, -, b1, c1⟩ := own_at o1 Nat.one_pos rfl
  obtain ⟨g2, p2, r2, -⟩ := own_at (W := W) (B := B) (e := 3) (s := 1) (n := ks1.length) (v := v1) (xs := cellsI ks1) o2 hl1 (by simp [cellsI])
  obtain ⟨g3, p3, r3, -⟩ := own_at (W := W) (B := B) (e := 3) (s := 1) (n := ks2.length) (v := v2) (xs := cellsI ks2) o3 hl2 (by simp [cellsI])
  refine ⟨R, _, hd, ⟨g0, p0, r0, b0, c0 0 _ rfl, c0 1 _ rfl⟩, ⟨g1, p1, r1, b1, c1 0 _ rfl, c1 1 _ rfl⟩, ⟨⟨g2, 0, none⟩, p2, ?_⟩, ⟨⟨g3, 0, none⟩, p3, ?_⟩⟩
  · simp only [lookL, entR, h1, h2, if_false, List.cons_append, List.nil_append, idxL, keyB_self, if_true]
    simpa using r2
  · simp only [lookL, entR, h1, h2, if_false, List.cons_append, List.nil_append, idxL, keyB_self, keyB_ne (show (2 : Int) ≠ 1 by decide), if_true]
    simpa using r3
/-- What found leaves where a number has one reading. -/
def FoundP (W : World) (len : Nat) (e : Ending) (w' : World) : Prop :=
  ∃ (g cap : Nat) (n' : Int) (p : Option Addr) (k c : Nat) (pc : Option Addr) (cc : Nat), e = .returned (.slice (some ⟨g, 0, none⟩) 1 cap) ∧ W.heap.size ≤ g ∧ g < w'.heap.size ∧
    (w'.cell? ⟨g, 0, none⟩ = some (.int .i64 n') ∧ w'.cell? ⟨g, 1, none⟩ = some (.slice p k c) ∧ w'.cell? ⟨g, 2, none⟩ = some (.slice pc len cc) ∧ w'.cell? ⟨g, 3, none⟩ = some (.bool false)) ∧ Below W.heap.size W w'
theorem found_1 {ks1 ks2 : List Int} {t1 t2 : ByteArray} {D M : Nat} {W : World} (h1 : ks1 ≠ []) (h2 : ks2 ≠ []) (h : La 2 ks1 ks2 t1 t2 D M W) (ht : t1.size ≤ 1000000) (he : Env W) :
    Calls Tryz.prog 141 #[.pointer (some ⟨D, 0, none⟩), .int .i64 1] W (FoundP W ks1.length) := by
  obtain ⟨R, L, hd, ⟨g, cap, a1, a2, a3, a4⟩, -, ⟨a, c, hl⟩, -⟩ := la_read h1 h2 h
  refine (found_one t1 1 D M 2 R L g cap (some a) _ c W (by decide) hd a1 a2 a3 a4 hl ht he).mono ?_
  rintro e w' ⟨v', n', p, k, c', rfl, ho, hb⟩
  obtain ⟨g', cap', rfl, u1, u2, u3⟩ := own_at ho (by decide) rfl
  exact ⟨g', cap', n', p, k, c', some a, c, rfl, u1, u2, ⟨u3 0 _ rfl, u3 1 _ rfl, u3 2 _ rfl, u3 3 _ rfl⟩, hb⟩
theorem found_2 {ks1 ks2 : List Int} {t1 t2 : ByteArray} {D M : Nat} {W : World} (h1 : ks1 ≠ []) (h2 : ks2 ≠ []) (h : La 2 ks1 ks2 t1 t2 D M W) (ht : t2.size ≤ 1000000) (he : Env W) :
    Calls Tryz.prog 141 #[.pointer (some ⟨D, 0, none⟩), .int .i64 2] W (FoundP W ks2.length) := by
  obtain ⟨R, L, hd, -, ⟨g, cap, a1, a2, a3, a4⟩, -, ⟨a, c, hl⟩⟩ := la_read h1 h2 h
  refine (found_one t2 2 D M 2 R L g cap (some a) _ c W (by decide) hd a1 a2 a3 a4 hl ht he).mono ?_
  rintro e w' ⟨v', n', p, k, c', rfl, ho, hb⟩
  obtain ⟨g', cap', rfl, u1, u2, u3⟩ := own_at ho (by decide) rfl
  exact ⟨g', cap', n', p, k, c', some a, c, rfl, u1, u2, ⟨u3 0 _ rfl, u3 1 _ rfl, u3 2 _ rfl, u3 3 _ rfl⟩, hb⟩
end Go.Proofs.YtmfhpddeclggfaaGreatDoor
