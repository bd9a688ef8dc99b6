import Derived.RangeFuncNested
import Derived.RangeFuncBound
import Derived.RangeFuncCalls
import Derived.RangeFuncLeaves
import Derived.Test.YtmfhpddeclggfaaGreatDoorWHg
import Derived.RangeFuncBox
import Derived.Shelf.Abstract
import Derived.Shelf.RegionOpen
import Derived.OwnWalkIn
import Derived.TacticsInMore
import Derived.LoopNIn
import Derived.LoopIn
import Derived.Maps.AppendAt
import Derived.Maps.OwnIn
import Derived.RegionIn
import Derived.BigRegionIn
import Derived.Stop.RegionWithIn
import Derived.WalkKit
import Derived.LoopTactic
import Derived.WalkSpells
import Derived.WalkLawsBesides
import Derived.Lib.Hide
import Derived.BigQuiet
import Derived.IntWalk
import Derived.Deep.DeepMust
import Derived.WalkSmall
import Derived.StillTailTactics
import Derived.Deep.RegionLaw
import Derived.Deep.QuietTactic
import Derived.Deep.Cut
import Derived.Deep.DeepCutAuto
import Derived.Deep.LoopGhost
import Derived.Laws.AppendOwn
namespace Go.Proofs.YtmfhpddeclggfaaGreatDoor
open Go.RowKit
/-! The reference's restored lines: plain. -/
open Go.Shelf
/-- What pieces show together. -/
def ovO (ts : List ByteArray) : Option ByteArray := if ts = [] then none else if sameSz ts = true then if (List.range (ts.getD 0 ByteArray.empty).size).all (fun k => oneB (colOf ts k)) = true then some (bs ((List.range (ts.getD 0 ByteArray.empty).size).map fun k => lastB (colOf ts k))) else none else none
def ovS (o : Option ByteArray) : ByteArray := o.getD ⟨#[]⟩
theorem ovRes_eq (ts : List ByteArray) : ovRes ts = .tuple #[.string (ovS (ovO ts)), .bool (ovO ts).isSome] := by
  unfold ovRes ovO ovVal ovS
  split
  · rfl
  · split
    · split <;> rfl
    · rfl
theorem ovS_size (ts : List ByteArray) (M : Nat) (h : ∀ j, j < ts.length → (ts.getD j ByteArray.empty).size ≤ M) : (ovS (ovO ts)).size ≤ M := by
  unfold ovO ovS
  split
  · exact Nat.zero_le _
  · rename_i h0
    split
    · split
      · have : (bs ((List.range (ts.getD 0 ByteArray.empty).size).map fun k => lastB (colOf ts k))).size = (ts.getD 0 ByteArray.empty).size := by rw [bs_size, List.length_map, List.length_range]
        rw [Option.getD_some, this]
        exact h 0 (List.length_pos_iff.2 h0)
      · exact Nat.zero_le _
    · exact Nat.zero_le _
/-- The line that pieces of one length show together, and their copies. -/
def rs1 (n : Int) (c : List ByteArray × List Int) : List (List ByteArray × List Int) := if (ovO c.1).isSome = true ∧ readErr (ovS (ovO c.1)) = 0 ∧ rdn (ovS (ovO c.1)) = n then [(rdw (ovS (ovO c.1)), c.2)] else []
/-- A piece more: if no piece of its length was seen. -/
def stT (n : Int) (ss : List SS) (a : List (List ByteArray × List Int) × List Int) (x : ByteArray) : List (List ByteArray × List Int) × List Int := if spk x.data.toList = some n ∧ ¬ (x.size : Int) ∈ a.2 then (a.1 ++ rs1 n (ofC n x.size ss ss.length), a.2 ++ [(x.size : Int)]) else a
def rsP (n : Int) (ss : List SS) (a : List (List ByteArray × List Int) × List Int) (os : List ByteArray) : List (List ByteArray × List Int) × List Int := os.foldl (stT n ss) a
/-- The restored lines of a number, of the pieces of the first k copies, and the lengths that were seen. -/
def rsC (n : Int) (ss : List SS) : Nat → List (List ByteArray × List Int) × List Int
  | 0 => ([], [])
  | k + 1 => rsP n ss (rsC n ss k) (ss.getD k default).os
theorem rsP_snoc (n : Int) (ss : List SS) (a : List (List ByteArray × List Int) × List Int) (os : List ByteArray) (k : Nat) (h : k < os.length) : rsP n ss a (os.take (k + 1)) = stT n ss (rsP n ss a (os.take k)) (os.getD k ByteArray.empty) := by
  unfold rsP
  rw [List.take_succ_eq_append_getElem h, List.foldl_append, List.getD, List.getElem?_eq_getElem h]
  rfl
theorem rs1_len (n : Int) (c : List ByteArray × List Int) : (rs1 n c).length ≤ 1 := by unfold rs1; split <;> simp
theorem stT_len (n : Int) (ss : List SS) (a : List (List ByteArray × List Int) × List Int) (x : ByteArray) : (stT n ss a x).1.length ≤ a.1.length + 1 ∧ (stT n ss a x).2.length ≤ a.2.length + 1 := by
  unfold stT
  split
  · have := rs1_len n (ofC n x.size ss ss.length)
    simp only [List.length_append, List.length_cons, List.length_nil]
    omega
  · exact ⟨Nat.le_succ _, Nat.le_succ _⟩
theorem rsP_len (n : Int) (ss : List SS) : ∀ (os : List ByteArray) (a : List (List ByteArray × List Int) × List Int), (rsP n ss a os).1.length ≤ a.1.length + os.length ∧ (rsP n ss a os).2.length ≤ a.2.length + os.length
  | [], _ => ⟨Nat.le_refl _, Nat.le_refl _⟩
  | x :: os, a => by
    have h1 := stT_len n ss a x
    have h2 := rsP_len n ss os (stT n ss a x)
    have e : rsP n ss a (x :: os) = rsP n ss (stT n ss a x) os := rfl
    rw [e, List.length_cons]
    omega
theorem rsC_len (n : Int) (ss : List SS) (M : Nat) (h : ∀ j, (ss.getD j default).os.length ≤ M) : ∀ k, (rsC n ss k).1.length ≤ k * M ∧ (rsC n ss k).2.length ≤ k * M
  | 0 => ⟨Nat.zero_le _, Nat.zero_le _⟩
  | k + 1 => by
    have h1 := rsC_len n ss M h k
    have h2 := rsP_len n ss (ss.getD k default).os (rsC n ss k)
    have h3 := h k
    rw [rsC, Nat.succ_mul]; omega
theorem ofP_size (n : Int) (len : Nat) (i : Int) : ∀ (os : List ByteArray) (a : List ByteArray × List Int), (∀ y ∈ a.1, y.size = len) → ∀ y ∈ (ofP n len i a os).1, y.size = len
  | [], _, h => h
  | x :: os, a, h => by
    have e : ofP n len i a (x :: os) = ofP n len i (stO n len i a x) os := rfl
    rw [e]
    refine ofP_size n len i os _ (fun y hy => ?_)
    unfold stO at hy
    split at hy
    · rename_i hb
      rcases List.mem_append.1 hy with hy | hy
      · exact h y hy
      · rw [List.mem_singleton.1 hy]
        unfold ofB at hb
        exact eq_of_beq (Bool.and_eq_true _ _ |>.mp hb).2
    · exact h y hy
theorem ofC_size (n : Int) (len : Nat) (ss : List SS) : ∀ k, ∀ y ∈ (ofC n len ss k).1, y.size = len
  | 0 => fun y hy => by cases hy
  | k + 1 => ofP_size n len k _ _ (ofC_size n len ss k)
theorem take_mem_snoc (zs : List Int) (z : Int) {k : Nat} (hk : k < zs.length) : decide (z ∈ zs.take (k + 1)) = (decide (z ∈ zs.take k) || (zs.getD k 0 == z)) := by
  rw [List.take_succ_eq_append_getElem hk, List.getD, List.getElem?_eq_getElem hk, Option.getD_some]
  rw [Bool.eq_iff_iff]
  simp only [decide_eq_true_eq, Bool.or_eq_true, List.mem_append, List.mem_singleton, beq_iff_eq]
  exact or_congr Iff.rfl eq_comm
end Go.Proofs.YtmfhpddeclggfaaGreatDoor
