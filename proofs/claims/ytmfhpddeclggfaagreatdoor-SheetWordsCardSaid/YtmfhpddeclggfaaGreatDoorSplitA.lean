import Derived.Test.YtmfhpddeclggfaaGreatDoorWrite
import Derived.WalkKit
import Derived.LoopTactic
import Derived.WalkSpells
import Derived.WalkLawsBesides
import Derived.Lib.Hide
import Derived.BigQuiet
import Derived.IntWalk
import Derived.Deep.DeepMust
import Derived.WalkSmall
import Derived.StillTailTactics
import Derived.Lib.SlBytesConst
import Derived.Deep.RegionLaw
import Derived.Deep.QuietTactic
namespace Go.Proofs.YtmfhpddeclggfaaGreatDoor
open Go.RowKit
theorem sWithout (s : ByteArray) (w : World) (h4 : 4 ≤ s.size) (hs : s.size ≤ maxLen) :
    Calls Tryz.prog 94 #[.string s] w fun e w' => e = .returned (.string (s.extract 0 (s.size - 4))) ∧ w = w' := by
  unfold maxLen at hs
  have hw : Int.toNat ((s.size : Int) - 4) = s.size - 4 := by omega
  go_enter Tryz.func94, Tryz.ntmps94
  go_wp2
  go_ret
  exact ⟨rfl, rfl⟩
/-- The parts of a text at its blanks, at most 42 of them. -/
def partsOf (b : ByteArray) : List ByteArray := Lib.splitB ⟨#[32]⟩ 0 (min 42 (b.size + 1) - 1) b
theorem partsOf_pos (b : ByteArray) : 1 ≤ (partsOf b).length := by
  unfold partsOf
  cases (min 42 (b.size + 1) - 1) with
  | zero => simp [Lib.splitB]
  | succ k => unfold Lib.splitB; split <;> simp
theorem cellsOf_at (l : List ByteArray) (N j : Nat) (h : j < l.length) : (Lib.cellsOf l N)[j]? = some (.string (l.getD j ByteArray.empty)) := by
  unfold Lib.cellsOf
  rw [List.getElem?_toArray, List.getElem?_append_left (by simpa using h), List.getElem?_map, List.getElem?_eq_getElem h, List.getD, List.getElem?_eq_getElem h]
  rfl
theorem sSplitN (b : ByteArray) (w : World) (hs : b.size ≤ 1000000) (he : Env w) :
    Calls Tryz.prog 132 #[.string b, .string ⟨#[32]⟩, .int .i64 42] w fun e w' => e = .returned (.slice (some ⟨w.heap.size, 0, none⟩) (partsOf b).length (min 42 (b.size + 1))) ∧ Below w.heap.size w w' ∧ w.heap.size < w'.heap.size ∧ (partsOf b).length ≤ min 42 (b.size + 1) ∧
      ∀ j, j < (partsOf b).length → w'.cell? ⟨w.heap.size, j, none⟩ = some (.string ((partsOf b).getD j ByteArray.empty)) := by
  obtain ⟨m, hm⟩ := he.mx
  refine (Tryz.strings_SplitN b ⟨#[32]⟩ 42 m w (by omega) hm (by decide) (by decide) (by decide)).mono ?_
  rintro e w' ⟨rfl, rfl⟩
  refine ⟨rfl, below_alloc1 _ _, by simp, ?_, fun j hj => ?_⟩
  · have := Lib.splitB_length_le ⟨#[32]⟩ 0 (min 42 (b.size + 1) - 1) b
    unfold partsOf
    omega
  · have := cellsOf_at (partsOf b) (min 42 (b.size + 1)) j hj
    have h2 := cells_new w (Lib.cellsOf (partsOf b) (min 42 (b.size + 1))) 9 j _ (by rw [Array.getElem?_toList]; exact this)
    rw [show (⟨w.heap.size, 0, none⟩ : Addr).add j = ⟨w.heap.size, j, none⟩ from by simp [Addr.add]; omega] at h2
    exact h2

def bodyOf (s : ByteArray) : ByteArray := s.extract 0 (s.size - 4)
def trimmed (s : ByteArray) : ByteArray := ⟨(Lib.trimSuffix (bodyOf s).data.toList [32]).toArray⟩
def hasSp (s : ByteArray) : Bool := Lib.hasSuffix (bodyOf s).data.toList [32]
def mkOk (l : List UInt8) : Bool := Lib.hasPrefix l [64] && (rdInt (mk64 l)).isSome
def mkN (l : List UInt8) : Int := (rdInt (mk64 l)).getD 0
def partN (s : ByteArray) (j : Nat) : ByteArray := (partsOf (trimmed s)).getD j ByteArray.empty
def splitOk (s : ByteArray) : Bool := decide (4 ≤ s.size) && (hasSp s && (decide (2 ≤ (partsOf (trimmed s)).length) && mkOk (partN s 0).data.toList))
def lineN (s : ByteArray) : Int := mkN (partN s 0).data.toList
def lineWs (s : ByteArray) : List ByteArray := (partsOf (trimmed s)).drop 2
theorem trimmed_size (s : ByteArray) : (trimmed s).size ≤ s.size := by
  have h : (trimmed s).size = (Lib.trimSuffix (bodyOf s).data.toList [32]).length := by simp [trimmed, ByteArray.size]
  have h2 : (bodyOf s).data.toList.length ≤ s.size := by
    have : (bodyOf s).data.toList.length = (bodyOf s).size := by simp
    rw [this, bodyOf, ByteArray.size_extract]; omega
  rw [h]
  unfold Lib.trimSuffix
  split
  · rw [List.length_take]; omega
  · exact h2
theorem splitB_size (sep : ByteArray) (save : Nat) : ∀ (k : Nat) (s : ByteArray), ∀ p ∈ Lib.splitB sep save k s, p.size ≤ s.size
  | 0, s => by simp [Lib.splitB]
  | k + 1, s => by
    unfold Lib.splitB
    split
    · simp
    · intro p hp
      rcases List.mem_cons.1 hp with h | h
      · rw [h, ByteArray.size_extract]; omega
      · have := splitB_size sep save k _ p h
        rw [ByteArray.size_extract] at this; omega
theorem partN_size (s : ByteArray) (j : Nat) : (partN s j).size ≤ s.size := by
  unfold partN
  rw [List.getD]
  cases h : (partsOf (trimmed s))[j]? with
  | none => simp
  | some p => exact Nat.le_trans (splitB_size _ _ _ _ p (List.mem_of_getElem? h)) (trimmed_size s)
end Go.Proofs.YtmfhpddeclggfaaGreatDoor
