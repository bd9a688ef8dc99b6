import Derived.Test.YtmfhpddeclggfaaGreatDoorSpeaks
import Derived.WalkKit
import Derived.LoopTactic
import Derived.WalkSpells
import Derived.WalkLawsBesides
import Derived.Lib.Hide
import Derived.BigQuiet
import Derived.IntWalk
import Derived.Deep.DeepMust
import Derived.WalkSmall
import Derived.StillTailTactics
import Derived.Lib.SlBytesConst
import Derived.Deep.RegionLaw
import Derived.Deep.QuietTactic
namespace Go.Proofs.YtmfhpddeclggfaaGreatDoor
open Go.RowKit
/-- What a slice of strings reads as. -/
def StrsAt (w : World) (p : Option Addr) (ws : List ByteArray) : Prop :=
  ws = [] ∨ ∃ b o, p = some ⟨b, o, none⟩ ∧ b < w.heap.size ∧ ∀ j, j < ws.length → w.cell? ⟨b, o + j, none⟩ = some (.string (ws.getD j ByteArray.empty))
theorem StrsAt.below {w w' : World} {p : Option Addr} {ws : List ByteArray} (h : StrsAt w p ws) (hb : Below w.heap.size w w') : StrsAt w' p ws := by
  rcases h with h | ⟨b, o, h1, h2, h3⟩
  · exact Or.inl h
  · exact Or.inr ⟨b, o, h1, by have := hb.size; omega, fun j hj => by rw [hb.cell (p := ⟨b, o + j, none⟩) h2]; exact h3 j hj⟩
def wordsOk (ws : List ByteArray) : Bool := ws.all fun s => wordL s.data.toList
/-- The first error of a line. -/
def lineErr (n : Int) (ws : List ByteArray) : Int :=
  if n < 1 ∨ 400 < n then 1 else if 40 < ws.length then 2 else if wordsOk ws then 0 else 10
theorem words_not (ws : List ByteArray) (j : Nat) (h : j < ws.length) (hw : wordL (ws.getD j ByteArray.empty).data.toList = false) : wordsOk ws = false := by
  unfold wordsOk
  rw [List.all_eq_false]
  refine ⟨ws[j], List.getElem_mem _, ?_⟩
  rw [List.getD, List.getElem?_eq_getElem h] at hw
  simpa using hw
theorem words_snoc (ws : List ByteArray) (j : Nat) (h : j < ws.length) (ha : wordsOk (ws.take j) = true) (hw : wordL (ws.getD j ByteArray.empty).data.toList = true) : wordsOk (ws.take (j + 1)) = true := by
  unfold wordsOk at ha ⊢
  rw [List.take_succ_eq_append_getElem h, List.all_append, ha]
  rw [List.getD, List.getElem?_eq_getElem h] at hw
  simpa using hw
set_option maxRecDepth 100000 in
set_option maxHeartbeats 1000000 in
theorem sCheckLine (n : Int) (p : Option Addr) (cap : Nat) (ws : List ByteArray) (w : World) (hl : ws.length ≤ maxLen) (hs : ∀ j, (ws.getD j ByteArray.empty).size ≤ maxLen) (hp : StrsAt w p ws) :
    Calls Tryz.prog 85 #[.agg #[.int .i64 n, .slice p ws.length cap]] w fun e w' => e = .returned (.int .i64 (lineErr n ws)) ∧ Below w.heap.size w w' := by
  have HS := Lib.hid hs
  have HP := Lib.hid hp
  clear hs hp
  unfold maxLen at hl
  by_cases h1 : n < 1
  · have HR : Hid (lineErr n ws = 1) := by unfold Hid lineErr; rw [if_pos (Or.inl h1)]
    go_enter Tryz.func85, Tryz.ntmps85
    go_wp2_with fail
    go_ret
    exact ⟨ret_int HR.out.symm, below_alloc1 _ _⟩
  by_cases h2 : 400 < n
  · have HR : Hid (lineErr n ws = 1) := by unfold Hid lineErr; rw [if_pos (Or.inr h2)]
    go_enter Tryz.func85, Tryz.ntmps85
    go_wp2_with fail
    go_ret
    exact ⟨ret_int HR.out.symm, below_alloc1 _ _⟩
  by_cases h3 : 40 < ws.length
  · have HR : Hid (lineErr n ws = 2) := by unfold Hid lineErr; rw [if_neg (by omega), if_pos h3]
    go_enter Tryz.func85, Tryz.ntmps85
    go_wp2_with fail
    go_ret
    exact ⟨ret_int HR.out.symm, below_alloc1 _ _⟩
  have HR : Hid (lineErr n ws = if wordsOk ws then 0 else 10) := by unfold Hid lineErr; rw [if_neg (by omega), if_neg h3]
  go_enter Tryz.func85, Tryz.ntmps85
  go_wp2_with fail
  go_loop [20] (fun i => ∃ k : Nat, k ≤ ws.length ∧ i = .int .i64 k ∧ Hid (wordsOk (ws.take k) = true)) (fun i => ws.length - (intOf i).toNat)
  case atStart => exact ⟨0, Nat.zero_le _, rfl, rfl⟩
  case round =>
    obtain ⟨k, hk, rfl, ha⟩ := hrel
    by_cases hlt : k < ws.length
    · obtain ⟨b, o, s, rfl, hb, hc, hs⟩ : ∃ b o s, p = some ⟨b, o, none⟩ ∧ b < w.heap.size ∧ w.cell? ⟨b, o + k, none⟩ = some (.string s) ∧ Hid (ws.getD k ByteArray.empty = s) := by
        rcases HP.out with h | ⟨b, o, e1, e2, e3⟩
        · rw [h] at hlt; exact absurd hlt (by simp)
        · exact ⟨b, o, _, e1, e2, e3 k hlt, rfl⟩
      have hz : Hid (s.size ≤ maxLen) := by have := HS.out k; rw [hs.out] at this; exact this
      cases hwd : wordL s.data.toList with
      | false =>
        have W := (Word_any s (w.alloc (.cells #[.int .i64 n, .slice (some ⟨b, o, none⟩) ws.length cap] 39)) hz.out)
        rw [hwd] at W
        have HW := Lib.hid W
        have hn : Hid (wordsOk ws = false) := words_not ws k hlt (by rw [hs.out]; exact hwd)
        clear W hwd
        go_wp2_with fail
        refine HW.out.mono ?_
        rintro e w' ⟨rfl, rfl⟩
        clear HW
        go_wp2_with fail
        go_ret
        exact ⟨ret_int (by rw [HR.out, hn.out]; rfl), below_alloc1 _ _⟩
      | true =>
        have W := (Word_any s (w.alloc (.cells #[.int .i64 n, .slice (some ⟨b, o, none⟩) ws.length cap] 39)) hz.out)
        rw [hwd] at W
        have HW := Lib.hid W
        have hn : Hid (wordsOk (ws.take (k + 1)) = true) := words_snoc ws k hlt ha.out (by rw [hs.out]; exact hwd)
        clear W hwd
        go_wp2_with fail
        refine HW.out.mono ?_
        rintro e w' ⟨rfl, rfl⟩
        clear HW
        go_wp2_with fail
        go_round
        case rel => exact ⟨k + 1, by omega, by go_num, hn⟩
        case measure => simp [intOf]; omega
    · obtain rfl : k = ws.length := by omega
      go_wp2_with fail
      go_ret
      refine ⟨ret_int ?_, below_alloc1 _ _⟩
      have := ha.out
      rw [List.take_length] at this
      rw [HR.out, this]; rfl
end Go.Proofs.YtmfhpddeclggfaaGreatDoor
