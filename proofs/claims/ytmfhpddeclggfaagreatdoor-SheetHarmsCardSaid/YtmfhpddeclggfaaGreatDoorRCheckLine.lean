import Derived.Test.YtmfhpddeclggfaaGreatDoorKg
import Derived.WalkKit
import Derived.LoopTactic
import Derived.WalkSpells
import Derived.WalkLawsBesides
import Derived.Lib.Hide
import Derived.BigQuiet
import Derived.IntWalk
import Derived.Deep.DeepMust
import Derived.WalkSmall
import Derived.StillTailTactics
import Derived.Lib.SlBytesConst
import Derived.Deep.RegionLaw
import Derived.Deep.QuietTactic
namespace Go.Proofs.YtmfhpddeclggfaaGreatDoor
open Go.RowKit
set_option maxRecDepth 100000 in
set_option maxHeartbeats 1000000 in
theorem rCheckLine (n : Int) (p : Option Addr) (cap : Nat) (ws : List ByteArray) (w : World) (hl : ws.length ≤ maxLen) (hs : ∀ j, (ws.getD j ByteArray.empty).size ≤ maxLen) (hp : StrsAt w p ws) :
    Calls Tryz.prog 90 #[.agg #[.int .i64 n, .slice p ws.length cap]] w fun e w' => e = .returned (.int .i64 (lineErr n ws)) ∧ Below w.heap.size w w' := by
  have HS := Lib.hid hs
  have HP := Lib.hid hp
  clear hs hp
  unfold maxLen at hl
  by_cases h1 : n < 1
  · have HR : Hid (lineErr n ws = 1) := by unfold Hid lineErr; rw [if_pos (Or.inl h1)]
    go_enter Tryz.func90, Tryz.ntmps90
    go_wp2_with fail
    refine (in_no n 1 400 _ (Or.inl h1)).mono ?_
    rintro e w' ⟨rfl, rfl⟩
    go_wp2_with fail
    go_ret
    exact ⟨ret_int HR.out.symm, below_alloc1 _ _⟩
  by_cases h2 : 400 < n
  · have HR : Hid (lineErr n ws = 1) := by unfold Hid lineErr; rw [if_pos (Or.inr h2)]
    go_enter Tryz.func90, Tryz.ntmps90
    go_wp2_with fail
    refine (in_no n 1 400 _ (Or.inr h2)).mono ?_
    rintro e w' ⟨rfl, rfl⟩
    go_wp2_with fail
    go_ret
    exact ⟨ret_int HR.out.symm, below_alloc1 _ _⟩
  by_cases h3 : 40 < ws.length
  · have HR : Hid (lineErr n ws = 2) := by unfold Hid lineErr; rw [if_neg (by omega), if_pos h3]
    go_enter Tryz.func90, Tryz.ntmps90
    go_wp2_with fail
    refine (in_yes n 1 400 _ (by omega) (by omega)).mono ?_
    rintro e w' ⟨rfl, rfl⟩
    go_wp2_with fail
    go_ret
    exact ⟨ret_int HR.out.symm, below_alloc1 _ _⟩
  have HR : Hid (lineErr n ws = if wordsOk ws then 0 else 10) := by unfold Hid lineErr; rw [if_neg (by omega), if_neg h3]
  go_enter Tryz.func90, Tryz.ntmps90
  go_wp2_with fail
  refine (in_yes n 1 400 _ (by omega) (by omega)).mono ?_
  rintro e w' ⟨rfl, rfl⟩
  go_wp2_with fail
  go_loop [3] (fun i => ∃ k : Nat, k ≤ ws.length ∧ i = .int .i64 k ∧ Hid (wordsOk (ws.take k) = true)) (fun i => ws.length - (intOf i).toNat)
  case atStart => exact ⟨0, Nat.zero_le _, rfl, rfl⟩
  case round =>
    obtain ⟨k, hk, rfl, ha⟩ := hrel
    by_cases hlt : k < ws.length
    · obtain ⟨b, o, s, rfl, hb, hc, hs⟩ : ∃ b o s, p = some ⟨b, o, none⟩ ∧ b < w.heap.size ∧ w.cell? ⟨b, o + k, none⟩ = some (.string s) ∧ Hid (ws.getD k ByteArray.empty = s) := by
        rcases HP.out with h | ⟨b, o, e1, e2, e3⟩
        · rw [h] at hlt; exact absurd hlt (by simp)
        · exact ⟨b, o, _, e1, e2, e3 k hlt, rfl⟩
      have hz : Hid (s.size ≤ maxLen) := by have := HS.out k; rw [hs.out] at this; exact this
      cases hwd : wordL s.data.toList with
      | false =>
        have W := (rWord s (w.alloc (.cells #[.int .i64 n, .slice (some ⟨b, o, none⟩) ws.length cap] 39)) hz.out)
        rw [hwd] at W
        have HW := Lib.hid W
        have hn : Hid (wordsOk ws = false) := words_not ws k hlt (by rw [hs.out]; exact hwd)
        clear W hwd
        go_wp2_with fail
        refine HW.out.mono ?_
        rintro e w' ⟨rfl, rfl⟩
        clear HW
        go_wp2_with fail
        go_ret
        exact ⟨ret_int (by rw [HR.out, hn.out]; rfl), below_alloc1 _ _⟩
      | true =>
        have W := (rWord s (w.alloc (.cells #[.int .i64 n, .slice (some ⟨b, o, none⟩) ws.length cap] 39)) hz.out)
        rw [hwd] at W
        have HW := Lib.hid W
        have hn : Hid (wordsOk (ws.take (k + 1)) = true) := words_snoc ws k hlt ha.out (by rw [hs.out]; exact hwd)
        clear W hwd
        go_wp2_with fail
        refine HW.out.mono ?_
        rintro e w' ⟨rfl, rfl⟩
        clear HW
        go_wp2_with fail
        go_round
        case rel => exact ⟨k + 1, by omega, by go_num, hn⟩
        case measure => simp [intOf]; omega
    · obtain rfl : k = ws.length := by omega
      go_wp2_with fail
      go_ret
      refine ⟨ret_int ?_, below_alloc1 _ _⟩
      have := ha.out
      rw [List.take_length] at this
      rw [HR.out, this]; rfl
end Go.Proofs.YtmfhpddeclggfaaGreatDoor
