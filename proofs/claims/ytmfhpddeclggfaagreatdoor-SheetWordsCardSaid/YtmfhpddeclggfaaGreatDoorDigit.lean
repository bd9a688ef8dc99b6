import Derived.Test.YtmfhpddeclggfaaGreatDoorWord
import Derived.WalkKit
import Derived.LoopTactic
import Derived.WalkSpells
import Derived.WalkLawsBesides
import Derived.Lib.Hide
import Derived.BigQuiet
import Derived.IntWalk
import Derived.WalkSmall
import Derived.StillTailTactics
import Derived.Lib.SlBytesConst
import Derived.Deep.RegionLaw
import Derived.Deep.QuietTactic
namespace Go.Proofs.YtmfhpddeclggfaaGreatDoor
open Go.RowKit
/-- The number of a digit of 0123456789abcdef; -1 if it is none. -/
def dgI (c : UInt8) : Int := Lib.indexByte hexs.data.toList c
theorem dgI_fin : ∀ c : Fin 256, dgI (UInt8.ofNat c.val) = -1 ∨ (0 ≤ dgI (UInt8.ofNat c.val) ∧ dgI (UInt8.ofNat c.val) < 16 ∧ hx (dgI (UInt8.ofNat c.val)).toNat = UInt8.ofNat c.val) := by decide +kernel
theorem dgI_cases (c : UInt8) : dgI c = -1 ∨ (0 ≤ dgI c ∧ dgI c < 16 ∧ hx (dgI c).toNat = c) := by
  have := dgI_fin ⟨c.toNat, c.toNat_lt⟩
  simpa using this
theorem dgI_hx_fin : ∀ k : Fin 16, dgI (hx k.val) = k.val := by decide +kernel
theorem dgI_hx (k : Nat) (h : k < 16) : dgI (hx k) = k := dgI_hx_fin ⟨k, h⟩
theorem enc_eq_fin : ∀ k : Fin 16, ∀ c : Fin 256, (bs [hx k.val]).data.toList = (Utf8.encode ((c.val : Nat) : Int)).data.toList ↔ hx k.val = UInt8.ofNat c.val := by decide +kernel
theorem enc_eq (k : Nat) (h : k < 16) (c : UInt8) : (bs [hx k]).data.toList = (Utf8.encode (c.toNat : Int)).data.toList ↔ hx k = c := by
  have := enc_eq_fin ⟨k, h⟩ ⟨c.toNat, c.toNat_lt⟩
  simpa using this
set_option maxRecDepth 100000 in
set_option maxHeartbeats 400000 in
theorem digit_any (c : UInt8) (z : Int) (hz : z = c.toNat) (w : World) :
    Calls Tryz.prog 81 #[.int .u8 z] w fun e w' => e = .returned (.int .i64 (dgI c)) ∧ w' = w := by
  subst hz
  go_enter Tryz.func81, Tryz.ntmps81
  go_wp2
  go_loop [3] (fun i => ∃ k : Nat, k ≤ 16 ∧ i = .int .i64 k ∧ Hid (∀ j, j < k → hx j ≠ c)) (fun i => 16 - (intOf i).toNat)
  case atStart => exact ⟨0, Nat.zero_le _, rfl, by intro j hj; omega⟩
  case round =>
    obtain ⟨k, hk, rfl, hno⟩ := hrel
    have q0 : wrap32 (c.toNat : Int) = c.toNat := by have := c.toNat_lt; unfold wrap32; omega
    by_cases hlt : k < 16
    · by_cases he : hx k = c
      · have e2 : ((bs [hx k]).toList == (Utf8.encode (c.toNat : Int)).toList) = true := str_beq_true ((enc_eq k hlt c).2 he)
        have HE := Lib.hid he
        clear he
        go_wp2_with (go_at_call 78; refine (hex_any _ k _ rfl hlt).mono ?_; rintro e w' ⟨rfl, rfl⟩)
        go_ret
        exact ⟨ret_int (by rw [← HE.out, dgI_hx k hlt]), rfl⟩
      · have e2 : ((bs [hx k]).toList == (Utf8.encode (c.toNat : Int)).toList) = false := str_beq_false (fun e => he ((enc_eq k hlt c).1 e))
        have HE := Lib.hid he
        clear he
        go_wp2_with (go_at_call 78; refine (hex_any _ k _ rfl hlt).mono ?_; rintro e w' ⟨rfl, rfl⟩)
        go_round
        case rel =>
          refine ⟨k + 1, by omega, by go_num, fun j hj => ?_⟩
          by_cases e : j = k
          · rw [e]; exact HE.out
          · exact hno.out j (by omega)
        case measure => simp [intOf]; omega
    · obtain rfl : k = 16 := by omega
      go_wp2
      go_ret
      refine ⟨ret_int ?_, rfl⟩
      rcases dgI_cases c with h | ⟨h0, h1, h2⟩
      · exact h.symm
      · exact absurd h2 (hno.out _ (by omega))
end Go.Proofs.YtmfhpddeclggfaaGreatDoor
