import Derived.Test.YtmfhpddeclggfaaGreatDoorText2
import Derived.WalkKit
import Derived.LoopTactic
import Derived.WalkSpells
import Derived.WalkLawsBesides
import Derived.Lib.Hide
import Derived.BigQuiet
import Derived.IntWalk
import Derived.WalkSmall
import Derived.StillTailTactics
import Derived.Lib.SlBytesConst
import Derived.Deep.RegionLaw
import Derived.Deep.QuietTactic
namespace Go.Proofs.YtmfhpddeclggfaaGreatDoor
open Go.RowKit
def wb (c : Int) : Bool := decide (33 ≤ c ∧ c ≤ 126 ∧ c ≠ 63 ∧ c ≠ 64)
set_option maxHeartbeats 400000 in
theorem wordByte_any (c : Int) (w : World) :
   Calls Tryz.prog 82 #[.int .u8 c] w fun e w' => e = .returned (.bool (wb c)) ∧ w = w' := by
  go_enter Tryz.func82, Tryz.ntmps82
  go_wp2
  all_goals (go_ret; refine ⟨ret_bool ?_, rfl⟩; unfold wb; rw [Bool.eq_iff_iff]; simp; try omega)
def wordL (l : List UInt8) : Bool := decide (1 ≤ l.length ∧ l.length ≤ 120) && l.all fun c => wb c.toNat
theorem all_snoc (s : ByteArray) (k : Nat) (h : k < s.size) (p : UInt8 → Bool) (ha : (s.data.toList.take k).all p = true) (hp : p s[k] = true) : (s.data.toList.take (k + 1)).all p = true := by
  rw [take_snoc s k h, List.all_append, ha]; simp [hp]
theorem all_not (s : ByteArray) (k : Nat) (h : k < s.size) (p : UInt8 → Bool) (hp : p s[k] = false) : s.data.toList.all p = false := by
  rw [List.all_eq_false]
  exact ⟨s[k], by rw [show s[k] = s.data.toList[k]'(by simpa using h) from rfl]; exact List.getElem_mem _, by simp [hp]⟩
theorem wordL_bad (s : ByteArray) (h : ¬ (1 ≤ s.size ∧ s.size ≤ 120)) : wordL s.data.toList = false := by
  simp [wordL]; omega
theorem wordL_not (s : ByteArray) (k : Nat) (h : k < s.size) (hp : wb s[k].toNat = false) : wordL s.data.toList = false := by
  unfold wordL; rw [all_not s k h (fun c => wb c.toNat) hp]; simp
theorem wordL_yes (s : ByteArray) (h1 : 1 ≤ s.size) (h2 : s.size ≤ 120) (ha : (s.data.toList.take s.size).all (fun c => wb c.toNat) = true) : wordL s.data.toList = true := by
  rw [List.take_of_length_le (by simp)] at ha
  unfold wordL; rw [ha]; simp; omega
set_option maxHeartbeats 400000 in
theorem Word_any (s : ByteArray) (w : World) (hs : s.size ≤ maxLen) :
   Calls Tryz.prog 26 #[.string s] w fun e w' => e = .returned (.bool (wordL s.data.toList)) ∧ w = w' := by
  unfold maxLen at hs
  by_cases h1 : s.size < 1
  · go_enter Tryz.func26, Tryz.ntmps26
    go_wp2
    go_ret
    exact ⟨ret_bool (wordL_bad s (by omega)).symm, rfl⟩
  by_cases h2 : 120 < s.size
  · go_enter Tryz.func26, Tryz.ntmps26
    go_wp2
    go_ret
    exact ⟨ret_bool (wordL_bad s (by omega)).symm, rfl⟩
  · go_enter Tryz.func26, Tryz.ntmps26
    go_wp2_with (go_at_call 82; refine (wordByte_any _ _).mono ?_; rintro e w' ⟨rfl, rfl⟩)
    go_loop [14] (fun i => ∃ k : Nat, k ≤ s.size ∧ i = .int .i64 k ∧ Hid ((s.data.toList.take k).all (fun c => wb c.toNat) = true)) (fun i => s.size - (intOf i).toNat)
    case atStart => exact ⟨0, Nat.zero_le _, rfl, by simp [Hid]⟩
    case round =>
      obtain ⟨k, hk, rfl, hall⟩ := hrel
      by_cases hlt : k < s.size
      · go_wp2_with (go_at_call 82; refine (wordByte_any _ _).mono ?_; rintro e w' ⟨rfl, rfl⟩)
        · go_ret
          have hb : (!wb s[k].toNat) = true := by assumption
          exact ⟨ret_bool (wordL_not s k hlt (by simpa using hb)).symm, rfl⟩
        · have hb : (!wb s[k].toNat) = false := by assumption
          go_round
          case rel => exact ⟨k + 1, by omega, by go_num, all_snoc s k hlt _ hall (by simpa using hb)⟩
          case measure => simp [intOf]; omega
      · go_wp2
        go_ret
        obtain rfl : k = s.size := by omega
        exact ⟨ret_bool (wordL_yes s (by omega) (by omega) hall).symm, rfl⟩

theorem wb_byte (c : UInt8) : wb c.toNat = decide (33 ≤ c.toNat ∧ c.toNat ≤ 126 ∧ c.toNat ≠ 63 ∧ c.toNat ≠ 64) := by
  unfold wb; rw [Bool.eq_iff_iff]; simp; omega
set_option maxRecDepth 100000 in
set_option maxHeartbeats 400000 in
theorem rWord (s : ByteArray) (w : World) (hs : s.size ≤ maxLen) :
   Calls Tryz.prog 27 #[.string s] w fun e w' => e = .returned (.bool (wordL s.data.toList)) ∧ w = w' := by
  unfold maxLen at hs
  by_cases h12 : 1 ≤ s.size ∧ s.size ≤ 120
  · obtain ⟨h1, h2⟩ := h12
    clear hs
    go_enter Tryz.func27, Tryz.ntmps27
    go_wp2_with (go_at_call 77; refine (in_yes _ _ _ _ (by omega) (by omega)).mono ?_; rintro e w' ⟨rfl, rfl⟩)
    go_loop [3] (fun i => ∃ k : Nat, k ≤ s.size ∧ i = .int .i64 k ∧ Hid ((s.data.toList.take k).all (fun c => wb c.toNat) = true)) (fun i => s.size - (intOf i).toNat)
    case atStart => exact ⟨0, Nat.zero_le _, rfl, by simp [Hid]⟩
    case round =>
      obtain ⟨k, hk, rfl, hall⟩ := hrel
      by_cases hlt : k < s.size
      · have q0 : wrap64 (s[k].toNat : Int) = s[k].toNat := wrap_byte _
        go_wp2_with (go_at_call 77; refine (in_any _ _ _ _).mono ?_; rintro e w' ⟨rfl, rfl⟩)
        · go_ret
          refine ⟨ret_bool (wordL_not s k hlt ?_).symm, rfl⟩
          have h : (s[k].toNat : Int) = 63 := by assumption
          rw [h]; rfl
        · go_ret
          refine ⟨ret_bool (wordL_not s k hlt ?_).symm, rfl⟩
          have h : ((s[k].toNat : Int) == 63) = true ∨ ((s[k].toNat : Int) == 64) = true := by assumption
          unfold wb
          simp at h
          simp
          omega
        · have h : ((s[k].toNat : Int) == 63) = false ∧ ((s[k].toNat : Int) == 64) = false := by assumption
          have h2 : 33 ≤ (s[k].toNat : Int) ∧ (s[k].toNat : Int) ≤ 126 := by assumption
          have hb : wb s[k].toNat = true := by
            unfold wb
            simp at h
            simp
            omega
          go_round
          case rel => exact ⟨k + 1, by omega, by go_num, all_snoc s k hlt _ hall hb⟩
          case measure => simp [intOf]; omega
        · go_ret
          refine ⟨ret_bool (wordL_not s k hlt ?_).symm, rfl⟩
          have h : ¬(33 ≤ (s[k].toNat : Int) ∧ (s[k].toNat : Int) ≤ 126) := by assumption
          unfold wb
          simp
          omega
      · go_wp2
        go_ret
        obtain rfl : k = s.size := by omega
        exact ⟨ret_bool (wordL_yes s (by omega) (by omega) hall).symm, rfl⟩
  · go_enter Tryz.func27, Tryz.ntmps27
    go_wp2_with (go_at_call 77; refine (in_no _ _ _ _ (by omega)).mono ?_; rintro e w' ⟨rfl, rfl⟩)
    go_ret
    exact ⟨ret_bool (wordL_bad s h12).symm, rfl⟩
end Go.Proofs.YtmfhpddeclggfaaGreatDoor
