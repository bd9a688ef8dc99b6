import Derived.Test.YtdefpcjlbganpaaTurns
import Derived.WalkKit
import Derived.LoopTactic
import Derived.WalkSpells
import Derived.WalkLawsBesides
import Derived.Lib.Hide
import Derived.BigQuiet
import Derived.IntWalk
import Derived.Deep.DeepMust
import Derived.WalkSmall
import Derived.StillTailTactics
import Derived.Deep.RegionLaw
import Derived.Deep.RegionHeld3
import Derived.Deep.QuietTactic
namespace Go.Proofs.Ytdefpcjlbganpaa
open Go.RowKit
/-- The greatest root, bit after bit. -/
def rt (n : Int) : Nat → Int → Int
  | 0, r => r
  | k + 1, r => rt n k (if (r + 2 ^ k) * (r + 2 ^ k) ≤ n then r + 2 ^ k else r)
theorem tdiv_sq (n M : Int) (hM : 0 < M) : M ≤ n.tdiv M ↔ M * M ≤ n := by
  by_cases hn : 0 ≤ n
  · rw [Int.tdiv_eq_ediv_of_nonneg hn, Int.le_ediv_iff_mul_le hM]
  · have h1 : n.tdiv M = -((-n).tdiv M) := by rw [Int.neg_tdiv]; omega
    have h2 : 0 ≤ (-n).tdiv M := Int.tdiv_nonneg (by omega) (by omega)
    have h3 : 0 < M * M := Int.mul_pos hM hM
    omega
theorem half_pow (k : Nat) : (2 : Int) ^ k / 2 = if k = 0 then 0 else 2 ^ (k - 1) := by
  cases k with
  | zero => rfl
  | succ k => rw [Int.pow_succ]; simp
theorem half_lt {B : Int} (h : 0 < B) : (B / 2).toNat < B.toNat := by omega
set_option maxHeartbeats 1000000 in
theorem Root_any (n : Int) (w : World) (hn : -9223372036854775808 ≤ n ∧ n ≤ 9223372036854775807) :
   Calls Try.prog 23 #[.int .i64 n] w fun e w' => e = .returned (.int .i64 (rt n 32 0)) ∧ w = w' := by
  go_enter Try.func23, Try.ntmps23
  go_wp2_with fail
  go_loopw [3, 4] (fun r b wr => ∃ (k : Nat) (rr : Int), k ≤ 32 ∧ 0 ≤ rr ∧ rr ≤ 4294967296 - 2 ^ k ∧ r = .int .i64 rr ∧ b = .int .i64 (if k = 0 then 0 else 2 ^ (k - 1)) ∧ rt n 32 0 = rt n k rr ∧ w = wr) (fun r b wr => (intOf b).toNat)
  case atStart => exact ⟨32, 0, by decide, by decide, by decide, rfl, rfl, rfl, rfl⟩
  case round =>
    obtain ⟨k, rr, hk, h0, h1, rfl, rfl, hr, rfl⟩ := hrel
    cases k with
    | zero =>
      have HR := Lib.hid hr
      clear hr
      go_wp2_with fail
      go_ret
      exact ⟨ret_int HR.out.symm, rfl⟩
    | succ k =>
      have hp : (2 : Int) ^ (k + 1) = 2 * 2 ^ k := by rw [Int.pow_succ]; omega
      have hp0 : (0 : Int) < 2 ^ k := Int.pow_pos (by decide)
      obtain ⟨B, hB⟩ : ∃ B : Int, (2 : Int) ^ k = B := ⟨_, rfl⟩
      rw [hB] at hp0 hp
      simp only [Nat.succ_ne_zero, if_false, Nat.add_sub_cancel, hB]
      have hB1 : rr + B ≤ 4294967296 := by omega
      have hw : wrap64 (rr + B) = rr + B := w64 (by omega)
      have hT := Lib.hid (tdiv_sq n (rr + B) (by omega))
      have HH := Lib.hid (And.intro hr (And.intro hp (And.intro hB h1)))
      clear hr hp hB h1
      go_wp2_with fail
      · go_roundw
        case rel =>
          obtain ⟨hr, hp, hB, h1⟩ := HH.out
          have ht : (rr + B) * (rr + B) ≤ n := hT.out.1 (by assumption)
          exact ⟨k, rr + B, by omega, by omega, by omega, rfl, by rw [← hB, half_pow], by rw [hr, rt, hB, if_pos ht], trivial⟩
        case measure => exact half_lt hp0
      · go_roundw
        case rel =>
          obtain ⟨hr, hp, hB, h1⟩ := HH.out
          have ht : ¬ (rr + B) * (rr + B) ≤ n := fun h => by have := hT.out.2 h; omega
          exact ⟨k, rr, by omega, by omega, by omega, rfl, by rw [← hB, half_pow], by rw [hr, rt, hB, if_neg ht], trivial⟩
        case measure => exact half_lt hp0
set_option maxHeartbeats 1000000 in
theorem rRoot_any (n : Int) (w : World) (hn : -9223372036854775808 ≤ n ∧ n ≤ 9223372036854775807) :
   Calls Try.prog 24 #[.int .i64 n] w fun e w' => e = .returned (.int .i64 (rt n 32 0)) ∧ w = w' := by
  go_enter Try.func24, Try.ntmps24
  go_wp2_with fail
  go_loopw [3, 4] (fun r b wr => ∃ (k : Nat) (rr : Int), k ≤ 32 ∧ 0 ≤ rr ∧ rr ≤ 4294967296 - 2 ^ k ∧ r = .int .i64 rr ∧ b = .int .i64 (if k = 0 then 0 else 2 ^ (k - 1)) ∧ rt n 32 0 = rt n k rr ∧ w = wr) (fun r b wr => (intOf b).toNat)
  case atStart => exact ⟨32, 0, by decide, by decide, by decide, rfl, rfl, rfl, rfl⟩
  case round =>
    obtain ⟨k, rr, hk, h0, h1, rfl, rfl, hr, rfl⟩ := hrel
    cases k with
    | zero =>
      have HR := Lib.hid hr
      clear hr
      go_wp2_with fail
      go_ret
      exact ⟨ret_int HR.out.symm, rfl⟩
    | succ k =>
      have hp : (2 : Int) ^ (k + 1) = 2 * 2 ^ k := by rw [Int.pow_succ]; omega
      have hp0 : (0 : Int) < 2 ^ k := Int.pow_pos (by decide)
      obtain ⟨B, hB⟩ : ∃ B : Int, (2 : Int) ^ k = B := ⟨_, rfl⟩
      rw [hB] at hp0 hp
      simp only [Nat.succ_ne_zero, if_false, Nat.add_sub_cancel, hB]
      have hB1 : rr + B ≤ 4294967296 := by omega
      have hw : wrap64 (rr + B) = rr + B := w64 (by omega)
      have hd : B.tdiv 2 = B / 2 := Int.tdiv_eq_ediv_of_nonneg (by omega)
      have HH := Lib.hid (And.intro hr (And.intro hp (And.intro hB (And.intro h1 hn))))
      clear hr hp hB h1 hn
      by_cases hc : rr + B ≤ 3037000499
      · have hm := mul_abs (u := rr + B) (v := rr + B) (A := 3037000499) (B := 3037000499) (by omega) (by omega)
        have hw2 : wrap64 ((rr + B) * (rr + B)) = (rr + B) * (rr + B) := w64 (by omega)
        clear hm
        by_cases ht : (rr + B) * (rr + B) ≤ n
        · go_wp2_with fail
          go_roundw
          case rel =>
            obtain ⟨hr, hp, hB, h1, _⟩ := HH.out
            exact ⟨k, rr + B, by omega, by omega, by omega, rfl, by rw [← hB, half_pow], by rw [hr, rt, hB, if_pos ht], trivial⟩
          case measure => exact half_lt hp0
        · go_wp2_with fail
          go_roundw
          case rel =>
            obtain ⟨hr, hp, hB, h1, _⟩ := HH.out
            exact ⟨k, rr, by omega, by omega, by omega, rfl, by rw [← hB, half_pow], by rw [hr, rt, hB, if_neg ht], trivial⟩
          case measure => exact half_lt hp0
      · go_wp2_with fail
        go_roundw
        case rel =>
          obtain ⟨hr, hp, hB, h1, _, hn⟩ := HH.out
          have ht : ¬ (rr + B) * (rr + B) ≤ n := fun h => by
            have h2 : (3037000500 : Int) * 3037000500 ≤ (rr + B) * (rr + B) := Int.mul_le_mul (by omega) (by omega) (by omega) (by omega)
            omega
          exact ⟨k, rr, by omega, by omega, by omega, rfl, by rw [← hB, half_pow], by rw [hr, rt, hB, if_neg ht], trivial⟩
        case measure => exact half_lt hp0
end Go.Proofs.Ytdefpcjlbganpaa
