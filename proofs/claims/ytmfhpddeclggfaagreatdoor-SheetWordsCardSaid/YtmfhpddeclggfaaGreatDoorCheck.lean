import Derived.Test.YtmfhpddeclggfaaGreatDoorReadText2
import Derived.WalkKit
import Derived.LoopTactic
import Derived.WalkSpells
import Derived.WalkLawsBesides
import Derived.Lib.Hide
import Derived.BigQuiet
import Derived.IntWalk
import Derived.Deep.DeepMust
import Derived.WalkSmall
import Derived.StillTailTactics
import Derived.Lib.SlBytesConst
import Derived.Deep.RegionLaw
import Derived.Deep.QuietTactic
namespace Go.Proofs.YtmfhpddeclggfaaGreatDoor
open Go.RowKit
/-- The check of a string. -/
def chk (l : List UInt8) : Nat := l.foldl (fun c b => (c * 17 + b.toNat) % 9973) 0
theorem chk_snoc (l : List UInt8) (b : UInt8) : chk (l ++ [b]) = (chk l * 17 + b.toNat) % 9973 := by simp [chk]
theorem chk_fold (l : List UInt8) : ∀ c : Nat, c < 9973 → l.foldl (fun c b => (c * 17 + b.toNat) % 9973) c < 9973 := by
  induction l with
  | nil => intro c h; exact h
  | cons b r ih => intro c h; exact ih _ (Nat.mod_lt _ (by decide))
theorem chk_lt (l : List UInt8) : chk l < 9973 := chk_fold l 0 (by decide)
set_option maxRecDepth 100000 in
set_option maxHeartbeats 400000 in
theorem sCheck (s : ByteArray) (w : World) (hs : s.size ≤ maxLen) :
    Calls Tryz.prog 35 #[.string s] w fun e w' => e = .returned (.int .i64 (chk s.data.toList)) ∧ w' = w := by
  unfold maxLen at hs
  go_enter Tryz.func35, Tryz.ntmps35
  go_wp2
  go_loop [3, 7] (fun c i => ∃ k : Nat, k ≤ s.size ∧ i = .int .i64 k ∧ c = .int .i64 (chk (s.data.toList.take k))) (fun _ i => s.size - (intOf i).toNat)
  case atStart => exact ⟨0, Nat.zero_le _, rfl, rfl⟩
  case round =>
    obtain ⟨k, hk, rfl, rfl⟩ := hrel
    have hl := chk_lt (s.data.toList.take k)
    by_cases hlt : k < s.size
    · have q0 : wrap64 (s[k].toNat : Int) = s[k].toNat := wrap_byte _
      have lt := s[k].toNat_lt
      go_wp2
      go_round
      case rel => exact ⟨k + 1, by omega, by go_num, congrArg (Value.int .i64) (by rw [take_snoc s k hlt, chk_snoc]; simp)⟩
      case measure => simp [intOf]; omega
    · obtain rfl : k = s.size := by omega
      go_wp2
      go_ret
      exact ⟨ret_int (by rw [List.take_of_length_le (by simp)]), rfl⟩

set_option maxRecDepth 100000 in
set_option maxHeartbeats 400000 in
theorem rCheck (s : ByteArray) (w : World) (hs : s.size ≤ maxLen) :
    Calls Tryz.prog 36 #[.string s] w fun e w' => e = .returned (.int .i64 (chk s.data.toList)) ∧ w' = w := by
  unfold maxLen at hs
  go_enter Tryz.func36, Tryz.ntmps36
  go_wp2
  go_loop [3, 4] (fun c i => ∃ k : Nat, k ≤ s.size ∧ i = .int .i64 k ∧ c = .int .i64 (chk (s.data.toList.take k))) (fun _ i => s.size - (intOf i).toNat)
  case atStart => exact ⟨0, Nat.zero_le _, rfl, rfl⟩
  case round =>
    obtain ⟨k, hk, rfl, rfl⟩ := hrel
    have hl := chk_lt (s.data.toList.take k)
    by_cases hlt : k < s.size
    · have q0 : wrap64 (s[k].toNat : Int) = s[k].toNat := wrap_byte _
      have lt := s[k].toNat_lt
      go_wp2
      go_round
      case rel => exact ⟨k + 1, by omega, by go_num, congrArg (Value.int .i64) (by rw [take_snoc s k hlt, chk_snoc]; simp)⟩
      case measure => simp [intOf]; omega
    · obtain rfl : k = s.size := by omega
      go_wp2
      go_ret
      exact ⟨ret_int (by rw [List.take_of_length_le (by simp)]), rfl⟩
/-- The integer behind a mark, and whether the string is just these. -/
def mk64 (l : List UInt8) : List UInt8 := Lib.trimPrefix l [64]
def mkRes (l : List UInt8) : Value := .tuple #[.int .i64 ((rdInt (mk64 l)).getD 0), .bool (Lib.hasPrefix l [64] && (rdInt (mk64 l)).isSome)]
set_option maxRecDepth 100000 in
set_option maxHeartbeats 400000 in
theorem sMarked (s : ByteArray) (w : World) (hs : s.size ≤ 1000000) (he : Env w) :
    Calls Tryz.prog 99 #[.string s] w fun e w' => e = .returned (mkRes s.data.toList) ∧ Below w.heap.size w w' := by
  have HE := Lib.hid he
  clear he
  have hl : Hid ((bs (mk64 s.data.toList)).size ≤ 1000000) := by
    unfold Hid
    rw [bs_size]
    unfold mk64 Lib.trimPrefix
    split
    · simp; omega
    · simp; omega
  go_enter Tryz.func99, Tryz.ntmps99
  go_wp2_with fail
  refine (Tryz.strings_CutPrefix s ⟨#[64]⟩ w).mono ?_
  rintro e w' ⟨rfl, rfl⟩
  rw [show (ByteArray.mk (Lib.trimPrefix s.data.toList (ByteArray.mk #[64]).data.toList).toArray) = bs (mk64 s.data.toList) from rfl]
  rw [show Lib.hasPrefix s.data.toList (ByteArray.mk #[64]).data.toList = Lib.hasPrefix s.data.toList [64] from rfl]
  go_wp2_with fail
  refine (sReadInt _ _ hl.out HE.out).mono ?_
  rintro e w2 ⟨rfl, hb⟩
  have HB := Lib.hid hb
  clear hb
  unfold rdRes
  rw [bs_list]
  cases hr : rdInt (mk64 s.data.toList) with
  | none =>
    cases hp : Lib.hasPrefix s.data.toList [64] with
    | true =>
      have HM : Hid (mkRes s.data.toList = .tuple #[.int .i64 0, .bool false]) := by unfold Hid mkRes; rw [hr, hp]; rfl
      clear hr hp
      go_wp2_with fail
      go_ret2
      exact ⟨by rw [HM.out]; rfl, HB.out⟩
    | false =>
      have HM : Hid (mkRes s.data.toList = .tuple #[.int .i64 0, .bool false]) := by unfold Hid mkRes; rw [hr, hp]; rfl
      clear hr hp
      go_wp2_with fail
      go_ret2
      exact ⟨by rw [HM.out]; rfl, HB.out⟩
  | some v =>
    cases hp : Lib.hasPrefix s.data.toList [64] with
    | true =>
      have HM : Hid (mkRes s.data.toList = .tuple #[.int .i64 v, .bool true]) := by unfold Hid mkRes; rw [hr, hp]; rfl
      clear hr hp
      go_wp2_with fail
      go_ret2
      exact ⟨by rw [HM.out]; rfl, HB.out⟩
    | false =>
      have HM : Hid (mkRes s.data.toList = .tuple #[.int .i64 v, .bool false]) := by unfold Hid mkRes; rw [hr, hp]; rfl
      clear hr hp
      go_wp2_with fail
      go_ret2
      exact ⟨by rw [HM.out]; rfl, HB.out⟩
end Go.Proofs.YtmfhpddeclggfaaGreatDoor
