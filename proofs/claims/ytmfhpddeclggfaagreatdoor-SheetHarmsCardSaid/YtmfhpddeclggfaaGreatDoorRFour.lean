import Derived.Test.YtmfhpddeclggfaaGreatDoorRHead
import Derived.WalkKit
import Derived.LoopTactic
import Derived.WalkSpells
import Derived.WalkLawsBesides
import Derived.Lib.Hide
import Derived.BigQuiet
import Derived.IntWalk
import Derived.Deep.DeepMust
import Derived.WalkSmall
import Derived.StillTailTactics
import Derived.Lib.SlBytesConst
import Derived.Deep.RegionLaw
import Derived.Deep.QuietTactic
namespace Go.Proofs.YtmfhpddeclggfaaGreatDoor
open Go.RowKit
theorem four_parts2 : ∀ a b : Fin 100, four (100 * a.val + b.val) = Lib.decDigits ((100 * a.val + b.val) / 1000 % 10) ++ Lib.decDigits ((100 * a.val + b.val) / 100 % 10) ++ Lib.decDigits ((100 * a.val + b.val) / 10 % 10) ++ Lib.decDigits ((100 * a.val + b.val) % 10) := by decide +kernel
theorem four_parts (n : Nat) (h : n < 10000) : four n = Lib.decDigits (n / 1000 % 10) ++ Lib.decDigits (n / 100 % 10) ++ Lib.decDigits (n / 10 % 10) ++ Lib.decDigits (n % 10) := by
  have := four_parts2 ⟨n / 100, by omega⟩ ⟨n % 100, by omega⟩
  simp only at this
  rw [show 100 * (n / 100) + n % 100 = n from by omega] at this
  exact this
theorem digit_len2 : ∀ d : Fin 10, (Lib.decDigits d.val).length = 1 := by decide +kernel
theorem digit_len (d : Nat) (h : d < 10) : (Lib.decDigits d).length = 1 := digit_len2 ⟨d, h⟩
set_option maxRecDepth 100000 in
set_option maxHeartbeats 1000000 in
theorem rFour (n : Nat) (w : World) (hn : n < 10000) :
    Calls Tryz.prog 92 #[.int .i64 (n : Int)] w fun e w' => e = .returned (.string (bs (four n))) ∧ w = w' := by
  have HF := Lib.hid (four_parts n hn)
  have l1 := digit_len (n / 1000 % 10) (by omega)
  have l2 := digit_len (n / 100 % 10) (by omega)
  have l3 := digit_len (n / 10 % 10) (by omega)
  have l4 := digit_len (n % 10) (by omega)
  obtain ⟨d1, h1⟩ : ∃ d, Hid (Lib.decDigits (n / 1000 % 10) = d) := ⟨_, rfl⟩
  obtain ⟨d2, h2⟩ : ∃ d, Hid (Lib.decDigits (n / 100 % 10) = d) := ⟨_, rfl⟩
  obtain ⟨d3, h3⟩ : ∃ d, Hid (Lib.decDigits (n / 10 % 10) = d) := ⟨_, rfl⟩
  obtain ⟨d4, h4⟩ : ∃ d, Hid (Lib.decDigits (n % 10) = d) := ⟨_, rfl⟩
  rw [h1.out] at l1
  rw [h2.out] at l2
  rw [h3.out] at l3
  rw [h4.out] at l4
  have C1 : Hid (Calls Tryz.prog 84 #[.int .i64 (-((n : Int) / 1000 % 10))] w fun e w' => e = .returned (.string (bs d1)) ∧ w = w') := by
    have := digits_any (n / 1000 % 10) w (by omega); rw [h1.out] at this
    rw [Hid, show (-((n : Int) / 1000 % 10)) = -((n / 1000 % 10 : Nat) : Int) from by omega]; exact this
  have C2 : Hid (Calls Tryz.prog 84 #[.int .i64 (-((n : Int) / 100 % 10))] w fun e w' => e = .returned (.string (bs d2)) ∧ w = w') := by
    have := digits_any (n / 100 % 10) w (by omega); rw [h2.out] at this
    rw [Hid, show (-((n : Int) / 100 % 10)) = -((n / 100 % 10 : Nat) : Int) from by omega]; exact this
  have C3 : Hid (Calls Tryz.prog 84 #[.int .i64 (-((n : Int) / 10 % 10))] w fun e w' => e = .returned (.string (bs d3)) ∧ w = w') := by
    have := digits_any (n / 10 % 10) w (by omega); rw [h3.out] at this
    rw [Hid, show (-((n : Int) / 10 % 10)) = -((n / 10 % 10 : Nat) : Int) from by omega]; exact this
  have C4 : Hid (Calls Tryz.prog 84 #[.int .i64 (-((n : Int) % 10))] w fun e w' => e = .returned (.string (bs d4)) ∧ w = w') := by
    have := digits_any (n % 10) w (by omega); rw [h4.out] at this
    rw [Hid, show (-((n : Int) % 10)) = -((n % 10 : Nat) : Int) from by omega]; exact this
  have s1 : (bs d1).size = 1 := by rw [bs_size, l1]
  have s2 : (bs d2).size = 1 := by rw [bs_size, l2]
  have s3 : (bs d3).size = 1 := by rw [bs_size, l3]
  have s4 : (bs d4).size = 1 := by rw [bs_size, l4]
  clear l1 l2 l3 l4
  go_enter Tryz.func92, Tryz.ntmps92
  go_wp2_with fail
  refine C1.out.mono ?_
  rintro e w' ⟨rfl, rfl⟩
  go_wp2_with fail
  refine C2.out.mono ?_
  rintro e w' ⟨rfl, rfl⟩
  go_wp2_with fail
  refine C3.out.mono ?_
  rintro e w' ⟨rfl, rfl⟩
  go_wp2_with fail
  refine C4.out.mono ?_
  rintro e w' ⟨rfl, rfl⟩
  go_wp2_with fail
  go_ret
  refine ⟨?_, rfl⟩
  have : bs d1 ++ bs d2 ++ bs d3 ++ bs d4 = bs (four n) := by
    rw [HF.out, h1.out, h2.out, h3.out, h4.out]
    apply ByteArray.ext
    simp [bs, ByteArray.data_append]
  rw [← this]; rfl
end Go.Proofs.YtmfhpddeclggfaaGreatDoor
