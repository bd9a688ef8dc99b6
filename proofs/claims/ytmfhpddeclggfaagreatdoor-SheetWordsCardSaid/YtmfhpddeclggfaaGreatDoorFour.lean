import Derived.Test.YtmfhpddeclggfaaGreatDoorCheckLine
import Derived.WalkKit
import Derived.LoopTactic
import Derived.WalkSpells
import Derived.WalkLawsBesides
import Derived.Lib.Hide
import Derived.BigQuiet
import Derived.IntWalk
import Derived.Deep.DeepMust
import Derived.WalkSmall
import Derived.StillTailTactics
import Derived.Lib.SlBytesConst
import Derived.Deep.RegionLaw
import Derived.Deep.QuietTactic
namespace Go.Proofs.YtmfhpddeclggfaaGreatDoor
open Go.RowKit
/-- Four decimal digits. -/
def four (n : Nat) : List UInt8 := (Lib.decDigits (10000 + n)).drop 1
theorem four_len (n : Nat) (h : n < 10000) : (four n).length = 4 := by
  unfold four
  rw [List.length_drop, Lib.decDigits_length, Lib.nDigits_unique 4 (10000 + n) (by omega) (by omega)]
theorem extract_drop (l : List UInt8) (k : Nat) : (bs l).extract k (bs l).size = bs (l.drop k) := by
  apply ByteArray.ext
  apply Array.ext'
  simp [bs, ByteArray.size]
  rw [List.take_of_length_le (by simp)]
set_option maxRecDepth 100000 in
set_option maxHeartbeats 1000000 in
theorem sFour (n : Nat) (w : World) (hn : n < 10000) (he : Env w) :
    Calls Tryz.prog 88 #[.int .i64 (n : Int)] w fun e w' => e = .returned (.string (bs (four n))) ∧ Below w.heap.size w w' := by
  have HE := Lib.hid he
  clear he
  have e1 : (bs (Lib.itoa (10000 + (n : Int)))) = bs (Lib.decDigits (10000 + n)) := by
    rw [show (10000 + (n : Int)) = ((10000 + n : Nat) : Int) from by omega, Lib.itoa_nonneg]
  have hsz : (bs (Lib.decDigits (10000 + n))).size = 5 := by
    rw [bs_size, Lib.decDigits_length, Lib.nDigits_unique 4 (10000 + n) (by omega) (by omega)]
  have E1 := Lib.hid e1
  have HX := Lib.hid (extract_drop (Lib.decDigits (10000 + n)) 1)
  have H1 : 1 ≤ (bs (Lib.decDigits (10000 + n))).size := by omega
  clear e1 hsz
  go_enter Tryz.func88, Tryz.ntmps88
  go_wp2_with fail
  refine (sInt _ _ (i64_small (by omega) (by omega)) HE.out).mono ?_
  rintro e w1 ⟨rfl, hb⟩
  have HB := Lib.hid hb
  clear hb
  rw [E1.out]
  go_wp2_with fail
  go_ret
  exact ⟨ret_str HX.out, HB.out⟩
end Go.Proofs.YtmfhpddeclggfaaGreatDoor
