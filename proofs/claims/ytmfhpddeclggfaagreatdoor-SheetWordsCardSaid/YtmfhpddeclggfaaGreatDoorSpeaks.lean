import Derived.Test.YtmfhpddeclggfaaGreatDoorCheck
import Derived.WalkKit
import Derived.LoopTactic
import Derived.WalkSpells
import Derived.WalkLawsBesides
import Derived.Lib.Hide
import Derived.BigQuiet
import Derived.IntWalk
import Derived.Deep.DeepMust
import Derived.WalkSmall
import Derived.StillTailTactics
import Derived.Lib.SlBytesConst
import Derived.Deep.RegionLaw
import Derived.Deep.QuietTactic
namespace Go.Proofs.YtmfhpddeclggfaaGreatDoor
open Go.RowKit
def spkv (f b : Bool) (n : Int) : Option Int := if f = true ∧ b = true ∧ 1 ≤ n ∧ n ≤ 400 then some n else none
def cutH (l : List UInt8) : List UInt8 := (Lib.cut l [32]).1
def cutF (l : List UInt8) : Bool := (Lib.cut l [32]).2.2
/-- The number of which a piece speaks. -/
def spk (l : List UInt8) : Option Int := spkv (cutF l) (Lib.hasPrefix (cutH l) [64] && (rdInt (mk64 (cutH l))).isSome) ((rdInt (mk64 (cutH l))).getD 0)
def spRes (o : Option Int) : Value := .tuple #[.int .i64 (o.getD 0), .bool o.isSome]
theorem cut_len (l : List UInt8) : (cutH l).length ≤ l.length := by
  unfold cutH Lib.cut
  split
  · simp; omega
  · simp
set_option maxRecDepth 100000 in
set_option maxHeartbeats 1000000 in
theorem sSpeaks (s : ByteArray) (w : World) (hs : s.size ≤ 1000000) (he : Env w) :
    Calls Tryz.prog 42 #[.string s] w fun e w' => e = .returned (spRes (spk s.data.toList)) ∧ Below w.heap.size w w' := by
  have HE := Lib.hid he
  obtain ⟨m, hm⟩ := he.mx
  have HM := Lib.hid hm
  clear he hm
  have hl : Hid ((bs (cutH s.data.toList)).size ≤ 1000000) := by
    unfold Hid
    rw [bs_size]
    have := cut_len s.data.toList
    simp at this
    omega
  go_enter Tryz.func42, Tryz.ntmps42
  go_wp2_with fail
  refine (Tryz.strings_Cut s ⟨#[32]⟩ m w (by omega) HM.out).mono ?_
  rintro e w1 ⟨rfl, nd, rfl⟩
  rw [show (ByteArray.mk (Lib.cut s.data.toList (ByteArray.mk #[32]).data.toList).1.toArray) = bs (cutH s.data.toList) from rfl]
  rw [show (Lib.cut s.data.toList (ByteArray.mk #[32]).data.toList).2.2 = cutF s.data.toList from rfl]
  have HE1 : Hid (Env (w.drewN nd)) := HE.out.next (below_drewN (Below.refl _ _) nd)
  go_wp2_with fail
  refine (sMarked _ _ hl.out HE1.out).mono ?_
  rintro e w2 ⟨rfl, hb⟩
  have HB : Hid (Below w.heap.size w w2) := (below_drewN (Below.refl _ _) nd).trans hb
  clear hb
  unfold mkRes
  rw [bs_list]
  obtain ⟨n, hn⟩ : ∃ n, (rdInt (mk64 (cutH s.data.toList))).getD 0 = n := ⟨_, rfl⟩
  obtain ⟨b, hb⟩ : ∃ b, (Lib.hasPrefix (cutH s.data.toList) [64] && (rdInt (mk64 (cutH s.data.toList))).isSome) = b := ⟨_, rfl⟩
  obtain ⟨f, hf⟩ : ∃ f, cutF s.data.toList = f := ⟨_, rfl⟩
  have HR : Hid (spk s.data.toList = spkv f b n) := by unfold Hid spk; rw [hn, hb, hf]
  rw [hn, hb, hf]
  clear hn hb hf
  cases f with
  | false =>
    go_wp2_with fail
    go_ret2
    exact ⟨by rw [HR.out]; rfl, HB.out⟩
  | true =>
    cases b with
    | false =>
      go_wp2_with fail
      go_ret2
      exact ⟨by rw [HR.out]; rfl, HB.out⟩
    | true =>
      by_cases h1 : n < 1
      · have HS : Hid (spkv true true n = none) := by unfold Hid spkv; rw [if_neg (by omega)]
        go_wp2_with fail
        go_ret2
        exact ⟨by rw [HR.out, HS.out]; rfl, HB.out⟩
      · by_cases h2 : 400 < n
        · have HS : Hid (spkv true true n = none) := by unfold Hid spkv; rw [if_neg (by omega)]
          go_wp2_with fail
          go_ret2
          exact ⟨by rw [HR.out, HS.out]; rfl, HB.out⟩
        · have HS : Hid (spkv true true n = some n) := by unfold Hid spkv; rw [if_pos ⟨rfl, rfl, by omega, by omega⟩]
          go_wp2_with fail
          go_ret2
          exact ⟨by rw [HR.out, HS.out]; rfl, HB.out⟩
end Go.Proofs.YtmfhpddeclggfaaGreatDoor
