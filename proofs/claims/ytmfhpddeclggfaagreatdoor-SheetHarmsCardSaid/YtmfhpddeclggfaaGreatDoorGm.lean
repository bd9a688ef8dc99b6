import Derived.RangeFuncNested
import Derived.RangeFuncBound
import Derived.RangeFuncCalls
import Derived.RangeFuncLeaves
import Derived.Test.YtmfhpddeclggfaaGreatDoorGl
import Derived.RangeFuncBox
import Derived.Shelf.Abstract
import Derived.Shelf.RegionOpen
import Derived.OwnWalkIn
import Derived.TacticsInMore
import Derived.LoopNIn
import Derived.LoopIn
import Derived.Maps.AppendAt
import Derived.Maps.OwnIn
import Derived.RegionIn
import Derived.BigRegionIn
import Derived.Stop.RegionWithIn
import Derived.WalkKit
import Derived.LoopTactic
import Derived.WalkSpells
import Derived.WalkLawsBesides
import Derived.Lib.Hide
import Derived.BigQuiet
import Derived.IntWalk
import Derived.Deep.DeepMust
import Derived.WalkSmall
import Derived.StillTailTactics
import Derived.Deep.RegionLaw
import Derived.Deep.QuietTactic
import Derived.Deep.Cut
import Derived.Deep.DeepCutAuto
import Derived.Deep.LoopGhost
import Derived.Laws.AppendOwn
namespace Go.Proofs.YtmfhpddeclggfaaGreatDoor
open Go.RowKit
/-! The law SheetHarms. -/
open Go.Shelf
set_option maxRecDepth 100000 in
set_option maxHeartbeats 4000000 in
theorem harms_big (s : ByteArray) (q : Option Addr) (n c : Nat) (w : World) (he : Env w) (hsz : s.size ≤ maxLen) (hl : n ≤ maxLen) (h : 3000 < s.size ∨ 210 < n) :
    Calls Tryz.prog 7 #[.string s, .slice q n c] w fun e w' => e = .returned (.bool true) ∧ Below w.heap.size w w' := by
  have SN := Lib.hid (sanity_any w he)
  clear he
  unfold maxLen at hsz hl
  by_cases h1 : 3000 < s.size
  · have h1' : (3000 : Int) < (s.size : Int) := by omega
    go_enter Tryz.func7, Tryz.ntmps7
    go_wp2_with fail
    refine SN.out.mono ?_
    rintro e w' ⟨rfl, hb⟩
    go_wp2_with fail
    go_ret
    exact ⟨rfl, hb⟩
  · have h1' : ¬ (3000 : Int) < (s.size : Int) := by omega
    have h2' : (210 : Int) < (n : Int) := by omega
    go_enter Tryz.func7, Tryz.ntmps7
    go_wp2_with fail
    refine SN.out.mono ?_
    rintro e w' ⟨rfl, hb⟩
    go_wp2_with fail
    go_ret
    exact ⟨rfl, hb⟩
set_option maxRecDepth 100000 in
set_option maxHeartbeats 4000000 in
theorem harms_small (s : ByteArray) (q : Option Addr) (n c : Nat) (w : World) (he : Env w) (hsz : ¬ 3000 < s.size) (hl : ¬ 210 < n) (S : ByteArray) (E : Int)
    (C1 : Hid (∀ W, Below w.heap.size w W → Calls Tryz.prog 48 #[.string s, .slice q n c] W fun e w' => e = .returned (.tuple #[.string S, .int .i64 E]) ∧ Below W.heap.size W w'))
    (C2 : Hid (∀ W, Below w.heap.size w W → Calls Tryz.prog 49 #[.string s, .slice q n c] W fun e w' => e = .returned (.agg #[.string S, .int .i64 E]) ∧ Below W.heap.size W w')) :
    Calls Tryz.prog 7 #[.string s, .slice q n c] w fun e w' => e = .returned (.bool true) ∧ Below w.heap.size w w' := by
  have HE := Lib.hid he
  have h1' : ¬ (3000 : Int) < (s.size : Int) := by omega
  have h2' : ¬ (210 : Int) < (n : Int) := by omega
  have D1 := Lib.hid (C1.out w (Below.refl _ _))
  clear he
  go_enter Tryz.func7, Tryz.ntmps7
  go_wp2_with fail
  refine D1.out.mono ?_
  rintro e w1 ⟨rfl, hb1⟩
  have B1 := Lib.hid hb1
  have D2 := Lib.hid (C2.out w1 hb1)
  clear hb1 D1 C1 C2
  go_wp2_with fail
  refine D2.out.mono ?_
  rintro e w2 ⟨rfl, hb2⟩
  have B2 : Hid (Below w.heap.size w (w2.alloc (.cells #[.string S, .int .i64 E] 32))) := (B1.out.trans (hb2.mono B1.out.size)).alloc (by have h1 := B1.out.size; have h2 := hb2.size; omega) _
  have Z2 := Lib.hid (K2.new w2 (.string S) (.int .i64 E) 32)
  have SN := Lib.hid (sanity_any _ (HE.out.next B2.out))
  clear hb2 D2
  go_wp2_with fail
  refine SN.out.mono ?_
  rintro e w3 ⟨rfl, hb3⟩
  have B3 : Hid (Below w.heap.size w w3) := B2.out.trans (hb3.mono B2.out.size)
  have Z3 := Z2.out.keep hb3
  have z0 := Z3.2.1
  have z1 := Z3.2.2
  clear hb3 SN
  go_wp2_with fail
  go_ret
  exact ⟨rfl, B3.out⟩
theorem sheetHarms_law (s : ByteArray) (q : Option Addr) (c : Nat) (hs : List HM) (w : World) (he : Env w) (hsz : s.size ≤ maxLen) (hl : hs.length ≤ maxLen) (hp : HarmsAt w q hs) :
    Calls Tryz.prog 7 #[.string s, .slice q hs.length c] w fun e w' => e = .returned (.bool true) ∧ Below w.heap.size w w' := by
  by_cases h : 3000 < s.size ∨ 210 < hs.length
  · exact harms_big s q hs.length c w he hsz hl h
  · simp only [not_or] at h
    by_cases h2 : 200 < hs.length
    · exact harms_small s q hs.length c w he h.1 h.2 ⟨#[]⟩ 2 (fun W _ => sHarmed_long s q hs.length c W h2) (fun W _ => rHarmed_long s q hs.length c W h2)
    · exact harms_small s q hs.length c w he h.1 h.2 (hmS (partsH s) hs) (hmE (partsH s) hs) (fun W hW => sHarmed s q c hs W (he.next hW) (by omega) (by omega) (hp.below hW)) (fun W hW => rHarmed s q c hs W (by omega) (by omega) (hp.below hW))
end Go.Proofs.YtmfhpddeclggfaaGreatDoor
