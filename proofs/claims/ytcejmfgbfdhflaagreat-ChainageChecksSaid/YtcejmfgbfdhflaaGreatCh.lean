import Derived.Test.YtcejmfgbfdhflaaGreatCg
import Derived.Test.YtcejmfgbfdhflaaGreatShelf
import Derived.WalkKit
import Derived.LoopTactic
import Derived.WalkSpells
import Derived.WalkLawsBesides
import Derived.Lib.Hide
import Derived.BigQuiet
import Derived.IntWalk
import Derived.Deep.DeepMust
import Derived.WalkSmall
import Derived.StillTailTactics
import Derived.Deep.RegionLaw
import Derived.Deep.RegionHeld3
import Derived.Deep.QuietTactic
namespace Go.Proofs.YtcejmfgbfdhflaaGreat
open Go.RowKit Go.Shelf Go.BigFrame Go.Sort
attribute [local go_sem] World.cell?_alloc_some
def cm (a b : Int) : Int := if a < b then -1 else if b < a then 1 else 0
set_option maxHeartbeats 400000 in
theorem isNaN_any (n : Int) (w : World) : Calls Tryz.prog 199 #[.int .i64 n] w fun e w' => e = .returned (.bool false) ∧ w = w' := by
  go_enter Tryz.func199, Tryz.ntmps199
  go_wp2_with fail
  go_ret
  exact ⟨ret_bool (by simp), rfl⟩
set_option maxHeartbeats 400000 in
theorem compare_any (a b : Int) (w : World) : Calls Tryz.prog 152 #[.int .i64 a, .int .i64 b] w fun e w' => e = .returned (.int .i64 (cm a b)) ∧ w = w' := by
  have C1 := fun n W => Lib.hid (isNaN_any n W)
  go_enter Tryz.func152, Tryz.ntmps152
  go_wp2_with (go_at_call 199; refine (C1 _ _).out.mono ?_; rintro e w' ⟨rfl, rfl⟩)
  all_goals (go_ret; refine ⟨ret_int ?_, rfl⟩; simp [cm]; omega)
set_option maxHeartbeats 800000 in
theorem begCmp_any (va vb : Value) (a b : Th) (w : World) (ha : ThAt w va a) (hb : ThAt w vb b) :
    Calls Tryz.prog 210 #[va, vb] w fun e w' => e = .returned (.int .i64 (cm a.year b.year)) ∧ Gr w w' := by
  have C1 := yearOf_any va a w ha
  have C2 := fun W (h : Gr w W) => yearOf_any vb b W (hb.keep h.below)
  have C3 := fun W => compare_any a.year b.year W
  clear ha hb
  go_enter Tryz.func210, Tryz.ntmps210
  go_wp2_with fail
  refine C1.mono ?_
  rintro e w1 ⟨rfl, h1⟩
  have H1 := Lib.hid h1
  clear h1 C1
  go_wp2_with fail
  refine (C2 _ H1.out).mono ?_
  rintro e w2 ⟨rfl, h2⟩
  have H2 := Lib.hid (H1.out.trans h2)
  clear h2 C2
  go_wp2_with fail
  refine (C3 _).mono ?_
  rintro e w3 ⟨rfl, rfl⟩
  go_wp2_with fail
  go_ret
  exact ⟨rfl, H2.out⟩
end Go.Proofs.YtcejmfgbfdhflaaGreat
