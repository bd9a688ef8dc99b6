import Derived.RangeFuncNested
import Derived.RangeFuncBox
import Derived.RangeFuncBound
import Derived.RangeFuncCalls
import Derived.RangeFuncLeaves
import Derived.Shelf.Abstract
import Derived.Shelf.RegionOpen
import Derived.BigRegionIn
import Derived.Stop.RegionWithIn
import Derived.WalkKit
import Derived.OwnWalkIn
import Derived.TacticsInMore
import Derived.LoopNIn
import Derived.LoopIn
import Derived.Lib.Hide
import Derived.IntWalk
import Derived.Deep.QuietTactic
import Derived.Deep.RegionHeld3
import Derived.Deep.RegionLaw
import Derived.StillTailTactics
import Derived.WalkSmall
import Derived.Deep.DeepMust
import Derived.BigQuiet
import Derived.WalkLawsBesides
import Derived.WalkSpells
import Derived.LoopTactic
import Derived.Test.YtdefpcjlbganpaaMSort
import Derived.Test.YtdefpcjlbganpaaMEx
import Derived.Test.YtdefpcjlbganpaaMBox
import Derived.Test.YtdefpcjlbganpaaMSpr
import Derived.Test.YtdefpcjlbganpaaMDist
import Derived.Test.YtdefpcjlbganpaaSidesLaw
import Derived.Deep.DeepCutAuto
import Derived.Deep.CutBlock
namespace Go.Proofs.Ytdefpcjlbganpaa
open Go.RowKit Go.Shelf Go.BigFrame Go.Sort
attribute [local go_sem] Oper.semAt_some
attribute [local go_sem] World.cell?_alloc_some
abbrev g1B : Bx := ⟨⟨0, 2⟩, ⟨0, 0⟩⟩
abbrev g2B : Bx := ⟨⟨0, 3⟩, ⟨5, 9⟩⟩
theorem ex_grow : bxRes (grwB g1B 3) = .tuple #[Bx.v ⟨⟨-3, 5⟩, ⟨-3, 3⟩⟩, .bool true] := by kernel_rfl
theorem ex_cut : bx2Res (cutB g2B) = .tuple #[Bx.v ⟨⟨0, 3⟩, ⟨5, 7⟩⟩, Bx.v ⟨⟨0, 3⟩, ⟨8, 9⟩⟩, .bool true] := by kernel_rfl
theorem ex_dists : spRes (dsO ⟨⟨0, 1⟩, ⟨0, 1⟩⟩ ⟨⟨3, 4⟩, ⟨0, 5⟩⟩) = .tuple #[Sp.v ⟨4, 41⟩, .bool true] := by kernel_rfl
set_option maxRecDepth 100000 in
set_option maxHeartbeats 8000000 in
/-- What the laws on hulls and boxes try first answers true. -/
theorem boxes_any (hsp : ∀ W, Calls Try.prog 59 #[Bx.v ⟨⟨0, 0⟩, ⟨0, 0⟩⟩, Bx.v ⟨⟨4, 4⟩, ⟨0, 0⟩⟩, Bx.v ⟨⟨1, 2⟩, ⟨-1, 3⟩⟩] W fun e w' => e = .returned (.tuple #[Sp.v ⟨-4, 12⟩, .bool true]) ∧ Below W.heap.size W w') (w : World) :
    Calls Try.prog 38 #[] w fun e w' => e = .returned (.bool true) ∧ Below w.heap.size w w' := by
  have CA := Lib.hid (fun x y W => at_any x y W)
  have CX := Lib.hid (fun a b c d W => box_any a b c d W)
  have CG := fun W => Grow_any g1B 3 W
  have CT := fun W => Cut_any g2B W
  have CD := fun W => Dists_any ⟨⟨0, 1⟩, ⟨0, 1⟩⟩ ⟨⟨3, 4⟩, ⟨0, 5⟩⟩ W
  simp only [ex_grow] at CG
  simp only [ex_cut] at CT
  simp only [ex_dists] at CD
  have HCG := Lib.hid CG
  have HCT := Lib.hid CT
  have HCD := Lib.hid CD
  have HSP := Lib.hid hsp
  clear CG CT CD hsp
  obtain ⟨C0, h0, H0, F0⟩ : ∃ C : World → Prop, (∀ W, Below w.heap.size w W → C W) ∧ Hid (∀ A B, C A → Below A.heap.size A B → C B) ∧ Hid (∀ W, C W → Below w.heap.size w W) := ⟨fun W => Below w.heap.size w W, fun _ h => h, fun A B h k => h.trans (k.mono h.size), fun _ h => h⟩
  go_enter Try.func38, Try.ntmps38
  go_wp2_with fail
  refine (CA.out _ _ _).mono ?_
  rintro e w0 ⟨rfl, hb0⟩
  obtain ⟨n, rfl⟩ : ∃ n : Wd C0, w0 = n.w := ⟨⟨w0, h0 _ hb0⟩, rfl⟩
  clear hb0 h0
  go_wp2_with (first | (go_at_call 74; refine (cin H0 (fun W => CA.out _ _ W) _).out.mono ?_; rintro e w' ⟨rfl, n, rfl⟩) | (go_at_call 101; refine (cin H0 (fun W => CX.out _ _ _ _ W) _).out.mono ?_; rintro e w' ⟨rfl, n, rfl⟩) | (go_at_call 49; with_reducible refine (cin H0 HCG.out _).out.mono ?_; rintro e w' ⟨rfl, n, rfl⟩) | (go_at_call 51; with_reducible refine (cin H0 HCT.out _).out.mono ?_; rintro e w' ⟨rfl, n, rfl⟩) | (go_at_call 59; with_reducible refine (cin H0 HSP.out _).out.mono ?_; rintro e w' ⟨rfl, n, rfl⟩) | (go_at_call 61; with_reducible refine (cin H0 HCD.out _).out.mono ?_; rintro e w' ⟨rfl, n, rfl⟩))
  refine (hullEx _ 5 _ (pts5 _ _ rfl ⟨2, 1⟩ ⟨0, 0⟩ ⟨4, 0⟩ ⟨2, 0⟩ ⟨0, 3⟩ 23)).mono ?_
  rintro e w1 ⟨a1, c1, rfl, hp1, hb1⟩
  obtain ⟨C1, h1, H1, F1, P1⟩ : ∃ C : World → Prop, C w1 ∧ Hid (∀ A B, C A → Below A.heap.size A B → C B) ∧ Hid (∀ W, C W → C0 W) ∧ Hid (∀ n : Wd C, PtsAt n.w a1 hout) :=
    ⟨fun W => C0 W ∧ PtsAt W a1 hout, ⟨H0.out _ _ (H0.out _ _ n.h (below_al _ _)) hb1, hp1⟩, fun A B h k => ⟨H0.out _ _ h.1 k, h.2.keep k⟩, fun W h => h.1, fun n => n.h.2⟩
  obtain ⟨n1, rfl⟩ : ∃ n : Wd C1, w1 = n.w := ⟨⟨w1, h1⟩, rfl⟩
  clear h1 hb1 hp1
  go_wp2_with (first | (go_at_call 74; refine (cin H1 (fun W => CA.out _ _ W) _).out.mono ?_; rintro e w' ⟨rfl, n, rfl⟩) | (go_at_call 101; refine (cin H1 (fun W => CX.out _ _ _ _ W) _).out.mono ?_; rintro e w' ⟨rfl, n, rfl⟩) | (go_at_call 49; with_reducible refine (cin H1 HCG.out _).out.mono ?_; rintro e w' ⟨rfl, n, rfl⟩) | (go_at_call 51; with_reducible refine (cin H1 HCT.out _).out.mono ?_; rintro e w' ⟨rfl, n, rfl⟩) | (go_at_call 59; with_reducible refine (cin H1 HSP.out _).out.mono ?_; rintro e w' ⟨rfl, n, rfl⟩) | (go_at_call 61; with_reducible refine (cin H1 HCD.out _).out.mono ?_; rintro e w' ⟨rfl, n, rfl⟩))
  refine (aroundEx _ 4 _ (pts4 _ _ rfl ⟨0, 1⟩ ⟨2, 0⟩ ⟨1, 0⟩ ⟨-1, -1⟩ 23)).mono ?_
  rintro e w2 ⟨g2, rfl, hi2, hb2⟩
  obtain ⟨C2, h2, H2, F2, P2⟩ : ∃ C : World → Prop, C w2 ∧ Hid (∀ A B, C A → Below A.heap.size A B → C B) ∧ Hid (∀ W, C W → C1 W) ∧ Hid (∀ n : Wd C, IntsAt n.w (some ⟨g2, 0, none⟩) [2, 1, 0, 3]) :=
    ⟨fun W => C1 W ∧ IntsAt W (some ⟨g2, 0, none⟩) [2, 1, 0, 3], ⟨H1.out _ _ (H1.out _ _ (Wd.h _) (below_al _ _)) hb2, hi2⟩, fun A B h k => ⟨H1.out _ _ h.1 k, h.2.keep k⟩, fun W h => h.1, fun n => n.h.2⟩
  obtain ⟨n2, rfl⟩ : ∃ n : Wd C2, w2 = n.w := ⟨⟨w2, h2⟩, rfl⟩
  clear h2 hb2 hi2
  go_wp2_with (first | (go_at_call 74; refine (cin H2 (fun W => CA.out _ _ W) _).out.mono ?_; rintro e w' ⟨rfl, n, rfl⟩) | (go_at_call 101; refine (cin H2 (fun W => CX.out _ _ _ _ W) _).out.mono ?_; rintro e w' ⟨rfl, n, rfl⟩) | (go_at_call 49; with_reducible refine (cin H2 HCG.out _).out.mono ?_; rintro e w' ⟨rfl, n, rfl⟩) | (go_at_call 51; with_reducible refine (cin H2 HCT.out _).out.mono ?_; rintro e w' ⟨rfl, n, rfl⟩) | (go_at_call 59; with_reducible refine (cin H2 HSP.out _).out.mono ?_; rintro e w' ⟨rfl, n, rfl⟩) | (go_at_call 61; with_reducible refine (cin H2 HCD.out _).out.mono ?_; rintro e w' ⟨rfl, n, rfl⟩))
  have SS : St n.w ((n.w).alloc (.cells #[.int .i64 (-3), .int .i64 5, .int .i64 (-3), .int .i64 3] 60)) [(n.w.heap.size, 0, .int .i64 (-3)), (n.w.heap.size, 1, .int .i64 5), (n.w.heap.size, 2, .int .i64 (-3)), (n.w.heap.size, 3, .int .i64 3)] := St.box (St.nil n.w) #[.int .i64 (-3), .int .i64 5, .int .i64 (-3), .int .i64 3] 60 (n.w.heap.size) (by simp)
  have hC : C2 ((n.w).alloc (.cells #[.int .i64 (-3), .int .i64 5, .int .i64 (-3), .int .i64 3] 60)) := H2.out _ _ n.h SS.b
  obtain ⟨w3, hw3⟩ : ∃ W, (n.w).alloc (.cells #[.int .i64 (-3), .int .i64 5, .int .i64 (-3), .int .i64 3] 60) = W := ⟨_, rfl⟩
  obtain ⟨k3, hk⟩ : ∃ k, n.w.heap.size = k := ⟨_, rfl⟩
  rw [hw3, hk] at SS
  rw [hw3] at hC
  rw [hw3, hk]
  clear hw3 hk
  obtain ⟨C3, h3, H3, F3, P3⟩ : ∃ C : World → Prop, C w3 ∧ Hid (∀ A B, C A → Below A.heap.size A B → C B) ∧ Hid (∀ W, C W → C2 W) ∧ Hid (∀ n : Wd C, Cs n.w [(k3, 0, .int .i64 (-3)), (k3, 1, .int .i64 5), (k3, 2, .int .i64 (-3)), (k3, 3, .int .i64 3)]) :=
    ⟨fun W => C2 W ∧ Cs W [(k3, 0, .int .i64 (-3)), (k3, 1, .int .i64 5), (k3, 2, .int .i64 (-3)), (k3, 3, .int .i64 3)], ⟨hC, SS.c⟩, fun A B h k => ⟨H2.out _ _ h.1 k, h.2.keep k⟩, fun W h => h.1, fun n => n.h.2⟩
  obtain ⟨n3, rfl⟩ : ∃ n : Wd C3, w3 = n.w := ⟨⟨w3, h3⟩, rfl⟩
  clear h3 SS hC
  go_wp2_with (first | (go_at_call 74; refine (cin H3 (fun W => CA.out _ _ W) _).out.mono ?_; rintro e w' ⟨rfl, n, rfl⟩) | (go_at_call 101; refine (cin H3 (fun W => CX.out _ _ _ _ W) _).out.mono ?_; rintro e w' ⟨rfl, n, rfl⟩) | (go_at_call 49; with_reducible refine (cin H3 HCG.out _).out.mono ?_; rintro e w' ⟨rfl, n, rfl⟩) | (go_at_call 51; with_reducible refine (cin H3 HCT.out _).out.mono ?_; rintro e w' ⟨rfl, n, rfl⟩) | (go_at_call 59; with_reducible refine (cin H3 HSP.out _).out.mono ?_; rintro e w' ⟨rfl, n, rfl⟩) | (go_at_call 61; with_reducible refine (cin H3 HCD.out _).out.mono ?_; rintro e w' ⟨rfl, n, rfl⟩))
  have SS : St n.w (((n.w).alloc (.cells #[.int .i64 0, .int .i64 3, .int .i64 5, .int .i64 7] 60)).alloc (.cells #[.int .i64 0, .int .i64 3, .int .i64 8, .int .i64 9] 60)) [(n.w.heap.size + 1, 0, .int .i64 0), (n.w.heap.size + 1, 1, .int .i64 3), (n.w.heap.size + 1, 2, .int .i64 8), (n.w.heap.size + 1, 3, .int .i64 9), (n.w.heap.size, 0, .int .i64 0), (n.w.heap.size, 1, .int .i64 3), (n.w.heap.size, 2, .int .i64 5), (n.w.heap.size, 3, .int .i64 7)] := St.box (St.box (St.nil n.w) #[.int .i64 0, .int .i64 3, .int .i64 5, .int .i64 7] 60 (n.w.heap.size) (by simp)) #[.int .i64 0, .int .i64 3, .int .i64 8, .int .i64 9] 60 (n.w.heap.size + 1) (by simp)
  have hC : C3 (((n.w).alloc (.cells #[.int .i64 0, .int .i64 3, .int .i64 5, .int .i64 7] 60)).alloc (.cells #[.int .i64 0, .int .i64 3, .int .i64 8, .int .i64 9] 60)) := H3.out _ _ n.h SS.b
  obtain ⟨w4, hw4⟩ : ∃ W, ((n.w).alloc (.cells #[.int .i64 0, .int .i64 3, .int .i64 5, .int .i64 7] 60)).alloc (.cells #[.int .i64 0, .int .i64 3, .int .i64 8, .int .i64 9] 60) = W := ⟨_, rfl⟩
  obtain ⟨k4, hk⟩ : ∃ k, n.w.heap.size = k := ⟨_, rfl⟩
  rw [hw4, hk] at SS
  rw [hw4] at hC
  rw [hw4, hk]
  clear hw4 hk
  obtain ⟨C4, h4, H4, F4, P4⟩ : ∃ C : World → Prop, C w4 ∧ Hid (∀ A B, C A → Below A.heap.size A B → C B) ∧ Hid (∀ W, C W → C3 W) ∧ Hid (∀ n : Wd C, Cs n.w [(k4 + 1, 0, .int .i64 0), (k4 + 1, 1, .int .i64 3), (k4 + 1, 2, .int .i64 8), (k4 + 1, 3, .int .i64 9), (k4, 0, .int .i64 0), (k4, 1, .int .i64 3), (k4, 2, .int .i64 5), (k4, 3, .int .i64 7)]) :=
    ⟨fun W => C3 W ∧ Cs W [(k4 + 1, 0, .int .i64 0), (k4 + 1, 1, .int .i64 3), (k4 + 1, 2, .int .i64 8), (k4 + 1, 3, .int .i64 9), (k4, 0, .int .i64 0), (k4, 1, .int .i64 3), (k4, 2, .int .i64 5), (k4, 3, .int .i64 7)], ⟨hC, SS.c⟩, fun A B h k => ⟨H3.out _ _ h.1 k, h.2.keep k⟩, fun W h => h.1, fun n => n.h.2⟩
  obtain ⟨n4, rfl⟩ : ∃ n : Wd C4, w4 = n.w := ⟨⟨w4, h4⟩, rfl⟩
  clear h4 SS hC
  go_wp2_with (first | (go_at_call 74; refine (cin H4 (fun W => CA.out _ _ W) _).out.mono ?_; rintro e w' ⟨rfl, n, rfl⟩) | (go_at_call 101; refine (cin H4 (fun W => CX.out _ _ _ _ W) _).out.mono ?_; rintro e w' ⟨rfl, n, rfl⟩) | (go_at_call 49; with_reducible refine (cin H4 HCG.out _).out.mono ?_; rintro e w' ⟨rfl, n, rfl⟩) | (go_at_call 51; with_reducible refine (cin H4 HCT.out _).out.mono ?_; rintro e w' ⟨rfl, n, rfl⟩) | (go_at_call 59; with_reducible refine (cin H4 HSP.out _).out.mono ?_; rintro e w' ⟨rfl, n, rfl⟩) | (go_at_call 61; with_reducible refine (cin H4 HCD.out _).out.mono ?_; rintro e w' ⟨rfl, n, rfl⟩))
  have SS : St n.w ((n.w).alloc (.cells #[.int .i64 (-4), .int .i64 12] 58)) [(n.w.heap.size, 0, .int .i64 (-4)), (n.w.heap.size, 1, .int .i64 12)] := St.box (St.nil n.w) #[.int .i64 (-4), .int .i64 12] 58 (n.w.heap.size) (by simp)
  have hC : C4 ((n.w).alloc (.cells #[.int .i64 (-4), .int .i64 12] 58)) := H4.out _ _ n.h SS.b
  obtain ⟨w5, hw5⟩ : ∃ W, (n.w).alloc (.cells #[.int .i64 (-4), .int .i64 12] 58) = W := ⟨_, rfl⟩
  obtain ⟨k5, hk⟩ : ∃ k, n.w.heap.size = k := ⟨_, rfl⟩
  rw [hw5, hk] at SS
  rw [hw5] at hC
  rw [hw5, hk]
  clear hw5 hk
  obtain ⟨C5, h5, H5, F5, P5⟩ : ∃ C : World → Prop, C w5 ∧ Hid (∀ A B, C A → Below A.heap.size A B → C B) ∧ Hid (∀ W, C W → C4 W) ∧ Hid (∀ n : Wd C, Cs n.w [(k5, 0, .int .i64 (-4)), (k5, 1, .int .i64 12)]) :=
    ⟨fun W => C4 W ∧ Cs W [(k5, 0, .int .i64 (-4)), (k5, 1, .int .i64 12)], ⟨hC, SS.c⟩, fun A B h k => ⟨H4.out _ _ h.1 k, h.2.keep k⟩, fun W h => h.1, fun n => n.h.2⟩
  obtain ⟨n5, rfl⟩ : ∃ n : Wd C5, w5 = n.w := ⟨⟨w5, h5⟩, rfl⟩
  clear h5 SS hC
  go_wp2_with (first | (go_at_call 74; refine (cin H5 (fun W => CA.out _ _ W) _).out.mono ?_; rintro e w' ⟨rfl, n, rfl⟩) | (go_at_call 101; refine (cin H5 (fun W => CX.out _ _ _ _ W) _).out.mono ?_; rintro e w' ⟨rfl, n, rfl⟩) | (go_at_call 49; with_reducible refine (cin H5 HCG.out _).out.mono ?_; rintro e w' ⟨rfl, n, rfl⟩) | (go_at_call 51; with_reducible refine (cin H5 HCT.out _).out.mono ?_; rintro e w' ⟨rfl, n, rfl⟩) | (go_at_call 59; with_reducible refine (cin H5 HSP.out _).out.mono ?_; rintro e w' ⟨rfl, n, rfl⟩) | (go_at_call 61; with_reducible refine (cin H5 HCD.out _).out.mono ?_; rintro e w' ⟨rfl, n, rfl⟩))
  have SS : St n.w ((n.w).alloc (.cells #[.int .i64 4, .int .i64 41] 58)) [(n.w.heap.size, 0, .int .i64 4), (n.w.heap.size, 1, .int .i64 41)] := St.box (St.nil n.w) #[.int .i64 4, .int .i64 41] 58 (n.w.heap.size) (by simp)
  have hC : C5 ((n.w).alloc (.cells #[.int .i64 4, .int .i64 41] 58)) := H5.out _ _ n.h SS.b
  obtain ⟨w6, hw6⟩ : ∃ W, (n.w).alloc (.cells #[.int .i64 4, .int .i64 41] 58) = W := ⟨_, rfl⟩
  obtain ⟨k6, hk⟩ : ∃ k, n.w.heap.size = k := ⟨_, rfl⟩
  rw [hw6, hk] at SS
  rw [hw6] at hC
  rw [hw6, hk]
  clear hw6 hk
  obtain ⟨C6, h6, H6, F6, P6⟩ : ∃ C : World → Prop, C w6 ∧ Hid (∀ A B, C A → Below A.heap.size A B → C B) ∧ Hid (∀ W, C W → C5 W) ∧ Hid (∀ n : Wd C, Cs n.w [(k6, 0, .int .i64 4), (k6, 1, .int .i64 41)]) :=
    ⟨fun W => C5 W ∧ Cs W [(k6, 0, .int .i64 4), (k6, 1, .int .i64 41)], ⟨hC, SS.c⟩, fun A B h k => ⟨H5.out _ _ h.1 k, h.2.keep k⟩, fun W h => h.1, fun n => n.h.2⟩
  obtain ⟨n6, rfl⟩ : ∃ n : Wd C6, w6 = n.w := ⟨⟨w6, h6⟩, rfl⟩
  clear h6 SS hC
  go_wp2_with (first | (go_at_call 74; refine (cin H6 (fun W => CA.out _ _ W) _).out.mono ?_; rintro e w' ⟨rfl, n, rfl⟩) | (go_at_call 101; refine (cin H6 (fun W => CX.out _ _ _ _ W) _).out.mono ?_; rintro e w' ⟨rfl, n, rfl⟩) | (go_at_call 49; with_reducible refine (cin H6 HCG.out _).out.mono ?_; rintro e w' ⟨rfl, n, rfl⟩) | (go_at_call 51; with_reducible refine (cin H6 HCT.out _).out.mono ?_; rintro e w' ⟨rfl, n, rfl⟩) | (go_at_call 59; with_reducible refine (cin H6 HSP.out _).out.mono ?_; rintro e w' ⟨rfl, n, rfl⟩) | (go_at_call 61; with_reducible refine (cin H6 HCD.out _).out.mono ?_; rintro e w' ⟨rfl, n, rfl⟩))
  have HP1 : ∀ n : Wd C6, PtsAt n.w a1 hout := fun n => P1.out ⟨n.w, (F2.out _ (F3.out _ (F4.out _ (F5.out _ (F6.out _ n.h)))))⟩
  have HP2 : ∀ n : Wd C6, IntsAt n.w (some ⟨g2, 0, none⟩) [2, 1, 0, 3] := fun n => P2.out ⟨n.w, (F3.out _ (F4.out _ (F5.out _ (F6.out _ n.h))))⟩
  have SP := fun (n : Wd C6) => sameP_any a1 c1 hout (some ⟨n.w.heap.size, 0, none⟩) 3 hout _ (by decide) (by decide) ((HP1 n).keep (below_al n.w _)) (pts3 n.w _ rfl ⟨0, 0⟩ ⟨4, 0⟩ ⟨0, 3⟩ 23)
  have SI := fun (n : Wd C6) => sameI_any (some ⟨g2, 0, none⟩) 4 [2, 1, 0, 3] (some ⟨n.w.heap.size, 0, none⟩) 4 [2, 1, 0, 3] _ (by decide) (by decide) ((HP2 n).keep (below_al n.w _)) (ints4 n.w _ rfl 2 1 0 3 3)
  simp only [decide_true] at SP SI
  have HSPP := Lib.hid SP
  have HSII := Lib.hid SI
  clear SP SI HP1 HP2
  refine (HSPP.out _).mono ?_
  rintro e w7 ⟨rfl, hb7⟩
  obtain ⟨n, rfl⟩ : ∃ n : Wd C6, w7 = n.w := ⟨⟨w7, H6.out _ _ (H6.out _ _ (Wd.h _) (below_al _ _)) hb7⟩, rfl⟩
  clear hb7
  go_wp2_with (first | (go_at_call 74; refine (cin H6 (fun W => CA.out _ _ W) _).out.mono ?_; rintro e w' ⟨rfl, n, rfl⟩))
  refine (HSII.out _).mono ?_
  rintro e w8 ⟨rfl, hb8⟩
  obtain ⟨n, rfl⟩ : ∃ n : Wd C6, w8 = n.w := ⟨⟨w8, H6.out _ _ (H6.out _ _ (Wd.h _) (below_al _ _)) hb8⟩, rfl⟩
  clear hb8 HSPP HSII
  have f3_0 : ∀ n : Wd C6, n.w.cell? ⟨k3, 0, none⟩ = some (.int .i64 (-3)) := fun n => (P3.out ⟨n.w, (F4.out _ (F5.out _ (F6.out _ n.h)))⟩).1.2.1
  have f3_1 : ∀ n : Wd C6, n.w.cell? ⟨k3, 1, none⟩ = some (.int .i64 5) := fun n => (P3.out ⟨n.w, (F4.out _ (F5.out _ (F6.out _ n.h)))⟩).2.1.2.1
  have f3_2 : ∀ n : Wd C6, n.w.cell? ⟨k3, 2, none⟩ = some (.int .i64 (-3)) := fun n => (P3.out ⟨n.w, (F4.out _ (F5.out _ (F6.out _ n.h)))⟩).2.2.1.2.1
  have f3_3 : ∀ n : Wd C6, n.w.cell? ⟨k3, 3, none⟩ = some (.int .i64 3) := fun n => (P3.out ⟨n.w, (F4.out _ (F5.out _ (F6.out _ n.h)))⟩).2.2.2.1.2.1
  have f4_0 : ∀ n : Wd C6, n.w.cell? ⟨k4 + 1, 0, none⟩ = some (.int .i64 0) := fun n => (P4.out ⟨n.w, (F5.out _ (F6.out _ n.h))⟩).1.2.1
  have f4_1 : ∀ n : Wd C6, n.w.cell? ⟨k4 + 1, 1, none⟩ = some (.int .i64 3) := fun n => (P4.out ⟨n.w, (F5.out _ (F6.out _ n.h))⟩).2.1.2.1
  have f4_2 : ∀ n : Wd C6, n.w.cell? ⟨k4 + 1, 2, none⟩ = some (.int .i64 8) := fun n => (P4.out ⟨n.w, (F5.out _ (F6.out _ n.h))⟩).2.2.1.2.1
  have f4_3 : ∀ n : Wd C6, n.w.cell? ⟨k4 + 1, 3, none⟩ = some (.int .i64 9) := fun n => (P4.out ⟨n.w, (F5.out _ (F6.out _ n.h))⟩).2.2.2.1.2.1
  have f4_4 : ∀ n : Wd C6, n.w.cell? ⟨k4, 0, none⟩ = some (.int .i64 0) := fun n => (P4.out ⟨n.w, (F5.out _ (F6.out _ n.h))⟩).2.2.2.2.1.2.1
  have f4_5 : ∀ n : Wd C6, n.w.cell? ⟨k4, 1, none⟩ = some (.int .i64 3) := fun n => (P4.out ⟨n.w, (F5.out _ (F6.out _ n.h))⟩).2.2.2.2.2.1.2.1
  have f4_6 : ∀ n : Wd C6, n.w.cell? ⟨k4, 2, none⟩ = some (.int .i64 5) := fun n => (P4.out ⟨n.w, (F5.out _ (F6.out _ n.h))⟩).2.2.2.2.2.2.1.2.1
  have f4_7 : ∀ n : Wd C6, n.w.cell? ⟨k4, 3, none⟩ = some (.int .i64 7) := fun n => (P4.out ⟨n.w, (F5.out _ (F6.out _ n.h))⟩).2.2.2.2.2.2.2.1.2.1
  have f5_0 : ∀ n : Wd C6, n.w.cell? ⟨k5, 0, none⟩ = some (.int .i64 (-4)) := fun n => (P5.out ⟨n.w, (F6.out _ n.h)⟩).1.2.1
  have f5_1 : ∀ n : Wd C6, n.w.cell? ⟨k5, 1, none⟩ = some (.int .i64 12) := fun n => (P5.out ⟨n.w, (F6.out _ n.h)⟩).2.1.2.1
  have f6_0 : ∀ n : Wd C6, n.w.cell? ⟨k6, 0, none⟩ = some (.int .i64 4) := fun n => (P6.out n).1.2.1
  have f6_1 : ∀ n : Wd C6, n.w.cell? ⟨k6, 1, none⟩ = some (.int .i64 41) := fun n => (P6.out n).2.1.2.1
  have B1 := cin H6 (fun W => CX.out (-3) 5 (-3) 3 W)
  have B2 := cin H6 (fun W => CX.out 0 3 5 7 W)
  have B3 := cin H6 (fun W => CX.out 0 3 8 9 W)
  haveI : Nonempty (Wd C6) := ⟨n⟩
  have HEND : Hid (∀ n : Wd C6, Below w.heap.size w n.w) := fun n => F0.out _ (F1.out _ (F2.out _ (F3.out _ (F4.out _ (F5.out _ (F6.out _ n.h))))))
  clear HCG HCT HCD HSP CA CX P1 P2 P3 P4 P5 P6 F1 F2 F3 F4 F5 F6 H0 H1 H2 H3 H4 H5
  go_wp2_with fail
  refine wp_region_in C6 (H6.out _ _ (Wd.h _) (below_dr _)) (by kernel_rfl) (by kernel_rfl) ?_
  repeat (go_big_quiet_step (first | with_reducible exact (B1 _).out | with_reducible exact (B2 _).out | with_reducible exact (B3 _).out))
  refine wpQuiet_nil ?_
  intro wx hwx
  obtain ⟨nz, rfl⟩ : ∃ n : Wd C6, wx = n.w := ⟨⟨wx, hwx⟩, rfl⟩
  clear hwx
  go_wp2_with fail
  go_ret
  exact ⟨rfl, HEND.out _⟩
theorem ex_spread : sprd (cr ⟨⟨0, 0⟩, ⟨0, 0⟩⟩) (cr ⟨⟨4, 4⟩, ⟨0, 0⟩⟩) (cr ⟨⟨1, 2⟩, ⟨-1, 3⟩⟩) = ⟨-4, 12⟩ := by decide +kernel
/-- What the laws on hulls and boxes try first answers true. -/
theorem boxes_is (w : World) : Calls Try.prog 38 #[] w fun e w' => e = .returned (.bool true) ∧ Below w.heap.size w w' :=
  boxes_any (fun W => by
    have h := Spread_yes ⟨⟨0, 0⟩, ⟨0, 0⟩⟩ ⟨⟨4, 4⟩, ⟨0, 0⟩⟩ ⟨⟨1, 2⟩, ⟨-1, 3⟩⟩ W (by decide +kernel) (by decide +kernel) (by decide +kernel)
    rw [ex_spread] at h
    exact h) w
end Go.Proofs.Ytdefpcjlbganpaa
