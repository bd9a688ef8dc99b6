import Derived.Test.YtdefpcjlbganpaaWhere
import Derived.WalkKit
import Derived.LoopTactic
import Derived.WalkSpells
import Derived.WalkLawsBesides
import Derived.Lib.Hide
import Derived.BigQuiet
import Derived.IntWalk
import Derived.Deep.DeepMust
import Derived.WalkSmall
import Derived.StillTailTactics
import Derived.Deep.RegionLaw
import Derived.Deep.RegionHeld3
import Derived.Deep.QuietTactic
namespace Go.Proofs.Ytdefpcjlbganpaa
open Go.RowKit Go.BigFrame
set_option maxHeartbeats 400000 in
theorem at_any (x y : Int) (w : World) :
   Calls Try.prog 74 #[.int .i64 x, .int .i64 y] w fun e w' => e = .returned (Pt.v ⟨x, y⟩) ∧ Below w.heap.size w w' := by
  go_enter Try.func74, Try.ntmps74
  go_wp2_with fail
  refine bodyPost_ret (v := Pt.v ⟨x, y⟩) (by simp [results, Try.results74, go_sem]) rfl ⟨rfl, ?_⟩
  exact ((St.nil w).al _).b
theorem pts4 (W : World) (n : Nat) (hn : W.heap.size = n) (a b c d : Pt) (e : TypeId) : PtsAt (W.alloc (.cells #[.int .i64 a.x, .int .i64 a.y, .int .i64 b.x, .int .i64 b.y, .int .i64 c.x, .int .i64 c.y, .int .i64 d.x, .int .i64 d.y] e)) (some ⟨n, 0, none⟩) [a, b, c, d] := by
  subst hn
  refine Or.inr ⟨_, 0, rfl, by simp, fun j q hq => ?_⟩
  rw [Nat.zero_add]
  match j, hq with
  | 0, rfl => exact ⟨new_at W _ _ _ _ rfl, new_at W _ _ _ _ rfl⟩
  | 1, rfl => exact ⟨new_at W _ _ _ _ rfl, new_at W _ _ _ _ rfl⟩
  | 2, rfl => exact ⟨new_at W _ _ _ _ rfl, new_at W _ _ _ _ rfl⟩
  | 3, rfl => exact ⟨new_at W _ _ _ _ rfl, new_at W _ _ _ _ rfl⟩
/-- The rectangle that is tried. -/
def sq : List Pt := [⟨0, 0⟩, ⟨4, 0⟩, ⟨4, 3⟩, ⟨0, 3⟩]
def bow : List Pt := [⟨0, 0⟩, ⟨4, 0⟩, ⟨0, 3⟩, ⟨4, 3⟩]
set_option maxHeartbeats 1000000 in
theorem square_has (w : World) :
   Calls Try.prog 75 #[] w fun e w' => ∃ k : Nat, e = .returned (.slice (some ⟨k, 0, none⟩) 4 4) ∧ PtsAt w' (some ⟨k, 0, none⟩) sq ∧ Below w.heap.size w w' := by
  have CA := fun x y W => Lib.hid (at_any x y W)
  go_enter Try.func75, Try.ntmps75
  go_wp2_with fail
  refine (CA _ _ _).out.mono ?_
  rintro e w1 ⟨rfl, hb1⟩
  have B1 := Lib.hid hb1
  clear hb1
  go_wp2_with fail
  refine (CA _ _ _).out.mono ?_
  rintro e w2 ⟨rfl, hb2⟩
  have B2 : Hid (Below w.heap.size w w2) := B1.out.trans (hb2.mono B1.out.size)
  clear hb2 B1
  go_wp2_with fail
  refine (CA _ _ _).out.mono ?_
  rintro e w3 ⟨rfl, hb3⟩
  have B3 : Hid (Below w.heap.size w w3) := B2.out.trans (hb3.mono B2.out.size)
  clear hb3 B2
  go_wp2_with fail
  refine (CA _ _ _).out.mono ?_
  rintro e w4 ⟨rfl, hb4⟩
  have B4 : Hid (Below w.heap.size w w4) := B3.out.trans (hb4.mono B3.out.size)
  clear hb4 B3
  go_wp2_with fail
  go_ret
  exact ⟨_, rfl, pts4 w4 _ rfl ⟨0, 0⟩ ⟨4, 0⟩ ⟨4, 3⟩ ⟨0, 3⟩ 23, B4.out.alloc B4.out.size _⟩
def lng : Sg := ⟨⟨0, 0⟩, ⟨4, 0⟩⟩
theorem sn1 : mtg lng ⟨⟨2, -1⟩, ⟨2, 1⟩⟩ = 2 := by decide +kernel
theorem sn2 : mtg lng ⟨⟨4, 0⟩, ⟨4, 3⟩⟩ = 1 := by decide +kernel
theorem sn3 : mtg lng ⟨⟨2, 0⟩, ⟨9, 0⟩⟩ = 3 := by decide +kernel
theorem sn4 : mtg lng ⟨⟨5, 0⟩, ⟨9, 0⟩⟩ = 0 := by decide +kernel
theorem sn5 : arRes sq = .tuple #[.int .i64 24, .int .i64 0] := by kernel_rfl
theorem sn6 : whRes sq ⟨1, 1⟩ = .tuple #[.int .i64 1, .int .i64 0] := by kernel_rfl
theorem sn7 : whRes sq ⟨4, 2⟩ = .tuple #[.int .i64 0, .int .i64 0] := by kernel_rfl
theorem sn8 : whRes sq ⟨5, 5⟩ = .tuple #[.int .i64 (-1), .int .i64 0] := by kernel_rfl
theorem sn9 : smRes bow = .tuple #[.bool false, .int .i64 0] := by kernel_rfl
theorem sn10 : trn ⟨0, 0⟩ ⟨4, 0⟩ ⟨2, 1⟩ = 1 := by decide +kernel
theorem sn11 : trn ⟨0, 0⟩ ⟨4, 0⟩ ⟨8, 0⟩ = 0 := by decide +kernel
theorem sn12 : dst ⟨0, 0⟩ ⟨3, 4⟩ = 25 := by decide +kernel
theorem sn13 : rt 26 32 0 = 5 := by decide +kernel
set_option maxRecDepth 100000 in
set_option maxHeartbeats 8000000 in
/-- What every law tries first answers true. -/
theorem sanity_any (w : World) :
   Calls Try.prog 16 #[] w fun e w' => e = .returned (.bool true) ∧ Below w.heap.size w w' := by
  have CA := fun x y W => Lib.hid (at_any x y W)
  have CQ := fun W => Lib.hid (square_has W)
  have CM1 := fun W => Lib.hid (Meeting_any lng ⟨⟨2, -1⟩, ⟨2, 1⟩⟩ W)
  have CM2 := fun W => Lib.hid (Meeting_any lng ⟨⟨4, 0⟩, ⟨4, 3⟩⟩ W)
  have CM3 := fun W => Lib.hid (Meeting_any lng ⟨⟨2, 0⟩, ⟨9, 0⟩⟩ W)
  have CM4 := fun W => Lib.hid (Meeting_any lng ⟨⟨5, 0⟩, ⟨9, 0⟩⟩ W)
  simp only [lng] at CM1 CM2 CM3 CM4
  go_enter Try.func16, Try.ntmps16
  go_wp2_with fail
  refine (CA _ _ _).out.mono ?_
  rintro e v1 ⟨rfl, hb⟩
  have B1 := Lib.hid hb
  clear hb
  go_wp2_with fail
  refine (CA _ _ _).out.mono ?_
  rintro e v2 ⟨rfl, hb⟩
  have B2 : Hid (Below w.heap.size w v2) := B1.out.trans (hb.mono B1.out.size)
  clear hb B1
  have ST : Hid (St w (v2.alloc (.cells #[.int .i64 0, .int .i64 0, .int .i64 4, .int .i64 0] 31)) ((v2.heap.size, 0, .int .i64 0) :: (v2.heap.size, 1, .int .i64 0) :: (v2.heap.size, 2, .int .i64 4) :: (v2.heap.size, 3, .int .i64 0) :: [])) := (⟨B2.out, trivial⟩ : St w v2 []).box4 _ _ _ _ 31 _ rfl
  go_wp2_with fail
  obtain ⟨v3, hv3⟩ : ∃ v3, v2.alloc (.cells #[.int .i64 0, .int .i64 0, .int .i64 4, .int .i64 0] 31) = v3 := ⟨_, rfl⟩
  obtain ⟨kk, hkk⟩ : ∃ kk, v2.heap.size = kk := ⟨_, rfl⟩
  rw [hv3, hkk] at ST
  rw [hv3, hkk]
  clear hv3 hkk B2
  obtain ⟨L, hL⟩ : ∃ L : List (Nat × Nat × Value), (kk, 0, Value.int .i64 0) :: (kk, 1, Value.int .i64 0) :: (kk, 2, Value.int .i64 4) :: (kk, 3, Value.int .i64 0) :: [] = L := ⟨_, rfl⟩
  rw [hL] at ST
  have hC : CW v3 L v3 := ⟨Below.refl _ _, ST.out.c⟩
  haveI : Nonempty (Wd (CW v3 L)) := ⟨⟨_, hC⟩⟩
  have hU : ∀ Wx, Cs Wx L → Cs Wx [(kk, 0, Value.int .i64 0), (kk, 1, Value.int .i64 0), (kk, 2, Value.int .i64 4), (kk, 3, Value.int .i64 0)] := fun Wx h => by rw [hL]; exact h
  have f0 : ∀ n : Wd (CW v3 L), n.w.cell? ⟨kk, 0, none⟩ = some (.int .i64 0) := fun n => (hU _ n.h.2).1.2.1
  have f1 : ∀ n : Wd (CW v3 L), n.w.cell? ⟨kk, 1, none⟩ = some (.int .i64 0) := fun n => (hU _ n.h.2).2.1.2.1
  have f2 : ∀ n : Wd (CW v3 L), n.w.cell? ⟨kk, 2, none⟩ = some (.int .i64 4) := fun n => (hU _ n.h.2).2.2.1.2.1
  have f3 : ∀ n : Wd (CW v3 L), n.w.cell? ⟨kk, 3, none⟩ = some (.int .i64 0) := fun n => (hU _ n.h.2).2.2.2.1.2.1
  have DA := fun x y (n : Wd (CW v3 L)) => Lib.hid (Calls.quiet_in (C := CW v3 L) ((CA x y n.w).out.mono fun e w' h => ⟨h.1, n.h.next h.2⟩))
  have D1 := fun (n : Wd (CW v3 L)) => Lib.hid (Calls.quiet_in (C := CW v3 L) ((CM1 n.w).out.mono fun e w' h => ⟨h.1, n.h.next h.2⟩))
  have D2 := fun (n : Wd (CW v3 L)) => Lib.hid (Calls.quiet_in (C := CW v3 L) ((CM2 n.w).out.mono fun e w' h => ⟨h.1, n.h.next h.2⟩))
  have D3 := fun (n : Wd (CW v3 L)) => Lib.hid (Calls.quiet_in (C := CW v3 L) ((CM3 n.w).out.mono fun e w' h => ⟨h.1, n.h.next h.2⟩))
  have D4 := fun (n : Wd (CW v3 L)) => Lib.hid (Calls.quiet_in (C := CW v3 L) ((CM4 n.w).out.mono fun e w' h => ⟨h.1, n.h.next h.2⟩))
  clear CM1 CM2 CM3 CM4 hL hU
  have H3 := Lib.hid hC
  clear hC
  refine wp_region_in (CW v3 L) (H3.out.next (below_dr _)) (by kernel_rfl) (by kernel_rfl) ?_
  repeat (go_big_quiet_step (first | with_reducible exact (DA _ _ _).out | with_reducible exact (D1 _).out))
  refine wpQuiet_nil ?_
  intro v4 hv
  have H4 := Lib.hid hv
  clear hv H3
  go_wp2_with fail
  refine wp_region_in (CW v3 L) (H4.out.next (below_dr _)) (by kernel_rfl) (by kernel_rfl) ?_
  repeat (go_big_quiet_step (first | with_reducible exact (DA _ _ _).out | with_reducible exact (D2 _).out))
  refine wpQuiet_nil ?_
  intro v5 hv
  have H5 := Lib.hid hv
  clear hv H4
  go_wp2_with fail
  refine wp_region_in (CW v3 L) (H5.out.next (below_dr _)) (by kernel_rfl) (by kernel_rfl) ?_
  repeat (go_big_quiet_step (first | with_reducible exact (DA _ _ _).out | with_reducible exact (D3 _).out))
  refine wpQuiet_nil ?_
  intro v6 hv
  have H6 := Lib.hid hv
  clear hv H5
  go_wp2_with fail
  refine wp_region_in (CW v3 L) (H6.out.next (below_dr _)) (by kernel_rfl) (by kernel_rfl) ?_
  repeat (go_big_quiet_step (first | with_reducible exact (DA _ _ _).out | with_reducible exact (D4 _).out))
  refine wpQuiet_nil ?_
  intro v7 hv
  have H7 := Lib.hid hv
  clear hv H6
  go_wp2_with fail
  clear D1 D2 D3 D4 DA f0 f1 f2 f3 this
  have B7 : Hid (Below w.heap.size w v7) := ST.out.b.trans (H7.out.1.mono ST.out.b.size)
  clear H7 ST
  refine (CQ _).out.mono ?_
  rintro e v8 ⟨k8, rfl, hp, hb⟩
  have B8 : Hid (Below w.heap.size w v8) := B7.out.trans (hb.mono B7.out.size)
  have P := Lib.hid hp
  clear hp
  clear hb B7
  go_wp2_with fail
  have CX := Area_any (some ⟨k8, 0, none⟩) 4 sq v8 (by decide) P.out
  rw [sn5] at CX
  refine CX.mono ?_
  rintro e v9 ⟨rfl, hb⟩
  have B9 : Hid (Below w.heap.size w v9) := B8.out.trans (hb.mono B8.out.size)
  clear hb B8 CX P
  go_wp2_with fail
  refine (CQ _).out.mono ?_
  rintro e v10 ⟨k10, rfl, hp, hb⟩
  have B10 : Hid (Below w.heap.size w v10) := B9.out.trans (hb.mono B9.out.size)
  have P := Lib.hid hp
  clear hp
  clear hb B9
  go_wp2_with fail
  refine (CA _ _ _).out.mono ?_
  rintro e v11 ⟨rfl, hb⟩
  have B11 : Hid (Below w.heap.size w v11) := B10.out.trans (hb.mono B10.out.size)
  have P2 := Lib.hid (P.out.keep hb)
  clear hb B10 P
  go_wp2_with fail
  have CX := Where_any (some ⟨k10, 0, none⟩) 4 sq ⟨1, 1⟩ v11 (by decide) P2.out
  rw [sn6] at CX
  refine CX.mono ?_
  rintro e v12 ⟨rfl, hb⟩
  have B12 : Hid (Below w.heap.size w v12) := B11.out.trans (hb.mono B11.out.size)
  clear hb B11 CX P2
  go_wp2_with fail
  refine (CQ _).out.mono ?_
  rintro e v13 ⟨k13, rfl, hp, hb⟩
  have B13 : Hid (Below w.heap.size w v13) := B12.out.trans (hb.mono B12.out.size)
  have P := Lib.hid hp
  clear hp
  clear hb B12
  go_wp2_with fail
  refine (CA _ _ _).out.mono ?_
  rintro e v14 ⟨rfl, hb⟩
  have B14 : Hid (Below w.heap.size w v14) := B13.out.trans (hb.mono B13.out.size)
  have P2 := Lib.hid (P.out.keep hb)
  clear hb B13 P
  go_wp2_with fail
  have CX := Where_any (some ⟨k13, 0, none⟩) 4 sq ⟨4, 2⟩ v14 (by decide) P2.out
  rw [sn7] at CX
  refine CX.mono ?_
  rintro e v15 ⟨rfl, hb⟩
  have B15 : Hid (Below w.heap.size w v15) := B14.out.trans (hb.mono B14.out.size)
  clear hb B14 CX P2
  go_wp2_with fail
  refine (CQ _).out.mono ?_
  rintro e v16 ⟨k16, rfl, hp, hb⟩
  have B16 : Hid (Below w.heap.size w v16) := B15.out.trans (hb.mono B15.out.size)
  have P := Lib.hid hp
  clear hp
  clear hb B15
  go_wp2_with fail
  refine (CA _ _ _).out.mono ?_
  rintro e v17 ⟨rfl, hb⟩
  have B17 : Hid (Below w.heap.size w v17) := B16.out.trans (hb.mono B16.out.size)
  have P2 := Lib.hid (P.out.keep hb)
  clear hb B16 P
  go_wp2_with fail
  have CX := Where_any (some ⟨k16, 0, none⟩) 4 sq ⟨5, 5⟩ v17 (by decide) P2.out
  rw [sn8] at CX
  refine CX.mono ?_
  rintro e v18 ⟨rfl, hb⟩
  have B18 : Hid (Below w.heap.size w v18) := B17.out.trans (hb.mono B17.out.size)
  clear hb B17 CX P2
  go_wp2_with fail
  refine (CA _ _ _).out.mono ?_
  rintro e v19 ⟨rfl, hb⟩
  have B19 : Hid (Below w.heap.size w v19) := B18.out.trans (hb.mono B18.out.size)
  clear hb B18
  go_wp2_with fail
  refine (CA _ _ _).out.mono ?_
  rintro e v20 ⟨rfl, hb⟩
  have B20 : Hid (Below w.heap.size w v20) := B19.out.trans (hb.mono B19.out.size)
  clear hb B19
  go_wp2_with fail
  refine (CA _ _ _).out.mono ?_
  rintro e v21 ⟨rfl, hb⟩
  have B21 : Hid (Below w.heap.size w v21) := B20.out.trans (hb.mono B20.out.size)
  clear hb B20
  go_wp2_with fail
  refine (CA _ _ _).out.mono ?_
  rintro e v22 ⟨rfl, hb⟩
  have B22 : Hid (Below w.heap.size w v22) := B21.out.trans (hb.mono B21.out.size)
  clear hb B21
  go_wp2_with fail
  have CX := Simple_any (some ⟨v22.heap.size, 0, none⟩) 4 bow (v22.alloc (.cells #[.int .i64 0, .int .i64 0, .int .i64 4, .int .i64 0, .int .i64 0, .int .i64 3, .int .i64 4, .int .i64 3] 23)) (by decide) (pts4 v22 _ rfl ⟨0, 0⟩ ⟨4, 0⟩ ⟨0, 3⟩ ⟨4, 3⟩ 23)
  rw [sn9] at CX
  refine CX.mono ?_
  rintro e v23 ⟨rfl, hb⟩
  have B23 : Hid (Below w.heap.size w v23) := (B22.out.trans ((below_al' _ _).mono B22.out.size)).trans (hb.mono (by rw [World.size_alloc]; exact Nat.le_succ_of_le B22.out.size))
  clear hb B22 CX
  go_wp2_with fail
  refine (CA _ _ _).out.mono ?_
  rintro e v24 ⟨rfl, hb⟩
  have B24 : Hid (Below w.heap.size w v24) := B23.out.trans (hb.mono B23.out.size)
  clear hb B23
  go_wp2_with fail
  refine (CA _ _ _).out.mono ?_
  rintro e v25 ⟨rfl, hb⟩
  have B25 : Hid (Below w.heap.size w v25) := B24.out.trans (hb.mono B24.out.size)
  clear hb B24
  go_wp2_with fail
  refine (CA _ _ _).out.mono ?_
  rintro e v26 ⟨rfl, hb⟩
  have B26 : Hid (Below w.heap.size w v26) := B25.out.trans (hb.mono B25.out.size)
  clear hb B25
  go_wp2_with fail
  have CX := Turn_any ⟨0, 0⟩ ⟨4, 0⟩ ⟨2, 1⟩ v26
  rw [sn10] at CX
  refine CX.mono ?_
  rintro e v27 ⟨rfl, hb⟩
  have B27 : Hid (Below w.heap.size w v27) := B26.out.trans (hb.mono B26.out.size)
  clear hb B26 CX
  go_wp2_with fail
  refine (CA _ _ _).out.mono ?_
  rintro e v28 ⟨rfl, hb⟩
  have B28 : Hid (Below w.heap.size w v28) := B27.out.trans (hb.mono B27.out.size)
  clear hb B27
  go_wp2_with fail
  refine (CA _ _ _).out.mono ?_
  rintro e v29 ⟨rfl, hb⟩
  have B29 : Hid (Below w.heap.size w v29) := B28.out.trans (hb.mono B28.out.size)
  clear hb B28
  go_wp2_with fail
  refine (CA _ _ _).out.mono ?_
  rintro e v30 ⟨rfl, hb⟩
  have B30 : Hid (Below w.heap.size w v30) := B29.out.trans (hb.mono B29.out.size)
  clear hb B29
  go_wp2_with fail
  have CX := Turn_any ⟨0, 0⟩ ⟨4, 0⟩ ⟨8, 0⟩ v30
  rw [sn11] at CX
  refine CX.mono ?_
  rintro e v31 ⟨rfl, hb⟩
  have B31 : Hid (Below w.heap.size w v31) := B30.out.trans (hb.mono B30.out.size)
  clear hb B30 CX
  go_wp2_with fail
  refine (CA _ _ _).out.mono ?_
  rintro e v32 ⟨rfl, hb⟩
  have B32 : Hid (Below w.heap.size w v32) := B31.out.trans (hb.mono B31.out.size)
  clear hb B31
  go_wp2_with fail
  refine (CA _ _ _).out.mono ?_
  rintro e v33 ⟨rfl, hb⟩
  have B33 : Hid (Below w.heap.size w v33) := B32.out.trans (hb.mono B32.out.size)
  clear hb B32
  go_wp2_with fail
  have CX := Dist_any ⟨0, 0⟩ ⟨3, 4⟩ v33
  rw [sn12] at CX
  refine CX.mono ?_
  rintro e v34 ⟨rfl, hb⟩
  have B34 : Hid (Below w.heap.size w v34) := B33.out.trans (hb.mono B33.out.size)
  clear hb B33 CX
  go_wp2_with fail
  have CX := Root_any 26 v34 (by decide)
  rw [sn13] at CX
  refine CX.mono ?_
  rintro e w' ⟨rfl, rfl⟩
  clear CX
  go_wp2_with fail
  go_ret
  exact ⟨rfl, B34.out⟩
end Go.Proofs.Ytdefpcjlbganpaa
