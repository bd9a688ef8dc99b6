import Derived.Test.YtmfhpddeclggfaaGreatDoorVIfa
import Derived.Maps.Own
import Derived.Maps.OwnOps
import Derived.Maps.OwnSet
import Derived.Lib.SlKeysI
import Derived.RangeFuncNested
import Derived.RangeFuncBound
import Derived.RangeFuncCalls
import Derived.RangeFuncLeaves
import Derived.RangeFuncBox
import Derived.Shelf.Abstract
import Derived.Shelf.RegionOpen
import Derived.OwnWalkIn
import Derived.TacticsInMore
import Derived.LoopNIn
import Derived.LoopIn
import Derived.Maps.AppendAt
import Derived.Maps.OwnIn
import Derived.RegionIn
import Derived.BigRegionIn
import Derived.Stop.RegionWithIn
import Derived.WalkKit
import Derived.LoopTactic
import Derived.WalkSpells
import Derived.WalkLawsBesides
import Derived.Lib.Hide
import Derived.BigQuiet
import Derived.IntWalk
import Derived.Deep.DeepMust
import Derived.WalkSmall
import Derived.StillTailTactics
import Derived.Deep.RegionLaw
import Derived.Deep.QuietTactic
import Derived.Deep.Cut
import Derived.Deep.DeepCutAuto
import Derived.Deep.LoopGhost
import Derived.Laws.AppendOwn
import Derived.Deep.RegionHeld3
import Derived.Deep.AppendLies
import Derived.Test.YtmfhpddeclggfaaGreatDoorIfk
import Derived.Test.YtmfhpddeclggfaaGreatDoorVIfb
import Derived.Test.YtmfhpddeclggfaaGreatDoorVIg
import Derived.Test.YtmfhpddeclggfaaGreatDoorVIh
import Derived.Test.YtmfhpddeclggfaaGreatDoorVIia
import Derived.Test.YtmfhpddeclggfaaGreatDoorVIib
import Derived.Test.YtmfhpddeclggfaaGreatDoorKf
import Derived.Test.YtmfhpddeclggfaaGreatDoorVIic
import Derived.Test.YtmfhpddeclggfaaGreatDoorVc
import Derived.Test.YtmfhpddeclggfaaGreatDoorVMa
namespace Go.Proofs.YtmfhpddeclggfaaGreatDoor
open Go.RowKit
/-! Readings that are alike but for their copies. -/
theorem fkeyS_at {fs gs : List (FL × List Int)} (h : fs.map (kS ∘ kG) = gs.map (kS ∘ kG)) {k : Nat} (hk : k < fs.length) : kS (kG (fs.getD k default)) = kS (kG (gs.getD k default)) := by
  have hl : fs.length = gs.length := by simpa using congrArg List.length h
  have h1 := congrArg (fun l => l[k]?) h
  simp only [List.getElem?_map] at h1
  rw [List.getElem?_eq_getElem hk, List.getElem?_eq_getElem (by omega)] at h1
  rw [List.getD, List.getD, List.getElem?_eq_getElem hk, List.getElem?_eq_getElem (by omega)]
  simpa using h1
set_option maxRecDepth 100000 in
set_option maxHeartbeats 4000000 in
theorem sameFoundF (p q : Option Addr) (c d : Nat) (fs gs : List (FL × List Int)) (w : World) (hl : fs.length ≤ maxLen) (hk : fs.map (kS ∘ kG) = gs.map (kS ∘ kG)) (hw : ∀ j, (fs.getD j default).1.g.ws.length ≤ maxLen) (hp : FoundsC w p fs) (hq : FoundsC w q gs) :
    Calls Tryz.prog 70 #[.slice p fs.length c, .slice q gs.length d, .bool false] w fun e w' => e = .returned (.bool true) ∧ Below w.heap.size w w' := by
  have hlen : gs.length = fs.length := by simpa using (congrArg List.length hk).symm
  have HK := Lib.hid hk
  have HW := Lib.hid hw
  have HP := Lib.hid hp
  have HQ := Lib.hid hq
  have HL2 := Lib.hid hlen
  rw [hlen]
  obtain ⟨N, hN⟩ : ∃ N, Hid (fs.length = N) := ⟨_, rfl⟩
  rw [hN.out] at hl ⊢
  unfold maxLen at hl
  clear hk hw hp hq hlen
  go_enter Tryz.func70, Tryz.ntmps70
  go_wp2_with fail
  go_loopw [7] (fun i wr => ∃ k : Nat, k ≤ N ∧ i = .int .i64 k ∧ Hid (Below w.heap.size w wr)) (fun i _ => N - (nOf i).toNat)
  case atStart => exact ⟨0, Nat.zero_le _, rfl, Below.refl _ _⟩
  case round =>
    obtain ⟨k, hk, rfl, B⟩ := hrel
    by_cases hlt : k < N
    · have hkf : k < fs.length := by rw [hN.out]; exact hlt
      have hkg : k < gs.length := by rw [HL2.out]; exact hkf
      have hkey := fkeyS_at HK.out hkf
      have hwl := HW.out k
      have hc1 := (HP.out.below B.out).2 k hkf
      have hc2 := (HQ.out.below B.out).2 k hkg
      obtain ⟨n, q1, c1, ws, cp1, cn1, cc1, rs, zs, hf⟩ := fc_cases (fs.getD k default)
      obtain ⟨n2, q2, c2, ws2, cp2, cn2, cc2, rs2, zs2, hg⟩ := fc_cases (gs.getD k default)
      rw [hf, hg] at hkey
      simp only [kS, kG, Prod.mk.injEq] at hkey
      obtain ⟨rfl, rfl, rfl⟩ := hkey
      rw [hf] at hc1 hwl
      rw [hg] at hc2
      obtain ⟨i1, e1⟩ := hc1
      obtain ⟨i2, e2⟩ := hc2
      simp only at i1 e1 i2 e2 hwl
      subst e1
      subst e2
      obtain ⟨b, o, rfl, hb1, a0, a1, a2, a3, a4⟩ := fd_at (HP.out.below B.out).1 (k := k) (by rw [List.length_map]; exact hkf) (by rw [fst_at hkf, hf])
      obtain ⟨b', o', rfl, hb2, b0, b1, b2, b3, b4⟩ := fd_at (HQ.out.below B.out).1 (k := k) (by rw [List.length_map]; exact hkg) (by rw [fst_at hkg, hg])
      have hsame : sameB n n ws ws = true := sameB_yes rfl (fun _ _ => rfl)
      have CS : Hid (∀ W, Below wr.heap.size wr W → Calls Tryz.prog 37 #[.agg #[.int .i64 n, .slice q1 ws.length c1], .agg #[.int .i64 n, .slice q2 ws.length c2]] W fun e w' => e = .returned (.bool true) ∧ Below W.heap.size W w') := fun W hbW => by
        have := rSame n n q1 q2 c1 c2 ws ws W hwl (a4.below hbW) (b4.below hbW)
        rwa [hsame] at this
      have HB1 := Lib.hid hb1
      have HB2 := Lib.hid hb2
      have A2 := Lib.hid a2
      have A3 := Lib.hid a3
      have D2 := Lib.hid b2
      have D3 := Lib.hid b3
      obtain ⟨L, hL⟩ : ∃ L, ws.length = L := ⟨_, rfl⟩
      rw [hL] at a1 b1 CS
      have hlt' : (k : Int) < (N : Int) := by omega
      have hk0 : (0 : Int) ≤ (k : Int) := by omega
      clear hf hg hwl i1 i2 a4 b4 hsame hL hkf hkg hb1 hb2 a2 a3 b2 b3
      go_wp2_with fail
      go_region_with (refine (CS.out _ (Below.refl _ _).drew).mono ?_; rintro e w2 ⟨rfl, hb3⟩)
      all_goals
        have BW : Hid (Below wr.heap.size wr w2) := ((Below.refl _ _).drew).trans (hb3.mono (Nat.le_refl _))
        have x2 := (BW.out.cell (p := ⟨b, o + k * 4 + 2, none⟩) HB1.out).trans A2.out
        have x3 := (BW.out.cell (p := ⟨b, o + k * 4 + 3, none⟩) HB1.out).trans A3.out
        have y2 := (BW.out.cell (p := ⟨b', o' + k * 4 + 2, none⟩) HB2.out).trans D2.out
        have y3 := (BW.out.cell (p := ⟨b', o' + k * 4 + 3, none⟩) HB2.out).trans D3.out
        have B3 : Hid (Below w.heap.size w w2) := B.out.trans (BW.out.mono B.out.size)
        clear hb3 a0 a1 b0 b1 CS HK HW HP HQ HL2 hN
        cases rs
        all_goals
          simp only [List.getElem_toArray, List.getElem_cons_succ, List.getElem_cons_zero, Act.put, List.setIfInBounds_toArray, List.set_cons_succ, List.set_cons_zero]
          go_wp2_with fail
          go_quiet (fail)
          go_wp2_with fail
          exact ⟨⟨k + 1, by omega, by go_num, below_drewN B3.out nq⟩, by simp [nOf]; omega⟩
    · obtain rfl : k = N := by omega
      go_wp2_with fail
      go_ret
      exact ⟨rfl, B.out⟩
end Go.Proofs.YtmfhpddeclggfaaGreatDoor
