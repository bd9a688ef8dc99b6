import Derived.RangeFuncNested
import Derived.RangeFuncBound
import Derived.RangeFuncCalls
import Derived.RangeFuncLeaves
import Derived.Test.YtmfhpddeclggfaaGreatDoorWHc
import Derived.RangeFuncBox
import Derived.Shelf.Abstract
import Derived.Shelf.RegionOpen
import Derived.OwnWalkIn
import Derived.TacticsInMore
import Derived.LoopNIn
import Derived.LoopIn
import Derived.Maps.AppendAt
import Derived.Maps.OwnIn
import Derived.RegionIn
import Derived.BigRegionIn
import Derived.Stop.RegionWithIn
import Derived.WalkKit
import Derived.LoopTactic
import Derived.WalkSpells
import Derived.WalkLawsBesides
import Derived.Lib.Hide
import Derived.BigQuiet
import Derived.IntWalk
import Derived.Deep.DeepMust
import Derived.WalkSmall
import Derived.StillTailTactics
import Derived.Deep.RegionLaw
import Derived.Deep.QuietTactic
import Derived.Deep.Cut
import Derived.Deep.DeepCutAuto
import Derived.Deep.LoopGhost
import Derived.Laws.AppendOwn
namespace Go.Proofs.YtmfhpddeclggfaaGreatDoor
open Go.RowKit
/-! The reference's pieces of a length that speak of a number: the walk. -/
open Go.Shelf
theorem RSp.ints {w1 W : World} {vl : Value} {a : List ByteArray × List Int} {zs : List Int} {q : Option Addr} {d : Nat} (h : RSp w1 W vl (.slice q zs.length d) a) (hz : a.2 = zs) : IntsAt W q zs := by
  subst hz
  obtain ⟨q0, d0, e, g, -⟩ := h.cop
  cases e
  exact g
set_option maxRecDepth 100000 in
set_option maxHeartbeats 4000000 in
theorem rOf (p : Option Addr) (cap : Nat) (ss : List SS) (n : Int) (len : Nat) (w : World) (hl : ss.length ≤ 8) (hos : ∀ j, (ss.getD j default).os.length ≤ 1000001) (hsz : ∀ j i, ((ss.getD j default).os.getD i ByteArray.empty).size ≤ 1000000) (hp : SortsAt w p ss) :
    Calls Tryz.prog 145 #[.slice p ss.length cap, .int .i64 n, .int .i64 len] w fun e w' => ∃ (vl : Value) (q : Option Addr) (d : Nat), e = .returned (.agg #[vl, .slice q (ofC n len ss ss.length).2.length d]) ∧ w'.ownsRow w.heap.size 9 1 vl (ofC n len ss ss.length).1.length (strsV (ofC n len ss ss.length).1) ∧ IntsAt w' q (ofC n len ss ss.length).2 ∧ PFrom w.heap.size q ∧ Below w.heap.size w w' := by
  have HP := Lib.hid hp
  have HOS := Lib.hid hos
  have HSZ := Lib.hid hsz
  obtain ⟨N, hN⟩ : ∃ N, Hid (ss.length = N) := ⟨_, rfl⟩
  rw [hN.out] at hl ⊢
  clear hp hos hsz
  have Z0 : Hid (Below w.heap.size w (w.alloc (.cells #[.slice none 0 0, .slice none 0 0] 218))) := below_alloc1 _ _
  have Y0 := Lib.hid (RSp.mk0 w 218)
  obtain ⟨w1, hw1⟩ : ∃ w1, Hid (w.alloc (.cells #[.slice none 0 0, .slice none 0 0] 218) = w1) := ⟨_, rfl⟩
  have HW1 : Hid (w1.heap.size = w.heap.size + 1) := by unfold Hid; rw [← hw1.out]; simp
  rw [hw1.out] at Z0 Y0
  have R0 := Lib.hid (RSp.mk0 w1 218)
  have CA := fun W q zs d k (h1 : zs.length ≤ 100000) (h2 : IntsAt W q zs) => Lib.hid (rAdd q d zs k W h1 h2)
  go_enter Tryz.func145, Tryz.ntmps145
  go_wp2_with fail
  rw [hw1.out, ← HW1.out]
  go_loopw [8] (fun i wr => ∃ (k : Nat) (vl vc : Value), k ≤ N ∧ i = .int .i64 k ∧ Hid (RSp w1 wr vl vc (ofC n len ss k))) (fun i _ => N - (intOf i).toNat)
  case atStart => exact ⟨0, _, _, Nat.zero_le _, rfl, R0⟩
  case round =>
    clear R0
    obtain ⟨k, vl0, vc0, hk, rfl, R⟩ := hrel
    by_cases hlt : k < N
    · have hkl : k < ss.length := by rw [hN.out]; exact hlt
      have HS1 := Lib.hid (HP.out.below Z0.out)
      obtain ⟨b, o, rfl, hbl, -, cx, -, hst⟩ := sort_at HS1.out hkl
      have HBL := Lib.hid hbl
      have CX0 := Lib.hid cx
      have HST := Lib.hid hst
      have cx := (R.out.bel.cell (p := ⟨b, o + k * 2 + 1, none⟩) hbl).trans cx
      have HOK := Lib.hid (HOS.out k)
      have HZK := Lib.hid (HSZ.out k)
      have HOC : Hid (ofC n len ss (k + 1) = ofP n len k (ofC n len ss k) (ss.getD k default).os) := rfl
      have HCL : Hid (∀ os, (ofP n len k (ofC n len ss k) os).2.length ≤ 100000) := fun os => Nat.le_trans (ofP_copies_le n len ss k os) (by omega)
      have HPL : Hid (∀ j, (ofP n len k (ofC n len ss k) ((ss.getD k default).os.take j)).1.length ≤ 10000000) := fun j => by
        have h1 := (ofP_len n len k ((ss.getD k default).os.take j) (ofC n len ss k)).1
        have h2 := ofC_pieces n len ss 1000001 HOS.out k
        have h3 := HOS.out k
        rw [List.length_take] at h1
        have : k * 1000001 ≤ 8 * 1000001 := Nat.mul_le_mul_right _ (by omega)
        omega
      obtain ⟨a0, ha0⟩ : ∃ a0, ofC n len ss k = a0 := ⟨_, rfl⟩
      rw [ha0] at HOC HCL HPL R
      obtain ⟨S, hS⟩ : ∃ S, ss.getD k default = S := ⟨_, rfl⟩
      rw [hS] at HOC HPL HOK HZK HST CX0 cx
      obtain ⟨os, hos⟩ : ∃ os, S.os = os := ⟨_, rfl⟩
      obtain ⟨oq, hoq⟩ : ∃ oq, S.op = oq := ⟨_, rfl⟩
      obtain ⟨oc, hoc⟩ : ∃ oc, S.oc = oc := ⟨_, rfl⟩
      rw [hos] at HOC HPL HOK HZK HST CX0 cx
      rw [hoq] at HST CX0 cx
      rw [hoc] at CX0 cx
      obtain ⟨M, hM⟩ : ∃ M, Hid (os.length = M) := ⟨_, rfl⟩
      rw [hM.out] at HOK CX0 cx
      have hMl := HOK.out
      have hlt' : (k : Int) < (N : Int) := by omega
      have hk0 : (0 : Int) ≤ (k : Int) := by omega
      clear hbl hst hos hoq hoc hS ha0
      go_wp2_with fail
      go_loopw [9] (fun j wz => ∃ (i : Nat) (vl vc : Value), i ≤ M ∧ j = .int .i64 i ∧ Hid (RSp w1 wz vl vc (ofP n len k a0 (os.take i)))) (fun j _ => M - (intOf j).toNat)
      case atStart => exact ⟨0, _, _, Nat.zero_le _, rfl, by rw [List.take_zero]; exact R⟩
      case round =>
        clear R
        obtain ⟨j, vl, vc, hj, rfl, R⟩ := hrel
        have cx := (R.out.bel.cell (p := ⟨b, o + k * 2 + 1, none⟩) HBL.out).trans CX0.out
        by_cases hlt2 : j < M
        · have hjl : j < os.length := by rw [hM.out]; exact hlt2
          obtain ⟨b2, o2, rfl, hb2, cc⟩ := str_at HST.out hjl
          have HB2 := Lib.hid hb2
          have HCC := Lib.hid cc
          have c1 := (R.out.bel.cell (p := ⟨b2, o2 + j, none⟩) hb2).trans cc
          have hxs := HZK.out j
          have HG := Lib.hid (ofP_snoc n len k a0 os j hjl)
          obtain ⟨x, hx⟩ : ∃ x, os.getD j ByteArray.empty = x := ⟨_, rfl⟩
          rw [hx] at c1 hxs HG HCC
          have SP := rSpeaks x wr hxs
          obtain ⟨oo, hoo⟩ : ∃ oo, Hid (spk x.data.toList = oo) := ⟨_, rfl⟩
          rw [hoo.out] at SP
          unfold spRes at SP
          have HOB : Hid (ofB n len x = (oo == some n && x.size == len)) := by unfold Hid ofB; rw [hoo.out]
          obtain ⟨at2, hat2⟩ : ∃ at2, Hid (ofP n len k a0 (os.take j) = at2) := ⟨_, rfl⟩
          have HC2 := HCL.out (os.take j)
          have HP2 := HPL.out j
          rw [hat2.out] at HG R HC2 HP2
          have HC2 := Lib.hid HC2
          have HP2 := Lib.hid HP2
          have hlt2' : (j : Int) < (M : Int) := by omega
          have hj0 : (0 : Int) ≤ (j : Int) := by omega
          obtain ⟨z, hz⟩ : ∃ z : Nat, Hid (x.size = z) := ⟨_, rfl⟩
          clear hx cc hb2
          cases oo with
          | none =>
            have SP1 : Hid (Calls Tryz.prog 43 #[.string x] wr fun e w' => e = .returned (.tuple #[.int .i64 0, .bool false]) ∧ Below wr.heap.size wr w') := SP
            have hst : Hid (ofP n len k a0 (os.take (j + 1)) = at2) := by unfold Hid; rw [HG.out, stO, HOB.out]; rfl
            clear SP HG HOB HPL HCL
            go_wp2_with fail
            refine SP1.out.mono ?_
            rintro e w2 ⟨rfl, hb⟩
            have R2 := Lib.hid (R.out.next hb)
            clear hb SP1
            go_wp2_with fail
            exact ⟨⟨j + 1, vl, vc, by omega, by go_num, by rw [hst.out]; exact R2⟩, by simp [intOf]; omega⟩
          | some y =>
            have SP1 : Hid (Calls Tryz.prog 43 #[.string x] wr fun e w' => e = .returned (.tuple #[.int .i64 y, .bool true]) ∧ Below wr.heap.size wr w') := SP
            by_cases hy : y = n
            · subst hy
              by_cases hlz : len = x.size
              · have hst : Hid (ofP y len k a0 (os.take (j + 1)) = (at2.1 ++ [x], addL at2.2 k)) := by unfold Hid; rw [HG.out, stO, HOB.out]; simp [hlz]
                subst hlz
                clear SP HG HOB HPL HCL
                go_wp2_with fail
                refine SP1.out.mono ?_
                rintro e w2 ⟨rfl, hb⟩
                have R2 := Lib.hid (R.out.next hb)
                have c2 := (hb.cell (p := ⟨b2, o2 + j, none⟩) (Nat.lt_of_lt_of_le HB2.out R.out.bel.size)).trans c1
                obtain ⟨q, d, rfl, -, -⟩ := R2.out.cop
                clear hb SP1 c1
                have R4 := fun X => Lib.hid (R2.out.next (below_alloc1 w2 X))
                have d0 := R2.out.c0
                have d4 := fun X => (R4 X).out.c0
                obtain ⟨j0, hj, hy0, hy1, hy4⟩ := info_parts inf9
                have HPm : Hid (at2.1.length + 1 ≤ maxLen) := by have := HP2.out; unfold Hid maxLen; omega
                have HPb : Hid ((at2.1.length + 1) * 16 ≤ 140737488355328) := by have := HP2.out; unfold Hid; omega
                have HNL : Hid (some w1.heap.size ≠ vl.ownBlock) := fun e => by have := (R2.out.row.lt _ e.symm).1; omega
                have HLW : Hid (w1.heap.size < w2.heap.size) := R2.out.lt
                obtain ⟨P1, hP1⟩ : ∃ P1, Hid (at2.1 = P1) := ⟨_, rfl⟩
                obtain ⟨C1, hC1⟩ : ∃ C1, Hid (at2.2 = C1) := ⟨_, rfl⟩
                go_wp2_with (first | (at_builtin; refine wpList_append_own_at _ rfl (.tmp 55) (.tmp 57) 37 rfl (w1.heap.size + 1) 9 j0 (.string ⟨#[]⟩) 1 16 Tryz.underlying37 hj hy0 hy1 hy4 rfl (by decide) vl at2.1.length (strsV at2.1) rfl (R4 _).out.row ⟨w2.heap.size, 0, none⟩ 1 1 (strsV [x]) rfl rfl (cells_new w2 #[.string x] 9) strsV_one HPm.out HPb.out (by have := HLW.out; simp; omega) ?_; intro v' w4 hown hgrow _ hat; obtain ⟨g', cap', rfl⟩ := ownsRow_succ hown; have hf4 := (World.frozen?_of_block (a := ⟨w1.heap.size, 0, none⟩) (hgrow.block _ (R4 _).out.lt HNL.out)).trans ((R4 _).out.fz 0); have hc4 := (World.cell?_of_block (a := ⟨w1.heap.size, 0, none⟩) (hgrow.block _ (R4 _).out.lt HNL.out)).trans (R4 _).out.c0; have R5 := Lib.hid (RSp.piece (x := x) (R4 _).out hown hgrow hat); have hc5 := R5.out.c1; have HI5 := Lib.hid (R5.out.ints (zs := at2.2) rfl); clear hown hgrow hat) | (refine (CA _ q at2.2 d k HC2.out HI5.out).out.mono ?_; rintro e w6 ⟨q', d', rfl, hq6, hor, hb6⟩; have R6 := Lib.hid (RSp.copy (d' := d') R5.out rfl hb6 (addL_ne _ _) hq6 hor); have hc6 := (R5.out.next hb6).c1; have hf6 := (R5.out.next hb6).fz 1; clear hq6 hor hb6))
                exact ⟨⟨j + 1, _, _, by omega, by go_num, by rw [hst.out]; exact R6⟩, by simp [intOf]; omega⟩
              · have hst : Hid (ofP y len k a0 (os.take (j + 1)) = at2) := by unfold Hid; rw [HG.out, stO, HOB.out]; simp [Ne.symm hlz]
                have hlz' : ((x.size : Int) == (len : Int)) = false := by rw [beq_eq_false_iff_ne]; omega
                clear SP HG HOB HPL HCL
                go_wp2_with fail
                refine SP1.out.mono ?_
                rintro e w2 ⟨rfl, hb⟩
                have R2 := Lib.hid (R.out.next hb)
                clear hb SP1
                go_wp2_with fail
                exact ⟨⟨j + 1, vl, vc, by omega, by go_num, by rw [hst.out]; exact R2⟩, by simp [intOf]; omega⟩
            · have hst : Hid (ofP n len k a0 (os.take (j + 1)) = at2) := by unfold Hid; rw [HG.out, stO, HOB.out]; simp [hy]
              have hy' : ((y : Int) == n) = false := by rw [beq_eq_false_iff_ne]; exact hy
              clear SP HG HOB HPL HCL
              go_wp2_with fail
              refine SP1.out.mono ?_
              rintro e w2 ⟨rfl, hb⟩
              have R2 := Lib.hid (R.out.next hb)
              clear hb SP1
              go_wp2_with fail
              exact ⟨⟨j + 1, vl, vc, by omega, by go_num, by rw [hst.out]; exact R2⟩, by simp [intOf]; omega⟩
        · obtain rfl : j = M := by omega
          have hst : Hid (ofC n len ss (k + 1) = ofP n len k a0 (os.take j)) := by
            unfold Hid
            rw [HOC.out, List.take_of_length_le (by rw [hM.out]; exact Nat.le_refl _)]
          go_wp2_with fail
          exact ⟨⟨k + 1, vl, vc, by omega, by go_num, by rw [hst.out]; exact R⟩, by simp [intOf]; omega⟩
    · obtain rfl : k = N := by omega
      have hbw : w.heap.size < w1.heap.size := by have := HW1.out; omega
      have c0 := R.out.c0
      have c1 := R.out.c1
      have r0 := (R.out.bel.cell (p := ⟨w.heap.size, 0, none⟩) hbw).trans Y0.out.c0
      have r1 := (R.out.bel.cell (p := ⟨w.heap.size, 1, none⟩) hbw).trans Y0.out.c1
      have f0 := (R.out.bel.frozen (p := ⟨w.heap.size, 0, none⟩) hbw).trans (Y0.out.fz 0)
      have f1 := (R.out.bel.frozen (p := ⟨w.heap.size, 1, none⟩) hbw).trans (Y0.out.fz 1)
      have BB : Hid (Below w.heap.size w wr) := Z0.out.trans (R.out.bel.mono (Nat.le_of_lt hbw))
      have HB := Lib.hid hbw
      clear hbw
      obtain ⟨a0, ha0⟩ : ∃ a0, ofC n len ss k = a0 := ⟨_, rfl⟩
      rw [ha0] at R
      obtain ⟨q2, c2', rfl, -, hqd⟩ := R.out.cop
      have HQD := Lib.hid hqd
      clear hqd
      obtain ⟨q1, n1, c1', rfl⟩ := own_slice R.out.row
      go_wp2_with fail
      refine bodyPost_ret (v := .agg #[.slice q1 n1 c1', .slice q2 a0.2.length c2']) (by simp [results, Tryz.results145, go_sem, r0, r1]) rfl ?_
      have hw1 := HW1.out
      have hi := R.out.ints (zs := a0.2) rfl
      rw [ha0]
      refine ⟨_, q2, c2', rfl, ?_, ?_, ?_, ?_⟩
      · exact ownsRow_base (row_grown (row_grown R.out.row (grownBy_setCellAt wr w.heap.size 0 _) (fun r e => by have := Option.some.inj e; omega)) (grownBy_setCellAt _ w.heap.size 1 _) (fun r e => by have := Option.some.inj e; omega)) (by omega)
      · refine hi.keep (by rw [World.size_setCell, World.size_setCell]; exact Nat.le_refl _) (fun ad e i => ?_)
        have := (HQD.out ad e).1
        rw [World.cell?_setCell_other _ _ _ _ (fun e' => by have := congrArg Addr.block e'; dsimp only at *; omega), World.cell?_setCell_other _ _ _ _ (fun e' => by have := congrArg Addr.block e'; dsimp only at *; omega)]
      · intro ad e
        have := (HQD.out ad e).1
        omega
      · exact (BB.out.setCell (p := ⟨w.heap.size, 0, none⟩) (Nat.le_refl _) _).setCell (p := ⟨w.heap.size, 1, none⟩) (Nat.le_refl _) _
end Go.Proofs.YtmfhpddeclggfaaGreatDoor
