import Derived.Test.YtmfhpddeclggfaaGreatDoorWIfa
import Derived.Maps.Own
import Derived.Maps.OwnOps
import Derived.Maps.OwnSet
import Derived.Lib.SlKeysI
import Derived.RangeFuncNested
import Derived.RangeFuncBound
import Derived.RangeFuncCalls
import Derived.RangeFuncLeaves
import Derived.RangeFuncBox
import Derived.Shelf.Abstract
import Derived.Shelf.RegionOpen
import Derived.OwnWalkIn
import Derived.TacticsInMore
import Derived.LoopNIn
import Derived.LoopIn
import Derived.Maps.AppendAt
import Derived.Maps.OwnIn
import Derived.RegionIn
import Derived.BigRegionIn
import Derived.Stop.RegionWithIn
import Derived.WalkKit
import Derived.LoopTactic
import Derived.WalkSpells
import Derived.WalkLawsBesides
import Derived.Lib.Hide
import Derived.BigQuiet
import Derived.IntWalk
import Derived.Deep.DeepMust
import Derived.WalkSmall
import Derived.StillTailTactics
import Derived.Deep.RegionLaw
import Derived.Deep.QuietTactic
import Derived.Deep.Cut
import Derived.Deep.DeepCutAuto
import Derived.Deep.LoopGhost
import Derived.Laws.AppendOwn
import Derived.Deep.RegionHeld3
import Derived.Deep.AppendLies
import Derived.Test.YtmfhpddeclggfaaGreatDoorIfk
import Derived.Test.YtmfhpddeclggfaaGreatDoorWIfb
import Derived.Test.YtmfhpddeclggfaaGreatDoorWIg
import Derived.Test.YtmfhpddeclggfaaGreatDoorWIh
import Derived.Test.YtmfhpddeclggfaaGreatDoorWIia
import Derived.Test.YtmfhpddeclggfaaGreatDoorWIib
import Derived.Test.YtmfhpddeclggfaaGreatDoorKf
import Derived.Test.YtmfhpddeclggfaaGreatDoorWIic
import Derived.Test.YtmfhpddeclggfaaGreatDoorWc
import Derived.Test.YtmfhpddeclggfaaGreatDoorWMa
import Derived.Test.YtmfhpddeclggfaaGreatDoorWMb
import Derived.Test.YtmfhpddeclggfaaGreatDoorWCz
import Derived.Test.YtmfhpddeclggfaaGreatDoorWMc
import Derived.Test.YtmfhpddeclggfaaGreatDoorWHa
import Derived.Laws.OwnMore
import Derived.Test.YtmfhpddeclggfaaGreatDoorWCx
import Derived.Test.YtmfhpddeclggfaaGreatDoorWHh
import Derived.Test.YtmfhpddeclggfaaGreatDoorWHf
import Derived.Test.YtmfhpddeclggfaaGreatDoorWHe
namespace Go.Proofs.YtmfhpddeclggfaaGreatDoor
open Go.RowKit
/-! The reference's restored lines: the walk. -/
open Go.Shelf
set_option maxRecDepth 100000 in
set_option maxHeartbeats 4000000 in
theorem rRestored (p : Option Addr) (cap : Nat) (ss : List SS) (n : Int) (w : World) (hl : ss.length ≤ 8) (hos : ∀ j, (ss.getD j default).os.length ≤ 100000) (hsz : ∀ j i, ((ss.getD j default).os.getD i ByteArray.empty).size ≤ 1000000) (hp : SortsAt w p ss) :
    Calls Tryz.prog 111 #[.slice p ss.length cap, .int .i64 n] w fun e w' => ∃ vo vs fs, e = .returned vo ∧ RT w w' vo vs fs (rsC n ss ss.length).2 ∧ fs.map kF = (rsC n ss ss.length).1 ∧ ∀ k, k < fs.length → (fs.getD k default).1.g.n = n ∧ (fs.getD k default).1.rs = true ∧ PFrom w.heap.size (fs.getD k default).1.g.p ∧ PFrom w.heap.size (fs.getD k default).1.cp := by
  have HP := Lib.hid hp
  have HOS := Lib.hid hos
  have HSZ := Lib.hid hsz
  have OF := fun (len : Nat) (W : World) (hb : Below w.heap.size w W) => Lib.hid (rOf p cap ss n len W hl (fun j => Nat.le_trans (hos j) (by omega)) hsz (hp.below hb))
  have OL := fun (len : Nat) => Lib.hid (ofC_pieces n len ss 100000 hos ss.length)
  have OC := fun (len : Nat) => Lib.hid (ofC_copies n len ss ss.length)
  obtain ⟨N, hN⟩ : ∃ N, Hid (ss.length = N) := ⟨_, rfl⟩
  rw [hN.out] at hl ⊢
  simp only [hN.out] at OF OL OC
  clear hp hos hsz
  have R0 := Lib.hid (RT.mk0 w)
  go_enter Tryz.func111, Tryz.ntmps111
  go_wp2_with fail
  go_loopw [5, 6, 7] (fun vo vs i wr => ∃ (k : Nat) (fs : List (FL × List Int)), k ≤ N ∧ i = .int .i64 k ∧ Hid (RT w wr vo vs fs (rsC n ss k).2) ∧ Hid (fs.map kF = (rsC n ss k).1) ∧ Hid (∀ k, k < fs.length → (fs.getD k default).1.g.n = n ∧ (fs.getD k default).1.rs = true ∧ PFrom w.heap.size (fs.getD k default).1.g.p ∧ PFrom w.heap.size (fs.getD k default).1.cp)) (fun _ _ i _ => N - (intOf i).toNat)
  case atStart => exact ⟨0, [], Nat.zero_le _, rfl, R0, rfl, fun _ h => absurd h (Nat.not_lt_zero _)⟩
  case round =>
    clear R0
    obtain ⟨k, fs0, hk, rfl, R, RK0, RN⟩ := hrel
    by_cases hlt : k < N
    · have hkl : k < ss.length := by rw [hN.out]; exact hlt
      obtain ⟨b, o, rfl, hbl, -, cx, -, hst⟩ := sort_at HP.out hkl
      have HBL := Lib.hid hbl
      have CX0 := Lib.hid cx
      have HST := Lib.hid hst
      have cx := (R.out.bel.cell (p := ⟨b, o + k * 2 + 1, none⟩) hbl).trans cx
      have HOK := Lib.hid (HOS.out k)
      have HZK := Lib.hid (HSZ.out k)
      have HOC : Hid (rsC n ss (k + 1) = rsP n ss (rsC n ss k) (ss.getD k default).os) := rfl
      have HPL : Hid (∀ j, (rsP n ss (rsC n ss k) ((ss.getD k default).os.take j)).1.length ≤ 1000000 ∧ (rsP n ss (rsC n ss k) ((ss.getD k default).os.take j)).2.length ≤ 1000000) := fun j => by
        have h1 := rsP_len n ss ((ss.getD k default).os.take j) (rsC n ss k)
        have h2 := rsC_len n ss 100000 HOS.out k
        have h3 := HOS.out k
        rw [List.length_take] at h1
        have : k * 100000 ≤ 8 * 100000 := Nat.mul_le_mul_right _ (by omega)
        omega
      obtain ⟨a0, ha0⟩ : ∃ a0, rsC n ss k = a0 := ⟨_, rfl⟩
      rw [ha0] at HOC HPL R RK0
      obtain ⟨S, hS⟩ : ∃ S, ss.getD k default = S := ⟨_, rfl⟩
      rw [hS] at HOC HPL HOK HZK HST CX0 cx
      obtain ⟨os, hos⟩ : ∃ os, S.os = os := ⟨_, rfl⟩
      obtain ⟨oq, hoq⟩ : ∃ oq, S.op = oq := ⟨_, rfl⟩
      obtain ⟨oc, hoc⟩ : ∃ oc, S.oc = oc := ⟨_, rfl⟩
      rw [hos] at HOC HPL HOK HZK HST CX0 cx
      rw [hoq] at HST CX0 cx
      rw [hoc] at CX0 cx
      obtain ⟨M, hM⟩ : ∃ M, Hid (os.length = M) := ⟨_, rfl⟩
      rw [hM.out] at HOK CX0 cx
      have hMl := HOK.out
      have hlt' : (k : Int) < (N : Int) := by omega
      have hk0 : (0 : Int) ≤ (k : Int) := by omega
      clear hbl hst hos hoq hoc hS ha0
      go_wp2_with fail
      go_loopw [5, 6, 8] (fun vo vs j wz => ∃ (i : Nat) (fs : List (FL × List Int)), i ≤ M ∧ j = .int .i64 i ∧ Hid (RT w wz vo vs fs (rsP n ss a0 (os.take i)).2) ∧ Hid (fs.map kF = (rsP n ss a0 (os.take i)).1) ∧ Hid (∀ k, k < fs.length → (fs.getD k default).1.g.n = n ∧ (fs.getD k default).1.rs = true ∧ PFrom w.heap.size (fs.getD k default).1.g.p ∧ PFrom w.heap.size (fs.getD k default).1.cp)) (fun _ _ j _ => M - (intOf j).toNat)
      case atStart => exact ⟨0, _, Nat.zero_le _, rfl, by rw [List.take_zero]; exact R, by rw [List.take_zero]; exact RK0, RN⟩
      case round =>
        clear R RK0 RN
        obtain ⟨j, fs, hj, rfl, R, RK1, RN⟩ := hrel
        have cx := (R.out.bel.cell (p := ⟨b, o + k * 2 + 1, none⟩) HBL.out).trans CX0.out
        by_cases hlt2 : j < M
        · have hjl : j < os.length := by rw [hM.out]; exact hlt2
          obtain ⟨b2, o2, rfl, hb2, cc⟩ := str_at HST.out hjl
          have HB2 := Lib.hid hb2
          have HCC := Lib.hid cc
          have c1 := (R.out.bel.cell (p := ⟨b2, o2 + j, none⟩) hb2).trans cc
          have hxs := HZK.out j
          have HG := Lib.hid (rsP_snoc n ss a0 os j hjl)
          obtain ⟨x, hx⟩ : ∃ x, os.getD j ByteArray.empty = x := ⟨_, rfl⟩
          rw [hx] at c1 hxs HG HCC
          have HXS := Lib.hid hxs
          have SP := rSpeaks x wr hxs
          obtain ⟨oo, hoo⟩ : ∃ oo, Hid (spk x.data.toList = oo) := ⟨_, rfl⟩
          rw [hoo.out] at SP
          unfold spRes at SP
          obtain ⟨at2, hat2⟩ : ∃ at2, Hid (rsP n ss a0 (os.take j) = at2) := ⟨_, rfl⟩
          have HP2 := Lib.hid (HPL.out j)
          rw [hat2.out] at HG R HP2 RK1
          obtain ⟨q, c, rfl, hq⟩ := ints_own R.out.rs
          have HQ := Lib.hid hq
          obtain ⟨C, hC⟩ : ∃ C, Hid (at2.2.length = C) := ⟨_, rfl⟩
          have HCl : Hid (C ≤ 1000000) := by unfold Hid; have h1 := HP2.out.2; have h2 := hC.out; omega
          obtain ⟨y, ok, SP1, HSO⟩ : ∃ (y : Int) (ok : Bool), Hid (Calls Tryz.prog 43 #[.string x] wr fun e w' => e = .returned (.tuple #[.int .i64 y, .bool ok]) ∧ Below wr.heap.size wr w') ∧ Hid (spk x.data.toList = some n ↔ (ok = true ∧ y = n)) := by
            cases oo with
            | none => exact ⟨0, false, SP, by unfold Hid; rw [hoo.out]; simp⟩
            | some y => exact ⟨y, true, SP, by unfold Hid; rw [hoo.out]; simp⟩
          have hCl := HCl.out
          have hlt2' : (j : Int) < (M : Int) := by omega
          have hj0 : (0 : Int) ≤ (j : Int) := by omega
          have HST2 : Hid (stT n ss at2 x = if (ok = true ∧ y = n) ∧ ¬ (x.size : Int) ∈ at2.2 then (at2.1 ++ rs1 n (ofC n x.size ss N), at2.2 ++ [(x.size : Int)]) else at2) := by
            unfold Hid stT
            rw [hN.out]
            simp only [HSO.out]
          rw [HST2.out] at HG
          rw [hC.out]
          clear hx cc hb2 hq SP hxs HST2
          go_wp2_with fail
          refine SP1.out.mono ?_
          rintro e w2 ⟨rfl, hb⟩
          have R2 := Lib.hid (R.out.next hb)
          have HQ2 : Hid (IntsAt w2 q at2.2) := HQ.out.below hb
          clear hb SP1 c1
          go_wp2_with fail
          go_loopw [12, 13] (fun v i wz => ∃ (t : Nat), t ≤ C ∧ i = .int .i64 t ∧ v = .bool (decide ((x.size : Int) ∈ at2.2.take t)) ∧ Hid (Below w2.heap.size w2 wz)) (fun _ i _ => C - (intOf i).toNat)
          case atStart => exact ⟨0, Nat.zero_le _, rfl, by simp, Below.refl _ _⟩
          case round =>
            obtain ⟨t, ht, rfl, rfl, B⟩ := hrel
            by_cases hlt3 : t < C
            · have htl : t < at2.2.length := by rw [hC.out]; exact hlt3
              obtain ⟨b3, o3, rfl, -, c3⟩ := int_at (HQ2.out.below B.out) htl
              have HTK := Lib.hid (take_mem_snoc at2.2 (x.size : Int) htl)
              obtain ⟨z3, hz3⟩ : ∃ z3, at2.2.getD t 0 = z3 := ⟨_, rfl⟩
              rw [hz3] at HTK c3
              obtain ⟨dd, hdd⟩ : ∃ dd, decide ((x.size : Int) ∈ at2.2.take t) = dd := ⟨_, rfl⟩
              rw [hdd] at HTK ⊢
              have hlt3' : (t : Int) < (C : Int) := by omega
              have ht0 : (0 : Int) ≤ (t : Int) := by omega
              clear hz3 hdd
              cases dd with
              | true =>
                go_wp2_with fail
                exact ⟨⟨t + 1, by omega, by go_num, by rw [HTK.out]; simp, B⟩, by simp [intOf]; omega⟩
              | false =>
                go_wp2_with fail
                exact ⟨⟨t + 1, by omega, by go_num, by rw [HTK.out]; simp, B⟩, by simp [intOf]; omega⟩
            · obtain rfl : C = t := by omega
              have R3 := Lib.hid (R2.out.next B.out)
              have HTT : Hid (at2.2.take C = at2.2) := List.take_of_length_le (by rw [hC.out]; exact Nat.le_refl _)
              rw [HTT.out]
              have HRS : Hid (wr.ownsRow w.heap.size 3 1 (.slice q C c) C (cellsI at2.2)) := by have h := R3.out.rs; rw [hC.out] at h; exact h
              have h3 := R3.out
              rw [hC.out] at h3
              have R3 := Lib.hid h3
              clear h3
              have skip : (¬ ((ok = true ∧ y = n) ∧ ¬ (x.size : Int) ∈ at2.2)) → Hid (rsP n ss a0 (os.take (j + 1)) = at2) := fun h => by unfold Hid; rw [HG.out, if_neg h]
              clear R R2 HQ HQ2 HTT B hlt3
              by_cases hok : ok = true
              · subst hok
                by_cases hy : y = n
                · subst hy
                  by_cases hm : (x.size : Int) ∈ at2.2
                  · have hst := skip (fun h => h.2 hm)
                    have hmd : decide ((x.size : Int) ∈ at2.2) = true := decide_eq_true hm
                    rw [hmd]
                    clear HG skip
                    go_wp2_with fail
                    exact ⟨⟨j + 1, fs, by omega, by go_num, by rw [hst.out]; exact R3, by rw [hst.out]; exact RK1, RN⟩, by simp [intOf]; omega⟩
                  · have hmd : decide ((x.size : Int) ∈ at2.2) = false := decide_eq_false hm
                    have HG2 : Hid (rsP y ss a0 (os.take (j + 1)) = (at2.1 ++ rs1 y (ofC y x.size ss N), at2.2 ++ [(x.size : Int)])) := by unfold Hid; rw [HG.out, if_pos ⟨⟨rfl, rfl⟩, hm⟩]
                    rw [hmd]
                    clear HG skip
                    obtain ⟨i0, hi, hz0, hz1, hz4⟩ := info_parts inf3
                    have HFm : Hid (C + 1 ≤ maxLen) := by have := HCl.out; unfold Hid maxLen; omega
                    have HFb : Hid ((C + 1) * 8 ≤ 140737488355328) := by have := HCl.out; unfold Hid; omega
                    have HWS2 : Hid (w.heap.size ≤ wr.heap.size) := R3.out.bel.size
                    have R4 := fun X => Lib.hid (R3.out.next (below_alloc1 wr X))
                    have PD : Hid ((wr.alloc (.cells #[.int .i64 (x.size : Int)] 3)).ownsRow w.heap.size 3 1 (.slice q C c) C (cellsI at2.2) ∧ w.heap.size ≤ (wr.alloc (.cells #[.int .i64 (x.size : Int)] 3)).heap.size) :=
                      ⟨HRS.out.alloc _, Nat.le_trans HWS2.out (below_alloc1 wr _).size⟩
                    have PR := Lib.hid (R3.out.next (below_alloc1 wr (.cells #[.int .i64 (x.size : Int)] 3)))
                    have NW : Hid (∀ j u, ([.int .i64 (x.size : Int)] : List Value)[j]? = some u → (wr.alloc (.cells #[.int .i64 (x.size : Int)] 3)).cell? ((⟨wr.heap.size, 0, none⟩ : Addr).add j) = some u) := cells_new wr #[.int .i64 (x.size : Int)] 3
                    go_upto_region 17 with (fail)
                    go_wp2_with (at_builtin; refine wpList_append_own_at _ rfl (.tmp 80) (.tmp 82) 85 rfl w.heap.size 3 i0 (.int .i64 0) 1 8 Tryz.underlying85 hi hz0 hz1 hz4 rfl (by decide) (.slice q C c) C (cellsI at2.2) rfl PD.out.1 ⟨wr.heap.size, 0, none⟩ 1 1 (cellsI [(x.size : Int)]) rfl rfl NW.out cellsI_one HFm.out HFb.out PD.out.2 ?_; intro v' w4 hown hgrow _ hat; obtain ⟨g', cap', rfl⟩ := ownsRow_succ hown; have R5 := Lib.hid (RT.see (z := (x.size : Int)) PR.out (by rw [hC.out]; exact hown) hgrow hat); clear hown hgrow hat)
                    refine (OF x.size w4 R5.out.bel).out.mono ?_
                    rintro e w5 ⟨vl, q5, d5, rfl, hrow, hints, hpf, hb5⟩
                    have OL5 := (OL x.size).out
                    have OZ5 := ofC_size y x.size ss N
                    obtain ⟨c5, hc5⟩ : ∃ c5, ofC y x.size ss N = c5 := ⟨_, rfl⟩
                    rw [hc5] at hrow hints OL5 OZ5 HG2 ⊢
                    obtain ⟨q6, d6, rfl, hst6⟩ := strs_own hrow
                    have OV6 : Hid (∀ W, Below w5.heap.size w5 W → Calls Tryz.prog 51 #[.slice q6 c5.1.length d6] W fun e w' => e = .returned (.tuple #[.string (ovS (ovO c5.1)), .bool (ovO c5.1).isSome]) ∧ Below W.heap.size W w') := fun W hb => by
                      have h9 := rOverlay q6 d6 c5.1 W (by omega) (fun i hi => by
                        have h8 := OZ5 _ (getD_mem hi)
                        rw [h8]
                        exact HXS.out) (hst6.below hb)
                      rwa [ovRes_eq] at h9
                    have R6 := Lib.hid (R5.out.next hb5)
                    have HI6 := Lib.hid hints
                    have HPF6 := Lib.hid hpf
                    have HB6 := Lib.hid hb5
                    have OZ7 := Lib.hid OZ5
                    clear hb5 hrow hints hpf hst6 OL5 OZ5 PR NW PD R4 R3
                    go_wp2_with fail
                    have N6 := Lib.hid (fun o u h => nw_at w5 #[.slice q6 c5.1.length d6, .slice q5 c5.2.length d5] 218 o u h)
                    have BA6 : Hid (Below w5.heap.size w5 (w5.alloc (.cells #[.slice q6 c5.1.length d6, .slice q5 c5.2.length d5] 218))) := below_alloc1 _ _
                    have HW6 : Hid ((w5.alloc (.cells #[.slice q6 c5.1.length d6, .slice q5 c5.2.length d5] 218)).heap.size = w5.heap.size + 1) := by unfold Hid; simp
                    obtain ⟨W6, hW6⟩ : ∃ W6, Hid (w5.alloc (.cells #[.slice q6 c5.1.length d6, .slice q5 c5.2.length d5] 218) = W6) := ⟨_, rfl⟩
                    rw [hW6.out] at N6 BA6 HW6 ⊢
                    have OV7 := Lib.hid (OV6.out W6 BA6.out)
                    have HTZ : Hid ((ovS (ovO c5.1)).size ≤ 1000000) := Nat.le_trans (ovS_size c5.1 x.size (fun i hi => Nat.le_of_eq (OZ7.out _ (getD_mem hi)))) HXS.out
                    have HRS1 : Hid (rs1 y c5 = if (ovO c5.1).isSome = true ∧ readErr (ovS (ovO c5.1)) = 0 ∧ rdn (ovS (ovO c5.1)) = y then [(rdw (ovS (ovO c5.1)), c5.2)] else []) := rfl
                    obtain ⟨T, hT⟩ : ∃ T, ovS (ovO c5.1) = T := ⟨_, rfl⟩
                    obtain ⟨is, his⟩ : ∃ is, (ovO c5.1).isSome = is := ⟨_, rfl⟩
                    rw [hT] at OV7 HTZ HRS1
                    rw [his] at OV7 HRS1
                    clear OV6 hW6 hT his
                    refine OV7.out.mono ?_
                    rintro e w7 ⟨rfl, hb7⟩
                    have R7 := Lib.hid ((R6.out.next BA6.out).next hb7)
                    have HB7 := Lib.hid hb7
                    have RD := Lib.hid (rReadF T w7 HTZ.out)
                    clear hb7 OV7 R6
                    go_wp2_with fail
                    refine RD.out.mono ?_
                    rintro e w8 ⟨p8, c8, rfl, hb8, hst8, hpf8⟩
                    have R8 := Lib.hid (R7.out.next hb8)
                    have HB8 := Lib.hid hb8
                    have HS8 := Lib.hid hst8
                    have HP8 := Lib.hid hpf8
                    clear hb8 hst8 hpf8 RD
                    obtain ⟨nn, hnn⟩ : ∃ nn, rdn T = nn := ⟨_, rfl⟩
                    obtain ⟨vw, hvw⟩ : ∃ vw, rdw T = vw := ⟨_, rfl⟩
                    obtain ⟨er, her⟩ : ∃ er, readErr T = er := ⟨_, rfl⟩
                    rw [hnn, her, hvw] at HRS1
                    rw [hvw] at HS8
                    rw [hnn, her, hvw]
                    clear hnn her hvw
                    have h5w : w5.heap.size < w8.heap.size := by have := HW6.out; have := HB7.out.size; have := HB8.out.size; omega
                    have x1 : w8.cell? ⟨w5.heap.size, 1, none⟩ = some (.slice q5 c5.2.length d5) := (HB8.out.cell (p := ⟨w5.heap.size, 1, none⟩) (by have := HW6.out; have := HB7.out.size; show w5.heap.size < _; omega)).trans ((HB7.out.cell (p := ⟨w5.heap.size, 1, none⟩) (by have := HW6.out; show w5.heap.size < _; omega)).trans (N6.out 1 _ rfl))
                    have RNX := fun X => Lib.hid (R8.out.next (below_alloc1 w8 X))
                    have noRs : rs1 y c5 = [] → Hid (rsP y ss a0 (os.take (j + 1)) = (at2.1, at2.2 ++ [(x.size : Int)])) := fun h => by unfold Hid; rw [HG2.out, h, List.append_nil]
                    cases is with
                    | false =>
                      have hst := noRs (by rw [HRS1.out, if_neg (fun h => by cases h.1)])
                      clear noRs HG2 HRS1 R5 R7 N6
                      go_wp2_with fail
                      exact ⟨⟨j + 1, fs, by omega, by go_num, by rw [hst.out]; exact RNX _, by rw [hst.out]; exact RK1, RN⟩, by simp [intOf]; omega⟩
                    | true =>
                      by_cases he0 : er = 0
                      · subst he0
                        by_cases hny : nn = y
                        · subst hny
                          have hst : Hid (rsP nn ss a0 (os.take (j + 1)) = (at2.1 ++ [(vw, c5.2)], at2.2 ++ [(x.size : Int)])) := by unfold Hid; rw [HG2.out, HRS1.out, if_pos ⟨rfl, rfl, rfl⟩]
                          clear noRs HG2 HRS1
                          obtain ⟨qo, co, rfl⟩ := own_slice2 R8.out.ro
                          have RX := Lib.hid ((R8.out.next (below_alloc1 w8 (.cells #[.int .i64 nn, .slice p8 vw.length c8, .int .i64 0] 46))).next (below_alloc1 _ (.cells #[.int .i64 nn, .slice p8 vw.length c8, .slice q5 c5.2.length d5, .bool true] 87)))
                          have BX8 : Hid (Below w8.heap.size w8 ((w8.alloc (.cells #[.int .i64 nn, .slice p8 vw.length c8, .int .i64 0] 46)).alloc (.cells #[.int .i64 nn, .slice p8 vw.length c8, .slice q5 c5.2.length d5, .bool true] 87))) := (below_alloc1 _ _).alloc (by simp) _
                          have hsX := HS8.out.below BX8.out
                          have hiX := (((HI6.out.below BA6.out).below HB7.out).below HB8.out).below BX8.out
                          have OS := Lib.hid (RT.offS R7.out hsX HP8.out)
                          have OI := Lib.hid (RT.offI R5.out hiX HPF6.out)
                          have HSX := Lib.hid hsX
                          have HIX := Lib.hid hiX
                          have NX : Hid (∀ j u, ([.int .i64 nn, .slice p8 vw.length c8, .slice q5 c5.2.length d5, .bool true] : List Value)[j]? = some u → ((w8.alloc (.cells #[.int .i64 nn, .slice p8 vw.length c8, .int .i64 0] 46)).alloc (.cells #[.int .i64 nn, .slice p8 vw.length c8, .slice q5 c5.2.length d5, .bool true] 87)).cell? ((⟨w8.heap.size + 1, 0, none⟩ : Addr).add j) = some u) := by
                            have h9 := cells_new (w8.alloc (.cells #[.int .i64 nn, .slice p8 vw.length c8, .int .i64 0] 46)) #[.int .i64 nn, .slice p8 vw.length c8, .slice q5 c5.2.length d5, .bool true] 87
                            rw [show (w8.alloc (.cells #[.int .i64 nn, .slice p8 vw.length c8, .int .i64 0] 46)).heap.size = w8.heap.size + 1 from by simp] at h9
                            exact h9
                          have HFL : Hid (fs.length ≤ 1000000) := by
                            have h9 := HP2.out.1
                            have h8 := congrArg List.length RK1.out
                            rw [List.length_map] at h8
                            unfold Hid; omega
                          have HLm : Hid (fs.length + 1 ≤ maxLen) := by have := HFL.out; unfold Hid maxLen; omega
                          have HLb : Hid ((fs.length + 1) * 64 ≤ 140737488355328) := by have := HFL.out; unfold Hid; omega
                          have HXS2 : Hid (w.heap.size ≤ ((w8.alloc (.cells #[.int .i64 nn, .slice p8 vw.length c8, .int .i64 0] 46)).alloc (.cells #[.int .i64 nn, .slice p8 vw.length c8, .slice q5 c5.2.length d5, .bool true] 87)).heap.size) := RX.out.bel.size
                          obtain ⟨i1, hi', hz0', hz1', hz4'⟩ := info_parts inf87
                          go_wp2_with (at_builtin; refine wpList_append_own_at _ rfl (.tmp 109) (.tmp 115) 75 rfl w.heap.size 87 i1 (.agg #[.int .i64 0, .slice none 0 0, .slice none 0 0, .bool false]) 4 64 Tryz.underlying75 hi' hz0' hz1' hz4' rfl (by decide) (.slice qo fs.length co) fs.length (flatF fs) rfl RX.out.ro ⟨w8.heap.size + 1, 0, none⟩ 1 1 (flatF [((⟨⟨nn, p8, c8, vw⟩, q5, c5.2.length, d5, true⟩ : FL), c5.2)]) rfl rfl NX.out flatF_one HLm.out HLb.out HXS2.out ?_; intro v' w9 hown hgrow _ hat; obtain ⟨qv, cv, rfl⟩ := own_slice2 hown; have R10 := Lib.hid (RT.out (f := ⟨⟨nn, p8, c8, vw⟩, q5, c5.2.length, d5, true⟩) (zs := c5.2) RX.out HSX.out OS.out HIX.out OI.out rfl hown hgrow hat); clear hown hgrow hat)
                          refine ⟨⟨j + 1, fs ++ [(⟨⟨nn, p8, c8, vw⟩, q5, c5.2.length, d5, true⟩, c5.2)], by omega, by go_num, by rw [hst.out]; exact R10, by rw [hst.out, List.map_append, RK1.out]; rfl, fun i hi => ?_⟩, by simp [intOf]; omega⟩
                          by_cases hlt9 : i < fs.length
                          · rw [List.getD, List.getElem?_append_left hlt9]
                            exact RN.out i hlt9
                          · rw [snoc_at _ _ (by rw [List.length_append] at hi; simp at hi; omega)]
                            exact ⟨rfl, rfl, fun a e => Nat.le_trans R7.out.bel.size (HP8.out a e), fun a e => Nat.le_trans R5.out.bel.size (HPF6.out a e)⟩
                        · have hst := noRs (by rw [HRS1.out, if_neg (fun h => hny h.2.2)])
                          have hny' : (nn == y) = false := by rw [beq_eq_false_iff_ne]; exact hny
                          clear noRs HG2 HRS1 R5 R7 N6
                          go_wp2_with fail
                          exact ⟨⟨j + 1, fs, by omega, by go_num, by rw [hst.out]; exact RNX _, by rw [hst.out]; exact RK1, RN⟩, by simp [intOf]; omega⟩
                      · have hst := noRs (by rw [HRS1.out, if_neg (fun h => he0 h.2.1)])
                        have he' : (er == 0) = false := by rw [beq_eq_false_iff_ne]; exact he0
                        clear noRs HG2 HRS1 R5 R7 N6
                        go_wp2_with fail
                        exact ⟨⟨j + 1, fs, by omega, by go_num, by rw [hst.out]; exact RNX _, by rw [hst.out]; exact RK1, RN⟩, by simp [intOf]; omega⟩
                · have hst := skip (fun h => hy h.1.2)
                  have hy' : ((y : Int) == n) = false := by rw [beq_eq_false_iff_ne]; exact hy
                  clear HG skip
                  go_wp2_with fail
                  exact ⟨⟨j + 1, fs, by omega, by go_num, by rw [hst.out]; exact R3, by rw [hst.out]; exact RK1, RN⟩, by simp [intOf]; omega⟩
              · have hst := skip (fun h => hok h.1.1)
                obtain rfl : ok = false := Bool.eq_false_iff.2 hok
                clear HG skip
                go_wp2_with fail
                exact ⟨⟨j + 1, fs, by omega, by go_num, by rw [hst.out]; exact R3, by rw [hst.out]; exact RK1, RN⟩, by simp [intOf]; omega⟩
        · obtain rfl : j = M := by omega
          have hst : Hid (rsC n ss (k + 1) = rsP n ss a0 (os.take j)) := by
            unfold Hid
            rw [HOC.out, List.take_of_length_le (by rw [hM.out]; exact Nat.le_refl _)]
          go_wp2_with fail
          exact ⟨⟨k + 1, fs, by omega, by go_num, by rw [hst.out]; exact R, by rw [hst.out]; exact RK1, RN⟩, by simp [intOf]; omega⟩
    · obtain rfl : k = N := by omega
      go_wp2_with fail
      go_ret
      exact ⟨_, _, fs0, rfl, R.out, RK0.out, RN.out⟩
end Go.Proofs.YtmfhpddeclggfaaGreatDoor
