import Derived.Test.YtmfhpddeclggfaaGreatDoorWCx
import Derived.Test.YtmfhpddeclggfaaGreatDoorWCz
import Derived.RangeFuncNested
import Derived.RangeFuncBound
import Derived.RangeFuncCalls
import Derived.RangeFuncLeaves
import Derived.Test.YtmfhpddeclggfaaGreatDoorWHa
import Derived.RangeFuncBox
import Derived.Shelf.Abstract
import Derived.Shelf.RegionOpen
import Derived.OwnWalkIn
import Derived.TacticsInMore
import Derived.LoopNIn
import Derived.LoopIn
import Derived.Maps.AppendAt
import Derived.Maps.OwnIn
import Derived.RegionIn
import Derived.BigRegionIn
import Derived.Stop.RegionWithIn
import Derived.WalkKit
import Derived.LoopTactic
import Derived.WalkSpells
import Derived.WalkLawsBesides
import Derived.Lib.Hide
import Derived.BigQuiet
import Derived.IntWalk
import Derived.Deep.DeepMust
import Derived.WalkSmall
import Derived.StillTailTactics
import Derived.Deep.RegionLaw
import Derived.Deep.QuietTactic
import Derived.Deep.Cut
import Derived.Deep.DeepCutAuto
import Derived.Deep.LoopGhost
import Derived.Laws.AppendOwn
namespace Go.Proofs.YtmfhpddeclggfaaGreatDoor
open Go.RowKit
/-! The reference's greatest number, known line, one copy more. -/
open Go.Shelf
/-- The greater of a number and that of which a piece speaks. -/
def stG (m : Int) (x : ByteArray) : Int := if (spk x.data.toList).isSome = true ∧ m < (spk x.data.toList).getD 0 then (spk x.data.toList).getD 0 else m
def grP (m : Int) (ps : List ByteArray) : Int := ps.foldl stG m
/-- The greatest number of which a piece of these copies speaks. -/
def grC (cs : List ByteArray) : Int := cs.foldl (fun m c => grP m (partsN c)) 0
theorem grP_snoc (m : Int) (ps : List ByteArray) (k : Nat) (h : k < ps.length) : grP m (ps.take (k + 1)) = stG (grP m (ps.take k)) (ps.getD k ByteArray.empty) := by
  unfold grP
  rw [List.take_succ_eq_append_getElem h, List.foldl_append, List.getD, List.getElem?_eq_getElem h]
  rfl
theorem grC_snoc (cs : List ByteArray) (k : Nat) (h : k < cs.length) : grC (cs.take (k + 1)) = grP (grC (cs.take k)) (partsN (cs.getD k ByteArray.empty)) := by
  unfold grC
  rw [List.take_succ_eq_append_getElem h, List.foldl_append, List.getD, List.getElem?_eq_getElem h]
  rfl
set_option maxRecDepth 100000 in
set_option maxHeartbeats 4000000 in
theorem rGreatest (p : Option Addr) (cap : Nat) (cs : List ByteArray) (w : World) (hl : cs.length ≤ 1000) (hs : ∀ j, (cs.getD j ByteArray.empty).size ≤ 1000000) (hp : StrsAt w p cs) :
    Calls Tryz.prog 109 #[.slice p cs.length cap] w fun e w' => e = .returned (.int .i64 (grC cs)) ∧ Below w.heap.size w w' := by
  have HP := Lib.hid hp
  have HS := Lib.hid hs
  obtain ⟨N, hN⟩ : ∃ N, Hid (cs.length = N) := ⟨_, rfl⟩
  obtain ⟨R, hR⟩ : ∃ R, Hid (grC cs = R) := ⟨_, rfl⟩
  rw [hR.out]
  rw [hN.out] at hl ⊢
  clear hp hs
  go_enter Tryz.func109, Tryz.ntmps109
  go_wp2_with fail
  go_loopw [3, 4] (fun v i wr => ∃ (k : Nat) (m : Int), k ≤ N ∧ i = .int .i64 k ∧ v = .int .i64 m ∧ Hid (m = grC (cs.take k)) ∧ Hid (Below w.heap.size w wr)) (fun _ i _ => N - (intOf i).toNat)
  case atStart => exact ⟨0, 0, Nat.zero_le _, rfl, rfl, rfl, Below.refl _ _⟩
  case round =>
    obtain ⟨k, m, hk, rfl, rfl, HM, B⟩ := hrel
    by_cases hlt : k < N
    · have hkl : k < cs.length := by rw [hN.out]; exact hlt
      obtain ⟨b, o, rfl, -, c0⟩ := str_at (HP.out.below B.out) hkl
      have hsz := HS.out k
      have HG := Lib.hid (grC_snoc cs k hkl)
      obtain ⟨x, hx⟩ : ∃ x, cs.getD k ByteArray.empty = x := ⟨_, rfl⟩
      rw [hx] at c0 hsz HG
      rw [← HM.out] at HG
      have RP := Lib.hid (rPieces2 x wr hsz)
      have HSZ : Hid (∀ y ∈ partsN x, y.size ≤ 1000000) := fun y hy => Nat.le_trans (partsN_size hy) hsz
      have HPL := Lib.hid (partsN_len x)
      have HXS := Lib.hid hsz
      obtain ⟨ps, hps⟩ : ∃ ps, partsN x = ps := ⟨_, rfl⟩
      rw [hps] at RP HSZ HG HPL
      have hlt' : (k : Int) < (N : Int) := by omega
      have hk0 : (0 : Int) ≤ (k : Int) := by omega
      clear hsz hx HM hps
      go_wp2_with fail
      refine RP.out.mono ?_
      rintro e w1 ⟨q, c, rfl, hst, hb⟩
      have B1 : Hid (Below w.heap.size w w1) := B.out.trans (hb.mono B.out.size)
      have HST := Lib.hid hst
      obtain ⟨M, hM⟩ : ∃ M, Hid (ps.length = M) := ⟨_, rfl⟩
      have hMl : M ≤ 1000001 := by have := HPL.out; have := HXS.out; have := hM.out; omega
      rw [hM.out]
      clear hb hst RP c0
      go_wp2_with fail
      go_loopw [3, 6] (fun v i wz => ∃ (j : Nat) (m2 : Int), j ≤ M ∧ i = .int .i64 j ∧ v = .int .i64 m2 ∧ Hid (m2 = grP m (ps.take j)) ∧ Hid (Below w1.heap.size w1 wz)) (fun _ i _ => M - (intOf i).toNat)
      case atStart => exact ⟨0, m, Nat.zero_le _, rfl, rfl, rfl, Below.refl _ _⟩
      case round =>
        obtain ⟨j, m2, hj, rfl, rfl, HM2, B2⟩ := hrel
        by_cases hlt2 : j < M
        · have hjl : j < ps.length := by rw [hM.out]; exact hlt2
          obtain ⟨b2, o2, rfl, -, c2⟩ := str_at (HST.out.below B2.out) hjl
          have hys := HSZ.out _ (getD_mem hjl)
          have HG2 := Lib.hid (grP_snoc m ps j hjl)
          obtain ⟨y, hy⟩ : ∃ y, ps.getD j ByteArray.empty = y := ⟨_, rfl⟩
          rw [hy] at c2 hys HG2
          rw [← HM2.out] at HG2
          have SP := rSpeaks y wr hys
          obtain ⟨oo, hoo⟩ : ∃ oo, Hid (spk y.data.toList = oo) := ⟨_, rfl⟩
          have HST2 : Hid (stG m2 y = if oo.isSome = true ∧ m2 < oo.getD 0 then oo.getD 0 else m2) := by unfold Hid stG; rw [hoo.out]
          rw [hoo.out] at SP
          unfold spRes at SP
          have hlt2' : (j : Int) < (M : Int) := by omega
          have hj0 : (0 : Int) ≤ (j : Int) := by omega
          clear hys hy
          cases oo with
          | none =>
            have SP1 : Hid (Calls Tryz.prog 43 #[.string y] wr fun e w' => e = .returned (.tuple #[.int .i64 0, .bool false]) ∧ Below wr.heap.size wr w') := SP
            have hst : Hid (grP m (ps.take (j + 1)) = m2) := by unfold Hid; rw [HG2.out, HST2.out]; simp
            clear SP HG2 HST2 HM2
            go_wp2_with fail
            refine SP1.out.mono ?_
            rintro e w2 ⟨rfl, hb⟩
            have B3 : Hid (Below w1.heap.size w1 w2) := B2.out.trans (hb.mono B2.out.size)
            clear hb SP1
            go_wp2_with fail
            exact ⟨⟨j + 1, m2, by omega, by go_num, rfl, hst.out.symm, B3⟩, by simp [intOf]; omega⟩
          | some z =>
            have SP1 : Hid (Calls Tryz.prog 43 #[.string y] wr fun e w' => e = .returned (.tuple #[.int .i64 z, .bool true]) ∧ Below wr.heap.size wr w') := SP
            by_cases hz : m2 < z
            · have hst : Hid (grP m (ps.take (j + 1)) = z) := by unfold Hid; rw [HG2.out, HST2.out]; simp [hz]
              clear SP HG2 HST2 HM2
              go_wp2_with fail
              refine SP1.out.mono ?_
              rintro e w2 ⟨rfl, hb⟩
              have B3 : Hid (Below w1.heap.size w1 w2) := B2.out.trans (hb.mono B2.out.size)
              clear hb SP1
              go_wp2_with fail
              exact ⟨⟨j + 1, z, by omega, by go_num, rfl, hst.out.symm, B3⟩, by simp [intOf]; omega⟩
            · have hst : Hid (grP m (ps.take (j + 1)) = m2) := by unfold Hid; rw [HG2.out, HST2.out]; simp [hz]
              clear SP HG2 HST2 HM2
              go_wp2_with fail
              refine SP1.out.mono ?_
              rintro e w2 ⟨rfl, hb⟩
              have B3 : Hid (Below w1.heap.size w1 w2) := B2.out.trans (hb.mono B2.out.size)
              clear hb SP1
              go_wp2_with fail
              exact ⟨⟨j + 1, m2, by omega, by go_num, rfl, hst.out.symm, B3⟩, by simp [intOf]; omega⟩
        · obtain rfl : j = M := by omega
          have hst : Hid (m2 = grC (cs.take (k + 1))) := by
            unfold Hid
            rw [HG.out, HM2.out, List.take_of_length_le (by rw [hM.out]; exact Nat.le_refl _)]
          have B4 : Hid (Below w.heap.size w wr) := B1.out.trans (B2.out.mono B1.out.size)
          clear HM2 HG
          go_wp2_with fail
          exact ⟨⟨k + 1, m2, by omega, by go_num, rfl, hst, B4⟩, by simp [intOf]; omega⟩
    · obtain rfl : k = N := by omega
      have hm : m = R := by rw [HM.out, List.take_of_length_le (by rw [hN.out]; exact Nat.le_refl _)]; exact hR.out
      subst hm
      clear HM
      go_wp2_with fail
      go_ret
      exact ⟨rfl, B.out⟩
/-- One copy more, if it is not the last one already. -/
def addL (zs : List Int) (n : Int) : List Int := if zs.getLast? = some n then zs else zs ++ [n]
theorem ints_own {W : World} {B : Nat} {v : Value} {l : List Int} (h : W.ownsRow B 3 1 v l.length (cellsI l)) : ∃ q cap, v = .slice q l.length cap ∧ IntsAt W q l := by
  obtain ⟨h1, ⟨rfl, h2⟩ | ⟨g, cap, cur, rfl, hg, hc, h3, h4, h5, h6⟩⟩ := h
  · exact ⟨none, 0, by rw [h2], .inl (List.length_eq_zero_iff.1 h2)⟩
  · refine ⟨some ⟨g, 0, none⟩, cap, rfl, .inr ⟨g, 0, rfl, (Array.getElem?_eq_some_iff.1 hc).1, fun j hj => ?_⟩⟩
    have g1 : (cellsI l)[j]? = some (.int .i64 (l.getD j 0)) := by
      rw [cellsI, List.getElem?_map, List.getD, List.getElem?_eq_getElem hj]; rfl
    rw [← h6, List.getElem?_take_of_lt (by omega)] at g1
    rw [Nat.zero_add]
    simpa [World.cell?, hc] using g1
theorem cellsI_one {l : List Int} : ∀ u ∈ cellsI l, u.oneCell' = true := fun u hu => by
  obtain ⟨p, -, rfl⟩ := List.mem_map.1 hu
  rfl
theorem last_at {zs : List Int} (h : 0 < zs.length) : zs.getLast? = some (zs.getD (zs.length - 1) 0) := by
  rw [List.getLast?_eq_getElem?, List.getD, List.getElem?_eq_getElem (by omega)]; rfl
set_option maxRecDepth 100000 in
set_option maxHeartbeats 4000000 in
theorem rAdd_same (p : Option Addr) (c : Nat) (zs : List Int) (n : Int) (w : World) (hl : zs.length ≤ 100000) (hp : IntsAt w p zs) (hn : zs.getLast? = some n) :
    Calls Tryz.prog 144 #[.slice p zs.length c, .int .i64 n] w fun e w' => e = .returned (.slice p zs.length c) ∧ w = w' := by
  have h0 : 0 < zs.length := by cases zs with | nil => cases hn | cons a l => simp
  obtain ⟨b, o, rfl, -, c0⟩ := int_at hp (show zs.length - 1 < zs.length by omega)
  rw [last_at h0] at hn
  rw [Option.some.inj hn] at c0
  obtain ⟨N, hN⟩ : ∃ N, zs.length = N := ⟨_, rfl⟩
  rw [hN] at c0 h0 hl ⊢
  have h1 : (0 : Int) < (N : Int) := by omega
  have h2 : (0 : Int) ≤ (N : Int) - 1 := by omega
  have h3 : (N : Int) - 1 < (N : Int) := by omega
  have h4 : ((N : Int) - 1).toNat = N - 1 := by omega
  clear hp hn hN
  go_enter Tryz.func144, Tryz.ntmps144
  go_wp2_with fail
  go_ret
  exact ⟨rfl, rfl⟩
set_option maxRecDepth 100000 in
set_option maxHeartbeats 4000000 in
theorem rAdd_new (p : Option Addr) (c : Nat) (zs : List Int) (n : Int) (w : World) (hl : zs.length ≤ 100000) (hp : IntsAt w p zs) (hn : zs.getLast? ≠ some n) (ad : Addr) (hpa : p = some ad) :
    Calls Tryz.prog 144 #[.slice p zs.length c, .int .i64 n] w fun e w' => ∃ v, e = .returned v ∧ w'.ownsRow w.heap.size 3 1 v (zs.length + 1) (cellsI (zs ++ [n])) ∧ Below w.heap.size w w' := by
  subst hpa
  obtain ⟨i0, hi, hz0, hz1, hz4⟩ := info_parts inf3
  have HC : Hid (∀ j u, (cellsI zs)[j]? = some u → w.cell? (ad.add j) = some u) := fun j u hj => by
    rcases hp with h | ⟨b, o, e, -, h3⟩
    · subst h; simp at hj
    · cases e
      rw [cellsI, List.getElem?_map] at hj
      cases hw : zs[j]? with
      | none => rw [hw] at hj; cases hj
      | some s =>
        rw [hw] at hj
        have hjl : j < zs.length := (List.getElem?_eq_some_iff.1 hw).1
        have h4 := h3 j hjl
        rw [List.getD, hw] at h4
        simp only [Option.map_some, Option.some.injEq] at hj
        subst hj
        rw [Addr.add_lit]
        exact h4
  have HL : Hid (∀ N : Nat, zs.length = N → 0 < N → ∃ b o z, ad = ⟨b, o, none⟩ ∧ w.cell? ⟨b, o + (N - 1), none⟩ = some (.int .i64 z) ∧ z ≠ n) := fun N hN h0 => by
    subst hN
    obtain ⟨b, o, e, -, c0⟩ := int_at hp (show zs.length - 1 < zs.length by omega)
    rw [last_at h0] at hn
    exact ⟨b, o, _, Option.some.inj e, c0, fun e => hn (by rw [e])⟩
  have HLN : Hid (zs.length ≤ 100000) := hl
  obtain ⟨N, hN⟩ : ∃ N, Hid (zs.length = N) := ⟨_, rfl⟩
  rw [hN.out] at hl ⊢
  have HK1 : Hid (N ≤ maxLen) := by unfold Hid maxLen; omega
  have HK2 : Hid (N * 8 ≤ 140737488355328) := by unfold Hid; omega
  have HK3 : Hid (N + 1 ≤ maxLen) := by unfold Hid maxLen; omega
  have HK4 : Hid ((N + 1) * 8 ≤ 140737488355328) := by unfold Hid; omega
  have HLC : Hid ((cellsI zs).length = N) := by unfold Hid; rw [List.length_map]; exact hN.out
  clear hp hn
  by_cases h0 : 0 < N
  · obtain ⟨b, o, z, rfl, c0, hzn⟩ := HL.out N hN.out h0
    have h1 : (0 : Int) < (N : Int) := by omega
    have h2 : (0 : Int) ≤ (N : Int) - 1 := by omega
    have h3 : (N : Int) - 1 < (N : Int) := by omega
    have h4 : ((N : Int) - 1).toNat = N - 1 := by omega
    have h5 : (z == n) = false := beq_eq_false_iff_ne.2 hzn
    clear HL hzn
    go_enter Tryz.func144, Tryz.ntmps144
    go_wp2_with (first | (at_builtin; refine wpList_append_own _ rfl (.tmp 20) (.tmp 21) 85 rfl w.heap.size 3 i0 (.int .i64 0) 1 8 Tryz.underlying85 hi hz0 hz1 hz4 rfl (by decide) (.slice none 0 0) 0 [] rfl (World.ownsRow_nil _ _ _ _) ⟨b, o, none⟩ N c (cellsI zs) rfl (by have h9 := HLC.out; omega) HC.out cellsI_one (by rw [Nat.zero_add]; exact HK1.out) (by rw [Nat.zero_add]; exact HK2.out) (Nat.le_refl _) ?_; intro v' w1 hown hgrow _; have HO : Hid (w1.ownsRow w.heap.size 3 1 v' N (cellsI zs)) := (by unfold Hid; simpa using hown); have HG := Lib.hid hgrow; clear hown hgrow) | (at_builtin; refine wpList_append_own _ rfl (.tmp 23) (.tmp 25) 85 rfl w.heap.size 3 i0 (.int .i64 0) 1 8 Tryz.underlying85 hi hz0 hz1 hz4 rfl (by decide) v' N (cellsI zs) rfl (HO.out.alloc _) ⟨w1.heap.size, 0, none⟩ 1 1 [.int .i64 n] rfl rfl (cells_new w1 #[.int .i64 n] 3) (by simp [Value.oneCell']) HK3.out HK4.out (by have h9 := HG.out.size; simp; omega) ?_; intro v2 w2 hown2 hgrow2 _; have HO2 := Lib.hid hown2; have HG2 := Lib.hid hgrow2; clear hown2 hgrow2))
    go_ret
    refine ⟨_, rfl, ?_, ?_⟩
    · simpa [cellsI] using HO2.out
    · have hB1 : Below w.heap.size w w1 := (Below.refl _ w).grown HG.out (Nat.le_refl _) (by intro k hk; simp [Value.ownBlock] at hk)
      have hs1 := HG.out.size
      exact (hB1.alloc hs1 _).grown HG2.out (by simp; omega) (fun k hk => by have := (HO.out.lt k hk).1; omega)
  · obtain rfl : N = 0 := by omega
    clear HL
    go_enter Tryz.func144, Tryz.ntmps144
    go_wp2_with (first | (at_builtin; refine wpList_append_own _ rfl (.tmp 20) (.tmp 21) 85 rfl w.heap.size 3 i0 (.int .i64 0) 1 8 Tryz.underlying85 hi hz0 hz1 hz4 rfl (by decide) (.slice none 0 0) 0 [] rfl (World.ownsRow_nil _ _ _ _) ad 0 c (cellsI zs) rfl (by have h9 := HLC.out; omega) HC.out cellsI_one (by rw [Nat.zero_add]; exact HK1.out) (by rw [Nat.zero_add]; exact HK2.out) (Nat.le_refl _) ?_; intro v' w1 hown hgrow _; have HO : Hid (w1.ownsRow w.heap.size 3 1 v' 0 (cellsI zs)) := (by unfold Hid; simpa using hown); have HG := Lib.hid hgrow; clear hown hgrow) | (at_builtin; refine wpList_append_own _ rfl (.tmp 23) (.tmp 25) 85 rfl w.heap.size 3 i0 (.int .i64 0) 1 8 Tryz.underlying85 hi hz0 hz1 hz4 rfl (by decide) v' 0 (cellsI zs) rfl (HO.out.alloc _) ⟨w1.heap.size, 0, none⟩ 1 1 [.int .i64 n] rfl rfl (cells_new w1 #[.int .i64 n] 3) (by simp [Value.oneCell']) HK3.out HK4.out (by have h9 := HG.out.size; simp; omega) ?_; intro v2 w2 hown2 hgrow2 _; have HO2 := Lib.hid hown2; have HG2 := Lib.hid hgrow2; clear hown2 hgrow2))
    go_ret
    refine ⟨_, rfl, ?_, ?_⟩
    · simpa [cellsI] using HO2.out
    · have hB1 : Below w.heap.size w w1 := (Below.refl _ w).grown HG.out (Nat.le_refl _) (by intro k hk; simp [Value.ownBlock] at hk)
      have hs1 := HG.out.size
      exact (hB1.alloc hs1 _).grown HG2.out (by simp; omega) (fun k hk => by have := (HO.out.lt k hk).1; omega)
set_option maxRecDepth 100000 in
set_option maxHeartbeats 4000000 in
theorem rAdd_nil (c : Nat) (n : Int) (w : World) :
    Calls Tryz.prog 144 #[.slice none 0 c, .int .i64 n] w fun e w' => ∃ v, e = .returned v ∧ w'.ownsRow w.heap.size 3 1 v 1 (cellsI [n]) ∧ Below w.heap.size w w' := by
  obtain ⟨i0, hi, hz0, hz1, hz4⟩ := info_parts inf3
  go_enter Tryz.func144, Tryz.ntmps144
  go_wp2_with (at_builtin; refine wpList_append_own _ rfl (.tmp 23) (.tmp 25) 85 rfl w.heap.size 3 i0 (.int .i64 0) 1 8 Tryz.underlying85 hi hz0 hz1 hz4 rfl (by decide) (.slice none 0 0) 0 [] rfl (World.ownsRow_nil _ _ _ _) ⟨w.heap.size, 0, none⟩ 1 1 [.int .i64 n] rfl rfl (cells_new w #[.int .i64 n] 3) (by simp [Value.oneCell']) (by decide) (by decide) (by simp) ?_; intro v2 w2 hown2 hgrow2 _; have HO2 := Lib.hid hown2; have HG2 := Lib.hid hgrow2; clear hown2 hgrow2)
  go_ret
  refine ⟨_, rfl, ?_, ?_⟩
  · simpa [cellsI] using HO2.out
  · exact (below_alloc1 w _).grown HG2.out (by simp) (fun k hk => by simp [Value.ownBlock] at hk)
/-- One copy more. -/
theorem rAdd (p : Option Addr) (c : Nat) (zs : List Int) (n : Int) (w : World) (hl : zs.length ≤ 100000) (hp : IntsAt w p zs) :
    Calls Tryz.prog 144 #[.slice p zs.length c, .int .i64 n] w fun e w' => ∃ (q : Option Addr) (d : Nat), e = .returned (.slice q (addL zs n).length d) ∧ IntsAt w' q (addL zs n) ∧ (q = p ∨ PFrom w.heap.size q) ∧ Below w.heap.size w w' := by
  by_cases h : zs.getLast? = some n
  · refine (rAdd_same p c zs n w hl hp h).mono ?_
    rintro e w' ⟨rfl, rfl⟩
    unfold addL
    rw [if_pos h]
    exact ⟨p, c, rfl, hp, .inl rfl, Below.refl _ _⟩
  · have key : Calls Tryz.prog 144 #[.slice p zs.length c, .int .i64 n] w fun e w' => ∃ v, e = .returned v ∧ w'.ownsRow w.heap.size 3 1 v (zs.length + 1) (cellsI (zs ++ [n])) ∧ Below w.heap.size w w' := by
      cases p with
      | none =>
        obtain rfl : zs = [] := by
          rcases hp with h | ⟨b, o, e, -⟩
          · exact h
          · cases e
        exact rAdd_nil c n w
      | some ad => exact rAdd_new (some ad) c zs n w hl hp h ad rfl
    refine key.mono ?_
    rintro e w' ⟨v, rfl, hO, hb⟩
    have hO' : w'.ownsRow w.heap.size 3 1 v (zs ++ [n]).length (cellsI (zs ++ [n])) := by rw [List.length_append]; exact hO
    obtain ⟨q, d, rfl, hI⟩ := ints_own hO'
    unfold addL
    rw [if_neg h]
    refine ⟨q, d, rfl, hI, .inr (fun a ha => ?_), hb⟩
    subst ha
    obtain ⟨h1, ⟨h0, h2⟩ | ⟨g, cap', cur, h0, hg, -⟩⟩ := hO'
    · cases h0
    · cases h0; exact hg
set_option maxRecDepth 100000 in
set_option maxHeartbeats 4000000 in
theorem rKnown (p : Option Addr) (c : Nat) (fs : List FL) (n : Int) (q : Option Addr) (d : Nat) (ws : List ByteArray) (w : World) (hl : fs.length ≤ 10000000) (hw : ∀ j, (fs.getD j default).g.ws.length ≤ maxLen) (hp : FoundsAt w p fs) (hq : StrsAt w q ws) :
    Calls Tryz.prog 143 #[.slice p fs.length c, .agg #[.int .i64 n, .slice q ws.length d]] w fun e w' => ∃ z : Int, e = .returned (.int .i64 z) ∧ Below w.heap.size w w' ∧ ((∃ k : Nat, z = k ∧ k < fs.length ∧ sameB (fs.getD k default).g.n n (fs.getD k default).g.ws ws = true ∧ ∀ j, j < k → sameB (fs.getD j default).g.n n (fs.getD j default).g.ws ws = false) ∨ (z = -1 ∧ ∀ j, j < fs.length → sameB (fs.getD j default).g.n n (fs.getD j default).g.ws ws = false)) := by
  have HP := Lib.hid hp
  have HQ := Lib.hid hq
  have HW := Lib.hid hw
  obtain ⟨N, hN⟩ : ∃ N, Hid (fs.length = N) := ⟨_, rfl⟩
  obtain ⟨L, hL⟩ : ∃ L, Hid (ws.length = L) := ⟨_, rfl⟩
  have CK : Hid (∀ W n1 q1 c1 ws1, ws1.length ≤ maxLen → StrsAt W q1 ws1 → StrsAt W q ws → Calls Tryz.prog 37 #[.agg #[.int .i64 n1, .slice q1 ws1.length c1], .agg #[.int .i64 n, .slice q L d]] W fun e w' => e = .returned (.bool (sameB n1 n ws1 ws)) ∧ Below W.heap.size W w') := fun W n1 q1 c1 ws1 h1 h2 h3 => by
    have := rSame n1 n q1 q c1 d ws1 ws W h1 h2 h3
    rwa [hL.out] at this
  rw [hN.out] at hl ⊢
  rw [hL.out]
  have b0 := nw_at w #[.int .i64 n, .slice q L d] 39 0 _ rfl
  have b1 := nw_at w #[.int .i64 n, .slice q L d] 39 1 _ rfl
  have B0 := Lib.hid b0
  have B1 := Lib.hid b1
  have BW : Hid (Below w.heap.size w (w.alloc (.cells #[.int .i64 n, .slice q L d] 39))) := below_alloc1 _ _
  obtain ⟨w1, hw1⟩ : ∃ w1, Hid (w.alloc (.cells #[.int .i64 n, .slice q L d] 39) = w1) := ⟨_, rfl⟩
  have hsz : Hid (w.heap.size < w1.heap.size) := by rw [← hw1.out]; unfold Hid; simp
  rw [hw1.out] at B0 B1 BW
  clear hp hq hw b0 b1
  go_enter Tryz.func143, Tryz.ntmps143
  go_wp2_with fail
  rw [hw1.out]
  go_loopw [5] (fun i wr => ∃ k : Nat, k ≤ N ∧ i = .int .i64 k ∧ Hid (Below w1.heap.size w1 wr) ∧ Hid (∀ j, j < k → sameB (fs.getD j default).g.n n (fs.getD j default).g.ws ws = false)) (fun i _ => N - (intOf i).toNat)
  case atStart => exact ⟨0, Nat.zero_le _, rfl, Below.refl _ _, fun j h => absurd h (Nat.not_lt_zero _)⟩
  case round =>
    obtain ⟨k, hk, rfl, B, HN⟩ := hrel
    have c0 := (B.out.cell (p := ⟨w.heap.size, 0, none⟩) hsz.out).trans B0.out
    have c1 := (B.out.cell (p := ⟨w.heap.size, 1, none⟩) hsz.out).trans B1.out
    by_cases hlt : k < N
    · have hkf : k < fs.length := by rw [hN.out]; exact hlt
      have hwl := HW.out k
      obtain ⟨n1, q1, d1, ws1, cp, cn, cc, rs, hf⟩ := fl_cases (fs.getD k default)
      have HF := Lib.hid hf
      rw [hf] at hwl
      have HB2 : Hid (Below w.heap.size w wr) := BW.out.trans (B.out.mono BW.out.size)
      obtain ⟨b, o, rfl, hbb, a0, a1, a2, a3, a4⟩ := fd_at (HP.out.below HB2.out) hkf hf
      have CS : Hid (∀ W, Below wr.heap.size wr W → Calls Tryz.prog 37 #[.agg #[.int .i64 n1, .slice q1 ws1.length d1], .agg #[.int .i64 n, .slice q L d]] W fun e w' => e = .returned (.bool (sameB n1 n ws1 ws)) ∧ Below W.heap.size W w') := fun W hW => CK.out W n1 q1 d1 ws1 hwl (a4.below hW) ((HQ.out.below HB2.out).below hW)
      obtain ⟨L1, hL1⟩ : ∃ L1, ws1.length = L1 := ⟨_, rfl⟩
      rw [hL1] at a1 CS
      have hlt' : (k : Int) < (N : Int) := by omega
      have hk0 : (0 : Int) ≤ (k : Int) := by omega
      clear hf hwl a2 a3 a4 hL1 hbb
      cases hsb : sameB n1 n ws1 ws with
      | true =>
        rw [hsb] at CS
        have HSB := Lib.hid hsb
        clear hsb
        go_wp2_with fail
        go_region_with (refine (CS.out _ (Below.refl _ _).drew).mono ?_; rintro e w2 ⟨rfl, hb3⟩)
        all_goals
          have B2 : Hid (Below w.heap.size w w2) := ((HB2.out).drew).trans (hb3.mono HB2.out.size)
          clear hb3
          go_wp2
          go_ret
          exact ⟨k, rfl, B2.out, .inl ⟨k, rfl, hlt, by rw [HF.out]; exact HSB.out, HN.out⟩⟩
      | false =>
        rw [hsb] at CS
        have HSB := Lib.hid hsb
        clear hsb
        go_wp2_with fail
        go_region_with (refine (CS.out _ (Below.refl _ _).drew).mono ?_; rintro e w2 ⟨rfl, hb3⟩)
        all_goals
          have B2 : Hid (Below w1.heap.size w1 w2) := ((B.out).drew).trans (hb3.mono B.out.size)
          clear hb3
          go_wp2
          refine ⟨⟨k + 1, by omega, by go_num, B2, fun j hj => ?_⟩, by simp [intOf]; omega⟩
          by_cases h : j < k
          · exact HN.out j h
          · obtain rfl : j = k := by omega
            rw [HF.out]; exact HSB.out
    · obtain rfl : k = N := by omega
      have HB2 : Hid (Below w.heap.size w wr) := BW.out.trans (B.out.mono BW.out.size)
      go_wp2_with fail
      go_ret
      exact ⟨-1, rfl, HB2.out, .inr ⟨rfl, HN.out⟩⟩
end Go.Proofs.YtmfhpddeclggfaaGreatDoor
