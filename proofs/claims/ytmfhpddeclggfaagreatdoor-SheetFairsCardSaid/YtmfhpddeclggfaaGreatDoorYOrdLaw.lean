import Derived.Test.YtmfhpddeclggfaaGreatDoorYIfa
import Derived.Maps.Own
import Derived.Maps.OwnOps
import Derived.Maps.OwnSet
import Derived.Lib.SlKeysI
import Derived.RangeFuncNested
import Derived.RangeFuncBound
import Derived.RangeFuncCalls
import Derived.RangeFuncLeaves
import Derived.RangeFuncBox
import Derived.Shelf.Abstract
import Derived.Shelf.RegionOpen
import Derived.OwnWalkIn
import Derived.TacticsInMore
import Derived.LoopNIn
import Derived.LoopIn
import Derived.Maps.AppendAt
import Derived.Maps.OwnIn
import Derived.RegionIn
import Derived.BigRegionIn
import Derived.Stop.RegionWithIn
import Derived.WalkKit
import Derived.LoopTactic
import Derived.WalkSpells
import Derived.WalkLawsBesides
import Derived.Lib.Hide
import Derived.BigQuiet
import Derived.IntWalk
import Derived.Deep.DeepMust
import Derived.WalkSmall
import Derived.StillTailTactics
import Derived.Deep.RegionLaw
import Derived.Deep.QuietTactic
import Derived.Deep.Cut
import Derived.Deep.DeepCutAuto
import Derived.Deep.LoopGhost
import Derived.Laws.AppendOwn
import Derived.Deep.RegionHeld3
import Derived.Deep.AppendLies
import Derived.Test.YtmfhpddeclggfaaGreatDoorIfk
import Derived.Test.YtmfhpddeclggfaaGreatDoorYIfb
import Derived.Test.YtmfhpddeclggfaaGreatDoorYIg
import Derived.Test.YtmfhpddeclggfaaGreatDoorYIh
import Derived.Test.YtmfhpddeclggfaaGreatDoorYIia
import Derived.Test.YtmfhpddeclggfaaGreatDoorYIib
import Derived.Test.YtmfhpddeclggfaaGreatDoorKf
import Derived.Test.YtmfhpddeclggfaaGreatDoorYIic
import Derived.Test.YtmfhpddeclggfaaGreatDoorZd
import Derived.Test.YtmfhpddeclggfaaGreatDoorYMa
import Derived.Test.YtmfhpddeclggfaaGreatDoorYMb
import Derived.Test.YtmfhpddeclggfaaGreatDoorYMc
import Derived.Laws.OwnMore
namespace Go.Proofs.YtmfhpddeclggfaaGreatDoor
open Go.RowKit Go.Shelf
/-! The law of another order. -/
theorem few_small {ts : List ByteArray} (hl : ts.length ≤ 6) (hb : wrap64 (sumL ts) ≤ 4000) (hr : ∀ s ∈ ts, s.size ≤ 140737488355328) : ∀ s ∈ ts, s.size ≤ 4000 := by
  have h3 := sumL_le ts 140737488355328 hr
  have h4 : 0 ≤ sumL ts := by unfold sumL; omega
  have h5 : wrap64 (sumL ts) = sumL ts := by unfold wrap64; omega
  exact fun s hs => by have := le_sumL ts s hs; omega
theorem getD_small {ts : List ByteArray} {B : Nat} (h : ∀ s ∈ ts, s.size ≤ B) (j : Nat) : (ts.getD j ByteArray.empty).size ≤ B := by
  rw [List.getD]
  cases hj : ts[j]? with
  | none => exact Nat.zero_le _
  | some s => exact h s (List.mem_of_getElem? hj)
set_option maxRecDepth 100000 in
set_option maxHeartbeats 4000000 in
theorem ord_big (p : Option Addr) (cap : Nat) (ts : List ByteArray) (b : Int) (w : World) (he : Env w) (hl : ts.length ≤ maxLen) (hz : ∀ j, (ts.getD j ByteArray.empty).size ≤ maxLen) (hp : StrsAt w p ts) (h : 6 < ts.length ∨ 4000 < wrap64 (sumL ts) ∨ ts.length = 0) :
    Calls Tryz.prog 16 #[.slice p ts.length cap, .int .u8 b] w fun e w' => e = .returned (.bool true) ∧ Below w.heap.size w w' := by
  have FW := Lib.hid (few_any p cap ts 6 w (by omega) hl hz hp)
  have SN := Lib.hid (sanity_any w he)
  obtain ⟨N, hN⟩ : ∃ N, ts.length = N := ⟨_, rfl⟩
  obtain ⟨t, ht⟩ : ∃ t, wrap64 (sumL ts) = t := ⟨_, rfl⟩
  rw [hN, ht] at FW h
  rw [hN]
  have e0 : (decide (N ≤ 6) && decide (t ≤ 4000)) = true → N = 0 := by simp; omega
  obtain ⟨f, hf⟩ : ∃ f, (decide (N ≤ 6) && decide (t ≤ 4000)) = f := ⟨_, rfl⟩
  rw [hf] at FW e0
  clear he hz hp hN ht hf h hl
  cases f
  · go_enter Tryz.func16, Tryz.ntmps16
    go_wp2_with fail
    refine FW.out.mono ?_
    rintro e w1 ⟨rfl, rfl⟩
    go_wp2_with fail
    refine SN.out.mono ?_
    rintro e w1 ⟨rfl, hb⟩
    have B := Lib.hid hb
    clear hb
    go_wp2_with fail
    go_ret
    exact ⟨rfl, B.out⟩
  · obtain rfl := e0 rfl
    clear e0
    go_enter Tryz.func16, Tryz.ntmps16
    go_wp2_with fail
    refine FW.out.mono ?_
    rintro e w1 ⟨rfl, rfl⟩
    go_wp2_with fail
    refine SN.out.mono ?_
    rintro e w1 ⟨rfl, hb⟩
    have B := Lib.hid hb
    clear hb
    go_wp2_with fail
    go_ret
    exact ⟨rfl, B.out⟩
theorem add_sp (g o j : Nat) : (⟨g, o, none⟩ : Addr).add j = ⟨g, o + j, none⟩ := by
  unfold Addr.add; split <;> simp_all
theorem ms_split {ts : List ByteArray} {k : Nat} {g o : Nat} {W : World} (h : ∀ j, j < ts.length → W.cell? ⟨g, o + j, none⟩ = some (.string (ts.getD j ByteArray.empty))) :
    (∀ j u, (strsV (ts.drop k))[j]? = some u → W.cell? ((⟨g, o + k, none⟩ : Addr).add j) = some u) ∧ ∀ j u, (strsV (ts.take k))[j]? = some u → W.cell? ((⟨g, o, none⟩ : Addr).add j) = some u := by
  constructor
  · intro j u hu
    rw [strsV, List.getElem?_map, List.getElem?_drop] at hu
    obtain ⟨s, hs, rfl⟩ := Option.map_eq_some_iff.1 hu
    have hj := (List.getElem?_eq_some_iff.1 hs).1
    have := h (k + j) hj
    rw [List.getD, hs] at this
    rw [add_sp, Nat.add_assoc]
    exact this
  · intro j u hu
    rw [strsV, List.getElem?_map, List.getElem?_take] at hu
    obtain ⟨s, hs, rfl⟩ := Option.map_eq_some_iff.1 hu
    split at hs
    · have hj := (List.getElem?_eq_some_iff.1 hs).1
      have := h j hj
      rw [List.getD, hs] at this
      rw [add_sp]
      exact this
    · cases hs
set_option maxRecDepth 100000 in
set_option maxHeartbeats 8000000 in
theorem ord_small (p : Option Addr) (cap : Nat) (ts : List ByteArray) (b : Int) (w : World) (he : Env w) (hl : ts.length ≤ 6) (h0 : 0 < ts.length) (hz : ∀ s ∈ ts, s.size ≤ 4000) (ht4 : wrap64 (sumL ts) ≤ 4000) (hp : StrsAt w p ts) (hb : 0 ≤ b ∧ b ≤ 255) (hc : ts.length ≤ cap) :
    Calls Tryz.prog 16 #[.slice p ts.length cap, .int .u8 b] w fun e w' => e = .returned (.bool true) ∧ Below w.heap.size w w' := by
  have hz2 := getD_small hz
  have FW := Lib.hid (few_any p cap ts 6 w (by omega) (by unfold maxLen; omega) (fun j => by have := hz2 j; unfold maxLen; omega) hp)
  have HE := Lib.hid he
  have HP := Lib.hid hp
  have HZ := Lib.hid hz
  obtain ⟨N, hN⟩ : ∃ N, Hid (ts.length = N) := ⟨_, rfl⟩
  obtain ⟨t, ht⟩ : ∃ t, wrap64 (sumL ts) = t := ⟨_, rfl⟩
  obtain ⟨k, hk⟩ : ∃ k : Nat, b.toNat % ts.length = k := ⟨_, rfl⟩
  have hkN : k < ts.length := by rw [← hk]; exact Nat.mod_lt _ h0
  obtain ⟨g, o, rfl, hg, hcs⟩ := hp.resolve_left (by intro h; rw [h] at h0; simp at h0)
  obtain ⟨hd, htk⟩ := ms_split (k := k) hcs
  have hkb : b.tmod (ts.length : Int) = (k : Int) := by
    obtain ⟨n, rfl⟩ := Int.eq_ofNat_of_zero_le hb.1
    rw [← hk, Int.toNat_natCast]; rfl
  rw [hN.out, ht] at FW
  rw [hN.out] at hkb hl h0 hkN ⊢
  rw [ht] at ht4
  have ef : (decide (N ≤ 6) && decide (t ≤ 4000)) = true := by simp; omega
  rw [ef] at FW
  obtain ⟨i0, hi, hz0, hz1, hz4⟩ := info_parts inf9
  have hc2 : N ≤ cap := by rw [← hN.out]; exact hc
  have HDD : Hid (∀ W, Below w.heap.size w W → ∀ j u, (strsV (ts.drop k))[j]? = some u → W.cell? ((⟨g, o + k, none⟩ : Addr).add j) = some u) := fun W hb j u h => by
    have h5 := hd j u h
    rw [add_sp] at h5 ⊢
    exact (hb.cell (p := ⟨g, o + k + j, none⟩) hg).trans h5
  have HTT : Hid (∀ W, Below w.heap.size w W → ∀ j u, (strsV (ts.take k))[j]? = some u → W.cell? ((⟨g, o, none⟩ : Addr).add j) = some u) := fun W hb j u h => by
    have h5 := htk j u h
    rw [add_sp] at h5 ⊢
    exact (hb.cell (p := ⟨g, o + j, none⟩) hg).trans h5
  have A1 : Hid (((w.alloc (.cells #[] 9)).drew).ownsRow w.heap.size 9 1 (.slice (some ⟨w.heap.size, 0, none⟩) 0 0) 0 []) := (World.ownsRow_lit w #[] 0 (Nat.le_refl _) (by decide) rfl).drew
  have A2 : Hid (Below w.heap.size w (w.alloc (.cells #[] 9)).drew) := (below_alloc1 _ _).drew
  have A3 : Hid (w.heap.size ≤ ((w.alloc (.cells #[] 9)).drew).heap.size) := A2.out.size
  have HUL : Hid ((ts.drop k ++ ts.take k).length = N) := by unfold Hid; simp [hN.out]; omega
  have CO1 : Hid (∀ W, Below w.heap.size w W → Calls Tryz.prog 53 #[.slice (some ⟨g, o, none⟩) N cap] W (ColP W (coB ts) 0)) := fun W hb => by
    have h5 := collate_few (some ⟨g, o, none⟩) cap ts W (by rw [hN.out]; omega) (fun j => Nat.le_trans (hz2 j) (by decide)) (HP.out.below hb) (HE.out.next hb)
    rwa [hN.out] at h5
  have CO2 : Hid (∀ W q c, StrsAt W q (ts.drop k ++ ts.take k) → Env W → Calls Tryz.prog 53 #[.slice q N c] W (ColP W (coB (ts.drop k ++ ts.take k)) 0)) := fun W q c h he => by
    have h5 := collate_few q c (ts.drop k ++ ts.take k) W (by rw [HUL.out]; omega) (fun j => Nat.le_trans (getD_small (B := 4000) (fun s hs => HZ.out s (by
      rcases List.mem_append.1 hs with h | h
      · exact List.mem_of_mem_drop h
      · exact List.mem_of_mem_take h)) j) (by decide)) h he
    rwa [HUL.out] at h5
  have HZ1 : Hid ((coB ts).1.length ≤ 1000000000 ∧ (coB ts).2.1.length ≤ 1000000000 ∧ (coB ts).2.2.length ≤ 1000000000) := coB_len ts (fun j => Nat.le_trans (hz2 j) (by decide)) (by rw [hN.out]; omega)
  have HL1 : Hid ((strsV (ts.drop k)).length = (N - k) * 1) := by unfold Hid; simp [hN.out]
  have HL2 : Hid ((strsV (ts.take k)).length = k * 1) := by unfold Hid; simp [hN.out]; omega
  clear he hz hz2 ht ht4 ef hd htk hk hcs hp hc
  go_enter Tryz.func16, Tryz.ntmps16
  go_wp2_with fail
  refine FW.out.mono ?_
  rintro e w1 ⟨rfl, rfl⟩
  go_wp2_with fail
  have hk1 : (0 : Int) ≤ (k : Int) := by omega
  have hk2 : (k : Int) ≤ (N : Int) := by omega
  have hk3 : (k : Int) ≤ (cap : Int) := by omega
  have hk4 : (N : Int) ≤ (cap : Int) := by omega
  have hck : ¬ cap = k := by omega
  go_region_held3 (fun _ => True) (first | trivial | go_keep) (first
    | (refine step_append_own_at rfl (.tmp 25) (.tmp 28) 37 rfl w.heap.size 9 i0 (.string ⟨#[]⟩) 1 16 Tryz.underlying37 hi hz0 hz1 hz4 rfl (by decide) (.slice (some ⟨w.heap.size, 0, none⟩) 0 0) 0 [] rfl A1.out ⟨g, o + k, none⟩ (N - k) (cap - k) (strsV (ts.drop k)) rfl HL1.out (HDD.out _ A2.out) strsV_one (by unfold maxLen; omega) (by omega) A3.out ?_; intro v1 w2 hown1 hgrow1 hat1 _; obtain ⟨p1, c1, rfl⟩ := own_slice2 hown1; have O1 := Lib.hid hown1; have G1 := Lib.hid hgrow1; have T1 := Lib.hid hat1; have B2 := Lib.hid (A2.out.grown hgrow1 A3.out (fun k h => by cases h; exact Nat.le_refl _)); clear hown1 hgrow1 hat1)
    | (refine step_append_own_at rfl (.tmp 29) (.tmp 32) 37 rfl w.heap.size 9 i0 (.string ⟨#[]⟩) 1 16 Tryz.underlying37 hi hz0 hz1 hz4 rfl (by decide) (.slice p1 (0 + (N - k)) c1) (0 + (N - k)) ([] ++ strsV (ts.drop k)) rfl O1.out ⟨g, o, none⟩ k cap (strsV (ts.take k)) rfl HL2.out (HTT.out _ B2.out) strsV_one (by unfold maxLen; omega) (by omega) B2.out.size ?_; intro v2 w3 hown2 hgrow2 _ _; obtain ⟨p2, c2, rfl⟩ := own_slice2 hown2; have O2 := Lib.hid hown2; clear hown2))
  all_goals
    have HB3 := Lib.hid (B2.out.grown hgrow2 B2.out.size (fun k h => (O1.out.lt k h).1))
    have ek : 0 + (N - k) + k = N := by omega
    rw [ek] at O2
    rw [ek]
    have ek2 : N - k + k = N := by omega
    rw [ek2]
    have hus := O2.out
    rw [List.nil_append, ← strsV_app, ← HUL.out] at hus
    obtain ⟨q2, c3, e2, hst⟩ := strs_own hus
    obtain ⟨rfl, rfl⟩ : p2 = q2 ∧ c2 = c3 := by simpa using e2
    rw [HUL.out] at e2
    have HS2 := Lib.hid hst
    have C1 := Lib.hid (CO1.out w3 HB3.out)
    clear hgrow2 G1 T1 O1 O2 A1 A2 A3 B2 HDD HTT HL1 HL2 hus hst e2 ek ek2 hi hz0 hz1 hz4
    go_wp2_with fail
    refine C1.out.mono ?_
    rintro e w4 hcol
    obtain ⟨hb4, r0, r1, r2, s0, s1, s2, ls, cs, rfl, hbk⟩ := col_at hcol
    have HB4 := Lib.hid (HB3.out.trans (hb4.mono HB3.out.size))
    have HB34 := Lib.hid hb4
    have BK1 := Lib.hid hbk
    clear hb4 hbk hcol C1
    go_wp2_with fail
    have N1 := Lib.hid (fun o u h => nw_at w4 #[.slice r0 (coB ts).1.length s0, .slice r1 (coB ts).2.1.length s1, .slice r2 (coB ts).2.2.length s2] 78 o u h)
    have HB45 : Hid (Below w4.heap.size w4 (w4.alloc (.cells #[.slice r0 (coB ts).1.length s0, .slice r1 (coB ts).2.1.length s1, .slice r2 (coB ts).2.2.length s2] 78))) := below_alloc1 _ _
    have HW5 : Hid ((w4.alloc (.cells #[.slice r0 (coB ts).1.length s0, .slice r1 (coB ts).2.1.length s1, .slice r2 (coB ts).2.2.length s2] 78)).heap.size = w4.heap.size + 1) := by unfold Hid; simp
    obtain ⟨W5, hW5⟩ : ∃ W5, Hid (w4.alloc (.cells #[.slice r0 (coB ts).1.length s0, .slice r1 (coB ts).2.1.length s1, .slice r2 (coB ts).2.2.length s2] 78) = W5) := ⟨_, rfl⟩
    rw [hW5.out] at N1 HB45 HW5 ⊢
    have HB5 := Lib.hid (HB4.out.trans (HB45.out.mono HB4.out.size))
    have C2 := Lib.hid (CO2.out W5 p2 c2 (HS2.out.below (HB34.out.trans (HB45.out.mono HB34.out.size))) (HE.out.next HB5.out))
    have BK1' := Lib.hid (BK1.out.below HB45.out)
    clear BK1 CO1 CO2 HS2 HB34
    refine C2.out.mono ?_
    rintro e w6 hcol
    obtain ⟨hb6, t0, t1, t2, u0, u1, u2, ls', cs', rfl, hbk⟩ := col_at hcol
    have HB6 := Lib.hid (HB5.out.trans (hb6.mono HB5.out.size))
    have HB56 := Lib.hid hb6
    have BK2 := Lib.hid hbk
    clear hb6 hbk hcol C2
    go_wp2_with fail
    have N2 := Lib.hid (fun o u h => nw_at w6 #[.slice t0 (coB (ts.drop k ++ ts.take k)).1.length u0, .slice t1 (coB (ts.drop k ++ ts.take k)).2.1.length u1, .slice t2 (coB (ts.drop k ++ ts.take k)).2.2.length u2] 78 o u h)
    have HB67 : Hid (Below w6.heap.size w6 (w6.alloc (.cells #[.slice t0 (coB (ts.drop k ++ ts.take k)).1.length u0, .slice t1 (coB (ts.drop k ++ ts.take k)).2.1.length u1, .slice t2 (coB (ts.drop k ++ ts.take k)).2.2.length u2] 78))) := below_alloc1 _ _
    have HW7 : Hid ((w6.alloc (.cells #[.slice t0 (coB (ts.drop k ++ ts.take k)).1.length u0, .slice t1 (coB (ts.drop k ++ ts.take k)).2.1.length u1, .slice t2 (coB (ts.drop k ++ ts.take k)).2.2.length u2] 78)).heap.size = w6.heap.size + 1) := by unfold Hid; simp
    obtain ⟨W7, hW7⟩ : ∃ W7, Hid (w6.alloc (.cells #[.slice t0 (coB (ts.drop k ++ ts.take k)).1.length u0, .slice t1 (coB (ts.drop k ++ ts.take k)).2.1.length u1, .slice t2 (coB (ts.drop k ++ ts.take k)).2.2.length u2] 78) = W7) := ⟨_, rfl⟩
    rw [hW7.out] at N2 HB67 HW7 ⊢
    have HB7 := Lib.hid (HB6.out.trans (HB67.out.mono HB6.out.size))
    obtain ⟨E1, E2, E3⟩ := coB_same (cs := ts) (ds := ts.drop k ++ ts.take k) (scS_rot ts k)
    have E0 : (coB (ts.drop k ++ ts.take k)).1.length = (coB ts).1.length := by simpa using (congrArg List.length E1).symm
    have Z1 := HZ1.out
    rw [E0, ← E2, ← E3] at N2
    have B57 := HB56.out.trans (HB67.out.mono HB56.out.size)
    have bk1 := BK1'.out.below B57
    have bk2 := BK2.out.below HB67.out
    have kk : ls.map (kS ∘ kG) = ls'.map (kS ∘ kG) := by rw [← List.map_map, ← List.map_map, bk1.kl, bk2.kl]; exact E1
    have z1 : ls.length = (coB ts).1.length := by rw [← bk1.kl, List.length_map]
    have z2 : ls'.length = (coB ts).1.length := by rw [← E0, ← bk2.kl, List.length_map]
    have SF : Hid (∀ V, Below W7.heap.size W7 V → Calls Tryz.prog 70 #[.slice r0 (coB ts).1.length s0, .slice t0 (coB ts).1.length u0, .bool false] V fun e w' => e = .returned (.bool true) ∧ Below V.heap.size V w') := fun V hb => by
      have h5 := sameFoundF r0 t0 s0 u0 ls ls' V (by rw [z1]; unfold maxLen; omega) kk (map_ws bk1.kl (coD_ws _ _).1) (bk1.below hb).l (bk2.below hb).l
      rwa [z1, z2] at h5
    have SG : Hid (∀ V, Below W7.heap.size W7 V → Calls Tryz.prog 71 #[.slice r2 (coB ts).2.2.length s2, .slice t2 (coB ts).2.2.length u2] V fun e w' => e = .returned (.bool true) ∧ Below V.heap.size V w') := fun V hb =>
      sameGaps r2 t2 s2 u2 (coB ts).2.2 V (by unfold maxLen; omega) (bk1.below hb).g (by have := (bk2.below hb).g; rwa [← E3] at this)
    have TB : Hid (∀ V, Below W7.heap.size W7 V → (V.cell? ⟨w4.heap.size, 0, none⟩ = some (.slice r0 (coB ts).1.length s0) ∧ V.cell? ⟨w4.heap.size, 1, none⟩ = some (.slice r1 (coB ts).2.1.length s1) ∧ V.cell? ⟨w4.heap.size, 2, none⟩ = some (.slice r2 (coB ts).2.2.length s2)) ∧ V.cell? ⟨w6.heap.size, 0, none⟩ = some (.slice t0 (coB ts).1.length u0) ∧ V.cell? ⟨w6.heap.size, 1, none⟩ = some (.slice t1 (coB ts).2.1.length u1) ∧ V.cell? ⟨w6.heap.size, 2, none⟩ = some (.slice t2 (coB ts).2.2.length u2)) := fun V hb => by
      have g1 := HW5.out
      have g2 := HW7.out
      have g3 := HB56.out.size
      have hv := B57.trans (hb.mono B57.size)
      exact ⟨⟨(hv.cell (p := ⟨w4.heap.size, 0, none⟩) (by show w4.heap.size < _; omega)).trans (N1.out 0 _ rfl), (hv.cell (p := ⟨w4.heap.size, 1, none⟩) (by show w4.heap.size < _; omega)).trans (N1.out 1 _ rfl), (hv.cell (p := ⟨w4.heap.size, 2, none⟩) (by show w4.heap.size < _; omega)).trans (N1.out 2 _ rfl)⟩,
        (hb.cell (p := ⟨w6.heap.size, 0, none⟩) (by show w6.heap.size < _; omega)).trans (N2.out 0 _ rfl), (hb.cell (p := ⟨w6.heap.size, 1, none⟩) (by show w6.heap.size < _; omega)).trans (N2.out 1 _ rfl), (hb.cell (p := ⟨w6.heap.size, 2, none⟩) (by show w6.heap.size < _; omega)).trans (N2.out 2 _ rfl)⟩
    obtain ⟨x0, hx0⟩ : ∃ x0, (coB ts).1.length = x0 := ⟨_, rfl⟩
    obtain ⟨x1, hx1⟩ : ∃ x1, (coB ts).2.1.length = x1 := ⟨_, rfl⟩
    obtain ⟨x2, hx2⟩ : ∃ x2, (coB ts).2.2.length = x2 := ⟨_, rfl⟩
    rw [E0, ← E2, ← E3, hx0, hx1, hx2]
    rw [hx0, hx1, hx2] at TB
    rw [hx0] at SF
    rw [hx2] at SG
    have SN := Lib.hid (sanity_any W7 (HE.out.next HB7.out))
    clear N1 N2 B57 bk1 bk2 kk z1 z2 E0 E1 E2 E3 Z1 BK1' BK2 HB45 HB56 HB67 HB5 HB6 HB4 HB3 hx0 hx1 hx2 HZ1 HW5 HW7 hW5 hW7
    refine SN.out.mono ?_
    rintro e w8 ⟨rfl, hb8⟩
    obtain ⟨⟨a0, a1, a2⟩, b0, b1, b2⟩ := TB.out w8 hb8
    have F8 := Lib.hid (SF.out w8 hb8)
    have HB8 := Lib.hid hb8
    clear hb8 SN SF
    go_wp2_with fail
    clear a0 a1 a2 b0 b1 b2
    refine F8.out.mono ?_
    rintro e w9 ⟨rfl, hb9⟩
    have hbb := HB8.out.trans (hb9.mono HB8.out.size)
    obtain ⟨⟨a0, a1, a2⟩, b0, b1, b2⟩ := TB.out w9 hbb
    have G9 := Lib.hid (SG.out w9 hbb)
    have HB9 := Lib.hid hbb
    clear hb9 hbb F8 SG HB8
    go_wp2_with fail
    clear a0 a1 a2 b0 b1 b2
    refine G9.out.mono ?_
    rintro e w10 ⟨rfl, hb10⟩
    have hbb := HB9.out.trans (hb10.mono HB9.out.size)
    obtain ⟨⟨a0, a1, a2⟩, b0, b1, b2⟩ := TB.out w10 hbb
    have HB10 := Lib.hid (HB7.out.trans (hbb.mono HB7.out.size))
    clear hb10 hbb G9 HB9 TB
    go_wp2_with fail
    go_ret
    exact ⟨rfl, HB10.out⟩
/-- The law; each copy as long as memory allows. -/
theorem sheetOrder_law (p : Option Addr) (cap : Nat) (ts : List ByteArray) (b : Int) (w : World) (he : Env w) (hl : ts.length ≤ maxLen) (hz : ∀ j, (ts.getD j ByteArray.empty).size ≤ maxLen) (hp : StrsAt w p ts) (hr : ∀ s ∈ ts, s.size ≤ 140737488355328) (hc : ts.length ≤ cap) (hb : 0 ≤ b ∧ b ≤ 255) :
    Calls Tryz.prog 16 #[.slice p ts.length cap, .int .u8 b] w fun e w' => e = .returned (.bool true) ∧ Below w.heap.size w w' := by
  by_cases h : 6 < ts.length ∨ 4000 < wrap64 (sumL ts) ∨ ts.length = 0
  · exact ord_big p cap ts b w he hl hz hp h
  · exact ord_small p cap ts b w he (by omega) (by omega) (few_small (by omega) (by omega) hr) (by omega) hp hb hc
end Go.Proofs.YtmfhpddeclggfaaGreatDoor
