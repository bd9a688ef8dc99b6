import Derived.Test.YtmfhpddeclggfaaGreatDoorWIfa
import Derived.Maps.Own
import Derived.Maps.OwnOps
import Derived.Maps.OwnSet
import Derived.Lib.SlKeysI
import Derived.RangeFuncNested
import Derived.RangeFuncBound
import Derived.RangeFuncCalls
import Derived.RangeFuncLeaves
import Derived.RangeFuncBox
import Derived.Shelf.Abstract
import Derived.Shelf.RegionOpen
import Derived.OwnWalkIn
import Derived.TacticsInMore
import Derived.LoopNIn
import Derived.LoopIn
import Derived.Maps.AppendAt
import Derived.Maps.OwnIn
import Derived.RegionIn
import Derived.BigRegionIn
import Derived.Stop.RegionWithIn
import Derived.WalkKit
import Derived.LoopTactic
import Derived.WalkSpells
import Derived.WalkLawsBesides
import Derived.Lib.Hide
import Derived.BigQuiet
import Derived.IntWalk
import Derived.Deep.DeepMust
import Derived.WalkSmall
import Derived.StillTailTactics
import Derived.Deep.RegionLaw
import Derived.Deep.QuietTactic
import Derived.Deep.Cut
import Derived.Deep.DeepCutAuto
import Derived.Deep.LoopGhost
import Derived.Laws.AppendOwn
import Derived.Deep.RegionHeld3
import Derived.Deep.AppendLies
import Derived.Test.YtmfhpddeclggfaaGreatDoorIfk
import Derived.Test.YtmfhpddeclggfaaGreatDoorWIfb
import Derived.Test.YtmfhpddeclggfaaGreatDoorWIg
import Derived.Test.YtmfhpddeclggfaaGreatDoorWIh
import Derived.Test.YtmfhpddeclggfaaGreatDoorWIia
import Derived.Test.YtmfhpddeclggfaaGreatDoorWIib
import Derived.Test.YtmfhpddeclggfaaGreatDoorKf
import Derived.Test.YtmfhpddeclggfaaGreatDoorWIic
import Derived.Test.YtmfhpddeclggfaaGreatDoorWc
import Derived.Test.YtmfhpddeclggfaaGreatDoorWMa
import Derived.Test.YtmfhpddeclggfaaGreatDoorWMb
import Derived.Test.YtmfhpddeclggfaaGreatDoorWCz
import Derived.Test.YtmfhpddeclggfaaGreatDoorWMc
import Derived.Test.YtmfhpddeclggfaaGreatDoorWHa
import Derived.Laws.OwnMore
import Derived.Test.YtmfhpddeclggfaaGreatDoorWCx
import Derived.Test.YtmfhpddeclggfaaGreatDoorWHh
import Derived.Test.YtmfhpddeclggfaaGreatDoorWHf
import Derived.Test.YtmfhpddeclggfaaGreatDoorWHe
import Derived.Test.YtmfhpddeclggfaaGreatDoorWHi
import Derived.Test.YtmfhpddeclggfaaGreatDoorWHd
import Derived.Test.YtmfhpddeclggfaaGreatDoorWNa
import Derived.Test.YtmfhpddeclggfaaGreatDoorWNb
import Derived.Test.YtmfhpddeclggfaaGreatDoorWNc
import Derived.Test.YtmfhpddeclggfaaGreatDoorWHj
import Derived.Test.YtmfhpddeclggfaaGreatDoorWHk
import Derived.Test.YtmfhpddeclggfaaGreatDoorWHl
namespace Go.Proofs.YtmfhpddeclggfaaGreatDoor
open Go.RowKit Go.Shelf
/-! The law of Collate. -/
/-- What the reference's Collate leaves: a book and an error. -/
theorem fdV_cp (d : DS) (n : Nat) {c : Nat} (h : SzD d c) : ∀ f ∈ fdV d n, f.2.2.1.length ≤ c := by
  intro f hf
  unfold fdV at hf
  split at hf
  · unfold rsD at hf
    split at hf
    · cases hf
    · unfold rsF at hf
      obtain ⟨z, -, hz⟩ := List.mem_flatMap.1 hf
      have h1 : (ofL (d.os n) z.toNat).length ≤ c := Nat.le_trans (List.length_filter_le _ _) (h.fo n)
      obtain ⟨L, hL⟩ : ∃ L, ofL (d.os n) z.toNat = L := ⟨_, rfl⟩
      rw [hL] at hz h1
      unfold ov1 at hz
      split at hz
      · rw [List.mem_singleton] at hz
        have h5 : f.2.2.1 = cpL L := by rw [hz]
        rw [h5]
        exact Nat.le_trans (cpL_len L) h1
      · cases hz
  · obtain ⟨t, -, rfl⟩ := List.mem_map.1 hf
    exact h.fc n t
theorem coD_cp (d : DS) {c : Nat} (h : SzD d c) : ∀ k, (∀ f ∈ (coD d k).1, f.2.2.1.length ≤ c) ∧ ∀ f ∈ (coD d k).2.1, f.2.2.1.length ≤ c
  | 0 => (⟨fun f h => (by cases h), fun f h => (by cases h)⟩ : (∀ f ∈ ([] : List FV), f.2.2.1.length ≤ c) ∧ ∀ f ∈ ([] : List FV), f.2.2.1.length ≤ c)
  | k + 1 => by
    obtain ⟨h1, h2⟩ := coD_cp d h k
    have h3 := fdV_cp d (k + 1) h
    rw [coD]
    unfold stB
    split
    · exact ⟨h1, h2⟩
    · rename_i f e
      rw [e] at h3
      exact ⟨fun x hx => (List.mem_append.1 hx).elim (h1 x) (h3 x), h2⟩
    · rename_i f g fs e
      rw [e] at h3
      exact ⟨h1, fun x hx => (List.mem_append.1 hx).elim (h2 x) (h3 x)⟩
theorem map_cp {ls : List (FL × List Int)} {L : List FV} (h : ls.map kG = L) (hw : ∀ f ∈ L, f.2.2.1.length ≤ 1000000) (j : Nat) : (ls.getD j default).2.length ≤ maxLen := by
  by_cases hj : j < ls.length
  · have hm : kG (ls.getD j default) ∈ L := by
      rw [← h, List.getD, List.getElem?_eq_getElem hj]
      exact List.mem_map.2 ⟨_, List.getElem_mem hj, rfl⟩
    have := hw _ hm
    unfold kG at this
    unfold maxLen
    dsimp only at this
    omega
  · rw [List.getD, List.getElem?_eq_none (by omega)]
    exact Nat.zero_le _
/-- A book that is small enough to be compared. -/
structure SmB (b : BV) : Prop where
  l : b.1.length ≤ 1000000000
  c : b.2.1.length ≤ 1000000000
  g : b.2.2.length ≤ 1000000000
  w : (∀ f ∈ b.1, f.2.1.length ≤ 40) ∧ ∀ f ∈ b.2.1, f.2.1.length ≤ 40
  z : (∀ f ∈ b.1, f.2.2.1.length ≤ 1000000) ∧ ∀ f ∈ b.2.1, f.2.2.1.length ≤ 1000000
theorem smB_nil : SmB ([], [], []) := ⟨Nat.zero_le _, Nat.zero_le _, Nat.zero_le _, ⟨fun _ h => absurd h List.not_mem_nil, fun _ h => absurd h List.not_mem_nil⟩, ⟨fun _ h => absurd h List.not_mem_nil, fun _ h => absurd h List.not_mem_nil⟩⟩
theorem smB_coB (cs : List ByteArray) (h : ∀ j, (cs.getD j ByteArray.empty).size ≤ 99999) (hn : cs.length ≤ 8) : SmB (coB cs) := by
  obtain ⟨a, b, c⟩ := coB_len cs h hn
  have hc : ∀ j, ((cs.map scL).getD j []).length ≤ 100000 := fun j => by
    rw [scs_getD]
    split
    · have := scL_len (cs.getD j ByteArray.empty); have := h j; omega
    · exact Nat.zero_le _
  have hz : SzD (layF (cs.map scL) cs.length) 1000000 := (layF_sz (cs.map scL) 100000 hc cs.length).mono (Nat.le_trans (Nat.mul_le_mul_right 100000 hn) (by decide))
  exact ⟨a, b, c, coD_ws _ _, coD_cp _ hz _⟩
theorem kg_key {ls ls' : List (FL × List Int)} {L : List FV} (h : ls.map kG = L) (h' : ls'.map kG = L) : ls.map fKey = ls'.map fKey := by
  have e : ∀ l : List (FL × List Int), l.map fKey = (l.map kG).map fun f => (f.1, f.2.1, f.2.2.2, f.2.2.1) := fun l => by
    rw [List.map_map]; rfl
  rw [e, e, h, h']
/-- The law, given what both leave. -/
theorem col_core (p : Option Addr) (cap : Nat) (N : Nat) (b : BV) (er : Int) (w : World) (he : Env w) (hb : SmB b)
    (FW : Hid (Calls Tryz.prog 52 #[.slice p N cap, .int .i64 10] w fun e w' => e = .returned (.bool true) ∧ w = w'))
    (CO : Hid (Calls Tryz.prog 53 #[.slice p N cap] w (ColP w b er)))
    (RC : Hid (∀ W, Below w.heap.size w W → Calls Tryz.prog 54 #[.slice p N cap] W (RcP W b er))) :
    Calls Tryz.prog 9 #[.slice p N cap] w fun e w' => e = .returned (.bool true) ∧ Below w.heap.size w w' := by
  have HE := Lib.hid he
  have HS := Lib.hid hb
  clear he hb
  go_enter Tryz.func9, Tryz.ntmps9
  go_wp2_with fail
  refine FW.out.mono ?_
  rintro e w1 ⟨rfl, rfl⟩
  go_wp2_with fail
  refine CO.out.mono ?_
  rintro e w4 hcol
  obtain ⟨hb4, r0, r1, r2, s0, s1, s2, ls, cs, rfl, hbk⟩ := col_at hcol
  have HB4 := Lib.hid hb4
  have BK1 := Lib.hid hbk
  clear hb4 hbk hcol CO
  go_wp2_with fail
  have N1 := Lib.hid (fun o u h => nw_at w4 #[.slice r0 b.1.length s0, .slice r1 b.2.1.length s1, .slice r2 b.2.2.length s2] 78 o u h)
  have HB45 : Hid (Below w4.heap.size w4 (w4.alloc (.cells #[.slice r0 b.1.length s0, .slice r1 b.2.1.length s1, .slice r2 b.2.2.length s2] 78))) := below_alloc1 _ _
  have HW5 : Hid ((w4.alloc (.cells #[.slice r0 b.1.length s0, .slice r1 b.2.1.length s1, .slice r2 b.2.2.length s2] 78)).heap.size = w4.heap.size + 1) := by unfold Hid; simp
  obtain ⟨W5, hW5⟩ : ∃ W5, Hid (w4.alloc (.cells #[.slice r0 b.1.length s0, .slice r1 b.2.1.length s1, .slice r2 b.2.2.length s2] 78) = W5) := ⟨_, rfl⟩
  rw [hW5.out] at N1 HB45 HW5 ⊢
  have HB5 := Lib.hid (HB4.out.trans (HB45.out.mono HB4.out.size))
  have C2 := Lib.hid (RC.out W5 HB5.out)
  have BK1' := Lib.hid (BK1.out.below HB45.out)
  clear BK1 RC
  refine C2.out.mono ?_
  rintro e w6 ⟨t0, t1, t2, u0, u1, u2, ls', cs', rfl, hbk, hb6⟩
  have HB6 := Lib.hid (HB5.out.trans (hb6.mono HB5.out.size))
  have HB56 := Lib.hid hb6
  have BK2 := Lib.hid hbk
  clear hb6 hbk C2
  go_wp2_with fail
  have N2 := Lib.hid (fun o u h => nw_at w6 #[.slice t0 b.1.length u0, .slice t1 b.2.1.length u1, .slice t2 b.2.2.length u2, .int .i64 er] 82 o u h)
  have HB67 : Hid (Below w6.heap.size w6 (w6.alloc (.cells #[.slice t0 b.1.length u0, .slice t1 b.2.1.length u1, .slice t2 b.2.2.length u2, .int .i64 er] 82))) := below_alloc1 _ _
  have HW7 : Hid ((w6.alloc (.cells #[.slice t0 b.1.length u0, .slice t1 b.2.1.length u1, .slice t2 b.2.2.length u2, .int .i64 er] 82)).heap.size = w6.heap.size + 1) := by unfold Hid; simp
  obtain ⟨W7, hW7⟩ : ∃ W7, Hid (w6.alloc (.cells #[.slice t0 b.1.length u0, .slice t1 b.2.1.length u1, .slice t2 b.2.2.length u2, .int .i64 er] 82) = W7) := ⟨_, rfl⟩
  rw [hW7.out] at N2 HB67 HW7 ⊢
  have HB7 := Lib.hid (HB6.out.trans (HB67.out.mono HB6.out.size))
  have B57 := HB56.out.trans (HB67.out.mono HB56.out.size)
  have bk1 := BK1'.out.below B57
  have bk2 := BK2.out.below HB67.out
  have z1 : ls.length = b.1.length := by rw [← bk1.kl, List.length_map]
  have z2 : ls'.length = b.1.length := by rw [← bk2.kl, List.length_map]
  have z3 : cs.length = b.2.1.length := by rw [← bk1.kc, List.length_map]
  have z4 : cs'.length = b.2.1.length := by rw [← bk2.kc, List.length_map]
  have SB : Hid (∀ V, Below W7.heap.size W7 V → Calls Tryz.prog 55 #[.agg #[.slice r0 b.1.length s0, .slice r1 b.2.1.length s1, .slice r2 b.2.2.length s2], .agg #[.slice t0 b.1.length u0, .slice t1 b.2.1.length u1, .slice t2 b.2.2.length u2]] V fun e w' => e = .returned (.bool true) ∧ Below V.heap.size V w') := fun V hb => by
    have k1 := bk1.below hb
    have k2 := bk2.below hb
    have h5 := sameBook r0 r1 r2 t0 t1 t2 s0 s1 s2 u0 u1 u2 ls ls' cs cs' b.2.2 V (by rw [z1]; have := HS.out.l; unfold maxLen; omega) (kg_key k1.kl k2.kl) (map_ws k1.kl HS.out.w.1) (map_cp k1.kl HS.out.z.1) k1.l k2.l
      (by rw [z3]; have := HS.out.c; unfold maxLen; omega) (kg_key k1.kc k2.kc) (map_ws k1.kc HS.out.w.2) (map_cp k1.kc HS.out.z.2) k1.c k2.c (by have := HS.out.g; unfold maxLen; omega) k1.g k2.g
    unfold bookV at h5
    rwa [z1, z2, z3, z4] at h5
  have TB : Hid (∀ V, Below W7.heap.size W7 V → (V.cell? ⟨w4.heap.size, 0, none⟩ = some (.slice r0 b.1.length s0) ∧ V.cell? ⟨w4.heap.size, 1, none⟩ = some (.slice r1 b.2.1.length s1) ∧ V.cell? ⟨w4.heap.size, 2, none⟩ = some (.slice r2 b.2.2.length s2)) ∧ V.cell? ⟨w6.heap.size, 0, none⟩ = some (.slice t0 b.1.length u0) ∧ V.cell? ⟨w6.heap.size, 1, none⟩ = some (.slice t1 b.2.1.length u1) ∧ V.cell? ⟨w6.heap.size, 2, none⟩ = some (.slice t2 b.2.2.length u2) ∧ V.cell? ⟨w6.heap.size, 3, none⟩ = some (.int .i64 er)) := fun V hb => by
    have g1 := HW5.out
    have g2 := HW7.out
    have g3 := HB56.out.size
    have hv := B57.trans (hb.mono B57.size)
    exact ⟨⟨(hv.cell (p := ⟨w4.heap.size, 0, none⟩) (by show w4.heap.size < _; omega)).trans (N1.out 0 _ rfl), (hv.cell (p := ⟨w4.heap.size, 1, none⟩) (by show w4.heap.size < _; omega)).trans (N1.out 1 _ rfl), (hv.cell (p := ⟨w4.heap.size, 2, none⟩) (by show w4.heap.size < _; omega)).trans (N1.out 2 _ rfl)⟩,
      (hb.cell (p := ⟨w6.heap.size, 0, none⟩) (by show w6.heap.size < _; omega)).trans (N2.out 0 _ rfl), (hb.cell (p := ⟨w6.heap.size, 1, none⟩) (by show w6.heap.size < _; omega)).trans (N2.out 1 _ rfl), (hb.cell (p := ⟨w6.heap.size, 2, none⟩) (by show w6.heap.size < _; omega)).trans (N2.out 2 _ rfl), (hb.cell (p := ⟨w6.heap.size, 3, none⟩) (by show w6.heap.size < _; omega)).trans (N2.out 3 _ rfl)⟩
  obtain ⟨x0, hx0⟩ : ∃ x0, b.1.length = x0 := ⟨_, rfl⟩
  obtain ⟨x1, hx1⟩ : ∃ x1, b.2.1.length = x1 := ⟨_, rfl⟩
  obtain ⟨x2, hx2⟩ : ∃ x2, b.2.2.length = x2 := ⟨_, rfl⟩
  rw [hx0, hx1, hx2] at TB SB
  have SN := Lib.hid (sanity_any W7 (HE.out.next HB7.out))
  clear N1 N2 B57 bk1 bk2 z1 z2 z3 z4 BK1' BK2 HB45 HB56 HB67 HB5 HB6 HB4 hx0 hx1 hx2 HW5 HW7 hW5 hW7
  refine SN.out.mono ?_
  rintro e w8 ⟨rfl, hb8⟩
  obtain ⟨⟨a0, a1, a2⟩, b0, b1, b2, b3⟩ := TB.out w8 hb8
  have F8 := Lib.hid (SB.out w8 hb8)
  have HB8 := Lib.hid hb8
  clear hb8 SN SB TB
  go_wp2_with fail
  clear a0 a1 a2 b0 b1 b2 b3
  refine F8.out.mono ?_
  rintro e w9 ⟨rfl, hb9⟩
  have HB10 := Lib.hid (HB7.out.trans ((HB8.out.trans (hb9.mono HB8.out.size)).mono HB7.out.size))
  clear hb9 F8 HB8
  go_wp2_with fail
  go_ret
  exact ⟨rfl, HB10.out⟩
set_option maxRecDepth 100000 in
set_option maxHeartbeats 2000000 in
theorem col_big (p : Option Addr) (cap N : Nat) (w : World) (he : Env w) (FW : Hid (Calls Tryz.prog 52 #[.slice p N cap, .int .i64 10] w fun e w' => e = .returned (.bool false) ∧ w = w')) :
    Calls Tryz.prog 9 #[.slice p N cap] w fun e w' => e = .returned (.bool true) ∧ Below w.heap.size w w' := by
  have SN := Lib.hid (sanity_any w he)
  clear he
  go_enter Tryz.func9, Tryz.ntmps9
  go_wp2_with fail
  refine FW.out.mono ?_
  rintro e w1 ⟨rfl, rfl⟩
  go_wp2_with fail
  refine SN.out.mono ?_
  rintro e w1 ⟨rfl, hb⟩
  have B := Lib.hid hb
  clear hb
  go_wp2_with fail
  go_ret
  exact ⟨rfl, B.out⟩
/-- The law; each copy as long as memory allows. -/
theorem sheetCollates_law (p : Option Addr) (cap : Nat) (ts : List ByteArray) (w : World) (he : Env w) (hl : ts.length ≤ maxLen) (hz : ∀ j, (ts.getD j ByteArray.empty).size ≤ maxLen) (hp : StrsAt w p ts) (hr : ∀ s ∈ ts, s.size ≤ 140737488355328) :
    Calls Tryz.prog 9 #[.slice p ts.length cap] w fun e w' => e = .returned (.bool true) ∧ Below w.heap.size w w' := by
  have FW := few_any p cap ts 10 w (by omega) hl hz hp
  by_cases h : 10 < ts.length ∨ 4000 < wrap64 (sumL ts)
  · refine col_big p cap ts.length w he ?_
    have e : (decide (ts.length ≤ 10) && decide (wrap64 (sumL ts) ≤ 4000)) = false := by
      rcases h with h | h
      · rw [decide_eq_false (by omega)]; rfl
      · rw [decide_eq_false (p := wrap64 (sumL ts) ≤ 4000) (by omega), Bool.and_false]
    rw [e] at FW
    exact FW
  · have e : (decide (ts.length ≤ 10) && decide (wrap64 (sumL ts) ≤ 4000)) = true := by
      rw [decide_eq_true (by omega), decide_eq_true (p := wrap64 (sumL ts) ≤ 4000) (by omega)]; rfl
    rw [e] at FW
    by_cases h8 : ts.length ≤ 8
    · have hz2 : ∀ j, (ts.getD j ByteArray.empty).size ≤ 99999 := fun j => by
        have h3 := sumL_le ts 140737488355328 hr
        have h4 : 0 ≤ sumL ts := by unfold sumL; omega
        have h5 : wrap64 (sumL ts) = sumL ts := by unfold wrap64; omega
        rw [List.getD]
        cases hj : ts[j]? with
        | none => exact Nat.zero_le _
        | some s =>
          have := le_sumL ts s (List.mem_of_getElem? hj)
          simp only [Option.getD_some]
          omega
      exact col_core p cap ts.length (coB ts) 0 w he (smB_coB ts hz2 h8) FW (collate_few p cap ts w h8 hz2 hp he) (fun W hb => rCollate p cap ts W h8 hz2 (hp.below hb))
    · exact col_core p cap ts.length ([], [], []) 2 w he smB_nil FW (collate_many p cap ts.length w (by omega)) (fun W _ => rCollate_many p cap ts.length W (by omega))
end Go.Proofs.YtmfhpddeclggfaaGreatDoor
