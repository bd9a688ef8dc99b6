import Derived.RangeFuncNested
import Derived.RangeFuncBound
import Derived.RangeFuncCalls
import Derived.RangeFuncLeaves
import Derived.Test.YtmfhpddeclggfaaGreatDoorWc
import Derived.RangeFuncBox
import Derived.Shelf.Abstract
import Derived.Shelf.RegionOpen
import Derived.OwnWalkIn
import Derived.TacticsInMore
import Derived.LoopNIn
import Derived.LoopIn
import Derived.Maps.AppendAt
import Derived.Maps.OwnIn
import Derived.RegionIn
import Derived.BigRegionIn
import Derived.Stop.RegionWithIn
import Derived.WalkKit
import Derived.LoopTactic
import Derived.WalkSpells
import Derived.WalkLawsBesides
import Derived.Lib.Hide
import Derived.BigQuiet
import Derived.IntWalk
import Derived.Deep.DeepMust
import Derived.WalkSmall
import Derived.StillTailTactics
import Derived.Deep.RegionLaw
import Derived.Deep.QuietTactic
import Derived.Deep.Cut
import Derived.Deep.DeepCutAuto
import Derived.Deep.LoopGhost
import Derived.Laws.AppendOwn
namespace Go.Proofs.YtmfhpddeclggfaaGreatDoor
open Go.RowKit
/-! The comparison of two books that are equal. -/
open Go.Shelf
set_option maxRecDepth 100000 in
set_option maxHeartbeats 1000000 in
theorem few_any (p : Option Addr) (cap : Nat) (ts : List ByteArray) (most : Nat) (w : World) (_hm : most ≤ 1000) (hts : ts.length ≤ maxLen) (hs : ∀ j, (ts.getD j ByteArray.empty).size ≤ maxLen) (hp : StrsAt w p ts) :
    Calls Tryz.prog 52 #[.slice p ts.length cap, .int .i64 most] w fun e w' => e = .returned (.bool (decide (ts.length ≤ most) && decide (wrap64 (sumL ts) ≤ 4000))) ∧ w = w' := by
  have SZ := Lib.hid (size_any p cap ts w hts hs hp)
  obtain ⟨N, hN⟩ : ∃ N, ts.length = N := ⟨_, rfl⟩
  obtain ⟨t, ht⟩ : ∃ t, wrap64 (sumL ts) = t := ⟨_, rfl⟩
  rw [hN] at SZ hts ⊢
  rw [ht] at SZ ⊢
  unfold maxLen at hts
  clear hs hp hN ht
  by_cases h1 : N ≤ most
  · have h1' : (N : Int) ≤ (most : Int) := by omega
    by_cases h2 : t ≤ 4000
    · go_enter Tryz.func52, Tryz.ntmps52
      go_wp2_with fail
      refine SZ.out.mono ?_
      rintro e w' ⟨rfl, rfl⟩
      go_wp2_with fail
      go_ret
      exact ⟨ret_bool (by simp [h1, h2]), rfl⟩
    · go_enter Tryz.func52, Tryz.ntmps52
      go_wp2_with fail
      refine SZ.out.mono ?_
      rintro e w' ⟨rfl, rfl⟩
      go_wp2_with fail
      go_ret
      exact ⟨ret_bool (by simp [h1] <;> omega), rfl⟩
  · have h1' : ¬ (N : Int) ≤ (most : Int) := by omega
    go_enter Tryz.func52, Tryz.ntmps52
    go_wp2_with fail
    go_ret
    exact ⟨ret_bool (by simp <;> omega), rfl⟩
/-- These numbers lie there. -/
def IntsAt (W : World) (p : Option Addr) (zs : List Int) : Prop :=
  zs = [] ∨ ∃ b o, p = some ⟨b, o, none⟩ ∧ b < W.heap.size ∧ ∀ j, j < zs.length → W.cell? ⟨b, o + j, none⟩ = some (.int .i64 (zs.getD j 0))
theorem IntsAt.below {W W' : World} {p : Option Addr} {zs : List Int} (h : IntsAt W p zs) (hb : Below W.heap.size W W') : IntsAt W' p zs := by
  rcases h with h | ⟨b, o, h1, h2, h3⟩
  · exact .inl h
  · exact .inr ⟨b, o, h1, Nat.lt_of_lt_of_le h2 hb.size, fun j hj => (hb.cell (p := ⟨b, o + j, none⟩) h2).trans (h3 j hj)⟩
theorem int_at {W : World} {p : Option Addr} {zs : List Int} (h : IntsAt W p zs) {k : Nat} (hk : k < zs.length) : ∃ b o, p = some ⟨b, o, none⟩ ∧ b < W.heap.size ∧ W.cell? ⟨b, o + k, none⟩ = some (.int .i64 (zs.getD k 0)) := by
  rcases h with h | ⟨b, o, h1, h2, h3⟩
  · rw [h] at hk; exact absurd hk (by simp)
  · exact ⟨b, o, h1, h2, h3 k hk⟩
set_option maxRecDepth 100000 in
set_option maxHeartbeats 4000000 in
theorem sameInts (p q : Option Addr) (c d : Nat) (zs : List Int) (w : World) (hl : zs.length ≤ maxLen) (hp : IntsAt w p zs) (hq : IntsAt w q zs) :
    Calls Tryz.prog 64 #[.slice p zs.length c, .slice q zs.length d] w fun e w' => e = .returned (.bool true) ∧ Below w.heap.size w w' := by
  have HP := Lib.hid hp
  have HQ := Lib.hid hq
  obtain ⟨N, hN⟩ : ∃ N, Hid (zs.length = N) := ⟨_, rfl⟩
  rw [hN.out] at hl ⊢
  unfold maxLen at hl
  clear hp hq
  go_enter Tryz.func64, Tryz.ntmps64
  go_wp2_with fail
  go_loopw [5] (fun i wr => ∃ k : Nat, k ≤ N ∧ i = .int .i64 k ∧ Hid (Below w.heap.size w wr)) (fun i _ => N - (intOf i).toNat)
  case atStart => exact ⟨0, Nat.zero_le _, rfl, Below.refl _ _⟩
  case round =>
    obtain ⟨k, hk, rfl, Q⟩ := hrel
    by_cases hlt : k < N
    · obtain ⟨b, o, rfl, -, c2⟩ := int_at (HP.out.below Q.out) (show k < zs.length by rw [hN.out]; exact hlt)
      obtain ⟨b', o', rfl, -, c3⟩ := int_at (HQ.out.below Q.out) (show k < zs.length by rw [hN.out]; exact hlt)
      obtain ⟨z, hz⟩ : ∃ z, zs.getD k 0 = z := ⟨_, rfl⟩
      rw [hz] at c2 c3
      have hlt' : (k : Int) < (N : Int) := by omega
      have hk0 : (0 : Int) ≤ (k : Int) := by omega
      clear hz
      go_wp2_with fail
      go_quiet (fail)
      have Q1 := Lib.hid (below_drewN Q.out nq)
      go_wp2_with fail
      exact ⟨⟨k + 1, by omega, by go_num, Q1⟩, by simp [intOf]; omega⟩
    · obtain rfl : k = N := by omega
      go_wp2_with fail
      go_ret
      exact ⟨rfl, Q.out⟩
/-- These spans lie there. -/
def SpansAt (W : World) (p : Option Addr) (zs : List (Int × Int)) : Prop :=
  zs = [] ∨ ∃ b o, p = some ⟨b, o, none⟩ ∧ b < W.heap.size ∧ ∀ j, j < zs.length → W.cell? ⟨b, o + j * 2, none⟩ = some (.int .i64 (zs.getD j (0, 0)).1) ∧ W.cell? ⟨b, o + j * 2 + 1, none⟩ = some (.int .i64 (zs.getD j (0, 0)).2)
theorem SpansAt.below {W W' : World} {p : Option Addr} {zs : List (Int × Int)} (h : SpansAt W p zs) (hb : Below W.heap.size W W') : SpansAt W' p zs := by
  rcases h with h | ⟨b, o, h1, h2, h3⟩
  · exact .inl h
  · exact .inr ⟨b, o, h1, Nat.lt_of_lt_of_le h2 hb.size, fun j hj => ⟨(hb.cell (p := ⟨b, o + j * 2, none⟩) h2).trans (h3 j hj).1, (hb.cell (p := ⟨b, o + j * 2 + 1, none⟩) h2).trans (h3 j hj).2⟩⟩
theorem span_at {W : World} {p : Option Addr} {zs : List (Int × Int)} (h : SpansAt W p zs) {k : Nat} (hk : k < zs.length) : ∃ b o, p = some ⟨b, o, none⟩ ∧ b < W.heap.size ∧ W.cell? ⟨b, o + k * 2, none⟩ = some (.int .i64 (zs.getD k (0, 0)).1) ∧ W.cell? ⟨b, o + k * 2 + 1, none⟩ = some (.int .i64 (zs.getD k (0, 0)).2) := by
  rcases h with h | ⟨b, o, h1, h2, h3⟩
  · rw [h] at hk; exact absurd hk (by simp)
  · exact ⟨b, o, h1, h2, h3 k hk⟩
set_option maxRecDepth 100000 in
set_option maxHeartbeats 4000000 in
theorem sameGaps (p q : Option Addr) (c d : Nat) (zs : List (Int × Int)) (w : World) (hl : zs.length ≤ maxLen) (hp : SpansAt w p zs) (hq : SpansAt w q zs) :
    Calls Tryz.prog 71 #[.slice p zs.length c, .slice q zs.length d] w fun e w' => e = .returned (.bool true) ∧ Below w.heap.size w w' := by
  have HP := Lib.hid hp
  have HQ := Lib.hid hq
  obtain ⟨N, hN⟩ : ∃ N, Hid (zs.length = N) := ⟨_, rfl⟩
  rw [hN.out] at hl ⊢
  unfold maxLen at hl
  clear hp hq
  go_enter Tryz.func71, Tryz.ntmps71
  go_wp2_with fail
  go_loopw [5] (fun i wr => ∃ k : Nat, k ≤ N ∧ i = .int .i64 k ∧ Hid (Below w.heap.size w wr)) (fun i _ => N - (intOf i).toNat)
  case atStart => exact ⟨0, Nat.zero_le _, rfl, Below.refl _ _⟩
  case round =>
    obtain ⟨k, hk, rfl, Q⟩ := hrel
    by_cases hlt : k < N
    · obtain ⟨b, o, rfl, -, c2, c4⟩ := span_at (HP.out.below Q.out) (show k < zs.length by rw [hN.out]; exact hlt)
      obtain ⟨b', o', rfl, -, c3, c5⟩ := span_at (HQ.out.below Q.out) (show k < zs.length by rw [hN.out]; exact hlt)
      obtain ⟨⟨z1, z2⟩, hz⟩ : ∃ z, zs.getD k (0, 0) = z := ⟨_, rfl⟩
      rw [hz] at c2 c3 c4 c5
      simp only at c2 c3 c4 c5
      have hlt' : (k : Int) < (N : Int) := by omega
      have hk0 : (0 : Int) ≤ (k : Int) := by omega
      clear hz
      go_wp2_with fail
      go_quiet (fail)
      have Q1 := Lib.hid (below_drewN Q.out nq)
      go_wp2_with fail
      exact ⟨⟨k + 1, by omega, by go_num, Q1⟩, by simp [intOf]; omega⟩
    · obtain rfl : k = N := by omega
      go_wp2_with fail
      go_ret
      exact ⟨rfl, Q.out⟩
/-- Readings with their copies. -/
def FoundsC (W : World) (p : Option Addr) (fs : List (FL × List Int)) : Prop :=
  FoundsAt W p (fs.map Prod.fst) ∧ ∀ j, j < fs.length → IntsAt W (fs.getD j default).1.cp (fs.getD j default).2 ∧ (fs.getD j default).1.cn = (fs.getD j default).2.length
theorem FoundsC.below {W W' : World} {p : Option Addr} {fs : List (FL × List Int)} (h : FoundsC W p fs) (hb : Below W.heap.size W W') : FoundsC W' p fs :=
  ⟨h.1.below hb, fun j hj => ⟨(h.2 j hj).1.below hb, (h.2 j hj).2⟩⟩
def fKey (x : FL × List Int) : Int × List ByteArray × Bool × List Int := (x.1.g.n, x.1.g.ws, x.1.rs, x.2)
theorem fst_at {fs : List (FL × List Int)} {k : Nat} (hk : k < fs.length) : (fs.map Prod.fst).getD k default = (fs.getD k default).1 := by
  rw [List.getD, List.getD, List.getElem?_map, List.getElem?_eq_getElem hk]; rfl
theorem fc_cases (x : FL × List Int) : ∃ n q c ws cp cn cc rs zs, x = (⟨⟨n, q, c, ws⟩, cp, cn, cc, rs⟩, zs) := ⟨_, _, _, _, _, _, _, _, _, rfl⟩
theorem fkey_at {fs gs : List (FL × List Int)} (h : fs.map fKey = gs.map fKey) {k : Nat} (hk : k < fs.length) : fKey (fs.getD k default) = fKey (gs.getD k default) := by
  have hl : fs.length = gs.length := by simpa using congrArg List.length h
  have h1 := congrArg (fun l => l[k]?) h
  simp only [List.getElem?_map] at h1
  rw [List.getElem?_eq_getElem hk, List.getElem?_eq_getElem (by omega)] at h1
  rw [List.getD, List.getD, List.getElem?_eq_getElem hk, List.getElem?_eq_getElem (by omega)]
  simpa using h1
set_option maxRecDepth 100000 in
set_option maxHeartbeats 4000000 in
theorem sameFound (p q : Option Addr) (c d : Nat) (fs gs : List (FL × List Int)) (w : World) (hl : fs.length ≤ maxLen) (hk : fs.map fKey = gs.map fKey) (hw : ∀ j, (fs.getD j default).1.g.ws.length ≤ maxLen) (hz : ∀ j, (fs.getD j default).2.length ≤ maxLen) (hp : FoundsC w p fs) (hq : FoundsC w q gs) :
    Calls Tryz.prog 70 #[.slice p fs.length c, .slice q gs.length d, .bool true] w fun e w' => e = .returned (.bool true) ∧ Below w.heap.size w w' := by
  have hlen : gs.length = fs.length := by simpa using (congrArg List.length hk).symm
  have HK := Lib.hid hk
  have HW := Lib.hid hw
  have HZ := Lib.hid hz
  have HP := Lib.hid hp
  have HQ := Lib.hid hq
  have HL2 := Lib.hid hlen
  rw [hlen]
  obtain ⟨N, hN⟩ : ∃ N, Hid (fs.length = N) := ⟨_, rfl⟩
  rw [hN.out] at hl ⊢
  unfold maxLen at hl
  clear hk hw hz hp hq hlen
  go_enter Tryz.func70, Tryz.ntmps70
  go_wp2_with fail
  go_loopw [7] (fun i wr => ∃ k : Nat, k ≤ N ∧ i = .int .i64 k ∧ Hid (Below w.heap.size w wr)) (fun i _ => N - (intOf i).toNat)
  case atStart => exact ⟨0, Nat.zero_le _, rfl, Below.refl _ _⟩
  case round =>
    obtain ⟨k, hk, rfl, B⟩ := hrel
    by_cases hlt : k < N
    · have hkf : k < fs.length := by rw [hN.out]; exact hlt
      have hkg : k < gs.length := by rw [HL2.out]; exact hkf
      have hkey := fkey_at HK.out hkf
      have hwl := HW.out k
      have hzl := HZ.out k
      have hc1 := (HP.out.below B.out).2 k hkf
      have hc2 := (HQ.out.below B.out).2 k hkg
      obtain ⟨n, q1, c1, ws, cp1, cn1, cc1, rs, zs, hf⟩ := fc_cases (fs.getD k default)
      obtain ⟨n2, q2, c2, ws2, cp2, cn2, cc2, rs2, zs2, hg⟩ := fc_cases (gs.getD k default)
      rw [hf, hg] at hkey
      simp only [fKey, Prod.mk.injEq] at hkey
      obtain ⟨rfl, rfl, rfl, rfl⟩ := hkey
      rw [hf] at hc1 hwl hzl
      rw [hg] at hc2
      obtain ⟨i1, e1⟩ := hc1
      obtain ⟨i2, e2⟩ := hc2
      simp only at i1 e1 i2 e2 hwl hzl
      subst e1
      subst e2
      obtain ⟨b, o, rfl, hb1, a0, a1, a2, a3, a4⟩ := fd_at (HP.out.below B.out).1 (k := k) (by rw [List.length_map]; exact hkf) (by rw [fst_at hkf, hf])
      obtain ⟨b', o', rfl, hb2, b0, b1, b2, b3, b4⟩ := fd_at (HQ.out.below B.out).1 (k := k) (by rw [List.length_map]; exact hkg) (by rw [fst_at hkg, hg])
      have hsame : sameB n n ws ws = true := sameB_yes rfl (fun _ _ => rfl)
      have CS : Hid (∀ W, Below wr.heap.size wr W → Calls Tryz.prog 37 #[.agg #[.int .i64 n, .slice q1 ws.length c1], .agg #[.int .i64 n, .slice q2 ws.length c2]] W fun e w' => e = .returned (.bool true) ∧ Below W.heap.size W w') := fun W hbW => by
        have := rSame n n q1 q2 c1 c2 ws ws W hwl (a4.below hbW) (b4.below hbW)
        rwa [hsame] at this
      have CI : Hid (∀ W, Below wr.heap.size wr W → Calls Tryz.prog 64 #[.slice cp1 zs.length cc1, .slice cp2 zs.length cc2] W fun e w' => e = .returned (.bool true) ∧ Below W.heap.size W w') := fun W hbW =>
        sameInts cp1 cp2 cc1 cc2 zs W hzl (i1.below hbW) (i2.below hbW)
      have HB1 := Lib.hid hb1
      have HB2 := Lib.hid hb2
      have A2 := Lib.hid a2
      have A3 := Lib.hid a3
      have D2 := Lib.hid b2
      have D3 := Lib.hid b3
      obtain ⟨L, hL⟩ : ∃ L, ws.length = L := ⟨_, rfl⟩
      obtain ⟨Z, hZ⟩ : ∃ Z, zs.length = Z := ⟨_, rfl⟩
      rw [hL] at a1 b1 CS
      rw [hZ] at CI A2 D2
      have hlt' : (k : Int) < (N : Int) := by omega
      have hk0 : (0 : Int) ≤ (k : Int) := by omega
      clear hf hg hwl hzl i1 i2 a4 b4 hsame hL hZ hkf hkg hb1 hb2 a2 a3 b2 b3
      go_wp2_with fail
      go_region_with (refine (CS.out _ (Below.refl _ _).drew).mono ?_; rintro e w2 ⟨rfl, hb3⟩)
      all_goals
        have BW : Hid (Below wr.heap.size wr w2) := ((Below.refl _ _).drew).trans (hb3.mono (Nat.le_refl _))
        have x2 := (BW.out.cell (p := ⟨b, o + k * 4 + 2, none⟩) HB1.out).trans A2.out
        have x3 := (BW.out.cell (p := ⟨b, o + k * 4 + 3, none⟩) HB1.out).trans A3.out
        have y2 := (BW.out.cell (p := ⟨b', o' + k * 4 + 2, none⟩) HB2.out).trans D2.out
        have y3 := (BW.out.cell (p := ⟨b', o' + k * 4 + 3, none⟩) HB2.out).trans D3.out
        clear hb3 a0 a1 b0 b1
        go_wp2_with fail
        go_still_tail 28, (by kernel_rfl)
        change wpList _ _ _ _ _ w2.drew
        clear x2 x3 y2 y3
        go_wp2_with fail
        refine (CI.out _ BW.out.drew).mono ?_
        rintro e w3 ⟨rfl, hb4⟩
        have B3 : Hid (Below w.heap.size w w3) := (B.out.trans (BW.out.drew.mono B.out.size)).trans (hb4.mono (by have h1 := B.out.size; have h2 := BW.out.size; simp; omega))
        clear hb4
        go_wp2_with fail
        exact ⟨⟨k + 1, by omega, by go_num, B3⟩, by simp [intOf]; omega⟩
    · obtain rfl : k = N := by omega
      go_wp2_with fail
      go_ret
      exact ⟨rfl, B.out⟩
set_option maxRecDepth 100000 in
set_option maxHeartbeats 4000000 in
/-- Two books that are equal. -/
theorem sameBook (p q r p' q' r' : Option Addr) (c d e c' d' e' : Nat) (fs gs cs ds : List (FL × List Int)) (zs : List (Int × Int)) (w : World)
    (hl1 : fs.length ≤ maxLen) (hk1 : fs.map fKey = gs.map fKey) (hw1 : ∀ j, (fs.getD j default).1.g.ws.length ≤ maxLen) (hz1 : ∀ j, (fs.getD j default).2.length ≤ maxLen) (hp1 : FoundsC w p fs) (hq1 : FoundsC w p' gs)
    (hl2 : cs.length ≤ maxLen) (hk2 : cs.map fKey = ds.map fKey) (hw2 : ∀ j, (cs.getD j default).1.g.ws.length ≤ maxLen) (hz2 : ∀ j, (cs.getD j default).2.length ≤ maxLen) (hp2 : FoundsC w q cs) (hq2 : FoundsC w q' ds)
    (hl3 : zs.length ≤ maxLen) (hp3 : SpansAt w r zs) (hq3 : SpansAt w r' zs) :
    Calls Tryz.prog 55 #[bookV p fs.length c q cs.length d r zs.length e, bookV p' gs.length c' q' ds.length d' r' zs.length e'] w fun e w' => e = .returned (.bool true) ∧ Below w.heap.size w w' := by
  unfold bookV
  have F1 : Hid (∀ W, Below w.heap.size w W → Calls Tryz.prog 70 #[.slice p fs.length c, .slice p' gs.length c', .bool true] W fun e w' => e = .returned (.bool true) ∧ Below W.heap.size W w') := fun W hW => sameFound p p' c c' fs gs W hl1 hk1 hw1 hz1 (hp1.below hW) (hq1.below hW)
  have F2 : Hid (∀ W, Below w.heap.size w W → Calls Tryz.prog 70 #[.slice q cs.length d, .slice q' ds.length d', .bool true] W fun e w' => e = .returned (.bool true) ∧ Below W.heap.size W w') := fun W hW => sameFound q q' d d' cs ds W hl2 hk2 hw2 hz2 (hp2.below hW) (hq2.below hW)
  have F3 : Hid (∀ W, Below w.heap.size w W → Calls Tryz.prog 71 #[.slice r zs.length e, .slice r' zs.length e'] W fun e w' => e = .returned (.bool true) ∧ Below W.heap.size W w') := fun W hW => sameGaps r r' e e' zs W hl3 (hp3.below hW) (hq3.below hW)
  clear hl1 hk1 hw1 hz1 hp1 hq1 hl2 hk2 hw2 hz2 hp2 hq2 hl3 hp3 hq3
  have e1 := below_alloc1 (w.alloc (.cells #[.slice p fs.length c, .slice q cs.length d, .slice r zs.length e] 78)) (.cells #[.slice p' gs.length c', .slice q' ds.length d', .slice r' zs.length e'] 78)
  have X1 := BX.start w (.slice p fs.length c) (.slice q cs.length d) (.slice r zs.length e) 78
  have Y1 := BX.start (w.alloc (.cells #[.slice p fs.length c, .slice q cs.length d, .slice r zs.length e] 78)) (.slice p' gs.length c') (.slice q' ds.length d') (.slice r' zs.length e') 78
  have X2 := Lib.hid (X1.keep e1)
  have Y2 := Lib.hid Y1
  have hs : Hid ((w.alloc (.cells #[.slice p fs.length c, .slice q cs.length d, .slice r zs.length e] 78)).heap.size = w.heap.size + 1) := by unfold Hid; simp
  clear e1 X1 Y1
  go_enter Tryz.func55, Tryz.ntmps55
  go_wp2_with fail
  refine (F1.out _ X2.out.bel).mono ?_
  rintro e1 w1 ⟨rfl, hb1⟩
  have X3 := Lib.hid (X2.out.keep hb1)
  have Y3 := Lib.hid (Y2.out.keep hb1)
  have x1 := X3.out.c1
  have x2 := X3.out.c2
  have y1 := Y3.out.c1
  have y2 := Y3.out.c2
  rw [hs.out] at y1 y2
  clear hb1 X2 Y2
  go_wp2_with fail
  refine (F2.out _ X3.out.bel).mono ?_
  rintro e1 w2 ⟨rfl, hb2⟩
  have X4 := Lib.hid (X3.out.keep hb2)
  have Y4 := Lib.hid (Y3.out.keep hb2)
  have z2 := X4.out.c2
  have v2 := Y4.out.c2
  rw [hs.out] at v2
  clear hb2 X3 Y3 x1 x2 y1 y2
  go_wp2_with fail
  refine (F3.out _ X4.out.bel).mono ?_
  rintro e1 w3 ⟨rfl, hb3⟩
  have B3 : Hid (Below w.heap.size w w3) := X4.out.bel.trans (hb3.mono X4.out.bel.size)
  clear hb3 z2 v2
  go_wp2_with fail
  go_ret
  exact ⟨rfl, B3.out⟩
end Go.Proofs.YtmfhpddeclggfaaGreatDoor
