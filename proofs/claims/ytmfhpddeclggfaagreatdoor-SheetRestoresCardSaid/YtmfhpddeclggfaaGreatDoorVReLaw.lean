import Derived.Test.YtmfhpddeclggfaaGreatDoorVXp
import Derived.Test.YtmfhpddeclggfaaGreatDoorVXi
import Derived.Test.YtmfhpddeclggfaaGreatDoorVNoLaw
import Derived.Test.YtmfhpddeclggfaaGreatDoorVTd0
import Derived.Test.YtmfhpddeclggfaaGreatDoorVTb
import Derived.Test.YtmfhpddeclggfaaGreatDoorVIia
import Derived.Test.YtmfhpddeclggfaaGreatDoorTf
import Derived.Test.YtmfhpddeclggfaaGreatDoorVTc
import Derived.Test.YtmfhpddeclggfaaGreatDoorVTa
import Derived.Test.YtmfhpddeclggfaaGreatDoorVIfb
import Derived.Test.YtmfhpddeclggfaaGreatDoorVc
import Derived.Test.YtmfhpddeclggfaaGreatDoorKf
import Derived.Test.YtmfhpddeclggfaaGreatDoorOm
import Derived.Lib.ConvBytes
import Derived.Laws.IdiomStrings
import Derived.WalkKit
import Derived.LoopTactic
import Derived.WalkSpells
import Derived.WalkLawsBesides
import Derived.Lib.Hide
import Derived.BigQuiet
import Derived.IntWalk
import Derived.Deep.DeepMust
import Derived.WalkSmall
import Derived.StillTailTactics
import Derived.Deep.RegionLaw
import Derived.Deep.QuietTactic
import Derived.Deep.Cut
import Derived.Deep.DeepCutAuto
import Derived.Deep.LoopGhost
import Derived.Deep.RegionHeld3
import Derived.Laws.OwnMore
import Derived.Laws.RangeAny
import Derived.Laws.RangeString
import Derived.Lib.OthersKept
import Derived.Test.YtmfhpddeclggfaaGreatDoorVUd
namespace Go.Proofs.YtmfhpddeclggfaaGreatDoor
open Go Go.RowKit Go.BigFrame
set_option maxRecDepth 100000 in
set_option maxHeartbeats 8000000 in
theorem sheetRestores_law (p q : Option Addr) (cap cap2 : Nat) (ls : List GL) (gs : List GF) (w : World) (he : Env w) (hl : ls.length ≤ maxLen) (hg : gs.length ≤ maxLen) (hf : ∀ j, (gs.getD j default).fs.length ≤ maxLen) (hs : ∀ j, j < ls.length → (ls.getD j default).small) (hp : ListsAt w p ls) (hq : FatessAt w q gs) :
    Calls Tryz.prog 15 #[.slice p ls.length cap, .slice q gs.length cap2] w fun e w' => e = .returned (.bool true) ∧ Below w.heap.size w w' := by
  have HP := Lib.hid hp
  have HQ := Lib.hid hq
  have HS := Lib.hid hs
  have HE := Lib.hid he
  have SM := Lib.hid (small_any p q cap cap2 ls gs w hl hg hf hs hp hq)
  obtain ⟨N, hN⟩ : ∃ N, Hid (ls.length = N) := ⟨_, rfl⟩
  obtain ⟨K, hK⟩ : ∃ K, Hid (gs.length = K) := ⟨_, rfl⟩
  rw [hN.out, hK.out] at SM ⊢
  clear hp hq hs he hl hg hf
  go_enter Tryz.func15, Tryz.ntmps15
  go_wp2_with fail
  refine SM.out.mono ?_
  rintro e w1 ⟨hb1, b, rfl, hbs⟩
  have HB1 := Lib.hid hb1
  clear hb1 SM
  cases b
  · have SN := Lib.hid (sanity_any w1 (HE.out.next HB1.out))
    clear hbs
    as_aux_lemma =>
      go_wp2_with fail
      refine SN.out.mono ?_
      rintro e w2 ⟨rfl, hb⟩
      have HB2 : Hid (Below w.heap.size w w2) := HB1.out.trans (hb.mono HB1.out.size)
      clear hb
      go_wp2_with fail
      go_ret
      exact ⟨rfl, HB2.out⟩
  obtain ⟨h8, h5, h40⟩ := hbs rfl
  rw [hN.out] at h8
  rw [hK.out] at h5
  have hpl : ∀ j k, (feAt (gs.getD j default).fs k).pl.length ≤ 1000000 := fun j k => by
    unfold feAt
    by_cases hj : j < gs.length
    · by_cases hk : k < (gs.getD j default).fs.length
      · exact Nat.le_trans (h40 j hj k hk) (by decide)
      · have e : (gs.getD j default).fs.getD k default = default := by
          obtain ⟨F, hF⟩ : ∃ F, (gs.getD j default).fs = F := ⟨_, rfl⟩
          rw [hF] at hk ⊢
          rw [List.getD, List.getElem?_eq_none (by omega)]; rfl
        rw [e]; exact Nat.zero_le _
    · have e : gs.getD j default = default := by rw [List.getD, List.getElem?_eq_none (by omega)]; rfl
      rw [e]
      exact Nat.zero_le _
  have TD := told_any p q cap cap2 ls gs w1 (by rw [hN.out]; exact h8) (by rw [hK.out]; exact h5) HS.out (HP.out.below HB1.out) (HQ.out.below HB1.out) hpl (HE.out.next HB1.out)
  rw [hN.out, hK.out] at TD
  have TD := Lib.hid TD
  clear h40 hpl hbs
  go_wp2_with fail
  refine TD.out.mono ?_
  rintro e w2 ⟨hb2, hto⟩
  have HB2 : Hid (Below w.heap.size w w2) := HB1.out.trans (hb2.mono HB1.out.size)
  have HTO := Lib.hid hto
  clear hb2 hto TD
  rcases HTO.out with ⟨pp, nn, cc, rfl⟩ | ⟨p0, p1, p2, p3, c0, c1, c2, c3, gs2, ys2, rfl, hA⟩
  · have HB3 : Hid (Below w.heap.size w (w2.alloc (.cells #[.slice pp nn cc, .slice none 0 0, .slice none 0 0, .slice none 0 0] 112))) := HB2.out.alloc HB2.out.size _
    have SN := Lib.hid (sanity_any _ (HE.out.next HB3.out))
    clear HTO
    as_aux_lemma =>
      go_wp2_with fail
      refine SN.out.mono ?_
      rintro e w3 ⟨rfl, hb⟩
      have HB4 : Hid (Below w.heap.size w w3) := HB3.out.trans (hb.mono HB3.out.size)
      clear hb
      go_wp2_with fail
      go_ret
      exact ⟨rfl, HB4.out⟩
  have HA := Lib.hid hA
  clear hA HTO
  rw [hN.out, hK.out]
  have HOK : Hid (∀ i, i < ls.length → lineErr ((i : Int) + 1) (ls.getD i default).ws = 0) := HA.out.ok
  have ST := story_of gs HOK.out
  have TO := Lib.hid ST.told
  have HHK : Hid (((HT ls gs).map cpO).length = K) := by unfold Hid HT; rw [List.length_map, List.length_map, hK.out]
  have HSZ := Lib.hid (HT_sz (gs := gs) HOK.out (by rw [hN.out]; exact h8))
  have HB23 : Hid (Below w2.heap.size w2 (w2.alloc (.cells #[.slice p0 N c0, .slice p1 K c1, .slice p2 K c2, .slice p3 K c3] 112))) := below_alloc1 _ _
  have N3 := Lib.hid (fun o u h => nw_at w2 #[.slice p0 N c0, .slice p1 K c1, .slice p2 K c2, .slice p3 K c3] 112 o u h)
  have HW3 : Hid ((w2.alloc (.cells #[.slice p0 N c0, .slice p1 K c1, .slice p2 K c2, .slice p3 K c3] 112)).heap.size = w2.heap.size + 1) := by unfold Hid; simp
  obtain ⟨W3, hW3⟩ : ∃ W3, Hid (w2.alloc (.cells #[.slice p0 N c0, .slice p1 K c1, .slice p2 K c2, .slice p3 K c3] 112) = W3) := ⟨_, rfl⟩
  rw [hW3.out] at HB23 N3 HW3
  have HB3 : Hid (Below w.heap.size w W3) := HB2.out.trans (HB23.out.mono HB2.out.size)
  have CO := collate_few p1 c1 ((HT ls gs).map cpO) W3 (by rw [HHK.out]; omega) HSZ.out (HA.out.c.below HB23.out) (HE.out.next HB3.out)
  rw [HHK.out] at CO
  have CO := Lib.hid CO
  have SMB := Lib.hid (coB_len ((HT ls gs).map cpO) HSZ.out (by rw [HHK.out]; omega))
  have HCL : Hid ((coB ((HT ls gs).map cpO)).2.1.length = 0) := by unfold Hid; rw [TO.out.clash]; rfl
  obtain ⟨B, hB⟩ : ∃ B, Hid (coB ((HT ls gs).map cpO) = B) := ⟨_, rfl⟩
  rw [hB.out] at CO SMB HCL TO
  have x1 := N3.out 1 _ rfl
  go_upto_region 4 with (fail)
  rw [hW3.out]
  clear hW3 ST
  go_wp2_with fail
  refine CO.out.mono ?_
  rintro e w4 hcol
  obtain ⟨hb4, r0, r1, r2, s0, s1, s2, fl, cl, rfl, hbk⟩ := col_at hcol
  rw [HCL.out]
  have HB4 : Hid (Below w.heap.size w w4) := HB3.out.trans (hb4.mono HB3.out.size)
  have HB34 := Lib.hid hb4
  obtain ⟨L, hL⟩ : ∃ L, Hid (B.1.length = L) := ⟨_, rfl⟩
  obtain ⟨M, hM⟩ : ∃ M, Hid (B.2.2.length = M) := ⟨_, rfl⟩
  rw [hL.out, hM.out]
  have HB45 : Hid (Below w4.heap.size w4 (w4.alloc (.cells #[.slice r0 L s0, .slice r1 0 s1, .slice r2 M s2] 78))) := below_alloc1 _ _
  have N5 := Lib.hid (fun o u h => nw_at w4 #[.slice r0 L s0, .slice r1 0 s1, .slice r2 M s2] 78 o u h)
  have HW5 : Hid ((w4.alloc (.cells #[.slice r0 L s0, .slice r1 0 s1, .slice r2 M s2] 78)).heap.size = w4.heap.size + 1) := by unfold Hid; simp
  obtain ⟨W5, hW5⟩ : ∃ W5, Hid (w4.alloc (.cells #[.slice r0 L s0, .slice r1 0 s1, .slice r2 M s2] 78) = W5) := ⟨_, rfl⟩
  rw [hW5.out] at HB45 N5 HW5
  have HB5 : Hid (Below w.heap.size w W5) := HB4.out.trans (HB45.out.mono HB4.out.size)
  have BK := Lib.hid (hbk.below HB45.out)
  have BN := Lib.hid (bkN_of HOK.out (by rw [hB.out]; exact TO.out) (by rw [hB.out]; exact hbk.kl))
  have HFL : Hid (fl.length = L) := by unfold Hid; rw [← hL.out, ← hbk.kl, List.length_map]
  have HLB : Hid (L ≤ 1000000000) := by rw [← hL.out]; exact SMB.out.1
  have HB35 : Hid (Below W3.heap.size W3 W5) := HB34.out.trans (HB45.out.mono HB34.out.size)
  have XB := Lib.hid (fun V (hb : Below W5.heap.size W5 V) => (by
    have h3 := HW3.out
    have h5' := HW5.out
    have h35 := HB35.out.size
    have h34 := HB34.out.size
    have hv := HB35.out.trans (hb.mono HB35.out.size)
    exact ⟨(hv.cell (p := ⟨w2.heap.size, 0, none⟩) (by show w2.heap.size < _; omega)).trans (N3.out 0 _ rfl), (hv.cell (p := ⟨w2.heap.size, 1, none⟩) (by show w2.heap.size < _; omega)).trans (N3.out 1 _ rfl), (hv.cell (p := ⟨w2.heap.size, 2, none⟩) (by show w2.heap.size < _; omega)).trans (N3.out 2 _ rfl),
      (hb.cell (p := ⟨w4.heap.size, 0, none⟩) (by show w4.heap.size < _; omega)).trans (N5.out 0 _ rfl), (hb.cell (p := ⟨w4.heap.size, 1, none⟩) (by show w4.heap.size < _; omega)).trans (N5.out 1 _ rfl), (hb.cell (p := ⟨w4.heap.size, 2, none⟩) (by show w4.heap.size < _; omega)).trans (N5.out 2 _ rfl)⟩ : V.cell? ⟨w2.heap.size, 0, none⟩ = some (.slice p0 N c0) ∧ V.cell? ⟨w2.heap.size, 1, none⟩ = some (.slice p1 K c1) ∧ V.cell? ⟨w2.heap.size, 2, none⟩ = some (.slice p2 K c2) ∧
        V.cell? ⟨w4.heap.size, 0, none⟩ = some (.slice r0 L s0) ∧ V.cell? ⟨w4.heap.size, 1, none⟩ = some (.slice r1 0 s1) ∧ V.cell? ⟨w4.heap.size, 2, none⟩ = some (.slice r2 M s2)))
  have HA5 : Hid (StrsAt W5 p0 (txT ls ls.length) ∧ ListsAt W5 p2 gs2 ∧ BoolssAt W5 p3 ys2) := ⟨(HA.out.t.below HB23.out).below HB35.out, (HA.out.h.below HB23.out).below HB35.out, (HA.out.l.below HB23.out).below HB35.out⟩
  have XB3 := Lib.hid (fun V (hb : Below W5.heap.size W5 V) => (by
    have h3 := HW3.out
    have h35 := HB35.out.size
    have hv := HB35.out.trans (hb.mono HB35.out.size)
    exact (hv.cell (p := ⟨w2.heap.size, 3, none⟩) (by show w2.heap.size < _; omega)).trans (N3.out 3 _ rfl) : V.cell? ⟨w2.heap.size, 3, none⟩ = some (.slice p3 K c3)))
  have HA5c : Hid (StrsAt W5 p1 ((HT ls gs).map cpO)) := (HA.out.c.below HB23.out).below HB35.out
  have HSZ5 := HSZ
  obtain ⟨a0, a1, a2, b0, b1, b2⟩ := XB.out W5 (Below.refl _ _)
  clear hb4 hcol hbk CO SMB HCL x1 N3 N5 HW3 HW5 HB34 HB45 HB4 HB23 HSZ HHK
  go_upto_region 7 with (fail)
  rw [hW5.out]
  clear hW5
  go_wp2_with fail
  clear a0 a1 a2 b0 b1 b2
  go_loopw [55] (fun i wr => ∃ m : Nat, m ≤ N ∧ i = .int .i64 m ∧ Hid (Below W5.heap.size W5 wr)) (fun i _ => N - (nT i).toNat)
  case atStart => exact ⟨0, Nat.zero_le _, rfl, Below.refl _ _⟩
  case round =>
    obtain ⟨m, hm, rfl, HB6⟩ := hrel
    obtain ⟨V6, rfl⟩ : ∃ V, V = wr := ⟨_, rfl⟩
    by_cases hlt : m < N
    · have hmt : m < (txT ls ls.length).length := by rw [txT_len, hN.out]; exact hlt
      obtain ⟨bT, oT, rfl, hbT, tc⟩ := str_at (HA5.out.1.below HB6.out) hmt
      have HZ0 : Hid (((txT ls ls.length).getD m ByteArray.empty).size ≤ 1000000) := by unfold Hid; rw [txT_at ls (by rw [hN.out]; exact hlt)]; exact txt_sz (HOK.out m (by rw [hN.out]; exact hlt))
      have HLN : Hid (LnS ((txT ls ls.length).getD m ByteArray.empty) ((m : Int) + 1)) := by unfold Hid; rw [txT_at ls (by rw [hN.out]; exact hlt)]; exact ln_write (HOK.out m (by rw [hN.out]; exact hlt))
      obtain ⟨H, hH⟩ : ∃ H, Hid (HT ls gs = H) := ⟨_, rfl⟩
      have HHK : Hid (H.length = K) := by rw [← hH.out]; unfold Hid HT; rw [List.length_map, hK.out]
      obtain ⟨s, hs9⟩ : ∃ s, Hid ((txT ls ls.length).getD m ByteArray.empty = s) := ⟨_, rfl⟩
      rw [hs9.out] at tc HZ0 HLN
      have mk := make4 V6 s.size HZ0.out
      have RD0 := Lib.hid (RdB.mk0 V6 s.size)
      have HB67 : Hid (Below V6.heap.size V6 (V6.alloc (.cells (madeCells #[.bool false] s.size) 4))) := below_alloc1 _ _
      obtain ⟨V7, hV7⟩ : ∃ V7, Hid (V6.alloc (.cells (madeCells #[.bool false] s.size) 4) = V7) := ⟨_, rfl⟩
      rw [hV7.out] at mk RD0 HB67
      have HB7 : Hid (Below W5.heap.size W5 V7) := HB6.out.trans (HB67.out.mono HB6.out.size)
      obtain ⟨e0, e1, e2, f0, f1, f2⟩ := XB.out V7 HB7.out
      obtain ⟨a0, a1, a2, b0, b1, b2⟩ := XB.out V6 HB6.out
      have hlt' : (m : Int) < (N : Int) := by omega
      have hm0 : (0 : Int) ≤ (m : Int) := by omega
      have CP0 : Hid (CP s H m 0 true (List.replicate s.size false)) := CP.zero _ _ _ _
      clear hbT hmt
      go_wp2_with fail
      clear a0 a1 a2 b0 b1 b2 e0 e1 e2 f0 f1 f2 mk tc
      go_loopw [12, 13, 66] (fun a g i wr => ∃ (k : Nat) (gd : Bool) (l : List Bool), k ≤ K ∧ a = .int .i64 (sumN (mN s H m) k : Nat) ∧ g = .bool gd ∧ i = .int .i64 k ∧ Hid (Below V6.heap.size V6 wr) ∧ Hid (RdB V6.heap.size wr V6.heap.size l) ∧ Hid (l.length = s.size) ∧ Hid (CP s H m k gd l)) (fun _ _ i _ => K - (nT i).toNat)
      case atStart => exact ⟨0, true, List.replicate s.size false, Nat.zero_le _, rfl, rfl, rfl, HB67.out, RD0.out, List.length_replicate, CP0.out⟩
      case round =>
        obtain ⟨k, gd, l, hk, rfl, rfl, rfl, HB8, RD8, HLL, CP8⟩ := hrel
        obtain ⟨V8, rfl⟩ : ∃ V, V = wr := ⟨_, rfl⟩
        obtain ⟨mi, hmi⟩ : ∃ mi, Hid (sumN (mN s H m) k = mi) := ⟨_, rfl⟩
        have HMB : Hid (mi ≤ k) := by rw [← hmi.out]; exact sumN_bd k
        rw [hmi.out]
        by_cases hlt2 : k < K
        · have HB58 : Hid (Below W5.heap.size W5 V8) := HB6.out.trans (HB8.out.mono HB6.out.size)
          have hgl2 : gs2.length = K := by have := congrArg List.length HA.out.hg; rw [List.length_map, List.length_map] at this; unfold HT at this; rw [List.length_map, hK.out] at this; exact this
          have hyl2 : ys2.length = K := by have := congrArg List.length HA.out.lg; rw [List.length_map, List.length_map] at this; unfold HT at this; rw [List.length_map, hK.out] at this; exact this
          have h3 : k < (HT ls gs).length := by unfold HT; rw [List.length_map, hK.out]; exact hlt2
          have hgw : (gs2.getD k default).ws = hsT ((HT ls gs).getD k []) := by
            have h1 := congrArg (fun l => l[k]?) HA.out.hg
            have h2 : k < gs2.length := by rw [hgl2]; exact hlt2
            simp only [List.getElem?_map, List.getElem?_eq_getElem h2, List.getElem?_eq_getElem h3, Option.map_some] at h1
            rw [List.getD, List.getD, List.getElem?_eq_getElem h2, List.getElem?_eq_getElem h3]
            exact Option.some.inj h1
          have hyw : (ys2.getD k default).2.2 = lsT ((HT ls gs).getD k []) := by
            have h1 := congrArg (fun l => l[k]?) HA.out.lg
            have h2 : k < ys2.length := by rw [hyl2]; exact hlt2
            simp only [List.getElem?_map, List.getElem?_eq_getElem h2, List.getElem?_eq_getElem h3, Option.map_some] at h1
            rw [List.getD, List.getD, List.getElem?_eq_getElem h2, List.getElem?_eq_getElem h3]
            exact Option.some.inj h1
          have hHe : (HT ls gs).getD k [] = hvT (txT ls ls.length) (gs.getD k default).fs ls.length := by
            have h4 : k < gs.length := by rw [hK.out]; exact hlt2
            unfold HT
            simp only [List.getD, List.getElem?_map, List.getElem?_eq_getElem h4, Option.map_some, Option.getD_some]
          have hHm : ((HT ls gs).getD k [])[m]? = some (fatC s.data.toList (feAt (gs.getD k default).fs m).ft) := by
            rw [hHe, ← hs9.out]
            unfold hvT
            rw [List.getElem?_map, List.getElem?_range (by rw [hN.out]; exact hlt)]
            rfl
          have hHl : ((HT ls gs).getD k []).length = N := by rw [hHe, hvT_len, hN.out]
          obtain ⟨bH, oH, rfl, hbH, h1, hst⟩ := lists_at (HA5.out.2.1.below HB58.out) (show k < gs2.length by rw [hgl2]; exact hlt2)
          obtain ⟨bY, oY, rfl, hbY, y1, hbo⟩ := boolss_at (HA5.out.2.2.below HB58.out) (show k < ys2.length by rw [hyl2]; exact hlt2)
          rw [hgw] at h1 hst
          rw [hyw] at y1 hbo
          have hhl : (hsT ((HT ls gs).getD k [])).length = N := by unfold hsT; rw [List.length_map]; exact hHl
          have hll : (lsT ((HT ls gs).getD k [])).length = N := by unfold lsT; rw [List.length_map]; exact hHl
          obtain ⟨bS, oS, hpS, hbS, t1⟩ := str_at hst (show m < _ by rw [hhl]; exact hlt)
          obtain ⟨bB, oB, hpB, hbB, y2⟩ := bool_at hbo (show m < _ by rw [hll]; exact hlt)
          rw [hhl, hpS] at h1
          rw [hll, hpB] at y1
          obtain ⟨oo, hoo⟩ : ∃ oo, fatC s.data.toList (feAt (gs.getD k default).fs m).ft = oo := ⟨_, rfl⟩
          have hy : (hsT ((HT ls gs).getD k [])).getD m ByteArray.empty = bs (oo.getD []) := by
            unfold hsT
            rw [List.getD, List.getElem?_map, hHm, hoo]
            rfl
          have hz : (lsT ((HT ls gs).getD k [])).getD m false = !oo.isSome := by
            unfold lsT
            rw [List.getD, List.getElem?_map, hHm, hoo]
            rfl
          rw [hy] at t1
          rw [hz] at y2
          rw [hH.out, hoo] at hHm
          have HF1 : Hid (∀ c, oo = some c → OneB (bs c)) := fun c e => fat_one HLN.out.asc _ (hoo.trans e)
          have HHM := Lib.hid hHm
          obtain ⟨gc, hgc⟩ : ∃ gc, (gs2.getD k default).cap = gc := ⟨_, rfl⟩
          obtain ⟨yc, hyc⟩ : ∃ yc, (ys2.getD k default).2.1 = yc := ⟨_, rfl⟩
          rw [hgc] at h1
          rw [hyc] at y1
          obtain ⟨a0, a1, a2, b0, b1, b2⟩ := XB.out V8 HB58.out
          have a3 := XB3.out V8 HB58.out
          have hlt2' : (k : Int) < (K : Int) := by omega
          have hk0 : (0 : Int) ≤ (k : Int) := by omega
          clear hgl2 hyl2 h3 hgw hyw hHe hHm hHl hst hbo hhl hll hpS hpB hoo hy hz hgc hyc hbH hbY hbS hbB b0 b1 b2
          have gk := i64n (k + 1) (Nat.le_trans (Nat.succ_le_of_lt hlt2) (Nat.le_trans h5 (by decide)))
          have gk2 := w64n (k + 1) (Nat.le_trans (Nat.succ_le_of_lt hlt2) (Nat.le_trans h5 (by decide)))
          clear gk gk2
          cases oo with
          | none =>
            have HCN : Hid (CP s H m (k + 1) gd l) := CP8.out.lost HHM.out
            have HSN : Hid (sumN (mN s H m) (k + 1) = mi) := by show sumN (mN s H m) k + mN s H m k = mi; rw [mN_none HHM.out, hmi.out]; rfl
            as_aux_lemma =>
              go_wp2_with fail
              exact ⟨⟨k + 1, gd, l, by omega, by rw [HSN.out], rfl, by go_num, HB8, RD8, HLL, HCN⟩, by simp [nT]; omega⟩
          | some c =>
            obtain ⟨y, hy⟩ : ∃ y, Hid (bs c = y) := ⟨_, rfl⟩
            have t2 : V8.cell? ⟨bS, oS + m, none⟩ = some (.string y) := by rw [← hy.out]; exact t1
            have y3 : V8.cell? ⟨bB, oB + m, none⟩ = some (.bool false) := y2
            have HON : Hid (OneB y) := by rw [← hy.out]; exact HF1.out c rfl
            have HYC : Hid (y.data.toList = c) := by rw [← hy.out]; exact bs_list c
            have hm9 : (mi : Int) ≤ 5 := by have := HMB.out; omega
            have hm8 : (0 : Int) ≤ (mi : Int) := by omega
            have HB5V : Hid (Below w.heap.size w V8) := HB5.out.trans (HB58.out.mono HB5.out.size)
            clear t1 y2 HF1
            by_cases hys : y = s
            · have heb : (y.toList == s.toList) = true := by rw [hys]; simp
              have hcs : c = s.data.toList := by rw [← HYC.out, hys]
              have HCN : Hid (CP s H m (k + 1) false l) := CP8.out.bad
              have HSN : Hid (sumN (mN s H m) (k + 1) = mi) := by show sumN (mN s H m) k + mN s H m k = mi; rw [mN_no HHM.out (.inl hcs), hmi.out]; rfl
              clear hys hcs
              as_aux_lemma =>
                go_wp2_with fail
                exact ⟨⟨k + 1, false, l, by omega, by rw [HSN.out], rfl, by go_num, HB8, RD8, HLL, HCN⟩, by simp [nT]; omega⟩
            · have heb : (y.toList == s.toList) = false := Bool.eq_false_iff.2 (fun e => hys (toList_eq e))
              have HNE : Hid (c ≠ s.data.toList) := fun e => hys (data_inj1 (HYC.out.trans e))
              have BL := Lib.hid (blots_any y s V8 HON.out)
              clear hys
              obtain ⟨bl, hbl⟩ : ∃ bl, Hid (blB y s = bl) := ⟨_, rfl⟩
              rw [hbl.out] at BL
              cases bl
              · have hbs : blB (bs c) s = false := by rw [hy.out]; exact hbl.out
                have HCN : Hid (∀ g', (g' = true → gd = true) → CP s H m (k + 1) g' l) := fun g' h => CP8.out.other HHM.out HNE.out hbs h
                have HSN : Hid (sumN (mN s H m) (k + 1) = mi) := by show sumN (mN s H m) k + mN s H m k = mi; rw [mN_no HHM.out (.inr hbs), hmi.out]; rfl
                clear hbs
                as_aux_lemma =>
                  go_wp2_with fail
                  refine BL.out.mono ?_
                  rintro e w9 ⟨rfl, hb9⟩
                  have HB9 : Hid (Below V6.heap.size V6 w9) := HB8.out.trans (hb9.mono HB8.out.size)
                  have RD9 := Lib.hid (RD8.out.next hb9)
                  clear hb9 BL
                  cases gd
                  · go_wp2_with fail
                    exact ⟨⟨k + 1, false, l, by omega, by rw [HSN.out], rfl, by go_num, HB9, RD9, HLL, HCN.out _ (fun h => h)⟩, by simp [nT]; omega⟩
                  · by_cases hsz : (y.size : Int) < (s.size : Int)
                    · go_wp2_with fail
                      refine (blots_any y _ w9 HON.out).mono ?_
                      rintro e wa ⟨rfl, hba⟩
                      have HBA : Hid (Below V6.heap.size V6 wa) := HB9.out.trans (hba.mono HB9.out.size)
                      have RDA := Lib.hid (RD9.out.next hba)
                      clear hba
                      go_wp2_with fail
                      exact ⟨⟨k + 1, _, l, by omega, by rw [HSN.out], rfl, by go_num, HBA, RDA, HLL, HCN.out _ (fun _ => by first | rfl | trivial)⟩, by simp [nT]; omega⟩
                    · go_wp2_with fail
                      exact ⟨⟨k + 1, false, l, by omega, by rw [HSN.out], rfl, by go_num, HB9, RD9, HLL, HCN.out _ (fun _ => by first | rfl | trivial)⟩, by simp [nT]; omega⟩
              · have hbs : blB (bs c) s = true := by rw [hy.out]; exact hbl.out
                have HYZ : Hid (y.size = s.size) := by have := (blB_iff.1 hbs).1; rw [hy.out] at this; exact this
                have HCN : Hid (∀ g' l', (g' = true → gd = true ∧ spk c = some ((m : Int) + 1)) → LP l l' c → CP s H m (k + 1) g' l') := fun g' l' h h' => CP8.out.mine HHM.out HNE.out hbs h (fun p _ => h' p)
                have HSN : Hid (sumN (mN s H m) (k + 1) = mi + 1) := by show sumN (mN s H m) k + mN s H m k = mi + 1; rw [mN_yes HHM.out HNE.out hbs, hmi.out]
                have HYM : Hid (y.size ≤ 1000000) := by rw [HYZ.out]; exact HZ0.out
                obtain ⟨sn, sb, hsp, hsg⟩ : ∃ (sn : Int) (sb : Bool), spRes (spk y.data.toList) = .tuple #[.int .i64 sn, .bool sb] ∧ ((sb = true ∧ (sn == (m : Int) + 1) = true) → spk c = some ((m : Int) + 1)) := by
                  rw [HYC.out]
                  cases hq : spk c with
                  | none => exact ⟨0, false, rfl, fun h => by cases h.1⟩
                  | some v => exact ⟨v, true, rfl, fun h => by rw [beq_iff_eq] at h; rw [h.2]⟩
                have HSP := Lib.hid hsp
                have HSG := Lib.hid hsg
                have gm1 := i64n (m + 1) (Nat.le_trans (Nat.succ_le_of_lt hlt) (Nat.le_trans h8 (by decide)))
                have gm2 := w64n (m + 1) (Nat.le_trans (Nat.succ_le_of_lt hlt) (Nat.le_trans h8 (by decide)))
                have gm3 : ((m + 1 : Nat) : Int) = (m : Int) + 1 := rfl
                rw [gm3] at gm1 gm2
                have GM1 := Lib.hid gm1
                have GM2 := Lib.hid gm2
                clear hbs hsp hsg gm1 gm2 gm3
                as_aux_lemma =>
                  go_wp2_with fail
                  refine BL.out.mono ?_
                  rintro e w9 ⟨rfl, hb9⟩
                  have HB9 : Hid (Below V6.heap.size V6 w9) := HB8.out.trans (hb9.mono HB8.out.size)
                  have RD9 := Lib.hid (RD8.out.next hb9)
                  have HW9 : Hid (Below w.heap.size w w9) := HB5V.out.trans (hb9.mono HB5V.out.size)
                  clear hb9 BL y3
                  have SP := Lib.hid (sSpeaks y w9 HYM.out (HE.out.next HW9.out))
                  rw [HSP.out] at SP
                  go_wp2_with fail
                  refine SP.out.mono ?_
                  rintro e wa ⟨rfl, hba⟩
                  have HBA : Hid (Below V6.heap.size V6 wa) := HB9.out.trans (hba.mono HB9.out.size)
                  have RDA := Lib.hid (RD9.out.next hba)
                  have hVl : Hid (V6.heap.size < wa.heap.size) := RDA.out.lt
                  clear hba SP RD9
                  have gm1 := GM1.out
                  have gm2 := GM2.out
                  have HCASE : gd = false ∨ (gd = true ∧ sb = false) ∨ (gd = true ∧ sb = true) := by cases gd <;> cases sb <;> simp
                  rcases HCASE with rfl | ⟨rfl, rfl⟩ | ⟨rfl, rfl⟩
                  all_goals
                    go_wp2_with fail
                    clear gm1 gm2
                    go_loopw [] (fun wr => ∃ (pos : Nat) (l' : List Bool), Hid (wr.heap[wa.heap.size]? = some (.stringIter y pos)) ∧ Hid (Below V6.heap.size V6 wr) ∧ Hid (RdB V6.heap.size wr V6.heap.size l') ∧ Hid (l'.length = s.size) ∧ pos ≤ y.size ∧ Hid (LP l l' c)) (fun wr => y.size - wr.iterPos wa.heap.size)
                    case atStart => exact ⟨0, l, World.iter_heap wa y 0, HBA.out.trans ((below_alloc1 wa _).mono HBA.out.size), RDA.out.next (below_alloc1 wa _), HLL, Nat.zero_le _, fun p h => .inl h⟩
                    case round =>
                      obtain ⟨pos, l', HI, HBX, RDX, HLX, hle, HLP⟩ := hrel
                      obtain ⟨VX, rfl⟩ : ∃ V, V = wr := ⟨_, rfl⟩
                      have hip := iterPos_of HI.out
                      by_cases hp : pos < y.size
                      · have hnx : ∀ ty, (Instr.next (.pointer (some ⟨wa.heap.size, 0, none⟩)) true ty).run Tryz.prog VX = _ := fun ty => Lib.run_next_any_at VX wa.heap.size y pos ty HI.out hp
                        rw [HON.out pos hp] at hnx
                        have hne : wa.heap.size ≠ V6.heap.size := by have := hVl.out; omega
                        have RDY := Lib.hid (RDX.out.iter hne y (pos + 1))
                        have HBY : Hid (Below V6.heap.size V6 (VX.iterAt wa.heap.size y (pos + 1))) := below_iterAt HBX.out (Nat.le_of_lt hVl.out) _ _
                        have HIY : Hid ((VX.iterAt wa.heap.size y (pos + 1)).heap[wa.heap.size]? = some (.stringIter y (pos + 1))) := Lib.iterAt_heap _ _ _ _ _ HI.out
                        obtain ⟨VY, hVY⟩ : ∃ VY, Hid (VX.iterAt wa.heap.size y (pos + 1) = VY) := ⟨_, rfl⟩
                        rw [hVY.out] at hnx RDY HBY HIY
                        have hpl : pos < l'.length := by rw [HLX.out, ← HYZ.out]; exact hp
                        have r1 := RDY.out.at' pos hpl
                        have r2 := RDY.out.fz pos hpl
                        have hpJ : (pos : Int) < (s.size : Int) := by have := HYZ.out; omega
                        have hpI : (pos : Int) < (y.size : Int) := by omega
                        have h0 : (0 : Int) ≤ (pos : Int) := by omega
                        have eC := Lib.hid (getD_ix y pos hp)
                        have HST : ∀ b : Bool, (b = true → l'.getD pos false = true ∨ c.getD pos 0 ≠ 63) → ∃ (pos_1 : Nat) (l'' : List Bool), Hid ((VY.setCell ⟨V6.heap.size, pos, none⟩ (.bool b)).heap[wa.heap.size]? = some (.stringIter y pos_1)) ∧ Hid (Below V6.heap.size V6 (VY.setCell ⟨V6.heap.size, pos, none⟩ (.bool b))) ∧ Hid (RdB V6.heap.size (VY.setCell ⟨V6.heap.size, pos, none⟩ (.bool b)) V6.heap.size l'') ∧ Hid (l''.length = s.size) ∧ pos_1 ≤ y.size ∧ Hid (LP l l'' c) := fun b hb =>
                          ⟨pos + 1, l'.set pos b, (iter_set hne pos (.bool b)).trans HIY.out, HBY.out.setCell (p := ⟨V6.heap.size, pos, none⟩) (Nat.le_refl _) _, RDY.out.set hpl b, (List.length_set ..).trans HLX.out, hp, HLP.out.set hpl hb⟩
                        have HMS : ∀ b : Bool, y.size - (VY.setCell ⟨V6.heap.size, pos, none⟩ (.bool b)).iterPos wa.heap.size < y.size - VX.iterPos wa.heap.size := fun b => by
                          rw [hip, iterPos_of ((iter_set hne pos (.bool b)).trans HIY.out)]; omega
                        have HST := Lib.hid HST
                        have HMS := Lib.hid HMS
                        obtain ⟨f, hf⟩ : ∃ f, l'.getD pos false = f := ⟨_, rfl⟩
                        rw [hf] at r1
                        have HF := Lib.hid hf
                        clear hf hne hip hpl
                        cases f
                        · go_wp2_with fail
                          exact ⟨HST.out _ (fun h => .inr (fun e => by rw [← HYC.out, eC.out] at e; rw [e] at h; exact absurd h (by decide))), HMS.out _⟩
                        · go_wp2_with fail
                          exact ⟨HST.out _ (fun _ => .inl HF.out), HMS.out _⟩
                      · have hnx : ∀ ty, (Instr.next (.pointer (some ⟨wa.heap.size, 0, none⟩)) true ty).run Tryz.prog VX = _ := fun ty => Lib.run_next_end_at VX wa.heap.size y pos ty HI.out hp
                        go_wp2_with fail
                        exact ⟨⟨k + 1, _, l', by omega, by rw [HSN.out]; first | rfl | simp, rfl, by go_num, HBX, RDX, HLX, HCN.out _ _ (by first | exact fun h => absurd h Bool.false_ne_true | exact fun h => ⟨rfl, HSG.out ⟨rfl, h⟩⟩ | exact fun h => ⟨trivial, HSG.out ⟨trivial, h⟩⟩ | exact fun h => ⟨trivial, HSG.out h⟩ | (intro h; simp_all; done)) HLP.out⟩, by simp [nT]; omega⟩
        · obtain rfl : k = K := by omega
          have HB58 : Hid (Below W5.heap.size W5 V8) := HB6.out.trans (HB8.out.mono HB6.out.size)
          have hmiB := HMB.out
          have hm9 : (mi : Int) ≤ 5 := by omega
          have hm8 : (0 : Int) ≤ (mi : Int) := by omega
          clear hlt2 hmiB
          go_wp2_with fail
          go_loopw [13, 148] (fun g i wr => ∃ (j : Nat) (gb : Bool), j ≤ s.size ∧ g = .bool gb ∧ i = .int .i64 j ∧ wr = V8 ∧ Hid (gb = true → gd = true ∧ ∀ p, p < j → l.getD p false = true)) (fun _ i _ => s.size - (nT i).toNat)
          case atStart => exact ⟨0, gd, Nat.zero_le _, rfl, rfl, rfl, fun h => ⟨h, fun p hp => absurd hp (Nat.not_lt_zero _)⟩⟩
          case round =>
            obtain ⟨j, gb, hj, rfl, rfl, hwr, HGB⟩ := hrel
            have hwr2 := hwr.symm
            clear hwr
            subst hwr2
            by_cases hlt3 : j < s.size
            · have r1 := RD8.out.at' j (by rw [HLL.out]; exact hlt3)
              have hj0 : (0 : Int) ≤ (j : Int) := by omega
              have hj1 : (j : Int) < (s.size : Int) := by omega
              have hj2 : (j : Int) ≤ 1000000 := by have := HZ0.out; omega
              obtain ⟨f, hf⟩ : ∃ f, l.getD j false = f := ⟨_, rfl⟩
              rw [hf] at r1
              have HFF := Lib.hid hf
              clear hf
              have HNX : Hid (f = true → (gb = true → gd = true ∧ ∀ p, p < j + 1 → l.getD p false = true)) := fun hf hg => ⟨(HGB.out hg).1, fun p hp => by
                rcases Nat.lt_succ_iff_lt_or_eq.1 hp with h | rfl
                · exact (HGB.out hg).2 p h
                · rw [HFF.out]; exact hf⟩
              as_aux_lemma =>
                cases gb
                · go_wp2_with fail
                  exact ⟨⟨j + 1, false, by omega, rfl, by go_num, (by first | rfl | trivial), fun h => absurd h Bool.false_ne_true⟩, by simp [nT]; omega⟩
                · cases f
                  · go_wp2_with fail
                    exact ⟨⟨j + 1, false, by omega, rfl, by go_num, (by first | rfl | trivial), fun h => absurd h Bool.false_ne_true⟩, by simp [nT]; omega⟩
                  · go_wp2_with fail
                    exact ⟨⟨j + 1, true, by omega, rfl, by go_num, (by first | rfl | trivial), fun _ => HNX.out (by first | rfl | trivial) (by first | rfl | trivial)⟩, by simp [nT]; omega⟩
            · obtain rfl : j = s.size := by omega
              clear hlt3
              cases gb
              · as_aux_lemma =>
                  go_wp2_with fail
                  exact ⟨⟨m + 1, by omega, by go_num, HB58⟩, by simp [nT]; omega⟩
              · have HGD : Hid (gd = true) := (HGB.out (by first | rfl | trivial)).1
                have HAL : Hid (∀ p, p < s.size → l.getD p false = true) := (HGB.out (by first | rfl | trivial)).2
                clear HGB
                by_cases hmz : mi = 0
                · subst hmz
                  as_aux_lemma =>
                    go_wp2_with fail
                    exact ⟨⟨m + 1, by omega, by go_num, HB58⟩, by simp [nT]; omega⟩
                · have hmzb : ((mi : Int) == 0) = false := by rw [beq_eq_false_iff_ne]; omega
                  clear hmz
                  obtain ⟨a0, a1, a2, b0, b1, b2⟩ := XB.out _ HB58.out
                  have HREST : Hid (sumN (aN s H m) k = mi → whl (txT ls ls.length) H m = [] ∧ ∃ f ∈ B.1, f.1 = (m : Int) + 1 ∧ f.2.2.2 = true) := fun he => by
                    have hg := CP8.out.g HGD.out
                    have hS := story_of gs HOK.out
                    rw [hH.out] at hS
                    have hmN : m < (txT ls ls.length).length := by rw [txT_len, hN.out]; exact hlt
                    refine ⟨whl_nil hs9.out fun k' hk' c hc => (hg k' (by rw [← HHK.out]; exact hk') c hc).1, ?_⟩
                    have := rest_of hS hmN hs9.out (fun k' hk' => hg k' (by rw [← HHK.out]; exact hk')) (fun p hp => by
                      obtain ⟨k', h1, h2⟩ := CP8.out.r p hp (HAL.out p hp)
                      exact ⟨k', by rw [HHK.out]; exact h1, h2⟩) (by rw [HHK.out, he, hmi.out])
                    rw [← hB.out, hH.out]
                    exact this
                  have hkk : k ≤ 5 := h5
                  have hkk' : (k : Int) ≤ 5 := by omega
                  clear CP8 RD8 HAL HGD HLL
                  go_wp2_with fail
                  clear a0 a1 a2 b0 b1 b2
                  go_loopw [21, 166] (fun a i wq => ∃ k2 : Nat, k2 ≤ k ∧ a = .int .i64 (sumN (aN s H m) k2 : Nat) ∧ i = .int .i64 k2 ∧ Hid (Below W5.heap.size W5 wq)) (fun _ i _ => k - (nT i).toNat)
                  case atStart => exact ⟨0, Nat.zero_le _, rfl, rfl, HB58.out⟩
                  case round =>
                    obtain ⟨k2, hk2, rfl, rfl, HBq⟩ := hrel
                    obtain ⟨Vq, rfl⟩ : ∃ V, V = wr := ⟨_, rfl⟩
                    have HAB : Hid (∀ k', aN s H m k' ≤ 100000) := fun k' => by
                      unfold aN
                      refine Nat.le_trans (List.length_filter_le _ _) (Nat.le_trans (partsN_len _) ?_)
                      by_cases hk' : k' < H.length
                      · have := HSZ5.out k'
                        rw [hH.out, List.getD, List.getElem?_map, List.getElem?_eq_getElem hk'] at this
                        rw [List.getD, List.getElem?_eq_getElem hk']
                        exact Nat.succ_le_succ this
                      · rw [List.getD, show H[k']? = none from List.getElem?_eq_none (by omega)]
                        decide
                    have hAle := sumA_le HAB.out k2
                    obtain ⟨A, hA9⟩ : ∃ A, Hid (sumN (aN s H m) k2 = A) := ⟨_, rfl⟩
                    rw [hA9.out] at hAle ⊢
                    have hA5 : A ≤ 500000 := by omega
                    clear hAle
                    by_cases hlt4 : k2 < k
                    · have hCl : k2 < ((HT ls gs).map cpO).length := by rw [List.length_map, hH.out, HHK.out]; exact hlt4
                      obtain ⟨bC, oC, rfl, hbC, tC⟩ := str_at (HA5c.out.below HBq.out) hCl
                      have hxs : ((HT ls gs).map cpO).getD k2 ByteArray.empty = cpO (H.getD k2 []) := by
                        have h9 : k2 < H.length := by rw [HHK.out]; exact hlt4
                        rw [hH.out, List.getD, List.getElem?_map, List.getElem?_eq_getElem h9, List.getD, List.getElem?_eq_getElem h9]; rfl
                      have HXZ := Lib.hid (HSZ5.out k2)
                      have HAN : Hid (aN s H m k2 = ((partsN (((HT ls gs).map cpO).getD k2 ByteArray.empty)).filter (qP s ((m : Int) + 1))).length) := by rw [hxs]; rfl
                      obtain ⟨x, hx⟩ : ∃ x, Hid (((HT ls gs).map cpO).getD k2 ByteArray.empty = x) := ⟨_, rfl⟩
                      rw [hx.out] at tC HXZ HAN
                      have HBw : Hid (Below w.heap.size w Vq) := HB5.out.trans (HBq.out.mono HB5.out.size)
                      have PC := Lib.hid (sPieces x Vq (Nat.le_trans HXZ.out (by decide)) (HE.out.next HBw.out))
                      have hlt4' : (k2 : Int) < (k : Int) := by omega
                      have hk20 : (0 : Int) ≤ (k2 : Int) := by omega
                      have HNP : Hid ((partsN x).length ≤ 100000) := Nat.le_trans (partsN_len x) (Nat.succ_le_succ HXZ.out)
                      have HPS : Hid (∀ z ∈ partsN x, z.size ≤ 1000000) := fun z hz => Nat.le_trans (partsN_size hz) (Nat.le_trans HXZ.out (by decide))
                      obtain ⟨ps, hps⟩ : ∃ ps, Hid (partsN x = ps) := ⟨_, rfl⟩
                      rw [hps.out] at PC HNP HPS HAN
                      obtain ⟨a0, a1, a2, b0, b1, b2⟩ := XB.out Vq HBq.out
                      clear hCl hxs hbC
                      go_wp2_with fail
                      refine PC.out.mono ?_
                      rintro e wb ⟨qp, cp9, rfl, hst, hbb⟩
                      have HBb : Hid (Below W5.heap.size W5 wb) := HBq.out.trans (hbb.mono HBq.out.size)
                      have HBx : Hid (Below w.heap.size w wb) := HBw.out.trans (hbb.mono HBw.out.size)
                      have HSTP := Lib.hid hst
                      obtain ⟨np, hnp⟩ : ∃ np, Hid (ps.length = np) := ⟨_, rfl⟩
                      rw [hnp.out] at HNP ⊢
                      have hnp9 := HNP.out
                      clear hbb hst PC tC a0 a1 a2 b0 b1 b2
                      go_wp2_with fail
                      go_loopw [21, 173] (fun a i wr => ∃ j : Nat, j ≤ np ∧ a = .int .i64 ((A + cnQ s ((m : Int) + 1) ps j : Nat) : Int) ∧ i = .int .i64 j ∧ Hid (Below wb.heap.size wb wr)) (fun _ i _ => np - (nT i).toNat)
                      case atStart => exact ⟨0, Nat.zero_le _, rfl, rfl, Below.refl _ _⟩
                      case round =>
                        obtain ⟨j, hj, rfl, rfl, HBj⟩ := hrel
                        obtain ⟨Vj, rfl⟩ : ∃ V, V = wr := ⟨_, rfl⟩
                        have hcl := cnQ_le s ((m : Int) + 1) ps j
                        rw [hnp.out] at hcl
                        obtain ⟨cn9, hcn⟩ : ∃ cn9, Hid (cnQ s ((m : Int) + 1) ps j = cn9) := ⟨_, rfl⟩
                        rw [hcn.out] at hcl ⊢
                        by_cases hlt5 : j < np
                        · have hjl : j < ps.length := by rw [hnp.out]; exact hlt5
                          obtain ⟨bP, oP, rfl, hbP, tP⟩ := str_at (HSTP.out.below HBj.out) hjl
                          have HSU := Lib.hid (cnQ_succ (s := s) (n := (m : Int) + 1) hjl)
                          have HPZ : Hid ((ps.getD j ByteArray.empty).size ≤ 1000000) := HPS.out _ (by rw [List.getD, List.getElem?_eq_getElem hjl]; exact List.getElem_mem _)
                          obtain ⟨z, hz⟩ : ∃ z, Hid (ps.getD j ByteArray.empty = z) := ⟨_, rfl⟩
                          rw [hz.out] at tP HPZ HSU
                          rw [hcn.out] at HSU
                          have HBv : Hid (Below w.heap.size w Vj) := HBx.out.trans (HBj.out.mono HBx.out.size)
                          have SP := Lib.hid (sSpeaks z Vj HPZ.out (HE.out.next HBv.out))
                          obtain ⟨sn, sb, hsp, hsg⟩ : ∃ (sn : Int) (sb : Bool), spRes (spk z.data.toList) = .tuple #[.int .i64 sn, .bool sb] ∧ (qP s ((m : Int) + 1) z = (sb && (sn == (m : Int) + 1) && ((z.size : Int) == (s.size : Int)))) := by
                            have e2 : ((z.size : Int) == (s.size : Int)) = decide (z.size = s.size) := by
                              rw [Bool.eq_iff_iff, beq_iff_eq, decide_eq_true_eq]; omega
                            unfold qP
                            rw [e2]
                            cases hq : spk z.data.toList with
                            | none => exact ⟨0, false, rfl, by simp⟩
                            | some v => exact ⟨v, true, rfl, by rw [Bool.true_and]; congr 1; exact (Bool.eq_iff_iff).2 (by rw [decide_eq_true_eq, beq_iff_eq, Option.some.injEq])⟩
                          have HSP := Lib.hid hsp
                          obtain ⟨t9, ht9⟩ : ∃ t9, (sn == (m : Int) + 1) = t9 := ⟨_, rfl⟩
                          obtain ⟨u9, hu9⟩ : ∃ u9, ((z.size : Int) == (s.size : Int)) = u9 := ⟨_, rfl⟩
                          rw [ht9, hu9] at hsg
                          rw [hsg] at HSU
                          rw [HSP.out] at SP
                          have gm1 := i64n (m + 1) (Nat.le_trans (Nat.succ_le_of_lt hlt) (Nat.le_trans h8 (by decide)))
                          have gm2 := w64n (m + 1) (Nat.le_trans (Nat.succ_le_of_lt hlt) (Nat.le_trans h8 (by decide)))
                          have gm3 : ((m + 1 : Nat) : Int) = (m : Int) + 1 := rfl
                          rw [gm3] at gm1 gm2
                          have hAI : ((A + cn9 : Nat) : Int) ≤ 600000 := by omega
                          have hAJ : (0 : Int) ≤ ((A + cn9 : Nat) : Int) := by omega
                          have hjI : (j : Int) < (np : Int) := by omega
                          have hjJ : (0 : Int) ≤ (j : Int) := by omega
                          have hjK : (j : Int) ≤ 100000 := by omega
                          obtain ⟨AC, hAC⟩ : ∃ AC : Nat, Hid (A + cn9 = AC) := ⟨_, rfl⟩
                          rw [hAC.out] at hAI hAJ ⊢
                          have HT9 := Lib.hid ht9
                          have HU9 := Lib.hid hu9
                          clear hsp hsg hjl hbP gm3 ht9 hu9
                          go_wp2_with fail
                          refine SP.out.mono ?_
                          rintro e wc ⟨rfl, hbc⟩
                          have HBc : Hid (Below wb.heap.size wb wc) := HBj.out.trans (hbc.mono HBj.out.size)
                          have ht9 := HT9.out
                          have hu9 := HU9.out
                          clear hbc SP tP
                          have HEND : Hid (∀ AD : Nat, AD = AC + (if (sb && t9 && u9) = true then 1 else 0) → AD = A + cnQ s ((m : Int) + 1) ps (j + 1)) := fun AD e => by rw [e, HSU.out, ← hAC.out, Nat.add_assoc]
                          cases sb
                          · as_aux_lemma =>
                              go_wp2_with fail
                              exact ⟨⟨j + 1, by omega, by rw [← HEND.out AC (by simp)], by go_num, HBc⟩, by simp [nT]; omega⟩
                          · cases t9
                            · as_aux_lemma =>
                                go_wp2_with fail
                                exact ⟨⟨j + 1, by omega, by rw [← HEND.out AC (by simp)], by go_num, HBc⟩, by simp [nT]; omega⟩
                            · cases u9
                              · as_aux_lemma =>
                                  go_wp2_with fail
                                  exact ⟨⟨j + 1, by omega, by rw [← HEND.out AC (by simp)], by go_num, HBc⟩, by simp [nT]; omega⟩
                              · as_aux_lemma =>
                                  go_wp2_with fail
                                  exact ⟨⟨j + 1, by omega, by rw [← HEND.out (AC + 1) (by simp)]; first | rfl | simp, by go_num, HBc⟩, by simp [nT]; omega⟩
                        · obtain rfl : j = np := by omega
                          have HFIN : Hid (A + cn9 = sumN (aN s H m) (k2 + 1)) := by
                            show A + cn9 = sumN (aN s H m) k2 + aN s H m k2
                            rw [hA9.out, HAN.out, ← hcn.out, ← hnp.out, cnQ_all]
                          have HBf : Hid (Below W5.heap.size W5 Vj) := HBb.out.trans (HBj.out.mono HBb.out.size)
                          as_aux_lemma =>
                            go_wp2_with fail
                            exact ⟨⟨k2 + 1, by omega, by rw [HFIN.out], by go_num, HBf⟩, by simp [nT]; omega⟩
                    · obtain rfl : k2 = k := by omega
                      have HBF := Lib.hid (BK.out.below HBq.out).l
                      have hFI := find_any r0 r1 r2 s0 s1 s2 0 M (fl.map Prod.fst) ((m : Int) + 1) Vq (by rw [List.length_map, HFL.out]; exact HLB.out) HBF.out.1
                      rw [List.length_map, HFL.out] at hFI
                      have FI := Lib.hid hFI
                      have HRE : Hid (A = mi → whl (txT ls ls.length) H m = [] ∧ ∃ f ∈ B.1, f.1 = (m : Int) + 1 ∧ f.2.2.2 = true) := fun e => HREST.out (by rw [hA9.out]; exact e)
                      obtain ⟨a0, a1, a2, b0, b1, b2⟩ := XB.out Vq HBq.out
                      have gm1 := i64n (m + 1) (Nat.le_trans (Nat.succ_le_of_lt hlt) (Nat.le_trans h8 (by decide)))
                      have gm2 := w64n (m + 1) (Nat.le_trans (Nat.succ_le_of_lt hlt) (Nat.le_trans h8 (by decide)))
                      have gm3 : ((m + 1 : Nat) : Int) = (m : Int) + 1 := rfl
                      rw [gm3] at gm1 gm2
                      clear hFI gm3 hlt4 hk2 HREST
                      go_wp2_with fail
                      clear gm1 gm2 a0 a1 a2 b0 b1 b2
                      refine FI.out.mono ?_
                      rintro e w8 ⟨hb8, hres⟩
                      have HB8' : Hid (Below W5.heap.size W5 w8) := HBq.out.trans (hb8.mono HBq.out.size)
                      have HRES := Lib.hid hres
                      clear hb8 hres FI
                      obtain ⟨ab, hab⟩ : ∃ ab, ((A : Int) == (mi : Int)) = ab := ⟨_, rfl⟩
                      have HAB2 : Hid (ab = true → A = mi) := fun h => by rw [← hab, beq_iff_eq] at h; omega
                      rcases HRES.out with ⟨j9, hj9, hn9, rfl⟩ | ⟨hno, rfl⟩
                      · rw [List.length_map] at hj9
                        rw [fst_at hj9] at hn9 ⊢
                        obtain ⟨i9, hi9, q1, q2, q3, q4⟩ := BN.out.i1 j9 hj9
                        obtain rfl : i9 = m := by rw [hn9] at q1; omega
                        obtain ⟨fn, fq, fc, fw, cp, cn, cc, rs, ys, hf⟩ := fc_cases (fl.getD j9 default)
                        rw [hf] at q4 hn9 ⊢
                        dsimp only at q4 hn9
                        rw [hH.out] at q4
                        have HRS : Hid (ab = true → rs = true) := fun h => q4 (HRE.out (HAB2.out h)).1
                        clear hf hj9 q1 q2 q3 q4 hi9 HRES
                        unfold flV
                        dsimp only
                        obtain ⟨fl9, hfl9⟩ : ∃ n, fw.length = n := ⟨_, rfl⟩
                        rw [hfl9]
                        have HAL9 : Hid (Below w8.heap.size w8 (w8.alloc (.cells #[.int .i64 fn, .slice fq fl9 fc, .slice cp cn cc, .bool rs] 87))) := below_alloc1 _ _
                        have y2 := nw_at w8 #[.int .i64 fn, .slice fq fl9 fc, .slice cp cn cc, .bool rs] 87 2 _ rfl
                        have y3 := nw_at w8 #[.int .i64 fn, .slice fq fl9 fc, .slice cp cn cc, .bool rs] 87 3 _ rfl
                        obtain ⟨Wa, hWa⟩ : ∃ Wa, Hid (w8.alloc (.cells #[.int .i64 fn, .slice fq fl9 fc, .slice cp cn cc, .bool rs] 87) = Wa) := ⟨_, rfl⟩
                        rw [hWa.out] at HAL9 y2 y3
                        have HB9 : Hid (Below W5.heap.size W5 Wa) := HB8'.out.trans (HAL9.out.mono HB8'.out.size)
                        clear hn9 hfl9
                        cases ab
                        · clear HRS HAB2 HRE
                          as_aux_lemma =>
                            go_upto_region 49 with (fail)
                            rw [hWa.out]
                            go_wp2_with fail
                            exact ⟨⟨i9 + 1, by omega, by go_num, HB9⟩, by simp [nT]; omega⟩
                        · have hrs := HRS.out rfl
                          subst hrs
                          clear HRS HAB2 HRE
                          as_aux_lemma =>
                            go_upto_region 49 with (fail)
                            rw [hWa.out]
                            go_wp2_with fail
                            exact ⟨⟨i9 + 1, by omega, by go_num, HB9⟩, by simp [nT]; omega⟩
                      · have hna : ab = false := by
                          cases ab
                          · rfl
                          · exfalso
                            obtain ⟨-, f, hf, hn, -⟩ := HRE.out (HAB2.out rfl)
                            rw [← BK.out.kl] at hf
                            obtain ⟨xx, hxx, rfl⟩ := List.mem_map.1 hf
                            obtain ⟨j9, hj9, rfl⟩ := List.getElem_of_mem hxx
                            refine hno j9 (by rw [List.length_map]; exact hj9) ?_
                            rw [fst_at hj9, List.getD, List.getElem?_eq_getElem hj9]
                            exact hn
                        subst hna
                        have HAL9 : Hid (Below w8.heap.size w8 (w8.alloc (.cells #[.int .i64 0, .slice none 0 0, .slice none 0 0, .bool false] 87))) := below_alloc1 _ _
                        have HB9 : Hid (Below W5.heap.size W5 (w8.alloc (.cells #[.int .i64 0, .slice none 0 0, .slice none 0 0, .bool false] 87))) := HB8'.out.trans (HAL9.out.mono HB8'.out.size)
                        clear hno HRES HRE HAB2
                        as_aux_lemma =>
                          go_wp2_with fail
                          exact ⟨⟨m + 1, by omega, by go_num, HB9⟩, by simp [nT]; omega⟩
    · obtain rfl : m = N := by omega
      have HB9 : Hid (Below w.heap.size w V6) := HB5.out.trans (HB6.out.mono HB5.out.size)
      have SN := Lib.hid (sanity_any V6 (HE.out.next HB9.out))
      as_aux_lemma =>
        go_wp2_with fail
        refine SN.out.mono ?_
        rintro e w9 ⟨rfl, hb⟩
        have HB10 : Hid (Below w.heap.size w w9) := HB9.out.trans (hb.mono HB9.out.size)
        clear hb
        go_wp2_with fail
        go_ret
        exact ⟨rfl, HB10.out⟩
theorem sheetRestores_law2 (p : Option Addr) (cap : Nat) (ls : List GL) (q : Option Addr) (cap2 : Nat) (gs : List GF) (w : World) (he : Env w) (hl : ls.length ≤ maxLen) (hs : ∀ j, j < ls.length → (ls.getD j default).small) (hp : ListsAt w p ls) (hg : gs.length ≤ maxLen) (hf : ∀ j, (gs.getD j default).fs.length ≤ maxLen) (hq : FatessAt w q gs) :
    Calls Tryz.prog 15 #[.slice p ls.length cap, .slice q gs.length cap2] w fun e w' => e = .returned (.bool true) ∧ Below w.heap.size w w' := sheetRestores_law p q cap cap2 ls gs w he hl hg hf hs hp hq
end Go.Proofs.YtmfhpddeclggfaaGreatDoor
