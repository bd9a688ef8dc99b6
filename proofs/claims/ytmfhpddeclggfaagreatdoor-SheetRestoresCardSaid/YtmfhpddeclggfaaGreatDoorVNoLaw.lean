import Derived.Test.YtmfhpddeclggfaaGreatDoorVUd
import Derived.Test.YtmfhpddeclggfaaGreatDoorVTd0
import Derived.Test.YtmfhpddeclggfaaGreatDoorVTb
import Derived.Test.YtmfhpddeclggfaaGreatDoorVIia
import Derived.Test.YtmfhpddeclggfaaGreatDoorTf
import Derived.Test.YtmfhpddeclggfaaGreatDoorVTc
import Derived.Test.YtmfhpddeclggfaaGreatDoorVTa
import Derived.Test.YtmfhpddeclggfaaGreatDoorVIfb
import Derived.Test.YtmfhpddeclggfaaGreatDoorVc
import Derived.Test.YtmfhpddeclggfaaGreatDoorKf
import Derived.Test.YtmfhpddeclggfaaGreatDoorOm
import Derived.Lib.ConvBytes
import Derived.Laws.IdiomStrings
import Derived.WalkKit
import Derived.LoopTactic
import Derived.WalkSpells
import Derived.WalkLawsBesides
import Derived.Lib.Hide
import Derived.BigQuiet
import Derived.IntWalk
import Derived.Deep.DeepMust
import Derived.WalkSmall
import Derived.StillTailTactics
import Derived.Deep.RegionLaw
import Derived.Deep.QuietTactic
import Derived.Deep.Cut
import Derived.Deep.DeepCutAuto
import Derived.Deep.LoopGhost
import Derived.Deep.RegionHeld3
import Derived.Laws.OwnMore
namespace Go.Proofs.YtmfhpddeclggfaaGreatDoor
open Go.RowKit Go.BigFrame
structure WdT (C : World → Prop) where
  w : World
  h : C w
theorem wp_region_inT {P : Program} {id : Nat} {Q : Exit → Act → World → Prop} {a : Act} {w : World} {l : List Oper} (C : World → Prop) (hC : C w.drew) (hm : P.follows .mixedOrders = true) (hB : Region.lexB .any l.toArray = true)
    (h : wpQuiet P l.toArray (fun w' => ∃ n : WdT C, w' = n.w) (fun a' => ∀ w', C w' → Q .normal a' w') l a) : (Code.region id l.toArray true).wp P Q a w := by
  have e : (fun w' => ∃ n : WdT C, w' = n.w) = C := funext fun w' => propext ⟨fun ⟨n, hn⟩ => hn ▸ n.h, fun hc => ⟨⟨w', hc⟩, rfl⟩⟩
  rw [e] at h
  exact wp_region_quiet (C := C) hm hB hC (by simpa using h)
theorem quiet_inT {P : Program} {f : FuncId} {args : Array Value} {C : World → Prop} {w : World} {v : Value} (h : Calls P f args w fun e w' => e = .returned v ∧ C w') :
    Calls P f args w fun e w'' => e = .returned v ∧ ∃ n : WdT C, w'' = n.w :=
  h.mono fun _ w'' ⟨he, hc⟩ => ⟨he, ⟨w'', hc⟩, rfl⟩
def whF (P : Nat → Bool) (k : Nat) : List Int := ((List.range k).filter P).map fun k => ((k : Nat) : Int)
theorem whF_yes {P : Nat → Bool} {k : Nat} (h : P k = true) : whF P (k + 1) = whF P k ++ [((k : Nat) : Int)] := by
  unfold whF; rw [List.range_succ, List.filter_append, List.filter_cons, if_pos h]; simp
theorem whF_no {P : Nat → Bool} {k : Nat} (h : ¬ P k = true) : whF P (k + 1) = whF P k := by
  unfold whF; rw [List.range_succ, List.filter_append, List.filter_cons, if_neg h]; simp
theorem whF_len (P : Nat → Bool) (k : Nat) : (whF P k).length ≤ k := by
  unfold whF; rw [List.length_map]; exact Nat.le_trans (List.length_filter_le _ _) (by simp)
theorem w64n (i : Nat) (h : i ≤ 1000) : wrap64 (i : Int) = (i : Int) := by unfold wrap64; omega
theorem i64n (i : Nat) (h : i ≤ 1000) : IntKind.i64.wrap (i : Int) = (i : Int) := IntWalk.i64_in _ ⟨by omega, by omega⟩
/-! Nothing else than what was written. -/
set_option maxRecDepth 100000 in
set_option maxHeartbeats 8000000 in
theorem sheetNothingElse_law (p q : Option Addr) (cap cap2 : Nat) (ls : List GL) (gs : List GF) (w : World) (he : Env w) (hl : ls.length ≤ maxLen) (hg : gs.length ≤ maxLen) (hf : ∀ j, (gs.getD j default).fs.length ≤ maxLen) (hs : ∀ j, j < ls.length → (ls.getD j default).small) (hp : ListsAt w p ls) (hq : FatessAt w q gs) :
    Calls Tryz.prog 14 #[.slice p ls.length cap, .slice q gs.length cap2] w fun e w' => e = .returned (.bool true) ∧ Below w.heap.size w w' := by
  have HP := Lib.hid hp
  have HQ := Lib.hid hq
  have HS := Lib.hid hs
  have HE := Lib.hid he
  have SM := Lib.hid (small_any p q cap cap2 ls gs w hl hg hf hs hp hq)
  obtain ⟨N, hN⟩ : ∃ N, Hid (ls.length = N) := ⟨_, rfl⟩
  obtain ⟨K, hK⟩ : ∃ K, Hid (gs.length = K) := ⟨_, rfl⟩
  rw [hN.out, hK.out] at SM ⊢
  clear hp hq hs he hl hg hf
  go_enter Tryz.func14, Tryz.ntmps14
  go_wp2_with fail
  refine SM.out.mono ?_
  rintro e w1 ⟨hb1, b, rfl, hbs⟩
  have HB1 := Lib.hid hb1
  clear hb1 SM
  cases b
  · have SN := Lib.hid (sanity_any w1 (HE.out.next HB1.out))
    clear hbs
    as_aux_lemma =>
      go_wp2_with fail
      refine SN.out.mono ?_
      rintro e w2 ⟨rfl, hb⟩
      have HB2 : Hid (Below w.heap.size w w2) := HB1.out.trans (hb.mono HB1.out.size)
      clear hb
      go_wp2_with fail
      go_ret
      exact ⟨rfl, HB2.out⟩
  obtain ⟨h8, h5, h40⟩ := hbs rfl
  rw [hN.out] at h8
  rw [hK.out] at h5
  have hpl : ∀ j k, (feAt (gs.getD j default).fs k).pl.length ≤ 1000000 := fun j k => by
    unfold feAt
    by_cases hj : j < gs.length
    · by_cases hk : k < (gs.getD j default).fs.length
      · exact Nat.le_trans (h40 j hj k hk) (by decide)
      · have e : (gs.getD j default).fs.getD k default = default := by
          obtain ⟨F, hF⟩ : ∃ F, (gs.getD j default).fs = F := ⟨_, rfl⟩
          rw [hF] at hk ⊢
          rw [List.getD, List.getElem?_eq_none (by omega)]; rfl
        rw [e]; exact Nat.zero_le _
    · have e : gs.getD j default = default := by rw [List.getD, List.getElem?_eq_none (by omega)]; rfl
      rw [e]
      exact Nat.zero_le _
  have TD := told_any p q cap cap2 ls gs w1 (by rw [hN.out]; exact h8) (by rw [hK.out]; exact h5) HS.out (HP.out.below HB1.out) (HQ.out.below HB1.out) hpl (HE.out.next HB1.out)
  rw [hN.out, hK.out] at TD
  have TD := Lib.hid TD
  clear h40 hpl hbs
  go_wp2_with fail
  refine TD.out.mono ?_
  rintro e w2 ⟨hb2, hto⟩
  have HB2 : Hid (Below w.heap.size w w2) := HB1.out.trans (hb2.mono HB1.out.size)
  have HTO := Lib.hid hto
  clear hb2 hto TD
  rcases HTO.out with ⟨pp, nn, cc, rfl⟩ | ⟨p0, p1, p2, p3, c0, c1, c2, c3, gs2, ys2, rfl, hA⟩
  · have HB3 : Hid (Below w.heap.size w (w2.alloc (.cells #[.slice pp nn cc, .slice none 0 0, .slice none 0 0, .slice none 0 0] 112))) := HB2.out.alloc HB2.out.size _
    have SN := Lib.hid (sanity_any _ (HE.out.next HB3.out))
    clear HTO
    as_aux_lemma =>
      go_wp2_with fail
      refine SN.out.mono ?_
      rintro e w3 ⟨rfl, hb⟩
      have HB4 : Hid (Below w.heap.size w w3) := HB3.out.trans (hb.mono HB3.out.size)
      clear hb
      go_wp2_with fail
      go_ret
      exact ⟨rfl, HB4.out⟩
  have HA := Lib.hid hA
  clear hA HTO
  rw [hN.out, hK.out]
  have HOK : Hid (∀ i, i < ls.length → lineErr ((i : Int) + 1) (ls.getD i default).ws = 0) := HA.out.ok
  have ST := story_of gs HOK.out
  have TO := Lib.hid ST.told
  have HHK : Hid (((HT ls gs).map cpO).length = K) := by unfold Hid HT; rw [List.length_map, List.length_map, hK.out]
  have HSZ := Lib.hid (HT_sz (gs := gs) HOK.out (by rw [hN.out]; exact h8))
  have HB23 : Hid (Below w2.heap.size w2 (w2.alloc (.cells #[.slice p0 N c0, .slice p1 K c1, .slice p2 K c2, .slice p3 K c3] 112))) := below_alloc1 _ _
  have N3 := Lib.hid (fun o u h => nw_at w2 #[.slice p0 N c0, .slice p1 K c1, .slice p2 K c2, .slice p3 K c3] 112 o u h)
  have HW3 : Hid ((w2.alloc (.cells #[.slice p0 N c0, .slice p1 K c1, .slice p2 K c2, .slice p3 K c3] 112)).heap.size = w2.heap.size + 1) := by unfold Hid; simp
  obtain ⟨W3, hW3⟩ : ∃ W3, Hid (w2.alloc (.cells #[.slice p0 N c0, .slice p1 K c1, .slice p2 K c2, .slice p3 K c3] 112) = W3) := ⟨_, rfl⟩
  rw [hW3.out] at HB23 N3 HW3
  have HB3 : Hid (Below w.heap.size w W3) := HB2.out.trans (HB23.out.mono HB2.out.size)
  have CO := collate_few p1 c1 ((HT ls gs).map cpO) W3 (by rw [HHK.out]; omega) HSZ.out (HA.out.c.below HB23.out) (HE.out.next HB3.out)
  rw [HHK.out] at CO
  have CO := Lib.hid CO
  have SMB := Lib.hid (coB_len ((HT ls gs).map cpO) HSZ.out (by rw [HHK.out]; omega))
  have HCL : Hid ((coB ((HT ls gs).map cpO)).2.1.length = 0) := by unfold Hid; rw [TO.out.clash]; rfl
  obtain ⟨B, hB⟩ : ∃ B, Hid (coB ((HT ls gs).map cpO) = B) := ⟨_, rfl⟩
  rw [hB.out] at CO SMB HCL TO
  have x1 := N3.out 1 _ rfl
  go_upto_region 4 with (fail)
  rw [hW3.out]
  clear hW3 ST
  go_wp2_with fail
  refine CO.out.mono ?_
  rintro e w4 hcol
  obtain ⟨hb4, r0, r1, r2, s0, s1, s2, fl, cl, rfl, hbk⟩ := col_at hcol
  rw [HCL.out]
  have HB4 : Hid (Below w.heap.size w w4) := HB3.out.trans (hb4.mono HB3.out.size)
  have HB34 := Lib.hid hb4
  obtain ⟨L, hL⟩ : ∃ L, Hid (B.1.length = L) := ⟨_, rfl⟩
  obtain ⟨M, hM⟩ : ∃ M, Hid (B.2.2.length = M) := ⟨_, rfl⟩
  rw [hL.out, hM.out]
  have HB45 : Hid (Below w4.heap.size w4 (w4.alloc (.cells #[.slice r0 L s0, .slice r1 0 s1, .slice r2 M s2] 78))) := below_alloc1 _ _
  have N5 := Lib.hid (fun o u h => nw_at w4 #[.slice r0 L s0, .slice r1 0 s1, .slice r2 M s2] 78 o u h)
  have HW5 : Hid ((w4.alloc (.cells #[.slice r0 L s0, .slice r1 0 s1, .slice r2 M s2] 78)).heap.size = w4.heap.size + 1) := by unfold Hid; simp
  obtain ⟨W5, hW5⟩ : ∃ W5, Hid (w4.alloc (.cells #[.slice r0 L s0, .slice r1 0 s1, .slice r2 M s2] 78) = W5) := ⟨_, rfl⟩
  rw [hW5.out] at HB45 N5 HW5
  have HB5 : Hid (Below w.heap.size w W5) := HB4.out.trans (HB45.out.mono HB4.out.size)
  have BK := Lib.hid (hbk.below HB45.out)
  have BN := Lib.hid (bkN_of HOK.out (by rw [hB.out]; exact TO.out) (by rw [hB.out]; exact hbk.kl))
  have HFL : Hid (fl.length = L) := by unfold Hid; rw [← hL.out, ← hbk.kl, List.length_map]
  have HLB : Hid (L ≤ 1000000000) := by rw [← hL.out]; exact SMB.out.1
  have HB35 : Hid (Below W3.heap.size W3 W5) := HB34.out.trans (HB45.out.mono HB34.out.size)
  have XB := Lib.hid (fun V (hb : Below W5.heap.size W5 V) => (by
    have h3 := HW3.out
    have h5' := HW5.out
    have h35 := HB35.out.size
    have h34 := HB34.out.size
    have hv := HB35.out.trans (hb.mono HB35.out.size)
    exact ⟨(hv.cell (p := ⟨w2.heap.size, 0, none⟩) (by show w2.heap.size < _; omega)).trans (N3.out 0 _ rfl), (hv.cell (p := ⟨w2.heap.size, 1, none⟩) (by show w2.heap.size < _; omega)).trans (N3.out 1 _ rfl), (hv.cell (p := ⟨w2.heap.size, 2, none⟩) (by show w2.heap.size < _; omega)).trans (N3.out 2 _ rfl),
      (hb.cell (p := ⟨w4.heap.size, 0, none⟩) (by show w4.heap.size < _; omega)).trans (N5.out 0 _ rfl), (hb.cell (p := ⟨w4.heap.size, 1, none⟩) (by show w4.heap.size < _; omega)).trans (N5.out 1 _ rfl), (hb.cell (p := ⟨w4.heap.size, 2, none⟩) (by show w4.heap.size < _; omega)).trans (N5.out 2 _ rfl)⟩ : V.cell? ⟨w2.heap.size, 0, none⟩ = some (.slice p0 N c0) ∧ V.cell? ⟨w2.heap.size, 1, none⟩ = some (.slice p1 K c1) ∧ V.cell? ⟨w2.heap.size, 2, none⟩ = some (.slice p2 K c2) ∧
        V.cell? ⟨w4.heap.size, 0, none⟩ = some (.slice r0 L s0) ∧ V.cell? ⟨w4.heap.size, 1, none⟩ = some (.slice r1 0 s1) ∧ V.cell? ⟨w4.heap.size, 2, none⟩ = some (.slice r2 M s2)))
  have HA5 : Hid (StrsAt W5 p0 (txT ls ls.length) ∧ ListsAt W5 p2 gs2) := ⟨(HA.out.t.below HB23.out).below HB35.out, (HA.out.h.below HB23.out).below HB35.out⟩
  obtain ⟨a0, a1, a2, b0, b1, b2⟩ := XB.out W5 (Below.refl _ _)
  clear hb4 hcol hbk CO SMB HCL x1 N3 N5 HW3 HW5 HB34 HB45 HB4 HB23 TO HSZ HHK
  go_upto_region 7 with (fail)
  rw [hW5.out]
  clear hW5
  go_wp2_with fail
  clear a0 a1 a2 b0 b1 b2
  go_loopw [48] (fun i wr => ∃ j : Nat, j ≤ L ∧ i = .int .i64 j ∧ Hid (Below W5.heap.size W5 wr)) (fun i _ => L - (nT i).toNat)
  case atStart => exact ⟨0, Nat.zero_le _, rfl, Below.refl _ _⟩
  case round =>
    obtain ⟨j, hj, rfl, HB⟩ := hrel
    obtain ⟨V, rfl⟩ : ∃ V, V = wr := ⟨_, rfl⟩
    by_cases hlt : j < L
    · have hj1 : j < fl.length := by rw [HFL.out]; exact hlt
      obtain ⟨i, hi, hfn, hfw, -, -⟩ := BN.out.i1 j hj1
      rw [hN.out] at hi
      have hfd := (BK.out.below HB.out).l
      obtain ⟨n, q1, cq, ws, cp1, cn1, cc1, rs, zs, hf⟩ := fc_cases (fl.getD j default)
      have hws9 := founds_at hfd.1 (j := j) (by rw [List.length_map]; exact hj1)
      have hst9 := hfd.1.2 j (by rw [List.length_map]; exact hj1)
      rw [fst_at hj1, hf] at hws9 hst9
      rw [hf] at hfn hfw
      dsimp only at hws9 hst9 hfn hfw
      obtain ⟨bF, oF, rfl, hbF, d0, d1, d2, d3⟩ := hws9
      obtain ⟨bL, oL, rfl, hbL, l1, hlst⟩ := lists_at (HP.out.below (HB5.out.trans (HB.out.mono HB5.out.size))) (show i < ls.length by rw [hN.out]; exact hi)
      rw [← hfw] at l1 hlst
      subst hfn
      have hwl : ws.length ≤ maxLen := by rw [hfw]; exact (HS.out i (by rw [hN.out]; exact hi)).1
      have hsame : sameB ((i : Int) + 1) ((i : Int) + 1) ws ws = true := sameB_yes rfl (fun _ _ => rfl)
      obtain ⟨gp, hgp⟩ : ∃ gp, (ls.getD i default).p = gp := ⟨_, rfl⟩
      obtain ⟨gc, hgc⟩ : ∃ gc, (ls.getD i default).cap = gc := ⟨_, rfl⟩
      rw [hgp] at l1 hlst
      rw [hgc] at l1
      have CS : Hid (∀ W, Below V.heap.size V W → Calls Tryz.prog 37 #[.agg #[.int .i64 ((i : Int) + 1), .slice q1 ws.length cq], .agg #[.int .i64 ((i : Int) + 1), .slice gp ws.length gc]] W fun e w' => e = .returned (.bool true) ∧ Below W.heap.size W w') := fun W hbW => by
        have := rSame ((i : Int) + 1) ((i : Int) + 1) q1 gp cq gc ws ws W hwl (hst9.below hbW) (hlst.below hbW)
        rwa [hsame] at this
      have hlt' : (j : Int) < (L : Int) := by omega
      have hj0 : (0 : Int) ≤ (j : Int) := by omega
      have HBW : Hid (Below V.heap.size V (V.alloc (.cells #[.int .i64 ((i : Int) + 1), .slice q1 ws.length cq, .slice cp1 cn1 cc1, .bool rs] 87))) := below_alloc1 _ _
      obtain ⟨W9, hW9⟩ : ∃ W9, Hid (V.alloc (.cells #[.int .i64 ((i : Int) + 1), .slice q1 ws.length cq, .slice cp1 cn1 cc1, .bool rs] 87) = W9) := ⟨_, rfl⟩
      have HW9 : Hid (W9.heap.size = V.heap.size + 1) := by rw [← hW9.out]; unfold Hid; simp
      have HN9 : Hid (∀ o u, (#[.int .i64 ((i : Int) + 1), .slice q1 ws.length cq, .slice cp1 cn1 cc1, .bool rs] : Array Value).toList[o]? = some u → W9.cell? ⟨V.heap.size, o, none⟩ = some u) := by rw [← hW9.out]; exact fun o u h => nw_at V _ 87 o u h
      rw [hW9.out] at HBW
      have HS9 : Hid (∀ V', Below W9.heap.size W9 V' → V'.cell? ⟨V.heap.size, 0, none⟩ = some (.int .i64 ((i : Int) + 1)) ∧ V'.cell? ⟨V.heap.size, 1, none⟩ = some (.slice q1 ws.length cq) ∧ V'.cell? ⟨bL, oL + i, none⟩ = some (.slice gp ws.length gc)) := fun V' hb => by
        have h9 := HW9.out
        exact ⟨(hb.cell (p := ⟨V.heap.size, 0, none⟩) (by show V.heap.size < _; omega)).trans (HN9.out 0 _ rfl), (hb.cell (p := ⟨V.heap.size, 1, none⟩) (by show V.heap.size < _; omega)).trans (HN9.out 1 _ rfl), (hb.cell (p := ⟨bL, oL + i, none⟩) (by show bL < _; omega)).trans ((HBW.out.cell (p := ⟨bL, oL + i, none⟩) hbL).trans l1)⟩
      have B9 : Hid (Below W5.heap.size W5 W9) := HB.out.trans (HBW.out.mono HB.out.size)
      obtain ⟨G, hG⟩ : ∃ G, ws.length = G := ⟨_, rfl⟩
      rw [hG] at CS HS9 d1 hW9
      have gd1 : decide ((i : Int) + 1 < 1) = false := decide_eq_false (by omega)
      have gd2 : decide ((N : Int) < (i : Int) + 1) = false := decide_eq_false (by omega)
      have gi0 : (0 : Int) ≤ (i : Int) := by omega
      have gi1 : (i : Int) < (N : Int) := by omega
      have gw1 : IntKind.i64.wrap (((i : Int) + 1) - 1) = (i : Int) := by rw [Int.add_sub_cancel]; exact i64n i (Nat.le_trans (Nat.le_of_lt hi) (Nat.le_trans h8 (by decide)))
      have gw2 := w64n i (Nat.le_trans (Nat.le_of_lt hi) (Nat.le_trans h8 (by decide)))
      have gw3 := i64n i (Nat.le_trans (Nat.le_of_lt hi) (Nat.le_trans h8 (by decide)))
      clear hf hwl hst9 hlst hsame hj1 hgp hgc hG HN9 HW9 hbF hbL hfw hfd l1
      go_wp2_with fail
      rw [hW9.out]
      clear d0 d1 d2 d3 hW9
      have f0 : ∀ n : WdT (fun V' => Below W9.heap.size W9 V'), n.w.cell? ⟨V.heap.size, 0, none⟩ = some (.int .i64 ((i : Int) + 1)) := fun n => (HS9.out n.w n.h).1
      have f1 : ∀ n : WdT (fun V' => Below W9.heap.size W9 V'), n.w.cell? ⟨V.heap.size, 1, none⟩ = some (.slice q1 G cq) := fun n => (HS9.out n.w n.h).2.1
      have f2 : ∀ n : WdT (fun V' => Below W9.heap.size W9 V'), n.w.cell? ⟨bL, oL + i, none⟩ = some (.slice gp G gc) := fun n => (HS9.out n.w n.h).2.2
      have D0 : ∀ n : WdT (fun V' => Below W9.heap.size W9 V'), Hid (Calls Tryz.prog 37 #[.agg #[.int .i64 ((i : Int) + 1), .slice q1 G cq], .agg #[.int .i64 ((i : Int) + 1), .slice gp G gc]] n.w fun e w'' => e = .returned (.bool true) ∧ ∃ n : WdT (fun V' => Below W9.heap.size W9 V'), w'' = n.w) :=
        fun n => Lib.hid (quiet_inT (C := fun V' => Below W9.heap.size W9 V') ((CS.out n.w (HBW.out.trans (n.h.mono HBW.out.size))).mono fun e w' h => ⟨h.1, n.h.trans (h.2.mono n.h.size)⟩))
      have hC0 : Below W9.heap.size W9 W9.drew := (Below.refl _ _).drew
      haveI : Nonempty (WdT (fun V' => Below W9.heap.size W9 V')) := ⟨⟨_, hC0⟩⟩
      have XL := HLB.out
      clear CS HS9 HBW
      as_aux_lemma =>
        refine wp_region_inT (fun V' => Below W9.heap.size W9 V') hC0 (by kernel_rfl) (by kernel_rfl) ?_
        repeat (go_big_quiet_step (first | exact (D0 _).out))
        refine wpQuiet_nil ?_
        intro wx hwx
        have HBX : Hid (Below W5.heap.size W5 wx) := B9.out.trans (hwx.mono B9.out.size)
        clear f0 f1 f2 D0 hC0 hwx gw1 gw2 gw3
        go_wp2_with fail
        exact ⟨⟨j + 1, by omega, by go_num, HBX⟩, by simp [nT]; omega⟩
    · obtain rfl : j = L := by omega
      clear hlt hj
      obtain ⟨a0, a1, a2, b0, b1, b2⟩ := XB.out V HB.out
      go_wp2_with fail
      clear a0 a1 a2 b0 b1 b2
      have HBV := Lib.hid (Below.refl V.heap.size V)
      go_loopw [85] (fun i wr => ∃ m : Nat, m ≤ N ∧ i = .int .i64 m ∧ Hid (Below W5.heap.size W5 wr)) (fun i _ => N - (nT i).toNat)
      case atStart => exact ⟨0, Nat.zero_le _, rfl, HB⟩
      case round =>
        obtain ⟨m, hm, rfl, HB6⟩ := hrel
        obtain ⟨V6, rfl⟩ : ∃ V, V = wr := ⟨_, rfl⟩
        by_cases hlt : m < N
        · have hmt : m < (txT ls ls.length).length := by rw [txT_len, hN.out]; exact hlt
          obtain ⟨bT, oT, rfl, hbT, tc⟩ := str_at (HA5.out.1.below HB6.out) hmt
          have HWH : Hid (whl (txT ls ls.length) (HT ls gs) m = ((List.range K).filter fun k => decide (((HT ls gs).getD k [])[m]? = some (some ((txT ls ls.length).getD m ByteArray.empty).data.toList))).map fun k => ((k : Nat) : Int)) := by
            have : (HT ls gs).length = K := by unfold HT; rw [List.length_map, hK.out]
            unfold Hid whl
            rw [this]
          have HHI := Lib.hid (fun k (hk : k < K) => has_iff (gs := gs) HOK.out (k := k) (i := m) (by rw [hK.out]; exact hk) (by rw [hN.out]; exact hlt))
          obtain ⟨s, hs9⟩ : ∃ s, Hid ((txT ls ls.length).getD m ByteArray.empty = s) := ⟨_, rfl⟩
          rw [hs9.out] at tc HWH HHI
          obtain ⟨P, hP⟩ : ∃ P : Nat → Bool, (fun k => decide (((HT ls gs).getD k [])[m]? = some (some s.data.toList))) = P := ⟨_, rfl⟩
          have HWP : Hid (whl (txT ls ls.length) (HT ls gs) m = whF P K) := by rw [← hP]; exact HWH.out
          have HPI : Hid (∀ k, k < K → ((hsT ((HT ls gs).getD k [])).getD m ByteArray.empty = s ↔ P k = true)) := fun k hk => by rw [← hP]; exact (HHI.out k hk).trans (by simp)
          clear hP HWH HHI
          obtain ⟨a0, a1, a2, b0, b1, b2⟩ := XB.out V6 HB6.out
          have hlt' : (m : Int) < (N : Int) := by omega
          have hm0 : (0 : Int) ≤ (m : Int) := by omega
          have HR6 : Hid (Below V6.heap.size V6 V6) := Below.refl _ _
          clear hbT hmt
          go_wp2_with fail
          clear a0 a1 a2 b0 b1 b2 tc
          go_loopw [13, 93] (fun v i wr => ∃ k : Nat, k ≤ K ∧ i = .int .i64 k ∧ Hid (Below V6.heap.size V6 wr) ∧ Hid (wr.ownsRow V6.heap.size 3 1 v (whF P k).length (cellsI (whF P k)))) (fun _ i _ => K - (nT i).toNat)
          case atStart => exact ⟨0, Nat.zero_le _, rfl, HR6, World.ownsRow_nil _ _ _ _⟩
          case round =>
            obtain ⟨k, hk, rfl, HB7, HO7⟩ := hrel
            obtain ⟨V7, rfl⟩ : ∃ V, V = wr := ⟨_, rfl⟩
            by_cases hlt2 : k < K
            · have HB57 : Hid (Below W5.heap.size W5 V7) := HB6.out.trans (HB7.out.mono HB6.out.size)
              have hgl2 : gs2.length = K := by have := congrArg List.length HA.out.hg; rw [List.length_map, List.length_map] at this; unfold HT at this; rw [List.length_map, hK.out] at this; exact this
              have hgw : (gs2.getD k default).ws = hsT ((HT ls gs).getD k []) := by
                have h1 := congrArg (fun l => l[k]?) HA.out.hg
                have h2 : k < gs2.length := by rw [hgl2]; exact hlt2
                have h3 : k < (HT ls gs).length := by unfold HT; rw [List.length_map, hK.out]; exact hlt2
                simp only [List.getElem?_map, List.getElem?_eq_getElem h2, List.getElem?_eq_getElem h3, Option.map_some] at h1
                rw [List.getD, List.getD, List.getElem?_eq_getElem h2, List.getElem?_eq_getElem h3]
                exact Option.some.inj h1
              have hHl : ((HT ls gs).getD k []).length = N := by
                have h3 : k < gs.length := by rw [hK.out]; exact hlt2
                unfold HT
                simp only [List.getD, List.getElem?_map, List.getElem?_eq_getElem h3, Option.map_some, Option.getD_some]
                rw [hvT_len, hN.out]
              obtain ⟨bH, oH, rfl, hbH, h1, hst⟩ := lists_at (HA5.out.2.below HB57.out) (show k < gs2.length by rw [hgl2]; exact hlt2)
              rw [hgw] at h1 hst
              have hhl : (hsT ((HT ls gs).getD k [])).length = N := by unfold hsT; rw [List.length_map]; exact hHl
              obtain ⟨bS, oS, hpS, hbS, t1⟩ := str_at hst (show m < _ by rw [hhl]; exact hlt)
              rw [hhl, hpS] at h1
              have hpi := HPI.out k hlt2
              obtain ⟨y, hy⟩ : ∃ y, (hsT ((HT ls gs).getD k [])).getD m ByteArray.empty = y := ⟨_, rfl⟩
              rw [hy] at t1 hpi
              obtain ⟨gc, hgc⟩ : ∃ gc, (gs2.getD k default).cap = gc := ⟨_, rfl⟩
              rw [hgc] at h1
              obtain ⟨a0, a1, a2, b0, b1, b2⟩ := XB.out V7 HB57.out
              have hlt2' : (k : Int) < (K : Int) := by omega
              have hk0 : (0 : Int) ≤ (k : Int) := by omega
              have hwl := whF_len P k
              clear hgl2 hgw hHl hst hhl hpS hy hgc hbH hbS
              by_cases he : y = s
              · have heb : (y.toList == s.toList) = true := by rw [he]; simp
                have hW := Lib.hid (whF_yes (P := P) (k := k) (hpi.1 he))
                obtain ⟨i3, hi3, hz30, hz31, hz32⟩ := info_parts inf3
                obtain ⟨qw, cw, hu⟩ := own_slice2 HO7.out
                have OA := Lib.hid (HO7.out.alloc (.cells #[.int .i64 (k : Int)] 3))
                have NW : Hid (∀ j u, (cellsI [((k : Nat) : Int)])[j]? = some u → (V7.alloc (.cells #[.int .i64 (k : Int)] 3)).cell? ((⟨V7.heap.size, 0, none⟩ : Addr).add j) = some u) := cells_new V7 #[.int .i64 (k : Int)] 3
                have HLm : Hid ((whF P k).length + 1 ≤ maxLen) := Nat.le_trans (Nat.succ_le_succ (Nat.le_trans hwl (Nat.le_trans (Nat.le_of_lt hlt2) h5))) (by decide)
                have HLb : Hid (((whF P k).length + 1) * 8 ≤ 140737488355328) := Nat.le_trans (Nat.mul_le_mul_right 8 (Nat.succ_le_succ (Nat.le_trans hwl (Nat.le_trans (Nat.le_of_lt hlt2) h5)))) (by decide)
                have HWS : Hid (V6.heap.size ≤ (V7.alloc (.cells #[.int .i64 (k : Int)] 3)).heap.size) := by unfold Hid; rw [World.size_alloc]; exact Nat.le_succ_of_le HB7.out.size
                obtain ⟨X, hX⟩ : ∃ X, Hid (cellsI (whF P k) = X) := ⟨_, rfl⟩
                obtain ⟨nn, hnn⟩ : ∃ nn, Hid ((whF P k).length = nn) := ⟨_, rfl⟩
                rw [hX.out, hnn.out] at OA
                rw [hnn.out] at HLm HLb
                clear he hpi hwl
                go_wp2_with (at_builtin; refine wpList_append_own_at _ rfl (.tmp 106) (.tmp 108) 85 rfl V6.heap.size 3 i3 (.int .i64 0) 1 8 Tryz.underlying85 hi3 hz30 hz31 hz32 rfl (by decide) _ nn X rfl OA.out ⟨V7.heap.size, 0, none⟩ 1 1 (cellsI [((k : Nat) : Int)]) rfl rfl NW.out cellsI_one HLm.out HLb.out HWS.out ?_; intro v' w9 hown hgrow _ hat)
                have HB9 : Hid (Below V6.heap.size V6 w9) := (HB7.out.alloc HB7.out.size _).grown hgrow HWS.out (fun g e => (OA.out.lt g e).1)
                have HO9 : Hid (w9.ownsRow V6.heap.size 3 1 v' (whF P (k + 1)).length (cellsI (whF P (k + 1)))) := by
                  unfold Hid
                  rw [hW.out, List.length_append, hnn.out]
                  have e1 : cellsI (whF P k ++ [((k : Nat) : Int)]) = X ++ cellsI [((k : Nat) : Int)] := by rw [← hX.out]; simp [cellsI]
                  rw [e1]
                  exact hown
                exact ⟨⟨k + 1, by omega, by go_num, HB9, HO9⟩, by simp [nT]; omega⟩
              · have heb : (y.toList == s.toList) = false := Bool.eq_false_iff.2 (fun e => he (toList_eq e))
                have HO9 : Hid (V7.ownsRow V6.heap.size 3 1 u13 (whF P (k + 1)).length (cellsI (whF P (k + 1)))) := by
                  unfold Hid
                  rw [whF_no (fun e => he (hpi.2 e))]
                  exact HO7.out
                clear he hpi hwl
                go_wp2_with fail
                exact ⟨⟨k + 1, by omega, by go_num, HB7, HO9⟩, by simp [nT]; omega⟩
            · obtain rfl : k = K := by omega
              have HB57 : Hid (Below W5.heap.size W5 V7) := HB6.out.trans (HB7.out.mono HB6.out.size)
              obtain ⟨pw, cw, rfl, hiw⟩ := ints_own HO7.out
              have HIW := Lib.hid hiw
              have hkl := whF_len P k
              have HBF := Lib.hid (BK.out.below HB57.out).l
              have hFI := find_any r0 r1 r2 s0 s1 s2 0 M (fl.map Prod.fst) ((m : Int) + 1) V7 (by rw [List.length_map, HFL.out]; exact HLB.out) HBF.out.1
              rw [List.length_map, HFL.out] at hFI
              have FI := Lib.hid hFI
              obtain ⟨a0, a1, a2, b0, b1, b2⟩ := XB.out V7 HB57.out
              obtain ⟨zs, hzs⟩ : ∃ zs, whF P k = zs := ⟨_, rfl⟩
              rw [hzs] at HIW HWP hkl
              rw [hzs]
              have HKL : Hid (zs.length ≤ 5) := Nat.le_trans hkl h5
              obtain ⟨nz, hnz⟩ : ∃ nz, Hid (zs.length = nz) := ⟨_, rfl⟩
              rw [hnz.out]
              have gm1 := i64n (m + 1) (Nat.le_trans (Nat.succ_le_of_lt hlt) (Nat.le_trans h8 (by decide)))
              have gm2 := w64n (m + 1) (Nat.le_trans (Nat.succ_le_of_lt hlt) (Nat.le_trans h8 (by decide)))
              have gm3 : ((m + 1 : Nat) : Int) = (m : Int) + 1 := rfl
              rw [gm3] at gm1 gm2
              clear hFI hkl hzs hiw HO7 gm3 hlt2 hk
              go_wp2_with fail
              clear gm1 gm2 a0 a1 a2 b0 b1 b2
              refine FI.out.mono ?_
              rintro e w8 ⟨hb8, hres⟩
              have HB8 : Hid (Below W5.heap.size W5 w8) := HB57.out.trans (hb8.mono HB57.out.size)
              have HB78 := Lib.hid hb8
              have HRES := Lib.hid hres
              clear hb8 hres FI
              rcases HRES.out with ⟨j9, hj9, hn9, rfl⟩ | ⟨hno, rfl⟩
              · rw [List.length_map] at hj9
                rw [fst_at hj9] at hn9 ⊢
                obtain ⟨i9, hi9, q1, q2, q3, q4⟩ := BN.out.i1 j9 hj9
                obtain rfl : i9 = m := by rw [hn9] at q1; omega
                have hcc := HBF.out.2 j9 hj9
                obtain ⟨fn, fq, fc, fw, cp, cn, cc, rs, ys, hf⟩ := fc_cases (fl.getD j9 default)
                rw [hf] at q3 q4 hcc hn9 ⊢
                dsimp only at q3 q4 hcc hn9
                rw [HWP.out] at q3 q4
                have HCC := Lib.hid hcc
                have HQ3 := Lib.hid q3
                have HQ4 := Lib.hid q4
                clear hf hj9 q1 q2 q3 q4 hcc hi9 HRES
                unfold flV
                dsimp only
                obtain ⟨fl9, hfl9⟩ : ∃ n, fw.length = n := ⟨_, rfl⟩
                rw [hfl9]
                have HAL : Hid (Below w8.heap.size w8 (w8.alloc (.cells #[.int .i64 fn, .slice fq fl9 fc, .slice cp cn cc, .bool rs] 87))) := below_alloc1 _ _
                have y2 := nw_at w8 #[.int .i64 fn, .slice fq fl9 fc, .slice cp cn cc, .bool rs] 87 2 _ rfl
                have y3 := nw_at w8 #[.int .i64 fn, .slice fq fl9 fc, .slice cp cn cc, .bool rs] 87 3 _ rfl
                obtain ⟨Wa, hWa⟩ : ∃ Wa, Hid (w8.alloc (.cells #[.int .i64 fn, .slice fq fl9 fc, .slice cp cn cc, .bool rs] 87) = Wa) := ⟨_, rfl⟩
                rw [hWa.out] at HAL y2 y3
                have HB9 : Hid (Below W5.heap.size W5 Wa) := HB8.out.trans (HAL.out.mono HB8.out.size)
                have HB79 : Hid (Below V7.heap.size V7 Wa) := HB78.out.trans (HAL.out.mono HB78.out.size)
                clear hn9 hfl9
                by_cases hz : zs = []
                · have hrs := HQ4.out hz
                  subst hrs
                  obtain rfl : nz = 0 := by rw [← hnz.out, hz]; rfl
                  clear hz
                  as_aux_lemma =>
                    go_upto_region 26 with (fail)
                    rw [hWa.out]
                    go_wp2_with fail
                    exact ⟨⟨i9 + 1, by omega, by go_num, HB9⟩, by simp [nT]; omega⟩
                · obtain ⟨hrs, hys⟩ := HQ3.out hz
                  subst hrs
                  have hnz0 : 0 < nz := by rw [← hnz.out]; exact List.length_pos_iff.2 hz
                  have hnzI : (0 : Int) < (nz : Int) := by omega
                  have hnzE : ((nz : Int) == 0) = false := by rw [beq_eq_false_iff_ne]; omega
                  obtain ⟨hc1, hc2⟩ := HCC.out
                  rw [hys] at hc1 hc2
                  rw [hnz.out] at hc2
                  subst hc2
                  have hSI := sameInts cp pw cc cw zs Wa (Nat.le_trans HKL.out (by decide)) (hc1.below HB79.out) (HIW.out.below HB79.out)
                  rw [hnz.out] at hSI
                  have SI := Lib.hid hSI
                  clear hz hSI hc1 hys hnz0
                  as_aux_lemma =>
                    go_upto_region 26 with (fail)
                    rw [hWa.out]
                    go_wp2_with fail
                    refine SI.out.mono ?_
                    rintro e w10 ⟨rfl, hb10⟩
                    have HB10 : Hid (Below W5.heap.size W5 w10) := HB9.out.trans (hb10.mono HB9.out.size)
                    clear hb10
                    go_wp2_with fail
                    exact ⟨⟨i9 + 1, by omega, by go_num, HB10⟩, by simp [nT]; omega⟩
              · have hz : zs = [] := Classical.byContradiction fun hz => by
                  obtain ⟨j9, hj9, hn9⟩ := BN.out.i2 m (by rw [hN.out]; exact hlt) (by rw [HWP.out]; exact hz)
                  exact hno j9 (by rw [List.length_map]; exact hj9) (by rw [fst_at hj9]; exact hn9)
                obtain rfl : nz = 0 := by rw [← hnz.out, hz]; rfl
                have HAL : Hid (Below w8.heap.size w8 (w8.alloc (.cells #[.int .i64 0, .slice none 0 0, .slice none 0 0, .bool false] 87))) := below_alloc1 _ _
                have HB9 : Hid (Below W5.heap.size W5 (w8.alloc (.cells #[.int .i64 0, .slice none 0 0, .slice none 0 0, .bool false] 87))) := HB8.out.trans (HAL.out.mono HB8.out.size)
                clear hz hno HRES
                as_aux_lemma =>
                  go_wp2_with fail
                  exact ⟨⟨m + 1, by omega, by go_num, HB9⟩, by simp [nT]; omega⟩
        · obtain rfl : m = N := by omega
          have HB9 : Hid (Below w.heap.size w V6) := HB5.out.trans (HB6.out.mono HB5.out.size)
          have SN := Lib.hid (sanity_any V6 (HE.out.next HB9.out))
          as_aux_lemma =>
            go_wp2_with fail
            refine SN.out.mono ?_
            rintro e w9 ⟨rfl, hb⟩
            have HB10 : Hid (Below w.heap.size w w9) := HB9.out.trans (hb.mono HB9.out.size)
            clear hb
            go_wp2_with fail
            go_ret
            exact ⟨rfl, HB10.out⟩
theorem sheetNothingElse_law2 (p : Option Addr) (cap : Nat) (ls : List GL) (q : Option Addr) (cap2 : Nat) (gs : List GF) (w : World) (he : Env w) (hl : ls.length ≤ maxLen) (hs : ∀ j, j < ls.length → (ls.getD j default).small) (hp : ListsAt w p ls) (hg : gs.length ≤ maxLen) (hf : ∀ j, (gs.getD j default).fs.length ≤ maxLen) (hq : FatessAt w q gs) :
    Calls Tryz.prog 14 #[.slice p ls.length cap, .slice q gs.length cap2] w fun e w' => e = .returned (.bool true) ∧ Below w.heap.size w w' := sheetNothingElse_law p q cap cap2 ls gs w he hl hg hf hs hp hq
end Go.Proofs.YtmfhpddeclggfaaGreatDoor
