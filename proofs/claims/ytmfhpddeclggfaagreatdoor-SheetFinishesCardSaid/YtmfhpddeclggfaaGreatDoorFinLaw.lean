import Derived.RangeFuncNested
import Derived.RangeFuncBound
import Derived.RangeFuncCalls
import Derived.RangeFuncLeaves
import Derived.Test.YtmfhpddeclggfaaGreatDoorEe
import Derived.RangeFuncBox
import Derived.Shelf.Abstract
import Derived.Shelf.RegionOpen
import Derived.OwnWalkIn
import Derived.TacticsInMore
import Derived.LoopNIn
import Derived.LoopIn
import Derived.Maps.AppendAt
import Derived.Maps.OwnIn
import Derived.RegionIn
import Derived.BigRegionIn
import Derived.Stop.RegionWithIn
import Derived.WalkKit
import Derived.Test.YtmfhpddeclggfaaGreatDoorDb
import Derived.Test.YtmfhpddeclggfaaGreatDoorEc
import Derived.Test.YtmfhpddeclggfaaGreatDoorEb
import Derived.LoopTactic
import Derived.WalkSpells
import Derived.WalkLawsBesides
import Derived.Lib.Hide
import Derived.BigQuiet
import Derived.IntWalk
import Derived.Deep.DeepMust
import Derived.WalkSmall
import Derived.StillTailTactics
import Derived.Deep.RegionLaw
import Derived.Deep.QuietTactic
import Derived.Deep.Cut
import Derived.Deep.DeepCutAuto
import Derived.Deep.LoopGhost
import Derived.Laws.AppendOwn
namespace Go.Proofs.YtmfhpddeclggfaaGreatDoor
open Go.RowKit
/-! The law SheetFinishes. -/
open Go.Shelf
/-- A book in its box. -/
structure BX (w W : World) (a b c : Value) : Prop where
  bel : Below w.heap.size w W
  lt : w.heap.size < W.heap.size
  c0 : W.cell? ⟨w.heap.size, 0, none⟩ = some a
  c1 : W.cell? ⟨w.heap.size, 1, none⟩ = some b
  c2 : W.cell? ⟨w.heap.size, 2, none⟩ = some c
theorem BX.start (w : World) (a b c : Value) (t : TypeId) : BX w (w.alloc (.cells #[a, b, c] t)) a b c :=
  ⟨below_alloc1 _ _, by simp, nw_at w _ t 0 _ rfl, nw_at w _ t 1 _ rfl, nw_at w _ t 2 _ rfl⟩
theorem BX.keep {w W W' : World} {a b c : Value} (h : BX w W a b c) (hb : Below W.heap.size W W') : BX w W' a b c :=
  ⟨h.bel.trans (hb.mono h.bel.size), Nat.lt_of_lt_of_le h.lt hb.size, (hb.cell (p := ⟨w.heap.size, 0, none⟩) h.lt).trans h.c0, (hb.cell (p := ⟨w.heap.size, 1, none⟩) h.lt).trans h.c1, (hb.cell (p := ⟨w.heap.size, 2, none⟩) h.lt).trans h.c2⟩
theorem lists_at {W : World} {p : Option Addr} {gs : List GL} (h : ListsAt W p gs) {k : Nat} (hk : k < gs.length) : ∃ b o, p = some ⟨b, o, none⟩ ∧ b < W.heap.size ∧ W.cell? ⟨b, o + k, none⟩ = some (.slice (gs.getD k default).p (gs.getD k default).ws.length (gs.getD k default).cap) ∧ StrsAt W (gs.getD k default).p (gs.getD k default).ws := by
  obtain ⟨h | ⟨b, o, h1, h2, h3⟩, h4⟩ := h
  · rw [h] at hk; exact absurd hk (by simp)
  · exact ⟨b, o, h1, h2, h3 k hk, h4 k hk⟩
theorem words_eq {gs hs : List GL} (h : gs.map GL.ws = hs.map GL.ws) {k : Nat} (hk : k < gs.length) : (gs.getD k default).ws = (hs.getD k default).ws := by
  have hl : gs.length = hs.length := by simpa using congrArg List.length h
  have h1 := congrArg (fun l => l[k]?) h
  simp only [List.getElem?_map] at h1
  rw [List.getElem?_eq_getElem hk, List.getElem?_eq_getElem (by omega)] at h1
  rw [List.getD, List.getD, List.getElem?_eq_getElem hk, List.getElem?_eq_getElem (by omega)]
  simpa using h1
theorem whL_small {n1 n2 : Nat} {fs : List FL} {gs : List GL} (h : gs.map GL.ws = whL n1 n2 fs) (hz : ∀ j, j < fs.length → (fs.getD j default).g.small) (k : Nat) (hk : k < gs.length) : (gs.getD k default).ws.length ≤ maxLen := by
  have h1 := congrArg (fun l => l[k]?) h
  simp only [List.getElem?_map] at h1
  rw [List.getElem?_eq_getElem hk] at h1
  unfold whL at h1
  by_cases h0 : whErr n1 n2 fs = 0
  · rw [if_pos h0, List.getElem?_map] at h1
    cases hf : fs[k]? with
    | none => rw [hf] at h1; simp at h1
    | some f =>
      rw [hf] at h1
      have hkf : k < fs.length := (List.getElem?_eq_some_iff.1 hf).1
      have h2 := hz k hkf
      rw [List.getD, hf] at h2
      rw [List.getD, List.getElem?_eq_getElem hk]
      simp only [Option.map_some, Option.some.injEq] at h1
      simp only [Option.getD_some] at h2 ⊢
      rw [h1]
      exact h2.1
  · rw [if_neg h0] at h1; simp at h1
set_option maxRecDepth 100000 in
set_option maxHeartbeats 8000000 in
theorem sheetFinishes_law (p : Option Addr) (c : Nat) (fs : List FL) (q1 q2 : Option Addr) (n1 c1 n2 c2 : Nat) (w : World) (he : Env w) (hl : fs.length ≤ maxLen) (hz : ∀ j, j < fs.length → (fs.getD j default).g.small) (hb : ∀ j, (fs.getD j default).g.ws.length * 16 ≤ 140737488355328) (hp : FoundsAt w p fs) :
    Calls Tryz.prog 10 #[bookV p fs.length c q1 n1 c1 q2 n2 c2] w fun e w' => e = .returned (.bool true) ∧ Below w.heap.size w w' := by
  have HE := Lib.hid he
  have HP := Lib.hid hp
  have HZ := Lib.hid hz
  have HB := Lib.hid hb
  obtain ⟨N, hN⟩ : ∃ N, Hid (fs.length = N) := ⟨_, rfl⟩
  have X0 := Lib.hid (BX.start w (.slice p N c) (.slice q1 n1 c1) (.slice q2 n2 c2) 78)
  have CW : Hid (∀ W, N ≤ 1000000 → FoundsAt W p fs → Calls Tryz.prog 56 #[.agg #[.slice p N c, .slice q1 n1 c1, .slice q2 n2 c2]] W fun e w' => ∃ (q : Option Addr) (cap : Nat) (gs : List GL), e = .returned (.tuple #[.slice q gs.length cap, .int .i64 (whErr n1 n2 fs)]) ∧ Below W.heap.size W w' ∧ ListsAt w' q gs ∧ gs.map GL.ws = whL n1 n2 fs) := fun W h1 h2 => by
    have := sWhole p c fs q1 q2 n1 c1 n2 c2 W (by rw [hN.out]; exact h1) HB.out h2
    rwa [hN.out] at this
  have RW : Hid (∀ W, N ≤ 1000000 → FoundsAt W p fs → Calls Tryz.prog 57 #[.agg #[.slice p N c, .slice q1 n1 c1, .slice q2 n2 c2]] W fun e w' => ∃ (q : Option Addr) (cap : Nat) (gs : List GL), e = .returned (.agg #[.slice q gs.length cap, .int .i64 (whErr n1 n2 fs)]) ∧ Below W.heap.size W w' ∧ ListsAt w' q gs ∧ gs.map GL.ws = whL n1 n2 fs) := fun W h1 h2 => by
    have := rWhole p c fs q1 q2 n1 c1 n2 c2 W (by rw [hN.out]; exact h1) h2
    rwa [hN.out] at this
  obtain ⟨FS, FE, HF1, HF2⟩ : ∃ (s : ByteArray) (er : Int), Hid (waRes (fs.map FL.g) = .tuple #[.string s, .int .i64 er]) ∧ Hid (shAgg (fs.map FL.g) = .agg #[.string s, .int .i64 er]) := by
    unfold waRes shAgg Hid
    by_cases h : waErr (fs.map FL.g) = 0
    · rw [if_pos h, if_pos h]; exact ⟨_, _, rfl, rfl⟩
    · rw [if_neg h, if_neg h]; exact ⟨_, _, rfl, rfl⟩
  have CF : Hid (∀ W, N ≤ 1000000 → FoundsAt W p fs → Env W → Calls Tryz.prog 58 #[.agg #[.slice p N c, .slice q1 n1 c1, .slice q2 n2 c2]] W fun e w' => e = .returned (.tuple #[.string FS, .int .i64 FE]) ∧ Below W.heap.size W w') := fun W h1 h2 h3 => by
    have := sFair p c fs q1 q2 n1 c1 n2 c2 W (by rw [hN.out]; exact h1) HZ.out h2 h3
    rwa [hN.out, HF1.out] at this
  have RFr : Hid (∀ W, N ≤ 400 → FoundsAt W p fs → Calls Tryz.prog 59 #[.agg #[.slice p N c, .slice q1 n1 c1, .slice q2 n2 c2]] W fun e w' => e = .returned (.agg #[.string FS, .int .i64 FE]) ∧ Below W.heap.size W w') := fun W h1 h2 => by
    have := rFair p c fs q1 q2 n1 c1 n2 c2 W (by rw [hN.out]; exact h1) HZ.out h2
    rwa [hN.out, HF2.out] at this
  have SN : Hid (∀ W, Env W → Calls Tryz.prog 19 #[] W fun e w' => e = .returned (.bool true) ∧ Below W.heap.size W w') := fun W h => sanity_any W h
  unfold bookV
  rw [hN.out] at hl ⊢
  unfold maxLen at hl
  clear he hp hz hb HF1 HF2
  go_enter Tryz.func10, Tryz.ntmps10
  go_wp2_with fail
  go_loopw [3, 16] (fun v i wr => ∃ (k : Nat) (m : Int), k ≤ N ∧ v = .int .i64 m ∧ i = .int .i64 k ∧ Hid (BX w wr (.slice p N c) (.slice q1 n1 c1) (.slice q2 n2 c2))) (fun _ i _ => N - (intOf i).toNat)
  case atStart => exact ⟨0, 0, Nat.zero_le _, rfl, rfl, X0⟩
  case round =>
    clear X0
    obtain ⟨k, m, hk, rfl, rfl, X⟩ := hrel
    by_cases hlt : k < N
    · as_aux_lemma =>
      have hkl : k < fs.length := by rw [hN.out]; exact hlt
      obtain ⟨n, q, c0, ws, cp, cn, cc, rs, hg⟩ := fl_cases (fs.getD k default)
      obtain ⟨b, o, rfl, hbl, a0, a1, a2, a3, hst⟩ := fd_at (HP.out.below X.out.bel) hkl hg
      have hsm := HZ.out k hkl
      rw [hg] at hsm
      have hlt' : (k : Int) < (N : Int) := by omega
      have SZ : Hid (∀ j, Calls Tryz.prog 30 #[.slice q ws.length c0] ((wr.alloc (.cells #[.int .i64 n, .slice q ws.length c0, .slice cp cn cc, .bool rs] 87)).drewN j) fun e w' => e = .returned (.int .i64 (wrap64 (sumL ws))) ∧ w' = (wr.alloc (.cells #[.int .i64 n, .slice q ws.length c0, .slice cp cn cc, .bool rs] 87)).drewN j) := fun j =>
        (size_any q c0 ws _ hsm.1 hsm.2 (hst.below (below_drewN (below_alloc1 _ _) j))).mono fun e w' h => ⟨h.1, h.2.symm⟩
      have X1 := Lib.hid (X.out.keep (below_alloc1 wr (.cells #[.int .i64 n, .slice q ws.length c0, .slice cp cn cc, .bool rs] 87)))
      obtain ⟨L, hL⟩ : ∃ L, Hid (ws.length = L) := ⟨_, rfl⟩
      obtain ⟨s, hs⟩ : ∃ s, Hid (wrap64 (sumL ws) = s) := ⟨_, rfl⟩
      rw [hL.out] at a1 X1 SZ
      rw [hs.out] at SZ
      clear hsm hst hg hbl
      go_wp2_with fail
      go_quiet ((go_at_call 30; with_reducible exact Calls.quiet_of_same (SZ.out _)))
      have X2 : Hid (BX w ((wr.alloc (.cells #[.int .i64 n, .slice q L c0, .slice cp cn cc, .bool rs] 87)).drewN nq) (.slice (some ⟨b, o, none⟩) N c) (.slice q1 n1 c1) (.slice q2 n2 c2)) := X1.out.keep (below_drewN (Below.refl _ _) nq)
      clear X1 SZ X a0 a1 a2 a3
      go_wp2_with fail
      exact ⟨⟨k + 1, _, by omega, rfl, by go_num, X2⟩, by simp [intOf]; omega⟩
    · obtain rfl : k = N := by omega
      have b0 := X.out.c0
      have b1 := X.out.c1
      have b2 := X.out.c2
      by_cases h60 : 60 < k ∨ 4000 < m
      · have SN1 := Lib.hid (SN.out wr (HE.out.next X.out.bel))
        by_cases h61 : 60 < k
        · as_aux_lemma =>
          have h61' : (60 : Int) < (k : Int) := by omega
          clear h60 b1 b2 SN CW RW CF RFr
          go_wp2_with fail
          refine SN1.out.mono ?_
          rintro e w6 ⟨rfl, hb6⟩
          have B6 : Hid (Below w.heap.size w w6) := X.out.bel.trans (hb6.mono X.out.bel.size)
          clear hb6
          go_wp2_with fail
          go_ret
          exact ⟨rfl, B6.out⟩
        · as_aux_lemma =>
          have h61' : ¬ (60 : Int) < (k : Int) := by omega
          have h62 : 4000 < m := by omega
          clear h60 b1 b2 SN CW RW CF RFr
          go_wp2_with fail
          refine SN1.out.mono ?_
          rintro e w6 ⟨rfl, hb6⟩
          have B6 : Hid (Below w.heap.size w w6) := X.out.bel.trans (hb6.mono X.out.bel.size)
          clear hb6
          go_wp2_with fail
          go_ret
          exact ⟨rfl, B6.out⟩
      · as_aux_lemma =>
        have h61 : ¬ (60 : Int) < (k : Int) := by omega
        have h62 : ¬ 4000 < m := by omega
        have HK60 : Hid (k ≤ 60) := by unfold Hid; omega
        have C1 := Lib.hid (CW.out wr (by have := HK60.out; omega) (HP.out.below X.out.bel))
        clear h60 CW
        go_wp2_with fail
        refine C1.out.mono ?_
        rintro e w2 ⟨g1, cg1, gs, rfl, hb2, hl2, hm2⟩
        have X2 := Lib.hid (X.out.keep hb2)
        have L2 := Lib.hid hl2
        have M2 := Lib.hid hm2
        have b0 := X2.out.c0
        have b1 := X2.out.c1
        have b2 := X2.out.c2
        have C2 := Lib.hid (RW.out w2 (by have := HK60.out; omega) (HP.out.below X2.out.bel))
        clear hb2 hl2 hm2 C1 RW X
        go_wp2_with fail
        refine C2.out.mono ?_
        rintro e w3 ⟨g2, cg2, hs, rfl, hb3, hl3, hm3⟩
        have HLE : Hid (hs.length = gs.length) := by unfold Hid; have := congrArg List.length (hm3.trans M2.out.symm); simpa using this
        rw [HLE.out]
        obtain ⟨G, hG⟩ : ∃ G, Hid (gs.length = G) := ⟨_, rfl⟩
        obtain ⟨er, her⟩ : ∃ er, Hid (whErr n1 n2 fs = er) := ⟨_, rfl⟩
        have HGb : Hid (G ≤ 60) := by
          have h1 := congrArg List.length M2.out
          rw [List.length_map, hG.out] at h1
          have h2 : (whL n1 n2 fs).length ≤ fs.length := by unfold whL; split <;> simp
          rw [hN.out] at h2
          have h3 := HK60.out
          unfold Hid; omega
        rw [hG.out, her.out]
        have X3 := Lib.hid ((X2.out.keep hb3).keep (below_alloc1 w3 (.cells #[.slice g2 G cg2, .int .i64 er] 91)))
        have L3 := Lib.hid ((L2.out.below hb3).below (below_alloc1 w3 (.cells #[.slice g2 G cg2, .int .i64 er] 91)))
        have K3 := Lib.hid (hl3.below (below_alloc1 w3 (.cells #[.slice g2 G cg2, .int .i64 er] 91)))
        have M3 : Hid (gs.map GL.ws = hs.map GL.ws) := M2.out.trans hm3.symm
        have S3 : Hid (∀ j, j < gs.length → (gs.getD j default).ws.length ≤ maxLen) := fun j hj => whL_small M2.out HZ.out j hj
        have Z3 := Lib.hid (K2.new w3 (.slice g2 G cg2) (.int .i64 er) 91)
        have b0 := X3.out.c0
        have b1 := X3.out.c1
        have b2 := X3.out.c2
        have C3 := Lib.hid (CF.out _ (by have := HK60.out; omega) (HP.out.below X3.out.bel) (HE.out.next X3.out.bel))
        clear hb3 hl3 hm3 C2 CF X2 L2 M2
        go_wp2_with fail
        refine C3.out.mono ?_
        rintro e w4 ⟨rfl, hb4⟩
        have X4 := Lib.hid (X3.out.keep hb4)
        have L4 := Lib.hid (L3.out.below hb4)
        have K4 := Lib.hid (K3.out.below hb4)
        have Z4 := Lib.hid (Z3.out.keep hb4)
        have b0 := X4.out.c0
        have b1 := X4.out.c1
        have b2 := X4.out.c2
        have C4 := Lib.hid (RFr.out _ (by have := HK60.out; omega) (HP.out.below X4.out.bel))
        clear hb4 C3 RFr X3 L3 K3 Z3
        go_wp2_with fail
        refine C4.out.mono ?_
        rintro e w5 ⟨rfl, hb5⟩
        have X5 := Lib.hid ((X4.out.keep hb5).keep (below_alloc1 w5 (.cells #[.string FS, .int .i64 FE] 32)))
        have L5 := Lib.hid ((L4.out.below hb5).below (below_alloc1 w5 (.cells #[.string FS, .int .i64 FE] 32)))
        have K5 := Lib.hid ((K4.out.below hb5).below (below_alloc1 w5 (.cells #[.string FS, .int .i64 FE] 32)))
        have Z5 := Lib.hid ((Z4.out.keep hb5).keep (below_alloc1 w5 (.cells #[.string FS, .int .i64 FE] 32)))
        have z0 := Z5.out.2.1
        have z1 := Z5.out.2.2
        clear hb5 C4 X4 L4 K4 Z4
        go_wp2_with fail
        go_loopw [81] (fun i wr => ∃ j : Nat, j ≤ G ∧ i = .int .i64 j ∧ Hid (Below (w5.alloc (.cells #[.string FS, .int .i64 FE] 32)).heap.size (w5.alloc (.cells #[.string FS, .int .i64 FE] 32)) wr)) (fun i _ => G - (intOf i).toNat)
        case atStart => exact ⟨0, Nat.zero_le _, rfl, Below.refl _ _⟩
        case round =>
         as_aux_lemma =>
          obtain ⟨j, hj, rfl, B⟩ := hrel
          have hgb := HGb.out
          by_cases hlt2 : j < G
          · have hjg : j < gs.length := by rw [hG.out]; exact hlt2
            obtain ⟨d1, o1, rfl, hd1, a1, s1⟩ := lists_at (L5.out.below B.out) hjg
            obtain ⟨d2, o2, rfl, hd2, a2, s2⟩ := lists_at (K5.out.below B.out) (k := j) (by rw [HLE.out]; exact hjg)
            have e1 := words_eq M3.out hjg
            rw [← e1] at a2 s2
            have hsm := S3.out j hjg
            obtain ⟨ws, hws⟩ : ∃ ws, (gs.getD j default).ws = ws := ⟨_, rfl⟩
            obtain ⟨p1, hp1⟩ : ∃ x, (gs.getD j default).p = x := ⟨_, rfl⟩
            obtain ⟨k1, hk1⟩ : ∃ x, (gs.getD j default).cap = x := ⟨_, rfl⟩
            obtain ⟨p2, hp2⟩ : ∃ x, (hs.getD j default).p = x := ⟨_, rfl⟩
            obtain ⟨k2, hk2⟩ : ∃ x, (hs.getD j default).cap = x := ⟨_, rfl⟩
            rw [hp1, hws, hk1] at a1
            rw [hp1, hws] at s1
            rw [hp2, hws, hk2] at a2
            rw [hp2, hws] at s2
            rw [hws] at hsm
            have CS : Hid (∀ W, Below wr.heap.size wr W → Calls Tryz.prog 44 #[.slice p1 ws.length k1, .slice p2 ws.length k2] W fun e w' => e = .returned (.bool true) ∧ Below W.heap.size W w') := fun W hbW => by
              have := sameTexts p1 p2 k1 k2 ws ws W hsm (s1.below hbW) (s2.below hbW)
              rwa [sameTs_self] at this
            have hlt2' : (j : Int) < (G : Int) := by omega
            have hj0 : (0 : Int) ≤ (j : Int) := by omega
            have Z6 := Z5.out.keep B.out
            have z0 := Z6.2.1
            obtain ⟨ln, hln⟩ : ∃ ln, ws.length = ln := ⟨_, rfl⟩
            rw [hln] at a1 a2 CS
            clear hws hp1 hk1 hp2 hk2 hsm e1 s1 s2 hln hd1 hd2 Z6
            go_wp2_with fail
            go_region_with (refine (CS.out _ (Below.refl _ _).drew).mono ?_; rintro e w6 ⟨rfl, hb6⟩)
            all_goals
              have B6 : Hid (Below (w5.alloc (.cells #[.string FS, .int .i64 FE] 32)).heap.size (w5.alloc (.cells #[.string FS, .int .i64 FE] 32)) w6) := (B.out.drew).trans (hb6.mono B.out.size)
              clear hb6
              go_wp2
              exact ⟨⟨j + 1, by omega, by go_num, B6⟩, by simp [intOf]; omega⟩
          · obtain rfl : j = G := by omega
            have B7 : Hid (Below w.heap.size w wr) := X5.out.bel.trans (B.out.mono X5.out.bel.size)
            have SN1 := Lib.hid (SN.out wr (HE.out.next B7.out))
            go_wp2_with fail
            refine SN1.out.mono ?_
            rintro e w8 ⟨rfl, hb8⟩
            have B8 : Hid (Below w.heap.size w w8) := B7.out.trans (hb8.mono B7.out.size)
            clear hb8
            go_wp2_with fail
            go_ret
            exact ⟨rfl, B8.out⟩
end Go.Proofs.YtmfhpddeclggfaaGreatDoor
