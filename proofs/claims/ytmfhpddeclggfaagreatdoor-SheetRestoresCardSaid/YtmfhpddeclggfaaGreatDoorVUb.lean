import Derived.Test.YtmfhpddeclggfaaGreatDoorVTd
import Derived.Test.YtmfhpddeclggfaaGreatDoorVTd0
import Derived.Test.YtmfhpddeclggfaaGreatDoorVTb
import Derived.Test.YtmfhpddeclggfaaGreatDoorVIia
import Derived.Test.YtmfhpddeclggfaaGreatDoorTf
import Derived.Test.YtmfhpddeclggfaaGreatDoorVTc
import Derived.Test.YtmfhpddeclggfaaGreatDoorVTa
import Derived.Test.YtmfhpddeclggfaaGreatDoorVIfb
import Derived.Test.YtmfhpddeclggfaaGreatDoorVc
import Derived.Test.YtmfhpddeclggfaaGreatDoorKf
import Derived.Test.YtmfhpddeclggfaaGreatDoorOm
import Derived.Lib.ConvBytes
import Derived.Laws.IdiomStrings
import Derived.WalkKit
import Derived.LoopTactic
import Derived.WalkSpells
import Derived.WalkLawsBesides
import Derived.Lib.Hide
import Derived.BigQuiet
import Derived.IntWalk
import Derived.Deep.DeepMust
import Derived.WalkSmall
import Derived.StillTailTactics
import Derived.Deep.RegionLaw
import Derived.Deep.QuietTactic
import Derived.Deep.Cut
import Derived.Deep.DeepCutAuto
import Derived.Deep.LoopGhost
import Derived.Deep.RegionHeld3
import Derived.Laws.OwnMore
namespace Go.Proofs.YtmfhpddeclggfaaGreatDoor
open Go.RowKit
/-! Whether a story is small. -/
structure SmF (gs : List GF) : Prop where
  h : ∀ j, ∀ f ∈ (gs.getD j default).fs, f.pl.length ≤ 40
def SmP (w : World) (ls : List GL) (gs : List GF) (e : Ending) (w' : World) : Prop :=
  Below w.heap.size w w' ∧ ∃ b, e = .returned (.bool b) ∧ (b = true → ls.length ≤ 8 ∧ gs.length ≤ 5 ∧ ∀ j, j < gs.length → ∀ i, i < (gs.getD j default).fs.length → ((gs.getD j default).fs.getD i default).pl.length ≤ 40)
set_option maxRecDepth 100000 in
set_option maxHeartbeats 4000000 in
theorem small_any (p q : Option Addr) (cap cap2 : Nat) (ls : List GL) (gs : List GF) (w : World) (hl : ls.length ≤ maxLen) (hg : gs.length ≤ maxLen) (hf : ∀ j, (gs.getD j default).fs.length ≤ maxLen) (hs : ∀ j, j < ls.length → (ls.getD j default).small) (hp : ListsAt w p ls) (hq : FatessAt w q gs) :
    Calls Tryz.prog 66 #[.slice p ls.length cap, .slice q gs.length cap2] w (SmP w ls gs) := by
  have HP := Lib.hid hp
  have HQ := Lib.hid hq
  have HS := Lib.hid hs
  have HF := Lib.hid hf
  obtain ⟨N, hN⟩ : ∃ N, Hid (ls.length = N) := ⟨_, rfl⟩
  obtain ⟨K, hK⟩ : ∃ K, Hid (gs.length = K) := ⟨_, rfl⟩
  rw [hN.out] at hl ⊢
  rw [hK.out] at hg ⊢
  replace hl : N ≤ 9223372036854775807 := by unfold maxLen at hl; omega
  replace hg : K ≤ 9223372036854775807 := by unfold maxLen at hg; omega
  clear hp hq hs hf
  have HR : Hid (Below w.heap.size w w) := Below.refl _ _
  by_cases h8 : (8 : Int) < (N : Int)
  · as_aux_lemma =>
    go_enter Tryz.func66, Tryz.ntmps66
    go_wp2_with fail
    go_ret
    exact ⟨HR.out, _, rfl, fun e => by cases e⟩
  by_cases h5 : (5 : Int) < (K : Int)
  · as_aux_lemma =>
    go_enter Tryz.func66, Tryz.ntmps66
    go_wp2_with fail
    go_ret
    exact ⟨HR.out, _, rfl, fun e => by cases e⟩
  go_enter Tryz.func66, Tryz.ntmps66
  go_wp2_with fail
  go_loopw [21] (fun i wr => ∃ k : Nat, k ≤ N ∧ i = .int .i64 k ∧ wr = w) (fun i _ => N - (nT i).toNat)
  case atStart => exact ⟨0, Nat.zero_le _, rfl, rfl⟩
  case round =>
    obtain ⟨k, hk, rfl, rfl⟩ := hrel
    by_cases hlt : k < N
    · obtain ⟨b, o, rfl, hb1, c1, hst⟩ := lists_at HP.out (show k < ls.length by rw [hN.out]; exact hlt)
      obtain ⟨hsm1, hsm2⟩ := HS.out k (by rw [hN.out]; exact hlt)
      have SZ := Lib.hid (size_any (ls.getD k default).p (ls.getD k default).cap (ls.getD k default).ws wr hsm1 hsm2 hst)
      obtain ⟨gw, hgw⟩ : ∃ gw, Hid ((ls.getD k default).ws = gw) := ⟨_, rfl⟩
      obtain ⟨gp, hgp⟩ : ∃ gp, Hid ((ls.getD k default).p = gp) := ⟨_, rfl⟩
      obtain ⟨gc, hgc⟩ : ∃ gc, Hid ((ls.getD k default).cap = gc) := ⟨_, rfl⟩
      rw [hgw.out, hgp.out, hgc.out] at SZ
      rw [hgw.out, hgp.out, hgc.out] at c1
      obtain ⟨z, hz⟩ : ∃ z, wrap64 (sumL gw) = z := ⟨_, rfl⟩
      rw [hz] at SZ
      obtain ⟨gn, hgn⟩ : ∃ gn, gw.length = gn := ⟨_, rfl⟩
      rw [hgn] at SZ c1
      have hlt' : (k : Int) < (N : Int) := by omega
      have hk0 : (0 : Int) ≤ (k : Int) := by omega
      clear hst hsm1 hsm2 hb1 hz hgn
      obtain ⟨t, ht⟩ : ∃ t, IntKind.i64.wrap (z + (gn : Int)) = t := ⟨_, rfl⟩
      by_cases h200 : (200 : Int) < t
      · as_aux_lemma =>
        go_wp2_with fail
        refine SZ.out.mono ?_
        rintro e w2 ⟨rfl, rfl⟩
        go_wp2_with fail
        all_goals first
          | (go_ret; exact ⟨HR.out, _, rfl, fun e => by cases e⟩)
          | exact ⟨⟨k + 1, by omega, by go_num, by first | rfl | trivial⟩, by simp [nT]; omega⟩
      · as_aux_lemma =>
        go_wp2_with fail
        refine SZ.out.mono ?_
        rintro e w2 ⟨rfl, rfl⟩
        go_wp2_with fail
        all_goals first
          | (go_ret; exact ⟨HR.out, _, rfl, fun e => by cases e⟩)
          | exact ⟨⟨k + 1, by omega, by go_num, by first | rfl | trivial⟩, by simp [nT]; omega⟩
    · obtain rfl : k = N := by omega
      obtain ⟨V, rfl⟩ : ∃ V, V = wr := ⟨_, rfl⟩
      go_wp2_with fail
      go_loopw [34] (fun i wx => ∃ m : Nat, m ≤ K ∧ i = .int .i64 m ∧ Hid (Below V.heap.size V wx) ∧ Hid (∀ j, j < m → ∀ i, i < (gs.getD j default).fs.length → ((gs.getD j default).fs.getD i default).pl.length ≤ 40)) (fun i _ => K - (nT i).toNat)
      case atStart => exact ⟨0, Nat.zero_le _, rfl, HR, fun j hj => absurd hj (Nat.not_lt_zero _)⟩
      case round =>
        obtain ⟨m, hm, rfl, HB, HALL⟩ := hrel
        obtain ⟨V1, rfl⟩ : ∃ V1, V1 = wr := ⟨_, rfl⟩
        by_cases hlt2 : m < K
        · obtain ⟨b, o, rfl, hb1, c1, hft⟩ := fatess_at (HQ.out.below HB.out) (show m < gs.length by rw [hK.out]; exact hlt2)
          have HFT := Lib.hid hft
          have hfm := HF.out m
          obtain ⟨g, hgg⟩ : ∃ g, Hid (gs.getD m default = g) := ⟨_, rfl⟩
          rw [hgg.out] at c1 HFT hfm
          obtain ⟨gp, gc, gf⟩ := g
          dsimp only at c1 HFT hfm
          obtain ⟨G, hG⟩ : ∃ G, Hid (gf.length = G) := ⟨_, rfl⟩
          rw [hG.out] at c1 hfm
          replace hfm : G ≤ 9223372036854775807 := by unfold maxLen at hfm; omega
          have hlt2' : (m : Int) < (K : Int) := by omega
          have hm0 : (0 : Int) ≤ (m : Int) := by omega
          have HR1 : Hid (Below V1.heap.size V1 V1) := Below.refl _ _
          clear hb1 hft
          go_wp2_with fail
          go_loopw [40] (fun i wx => ∃ n : Nat, n ≤ G ∧ i = .int .i64 n ∧ Hid (Below V1.heap.size V1 wx) ∧ Hid (∀ i, i < n → (gf.getD i default).pl.length ≤ 40)) (fun i _ => G - (nT i).toNat)
          case atStart => exact ⟨0, Nat.zero_le _, rfl, HR1, fun i hi => absurd hi (Nat.not_lt_zero _)⟩
          case round =>
            obtain ⟨n, hn, rfl, HB2, HA2⟩ := hrel
            obtain ⟨V2, rfl⟩ : ∃ V2, V2 = wr := ⟨_, rfl⟩
            by_cases hlt3 : n < G
            · obtain ⟨b3, o3, rfl, hb3, e0, e1, e2, e3⟩ := fates_at (HFT.out.below HB2.out) (show n < gf.length by rw [hG.out]; exact hlt3)
              obtain ⟨f, hff⟩ : ∃ f, Hid (gf.getD n default = f) := ⟨_, rfl⟩
              have hpn := (HFT.out.2 n (by rw [hG.out]; exact hlt3)).2.pn
              rw [hff.out] at e0 e1 e2 e3 hpn
              obtain ⟨fk, fo, fp, fc, fl, fb⟩ := f
              dsimp only at e0 e1 e2 e3 hpn
              have HF9 : Hid ((gf.getD n default).pl = fl) := by rw [hff.out]; rfl
              obtain ⟨fn, hfn⟩ : ∃ fn, Hid (fl.length = fn) := ⟨_, rfl⟩
              rw [hfn.out] at e2
              clear hpn
              have HAL : Hid (Below V2.heap.size V2 (V2.alloc (.cells #[.int .u8 (fk : Int), .int .u16 (fo : Int), .slice fp fn fc, .int .u8 (fb.toNat : Int)] 194))) := below_alloc1 _ _
              have z2 := nw_at V2 #[.int .u8 (fk : Int), .int .u16 (fo : Int), .slice fp fn fc, .int .u8 (fb.toNat : Int)] 194 2 _ rfl
              obtain ⟨Wa, hWa⟩ : ∃ Wa, Hid (V2.alloc (.cells #[.int .u8 (fk : Int), .int .u16 (fo : Int), .slice fp fn fc, .int .u8 (fb.toNat : Int)] 194) = Wa) := ⟨_, rfl⟩
              rw [hWa.out] at HAL z2
              have HB3 : Hid (Below V1.heap.size V1 Wa) := HB2.out.trans (HAL.out.mono HB2.out.size)
              have hlt3' : (n : Int) < (G : Int) := by omega
              have hn0 : (0 : Int) ≤ (n : Int) := by omega
              clear hb3
              by_cases h40 : (40 : Int) < (fn : Int)
              · as_aux_lemma =>
                go_upto_region 15 with (fail)
                rw [hWa.out]
                go_wp2_with fail
                go_ret
                exact ⟨HB.out.trans (HB3.out.mono HB.out.size), _, rfl, fun e => by cases e⟩
              · have HA3 : Hid (∀ i, i < n + 1 → (gf.getD i default).pl.length ≤ 40) := fun i hi => by
                  by_cases e : i = n
                  · rw [e, HF9.out, hfn.out]; omega
                  · exact HA2.out i (by omega)
                as_aux_lemma =>
                  go_upto_region 15 with (fail)
                  rw [hWa.out]
                  go_wp2_with fail
                  exact ⟨⟨n + 1, by omega, by go_num, HB3, HA3⟩, by simp [nT]; omega⟩
            · obtain rfl : n = G := by omega
              have HALL2 : Hid (∀ j, j < m + 1 → ∀ i, i < (gs.getD j default).fs.length → ((gs.getD j default).fs.getD i default).pl.length ≤ 40) := fun j hj i hi => by
                by_cases e : j = m
                · rw [e, hgg.out] at hi ⊢
                  exact HA2.out i (by rw [← hG.out]; exact hi)
                · exact HALL.out j (by omega) i hi
              have HB4 : Hid (Below V.heap.size V V2) := HB.out.trans (HB2.out.mono HB.out.size)
              as_aux_lemma =>
                go_wp2_with fail
                exact ⟨⟨m + 1, by omega, by go_num, HB4, HALL2⟩, by simp [nT]; omega⟩
        · obtain rfl : m = K := by omega
          as_aux_lemma =>
          go_wp2_with fail
          go_ret
          exact ⟨HB.out, _, rfl, fun _ => ⟨by rw [hN.out]; omega, by rw [hK.out]; omega, fun j hj => HALL.out j (by rw [← hK.out]; exact hj)⟩⟩
end Go.Proofs.YtmfhpddeclggfaaGreatDoor
