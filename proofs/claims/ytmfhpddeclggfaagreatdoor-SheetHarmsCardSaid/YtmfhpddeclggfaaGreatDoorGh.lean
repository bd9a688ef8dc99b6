import Derived.RangeFuncNested
import Derived.RangeFuncBound
import Derived.RangeFuncCalls
import Derived.RangeFuncLeaves
import Derived.Test.YtmfhpddeclggfaaGreatDoorGg
import Derived.RangeFuncBox
import Derived.Shelf.Abstract
import Derived.Shelf.RegionOpen
import Derived.OwnWalkIn
import Derived.TacticsInMore
import Derived.LoopNIn
import Derived.LoopIn
import Derived.Maps.AppendAt
import Derived.Maps.OwnIn
import Derived.RegionIn
import Derived.BigRegionIn
import Derived.Stop.RegionWithIn
import Derived.WalkKit
import Derived.LoopTactic
import Derived.WalkSpells
import Derived.WalkLawsBesides
import Derived.Lib.Hide
import Derived.BigQuiet
import Derived.IntWalk
import Derived.Deep.DeepMust
import Derived.WalkSmall
import Derived.StillTailTactics
import Derived.Deep.RegionLaw
import Derived.Deep.QuietTactic
import Derived.Deep.Cut
import Derived.Deep.DeepCutAuto
import Derived.Deep.LoopGhost
import Derived.Laws.AppendOwn
namespace Go.Proofs.YtmfhpddeclggfaaGreatDoor
open Go.RowKit
/-! Harmed. -/
open Go.Shelf
/-- Harms lie there. -/
def HarmsAt (W : World) (p : Option Addr) (hs : List HM) : Prop :=
  hs = [] ∨ ∃ b o, p = some ⟨b, o, none⟩ ∧ b < W.heap.size ∧ ∀ j, j < hs.length → W.cell? ⟨b, o + j * 4, none⟩ = some (.int .i64 (hs.getD j default).k) ∧ W.cell? ⟨b, o + j * 4 + 1, none⟩ = some (.int .i64 (hs.getD j default).a) ∧ W.cell? ⟨b, o + j * 4 + 2, none⟩ = some (.int .i64 (hs.getD j default).b) ∧ W.cell? ⟨b, o + j * 4 + 3, none⟩ = some (.int .i64 (hs.getD j default).d)
theorem HarmsAt.below {w w' : World} {p : Option Addr} {hs : List HM} (h : HarmsAt w p hs) (hb : Below w.heap.size w w') : HarmsAt w' p hs := by
  rcases h with h | ⟨b, o, h1, h3, h4⟩
  · exact Or.inl h
  · refine Or.inr ⟨b, o, h1, Nat.lt_of_lt_of_le h3 hb.size, fun j hj => ?_⟩
    rw [hb.cell (p := ⟨b, o + j * 4, none⟩) h3, hb.cell (p := ⟨b, o + j * 4 + 1, none⟩) h3, hb.cell (p := ⟨b, o + j * 4 + 2, none⟩) h3, hb.cell (p := ⟨b, o + j * 4 + 3, none⟩) h3]
    exact h4 j hj
theorem hm_at {W : World} {p : Option Addr} {hs : List HM} (h : HarmsAt W p hs) {j : Nat} (hj : j < hs.length) {k a x d : Int} (hg : hs.getD j default = ⟨k, a, x, d⟩) : ∃ b o, p = some ⟨b, o, none⟩ ∧ b < W.heap.size ∧ W.cell? ⟨b, o + j * 4, none⟩ = some (.int .i64 k) ∧ W.cell? ⟨b, o + j * 4 + 1, none⟩ = some (.int .i64 a) ∧ W.cell? ⟨b, o + j * 4 + 2, none⟩ = some (.int .i64 x) ∧ W.cell? ⟨b, o + j * 4 + 3, none⟩ = some (.int .i64 d) := by
  rcases h with h | ⟨b, o, h1, h2, h3⟩
  · rw [h] at hj; exact absurd hj (by simp)
  · have := h3 j hj
    rw [hg] at this
    exact ⟨b, o, h1, h2, this⟩
theorem hm_cases (h : HM) : ∃ k a x d, h = ⟨k, a, x, d⟩ := ⟨_, _, _, _, rfl⟩
theorem drop_getD {hs : List HM} {j : Nat} (hj : j < hs.length) : hs.drop j = hs.getD j default :: hs.drop (j + 1) := by
  rw [List.drop_eq_getElem_cons hj, List.getD, List.getElem?_eq_getElem hj]; rfl
set_option maxRecDepth 100000 in
set_option maxHeartbeats 1000000 in
theorem sHarmed_long (s : ByteArray) (q : Option Addr) (n c : Nat) (w : World) (hn : 200 < n) :
    Calls Tryz.prog 48 #[.string s, .slice q n c] w fun e w' => e = .returned (.tuple #[.string ⟨#[]⟩, .int .i64 2]) ∧ Below w.heap.size w w' := by
  have hn' : (200 : Int) < (n : Int) := by omega
  go_enter Tryz.func48, Tryz.ntmps48
  go_wp2_with fail
  go_ret2
  exact ⟨rfl, Below.refl _ _⟩
/-- The parts, as they stand between two harms. -/
structure HS (w W : World) (q : Option Addr) (cs : List CB) (M : Nat) : Prop where
  bel : Below w.heap.size w W
  pg : cs = [] ∨ ∃ g, q = some ⟨g, 0, none⟩ ∧ PG w.heap.size W g cs
  len : cs.length = M
  sz : ∀ x ∈ cs, x.p.c.length ≤ 100000
theorem HS.keep {w W W' : World} {q : Option Addr} {cs : List CB} {M : Nat} (h : HS w W q cs M) (hb : Below W.heap.size W W') : HS w W' q cs M :=
  ⟨h.bel.trans (hb.mono h.bel.size), h.pg.imp id (fun ⟨g, h1, h2⟩ => ⟨g, h1, h2.below hb⟩), h.len, h.sz⟩
set_option maxRecDepth 100000 in
set_option maxHeartbeats 8000000 in
theorem sHarmed (s : ByteArray) (q : Option Addr) (c : Nat) (hs : List HM) (w : World) (he : Env w) (hss : s.size ≤ 3000) (hl : hs.length ≤ 200) (hp : HarmsAt w q hs) :
    Calls Tryz.prog 48 #[.string s, .slice q hs.length c] w fun e w' => e = .returned (.tuple #[.string (hmS (partsH s) hs), .int .i64 (hmE (partsH s) hs)]) ∧ Below w.heap.size w w' := by
  have HE := Lib.hid he
  have HP := Lib.hid hp
  have CP := Lib.hid (sCutParts s w (by omega) he)
  have HPL := Lib.hid (partsH_len s)
  have HPS : Hid (∀ p ∈ partsH s, p.c.length ≤ 100000) := fun p hp => by have := partsH_size hp; omega
  obtain ⟨P, hP⟩ : ∃ P, Hid (partsH s = P) := ⟨_, rfl⟩
  obtain ⟨N, hN⟩ : ∃ N, Hid (hs.length = N) := ⟨_, rfl⟩
  obtain ⟨R, hR⟩ : ∃ R, Hid (harmAll P hs = R) := ⟨_, rfl⟩
  have HR1 : Hid (R = none → hmS P hs = ⟨#[]⟩ ∧ hmE P hs = 1) := fun h => by unfold hmS hmE; rw [hR.out, h]; exact ⟨rfl, rfl⟩
  have HR2 : Hid (∀ qs, R = some qs → hmS P hs = bs (joinP qs) ∧ hmE P hs = 0) := fun qs h => by unfold hmS hmE; rw [hR.out, h]; exact ⟨rfl, rfl⟩
  rw [hP.out] at HPL HPS CP ⊢
  obtain ⟨rs, hrs⟩ : ∃ rs, Hid (hmS P hs = rs) := ⟨_, rfl⟩
  obtain ⟨re, hre⟩ : ∃ re, Hid (hmE P hs = re) := ⟨_, rfl⟩
  rw [hrs.out, hre.out] at HR1 HR2 ⊢
  rw [hN.out] at hl ⊢
  have hn' : ¬ (200 : Int) < (N : Int) := by omega
  have hs' : ¬ (262144 : Int) < (s.size : Int) := by omega
  have HSS := Lib.hid hss
  clear he hp hss
  go_enter Tryz.func48, Tryz.ntmps48
  go_wp2_with fail
  refine CP.out.mono ?_
  rintro e w1 ⟨v, cs0, rfl, hb1, hpl, heq⟩
  obtain ⟨g0, cap, rfl, hpg⟩ := hpl.place
  obtain ⟨M, hM⟩ : ∃ M, Hid (cs0.length = M) := ⟨_, rfl⟩
  have hMP : Hid (P.length = M) := by unfold Hid; rw [← heq, List.length_map]; exact hM.out
  have S1 : Hid (HS w w1 g0 cs0 M) := ⟨hb1, hpg, hM.out, fun x hx => HPS.out _ (by rw [← heq]; exact List.mem_map.2 ⟨x, hx, rfl⟩)⟩
  have H1 : Hid (harmAll (cs0.map CB.p) (hs.drop 0) = R) := by unfold Hid; rw [heq]; exact hR.out
  have hMl : M ≤ 3001 := by have := HPL.out; have := hMP.out; have := HSS.out; omega
  rw [hM.out]
  clear hpl heq hpg CP hb1
  go_wp2_with fail
  go_loopw [21] (fun i wr => ∃ (j : Nat) (cs : List CB), j ≤ N ∧ i = .int .i64 j ∧ Hid (HS w wr g0 cs M) ∧ Hid (harmAll (cs.map CB.p) (hs.drop j) = R)) (fun i _ => N - (intOf i).toNat)
  case atStart => exact ⟨0, cs0, Nat.zero_le _, rfl, S1, H1⟩
  case round =>
    clear S1 H1
    obtain ⟨j, cs, hj, rfl, S, HH⟩ := hrel
    by_cases hlt : j < N
    · have hjl : j < hs.length := by rw [hN.out]; exact hlt
      obtain ⟨k, a, x, d, hg⟩ := hm_cases (hs.getD j default)
      have HD : Hid (hs.drop j = ⟨k, a, x, d⟩ :: hs.drop (j + 1)) := by unfold Hid; rw [drop_getD hjl, hg]
      rw [HD.out] at HH
      obtain ⟨b, o, rfl, hb, a0, a1, a2, a3⟩ := hm_at (HP.out.below S.out.bel) hjl hg
      have hlt' : (j : Int) < (N : Int) := by omega
      have S2 := fun X => Lib.hid (S.out.keep (below_alloc1 wr X))
      have hcl : Hid ((cs.map CB.p).length = M) := by unfold Hid; rw [List.length_map]; exact S.out.len
      clear hg hb HD
      by_cases ha0 : a < 0
      · have hR0 := HR1.out (HH.out.symm.trans (harmAll_bad (.inr (.inr (.inl ha0)))))
        have BB := fun X => Lib.hid (S2 X).out.bel
        have HR0 := Lib.hid hR0
        clear hR0 S2 S HH
        go_wp2_with fail
        go_quiet (fail)
        have B3 := fun X => Lib.hid (below_drewN (BB X).out nq)
        go_wp2_with fail
        go_ret2
        exact ⟨by rw [HR0.out.1, HR0.out.2]; rfl, (B3 _).out⟩
      · by_cases haM : (M : Int) ≤ a
        · have hR0 := HR1.out (HH.out.symm.trans (harmAll_bad (.inr (.inr (.inr (by rw [hcl.out]; exact haM))))))
          have BB := fun X => Lib.hid (S2 X).out.bel
          have HR0 := Lib.hid hR0
          clear hR0 S2 S HH
          go_wp2_with fail
          go_quiet (fail)
          have B3 := fun X => Lib.hid (below_drewN (BB X).out nq)
          go_wp2_with fail
          go_ret2
          exact ⟨by rw [HR0.out.1, HR0.out.2]; rfl, (B3 _).out⟩
        · obtain ⟨an, rfl⟩ := Int.eq_ofNat_of_zero_le (show 0 ≤ a by omega)
          have haM' : (an : Int) < (M : Int) := by omega
          have hal : an < cs.length := by rw [S.out.len]; omega
          have hj2 : cs[an]? = some cs[an] := List.getElem?_eq_getElem hal
          obtain ⟨y, hy⟩ : ∃ y, cs[an] = y := ⟨_, rfl⟩
          rw [hy] at hj2
          have HJ := Lib.hid hj2
          have hgd : Hid ((cs.map CB.p).getD an default = y.p) := by unfold Hid; rw [List.getD, List.getElem?_map, hj2]; rfl
          obtain ⟨g, rfl, hg⟩ : ∃ g, g0 = some ⟨g, 0, none⟩ ∧ PG w.heap.size wr g cs := S.out.pg.resolve_left (fun h => by rw [h] at hal; exact absurd hal (by simp))
          have HG := Lib.hid hg
          have PA : Hid (∀ W, Below wr.heap.size wr W → PartAt W g (an * 3) y.b y.cap y.p) := fun W hW => (HG.out.part HJ.out).below hW
          have ha2 : ¬ (M : Int) ≤ (an : Int) := haM
          clear hg hj2 hal hy
          by_cases hok : (k < 1 ∨ 5 < k) ∨ hurt y.p ⟨k, (an : Int), x, d⟩ = none
          · have hR0 : rs = ⟨#[]⟩ ∧ re = 1 := HR1.out (HH.out.symm.trans (by
              rcases hok with h | h
              · exact harmAll_bad (by rcases h with h | h; exact .inl h; exact .inr (.inl h))
              · refine harmAll_no ?_
                show hurt ((cs.map CB.p).getD ((an : Int)).toNat default) _ = none
                rw [Int.toNat_natCast, hgd.out]; exact h))
            have CS : Hid (∀ W, Below wr.heap.size wr W → Calls Tryz.prog 102 #[.pointer (some ⟨g, an * 3, none⟩), .agg #[.int .i64 k, .int .i64 an, .int .i64 x, .int .i64 d]] W fun e w' => e = .returned (.bool false) ∧ Below W.heap.size W w') := fun W hW => sSuffer_f g (an * 3) y.b y.cap y.p ⟨k, an, x, d⟩ W (PA.out W hW) hok
            have HR0 := Lib.hid hR0
            have SB := Lib.hid S.out.bel
            clear hR0 S2 S HH PA hok
            go_wp2_with fail
            have y0 := nw_at wr #[.int .i64 k, .int .i64 (an : Int), .int .i64 x, .int .i64 d] 154 0 _ rfl
            have y1 := nw_at wr #[.int .i64 k, .int .i64 (an : Int), .int .i64 x, .int .i64 d] 154 1 _ rfl
            have y2 := nw_at wr #[.int .i64 k, .int .i64 (an : Int), .int .i64 x, .int .i64 d] 154 2 _ rfl
            have y3 := nw_at wr #[.int .i64 k, .int .i64 (an : Int), .int .i64 x, .int .i64 d] 154 3 _ rfl
            have hW2b : Hid (Below wr.heap.size wr (wr.alloc (.cells #[.int .i64 k, .int .i64 (an : Int), .int .i64 x, .int .i64 d] 154))) := below_alloc1 _ _
            obtain ⟨W2, hW2⟩ : ∃ W2, Hid (wr.alloc (.cells #[.int .i64 k, .int .i64 (an : Int), .int .i64 x, .int .i64 d] 154) = W2) := ⟨_, rfl⟩
            rw [hW2.out] at y0 y1 y2 y3 hW2b ⊢
            have hd1 : decide ((an : Int) < 0) = false := decide_eq_false (by omega)
            have hd2 : decide (M ≤ an) = false := decide_eq_false (by omega)
            have hi1 : (0 : Int) ≤ (an : Int) := by omega
            go_still_tail 16, (by kernel_rfl)
            change wpList _ _ _ _ _ W2.drew
            clear y0 y1 y2 y3
            go_wp2_with fail
            refine (CS.out _ hW2b.out.drew).mono ?_
            rintro e w2 ⟨rfl, hb2⟩
            have B2 : Hid (Below w.heap.size w w2) := (SB.out.trans (hW2b.out.drew.mono SB.out.size)).trans (hb2.mono (by have h1 := SB.out.size; have h2 := hW2b.out.size; simp; omega))
            clear hb2
            go_wp2_with fail
            go_ret2
            exact ⟨by rw [HR0.out.1, HR0.out.2]; rfl, B2.out⟩
          · have hk1 : ¬ k < 1 := fun h => hok (.inl (.inl h))
            have hk5 : ¬ 5 < k := fun h => hok (.inl (.inr h))
            obtain ⟨p', hp'⟩ : ∃ p', hurt y.p ⟨k, (an : Int), x, d⟩ = some p' := by
              cases h : hurt y.p ⟨k, (an : Int), x, d⟩ with
              | none => exact absurd (.inr h) hok
              | some p' => exact ⟨p', rfl⟩
            have CS : Hid (∀ W, Below wr.heap.size wr W → Calls Tryz.prog 102 #[.pointer (some ⟨g, an * 3, none⟩), .agg #[.int .i64 k, .int .i64 an, .int .i64 x, .int .i64 d]] W fun e w' => e = .returned (.bool true) ∧ Only W w' g (an * 3) y.b ∧ PartAt w' g (an * 3) y.b y.cap p') := fun W hW => sSuffer_t g (an * 3) y.b y.cap y.p p' ⟨k, an, x, d⟩ W (PA.out W hW) hk1 hk5 hp'
            have HH2 : Hid (harmAll ((cs.set an ⟨p', y.b, y.cap⟩).map CB.p) (hs.drop (j + 1)) = R) := by
              unfold Hid
              have h1 := harmAll_yes (ps := cs.map CB.p) (h := ⟨k, (an : Int), x, d⟩) (r := hs.drop (j + 1)) (p := p') (by
                rintro (h | h | h | h)
                · exact hk1 h
                · exact hk5 h
                · have h' : (an : Int) < 0 := h; omega
                · have h' : ((cs.map CB.p).length : Int) ≤ (an : Int) := h; rw [hcl.out] at h'; omega) (by
                show hurt ((cs.map CB.p).getD ((an : Int)).toNat default) _ = some p'
                rw [Int.toNat_natCast, hgd.out]; exact hp')
              rw [List.map_set]
              rw [← HH.out, h1]
              rfl
            have hfd : Hid (p'.fd = y.p.fd) := hurt_fd hp'
            have hlen' : Hid (p'.c.length ≤ 100000) := Nat.le_trans (hurt_len hp') (S.out.sz y (List.mem_of_getElem? HJ.out))
            have SS := Lib.hid S.out
            clear S2 S HH PA hok hp'
            go_wp2_with fail
            have y0 := nw_at wr #[.int .i64 k, .int .i64 (an : Int), .int .i64 x, .int .i64 d] 154 0 _ rfl
            have y1 := nw_at wr #[.int .i64 k, .int .i64 (an : Int), .int .i64 x, .int .i64 d] 154 1 _ rfl
            have y2 := nw_at wr #[.int .i64 k, .int .i64 (an : Int), .int .i64 x, .int .i64 d] 154 2 _ rfl
            have y3 := nw_at wr #[.int .i64 k, .int .i64 (an : Int), .int .i64 x, .int .i64 d] 154 3 _ rfl
            have hW2b : Hid (Below wr.heap.size wr (wr.alloc (.cells #[.int .i64 k, .int .i64 (an : Int), .int .i64 x, .int .i64 d] 154))) := below_alloc1 _ _
            obtain ⟨W2, hW2⟩ : ∃ W2, Hid (wr.alloc (.cells #[.int .i64 k, .int .i64 (an : Int), .int .i64 x, .int .i64 d] 154) = W2) := ⟨_, rfl⟩
            rw [hW2.out] at y0 y1 y2 y3 hW2b ⊢
            have hd1 : decide ((an : Int) < 0) = false := decide_eq_false (by omega)
            have hd2 : decide (M ≤ an) = false := decide_eq_false (by omega)
            have hi1 : (0 : Int) ≤ (an : Int) := by omega
            go_still_tail 16, (by kernel_rfl)
            change wpList _ _ _ _ _ W2.drew
            clear y0 y1 y2 y3
            go_wp2_with fail
            refine (CS.out _ hW2b.out.drew).mono ?_
            rintro e w2 ⟨rfl, ho2, hp2⟩
            have S3 : Hid (HS w w2 (some ⟨g, 0, none⟩) (cs.set an ⟨p', y.b, y.cap⟩) M) := by
              have hBl := hW2b.out.drew
              have hG2 := HG.out.below hBl
              refine ⟨(SS.out.bel.trans (hBl.mono SS.out.bel.size)).trans (hG2.bel HJ.out ho2 (by have h1 := SS.out.bel.size; have h2 := hW2b.out.size; simp; omega)), .inr ⟨g, rfl, hG2.set HJ.out ho2 hp2 hfd.out⟩, by rw [List.length_set]; exact SS.out.len, fun z hz => ?_⟩
              rcases List.mem_or_eq_of_mem_set hz with h | rfl
              · exact SS.out.sz z h
              · exact hlen'.out
            clear ho2 hp2
            go_wp2_with fail
            exact ⟨⟨j + 1, _, by omega, by go_num, S3, HH2⟩, by simp [intOf]; omega⟩
    · obtain rfl : j = N := by omega
      have hR0 := HR2.out (cs.map CB.p) (by rw [← HH.out, List.drop_eq_nil_of_le (by rw [hN.out]; exact Nat.le_refl _)]; rfl)
      have CJ := sJoin g0 cap w.heap.size cs wr (by rw [S.out.len]; omega) S.out.sz S.out.pg
      rw [S.out.len, ← hR0.1] at CJ
      have CJ1 := Lib.hid CJ
      have HE2 := Lib.hid hR0.2
      have SB := Lib.hid S.out.bel
      clear CJ hR0 HH S
      go_wp2_with fail
      refine CJ1.out.mono ?_
      rintro e w8 ⟨rfl, hb8⟩
      have B8 : Hid (Below w.heap.size w w8) := SB.out.trans (hb8.mono SB.out.size)
      clear hb8
      go_wp2_with fail
      go_ret2
      exact ⟨by rw [HE2.out]; rfl, B8.out⟩
end Go.Proofs.YtmfhpddeclggfaaGreatDoor
