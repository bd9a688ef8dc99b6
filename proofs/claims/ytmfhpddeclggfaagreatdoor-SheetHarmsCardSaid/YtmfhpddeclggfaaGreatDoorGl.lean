import Derived.RangeFuncNested
import Derived.RangeFuncBound
import Derived.RangeFuncCalls
import Derived.RangeFuncLeaves
import Derived.Test.YtmfhpddeclggfaaGreatDoorGk
import Derived.RangeFuncBox
import Derived.Shelf.Abstract
import Derived.Shelf.RegionOpen
import Derived.OwnWalkIn
import Derived.TacticsInMore
import Derived.LoopNIn
import Derived.LoopIn
import Derived.Maps.AppendAt
import Derived.Maps.OwnIn
import Derived.RegionIn
import Derived.BigRegionIn
import Derived.Stop.RegionWithIn
import Derived.WalkKit
import Derived.Test.YtmfhpddeclggfaaGreatDoorGh
import Derived.Deep.RegionHeld3
import Derived.LoopTactic
import Derived.WalkSpells
import Derived.WalkLawsBesides
import Derived.Lib.Hide
import Derived.BigQuiet
import Derived.IntWalk
import Derived.Deep.DeepMust
import Derived.WalkSmall
import Derived.StillTailTactics
import Derived.Deep.RegionLaw
import Derived.Deep.QuietTactic
import Derived.Deep.Cut
import Derived.Deep.DeepCutAuto
import Derived.Deep.LoopGhost
import Derived.Laws.AppendOwn
namespace Go.Proofs.YtmfhpddeclggfaaGreatDoor
open Go.RowKit
/-! The reference's Harmed, whole. -/
open Go.Shelf
/-- The result's cell, and the parts between two harms. -/
structure RH (w W : World) (q : Option Addr) (ps : List PT) (M : Nat) : Prop where
  bel : Below w.heap.size w W
  lt : w.heap.size < W.heap.size
  r0 : W.cell? ⟨w.heap.size, 0, none⟩ = some (.string ⟨#[]⟩)
  r1 : W.cell? ⟨w.heap.size, 1, none⟩ = some (.int .i64 0)
  fr : ∀ o, W.frozen? ⟨w.heap.size, o, none⟩ = false
  pg : ps = [] ∨ ∃ g, q = some ⟨g, 0, none⟩ ∧ w.heap.size < g ∧ RG W g ps
  len : ps.length = M
  sz : ∀ p ∈ ps, p.c.length ≤ 100000
theorem RH.keep {w W W' : World} {q : Option Addr} {ps : List PT} {M : Nat} (h : RH w W q ps M) (hb : Below W.heap.size W W') : RH w W' q ps M :=
  ⟨h.bel.trans (hb.mono h.bel.size), Nat.lt_of_lt_of_le h.lt hb.size, (hb.cell (p := ⟨w.heap.size, 0, none⟩) h.lt).trans h.r0, (hb.cell (p := ⟨w.heap.size, 1, none⟩) h.lt).trans h.r1, fun o => (hb.frozen (p := ⟨w.heap.size, o, none⟩) h.lt).trans (h.fr o), h.pg.imp id (fun ⟨g, h1, h0, h2⟩ => ⟨g, h1, h0, h2.below hb⟩), h.len, h.sz⟩
theorem RH.res {w W : World} {q : Option Addr} {ps : List PT} {M : Nat} (h : RH w W q ps M) (x y : Value) : Below w.heap.size w ((W.setCell ⟨w.heap.size, 0, none⟩ x).setCell ⟨w.heap.size, 1, none⟩ y) :=
  (h.bel.setCell (p := ⟨w.heap.size, 0, none⟩) (Nat.le_refl _) _).setCell (p := ⟨w.heap.size, 1, none⟩) (Nat.le_refl _) _
theorem RH.put {w W : World} {g : Nat} {ps : List PT} {M : Nat} (h : RH w W (some ⟨g, 0, none⟩) ps M) (hg0 : w.heap.size < g) (hG : RG W g ps) {j : Nat} (hj : j < ps.length) (p : PT) (hl : p.c.length ≤ 100000) :
    RH w ((((W.setCell ⟨g, j * 3, none⟩ (.string (bs p.c))).setCell ⟨g, j * 3 + 1, none⟩ (.bool p.fd)).setCell ⟨g, j * 3 + 2, none⟩ (.bool p.lo)).drew) (some ⟨g, 0, none⟩) (ps.set j p) M := by
  have ne : ∀ i o, (⟨g, i, none⟩ : Addr) ≠ ⟨w.heap.size, o, none⟩ := fun i o e => by have := congrArg Addr.block e; simp at this; omega
  refine ⟨(((h.bel.setCell (p := ⟨g, j * 3, none⟩) (by show w.heap.size ≤ g; omega) _).setCell (p := ⟨g, j * 3 + 1, none⟩) (by show w.heap.size ≤ g; omega) _).setCell (p := ⟨g, j * 3 + 2, none⟩) (by show w.heap.size ≤ g; omega) _).drew, by simpa using h.lt, ?_, ?_, fun o => ?_, .inr ⟨g, rfl, hg0, (hG.set hj p).below (Below.refl _ _).drew⟩, by rw [List.length_set]; exact h.len, fun q hq => ?_⟩
  · show (((W.setCell _ _).setCell _ _).setCell _ _).cell? _ = _
    rw [World.cell?_setCell_other _ _ _ _ (ne _ _), World.cell?_setCell_other _ _ _ _ (ne _ _), World.cell?_setCell_other _ _ _ _ (ne _ _)]; exact h.r0
  · show (((W.setCell _ _).setCell _ _).setCell _ _).cell? _ = _
    rw [World.cell?_setCell_other _ _ _ _ (ne _ _), World.cell?_setCell_other _ _ _ _ (ne _ _), World.cell?_setCell_other _ _ _ _ (ne _ _)]; exact h.r1
  · show (((W.setCell _ _).setCell _ _).setCell _ _).frozen? _ = _
    rw [World.frozen?_setCell, World.frozen?_setCell, World.frozen?_setCell]; exact h.fr o
  · rcases List.mem_or_eq_of_mem_set hq with h1 | rfl
    · exact h.sz q h1
    · exact hl
set_option maxRecDepth 100000 in
set_option maxHeartbeats 1000000 in
theorem rHarmed_long (s : ByteArray) (q : Option Addr) (n c : Nat) (w : World) (hn : 200 < n) :
    Calls Tryz.prog 49 #[.string s, .slice q n c] w fun e w' => e = .returned (.agg #[.string ⟨#[]⟩, .int .i64 2]) ∧ Below w.heap.size w w' := by
  have hn' : (200 : Int) < (n : Int) := by omega
  go_enter Tryz.func49, Tryz.ntmps49
  go_wp2_with fail
  refine bodyPost_ret (v := .agg #[.string ⟨#[]⟩, .int .i64 2]) (by simp [results, Tryz.results49, go_sem]) rfl ⟨rfl, below_alloc1 _ _⟩
set_option maxRecDepth 100000 in
set_option maxHeartbeats 8000000 in
theorem rHarmed (s : ByteArray) (q : Option Addr) (c : Nat) (hs : List HM) (w : World) (hss : s.size ≤ 3000) (hl : hs.length ≤ 200) (hp : HarmsAt w q hs) :
    Calls Tryz.prog 49 #[.string s, .slice q hs.length c] w fun e w' => e = .returned (.agg #[.string (hmS (partsH s) hs), .int .i64 (hmE (partsH s) hs)]) ∧ Below w.heap.size w w' := by
  have HP := Lib.hid hp
  have CP := Lib.hid (rPartsOf s (w.alloc (.cells #[.string ⟨#[]⟩, .int .i64 0] 32)) (by omega))
  have HPL := Lib.hid (partsH_len s)
  have HPS : Hid (∀ p ∈ partsH s, p.c.length ≤ 100000) := fun p hp => by have := partsH_size hp; omega
  obtain ⟨P, hP⟩ : ∃ P, Hid (partsH s = P) := ⟨_, rfl⟩
  obtain ⟨N, hN⟩ : ∃ N, Hid (hs.length = N) := ⟨_, rfl⟩
  obtain ⟨R, hR⟩ : ∃ R, Hid (harmAll P hs = R) := ⟨_, rfl⟩
  have HR1 : Hid (R = none → hmS P hs = ⟨#[]⟩ ∧ hmE P hs = 1) := fun h => by unfold hmS hmE; rw [hR.out, h]; exact ⟨rfl, rfl⟩
  have HR2 : Hid (∀ qs, R = some qs → hmS P hs = bs (joinP qs) ∧ hmE P hs = 0) := fun qs h => by unfold hmS hmE; rw [hR.out, h]; exact ⟨rfl, rfl⟩
  rw [hP.out] at HPL HPS CP ⊢
  obtain ⟨rs, hrs⟩ : ∃ rs, Hid (hmS P hs = rs) := ⟨_, rfl⟩
  obtain ⟨re, hre⟩ : ∃ re, Hid (hmE P hs = re) := ⟨_, rfl⟩
  rw [hrs.out, hre.out] at HR1 HR2 ⊢
  rw [hN.out] at hl ⊢
  have hn' : ¬ (200 : Int) < (N : Int) := by omega
  have hs' : ¬ (262144 : Int) < (s.size : Int) := by omega
  have HSS := Lib.hid hss
  obtain ⟨M, hM⟩ : ∃ M, Hid (P.length = M) := ⟨_, rfl⟩
  have hMl : M ≤ 3001 := by have := HPL.out; have := hM.out; omega
  clear hp hss
  go_enter Tryz.func49, Tryz.ntmps49
  go_wp2_with fail
  refine CP.out.mono ?_
  rintro e w1 ⟨v, rfl, hb1, hown⟩
  obtain ⟨g0, cap, rfl, hpg⟩ := rg_place hown
  have S1 : Hid (RH w w1 g0 P M) := ⟨(below_alloc1 w _).trans (hb1.mono (by simp)), by have := hb1.size; simp at this; omega, (hb1.cell (p := ⟨w.heap.size, 0, none⟩) (by simp)).trans (nw_at w _ 32 0 _ rfl), (hb1.cell (p := ⟨w.heap.size, 1, none⟩) (by simp)).trans (nw_at w _ 32 1 _ rfl), fun o => (hb1.frozen (p := ⟨w.heap.size, o, none⟩) (by simp)).trans (frozen_new w _ _ o), hpg.imp id (fun ⟨g, h1, h0, h2⟩ => ⟨g, h1, by simp at h0; omega, h2⟩), hM.out, HPS.out⟩
  have H1 : Hid (harmAll P (hs.drop 0) = R) := hR.out
  rw [hM.out]
  clear hown hpg CP hb1
  go_wp2_with fail
  go_loopw [6] (fun i wr => ∃ (j : Nat) (ps : List PT), j ≤ N ∧ i = .int .i64 j ∧ Hid (RH w wr g0 ps M) ∧ Hid (harmAll ps (hs.drop j) = R)) (fun i _ => N - (intOf i).toNat)
  case atStart => exact ⟨0, P, Nat.zero_le _, rfl, S1, H1⟩
  case round =>
    clear S1 H1
    obtain ⟨j, ps, hj, rfl, S, HH⟩ := hrel
    by_cases hlt : j < N
    · have hjl : j < hs.length := by rw [hN.out]; exact hlt
      obtain ⟨k, a, x, d, hg⟩ := hm_cases (hs.getD j default)
      have HD : Hid (hs.drop j = ⟨k, a, x, d⟩ :: hs.drop (j + 1)) := by unfold Hid; rw [drop_getD hjl, hg]
      rw [HD.out] at HH
      obtain ⟨b, o, rfl, hb, a0, a1, a2, a3⟩ := hm_at (HP.out.below S.out.bel) hjl hg
      have hlt' : (j : Int) < (N : Int) := by omega
      have hj0 : (0 : Int) ≤ (j : Int) := by omega
      have hcl : Hid (ps.length = M) := S.out.len
      have HB := Lib.hid hb
      have q0 := S.out.r0
      have q1 := S.out.r1
      have f0 := S.out.fr 0
      have f1 := S.out.fr 1
      clear hg hb HD
      by_cases hbd : (k < 1 ∨ 5 < k) ∨ (a < 0 ∨ (M : Int) - 1 < a)
      · have hR0 := HR1.out (HH.out.symm.trans (harmAll_bad (by
          rcases hbd with (h | h) | (h | h)
          · exact .inl h
          · exact .inr (.inl h)
          · exact .inr (.inr (.inl h))
          · exact .inr (.inr (.inr (by rw [hcl.out]; show (M : Int) ≤ a; omega))))))
        have HR0 := Lib.hid hR0
        have SS := Lib.hid S.out
        clear hR0 S HH
        by_cases hkb : k < 1 ∨ 5 < k
        · go_wp2_with (go_at_call 77; first | (refine (in_yes _ _ _ _ (by omega) (by omega)).mono ?_; rintro e w' ⟨rfl, rfl⟩) | (refine (in_no _ _ _ _ (by omega)).mono ?_; rintro e w' ⟨rfl, rfl⟩))
          refine bodyPost_ret (v := .agg #[.string ⟨#[]⟩, .int .i64 1]) (by simp [results, Tryz.results49, go_sem, q0, q1]) rfl ⟨by rw [HR0.out.1, HR0.out.2], SS.out.res _ _⟩
        · have hab := hbd.resolve_left hkb
          go_wp2_with (go_at_call 77; first | (refine (in_yes _ _ _ _ (by omega) (by omega)).mono ?_; rintro e w' ⟨rfl, rfl⟩) | (refine (in_no _ _ _ _ (by omega)).mono ?_; rintro e w' ⟨rfl, rfl⟩))
          refine bodyPost_ret (v := .agg #[.string ⟨#[]⟩, .int .i64 1]) (by simp [results, Tryz.results49, go_sem, q0, q1]) rfl ⟨by rw [HR0.out.1, HR0.out.2], SS.out.res _ _⟩
      · have hk1 : ¬ k < 1 := fun h => hbd (.inl (.inl h))
        have hk5 : ¬ 5 < k := fun h => hbd (.inl (.inr h))
        obtain ⟨an, rfl⟩ := Int.eq_ofNat_of_zero_le (show 0 ≤ a by omega)
        have haM' : (an : Int) < (M : Int) := by omega
        have ha0 : (0 : Int) ≤ (an : Int) := by omega
        have hal : an < ps.length := by rw [hcl.out]; omega
        obtain ⟨⟨l, fd, lo⟩, hy⟩ : ∃ y, ps[an] = y := ⟨_, rfl⟩
        have hj2 : ps[an]? = some ⟨l, fd, lo⟩ := by rw [List.getElem?_eq_getElem hal, hy]
        have hgd : Hid (ps.getD an default = ⟨l, fd, lo⟩) := by unfold Hid; rw [List.getD, hj2]; rfl
        obtain ⟨g, rfl, hg0, hg⟩ : ∃ g, g0 = some ⟨g, 0, none⟩ ∧ w.heap.size < g ∧ RG wr g ps := S.out.pg.resolve_left (fun h => by rw [h] at hal; exact absurd hal (by simp))
        obtain ⟨p0, p1, p2⟩ := hg.cel an _ hj2
        have HG := Lib.hid hg
        have HGlt := Lib.hid hg.ltg
        have hll : Hid (l.length ≤ 100000) := S.out.sz _ (List.mem_of_getElem? hj2)
        have hbs : Hid ((bs l).size ≤ 1000000) := by have := hll.out; unfold Hid; rw [bs_size]; omega
        have HAL := Lib.hid hal
        simp only at p0 p1 p2
        obtain ⟨t, ht⟩ : ∃ t, Hid (bs l = t) := ⟨_, rfl⟩
        have htl : Hid (t.data.toList = l) := by rw [← ht.out]; unfold Hid; rfl
        rw [ht.out] at p0 hbs
        have KP : Hid (∀ w', Below wr.heap.size wr w' → w'.cell? ⟨b, o + j * 4, none⟩ = some (.int .i64 k) ∧ w'.cell? ⟨b, o + j * 4 + 1, none⟩ = some (.int .i64 (an : Int)) ∧ w'.cell? ⟨b, o + j * 4 + 2, none⟩ = some (.int .i64 x) ∧ w'.cell? ⟨b, o + j * 4 + 3, none⟩ = some (.int .i64 d) ∧ w'.cell? ⟨g, an * 3, none⟩ = some (.string t) ∧ w'.cell? ⟨g, an * 3 + 1, none⟩ = some (.bool fd) ∧ w'.cell? ⟨g, an * 3 + 2, none⟩ = some (.bool lo)) := fun w' hw => ⟨(hw.cell (p := ⟨b, o + j * 4, none⟩) HB.out).trans a0, (hw.cell (p := ⟨b, o + j * 4 + 1, none⟩) HB.out).trans a1, (hw.cell (p := ⟨b, o + j * 4 + 2, none⟩) HB.out).trans a2, (hw.cell (p := ⟨b, o + j * 4 + 3, none⟩) HB.out).trans a3, (hw.cell (p := ⟨g, an * 3, none⟩) HGlt.out).trans p0, (hw.cell (p := ⟨g, an * 3 + 1, none⟩) HGlt.out).trans p1, (hw.cell (p := ⟨g, an * 3 + 2, none⟩) HGlt.out).trans p2⟩
        clear hg hj2 hal hy hbd
        cases hur : hurt ⟨l, fd, lo⟩ ⟨k, (an : Int), x, d⟩ with
        | none =>
          have hR0 := HR1.out (HH.out.symm.trans (harmAll_no (by show hurt (ps.getD ((an : Int)).toNat default) _ = none; rw [Int.toNat_natCast, hgd.out]; exact hur)))
          have HR0 := Lib.hid hR0
          have SS := Lib.hid S.out
          clear hR0 HH
          have CH : Hid (∀ W, Calls Tryz.prog 105 #[.agg #[.string t, .bool fd, .bool lo], .agg #[.int .i64 k, .int .i64 (an : Int), .int .i64 x, .int .i64 d]] W fun e w' => e = .returned (.tuple #[.agg #[.string t, .bool fd, .bool lo], .int .i64 1]) ∧ Below W.heap.size W w') := fun W => rHd_no t fd lo ⟨k, an, x, d⟩ W hbs.out hk1 hk5 (by rw [htl.out]; exact hur)
          go_wp2_with (go_at_call 77; first | (refine (in_yes _ _ _ _ (by omega) (by omega)).mono ?_; rintro e w' ⟨rfl, rfl⟩) | (refine (in_no _ _ _ _ (by omega)).mono ?_; rintro e w' ⟨rfl, rfl⟩))
          go_region_held3 (fun w' => w'.cell? ⟨b, o + j * 4, none⟩ = some (.int .i64 k) ∧ w'.cell? ⟨b, o + j * 4 + 1, none⟩ = some (.int .i64 (an : Int)) ∧ w'.cell? ⟨b, o + j * 4 + 2, none⟩ = some (.int .i64 x) ∧ w'.cell? ⟨b, o + j * 4 + 3, none⟩ = some (.int .i64 d) ∧ w'.cell? ⟨g, an * 3, none⟩ = some (.string t) ∧ w'.cell? ⟨g, an * 3 + 1, none⟩ = some (.bool fd) ∧ w'.cell? ⟨g, an * 3 + 2, none⟩ = some (.bool lo)) (first | exact ⟨a0, a1, a2, a3, p0, p1, p2⟩ | exact KP.out _ ((Below.refl _ _).drew.trans (hb2.mono (Nat.le_refl _))) | exact KP.out _ ((below_alloc1 _ _).drew.trans (hb2.mono (by simp))) | exact KP.out _ (below_alloc1 _ _).drew | exact KP.out _ (((Below.refl _ _).drew.trans (hb2.mono (Nat.le_refl _))).alloc (by have h9 := hb2.size; simpa using h9) _) | exact KP.out _ (((((below_alloc1 _ _).drew.trans (hb2.mono (by simp))).setCell (p := ⟨wr.heap.size, 0, none⟩) (Nat.le_refl _) _).setCell (p := ⟨wr.heap.size, 1, none⟩) (Nat.le_refl _) _).setCell (p := ⟨wr.heap.size, 2, none⟩) (Nat.le_refl _) _) | go_keep) (first | (go_at_call 105; refine (CH.out _).mono ?_; rintro e w2 ⟨rfl, hb2⟩; try (have z0 := (hb2.cell (p := ⟨wr.heap.size, 0, none⟩) (by simp)).trans (nw_at wr #[.string ⟨#[]⟩, .bool false, .bool false] 162 0 _ rfl); have z1 := (hb2.cell (p := ⟨wr.heap.size, 1, none⟩) (by simp)).trans (nw_at wr #[.string ⟨#[]⟩, .bool false, .bool false] 162 1 _ rfl); have z2 := (hb2.cell (p := ⟨wr.heap.size, 2, none⟩) (by simp)).trans (nw_at wr #[.string ⟨#[]⟩, .bool false, .bool false] 162 2 _ rfl); have y0 := (hb2.frozen (p := ⟨wr.heap.size, 0, none⟩) (by simp)).trans (frozen_new wr #[.string ⟨#[]⟩, .bool false, .bool false] 162 0); have y1 := (hb2.frozen (p := ⟨wr.heap.size, 1, none⟩) (by simp)).trans (frozen_new wr #[.string ⟨#[]⟩, .bool false, .bool false] 162 1); have y2 := (hb2.frozen (p := ⟨wr.heap.size, 2, none⟩) (by simp)).trans (frozen_new wr #[.string ⟨#[]⟩, .bool false, .bool false] 162 2))))
          · have SX := Lib.hid (SS.out.keep (((Below.refl _ _).drew.trans (hb2.mono (Nat.le_refl _))).alloc (by have h9 := hb2.size; simpa using h9) (.cells #[.string t, .bool fd, .bool lo] 162)))
            have q0 := SX.out.r0
            have q1 := SX.out.r1
            have f0 := SX.out.fr 0
            have f1 := SX.out.fr 1
            clear hb2
            go_wp2_with fail
            refine bodyPost_ret (v := .agg #[.string ⟨#[]⟩, .int .i64 1]) (by simp [results, Tryz.results49, go_sem, q0, q1]) rfl ⟨by rw [HR0.out.1, HR0.out.2], SX.out.res _ _⟩
          · have SX := Lib.hid (SS.out.keep (((((below_alloc1 _ _).drew.trans (hb2.mono (by simp))).setCell (p := ⟨wr.heap.size, 0, none⟩) (Nat.le_refl _) (.string t)).setCell (p := ⟨wr.heap.size, 1, none⟩) (Nat.le_refl _) (.bool fd)).setCell (p := ⟨wr.heap.size, 2, none⟩) (Nat.le_refl _) (.bool lo)))
            have q0 := SX.out.r0
            have q1 := SX.out.r1
            have f0 := SX.out.fr 0
            have f1 := SX.out.fr 1
            clear hb2
            go_wp2_with fail
            refine bodyPost_ret (v := .agg #[.string ⟨#[]⟩, .int .i64 1]) (by simp [results, Tryz.results49, go_sem, q0, q1]) rfl ⟨by rw [HR0.out.1, HR0.out.2], SX.out.res _ _⟩
        | some p' =>
          have hbt : Hid (p'.c.length ≤ 100000) := Nat.le_trans (hurt_len hur) hll.out
          have CH : Hid (∀ W, Calls Tryz.prog 105 #[.agg #[.string t, .bool fd, .bool lo], .agg #[.int .i64 k, .int .i64 (an : Int), .int .i64 x, .int .i64 d]] W fun e w' => e = .returned (.tuple #[.agg #[.string (bs p'.c), .bool p'.fd, .bool p'.lo], .int .i64 0]) ∧ Below W.heap.size W w') := fun W => rHd_yes t fd lo ⟨k, an, x, d⟩ p' W hbs.out hk1 hk5 (by rw [htl.out]; exact hur)
          have HH2 : Hid (harmAll (ps.set an p') (hs.drop (j + 1)) = R) := by
            have h1 := harmAll_yes (ps := ps) (h := ⟨k, (an : Int), x, d⟩) (r := hs.drop (j + 1)) (p := p') (by
              rintro (h | h | h | h)
              · exact hk1 h
              · exact hk5 h
              · have h' : (an : Int) < 0 := h; omega
              · have h' : (ps.length : Int) ≤ (an : Int) := h; rw [hcl.out] at h'; omega) (by
              show hurt (ps.getD ((an : Int)).toNat default) _ = some p'
              rw [Int.toNat_natCast, hgd.out]; exact hur)
            unfold Hid
            rw [← HH.out, h1]
            rfl
          have SS := Lib.hid S.out
          clear HH hur
          go_wp2_with (go_at_call 77; first | (refine (in_yes _ _ _ _ (by omega) (by omega)).mono ?_; rintro e w' ⟨rfl, rfl⟩) | (refine (in_no _ _ _ _ (by omega)).mono ?_; rintro e w' ⟨rfl, rfl⟩))
          go_region_held3 (fun w' => w'.cell? ⟨b, o + j * 4, none⟩ = some (.int .i64 k) ∧ w'.cell? ⟨b, o + j * 4 + 1, none⟩ = some (.int .i64 (an : Int)) ∧ w'.cell? ⟨b, o + j * 4 + 2, none⟩ = some (.int .i64 x) ∧ w'.cell? ⟨b, o + j * 4 + 3, none⟩ = some (.int .i64 d) ∧ w'.cell? ⟨g, an * 3, none⟩ = some (.string t) ∧ w'.cell? ⟨g, an * 3 + 1, none⟩ = some (.bool fd) ∧ w'.cell? ⟨g, an * 3 + 2, none⟩ = some (.bool lo)) (first | exact ⟨a0, a1, a2, a3, p0, p1, p2⟩ | exact KP.out _ ((Below.refl _ _).drew.trans (hb2.mono (Nat.le_refl _))) | exact KP.out _ ((below_alloc1 _ _).drew.trans (hb2.mono (by simp))) | exact KP.out _ (below_alloc1 _ _).drew | exact KP.out _ (((Below.refl _ _).drew.trans (hb2.mono (Nat.le_refl _))).alloc (by have h9 := hb2.size; simpa using h9) _) | exact KP.out _ (((((below_alloc1 _ _).drew.trans (hb2.mono (by simp))).setCell (p := ⟨wr.heap.size, 0, none⟩) (Nat.le_refl _) _).setCell (p := ⟨wr.heap.size, 1, none⟩) (Nat.le_refl _) _).setCell (p := ⟨wr.heap.size, 2, none⟩) (Nat.le_refl _) _) | go_keep) (first | (go_at_call 105; refine (CH.out _).mono ?_; rintro e w2 ⟨rfl, hb2⟩; try (have z0 := (hb2.cell (p := ⟨wr.heap.size, 0, none⟩) (by simp)).trans (nw_at wr #[.string ⟨#[]⟩, .bool false, .bool false] 162 0 _ rfl); have z1 := (hb2.cell (p := ⟨wr.heap.size, 1, none⟩) (by simp)).trans (nw_at wr #[.string ⟨#[]⟩, .bool false, .bool false] 162 1 _ rfl); have z2 := (hb2.cell (p := ⟨wr.heap.size, 2, none⟩) (by simp)).trans (nw_at wr #[.string ⟨#[]⟩, .bool false, .bool false] 162 2 _ rfl); have y0 := (hb2.frozen (p := ⟨wr.heap.size, 0, none⟩) (by simp)).trans (frozen_new wr #[.string ⟨#[]⟩, .bool false, .bool false] 162 0); have y1 := (hb2.frozen (p := ⟨wr.heap.size, 1, none⟩) (by simp)).trans (frozen_new wr #[.string ⟨#[]⟩, .bool false, .bool false] 162 1); have y2 := (hb2.frozen (p := ⟨wr.heap.size, 2, none⟩) (by simp)).trans (frozen_new wr #[.string ⟨#[]⟩, .bool false, .bool false] 162 2))))
          · have HBX : Hid (Below wr.heap.size wr (w2.alloc (.cells #[.string (bs p'.c), .bool p'.fd, .bool p'.lo] 162))) := ((Below.refl _ _).drew.trans (hb2.mono (Nat.le_refl _))).alloc (by have h9 := hb2.size; simpa using h9) (.cells #[.string (bs p'.c), .bool p'.fd, .bool p'.lo] 162)
            have x0 : (w2.alloc (.cells #[.string (bs p'.c), .bool p'.fd, .bool p'.lo] 162)).cell? ⟨w2.heap.size, 0, none⟩ = some (.string (bs p'.c)) := nw_at w2 #[.string (bs p'.c), .bool p'.fd, .bool p'.lo] 162 0 _ rfl
            have x1 : (w2.alloc (.cells #[.string (bs p'.c), .bool p'.fd, .bool p'.lo] 162)).cell? ⟨w2.heap.size, 1, none⟩ = some (.bool p'.fd) := nw_at w2 #[.string (bs p'.c), .bool p'.fd, .bool p'.lo] 162 1 _ rfl
            have x2 : (w2.alloc (.cells #[.string (bs p'.c), .bool p'.fd, .bool p'.lo] 162)).cell? ⟨w2.heap.size, 2, none⟩ = some (.bool p'.lo) := nw_at w2 #[.string (bs p'.c), .bool p'.fd, .bool p'.lo] 162 2 _ rfl
            obtain ⟨WX, hWX⟩ : ∃ WX, Hid (w2.alloc (.cells #[.string (bs p'.c), .bool p'.fd, .bool p'.lo] 162) = WX) := ⟨_, rfl⟩
            obtain ⟨X, hX⟩ : ∃ X, Hid (w2.heap.size = X) := ⟨_, rfl⟩
            rw [hWX.out] at HBX x0 x1 x2 ⊢
            rw [hX.out] at x0 x1 x2 ⊢
            obtain ⟨e0, e1, e2, e3, e4, e5, e6⟩ := KP.out _ HBX.out
            have SX := Lib.hid (SS.out.keep HBX.out)
            have GX := Lib.hid (HG.out.below HBX.out)
            have g0 := GX.out.frz (an * 3)
            have g1 := GX.out.frz (an * 3 + 1)
            have g2 := GX.out.frz (an * 3 + 2)
            obtain ⟨T, hT⟩ : ∃ T, Hid (bs p'.c = T) := ⟨_, rfl⟩
            rw [hT.out] at x0
            clear hb2 CH
            go_wp2_with fail
            go_region
            all_goals
              go_wp2_with fail
              have hSN := SX.out.put hg0 GX.out HAL.out p' hbt.out
              rw [hT.out] at hSN
              have SN := Lib.hid hSN
              exact ⟨⟨j + 1, _, by omega, by go_num, SN, HH2⟩, by simp [intOf]; omega⟩
          · have HBX : Hid (Below wr.heap.size wr (((w2.setCell ⟨wr.heap.size, 0, none⟩ (.string (bs p'.c))).setCell ⟨wr.heap.size, 1, none⟩ (.bool p'.fd)).setCell ⟨wr.heap.size, 2, none⟩ (.bool p'.lo))) := ((((below_alloc1 _ _).drew.trans (hb2.mono (by simp))).setCell (p := ⟨wr.heap.size, 0, none⟩) (Nat.le_refl _) (.string (bs p'.c))).setCell (p := ⟨wr.heap.size, 1, none⟩) (Nat.le_refl _) (.bool p'.fd)).setCell (p := ⟨wr.heap.size, 2, none⟩) (Nat.le_refl _) (.bool p'.lo)
            have x0 : (((w2.setCell ⟨wr.heap.size, 0, none⟩ (.string (bs p'.c))).setCell ⟨wr.heap.size, 1, none⟩ (.bool p'.fd)).setCell ⟨wr.heap.size, 2, none⟩ (.bool p'.lo)).cell? ⟨wr.heap.size, 0, none⟩ = some (.string (bs p'.c)) := by rw [World.cell?_setCell_other _ _ _ _ (addr_ne (by decide)), World.cell?_setCell_other _ _ _ _ (addr_ne (by decide))]; exact World.cell?_setCell_same _ _ _ z0
            have x1 : (((w2.setCell ⟨wr.heap.size, 0, none⟩ (.string (bs p'.c))).setCell ⟨wr.heap.size, 1, none⟩ (.bool p'.fd)).setCell ⟨wr.heap.size, 2, none⟩ (.bool p'.lo)).cell? ⟨wr.heap.size, 1, none⟩ = some (.bool p'.fd) := by rw [World.cell?_setCell_other _ _ _ _ (addr_ne (by decide))]; exact World.cell?_setCell_same _ _ _ ((World.cell?_setCell_other _ _ _ _ (addr_ne (by decide))).trans z1)
            have x2 : (((w2.setCell ⟨wr.heap.size, 0, none⟩ (.string (bs p'.c))).setCell ⟨wr.heap.size, 1, none⟩ (.bool p'.fd)).setCell ⟨wr.heap.size, 2, none⟩ (.bool p'.lo)).cell? ⟨wr.heap.size, 2, none⟩ = some (.bool p'.lo) := World.cell?_setCell_same _ _ _ ((World.cell?_setCell_other _ _ _ _ (addr_ne (by decide))).trans ((World.cell?_setCell_other _ _ _ _ (addr_ne (by decide))).trans z2))
            obtain ⟨WX, hWX⟩ : ∃ WX, Hid (((w2.setCell ⟨wr.heap.size, 0, none⟩ (.string (bs p'.c))).setCell ⟨wr.heap.size, 1, none⟩ (.bool p'.fd)).setCell ⟨wr.heap.size, 2, none⟩ (.bool p'.lo) = WX) := ⟨_, rfl⟩
            obtain ⟨X, hX⟩ : ∃ X, Hid (wr.heap.size = X) := ⟨_, rfl⟩
            rw [hWX.out] at HBX x0 x1 x2 ⊢
            rw [hX.out] at x0 x1 x2 ⊢
            obtain ⟨e0, e1, e2, e3, e4, e5, e6⟩ := KP.out _ HBX.out
            have SX := Lib.hid (SS.out.keep HBX.out)
            have GX := Lib.hid (HG.out.below HBX.out)
            have g0 := GX.out.frz (an * 3)
            have g1 := GX.out.frz (an * 3 + 1)
            have g2 := GX.out.frz (an * 3 + 2)
            obtain ⟨T, hT⟩ : ∃ T, Hid (bs p'.c = T) := ⟨_, rfl⟩
            rw [hT.out] at x0
            clear hb2 CH
            go_wp2_with fail
            go_region
            all_goals
              go_wp2_with fail
              have hSN := SX.out.put hg0 GX.out HAL.out p' hbt.out
              rw [hT.out] at hSN
              have SN := Lib.hid hSN
              exact ⟨⟨j + 1, _, by omega, by go_num, SN, HH2⟩, by simp [intOf]; omega⟩
    · obtain rfl : j = N := by omega
      have hR0 := HR2.out ps (by rw [← HH.out, List.drop_eq_nil_of_le (by rw [hN.out]; exact Nat.le_refl _)]; rfl)
      have HR0 := Lib.hid hR0
      have SS := Lib.hid S.out
      have hcl : Hid (ps.length = M) := S.out.len
      have q0 := S.out.r0
      have q1 := S.out.r1
      have f0 := S.out.fr 0
      have f1 := S.out.fr 1
      obtain ⟨wj, hwj⟩ : ∃ wj, Hid (wr = wj) := ⟨_, rfl⟩
      rw [hwj.out] at SS q0 q1 f0 f1 ⊢
      clear hR0 S HH
      go_wp2_with fail
      go_loopw [9, 10] (fun v i wz => ∃ (k : Nat) (V : ByteArray), k ≤ M ∧ i = .int .i64 k ∧ v = .string V ∧ Hid (V.data.toList = joinP (ps.take k)) ∧ wj = wz) (fun _ i _ => M - (intOf i).toNat)
      case atStart => exact ⟨0, _, Nat.zero_le _, rfl, rfl, rfl, rfl⟩
      case round =>
        obtain ⟨k, V, hk, rfl, rfl, HV, rfl⟩ := hrel
        by_cases hlt2 : k < M
        · have hkl : k < ps.length := by rw [hcl.out]; exact hlt2
          obtain ⟨⟨l, fd, lo⟩, hy⟩ : ∃ y, ps[k] = y := ⟨_, rfl⟩
          have hj2 : ps[k]? = some ⟨l, fd, lo⟩ := by rw [List.getElem?_eq_getElem hkl, hy]
          obtain ⟨g, rfl, hg0, hg⟩ : ∃ g, g0 = some ⟨g, 0, none⟩ ∧ w.heap.size < g ∧ RG wj g ps := SS.out.pg.resolve_left (fun h => by rw [h] at hkl; exact absurd hkl (by simp))
          obtain ⟨p0, p1, p2⟩ := hg.cel k _ hj2
          simp only at p0 p1 p2
          have HJS : Hid (joinP (ps.take (k + 1)) = joinP (ps.take k) ++ (if lo = true then [] else l ++ (if fd = true then [10] else []))) := by
            unfold Hid
            rw [joinP_snoc _ k hkl]
            have : ps.getD k default = ⟨l, fd, lo⟩ := by rw [List.getD, hj2]; rfl
            rw [this]
          have hVs : V.size ≤ 100001 * 3001 := by
            rw [Lib.size_eq, HV.out]
            have h1 := joinP_len 100000 (ps.take k) (fun p hp => SS.out.sz p (List.mem_of_mem_take hp))
            rw [List.length_take, hcl.out] at h1
            have h2 : min k M ≤ 3001 := by omega
            have h3 := Nat.mul_le_mul_left 100001 h2
            omega
          have hll : l.length ≤ 100000 := SS.out.sz _ (List.mem_of_getElem? hj2)
          obtain ⟨t, ht⟩ : ∃ t, Hid (bs l = t) := ⟨_, rfl⟩
          have hts : t.size ≤ 100000 := by rw [← ht.out, bs_size]; exact hll
          have htl : Hid (t.data.toList = l) := by rw [← ht.out]; unfold Hid; rfl
          rw [ht.out] at p0
          have hlt2' : (k : Int) < (M : Int) := by omega
          have hk0 : (0 : Int) ≤ (k : Int) := by omega
          have b1 : ¬ 9223372036854775807 < V.size + t.size := by omega
          have b2 : ¬ 9223372036854775807 < V.size + t.size + 1 := by omega
          clear hg hj2 hkl hy hll
          cases lo with
          | true =>
            go_wp2_with fail
            refine ⟨⟨k + 1, V, by omega, by go_num, rfl, ?_, trivial⟩, by simp [intOf]; omega⟩
            unfold Hid
            rw [HJS.out, if_pos rfl, List.append_nil]; exact HV.out
          | false =>
            cases fd with
            | true =>
              go_wp2_with fail
              refine ⟨⟨k + 1, _, by omega, by go_num, rfl, ?_, trivial⟩, by simp [intOf]; omega⟩
              unfold Hid
              rw [HJS.out, if_neg (fun e => Bool.false_ne_true e), if_pos rfl, ByteArray.data_append, ByteArray.data_append, Array.toList_append, Array.toList_append, HV.out, htl.out, List.append_assoc]
            | false =>
              go_wp2_with fail
              refine ⟨⟨k + 1, _, by omega, by go_num, rfl, ?_, trivial⟩, by simp [intOf]; omega⟩
              unfold Hid
              rw [HJS.out, if_neg (fun e => Bool.false_ne_true e), if_neg (fun e => Bool.false_ne_true e), ByteArray.data_append, Array.toList_append, HV.out, htl.out, List.append_nil]
        · obtain rfl : k = M := by omega
          have HVV : Hid (rs = V) := by
            have h1 := HR0.out.1
            have h2 := HV.out
            rw [List.take_of_length_le (by rw [hcl.out]; exact Nat.le_refl _)] at h2
            unfold Hid
            rw [h1, ← h2]; rfl
          clear HV
          go_wp2_with fail
          refine bodyPost_ret (v := .agg #[.string V, .int .i64 0]) (by simp [results, Tryz.results49, go_sem, q0, q1]) rfl ⟨by rw [HVV.out, HR0.out.2], SS.out.res _ _⟩
end Go.Proofs.YtmfhpddeclggfaaGreatDoor
