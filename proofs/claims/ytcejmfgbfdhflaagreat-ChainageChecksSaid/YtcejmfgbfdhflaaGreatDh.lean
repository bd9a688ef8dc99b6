import Derived.Test.YtcejmfgbfdhflaaGreatDg
import Derived.WalkKit
import Derived.LoopTactic
import Derived.WalkSpells
import Derived.WalkLawsBesides
import Derived.Lib.Hide
import Derived.BigQuiet
import Derived.IntWalk
import Derived.Deep.DeepMust
import Derived.WalkSmall
import Derived.StillTailTactics
import Derived.Deep.RegionLaw
import Derived.Deep.RegionHeld3
import Derived.Deep.QuietTactic
namespace Go.Proofs.YtcejmfgbfdhflaaGreat
open Go.RowKit Go.Shelf Go.BigFrame Go.Sort
attribute [local go_sem] World.cell?_alloc_some
deriving instance DecidableEq for Spl
theorem eqs_chk {x : WA} {a : List Ch} {b c : List Pf} (h1 : x.cs = a) (h2 : x.ps = b) (h3 : x.rs = c) : chk x = chk ⟨a, b, c, none, none, none, 0, 0, 0⟩ := by rw [chk, h1, h2, h3]; rfl
theorem sE_at {x : WA} {c : Ch} {id y : Int} (h : chk x = 0) (hc : chF x.cs id = some c) (hy : c.year ≤ y ∧ y ≤ 4000) : sE x id y = 0 := by
  unfold sE
  rw [if_neg (by simp [h]), hc, if_neg (by simp), chOr_some hc]
  rw [show inB c.year 4000 y = true from inB_iff.2 hy, if_neg (by simp)]
def S1 : Spl := ⟨1800, 4000, 5, [c0L.th, p3L.th]⟩
def S2 : Spl := ⟨1800, 4000, 5, [c0L.th, p3L.th, p4L.th]⟩
theorem begs0 : tsO ⟨[c0L], [], [], none, none, none, 0, 0, 0⟩ c0L = [c0L.th] := by simp [tsO, srtB, begs]
theorem tsO_eq {x y : WA} (h : x.rs = y.rs) (c : Ch) : tsO x c = tsO y c := by unfold tsO; rw [h]
theorem spO_eq {x y : WA} (h : x.rs = y.rs) (k : x.ps = y.ps) (c : Ch) (n : Int) : spO x c n = spO y c n := by unfold spO ixO; rw [tsO_eq h, k]
theorem cnt_one {y : Int} (h : 1800 ≤ y) : cntU [1800] y = 1 := by simp [cntU, h]
theorem spO_1 {x : WA} (h2 : x.ps = [p3L]) (h3 : x.rs = []) {y : Int} (hy : 1800 ≤ y) : spO x c0L y = S1 := by
  have e1 : tsO x c0L = [c0L.th] := by rw [← begs0]; exact tsO_eq h3 _
  unfold spO ixO
  rw [e1, h2, show List.map (·.year) [c0L.th] = [1800] from rfl, cnt_one hy]
  decide +kernel
theorem spO_2 {x : WA} (h2 : x.ps = [p3L, p4L]) (h3 : x.rs = []) {y : Int} (hy : 1800 ≤ y) : spO x c0L y = S2 := by
  have e1 : tsO x c0L = [c0L.th] := by rw [← begs0]; exact tsO_eq h3 _
  unfold spO ixO
  rw [e1, h2, show List.map (·.year) [c0L.th] = [1800] from rfl, cnt_one hy]
  decide +kernel
theorem ev_1 {x : WA} (h1 : x.cs = [c0L]) (h2 : x.ps = [p3L]) (h3 : x.rs = []) {y : Int} (hy : 1800 ≤ y ∧ y ≤ 4000) : agE x 1 y = 0 ∧ lgLo x 1 y = lowS S1 y ∧ lgHi x 1 y = highS S1 y ∧ rsLo x 1 y = loNo S1 y ∧ rsHi x 1 y = hiNo S1 y := by
  have hk : chk x = 0 := by rw [eqs_chk h1 h2 h3]; decide +kernel
  have hc : chF x.cs 1 = some c0L := by rw [h1]; decide +kernel
  have hs := sE_at hk hc hy
  have e1 : spO x (chOr x.cs 1) y = S1 := by rw [chOr_some hc]; exact spO_1 h2 h3 hy.1
  have e2 : agE x 1 y = 0 := by unfold agE; rw [if_neg (by simp [hs]), e1, if_pos (by decide +kernel)]
  refine ⟨e2, ?_, ?_, ?_, ?_⟩
  · unfold lgLo; rw [if_pos e2, e1]
  · unfold lgHi; rw [if_pos e2, e1]
  · unfold rsLo; rw [if_pos e2, e1]
  · unfold rsHi; rw [if_pos e2, e1]
theorem ev_2 {x : WA} (h1 : x.cs = [c0L]) (h2 : x.ps = [p3L, p4L]) (h3 : x.rs = []) {y : Int} (hy : 1800 ≤ y ∧ y ≤ 4000) : agE x 1 y = 0 ∧ lgLo x 1 y = lowS S2 y ∧ lgHi x 1 y = highS S2 y := by
  have hk : chk x = 0 := by rw [eqs_chk h1 h2 h3]; decide +kernel
  have hc : chF x.cs 1 = some c0L := by rw [h1]; decide +kernel
  have hs := sE_at hk hc hy
  have e1 : spO x (chOr x.cs 1) y = S2 := by rw [chOr_some hc]; exact spO_2 h2 h3 hy.1
  have e2 : agE x 1 y = 0 := by unfold agE; rw [if_neg (by simp [hs]), e1, if_pos (by decide +kernel)]
  refine ⟨e2, ?_, ?_⟩
  · unfold lgLo; rw [if_pos e2, e1]
  · unfold lgHi; rw [if_pos e2, e1]
def m1L : Ms := ⟨1, 1810, 3, 50, 1⟩
theorem ds_1 {x : WA} (h1 : x.cs = [c0L]) (h2 : x.ps = [p3L]) (h3 : x.rs = []) : dsE x m1L = 0 ∧ dsLo x m1L = 349 ∧ dsHi x m1L = 353 := by
  have hk : chk x = 0 := by rw [eqs_chk h1 h2 h3]; decide +kernel
  have e := ev_1 h1 h2 h3 (y := 1810) (by decide)
  have hm : okMs x.cs m1L = true := by rw [h1]; decide +kernel
  have e1 : dsE x m1L = 0 := by
    unfold dsE
    rw [if_neg (by simp [hk]), if_neg (by simp [hm])]
    exact e.1
  refine ⟨e1, ?_, ?_⟩
  · unfold dsLo
    rw [if_pos e1, show lgLo x m1L.ch m1L.year = lowS S1 1810 from e.2.1]
    decide +kernel
  · unfold dsHi
    rw [if_pos e1, show lgHi x m1L.ch m1L.year = highS S1 1810 from e.2.2.1]
    decide +kernel
theorem cl_3 {x : WA} (h1 : x.cs = [c0L]) (h2 : x.ps = [p3L, p5L]) (h3 : x.rs = []) : cl1 x = 0 ∧ cl2 x = 5 ∧ clZ x = true ∧ chk x = 0 := by
  have hk : chk x = 0 := by rw [eqs_chk h1 h2 h3]; decide +kernel
  have e1 : tsO x c0L = [c0L.th] := by rw [← begs0]; exact tsO_eq h3 _
  have e2 : clU x c0L (tsO x c0L).length = [(0, 5)] := by
    unfold clU
    rw [e1, h2]
    decide +kernel
  have e3 : clsL x = [(0, 5)] := by
    unfold clsL clA
    rw [if_pos hk, h1]
    simp only [List.flatMap_cons, List.flatMap_nil, List.append_nil, clC, e2]
    simp [srtQ]
  unfold cl1 cl2 clZ
  rw [e3]
  exact ⟨rfl, rfl, rfl, hk⟩
theorem ts_4 {x : WA} (h3 : x.rs = [r8L]) : tsO x c0L = [c0L.th, r8L.th] := by
  unfold tsO
  rw [h3]
  refine (srtB_uniq ?_ ?_ ?_).symm
  · rw [show begs [r8L] c0L = [c0L.th, r8L.th] from by decide +kernel]; decide +kernel
  · rw [show begs [r8L] c0L = [c0L.th, r8L.th] from by decide +kernel]
  · decide +kernel
theorem sl_4 {x : WA} (h1 : x.cs = [c0L]) (h2 : x.ps = [p3L, p5L]) (h3 : x.rs = [r8L]) : (sE x 1 1810 = 0 ∧ slLo x 1 1810 = 1800 ∧ slHi x 1 1810 = 1814) ∧ sE x 1 1815 = 0 ∧ slLo x 1 1815 = 1815 ∧ slHi x 1 1815 = 4000 := by
  have hk : chk x = 0 := by rw [eqs_chk h1 h2 h3]; decide +kernel
  have hc : chF x.cs 1 = some c0L := by rw [h1]; decide +kernel
  have hs := sE_at hk hc (y := 1810) (by decide)
  have hs2 := sE_at hk hc (y := 1815) (by decide)
  refine ⟨⟨hs, ?_, ?_⟩, hs2, ?_, ?_⟩
  · unfold slLo; rw [if_pos hs, chOr_some hc]; unfold spO ixO; rw [ts_4 h3, h2]; decide +kernel
  · unfold slHi; rw [if_pos hs, chOr_some hc]; unfold spO ixO; rw [ts_4 h3, h2]; decide +kernel
  · unfold slLo; rw [if_pos hs2, chOr_some hc]; unfold spO ixO; rw [ts_4 h3, h2]; decide +kernel
  · unfold slHi; rw [if_pos hs2, chOr_some hc]; unfold spO ixO; rw [ts_4 h3, h2]; decide +kernel
end Go.Proofs.YtcejmfgbfdhflaaGreat
