import Derived.RangeFuncNested
import Derived.RangeFuncBound
import Derived.RangeFuncCalls
import Derived.RangeFuncLeaves
import Derived.Test.YtmfhpddeclggfaaGreatDoorDa
import Derived.RangeFuncBox
import Derived.Shelf.Abstract
import Derived.Shelf.RegionOpen
import Derived.OwnWalkIn
import Derived.TacticsInMore
import Derived.LoopNIn
import Derived.LoopIn
import Derived.Maps.AppendAt
import Derived.WalkKit
import Derived.LoopTactic
import Derived.WalkSpells
import Derived.WalkLawsBesides
import Derived.Lib.Hide
import Derived.BigQuiet
import Derived.IntWalk
import Derived.Deep.DeepMust
import Derived.WalkSmall
import Derived.StillTailTactics
import Derived.Deep.RegionLaw
import Derived.Deep.QuietTactic
import Derived.Deep.Cut
import Derived.Deep.DeepCutAuto
import Derived.Deep.LoopGhost
import Derived.Laws.AppendOwn
namespace Go.Proofs.YtmfhpddeclggfaaGreatDoor
open Go.RowKit
/-! The comparison of two lists of lines. -/
theorem LN.lines {B : Nat} {W : World} {vl vo : Value} {gs : List GL} {os : List ByteArray} (h : LN B W vl vo gs os) : ∃ q cap, vl = .slice q gs.length cap ∧ LinesAt W q gs := by
  have hst : ∀ j, j < gs.length → StrsAt W (gs.getD j default).p (gs.getD j default).ws := fun j hj => by
    rw [List.getD, List.getElem?_eq_getElem hj]
    exact (h.wds _ (List.getElem_mem hj)).strs
  obtain ⟨h1, ⟨rfl, h2⟩ | ⟨g, cap, cur, rfl, hg, hc, h3, h4, h5, h6⟩⟩ := h.row
  · exact ⟨none, 0, by rw [h2], .inl (List.length_eq_zero_iff.1 h2), hst⟩
  · refine ⟨some ⟨g, 0, none⟩, cap, rfl, .inr ⟨g, 0, rfl, (Array.getElem?_eq_some_iff.1 hc).1, fun j hj => ?_⟩, hst⟩
    have e : gs[j]? = some (gs.getD j default) := by rw [List.getD, List.getElem?_eq_getElem hj]; rfl
    obtain ⟨k1, k2⟩ := flatG_get e
    rw [← h6, List.getElem?_take_of_lt (by omega)] at k1 k2
    rw [Nat.zero_add]
    exact ⟨by simpa [World.cell?, hc] using k1, by simpa [World.cell?, hc] using k2⟩
theorem LNP.lines {B : Nat} {W : World} {vl vo : Value} {ps : List ByteArray} (h : LNP B W vl vo ps) : ∃ (gs : List GL) (q : Option Addr) (c : Nat) (r : Option Addr) (d : Nat), gs.map glKey = (lnsOf ps).map rdKey ∧ vl = .slice q gs.length c ∧ vo = .slice r (otsOf ps).length d ∧ LinesAt W q gs ∧ StrsAt W r (otsOf ps) := by
  obtain ⟨gs, h1, h2⟩ := h
  obtain ⟨q, c, e1, hl⟩ := h2.lines
  obtain ⟨r, d, e2, hs⟩ := strs_own h2.oth
  exact ⟨gs, q, c, r, d, h1, e1, e2, hl, hs⟩
theorem lines_cell {W : World} {p : Option Addr} {gs : List GL} (h : LinesAt W p gs) {k : Nat} (hk : k < gs.length) : ∃ b o, p = some ⟨b, o, none⟩ ∧ b < W.heap.size ∧ W.cell? ⟨b, o + k * 2, none⟩ = some (.int .i64 (gs.getD k default).n) ∧ W.cell? ⟨b, o + k * 2 + 1, none⟩ = some (.slice (gs.getD k default).p (gs.getD k default).ws.length (gs.getD k default).cap) ∧ StrsAt W (gs.getD k default).p (gs.getD k default).ws := by
  obtain ⟨h | ⟨b, o, h1, h2, h3⟩, h4⟩ := h
  · rw [h] at hk; exact absurd hk (by simp)
  · exact ⟨b, o, h1, h2, (h3 k hk).1, (h3 k hk).2, h4 k hk⟩
theorem key_at {gs ls : List GL} (h : gs.map glKey = ls.map glKey) {k : Nat} (hk : k < gs.length) : (gs.getD k default).n = (ls.getD k default).n ∧ (gs.getD k default).ws = (ls.getD k default).ws := by
  have hl : gs.length = ls.length := by simpa using congrArg List.length h
  have h1 := congrArg (fun l => l[k]?) h
  simp only [List.getElem?_map] at h1
  rw [List.getElem?_eq_getElem hk, List.getElem?_eq_getElem (by omega)] at h1
  rw [List.getD, List.getD, List.getElem?_eq_getElem hk, List.getElem?_eq_getElem (by omega)]
  simp only [Option.map_some, Option.some.injEq, glKey, Prod.mk.injEq] at h1
  exact h1
set_option maxRecDepth 100000 in
set_option maxHeartbeats 4000000 in
theorem sameLines (p q : Option Addr) (c d : Nat) (gs ls : List GL) (w : World) (hl : gs.length ≤ 1000001) (hk : gs.map glKey = ls.map glKey) (hm : ∀ j, (gs.getD j default).ws.length ≤ maxLen) (hp : LinesAt w p gs) (hq : LinesAt w q ls) :
    Calls Tryz.prog 47 #[.slice p gs.length c, .slice q ls.length d] w fun e w' => e = .returned (.bool true) ∧ Below w.heap.size w w' := by
  have hlen : ls.length = gs.length := by simpa using (congrArg List.length hk).symm
  have HK := Lib.hid hk
  have HMx := Lib.hid hm
  have HP := Lib.hid hp
  have HQ := Lib.hid hq
  have HL2 := Lib.hid hlen
  rw [hlen]
  obtain ⟨N, hN⟩ : ∃ N, Hid (gs.length = N) := ⟨_, rfl⟩
  rw [hN.out] at hl ⊢
  clear hk hp hq hlen hm
  go_enter Tryz.func47, Tryz.ntmps47
  go_wp2_with fail
  go_loopw [5, 13] (fun _ i wr => ∃ k : Nat, k ≤ N ∧ i = .int .i64 k ∧ Hid (Below w.heap.size w wr)) (fun _ i _ => N - (intOf i).toNat)
  case atStart => exact ⟨0, Nat.zero_le _, rfl, Below.refl _ _⟩
  case round =>
    obtain ⟨k, hk, rfl, B⟩ := hrel
    by_cases hlt : k < N
    · have hkg : k < gs.length := by rw [hN.out]; exact hlt
      obtain ⟨b, o, rfl, hb1, a0, a1, a2⟩ := lines_cell (HP.out.below B.out) hkg
      obtain ⟨b', o', rfl, hb2, b0, b1, b2⟩ := lines_cell (HQ.out.below B.out) (k := k) (by rw [HL2.out]; exact hkg)
      obtain ⟨e1, e2⟩ := key_at HK.out hkg
      rw [← e1] at b0
      rw [← e2] at b1 b2
      have hml := HMx.out k
      obtain ⟨n, hn⟩ : ∃ n, (gs.getD k default).n = n := ⟨_, rfl⟩
      obtain ⟨ws, hws⟩ : ∃ ws, (gs.getD k default).ws = ws := ⟨_, rfl⟩
      obtain ⟨p1, hp1⟩ : ∃ p1, (gs.getD k default).p = p1 := ⟨_, rfl⟩
      obtain ⟨c1, hc1⟩ : ∃ p1, (gs.getD k default).cap = p1 := ⟨_, rfl⟩
      obtain ⟨p2, hp2⟩ : ∃ p1, (ls.getD k default).p = p1 := ⟨_, rfl⟩
      obtain ⟨c2, hc2⟩ : ∃ p1, (ls.getD k default).cap = p1 := ⟨_, rfl⟩
      rw [hn] at a0 b0
      rw [hp1, hws, hc1] at a1
      rw [hp1, hws] at a2
      rw [hp2, hws, hc2] at b1
      rw [hp2, hws] at b2
      rw [hws] at hml
      have hsame : sameB n n ws ws = true := sameB_yes rfl (fun _ _ => rfl)
      have CS : Hid (∀ W, Below wr.heap.size wr W → Calls Tryz.prog 37 #[.agg #[.int .i64 n, .slice p1 ws.length c1], .agg #[.int .i64 n, .slice p2 ws.length c2]] W fun e w' => e = .returned (.bool true) ∧ Below W.heap.size W w') := fun W hbW => by
        have := rSame n n p1 p2 c1 c2 ws ws W hml (a2.below hbW) (b2.below hbW)
        rwa [hsame] at this
      have hlt' : (k : Int) < (N : Int) := by omega
      have hk0 : (0 : Int) ≤ (k : Int) := by omega
      obtain ⟨ln, hln⟩ : ∃ ln, ws.length = ln := ⟨_, rfl⟩
      rw [hln] at a1 b1 CS
      clear hn hws hp1 hc1 hp2 hc2 hml hsame e1 e2 a2 b2 hln hb1 hb2
      go_wp2_with fail
      go_region_with (refine (CS.out _ (Below.refl _ _).drew).mono ?_; rintro e w2 ⟨rfl, hb3⟩)
      all_goals
        have B2 : Hid (Below w.heap.size w w2) := (B.out.drew).trans (hb3.mono B.out.size)
        clear hb3
        go_wp2
        exact ⟨⟨k + 1, by omega, by go_num, B2⟩, by simp [intOf]; omega⟩
    · obtain rfl : k = N := by omega
      go_wp2_with fail
      go_ret
      exact ⟨rfl, B.out⟩
end Go.Proofs.YtmfhpddeclggfaaGreatDoor
