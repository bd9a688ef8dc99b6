import Derived.Test.YtcejmfgbfdhflaaGreatQa
import Derived.WalkKit
import Derived.LoopTactic
import Derived.WalkSpells
import Derived.WalkLawsBesides
import Derived.Lib.Hide
import Derived.BigQuiet
import Derived.IntWalk
import Derived.Deep.DeepMust
import Derived.WalkSmall
import Derived.StillTailTactics
import Derived.Deep.RegionLaw
import Derived.Deep.RegionHeld3
import Derived.Deep.QuietTactic
/-
  Ca Cb Cc Cd Ce Fl Cf Cg: merged.
-/
namespace Go.Proofs.YtcejmfgbfdhflaaGreat
open Go.RowKit Go.BigFrame Go.Sort
attribute [local go_sem] World.cell?_alloc_some
theorem take_snocH {α : Type} (l : List α) (k : Nat) (h : k < l.length) : l.take (k + 1) = l.take k ++ [l[k]] := by
  rw [List.take_succ_eq_append_getElem h]
/-- Chains lie at a slice. -/
def ChsAt (W : World) (p : Option Addr) (l : List Ch) : Prop :=
  l = [] ∨ ∃ b o, p = some ⟨b, o, none⟩ ∧ b < W.heap.size ∧ ∀ (j : Nat) (c : Ch), l[j]? = some c →
    W.cell? ⟨b, o + j * 5, none⟩ = some (.int .i64 c.id) ∧ W.cell? ⟨b, o + j * 5 + 1, none⟩ = some (.int .i64 c.year) ∧ W.cell? ⟨b, o + j * 5 + 2, none⟩ = some (.int .i64 c.lo) ∧ W.cell? ⟨b, o + j * 5 + 3, none⟩ = some (.int .i64 c.hi) ∧ W.cell? ⟨b, o + j * 5 + 4, none⟩ = some (.int .i64 c.wear)
/-- Proofs, or repairs, lie at a slice. -/
def PfsAt (W : World) (p : Option Addr) (l : List Pf) : Prop :=
  l = [] ∨ ∃ b o, p = some ⟨b, o, none⟩ ∧ b < W.heap.size ∧ ∀ (j : Nat) (c : Pf), l[j]? = some c →
    W.cell? ⟨b, o + j * 5, none⟩ = some (.int .i64 c.id) ∧ W.cell? ⟨b, o + j * 5 + 1, none⟩ = some (.int .i64 c.ch) ∧ W.cell? ⟨b, o + j * 5 + 2, none⟩ = some (.int .i64 c.year) ∧ W.cell? ⟨b, o + j * 5 + 3, none⟩ = some (.int .i64 c.lo) ∧ W.cell? ⟨b, o + j * 5 + 4, none⟩ = some (.int .i64 c.hi)
theorem ChsAt.keep {W W' : World} {p : Option Addr} {l : List Ch} (h : ChsAt W p l) (hb : Below W.heap.size W W') : ChsAt W' p l := by
  rcases h with rfl | ⟨b, o, rfl, hlt, hc⟩
  · exact Or.inl rfl
  · refine Or.inr ⟨b, o, rfl, Nat.lt_of_lt_of_le hlt hb.size, fun j q hq => ?_⟩
    rw [hb.cell (p := ⟨b, o + j * 5, none⟩) hlt, hb.cell (p := ⟨b, o + j * 5 + 1, none⟩) hlt, hb.cell (p := ⟨b, o + j * 5 + 2, none⟩) hlt, hb.cell (p := ⟨b, o + j * 5 + 3, none⟩) hlt, hb.cell (p := ⟨b, o + j * 5 + 4, none⟩) hlt]
    exact hc j q hq
theorem PfsAt.keep {W W' : World} {p : Option Addr} {l : List Pf} (h : PfsAt W p l) (hb : Below W.heap.size W W') : PfsAt W' p l := by
  rcases h with rfl | ⟨b, o, rfl, hlt, hc⟩
  · exact Or.inl rfl
  · refine Or.inr ⟨b, o, rfl, Nat.lt_of_lt_of_le hlt hb.size, fun j q hq => ?_⟩
    rw [hb.cell (p := ⟨b, o + j * 5, none⟩) hlt, hb.cell (p := ⟨b, o + j * 5 + 1, none⟩) hlt, hb.cell (p := ⟨b, o + j * 5 + 2, none⟩) hlt, hb.cell (p := ⟨b, o + j * 5 + 3, none⟩) hlt, hb.cell (p := ⟨b, o + j * 5 + 4, none⟩) hlt]
    exact hc j q hq
theorem ChsAt.take {W : World} {p : Option Addr} {l : List Ch} (h : ChsAt W p l) (k : Nat) : ChsAt W p (l.take k) := by
  rcases h with rfl | ⟨b, o, rfl, hlt, hc⟩
  · exact Or.inl (by simp)
  · exact Or.inr ⟨b, o, rfl, hlt, fun j q hq => hc j q (by rw [List.getElem?_take] at hq; split at hq; exact hq; cases hq)⟩
theorem PfsAt.take {W : World} {p : Option Addr} {l : List Pf} (h : PfsAt W p l) (k : Nat) : PfsAt W p (l.take k) := by
  rcases h with rfl | ⟨b, o, rfl, hlt, hc⟩
  · exact Or.inl (by simp)
  · exact Or.inr ⟨b, o, rfl, hlt, fun j q hq => hc j q (by rw [List.getElem?_take] at hq; split at hq; exact hq; cases hq)⟩
/-- The chain of an ID. -/
def chF (l : List Ch) (id : Int) : Option Ch := l.find? fun c => c.id == id
def noCh : Ch := ⟨0, 0, 0, 0, 0⟩
def chOr (l : List Ch) (id : Int) : Ch := (chF l id).getD noCh
theorem chF_hit {l : List Ch} {id : Int} {k : Nat} (h : k < l.length) (ha : ∀ j, (hj : j < l.length) → j < k → l[j].id ≠ id) (he : l[k].id = id) : chF l id = some l[k] := by
  unfold chF
  rw [List.find?_eq_some_iff_getElem]
  exact ⟨by simpa using he, k, h, rfl, fun j hj => by simpa using ha j (by omega) hj⟩
theorem chF_none {l : List Ch} {id : Int} (ha : ∀ j, (hj : j < l.length) → l[j].id ≠ id) : chF l id = none := by
  unfold chF
  rw [List.find?_eq_none]
  intro x hx
  obtain ⟨j, hj, rfl⟩ := List.getElem_of_mem hx
  simpa using ha j hj
theorem set5 {n b : Nat} {w W : World} (h : Below n w W) (hb : n ≤ b) (v0 v1 v2 v3 v4 : Value) :
    Below n w (((((W.setCell ⟨b, 0, none⟩ v0).setCell ⟨b, 1, none⟩ v1).setCell ⟨b, 2, none⟩ v2).setCell ⟨b, 3, none⟩ v3).setCell ⟨b, 4, none⟩ v4) :=
  ((((h.setCell (p := ⟨b, 0, none⟩) hb _).setCell (p := ⟨b, 1, none⟩) hb _).setCell (p := ⟨b, 2, none⟩) hb _).setCell (p := ⟨b, 3, none⟩) hb _).setCell (p := ⟨b, 4, none⟩) hb _
set_option maxHeartbeats 400000 in
/-- The closure of chainOf. -/
theorem isId_any (c : Ch) (id : Int) (B : Nat) (w : World) (hB : B < w.heap.size) (hc : w.cell? ⟨B, 0, none⟩ = some (.int .i64 id)) :
    Calls Tryz.prog 175 #[c.v, .pointer (some ⟨B, 0, none⟩)] w fun e w' => e = .returned (.bool (decide (c.id = id))) ∧ Gr w w' := by
  have hne : B ≠ w.heap.size := by omega
  go_enter Tryz.func175, Tryz.ntmps175
  go_wp2
  all_goals (go_ret; exact ⟨ret_bool (by rw [Bool.eq_iff_iff]; simp), Gr.al _ _⟩)
set_option maxHeartbeats 1600000 in
/-- slices.IndexFunc at chains, with this closure. -/
theorem idxC_any (q : Option Addr) (cap : Nat) (l : List Ch) (id : Int) (B : Nat) (w : World) (hl : l.length ≤ 1000) (h : ChsAt w q l) (hB : B < w.heap.size) (hB2 : w.cell? ⟨B, 0, none⟩ = some (.int .i64 id)) :
    Calls Tryz.prog 174 #[.slice q l.length cap, .func (.func 175) #[] #[.pointer (some ⟨B, 0, none⟩)]] w fun e w' => ∃ n : Int, e = .returned (.int .i64 n) ∧ Gr w w' ∧ ((n = -1 ∧ chF l id = none) ∨ ∃ k : Nat, n = (k : Int) ∧ ∃ hk : k < l.length, chF l id = some l[k]) := by
  have H := Lib.hid h
  have HB := Lib.hid (And.intro hB hB2)
  clear h hB hB2
  go_enter Tryz.func174, Tryz.ntmps174
  go_wp2_with fail
  go_loopw [8] (fun i wr => ∃ (k : Nat), Gr w wr ∧ i = .int .i64 (k : Int) ∧ k ≤ l.length ∧ ∀ j, (hj : j < l.length) → j < k → l[j].id ≠ id) (fun i wr => l.length - (intOf i).toNat)
  case atStart => exact ⟨0, Gr.refl _, rfl, Nat.zero_le _, fun j _ h => absurd h (by omega)⟩
  case round =>
    obtain ⟨k, hG, rfl, hk, ha⟩ := hrel
    have HA := Lib.hid ha
    have HG := Lib.hid hG
    clear ha
    by_cases hlt : k < l.length
    · rcases H.out with h0 | ⟨b, o, rfl, hb, hc⟩
      · exact absurd hlt (by simp [h0])
      · obtain ⟨c1, c2, c3, c4, c5⟩ := hc k l[k] (List.getElem?_eq_getElem hlt)
        have b1 := (hG.below.cell (p := ⟨b, o + k * 5, none⟩) hb).trans c1
        have b2 := (hG.below.cell (p := ⟨b, o + k * 5 + 1, none⟩) hb).trans c2
        have b3 := (hG.below.cell (p := ⟨b, o + k * 5 + 2, none⟩) hb).trans c3
        have b4 := (hG.below.cell (p := ⟨b, o + k * 5 + 3, none⟩) hb).trans c4
        have b5 := (hG.below.cell (p := ⟨b, o + k * 5 + 4, none⟩) hb).trans c5
        have CL := isId_any l[k] id B wr (Nat.lt_of_lt_of_le HB.out.1 hG.below.size) ((hG.below.cell (p := ⟨B, 0, none⟩) HB.out.1).trans HB.out.2)
        obtain ⟨c, hcc⟩ : ∃ c, l[k] = c := ⟨_, rfl⟩
        rw [hcc] at b1 b2 b3 b4 b5 CL
        have HC := Lib.hid hcc
        have hlt' : (k : Int) < (l.length : Int) := by omega
        clear c1 c2 c3 c4 c5 hc hb hG hcc
        by_cases he : c.id = id
        · rw [show decide (c.id = id) = true from decide_eq_true he] at CL
          have HE := Lib.hid he
          clear he
          go_wp2_with (go_at_call 175; refine CL.mono ?_; rintro e w1 ⟨rfl, hg⟩; have HG1 := Lib.hid (HG.out.trans hg); clear hg CL)
          go_ret
          exact ⟨k, rfl, HG1.out, .inr ⟨k, rfl, hlt, chF_hit hlt HA.out (by rw [HC.out]; exact HE.out)⟩⟩
        · rw [show decide (c.id = id) = false from decide_eq_false he] at CL
          have HE := Lib.hid he
          clear he
          go_wp2_with (go_at_call 175; refine CL.mono ?_; rintro e w1 ⟨rfl, hg⟩; have HG1 := Lib.hid (HG.out.trans hg); clear hg CL)
          go_roundw
          case rel => exact ⟨k + 1, HG1.out, by simp, hlt, fun j hj h => by
            by_cases e : j = k
            · subst e; rw [HC.out]; exact HE.out
            · exact HA.out j hj (by omega)⟩
          case measure => simp [intOf]; omega
    · obtain rfl : k = l.length := by omega
      clear hG
      go_wp2_with fail
      go_ret
      exact ⟨-1, rfl, HG.out, .inl ⟨rfl, chF_none fun j hj => HA.out j hj hj⟩⟩
set_option maxHeartbeats 1600000 in
theorem chainOf_any (q : Option Addr) (cap : Nat) (l : List Ch) (id : Int) (w : World) (hl : l.length ≤ 1000) (h : ChsAt w q l) :
    Calls Tryz.prog 112 #[.slice q l.length cap, .int .i64 id] w fun e w' => e = .returned (.tuple #[(chOr l id).v, .bool (chF l id).isSome]) ∧ Below w.heap.size w w' := by
  have CC := fun W (hb : Below w.heap.size w W) (B : Nat) (h1 : B < W.heap.size) (h2 : W.cell? ⟨B, 0, none⟩ = some (.int .i64 id)) => idxC_any q cap l id B W hl (h.keep hb) h1 h2
  have H := Lib.hid h
  clear h
  go_enter Tryz.func112, Tryz.ntmps112
  go_wp2_with fail
  obtain ⟨W0, hW0⟩ : ∃ W0, ((w).alloc (.cells #[.int .i64 id] 3)).alloc (.cells #[.int .i64 0, .int .i64 0, .int .i64 0, .int .i64 0, .int .i64 0] 90) = W0 := ⟨_, rfl⟩
  have S0 : St w W0 [(w.heap.size + 1, 0, .int .i64 0), (w.heap.size + 1, 1, .int .i64 0), (w.heap.size + 1, 2, .int .i64 0), (w.heap.size + 1, 3, .int .i64 0), (w.heap.size + 1, 4, .int .i64 0), (w.heap.size, 0, .int .i64 id)] := by rw [← hW0]; exact (((St.nil w)).box #[.int .i64 id] 3 (w.heap.size) (by simp)).box #[.int .i64 0, .int .i64 0, .int .i64 0, .int .i64 0, .int .i64 0] 90 (w.heap.size + 1) (by simp)
  rw [hW0]
  clear hW0
  obtain ⟨C, hC0, HC, LC, BC, hne⟩ := cls S0
  haveI := hne
  obtain ⟨c0, rfl⟩ : ∃ n : Wd C, W0 = n.w := ⟨⟨_, hC0⟩, rfl⟩
  have fC0 : ∀ n : Wd C, n.w.cell? ⟨w.heap.size + 1, 0, none⟩ = some (.int .i64 0) := fun n => (LC.out n).1.2.1
  have zC0 : ∀ n : Wd C, n.w.frozen? ⟨w.heap.size + 1, 0, none⟩ = false := fun n => (LC.out n).1.2.2
  have fC1 : ∀ n : Wd C, n.w.cell? ⟨w.heap.size + 1, 1, none⟩ = some (.int .i64 0) := fun n => (LC.out n).2.1.2.1
  have zC1 : ∀ n : Wd C, n.w.frozen? ⟨w.heap.size + 1, 1, none⟩ = false := fun n => (LC.out n).2.1.2.2
  have fC2 : ∀ n : Wd C, n.w.cell? ⟨w.heap.size + 1, 2, none⟩ = some (.int .i64 0) := fun n => (LC.out n).2.2.1.2.1
  have zC2 : ∀ n : Wd C, n.w.frozen? ⟨w.heap.size + 1, 2, none⟩ = false := fun n => (LC.out n).2.2.1.2.2
  have fC3 : ∀ n : Wd C, n.w.cell? ⟨w.heap.size + 1, 3, none⟩ = some (.int .i64 0) := fun n => (LC.out n).2.2.2.1.2.1
  have zC3 : ∀ n : Wd C, n.w.frozen? ⟨w.heap.size + 1, 3, none⟩ = false := fun n => (LC.out n).2.2.2.1.2.2
  have fC4 : ∀ n : Wd C, n.w.cell? ⟨w.heap.size + 1, 4, none⟩ = some (.int .i64 0) := fun n => (LC.out n).2.2.2.2.1.2.1
  have zC4 : ∀ n : Wd C, n.w.frozen? ⟨w.heap.size + 1, 4, none⟩ = false := fun n => (LC.out n).2.2.2.2.1.2.2
  have fC5 : ∀ n : Wd C, n.w.cell? ⟨w.heap.size, 0, none⟩ = some (.int .i64 id) := fun n => (LC.out n).2.2.2.2.2.1.2.1
  have zC5 : ∀ n : Wd C, n.w.frozen? ⟨w.heap.size, 0, none⟩ = false := fun n => (LC.out n).2.2.2.2.2.1.2.2
  clear S0 hC0
  refine (CC _ (BC.out _) w.heap.size (LC.out _).2.2.2.2.2.1.1 (fC5 _)).mono ?_
  rintro e w1 ⟨n, rfl, hg, hn⟩
  obtain ⟨m, rfl⟩ : ∃ m : Wd C, w1 = m.w := ⟨⟨_, HC.out _ _ (Wd.h _) hg.below⟩, rfl⟩
  clear hg CC
  rcases hn with ⟨rfl, hf⟩ | ⟨k, rfl, hk, hf⟩
  · have HF := Lib.hid hf
    clear hf
    go_wp2_with fail
    refine bodyPost_ret (v := .tuple #[noCh.v, .bool false]) (by simp [results, Tryz.results112, go_sem, fC0, fC1, fC2, fC3, fC4, noCh]) rfl ⟨?_, ?_⟩
    · rw [show chOr l id = noCh from by rw [chOr, HF.out]; rfl, HF.out]; rfl
    · exact set5 (BC.out m) (Nat.le_succ _) _ _ _ _ _
  · rcases H.out with h0 | ⟨b, o, rfl, hb, hc⟩
    · exact absurd hk (by simp [h0])
    obtain ⟨c1, c2, c3, c4, c5⟩ := hc k l[k] (List.getElem?_eq_getElem hk)
    have b1 : ∀ n : Wd C, n.w.cell? ⟨b, o + k * 5, none⟩ = _ := fun n => ((BC.out n).cell (p := ⟨b, o + k * 5, none⟩) hb).trans c1
    have b2 : ∀ n : Wd C, n.w.cell? ⟨b, o + k * 5 + 1, none⟩ = _ := fun n => ((BC.out n).cell (p := ⟨b, o + k * 5 + 1, none⟩) hb).trans c2
    have b3 : ∀ n : Wd C, n.w.cell? ⟨b, o + k * 5 + 2, none⟩ = _ := fun n => ((BC.out n).cell (p := ⟨b, o + k * 5 + 2, none⟩) hb).trans c3
    have b4 : ∀ n : Wd C, n.w.cell? ⟨b, o + k * 5 + 3, none⟩ = _ := fun n => ((BC.out n).cell (p := ⟨b, o + k * 5 + 3, none⟩) hb).trans c4
    have b5 : ∀ n : Wd C, n.w.cell? ⟨b, o + k * 5 + 4, none⟩ = _ := fun n => ((BC.out n).cell (p := ⟨b, o + k * 5 + 4, none⟩) hb).trans c5
    obtain ⟨c, hcc⟩ : ∃ c, l[k] = c := ⟨_, rfl⟩
    rw [hcc] at b1 b2 b3 b4 b5 hf
    have HF := Lib.hid hf
    clear c1 c2 c3 c4 c5 hc hb hf hcc
    have hlt' : (k : Int) < (l.length : Int) := by omega
    go_wp2_with fail
    refine bodyPost_ret (v := .tuple #[c.v, .bool true]) (by simp [results, Tryz.results112, go_sem, fC0, fC1, fC2, fC3, fC4]) rfl ⟨?_, ?_⟩
    · rw [show chOr l id = c from by rw [chOr, HF.out]; rfl, HF.out]; rfl
    · exact set5 (BC.out m) (Nat.le_succ _) _ _ _ _ _
end Go.Proofs.YtcejmfgbfdhflaaGreat
namespace Go.Proofs.YtcejmfgbfdhflaaGreat
open Go.RowKit Go.BigFrame Go.Sort
attribute [local go_sem] World.cell?_alloc_some
/-- Works, and where they lie. -/
structure WA where
  cs : List Ch
  ps : List Pf
  rs : List Pf
  q1 : Option Addr
  q2 : Option Addr
  q3 : Option Addr
  c1 : Nat
  c2 : Nat
  c3 : Nat
abbrev WA.v (x : WA) : Value := .agg #[.slice x.q1 x.cs.length x.c1, .slice x.q2 x.ps.length x.c2, .slice x.q3 x.rs.length x.c3]
structure WA.At (x : WA) (W : World) : Prop where
  cs : ChsAt W x.q1 x.cs
  ps : PfsAt W x.q2 x.ps
  rs : PfsAt W x.q3 x.rs
  n1 : x.cs.length ≤ 1000
  n2 : x.ps.length ≤ 1000
  n3 : x.rs.length ≤ 1000
  k1 : x.cs.length ≤ x.c1
  k2 : x.ps.length ≤ x.c2
  k3 : x.rs.length ≤ x.c3
  m1 : x.c1 ≤ maxLen
  m2 : x.c2 ≤ maxLen
  m3 : x.c3 ≤ maxLen
theorem WA.At.keep {x : WA} {W W' : World} (h : x.At W) (hb : Below W.heap.size W W') : x.At W' :=
  ⟨h.cs.keep hb, h.ps.keep hb, h.rs.keep hb, h.n1, h.n2, h.n3, h.k1, h.k2, h.k3, h.m1, h.m2, h.m3⟩
def WA.ids (x : WA) : List Int := x.ps.map (·.id) ++ x.rs.map (·.id)
set_option maxHeartbeats 400000 in
theorem proofID_any (p : Pf) (w : World) : Calls Tryz.prog 92 #[p.v] w fun e w' => e = .returned (.int .i64 p.id) ∧ Gr w w' := by
  go_enter Tryz.func92, Tryz.ntmps92
  go_wp2_with fail
  go_ret
  exact ⟨rfl, Gr.al _ _⟩
set_option maxHeartbeats 400000 in
theorem repairID_any (p : Pf) (w : World) : Calls Tryz.prog 94 #[p.v] w fun e w' => e = .returned (.int .i64 p.id) ∧ Gr w w' := by
  go_enter Tryz.func94, Tryz.ntmps94
  go_wp2_with fail
  go_ret
  exact ⟨rfl, Gr.al _ _⟩
set_option maxRecDepth 100000 in
set_option maxHeartbeats 3200000 in
theorem idsOf_any (x : WA) (w : World) (h : x.At w) : Calls Tryz.prog 76 #[x.v] w fun e w' => ∃ v, e = .returned v ∧ OI w' (w.heap.size + 1) v x.ids ∧ Below w.heap.size w w' := by
  have n2 := h.n2
  have n3 := h.n3
  have H2 := Lib.hid h.ps
  have H3 := Lib.hid h.rs
  clear h
  obtain ⟨cs, ps, rs, q1, q2, q3, c1, c2, c3⟩ := x
  simp only [WA.v, WA.ids] at *
  go_enter Tryz.func76, Tryz.ntmps76
  go_wp2_with fail
  obtain ⟨W0, hW0⟩ : ∃ W0, (w).alloc (.cells #[.slice q1 cs.length c1, .slice q2 ps.length c2, .slice q3 rs.length c3] 26) = W0 := ⟨_, rfl⟩
  have S0 : St w W0 [(w.heap.size, 0, .slice q1 cs.length c1), (w.heap.size, 1, .slice q2 ps.length c2), (w.heap.size, 2, .slice q3 rs.length c3)] := by rw [← hW0]; exact ((St.nil w)).box #[.slice q1 cs.length c1, .slice q2 ps.length c2, .slice q3 rs.length c3] 26 (w.heap.size) (by simp)
  rw [hW0]
  clear hW0
  obtain ⟨C, hC0, HC, LC, BC, hne⟩ := cls S0
  haveI := hne
  obtain ⟨c0, rfl⟩ : ∃ n : Wd C, W0 = n.w := ⟨⟨_, hC0⟩, rfl⟩
  have fC0 : ∀ n : Wd C, n.w.cell? ⟨w.heap.size, 0, none⟩ = some (.slice q1 cs.length c1) := fun n => (LC.out n).1.2.1
  have fC1 : ∀ n : Wd C, n.w.cell? ⟨w.heap.size, 1, none⟩ = some (.slice q2 ps.length c2) := fun n => (LC.out n).2.1.2.1
  have fC2 : ∀ n : Wd C, n.w.cell? ⟨w.heap.size, 2, none⟩ = some (.slice q3 rs.length c3) := fun n => (LC.out n).2.2.1.2.1
  clear S0 hC0
  go_loopw [3, 11] (fun v i wr => ∃ (k : Nat), St w wr [(w.heap.size, 0, .slice q1 cs.length c1), (w.heap.size, 1, .slice q2 ps.length c2), (w.heap.size, 2, .slice q3 rs.length c3)] ∧ i = .int .i64 (k : Int) ∧ k ≤ ps.length ∧ OI wr (w.heap.size + 1) v ((ps.take k).map (·.id))) (fun v i wr => ps.length - (intOf i).toNat)
  case atStart => exact ⟨0, ⟨BC.out _, LC.out _⟩, rfl, Nat.zero_le _, World.ownsRow_nil _ _ _ _⟩
  case round =>
    obtain ⟨k, hS, rfl, hk, hO⟩ := hrel
    have HO := Lib.hid hO
    have HS := Lib.hid hS
    have HB := Lib.hid hS.b
    clear fC0 fC1 fC2 hO
    by_cases hlt : k < ps.length
    · rcases H2.out with h0 | ⟨b, o, rfl, hb, hc⟩
      · exact absurd hlt (by simp [h0])
      · obtain ⟨c1, c2, c3, c4, c5⟩ := hc k ps[k] (List.getElem?_eq_getElem hlt)
        have b1 := (hS.b.cell (p := ⟨b, o + k * 5, none⟩) hb).trans c1
        have b2 := (hS.b.cell (p := ⟨b, o + k * 5 + 1, none⟩) hb).trans c2
        have b3 := (hS.b.cell (p := ⟨b, o + k * 5 + 2, none⟩) hb).trans c3
        have b4 := (hS.b.cell (p := ⟨b, o + k * 5 + 3, none⟩) hb).trans c4
        have b5 := (hS.b.cell (p := ⟨b, o + k * 5 + 4, none⟩) hb).trans c5
        have HN : Hid ((ps.take (k + 1)).map (·.id) = (ps.take k).map (·.id) ++ [ps[k].id]) := by unfold Hid; rw [take_snocG ps k hlt, List.map_append]; rfl
        have HL : Hid (((ps.take k).map (·.id)).length ≤ 1000000) := by unfold Hid; simp; omega
        obtain ⟨p, hp⟩ : ∃ p, ps[k] = p := ⟨_, rfl⟩
        rw [hp] at b1 b2 b3 b4 b5 HN
        have hlt' : (k : Int) < (ps.length : Int) := by omega
        clear c1 c2 c3 c4 c5 hc hb hS hp
        go_wp2_with (first
          | (go_at_call 92; refine (proofID_any _ _).mono ?_; rintro e w1 ⟨rfl, hg⟩; have HG := Lib.hid ((Gr.al _ _).trans hg).below; clear hg)
          | (at_builtin; refine appI (ownsRow_keep HO.out HG.out) (Nat.le_trans (Nat.succ_le_of_lt HS.out.c.1.1) HG.out.size) p.id HL.out rfl _ _ rfl rfl rfl ?_; intro v' w2 hO2 hg2))
        go_roundw
        case rel => exact ⟨k + 1, (HS.out.next HG.out).grown (ownsRow_keep HO.out HG.out) hg2 (Nat.le_succ _) (by simp), by simp, hlt, by rw [HN.out]; exact hO2⟩
        case measure => simp [intOf]; omega
    · obtain rfl : k = ps.length := by omega
      rw [List.take_length] at HO
      obtain ⟨f0, f1, f2, -⟩ := hS.c
      obtain ⟨-, f0, -⟩ := f0
      obtain ⟨-, f1, -⟩ := f1
      obtain ⟨-, f2, -⟩ := f2
      clear hS
      go_wp2_with fail
      clear f0 f1 f2
      go_loopw [3, 24] (fun v i wr => ∃ (k : Nat), St w wr [(w.heap.size, 0, .slice q1 cs.length c1), (w.heap.size, 1, .slice q2 ps.length c2), (w.heap.size, 2, .slice q3 rs.length c3)] ∧ i = .int .i64 (k : Int) ∧ k ≤ rs.length ∧ OI wr (w.heap.size + 1) v (ps.map (·.id) ++ (rs.take k).map (·.id))) (fun v i wr => rs.length - (intOf i).toNat)
      case atStart => exact ⟨0, HS.out, rfl, Nat.zero_le _, by simpa using HO.out⟩
      case round =>
        clear HO HS HB
        obtain ⟨k, hS, rfl, hk, hO⟩ := hrel
        have HO := Lib.hid hO
        have HS := Lib.hid hS
        have HB := Lib.hid hS.b
        clear hO
        by_cases hlt : k < rs.length
        · rcases H3.out with h0 | ⟨b, o, rfl, hb, hc⟩
          · exact absurd hlt (by simp [h0])
          · obtain ⟨c1, c2, c3, c4, c5⟩ := hc k rs[k] (List.getElem?_eq_getElem hlt)
            have b1 := (hS.b.cell (p := ⟨b, o + k * 5, none⟩) hb).trans c1
            have b2 := (hS.b.cell (p := ⟨b, o + k * 5 + 1, none⟩) hb).trans c2
            have b3 := (hS.b.cell (p := ⟨b, o + k * 5 + 2, none⟩) hb).trans c3
            have b4 := (hS.b.cell (p := ⟨b, o + k * 5 + 3, none⟩) hb).trans c4
            have b5 := (hS.b.cell (p := ⟨b, o + k * 5 + 4, none⟩) hb).trans c5
            have HN : Hid (ps.map (·.id) ++ (rs.take (k + 1)).map (·.id) = (ps.map (·.id) ++ (rs.take k).map (·.id)) ++ [rs[k].id]) := by unfold Hid; rw [take_snocG rs k hlt, List.map_append, List.append_assoc]; rfl
            have HL : Hid ((ps.map (·.id) ++ (rs.take k).map (·.id)).length ≤ 1000000) := by unfold Hid; simp; omega
            obtain ⟨p, hp⟩ : ∃ p, rs[k] = p := ⟨_, rfl⟩
            rw [hp] at b1 b2 b3 b4 b5 HN
            have hlt' : (k : Int) < (rs.length : Int) := by omega
            clear c1 c2 c3 c4 c5 hc hb hS hp
            go_wp2_with (first
              | (go_at_call 94; refine (repairID_any _ _).mono ?_; rintro e w1 ⟨rfl, hg⟩; have HG := Lib.hid ((Gr.al _ _).trans hg).below; clear hg)
              | (at_builtin; refine appI (ownsRow_keep HO.out HG.out) (Nat.le_trans (Nat.succ_le_of_lt HS.out.c.1.1) HG.out.size) p.id HL.out rfl _ _ rfl rfl rfl ?_; intro v' w2 hO2 hg2))
            go_roundw
            case rel => exact ⟨k + 1, (HS.out.next HG.out).grown (ownsRow_keep HO.out HG.out) hg2 (Nat.le_succ _) (by simp), by simp, hlt, by rw [HN.out]; exact hO2⟩
            case measure => simp [intOf]; omega
        · obtain rfl : k = rs.length := by omega
          rw [List.take_length] at HO
          clear hS
          go_wp2_with fail
          go_ret
          exact ⟨_, rfl, HO.out, HB.out⟩
end Go.Proofs.YtcejmfgbfdhflaaGreat
namespace Go.Proofs.YtcejmfgbfdhflaaGreat
open Go.RowKit Go.BigFrame Go.Sort
attribute [local go_sem] World.cell?_alloc_some
set_option maxHeartbeats 800000 in
theorem idxI_any (q : Option Addr) (cap : Nat) (l : List Int) (x : Int) (n : Nat) (hn : l.length = n) (w : World) (hl : n ≤ 1000000) (h : IntsAt w q l) :
    Calls Tryz.prog 140 #[.slice q n cap, .int .i64 x] w fun e w' => (∃ m : Int, e = .returned (.int .i64 m) ∧ (0 ≤ m ↔ x ∈ l)) ∧ w = w' := by
  have H := Lib.hid h
  have HN := Lib.hid hn
  have HR : Hid (∀ k : Nat, l[k]? = some x → (0 ≤ (k : Int) ↔ x ∈ l)) := fun k hk => by
    have : x ∈ l := List.mem_of_getElem? hk
    simp [this]
  have HF : Hid ((∀ j, (hj : j < l.length) → l[j] ≠ x) → (0 ≤ (-1 : Int) ↔ x ∈ l)) := fun h => by
    have : x ∉ l := fun hx => by
      obtain ⟨j, hj, e⟩ := List.getElem_of_mem hx
      exact h j hj e
    simp [this]
  clear h hn
  go_enter Tryz.func140, Tryz.ntmps140
  go_wp2_with fail
  go_loop [8] (fun i => ∃ k : Nat, k ≤ n ∧ i = .int .i64 (k : Int) ∧ ∀ j, (hj : j < l.length) → j < k → l[j] ≠ x) (fun i => n - (intOf i).toNat)
  case atStart => exact ⟨0, Nat.zero_le _, rfl, fun j _ h => absurd h (by omega)⟩
  case round =>
    obtain ⟨k, hk, rfl, ha⟩ := hrel
    have HA := Lib.hid ha
    clear ha
    by_cases hlt : k < n
    · have hlt2 : k < l.length := by have := HN.out; omega
      rcases H.out with rfl | ⟨b, o, rfl, hb, hc⟩
      · exact absurd hlt2 (Nat.not_lt_zero _)
      · have c1 := hc k l[k] (List.getElem?_eq_getElem hlt2)
        have HX : Hid (l[k]? = some l[k]) := List.getElem?_eq_getElem hlt2
        obtain ⟨y, hy⟩ : ∃ y, l[k] = y := ⟨_, rfl⟩
        have HY := Lib.hid hy
        rw [hy] at c1 HX
        have hlt' : (k : Int) < (n : Int) := by omega
        clear hy hc
        by_cases he : x = y
        · have HE := Lib.hid he
          have hb : (x == y) = true := by simpa using he
          clear he
          go_wp2_with fail
          go_ret
          exact ⟨⟨k, rfl, HR.out k (by rw [HX.out, HE.out])⟩, rfl⟩
        · have HE := Lib.hid he
          have hb : (x == y) = false := by simpa using he
          clear he
          go_wp2_with fail
          go_round
          case rel => exact ⟨k + 1, hlt, by go_num, fun j hj h => by
            by_cases e : j = k
            · subst e; rw [HY.out]; exact fun e => HE.out e.symm
            · exact HA.out j hj (by omega)⟩
          case measure => simp [intOf]; omega
    · have HK : Hid (k = n) := by unfold Hid; omega
      go_wp2_with fail
      go_ret
      exact ⟨⟨-1, rfl, HF.out fun j hj => HA.out j hj (by have := HK.out; have := HN.out; omega)⟩, rfl⟩
set_option maxHeartbeats 800000 in
theorem hasI_any (q : Option Addr) (cap : Nat) (l : List Int) (x : Int) (n : Nat) (hn : l.length = n) (w : World) (hl : n ≤ 1000000) (h : IntsAt w q l) :
    Calls Tryz.prog 78 #[.slice q n cap, .int .i64 x] w fun e w' => e = .returned (.bool (l.contains x)) ∧ w = w' := by
  have C1 := idxI_any q cap l x n hn w hl h
  have HB : Hid (∀ m : Int, (0 ≤ m ↔ x ∈ l) → decide (0 ≤ m) = l.contains x) := fun m h => by rw [Bool.eq_iff_iff]; simp [h]
  obtain ⟨b, hb⟩ : ∃ b, l.contains x = b := ⟨_, rfl⟩
  rw [hb] at HB ⊢
  clear h hb
  go_enter Tryz.func78, Tryz.ntmps78
  go_wp2_with fail
  refine C1.mono ?_
  rintro e w' ⟨⟨m, rfl, hm⟩, rfl⟩
  have HM := Lib.hid hm
  clear hm C1
  go_wp2_with fail
  go_ret
  exact ⟨ret_bool (by rw [← HB.out _ HM.out]), rfl⟩
set_option maxRecDepth 100000 in
set_option maxHeartbeats 800000 in
theorem tooMany_any (x : WA) (w : World) (h : x.At w) : Calls Tryz.prog 74 #[x.v] w fun e w' => e = .returned (.bool (decide (20 < x.cs.length) || decide (60 < x.ps.length + x.rs.length))) ∧ Below w.heap.size w w' := by
  have n1 := h.n1
  have n2 := h.n2
  have n3 := h.n3
  clear h
  obtain ⟨cs, ps, rs, q1, q2, q3, c1, c2, c3⟩ := x
  simp only [WA.v] at *
  go_enter Tryz.func74, Tryz.ntmps74
  by_cases h1 : (20 : Int) < cs.length
  · go_wp2_with fail
    go_ret
    exact ⟨ret_bool (by simp; omega), (Gr.al _ _).below⟩
  · by_cases h2 : (60 : Int) < (ps.length : Int) + rs.length
    · go_wp2_with fail
      go_ret
      exact ⟨ret_bool (by simp; omega), (Gr.al _ _).below⟩
    · go_wp2_with fail
      go_ret
      exact ⟨ret_bool (by simp; omega), (Gr.al _ _).below⟩
end Go.Proofs.YtcejmfgbfdhflaaGreat
namespace Go.Proofs.YtcejmfgbfdhflaaGreat
open Go.RowKit Go.BigFrame Go.Sort
attribute [local go_sem] World.cell?_alloc_some
def repB (l : List Pf) (r : Pf) : Bool := l.any fun o => o.ch == r.ch && o.year == r.year
set_option maxRecDepth 100000 in
set_option maxHeartbeats 800000 in
theorem isRep_any (o r : Pf) (B : Nat) (w : World) (h : Cs w [(B, 1, .int .i64 r.ch), (B, 2, .int .i64 r.year)]) :
    Calls Tryz.prog 142 #[o.v, .pointer (some ⟨B, 0, none⟩)] w fun e w' => e = .returned (.bool (o.ch == r.ch && o.year == r.year)) ∧ Below w.heap.size w w' := by
  obtain ⟨⟨hB, g1, -⟩, ⟨-, g2, -⟩, -⟩ := h
  have hne : B ≠ w.heap.size := by omega
  go_enter Tryz.func142, Tryz.ntmps142
  by_cases h1 : o.ch = r.ch
  · have e1 : (o.ch == r.ch) = true := by simpa using h1
    clear h1
    go_wp2_with fail
    go_ret
    exact ⟨ret_bool (by rw [e1]; simp), (Gr.al _ _).below⟩
  · have e1 : (o.ch == r.ch) = false := by simpa using h1
    clear h1
    go_wp2_with fail
    go_ret
    exact ⟨ret_bool (by rw [e1]; simp), (Gr.al _ _).below⟩
set_option maxHeartbeats 1600000 in
theorem idxR_any (q : Option Addr) (cap : Nat) (l : List Pf) (r : Pf) (B n : Nat) (hn : l.length = n) (w : World) (hl : n ≤ 1000) (h : PfsAt w q l) (hB : Cs w [(B, 1, .int .i64 r.ch), (B, 2, .int .i64 r.year)]) :
    Calls Tryz.prog 189 #[.slice q n cap, .func (.func 142) #[] #[.pointer (some ⟨B, 0, none⟩)]] w fun e w' => (∃ m : Int, e = .returned (.int .i64 m) ∧ (0 ≤ m ↔ repB l r = true)) ∧ Below w.heap.size w w' := by
  have H := Lib.hid h
  have HB := Lib.hid hB
  have HN := Lib.hid hn
  have HR : Hid (∀ k : Nat, ∀ c, l[k]? = some c → (c.ch == r.ch && c.year == r.year) = true → (0 ≤ (k : Int) ↔ repB l r = true)) := fun k c hk hc => by
    have : repB l r = true := by unfold repB; rw [List.any_eq_true]; exact ⟨c, List.mem_of_getElem? hk, hc⟩
    simp [this]
  have HF : Hid ((∀ j, (hj : j < l.length) → (l[j].ch == r.ch && l[j].year == r.year) = false) → (0 ≤ (-1 : Int) ↔ repB l r = true)) := fun h => by
    have : ¬ repB l r = true := by
      unfold repB; rw [List.any_eq_true]
      rintro ⟨c, hc, e⟩
      obtain ⟨j, hj, rfl⟩ := List.getElem_of_mem hc
      rw [h j hj] at e; cases e
    simp only [this]; decide
  clear h hB hn
  go_enter Tryz.func189, Tryz.ntmps189
  go_wp2_with fail
  go_loopw [8] (fun i wr => ∃ (k : Nat), Below w.heap.size w wr ∧ i = .int .i64 (k : Int) ∧ k ≤ n ∧ ∀ j, (hj : j < l.length) → j < k → (l[j].ch == r.ch && l[j].year == r.year) = false) (fun i wr => n - (intOf i).toNat)
  case atStart => exact ⟨0, Below.refl _ _, rfl, Nat.zero_le _, fun j _ h => absurd h (by omega)⟩
  case round =>
    obtain ⟨k, hG, rfl, hk, ha⟩ := hrel
    have HA := Lib.hid ha
    have HG := Lib.hid hG
    clear ha
    by_cases hlt : k < n
    · have hlt2 : k < l.length := by have := HN.out; omega
      rcases H.out with h0 | ⟨b, o, rfl, hb, hc⟩
      · exact absurd hlt2 (by simp [h0])
      · obtain ⟨c1, c2, c3, c4, c5⟩ := hc k l[k] (List.getElem?_eq_getElem hlt2)
        have b1 := (hG.cell (p := ⟨b, o + k * 5, none⟩) hb).trans c1
        have b2 := (hG.cell (p := ⟨b, o + k * 5 + 1, none⟩) hb).trans c2
        have b3 := (hG.cell (p := ⟨b, o + k * 5 + 2, none⟩) hb).trans c3
        have b4 := (hG.cell (p := ⟨b, o + k * 5 + 3, none⟩) hb).trans c4
        have b5 := (hG.cell (p := ⟨b, o + k * 5 + 4, none⟩) hb).trans c5
        have HX : Hid (l[k]? = some l[k]) := List.getElem?_eq_getElem hlt2
        have CL := isRep_any l[k] r B wr (HB.out.keep hG)
        obtain ⟨c, hcc⟩ : ∃ c, l[k] = c := ⟨_, rfl⟩
        rw [hcc] at b1 b2 b3 b4 b5 CL HX
        have HC := Lib.hid hcc
        have hlt' : (k : Int) < (n : Int) := by omega
        obtain ⟨z, hz⟩ : ∃ z, (c.ch == r.ch && c.year == r.year) = z := ⟨_, rfl⟩
        rw [hz] at CL
        have HZ := Lib.hid hz
        clear c1 c2 c3 c4 c5 hc hb hG hcc hz
        cases z
        · go_wp2_with (go_at_call 142; refine CL.mono ?_; rintro e w1 ⟨rfl, hg⟩; have HG1 := Lib.hid (HG.out.trans (hg.mono HG.out.size)); clear hg CL)
          go_roundw
          case rel => exact ⟨k + 1, HG1.out, by simp, hlt, fun j hj h => by
            by_cases e : j = k
            · subst e; rw [HC.out]; exact HZ.out
            · exact HA.out j hj (by omega)⟩
          case measure => simp [intOf]; omega
        · go_wp2_with (go_at_call 142; refine CL.mono ?_; rintro e w1 ⟨rfl, hg⟩; have HG1 := Lib.hid (HG.out.trans (hg.mono HG.out.size)); clear hg CL)
          go_ret
          exact ⟨⟨k, rfl, HR.out k c HX.out HZ.out⟩, HG1.out⟩
    · have HK : Hid (k = n) := by unfold Hid; omega
      clear hG
      go_wp2_with fail
      go_ret
      exact ⟨⟨-1, rfl, HF.out fun j hj => HA.out j hj (by have := HK.out; have := HN.out; omega)⟩, HG.out⟩
set_option maxHeartbeats 800000 in
theorem repaired_any (q : Option Addr) (cap : Nat) (l : List Pf) (r : Pf) (n : Nat) (hn : l.length = n) (w : World) (hl : n ≤ 1000) (h : PfsAt w q l) :
    Calls Tryz.prog 80 #[.slice q n cap, r.v] w fun e w' => e = .returned (.bool (repB l r)) ∧ Below w.heap.size w w' := by
  have CC := fun W (hb : Below w.heap.size w W) (B : Nat) (h1 : Cs W [(B, 1, .int .i64 r.ch), (B, 2, .int .i64 r.year)]) => idxR_any q cap l r B n hn W hl (h.keep hb) h1
  have HB : Hid (∀ m : Int, (0 ≤ m ↔ repB l r = true) → decide (0 ≤ m) = repB l r) := fun m h => by rw [Bool.eq_iff_iff]; simp [h]
  obtain ⟨b, hb⟩ : ∃ b, repB l r = b := ⟨_, rfl⟩
  rw [hb] at HB ⊢
  simp only [hb] at CC
  clear h hb hn
  go_enter Tryz.func80, Tryz.ntmps80
  go_wp2_with fail
  obtain ⟨W0, hW0⟩ : ∃ W0, (w).alloc (.cells #[.int .i64 r.id, .int .i64 r.ch, .int .i64 r.year, .int .i64 r.lo, .int .i64 r.hi] 104) = W0 := ⟨_, rfl⟩
  have S0 : St w W0 [(w.heap.size, 0, .int .i64 r.id), (w.heap.size, 1, .int .i64 r.ch), (w.heap.size, 2, .int .i64 r.year), (w.heap.size, 3, .int .i64 r.lo), (w.heap.size, 4, .int .i64 r.hi)] := by rw [← hW0]; exact ((St.nil w)).box #[.int .i64 r.id, .int .i64 r.ch, .int .i64 r.year, .int .i64 r.lo, .int .i64 r.hi] 104 (w.heap.size) (by simp)
  rw [hW0]
  clear hW0
  obtain ⟨C, hC0, HC, LC, BC, hne⟩ := cls S0
  haveI := hne
  obtain ⟨c0, rfl⟩ : ∃ n : Wd C, W0 = n.w := ⟨⟨_, hC0⟩, rfl⟩
  have fC0 : ∀ n : Wd C, n.w.cell? ⟨w.heap.size, 0, none⟩ = some (.int .i64 r.id) := fun n => (LC.out n).1.2.1
  have fC1 : ∀ n : Wd C, n.w.cell? ⟨w.heap.size, 1, none⟩ = some (.int .i64 r.ch) := fun n => (LC.out n).2.1.2.1
  have fC2 : ∀ n : Wd C, n.w.cell? ⟨w.heap.size, 2, none⟩ = some (.int .i64 r.year) := fun n => (LC.out n).2.2.1.2.1
  have fC3 : ∀ n : Wd C, n.w.cell? ⟨w.heap.size, 3, none⟩ = some (.int .i64 r.lo) := fun n => (LC.out n).2.2.2.1.2.1
  have fC4 : ∀ n : Wd C, n.w.cell? ⟨w.heap.size, 4, none⟩ = some (.int .i64 r.hi) := fun n => (LC.out n).2.2.2.2.1.2.1
  clear S0 hC0
  go_wp2_with (first | (go_at_call 189; refine (CC _ (BC.out _) w.heap.size ⟨(LC.out _).2.1, (LC.out _).2.2.1, trivial⟩).mono ?_; rintro e w1 ⟨⟨m, rfl, hm⟩, hg⟩; have HM := Lib.hid (HB.out _ hm); have HG := Lib.hid ((BC.out _).trans (hg.mono (BC.out _).size)); clear hm hg) | go_in)
  go_ret
  exact ⟨ret_bool HM.out, HG.out⟩
end Go.Proofs.YtcejmfgbfdhflaaGreat
namespace Go.Proofs.YtcejmfgbfdhflaaGreat
open Go.RowKit Go.BigFrame Go.Sort
attribute [local go_sem] World.cell?_alloc_some
def okPf (cs : List Ch) (p : Pf) : Bool := (chF cs p.ch).isSome && (okId p.id && (inB (chOr cs p.ch).year 4000 p.year && okLong p.lo p.hi))
def okRp (cs : List Ch) (p : Pf) : Bool := (chF cs p.ch).isSome && (okId p.id && (inB (chOr cs p.ch).year 4000 p.year && (decide ((chOr cs p.ch).year < p.year) && okLong p.lo p.hi)))
set_option maxRecDepth 100000 in
set_option maxHeartbeats 3200000 in
theorem validProof_any (x : WA) (p : Pf) (w : World) (h : x.At w) : Calls Tryz.prog 77 #[x.v, p.v] w fun e w' => e = .returned (.bool (okPf x.cs p)) ∧ Below w.heap.size w w' := by
  have C0 := fun W (hb : Below w.heap.size w W) => chainOf_any x.q1 x.c1 x.cs p.ch W h.n1 (h.cs.keep hb)
  obtain ⟨c, hc⟩ : ∃ c, chOr x.cs p.ch = c := ⟨_, rfl⟩
  have C1 := fun W => validID_any p.id W
  have C2 := fun W => yearsOf_any c W
  have C3 := fun W => within_any c.year 4000 p.year W
  have C4 := fun W => validLong_any p.lo p.hi W
  obtain ⟨x0, h0⟩ : ∃ b, (chF x.cs p.ch).isSome = b := ⟨_, rfl⟩
  obtain ⟨x1, h1⟩ : ∃ b, okId p.id = b := ⟨_, rfl⟩
  obtain ⟨x2, h2⟩ : ∃ b, inB c.year 4000 p.year = b := ⟨_, rfl⟩
  obtain ⟨x3, h3⟩ : ∃ b, okLong p.lo p.hi = b := ⟨_, rfl⟩
  rw [show okPf x.cs p = (x0 && (x1 && (x2 && x3))) from by rw [okPf, hc, h0, h1, h2, h3]]
  simp only [h0, hc] at C0
  simp only [h1] at C1
  simp only [h2] at C3
  simp only [h3] at C4
  clear h0 h1 h2 h3 hc h
  obtain ⟨cs, ps, rs, q1, q2, q3, c1, c2, c3⟩ := x
  simp only [WA.v] at *
  go_enter Tryz.func77, Tryz.ntmps77
  go_wp2_with fail
  obtain ⟨W0, hW0⟩ : ∃ W0, ((w).alloc (.cells #[.slice q1 cs.length c1, .slice q2 ps.length c2, .slice q3 rs.length c3] 26)).alloc (.cells #[.int .i64 p.id, .int .i64 p.ch, .int .i64 p.year, .int .i64 p.lo, .int .i64 p.hi] 94) = W0 := ⟨_, rfl⟩
  have S0 : St w W0 [(w.heap.size + 1, 0, .int .i64 p.id), (w.heap.size + 1, 1, .int .i64 p.ch), (w.heap.size + 1, 2, .int .i64 p.year), (w.heap.size + 1, 3, .int .i64 p.lo), (w.heap.size + 1, 4, .int .i64 p.hi), (w.heap.size, 0, .slice q1 cs.length c1), (w.heap.size, 1, .slice q2 ps.length c2), (w.heap.size, 2, .slice q3 rs.length c3)] := by rw [← hW0]; exact (((St.nil w)).box #[.slice q1 cs.length c1, .slice q2 ps.length c2, .slice q3 rs.length c3] 26 (w.heap.size) (by simp)).box #[.int .i64 p.id, .int .i64 p.ch, .int .i64 p.year, .int .i64 p.lo, .int .i64 p.hi] 94 (w.heap.size + 1) (by simp)
  rw [hW0]
  clear hW0
  obtain ⟨C, hC0, HC, LC, BC, hne⟩ := cls S0
  haveI := hne
  obtain ⟨c0, rfl⟩ : ∃ n : Wd C, W0 = n.w := ⟨⟨_, hC0⟩, rfl⟩
  have fC0 : ∀ n : Wd C, n.w.cell? ⟨w.heap.size + 1, 0, none⟩ = some (.int .i64 p.id) := fun n => (LC.out n).1.2.1
  have fC1 : ∀ n : Wd C, n.w.cell? ⟨w.heap.size + 1, 1, none⟩ = some (.int .i64 p.ch) := fun n => (LC.out n).2.1.2.1
  have fC2 : ∀ n : Wd C, n.w.cell? ⟨w.heap.size + 1, 2, none⟩ = some (.int .i64 p.year) := fun n => (LC.out n).2.2.1.2.1
  have fC3 : ∀ n : Wd C, n.w.cell? ⟨w.heap.size + 1, 3, none⟩ = some (.int .i64 p.lo) := fun n => (LC.out n).2.2.2.1.2.1
  have fC4 : ∀ n : Wd C, n.w.cell? ⟨w.heap.size + 1, 4, none⟩ = some (.int .i64 p.hi) := fun n => (LC.out n).2.2.2.2.1.2.1
  have fC5 : ∀ n : Wd C, n.w.cell? ⟨w.heap.size, 0, none⟩ = some (.slice q1 cs.length c1) := fun n => (LC.out n).2.2.2.2.2.1.2.1
  have fC6 : ∀ n : Wd C, n.w.cell? ⟨w.heap.size, 1, none⟩ = some (.slice q2 ps.length c2) := fun n => (LC.out n).2.2.2.2.2.2.1.2.1
  have fC7 : ∀ n : Wd C, n.w.cell? ⟨w.heap.size, 2, none⟩ = some (.slice q3 rs.length c3) := fun n => (LC.out n).2.2.2.2.2.2.2.1.2.1
  clear S0 hC0
  go_wp2_with (go_at_call 112; refine (C0 _ (BC.out _)).mono ?_; rintro e w1 ⟨rfl, hg⟩; obtain ⟨m, rfl⟩ : ∃ m : Wd C, w1 = m.w := ⟨⟨_, HC.out _ _ (Wd.h _) hg⟩, rfl⟩; clear hg C0)
  obtain ⟨W0, hW0⟩ : ∃ W0, (m.w).alloc (.cells #[.int .i64 c.id, .int .i64 c.year, .int .i64 c.lo, .int .i64 c.hi, .int .i64 c.wear] 90) = W0 := ⟨_, rfl⟩
  have S0 : St w W0 [(m.w.heap.size, 0, .int .i64 c.id), (m.w.heap.size, 1, .int .i64 c.year), (m.w.heap.size, 2, .int .i64 c.lo), (m.w.heap.size, 3, .int .i64 c.hi), (m.w.heap.size, 4, .int .i64 c.wear), (w.heap.size + 1, 0, .int .i64 p.id), (w.heap.size + 1, 1, .int .i64 p.ch), (w.heap.size + 1, 2, .int .i64 p.year), (w.heap.size + 1, 3, .int .i64 p.lo), (w.heap.size + 1, 4, .int .i64 p.hi), (w.heap.size, 0, .slice q1 cs.length c1), (w.heap.size, 1, .slice q2 ps.length c2), (w.heap.size, 2, .slice q3 rs.length c3)] := by rw [← hW0]; exact ((⟨BC.out m, LC.out m⟩ : St w m.w _)).box #[.int .i64 c.id, .int .i64 c.year, .int .i64 c.lo, .int .i64 c.hi, .int .i64 c.wear] 90 (m.w.heap.size) (by simp)
  rw [hW0]
  clear hW0
  obtain ⟨kD, hkk⟩ : ∃ k, m.w.heap.size = k := ⟨_, rfl⟩
  have gkD : w.heap.size ≤ kD := by rw [← hkk]; exact (BC.out m).size
  rw [hkk] at S0 ⊢
  clear hkk
  obtain ⟨D, hC0, HD, LD, BD, hne⟩ := cls S0
  haveI := hne
  obtain ⟨d0, rfl⟩ : ∃ n : Wd D, W0 = n.w := ⟨⟨_, hC0⟩, rfl⟩
  have fD0 : ∀ n : Wd D, n.w.cell? ⟨kD, 0, none⟩ = some (.int .i64 c.id) := fun n => (LD.out n).1.2.1
  have fD1 : ∀ n : Wd D, n.w.cell? ⟨kD, 1, none⟩ = some (.int .i64 c.year) := fun n => (LD.out n).2.1.2.1
  have fD2 : ∀ n : Wd D, n.w.cell? ⟨kD, 2, none⟩ = some (.int .i64 c.lo) := fun n => (LD.out n).2.2.1.2.1
  have fD3 : ∀ n : Wd D, n.w.cell? ⟨kD, 3, none⟩ = some (.int .i64 c.hi) := fun n => (LD.out n).2.2.2.1.2.1
  have fD4 : ∀ n : Wd D, n.w.cell? ⟨kD, 4, none⟩ = some (.int .i64 c.wear) := fun n => (LD.out n).2.2.2.2.1.2.1
  have fD5 : ∀ n : Wd D, n.w.cell? ⟨w.heap.size + 1, 0, none⟩ = some (.int .i64 p.id) := fun n => (LD.out n).2.2.2.2.2.1.2.1
  have fD6 : ∀ n : Wd D, n.w.cell? ⟨w.heap.size + 1, 1, none⟩ = some (.int .i64 p.ch) := fun n => (LD.out n).2.2.2.2.2.2.1.2.1
  have fD7 : ∀ n : Wd D, n.w.cell? ⟨w.heap.size + 1, 2, none⟩ = some (.int .i64 p.year) := fun n => (LD.out n).2.2.2.2.2.2.2.1.2.1
  have fD8 : ∀ n : Wd D, n.w.cell? ⟨w.heap.size + 1, 3, none⟩ = some (.int .i64 p.lo) := fun n => (LD.out n).2.2.2.2.2.2.2.2.1.2.1
  have fD9 : ∀ n : Wd D, n.w.cell? ⟨w.heap.size + 1, 4, none⟩ = some (.int .i64 p.hi) := fun n => (LD.out n).2.2.2.2.2.2.2.2.2.1.2.1
  have fD10 : ∀ n : Wd D, n.w.cell? ⟨w.heap.size, 0, none⟩ = some (.slice q1 cs.length c1) := fun n => (LD.out n).2.2.2.2.2.2.2.2.2.2.1.2.1
  have fD11 : ∀ n : Wd D, n.w.cell? ⟨w.heap.size, 1, none⟩ = some (.slice q2 ps.length c2) := fun n => (LD.out n).2.2.2.2.2.2.2.2.2.2.2.1.2.1
  have fD12 : ∀ n : Wd D, n.w.cell? ⟨w.heap.size, 2, none⟩ = some (.slice q3 rs.length c3) := fun n => (LD.out n).2.2.2.2.2.2.2.2.2.2.2.2.1.2.1
  clear S0 hC0
  have D1 := csame (C := D) C1
  have D2 := cin HD fun W => Calls.be (C2 W)
  have D3 := cin HD fun W => Calls.be (C3 W)
  have D4 := cin HD fun W => Calls.be (C4 W)
  clear C1 C2 C3 C4
  cases x0
  · skip
    refine wp_region_in D (HD.out _ _ (Wd.h _) (below_dr _)) (by kernel_rfl) (by kernel_rfl) ?_
    repeat (go_big_quiet_step (first | with_reducible exact (D1 _).out))
    refine wpQuiet_nil ?_
    intro wx hwx
    obtain ⟨n, rfl⟩ : ∃ n : Wd D, wx = n.w := ⟨⟨wx, hwx⟩, rfl⟩
    clear hwx
    go_wp2_with fail
    go_ret
    exact ⟨rfl, BD.out _⟩
  cases x1
  · skip
    refine wp_region_in D (HD.out _ _ (Wd.h _) (below_dr _)) (by kernel_rfl) (by kernel_rfl) ?_
    repeat (go_big_quiet_step (first | with_reducible exact (D1 _).out))
    refine wpQuiet_nil ?_
    intro wx hwx
    obtain ⟨n, rfl⟩ : ∃ n : Wd D, wx = n.w := ⟨⟨wx, hwx⟩, rfl⟩
    clear hwx
    go_wp2_with fail
    go_ret
    exact ⟨rfl, BD.out _⟩
  cases x2
  · skip
    refine wp_region_in D (HD.out _ _ (Wd.h _) (below_dr _)) (by kernel_rfl) (by kernel_rfl) ?_
    repeat (go_big_quiet_step (first | with_reducible exact (D1 _).out | with_reducible exact (D2 _).out | with_reducible exact (D3 _).out))
    refine wpQuiet_nil ?_
    intro wx hwx
    obtain ⟨n, rfl⟩ : ∃ n : Wd D, wx = n.w := ⟨⟨wx, hwx⟩, rfl⟩
    clear hwx
    go_wp2_with fail
    go_ret
    exact ⟨rfl, BD.out _⟩
  · skip
    refine wp_region_in D (HD.out _ _ (Wd.h _) (below_dr _)) (by kernel_rfl) (by kernel_rfl) ?_
    repeat (go_big_quiet_step (first | with_reducible exact (D1 _).out | with_reducible exact (D2 _).out | with_reducible exact (D3 _).out | with_reducible exact (D4 _).out))
    refine wpQuiet_nil ?_
    intro wx hwx
    obtain ⟨n, rfl⟩ : ∃ n : Wd D, wx = n.w := ⟨⟨wx, hwx⟩, rfl⟩
    clear hwx
    go_wp2_with fail
    go_ret
    exact ⟨rfl, BD.out _⟩
set_option maxRecDepth 100000 in
set_option maxHeartbeats 3200000 in
theorem validRepair_any (x : WA) (p : Pf) (w : World) (h : x.At w) : Calls Tryz.prog 79 #[x.v, p.v] w fun e w' => e = .returned (.bool (okRp x.cs p)) ∧ Below w.heap.size w w' := by
  have C0 := fun W (hb : Below w.heap.size w W) => chainOf_any x.q1 x.c1 x.cs p.ch W h.n1 (h.cs.keep hb)
  obtain ⟨c, hc⟩ : ∃ c, chOr x.cs p.ch = c := ⟨_, rfl⟩
  have C1 := fun W => validID_any p.id W
  have C2 := fun W => yearsOf_any c W
  have C3 := fun W => within_any c.year 4000 p.year W
  have C4 := fun W => validLong_any p.lo p.hi W
  obtain ⟨x0, h0⟩ : ∃ b, (chF x.cs p.ch).isSome = b := ⟨_, rfl⟩
  obtain ⟨x1, h1⟩ : ∃ b, okId p.id = b := ⟨_, rfl⟩
  obtain ⟨x2, h2⟩ : ∃ b, inB c.year 4000 p.year = b := ⟨_, rfl⟩
  obtain ⟨x3, h3⟩ : ∃ b, okLong p.lo p.hi = b := ⟨_, rfl⟩
  obtain ⟨x4, h4⟩ : ∃ b, decide (c.year < p.year) = b := ⟨_, rfl⟩
  rw [show okRp x.cs p = (x0 && (x1 && (x2 && (x4 && x3)))) from by rw [okRp, hc, h0, h1, h2, h3, h4]]
  simp only [h0, hc] at C0
  simp only [h1] at C1
  simp only [h2] at C3
  simp only [h3] at C4
  clear h0 h1 h2 h3 hc h
  obtain ⟨cs, ps, rs, q1, q2, q3, c1, c2, c3⟩ := x
  simp only [WA.v] at *
  go_enter Tryz.func79, Tryz.ntmps79
  go_wp2_with fail
  obtain ⟨W0, hW0⟩ : ∃ W0, ((w).alloc (.cells #[.slice q1 cs.length c1, .slice q2 ps.length c2, .slice q3 rs.length c3] 26)).alloc (.cells #[.int .i64 p.id, .int .i64 p.ch, .int .i64 p.year, .int .i64 p.lo, .int .i64 p.hi] 104) = W0 := ⟨_, rfl⟩
  have S0 : St w W0 [(w.heap.size + 1, 0, .int .i64 p.id), (w.heap.size + 1, 1, .int .i64 p.ch), (w.heap.size + 1, 2, .int .i64 p.year), (w.heap.size + 1, 3, .int .i64 p.lo), (w.heap.size + 1, 4, .int .i64 p.hi), (w.heap.size, 0, .slice q1 cs.length c1), (w.heap.size, 1, .slice q2 ps.length c2), (w.heap.size, 2, .slice q3 rs.length c3)] := by rw [← hW0]; exact (((St.nil w)).box #[.slice q1 cs.length c1, .slice q2 ps.length c2, .slice q3 rs.length c3] 26 (w.heap.size) (by simp)).box #[.int .i64 p.id, .int .i64 p.ch, .int .i64 p.year, .int .i64 p.lo, .int .i64 p.hi] 104 (w.heap.size + 1) (by simp)
  rw [hW0]
  clear hW0
  obtain ⟨C, hC0, HC, LC, BC, hne⟩ := cls S0
  haveI := hne
  obtain ⟨c0, rfl⟩ : ∃ n : Wd C, W0 = n.w := ⟨⟨_, hC0⟩, rfl⟩
  have fC0 : ∀ n : Wd C, n.w.cell? ⟨w.heap.size + 1, 0, none⟩ = some (.int .i64 p.id) := fun n => (LC.out n).1.2.1
  have fC1 : ∀ n : Wd C, n.w.cell? ⟨w.heap.size + 1, 1, none⟩ = some (.int .i64 p.ch) := fun n => (LC.out n).2.1.2.1
  have fC2 : ∀ n : Wd C, n.w.cell? ⟨w.heap.size + 1, 2, none⟩ = some (.int .i64 p.year) := fun n => (LC.out n).2.2.1.2.1
  have fC3 : ∀ n : Wd C, n.w.cell? ⟨w.heap.size + 1, 3, none⟩ = some (.int .i64 p.lo) := fun n => (LC.out n).2.2.2.1.2.1
  have fC4 : ∀ n : Wd C, n.w.cell? ⟨w.heap.size + 1, 4, none⟩ = some (.int .i64 p.hi) := fun n => (LC.out n).2.2.2.2.1.2.1
  have fC5 : ∀ n : Wd C, n.w.cell? ⟨w.heap.size, 0, none⟩ = some (.slice q1 cs.length c1) := fun n => (LC.out n).2.2.2.2.2.1.2.1
  have fC6 : ∀ n : Wd C, n.w.cell? ⟨w.heap.size, 1, none⟩ = some (.slice q2 ps.length c2) := fun n => (LC.out n).2.2.2.2.2.2.1.2.1
  have fC7 : ∀ n : Wd C, n.w.cell? ⟨w.heap.size, 2, none⟩ = some (.slice q3 rs.length c3) := fun n => (LC.out n).2.2.2.2.2.2.2.1.2.1
  clear S0 hC0
  go_wp2_with (go_at_call 112; refine (C0 _ (BC.out _)).mono ?_; rintro e w1 ⟨rfl, hg⟩; obtain ⟨m, rfl⟩ : ∃ m : Wd C, w1 = m.w := ⟨⟨_, HC.out _ _ (Wd.h _) hg⟩, rfl⟩; clear hg C0)
  obtain ⟨W0, hW0⟩ : ∃ W0, (m.w).alloc (.cells #[.int .i64 c.id, .int .i64 c.year, .int .i64 c.lo, .int .i64 c.hi, .int .i64 c.wear] 90) = W0 := ⟨_, rfl⟩
  have S0 : St w W0 [(m.w.heap.size, 0, .int .i64 c.id), (m.w.heap.size, 1, .int .i64 c.year), (m.w.heap.size, 2, .int .i64 c.lo), (m.w.heap.size, 3, .int .i64 c.hi), (m.w.heap.size, 4, .int .i64 c.wear), (w.heap.size + 1, 0, .int .i64 p.id), (w.heap.size + 1, 1, .int .i64 p.ch), (w.heap.size + 1, 2, .int .i64 p.year), (w.heap.size + 1, 3, .int .i64 p.lo), (w.heap.size + 1, 4, .int .i64 p.hi), (w.heap.size, 0, .slice q1 cs.length c1), (w.heap.size, 1, .slice q2 ps.length c2), (w.heap.size, 2, .slice q3 rs.length c3)] := by rw [← hW0]; exact ((⟨BC.out m, LC.out m⟩ : St w m.w _)).box #[.int .i64 c.id, .int .i64 c.year, .int .i64 c.lo, .int .i64 c.hi, .int .i64 c.wear] 90 (m.w.heap.size) (by simp)
  rw [hW0]
  clear hW0
  obtain ⟨kD, hkk⟩ : ∃ k, m.w.heap.size = k := ⟨_, rfl⟩
  have gkD : w.heap.size ≤ kD := by rw [← hkk]; exact (BC.out m).size
  rw [hkk] at S0 ⊢
  clear hkk
  obtain ⟨D, hC0, HD, LD, BD, hne⟩ := cls S0
  haveI := hne
  obtain ⟨d0, rfl⟩ : ∃ n : Wd D, W0 = n.w := ⟨⟨_, hC0⟩, rfl⟩
  have fD0 : ∀ n : Wd D, n.w.cell? ⟨kD, 0, none⟩ = some (.int .i64 c.id) := fun n => (LD.out n).1.2.1
  have fD1 : ∀ n : Wd D, n.w.cell? ⟨kD, 1, none⟩ = some (.int .i64 c.year) := fun n => (LD.out n).2.1.2.1
  have fD2 : ∀ n : Wd D, n.w.cell? ⟨kD, 2, none⟩ = some (.int .i64 c.lo) := fun n => (LD.out n).2.2.1.2.1
  have fD3 : ∀ n : Wd D, n.w.cell? ⟨kD, 3, none⟩ = some (.int .i64 c.hi) := fun n => (LD.out n).2.2.2.1.2.1
  have fD4 : ∀ n : Wd D, n.w.cell? ⟨kD, 4, none⟩ = some (.int .i64 c.wear) := fun n => (LD.out n).2.2.2.2.1.2.1
  have fD5 : ∀ n : Wd D, n.w.cell? ⟨w.heap.size + 1, 0, none⟩ = some (.int .i64 p.id) := fun n => (LD.out n).2.2.2.2.2.1.2.1
  have fD6 : ∀ n : Wd D, n.w.cell? ⟨w.heap.size + 1, 1, none⟩ = some (.int .i64 p.ch) := fun n => (LD.out n).2.2.2.2.2.2.1.2.1
  have fD7 : ∀ n : Wd D, n.w.cell? ⟨w.heap.size + 1, 2, none⟩ = some (.int .i64 p.year) := fun n => (LD.out n).2.2.2.2.2.2.2.1.2.1
  have fD8 : ∀ n : Wd D, n.w.cell? ⟨w.heap.size + 1, 3, none⟩ = some (.int .i64 p.lo) := fun n => (LD.out n).2.2.2.2.2.2.2.2.1.2.1
  have fD9 : ∀ n : Wd D, n.w.cell? ⟨w.heap.size + 1, 4, none⟩ = some (.int .i64 p.hi) := fun n => (LD.out n).2.2.2.2.2.2.2.2.2.1.2.1
  have fD10 : ∀ n : Wd D, n.w.cell? ⟨w.heap.size, 0, none⟩ = some (.slice q1 cs.length c1) := fun n => (LD.out n).2.2.2.2.2.2.2.2.2.2.1.2.1
  have fD11 : ∀ n : Wd D, n.w.cell? ⟨w.heap.size, 1, none⟩ = some (.slice q2 ps.length c2) := fun n => (LD.out n).2.2.2.2.2.2.2.2.2.2.2.1.2.1
  have fD12 : ∀ n : Wd D, n.w.cell? ⟨w.heap.size, 2, none⟩ = some (.slice q3 rs.length c3) := fun n => (LD.out n).2.2.2.2.2.2.2.2.2.2.2.2.1.2.1
  clear S0 hC0
  have D1 := csame (C := D) C1
  have D2 := cin HD fun W => Calls.be (C2 W)
  have D3 := cin HD fun W => Calls.be (C3 W)
  have D4 := cin HD fun W => Calls.be (C4 W)
  clear C1 C2 C3 C4
  cases x0
  · skip
    refine wp_region_in D (HD.out _ _ (Wd.h _) (below_dr _)) (by kernel_rfl) (by kernel_rfl) ?_
    repeat (go_big_quiet_step (first | with_reducible exact (D1 _).out))
    refine wpQuiet_nil ?_
    intro wx hwx
    obtain ⟨n, rfl⟩ : ∃ n : Wd D, wx = n.w := ⟨⟨wx, hwx⟩, rfl⟩
    clear hwx
    go_wp2_with fail
    go_ret
    exact ⟨rfl, BD.out _⟩
  cases x1
  · skip
    refine wp_region_in D (HD.out _ _ (Wd.h _) (below_dr _)) (by kernel_rfl) (by kernel_rfl) ?_
    repeat (go_big_quiet_step (first | with_reducible exact (D1 _).out))
    refine wpQuiet_nil ?_
    intro wx hwx
    obtain ⟨n, rfl⟩ : ∃ n : Wd D, wx = n.w := ⟨⟨wx, hwx⟩, rfl⟩
    clear hwx
    go_wp2_with fail
    go_ret
    exact ⟨rfl, BD.out _⟩
  cases x2
  · skip
    refine wp_region_in D (HD.out _ _ (Wd.h _) (below_dr _)) (by kernel_rfl) (by kernel_rfl) ?_
    repeat (go_big_quiet_step (first | with_reducible exact (D1 _).out | with_reducible exact (D2 _).out | with_reducible exact (D3 _).out))
    refine wpQuiet_nil ?_
    intro wx hwx
    obtain ⟨n, rfl⟩ : ∃ n : Wd D, wx = n.w := ⟨⟨wx, hwx⟩, rfl⟩
    clear hwx
    go_wp2_with fail
    go_ret
    exact ⟨rfl, BD.out _⟩
  cases x4
  · have hlt : ¬ c.year < p.year := of_decide_eq_false h4
    clear h4
    refine wp_region_in D (HD.out _ _ (Wd.h _) (below_dr _)) (by kernel_rfl) (by kernel_rfl) ?_
    repeat (go_big_quiet_step (first | with_reducible exact (D1 _).out | with_reducible exact (D2 _).out | with_reducible exact (D3 _).out))
    refine wpQuiet_nil ?_
    intro wx hwx
    obtain ⟨n, rfl⟩ : ∃ n : Wd D, wx = n.w := ⟨⟨wx, hwx⟩, rfl⟩
    clear hwx
    go_wp2_with fail
    go_ret
    exact ⟨rfl, BD.out _⟩
  · have hlt : c.year < p.year := of_decide_eq_true h4
    clear h4
    refine wp_region_in D (HD.out _ _ (Wd.h _) (below_dr _)) (by kernel_rfl) (by kernel_rfl) ?_
    repeat (go_big_quiet_step (first | with_reducible exact (D1 _).out | with_reducible exact (D2 _).out | with_reducible exact (D3 _).out | with_reducible exact (D4 _).out))
    refine wpQuiet_nil ?_
    intro wx hwx
    obtain ⟨n, rfl⟩ : ∃ n : Wd D, wx = n.w := ⟨⟨wx, hwx⟩, rfl⟩
    clear hwx
    go_wp2_with fail
    go_ret
    exact ⟨rfl, BD.out _⟩
end Go.Proofs.YtcejmfgbfdhflaaGreat
namespace Go.Proofs.YtcejmfgbfdhflaaGreat
open Go.RowKit Go.BigFrame
/-! A region that draws its order, in which variables are made too: one walk serves. -/
section
variable {P : Program} {ops : Array Oper} {md : Region.Mode} {C : World → Prop}
/-- In every class of grown worlds within C an operation yields this. -/
def AllY (P : Program) (ops : Array Oper) (C : World → Prop) (o : Oper) (v : Value) (a : Act) : Prop :=
  ∀ D : World → Prop, (∀ W W', D W → Below W.heap.size W W' → D W') → (∀ W, D W → C W) → Nonempty (Wd D) → YieldsIn P ops D o v a
/-- From here on f operations come up, each of the first n, whatever the order: each yields its value, or makes a variable; then L. -/
def AheadU (P : Program) (md : Region.Mode) (ops : Array Oper) (C : World → Prop) (isA : Nat → Bool) (val : Nat → Value) (n : Nat) (L : Array Bool → Act → Prop) : Nat → Array Bool → Act → Prop
  | 0, li, a => L li a
  | f + 1, li, a => Region.ready md ops li ≠ [] ∧ ∀ i ∈ Region.ready md ops li, i < n ∧ ∃ oi, ops[i]? = some oi ∧ (isA i = false → AllY P ops C oi (val i) a) ∧ ∀ v, (isA i = true ∨ v = val i) → AheadU P md ops C isA val n L f (li.setIfInBounds i true) (a.put oi.dst v)
theorem AllY.back {oi oj : Oper} {u v : Value} {a : Act} (hap : oi.apart ops oj = true) (hs : ∀ cs b, oj.op ≠ .select cs b) (h : AllY P ops C oj u (a.put oi.dst v)) : AllY P ops C oj u a :=
  fun D h1 h2 h3 => (h D h1 h2 h3).of_same (execOp_put oj hs a oi.dst v (Oper.apart_spec hap).1).symm (wanted_put oj a oi.dst v (Oper.apart_spec hap).1).symm
theorem AllY.fwd {oi oj : Oper} {u v : Value} {a : Act} (hap : oi.apart ops oj = true) (hs : ∀ cs b, oi.op ≠ .select cs b) (h : AllY P ops C oi v a) : AllY P ops C oi v (a.put oj.dst u) :=
  fun D h1 h2 h3 => (h D h1 h2 h3).of_same (execOp_put oi hs a oj.dst u (Oper.apart_spec hap).2.2) (wanted_put oi a oj.dst u (Oper.apart_spec hap).2.2)
theorem AheadU.pick {isA : Nat → Bool} {val : Nat → Value} {n i : Nat} {oi : Oper} {L : Array Bool → Act → Prop} (hi : ops[i]? = some oi) (hsel : ∀ (j : Nat) (o : Oper) cs b, ops[j]? = some o → o.op ≠ .select cs b)
    (hs : Region.sinkB md ops n = true) (hc : Region.chainB md ops n = true) (hn : n < ops.size) (hin : i < n) (hend : ∀ li a, L li a → ∀ j ∈ Region.ready md ops li, n ≤ j) (f : Nat) :
    ∀ (li : Array Bool) (a : Act), HeadInv md ops n li →
      (∀ j oj, ops[j]? = some oj → j ≠ i → li.getD j true = false → (∀ e ∈ oj.after, Region.binds md e = true → e.on ≠ i) → oi.apart ops oj = true) →
      i ∈ Region.ready md ops li → (isA i = false → AllY P ops C oi (val i) a) → (∀ v, (isA i = true ∨ v = val i) → AheadU P md ops C isA val n L f (li.setIfInBounds i true) (a.put oi.dst v)) → AheadU P md ops C isA val n L (f + 1) li a := by
  induction f with
  | zero =>
    intro li a inv _ hr hy H
    refine ⟨fun e => absurd hr (by rw [e]; simp), fun j hj => ?_⟩
    have hjn : j < n := (Nat.lt_or_ge j n).resolve_right fun h => absurd hj (tail_waits hs hc hn inv _ i rfl hin (mem_ready.1 hr).1 j h)
    rcases Nat.decEq j i with hne | rfl
    · have := hend _ _ (H (val i) (.inr rfl)) j (ready_mono hj hne)
      omega
    · exact ⟨hjn, oi, hi, hy, H⟩
  | succ f ih =>
    intro li a inv hap hr hy H
    refine ⟨fun e => absurd hr (by rw [e]; simp), fun j hj => ?_⟩
    have hjn : j < n := (Nat.lt_or_ge j n).resolve_right fun h => absurd hj (tail_waits hs hc hn inv _ i rfl hin (mem_ready.1 hr).1 j h)
    rcases Nat.decEq j i with hne | rfl
    · obtain ⟨hju, oj, hoj, hall⟩ := mem_ready.1 hj
      have hno : ∀ e ∈ oj.after, Region.binds md e = true → e.on ≠ i := fun e he hb heq => by
        have h1 := hall e he hb
        rw [heq, getD_both (mem_ready.1 hr).1] at h1
        cases h1
      have hp := hap j oj hoj hne hju hno
      have key : ∀ v, (isA i = true ∨ v = val i) → (isA j = false → AllY P ops C oj (val j) (a.put oi.dst v)) ∧ ∀ u, (isA j = true ∨ u = val j) → AheadU P md ops C isA val n L f ((li.setIfInBounds i true).setIfInBounds j true) ((a.put oi.dst v).put oj.dst u) := fun v hv => by
        obtain ⟨_, oj', hoj', h1, h2⟩ := (H v hv).2 j (ready_mono hj hne)
        obtain rfl : oj = oj' := Option.some.inj (hoj.symm.trans hoj')
        exact ⟨h1, h2⟩
      refine ⟨hjn, oj, hoj, fun hA => ((key (val i) (.inr rfl)).1 hA).back hp (fun cs b => hsel j oj cs b hoj), fun u hu => ?_⟩
      refine ih (li.setIfInBounds j true) _ (inv.set hj hjn) (fun k ok hk hki hun hno' => hap k ok hk hki ?_ hno') (ready_mono hr (Ne.symm hne)) (fun hA => (hy hA).fwd hp (fun cs b => hsel i oi cs b hi)) (fun v hv => ?_)
      · rcases Nat.decEq j k with hjk | rfl
        · rwa [getD_set_ne true hjk] at hun
        · exact hju
      · rw [Array.setIfInBounds_comm _ _ hne, ← Act.put_comm a v u (Oper.apart_spec hp).2.1]
        exact (key v hv).2 u hu
    · exact ⟨hjn, oi, hi, hy, H⟩
/-- Where the variables lie. -/
def InvU (isA : Nat → Bool) (sl : Nat → Nat) (blk : Nat → Obj) (N : Nat) (li : Array Bool) (a : Act) (w : World) : Prop :=
  ∃ bl : Nat → Nat, ∀ i, isA i = true → li.getD i false = true → a.tmps[sl i]? = some (.pointer (some ⟨bl i, 0, none⟩)) ∧ N ≤ bl i ∧ w.heap[bl i]? = some (blk i) ∧ ∀ j, isA j = true → li.getD j false = true → j ≠ i → bl j ≠ bl i
theorem AheadU.any {isA : Nat → Bool} {val : Nat → Value} {sl : Nat → Nat} {blk : Nat → Obj} {N n g : Nat} {L : Array Bool → Act → Prop} {Q : Exit → Act → World → Prop}
    (hcl : ∀ W W', C W → Below W.heap.size W W' → C W')
    (hA : ∀ i oi, ops[i]? = some oi → isA i = true → oi.dst = some (sl i) ∧ oi.guard = none ∧ ∀ (a : Act) w, (execOp a.eval oi).run P w = .ok (.value (.pointer (some ⟨w.heap.size, 0, none⟩))) (w.alloc (blk i)))
    (hB : ∀ i j oi, ops[i]? = some oi → i < n → isA j = true → i ≠ j → oi.dst ≠ some (sl j))
    (hL : ∀ li a w, C w → InvU isA sl blk N li a w → N ≤ w.heap.size → L li a → wpAny P md ops Q g li a w) :
    ∀ (f : Nat) (li : Array Bool) (a : Act) (w : World), C w → InvU isA sl blk N li a w → N ≤ w.heap.size → (∀ i, isA i = true → sl i < a.tmps.size) → AheadU P md ops C isA val n L f li a → wpAny P md ops Q (f + g) li a w
  | 0, li, a, w, hw, hI, hN, _, h => by rw [Nat.zero_add]; exact hL _ _ _ hw hI hN h
  | f + 1, li, a, w, hw, hI, hN, hsz, h => by
    rw [show f + 1 + g = f + g + 1 from by omega]
    refine ⟨fun e => absurd e h.1, fun i hi => ?_⟩
    obtain ⟨hin, oi, hoi, hy, H⟩ := h.2 i hi
    have hun := (mem_ready.1 hi).1
    have hils : i < li.size := by
      rcases Nat.lt_or_ge i li.size with h' | h'
      · exact h'
      · simp [Array.getElem?_eq_none h'] at hun
    cases hia : isA i with
    | false =>
      have hq := (hy hia (fun W => C W ∧ Below w.heap.size w W) (fun W W' h1 h2 => ⟨hcl _ _ h1.1 h2, h1.2.trans (h2.mono h1.2.size)⟩) (fun W h1 => h1.1) ⟨⟨w, hw, Below.refl _ _⟩⟩).qOp hoi (K := fun a' => a' = a.put oi.dst (val i)) rfl
      refine wpOp_of_qOp (C := fun W => C W ∧ Below w.heap.size w W) ⟨hw, Below.refl _ _⟩ (fun a' w' hw' ha' => ?_) hq
      subst ha'
      refine AheadU.any hcl hA hB hL f _ _ w' hw'.1 ?_ (Nat.le_trans hN hw'.2.size) (fun j hj => ?_) (H _ (.inr rfl))
      · obtain ⟨bl, hbl⟩ := hI
        have hl : ∀ j, isA j = true → (li.setIfInBounds i true).getD j false = true → li.getD j false = true := fun j hj hlj => by
          rwa [getD_set_ne false (fun e => by rw [e, hj] at hia; cases hia)] at hlj
        refine ⟨bl, fun j hj hlj => ?_⟩
        obtain ⟨h1, h2, h3, h4⟩ := hbl j hj (hl j hj hlj)
        have hne : i ≠ j := fun e => by rw [e, hj] at hia; cases hia
        refine ⟨?_, h2, ?_, fun k hk hlk hne => h4 k hk (hl k hk hlk) hne⟩
        · have := hB i j oi hoi hin hj hne
          cases hd : oi.dst with
          | none => exact h1
          | some d =>
            have hdn : d ≠ sl j := fun e => this (by rw [hd, e])
            simp only [Act.put]
            rw [Array.getElem?_setIfInBounds_ne hdn]
            exact h1
        · rw [hw'.2.block _ (Array.getElem?_eq_some_iff.1 h3).1]; exact h3
      · have := hsz j hj
        cases oi.dst with
        | none => exact this
        | some d => simpa [Act.put] using this
    | true =>
      obtain ⟨hd, hg, hx⟩ := hA i oi hoi hia
      unfold wpOp
      simp only [hoi]
      rw [if_pos (by simp [Region.wanted, hg])]
      refine .inl ?_
      unfold Oper.wp
      rw [hx]
      simp only [Oper.upon]
      refine AheadU.any hcl hA hB hL f _ _ _ (hcl _ _ hw (below_al _ _)) ?_ (Nat.le_trans hN (by simp)) (fun j hj => ?_) (H _ (.inl hia))
      · obtain ⟨bl, hbl⟩ := hI
        refine ⟨fun j => if j = i then w.heap.size else bl j, fun j hj hlj => ?_⟩
        have hl : ∀ j, j ≠ i → (li.setIfInBounds i true).getD j false = true → li.getD j false = true := fun j hj hlj => by
          rwa [getD_set_ne false (Ne.symm hj)] at hlj
        have hlt : ∀ j, isA j = true → j ≠ i → (li.setIfInBounds i true).getD j false = true → bl j < w.heap.size := fun j hj hne hlj => (Array.getElem?_eq_some_iff.1 (hbl j hj (hl j hne hlj)).2.2.1).1
        by_cases hji : j = i
        · subst hji
          dsimp only
          rw [if_pos rfl]
          refine ⟨?_, hN, heap_alloc_new _ _, fun k hk hlk hne => ?_⟩
          · have := hsz j hj
            simp only [hd, Act.put]
            simp [this]
          · rw [if_neg hne]
            have := hlt k hk hne hlk
            omega
        · dsimp only
          rw [if_neg hji]
          obtain ⟨h1, h2, h3, h4⟩ := hbl j hj (hl j hji hlj)
          refine ⟨?_, h2, ?_, fun k hk hlk hne => ?_⟩
          · have := hB i j oi hoi hin hj (Ne.symm hji)
            have hdn : sl i ≠ sl j := fun e => this (by rw [hd, e])
            simp only [hd, Act.put]
            rw [Array.getElem?_setIfInBounds_ne hdn]
            exact h1
          · rw [(below_al w (blk i)).block _ (Array.getElem?_eq_some_iff.1 h3).1]; exact h3
          · by_cases hki : k = i
            · subst hki
              rw [if_pos rfl]
              have := hlt j hj hji hlj
              omega
            · rw [if_neg hki]
              exact h4 k hk (hl k hki hlk) hne
      · have := hsz j hj
        rw [hd]
        simpa [Act.put] using this
/-- Values for r slots, one after another. -/
def putAll (sl : Nat → Nat) (vs : Nat → Value) : Nat → Nat → Act → Act
  | 0, _, a => a
  | r + 1, k, a => putAll sl vs r (k + 1) (a.put (some (sl k)) (vs k))
theorem putAll_congr {sl : Nat → Nat} {vs vs' : Nat → Value} : ∀ (r k : Nat) (a : Act), (∀ i, k ≤ i → i < k + r → vs i = vs' i) → putAll sl vs r k a = putAll sl vs' r k a
  | 0, _, _, _ => rfl
  | r + 1, k, a, h => by
    rw [putAll, putAll, h k (Nat.le_refl _) (by omega)]
    exact putAll_congr r (k + 1) _ fun i h1 h2 => h i (by omega) (by omega)
theorem putAll_other {sl : Nat → Nat} {vs : Nat → Value} {t : Nat} : ∀ (r k : Nat) (a : Act), (∀ i, k ≤ i → i < k + r → sl i ≠ t) → (putAll sl vs r k a).tmps[t]? = a.tmps[t]?
  | 0, _, _, _ => rfl
  | r + 1, k, a, h => by
    rw [putAll, putAll_other r (k + 1) _ fun i h1 h2 => h i (by omega) (by omega)]
    have := h k (Nat.le_refl _) (by omega)
    simp only [Act.put]
    rw [Array.getElem?_setIfInBounds_ne this]
theorem putAll_get {sl : Nat → Nat} {vs : Nat → Value} : ∀ (r k : Nat) (a : Act), (∀ i j, k ≤ i → i < k + r → k ≤ j → j < k + r → i ≠ j → sl i ≠ sl j) → (∀ i, k ≤ i → i < k + r → sl i < a.tmps.size) → ∀ i, k ≤ i → i < k + r → (putAll sl vs r k a).tmps[sl i]? = some (vs i)
  | 0, _, _, _, _, _, h1, h2 => absurd h2 (by omega)
  | r + 1, k, a, hd, hz, i, h1, h2 => by
    rw [putAll]
    by_cases hik : i = k
    · subst hik
      rw [putAll_other _ _ _ fun j h3 h4 => hd j i (by omega) (by omega) h1 h2 (by omega)]
      have := hz i h1 h2
      simp [Act.put, this]
    · exact putAll_get r (k + 1) _ (fun x y a1 a2 a3 a4 => hd x y (by omega) (by omega) (by omega) (by omega)) (fun x a1 a2 => by have := hz x (by omega) (by omega); simpa [Act.put] using this) i (by omega) (by omega)
/-- The variables' part of the text's order. -/
theorem AheadU.lexA {isA : Nat → Bool} {val : Nat → Value} {sl : Nat → Nat} {m n g : Nat} {Lq : Act → Prop} (hsel : Region.noSelect ops = true) (hs : Region.sinkB md ops n = true) (hc : Region.chainB md ops n = true) (hn : n < ops.size)
    (hA : ∀ i, m ≤ i → i < n → isA i = true ∧ ∃ oi, ops[i]? = some oi ∧ oi.dst = some (sl i)) :
    ∀ (r k : Nat) (li : Array Bool) (a : Act), m ≤ k → k + r = n → HeadInv md ops n li → Region.lexHead md ops g r k li = true → (∀ vs : Nat → Value, Lq (putAll sl vs r k a)) →
      AheadU P md ops C isA val n (fun li' a' => HeadInv md ops n li' ∧ Region.seqB md ops g n li' = true ∧ Lq a') r li a
  | 0, k, li, a, _, hk, inv, hB, h => by
    obtain rfl : k = n := by omega
    exact ⟨inv, by simpa [Region.lexHead] using hB, h fun _ => undef⟩
  | r + 1, k, li, a, hm, hk, inv, hB, h => by
    simp only [Region.lexHead, Bool.and_eq_true] at hB
    obtain ⟨hia, oi, hoi, hd⟩ := hA k hm (by omega)
    have hr : k ∈ Region.ready md ops li := by simpa using hB.1.1
    refine AheadU.pick hoi (Region.noSelect_spec hsel) hs hc hn (by omega) (fun li' a' hL => seqB_ready hL.2.1) r li a inv (Region.free_spec hoi hB.1.2) hr (fun e => by rw [hia] at e; cases e) (fun v _ => ?_)
    refine AheadU.lexA hsel hs hc hn hA r (k + 1) _ _ (by omega) (by omega) (inv.set hr (by omega)) hB.2 (fun vs => ?_)
    have := h fun i => if i = k then v else vs i
    rw [putAll] at this
    rw [hd, putAll_congr (vs' := fun i => if i = k then v else vs i) r (k + 1) _ fun i h1 h2 => (if_neg (by omega)).symm]
    simpa using this
/-- What a walk leaves alone. -/
theorem quiet_keeps {D : World → Prop} {A : Act} {d : Nat} : ∀ (l : List Oper) (a : Act), (∀ o ∈ l, o.dst ≠ some d) → wpQuiet P ops D (fun a' => a' = A) l a → A.tmps[d]? = a.tmps[d]?
  | [], a, _, h => by obtain rfl : a = A := h; rfl
  | o :: l, a, hd, h => by
    have hput : ∀ v, (a.put o.dst v).tmps[d]? = a.tmps[d]? := fun v => by
      have := hd o List.mem_cons_self
      cases ho : o.dst with
      | none => rfl
      | some e =>
        have hne : e ≠ d := fun h' => this (by rw [ho, h'])
        simp only [Act.put]
        rw [Array.getElem?_setIfInBounds_ne hne]
    unfold wpQuiet at h
    split at h
    · obtain ⟨v, _, h2⟩ := h
      rw [quiet_keeps l _ (fun o' h' => hd o' (List.mem_cons_of_mem _ h')) h2, hput]
    · rw [quiet_keeps l _ (fun o' h' => hd o' (List.mem_cons_of_mem _ h')) h, hput]
/-- The slots of quiet operations: each one its own, and there. -/
def slotsB (s : Nat) : List Oper → Bool
  | [] => true
  | o :: l => (match o.dst with | some d => decide (d < s) && l.all fun o' => o'.dst != some d | none => false) && slotsB s l
theorem AheadU.lexQ {isA : Nat → Bool} {A : Act} {n m g r s : Nat} {L : Array Bool → Act → Prop} (hsel : Region.noSelect ops = true) (hs : Region.sinkB md ops n = true) (hc : Region.chainB md ops n = true) (hn : n < ops.size)
    (hend : ∀ li a, L li a → ∀ j ∈ Region.ready md ops li, n ≤ j) (hmn : m + r = n) (hA : ∀ i, i < m → isA i = false) (hD : ∃ D : World → Prop, (∀ W W', D W → Below W.heap.size W W' → D W') ∧ (∀ W, D W → C W) ∧ Nonempty (Wd D))
    (val : Nat → Value) (hval : ∀ i oi d, ops[i]? = some oi → oi.dst = some d → val i = (A.tmps[d]?).getD undef)
    (hfin : ∀ li, HeadInv md ops n li → Region.lexHead md ops g r m li = true → AheadU P md ops C isA val n L r li A) :
    ∀ (l : List Oper) (k : Nat) (li : Array Bool) (a : Act), (∀ j, j < l.length → l[j]? = ops[k + j]?) → k + l.length = m → HeadInv md ops n li → Region.lexHead md ops g (l.length + r) k li = true → a.tmps.size = s → slotsB s l = true →
      (∀ D : World → Prop, (∀ W W', D W → Below W.heap.size W W' → D W') → (∀ W, D W → C W) → Nonempty (Wd D) → wpQuiet P ops D (fun a' => a' = A) l a) → AheadU P md ops C isA val n L (l.length + r) li a
  | [], k, li, a, _, hk, inv, hB, _, _, h => by
    obtain ⟨D, h1, h2, h3⟩ := hD
    obtain rfl : a = A := h D h1 h2 h3
    simp only [List.length_nil, Nat.zero_add] at hB hk ⊢
    obtain rfl : k = m := by omega
    exact hfin li inv hB
  | o :: l, k, li, a, hl, hk, inv, hB, hz, hsl, h => by
    have h0 : ops[k]? = some o := by simpa using (hl 0 (by simp)).symm
    rw [List.length_cons, show l.length + 1 + r = l.length + r + 1 from by omega] at hB ⊢
    simp only [List.length_cons] at hk
    simp only [Region.lexHead, Bool.and_eq_true] at hB
    simp only [slotsB, Bool.and_eq_true] at hsl
    have hr : k ∈ Region.ready md ops li := by simpa using hB.1.1
    cases hd : o.dst with
    | none => rw [hd] at hsl; cases hsl.1
    | some d =>
      rw [hd] at hsl
      simp only [Bool.and_eq_true, decide_eq_true_eq, List.all_eq_true, bne_iff_ne] at hsl
      have key : ∀ D : World → Prop, (∀ W W', D W → Below W.heap.size W W' → D W') → (∀ W, D W → C W) → Nonempty (Wd D) → YieldsIn P ops D o (val k) a ∧ wpQuiet P ops D (fun a' => a' = A) l (a.put o.dst (val k)) := fun D h1 h2 h3 => by
        have hq : qOp P ops D k (wpQuiet P ops D (fun a' => a' = A) l) a := by unfold qOp; simp only [h0]; exact h D h1 h2 h3
        obtain ⟨v, hy, hK⟩ := yieldsIn_of_qOp h0 hq
        have e := quiet_keeps l _ hsl.1.2 hK
        have hv : val k = v := by
          rw [hval k o d h0 hd, e, hd]
          simp [Act.put, hz, hsl.1.1]
        rw [hv]
        exact ⟨hy, hK⟩
      refine AheadU.pick h0 (Region.noSelect_spec hsel) hs hc hn (by omega) hend (l.length + r) li a inv (Region.free_spec h0 hB.1.2) hr (fun _ D h1 h2 h3 => (key D h1 h2 h3).1) (fun v hv => ?_)
      obtain rfl : v = val k := hv.resolve_left (by rw [hA k (by omega)]; simp)
      refine AheadU.lexQ hsel hs hc hn hend hmn hA hD val hval hfin l (k + 1) _ _ (fun j hj => ?_) (by omega) (inv.set hr (by omega)) hB.2 (by rw [hd]; simpa [Act.put] using hz) hsl.2 (fun D h1 h2 h3 => (key D h1 h2 h3).2)
      have := hl (j + 1) (by simp; omega)
      simpa [Nat.add_assoc, Nat.add_comm 1 j] using this
theorem slotsB_lt {s : Nat} : ∀ {l : List Oper} {i : Nat} {o : Oper}, slotsB s l = true → l[i]? = some o → ∃ d, o.dst = some d ∧ d < s
  | [], _, _, _, h => by simp at h
  | p :: l, 0, o, hs, h => by
    obtain rfl : p = o := by simpa using h
    simp only [slotsB, Bool.and_eq_true] at hs
    cases hd : p.dst with
    | none => rw [hd] at hs; cases hs.1
    | some d =>
      rw [hd] at hs
      simp only [Bool.and_eq_true, decide_eq_true_eq] at hs
      exact ⟨d, rfl, hs.1.1⟩
  | p :: l, i + 1, o, hs, h => by
    simp only [slotsB, Bool.and_eq_true] at hs
    exact slotsB_lt hs.2 (by simpa using h)
theorem slotsB_ne {s : Nat} : ∀ {l : List Oper} {i j : Nat} {o p : Oper}, slotsB s l = true → l[i]? = some o → l[j]? = some p → i < j → o.dst ≠ p.dst
  | [], _, _, _, _, _, h, _, _ => by simp at h
  | x :: l, i, 0, o, p, _, _, _, h => by omega
  | x :: l, 0, j + 1, o, p, hs, h, k, _ => by
    obtain rfl : x = o := by simpa using h
    simp only [slotsB, Bool.and_eq_true] at hs
    have hk : p ∈ l := List.mem_of_getElem? (by simpa using k)
    cases hd : x.dst with
    | none => rw [hd] at hs; cases hs.1
    | some d =>
      rw [hd] at hs
      simp only [Bool.and_eq_true, decide_eq_true_eq, List.all_eq_true, bne_iff_ne] at hs
      exact fun e => hs.1.2 p hk e.symm
  | x :: l, i + 1, j + 1, o, p, hs, h, k, hij => by
    simp only [slotsB, Bool.and_eq_true] at hs
    exact slotsB_ne hs.2 (by simpa using h) (by simpa using k) (by omega)
theorem slotsB_take {s : Nat} : ∀ (l : List Oper) (k : Nat), slotsB s l = true → slotsB s (l.take k) = true
  | [], _, _ => by simp [slotsB]
  | o :: l, 0, _ => by simp [slotsB]
  | o :: l, k + 1, h => by
    simp only [slotsB, Bool.and_eq_true, List.take_succ_cons] at h ⊢
    refine ⟨?_, slotsB_take l k h.2⟩
    cases hd : o.dst with
    | none => rw [hd] at h; cases h.1
    | some d =>
      rw [hd] at h
      simp only [Bool.and_eq_true, decide_eq_true_eq, List.all_eq_true] at h ⊢
      exact ⟨h.1.1, fun x hx => h.1.2 x (List.mem_of_mem_take hx)⟩
end
/-- A region that draws its order: m quiet operations, then variables up to n, then a forced end. -/
theorem wp_region_floats {P : Program} {id : Nat} {Q : Exit → Act → World → Prop} {a : Act} {w : World} {l : List Oper} (n m : Nat) (C : World → Prop) (A : Act) (sl : Nat → Nat) (blk : Nat → Obj)
    (hcl : ∀ W W', C W → Below W.heap.size W W' → C W') (hC : C w.drew) (hm : P.follows .mixedOrders = true) (hB : Region.lexTailB .any l.toArray n = true) (hmn : m ≤ n)
    (hal : ∀ i, m ≤ i → i < n → ∃ o, l[i]? = some o ∧ o.dst = some (sl i) ∧ o.guard = none ∧ ∀ (a : Act) w, (execOp a.eval o).run P w = .ok (.value (.pointer (some ⟨w.heap.size, 0, none⟩))) (w.alloc (blk i)))
    (hsl : slotsB a.tmps.size (l.take n) = true)
    (hq : ∀ D : World → Prop, (∀ W W', D W → Below W.heap.size W W' → D W') → (∀ W, D W → C W) → Nonempty (Wd D) → wpQuiet P l.toArray (fun w' => ∃ n : Wd D, w' = n.w) (fun a' => a' = A) (l.take m) a)
    (ht : ∀ (W : World) (bl : Nat → Nat), C W → (∀ i, m ≤ i → i < n → w.heap.size ≤ bl i ∧ W.heap[bl i]? = some (blk i)) → (∀ i j, m ≤ i → i < n → m ≤ j → j < n → i ≠ j → bl i ≠ bl j) →
      wpList P l.toArray Q (l.drop n) (putAll sl (fun i => .pointer (some ⟨bl i, 0, none⟩)) (n - m) m A) W) : (Code.region id l.toArray true).wp P Q a w := by
  simp only [Region.lexTailB, Bool.and_eq_true, decide_eq_true_eq] at hB
  obtain ⟨⟨⟨⟨hsel, hn⟩, hs⟩, hc⟩, hlex⟩ := hB
  have hnl : n < l.length := by simpa using hn
  have hg : (l.drop n).length = l.toArray.size - n := by simp
  have hop : ∀ i : Nat, l.toArray[i]? = l[i]? := fun i => List.getElem?_toArray
  have inv : HeadInv .any l.toArray n (Array.replicate l.toArray.size false) :=
    ⟨by simp, fun j oj _ hl => (by rw [getD_replicate_false] at hl; cases hl), fun t _ ht => getD_in (by simpa using ht) (getD_replicate_false _ _)⟩
  have hq' : ∀ D : World → Prop, (∀ W W', D W → Below W.heap.size W W' → D W') → (∀ W, D W → C W) → Nonempty (Wd D) → wpQuiet P l.toArray D (fun a' => a' = A) (l.take m) a := fun D h1 h2 h3 => by
    have e : (fun w' => ∃ n : Wd D, w' = n.w) = D := funext fun w' => propext ⟨fun ⟨n, hn⟩ => hn ▸ n.h, fun hc => ⟨⟨w', hc⟩, rfl⟩⟩
    have := hq D h1 h2 h3
    rwa [e] at this
  have hne : Nonempty (Wd C) := ⟨⟨_, hC⟩⟩
  obtain ⟨isA, hisA⟩ : ∃ isA : Nat → Bool, isA = fun i => decide (m ≤ i ∧ i < n) := ⟨_, rfl⟩
  have hia : ∀ i, isA i = true ↔ m ≤ i ∧ i < n := fun i => by rw [hisA]; simp
  obtain ⟨val, hval⟩ : ∃ val : Nat → Value, val = fun i => match l[i]? with | some o => (match o.dst with | some d => (A.tmps[d]?).getD undef | none => undef) | none => undef := ⟨_, rfl⟩
  have tk : ∀ i, i < n → (l.take n)[i]? = l[i]? := fun i hi => List.getElem?_take_of_lt hi
  have hslA : ∀ i, m ≤ i → i < n → sl i < a.tmps.size := fun i h1 h2 => by
    obtain ⟨o, ho, hd, _⟩ := hal i h1 h2
    obtain ⟨d, hd', hlt⟩ := slotsB_lt hsl (i := i) (o := o) (by rw [tk i h2]; exact ho)
    rw [hd] at hd'
    cases hd'
    exact hlt
  have hdist : ∀ i j oi, l[i]? = some oi → i < n → isA j = true → i ≠ j → oi.dst ≠ some (sl j) := fun i j oi hoi hi hj hij => by
    obtain ⟨h1, h2⟩ := (hia j).1 hj
    obtain ⟨o, ho, hd, _⟩ := hal j h1 h2
    rcases Nat.lt_or_gt_of_ne hij with h | h
    · have := slotsB_ne hsl (i := i) (j := j) (o := oi) (p := o) (by rw [tk i hi]; exact hoi) (by rw [tk j h2]; exact ho) h
      rwa [hd] at this
    · have := slotsB_ne hsl (i := j) (j := i) (o := o) (p := oi) (by rw [tk j h2]; exact ho) (by rw [tk i hi]; exact hoi) h
      rw [hd] at this
      exact this.symm
  have hslne : ∀ i j, m ≤ i → i < n → m ≤ j → j < n → i ≠ j → sl i ≠ sl j := fun i j h1 h2 h3 h4 hij e => by
    obtain ⟨o, ho, hd, _⟩ := hal i h1 h2
    exact hdist i j o ho h2 ((hia j).2 ⟨h3, h4⟩) hij (by rw [hd, e])
  have hAs : ∀ i, m ≤ i → i < n → sl i < A.tmps.size := fun i h1 h2 => by
    have k := quiet_keeps (d := sl i) _ _ (fun o ho => by
      obtain ⟨j, hj⟩ := List.getElem?_of_mem ho
      have hjm : j < m := by have := (List.getElem?_eq_some_iff.1 hj).1; simp at this; omega
      exact hdist j i o (by rwa [List.getElem?_take_of_lt hjm] at hj) (by omega) ((hia i).2 ⟨h1, h2⟩) (by omega)) (hq' C hcl (fun _ h => h) hne)
    have := hslA i h1 h2
    rw [Array.getElem?_eq_getElem this] at k
    exact (Array.getElem?_eq_some_iff.1 k).1
  have hr : m + (n - m) = n := by omega
  obtain ⟨r, hrr⟩ : ∃ r, n - m = r := ⟨_, rfl⟩
  rw [hrr] at hr ht
  have hm' : (l.take m).length = m := by rw [List.length_take]; omega
  obtain ⟨Lq, hLq⟩ : ∃ Lq : Act → Prop, Lq = fun a' => ∀ (W : World) (bl : Nat → Nat), C W → (∀ i, m ≤ i → i < n → a'.tmps[sl i]? = some (.pointer (some ⟨bl i, 0, none⟩)) ∧ w.heap.size ≤ bl i ∧ W.heap[bl i]? = some (blk i)) → (∀ i j, m ≤ i → i < n → m ≤ j → j < n → i ≠ j → bl i ≠ bl j) → wpList P l.toArray Q (l.drop n) a' W := ⟨_, rfl⟩
  have hput : ∀ vs : Nat → Value, Lq (putAll sl vs r m A) := fun vs => by
    rw [hLq]
    intro W bl hW h1 h2
    have e : ∀ i, m ≤ i → i < m + r → vs i = .pointer (some ⟨bl i, 0, none⟩) := fun i k1 k2 => by
      have := (h1 i k1 (by omega)).1
      rw [putAll_get r m A (fun x y a1 a2 a3 a4 => hslne x y a1 (by omega) a3 (by omega)) (fun x a1 a2 => hAs x a1 (by omega)) i k1 k2] at this
      exact Option.some.inj this
    rw [putAll_congr r m A e]
    exact ht W bl hW (fun i k1 k2 => (h1 i k1 k2).2) h2
  have H := AheadU.lexQ (P := P) (C := C) (md := .any) (isA := isA) (A := A) (g := l.toArray.size - n) (m := m) (r := r) (s := a.tmps.size)
    (L := fun li' a' => HeadInv .any l.toArray n li' ∧ Region.seqB .any l.toArray (l.toArray.size - n) n li' = true ∧ Lq a')
    hsel hs hc hn (fun li a hL => seqB_ready hL.2.1) hr (fun i hi => by rw [hisA]; simp; omega) ⟨C, hcl, fun _ h => h, hne⟩ val (fun i oi d h1 h2 => by rw [hop] at h1; rw [hval]; simp only [h1, h2])
    (fun li hinv hlx => AheadU.lexA hsel hs hc hn (fun i h1 h2 => ⟨(hia i).2 ⟨h1, h2⟩, by obtain ⟨o, ho, hd, _⟩ := hal i h1 h2; exact ⟨o, by rw [hop]; exact ho, hd⟩⟩) r m li A (Nat.le_refl _) hr hinv hlx hput)
    (l.take m) 0 _ a (fun j hj => by rw [hm'] at hj; simp [hj]) (by omega) inv (by rw [hm', hr]; exact hlex) rfl (by have := slotsB_take (l.take n) m hsl; rwa [List.take_take, Nat.min_eq_left hmn] at this) hq'
  refine wp_region_any hm ?_
  have K := AheadU.any (P := P) (ops := l.toArray) (md := .any) (C := C) (sl := sl) (blk := blk) (N := w.heap.size) (g := l.toArray.size - n) (Q := Q) hcl
    (fun i oi h1 h2 => by
      obtain ⟨k1, k2⟩ := (hia i).1 h2
      obtain ⟨o, ho, r1, r2, r3⟩ := hal i k1 k2
      rw [hop] at h1
      obtain rfl : oi = o := Option.some.inj (h1.symm.trans ho)
      exact ⟨r1, r2, r3⟩)
    (fun i j oi h1 h2 h3 h4 => hdist i j oi (by rwa [hop] at h1) h2 h3 h4)
    (fun li a' w' hw' hI _ hL => by
      obtain ⟨hinv, hseq, hq⟩ := hL
      rw [hLq] at hq
      have hall : ∀ i, i < n → li.getD i false = true := fun i hi => by
        have hn0 : n ∈ Region.ready .any l.toArray li := by
          obtain ⟨g0, hg0⟩ : ∃ g0, l.toArray.size - n = g0 + 1 := ⟨l.toArray.size - n - 1, by omega⟩
          rw [hg0] at hseq
          simp only [Region.seqB, Bool.and_eq_true, decide_eq_true_eq] at hseq
          rw [hseq.1]
          simp
        cases hg : li.getD i false with
        | true => rfl
        | false => exact absurd hn0 (tail_waits hs hc hn hinv _ i rfl hi (getD_in (by rw [hinv.size]; omega) hg) n (Nat.le_refl _))
      obtain ⟨bl, hbl⟩ := hI
      have := wpAny_of_seq (md := .any) (Q' := Q) (l.drop n) n li a' w' (fun j => by simp [List.getElem?_drop]) (by rw [hg]; exact hseq) (hq w' bl hw'
        (fun i k1 k2 => by obtain ⟨x, y, z, _⟩ := hbl i ((hia i).2 ⟨k1, k2⟩) (hall i k2); exact ⟨x, y, z⟩)
        (fun i j k1 k2 k3 k4 hij => (hbl j ((hia j).2 ⟨k3, k4⟩) (hall j k4)).2.2.2 i ((hia i).2 ⟨k1, k2⟩) (hall i k2) hij))
      rwa [hg] at this)
    _ _ _ _ hC ⟨fun _ => 0, fun i _ hl => by rw [getD_replicate_false] at hl; cases hl⟩ (Nat.le_refl _) (fun i hi => by obtain ⟨h1, h2⟩ := (hia i).1 hi; exact hslA i h1 h2) H
  rw [hm', show m + r + (l.toArray.size - n) = l.toArray.size from by omega] at K
  exact K
end Go.Proofs.YtcejmfgbfdhflaaGreat
namespace Go.Proofs.YtcejmfgbfdhflaaGreat
open Go.RowKit Go.BigFrame Go.Sort
theorem cs_heap (W : World) (b : Nat) (cs : Array Value) (e : TypeId) (h : W.heap[b]? = some (.cells cs e)) : ∀ (l : List Value) (o : Nat), cs.toList.drop o = l → Cs W (blk b o l)
  | [], _, _ => trivial
  | v :: l, o, hl => by
    have h1 : cs.toList[o]? = some v := by
      have := congrArg List.head? hl
      simpa [List.head?_drop] using this
    refine ⟨⟨(Array.getElem?_eq_some_iff.1 h).1, ?_, ?_⟩, cs_heap W b cs e h l (o + 1) ?_⟩
    · have h2 : cs[o]? = some v := by simpa using h1
      simpa [World.cell?, h] using h2
    · simp [World.frozen?, h]
    · rw [← List.drop_drop, hl]; simp
theorem grown_map (W : World) (b : Nat) (f : Array Value → Array Value) : W.grownBy (mapBlock W b f) (some b) :=
  ⟨rfl, rfl, rfl, by simp [mapBlock], fun k hk hne => by
    have : b ≠ k := fun e => hne (by rw [e])
    simp [mapBlock, hk, Array.getElem_modify, this]⟩
theorem heap_map (W : World) (b : Nat) (f : Array Value → Array Value) (cs : Array Value) (e : TypeId) (h : W.heap[b]? = some (.cells cs e)) : (mapBlock W b f).heap[b]? = some (.cells (f cs) e) := by
  obtain ⟨h1, h2⟩ := Array.getElem?_eq_some_iff.1 h
  simp [mapBlock, h1, Array.getElem_modify, onCells, h2]
/-- A variable of the call's own, written. -/
theorem St.put {w W : World} {L : List (Nat × Nat × Value)} (h : St w W L) (b : Nat) (hb : w.heap.size ≤ b) (hne : ∀ x ∈ L, x.1 ≠ b) (cs : Array Value) (e : TypeId) (hh : W.heap[b]? = some (.cells cs e)) (f : Array Value → Array Value) (cs' : Array Value) (hf : f cs = cs') :
    St w (mapBlock W b f) (blk b 0 cs'.toList ++ L) := by
  have hg := grown_map W b f
  refine ⟨h.b.trans ⟨hg.os, hg.tape, hg.output, hg.size, fun k hk => hg.block k (Nat.lt_of_lt_of_le hk h.b.size) (fun e => ?_)⟩, ?_⟩
  · injection e with e; omega
  · exact Cs.app (h.c.grown hg fun x hx e => hne x hx (by injection e)) (cs_heap _ b cs' e (by rw [← hf]; exact heap_map W b f cs e hh) cs'.toList 0 rfl)
/-- A region that draws its order: m quiet operations, then variables up to n, then a forced end. -/
theorem wp_region_vars {P : Program} {id : Nat} {Q : Exit → Act → World → Prop} {a : Act} {w : World} {l : List Oper} (n m : Nat) (C : World → Prop) (sl : Nat → Nat) (blk : Nat → Obj)
    (hcl : ∀ W W', C W → Below W.heap.size W W' → C W') (hC : C w.drew) (hm : P.follows .mixedOrders = true) (hB : Region.lexTailB .any l.toArray n = true) (hmn : m ≤ n)
    (hal : ∀ i, m ≤ i → i < n → ∃ o, l[i]? = some o ∧ o.dst = some (sl i) ∧ o.guard = none ∧ ∀ (a : Act) w, (execOp a.eval o).run P w = .ok (.value (.pointer (some ⟨w.heap.size, 0, none⟩))) (w.alloc (blk i)))
    (hsl : slotsB a.tmps.size (l.take n) = true)
    (h : ∃ A : Act, (∀ D : World → Prop, (∀ W W', D W → Below W.heap.size W W' → D W') → (∀ W, D W → C W) → Nonempty (Wd D) → wpQuiet P l.toArray (fun w' => ∃ n : Wd D, w' = n.w) (fun a' => a' = A) (l.take m) a) ∧
      (∀ (W : World) (bl : Nat → Nat), C W → (∀ i, m ≤ i → i < n → w.heap.size ≤ bl i ∧ W.heap[bl i]? = some (blk i)) → (∀ i j, m ≤ i → i < n → m ≤ j → j < n → i ≠ j → bl i ≠ bl j) →
        wpList P l.toArray Q (l.drop n) (putAll sl (fun i => .pointer (some ⟨bl i, 0, none⟩)) (n - m) m A) W)) : (Code.region id l.toArray true).wp P Q a w :=
  let ⟨A, h1, h2⟩ := h
  wp_region_floats n m C A sl blk hcl hC hm hB hmn hal hsl h1 h2
/-- A region that draws, makes one variable, and then has a forced end. -/
theorem wp_region_var1 {P : Program} {id : Nat} {Q : Exit → Act → World → Prop} {a : Act} {w : World} {l : List Oper} (m : Nat) (C : World → Prop) (s : Nat) (ob : Obj)
    (hcl : ∀ W W', C W → Below W.heap.size W W' → C W') (hC : C w.drew) (hm : P.follows .mixedOrders = true) (hB : Region.lexTailB .any l.toArray (m + 1) = true)
    (hal : ∃ o, l[m]? = some o ∧ o.dst = some s ∧ o.guard = none ∧ ∀ (a : Act) w, (execOp a.eval o).run P w = .ok (.value (.pointer (some ⟨w.heap.size, 0, none⟩))) (w.alloc ob))
    (hsl : slotsB a.tmps.size (l.take (m + 1)) = true)
    (h : ∃ A : Act, (∀ D : World → Prop, (∀ W W', D W → Below W.heap.size W W' → D W') → (∀ W, D W → C W) → Nonempty (Wd D) → wpQuiet P l.toArray (fun w' => ∃ n : Wd D, w' = n.w) (fun a' => a' = A) (l.take m) a) ∧
      (∀ (n : Wd C) (k : Nat), w.heap.size ≤ k → n.w.heap[k]? = some ob → wpList P l.toArray Q (l.drop (m + 1)) (A.put (some s) (.pointer (some ⟨k, 0, none⟩))) n.w)) : (Code.region id l.toArray true).wp P Q a w := by
  obtain ⟨A, h1, h2⟩ := h
  refine wp_region_floats (m + 1) m C A (fun _ => s) (fun _ => ob) hcl hC hm hB (by omega) ?_ hsl h1 ?_
  · intro i hi1 hi2
    obtain rfl : i = m := by omega
    exact hal
  · intro W bl hW hb _
    obtain ⟨p1, q1⟩ := hb m (by omega) (by omega)
    have := h2 ⟨W, hW⟩ (bl m) p1 q1
    rw [show m + 1 - m = 1 from by omega]
    exact this
end Go.Proofs.YtcejmfgbfdhflaaGreat
namespace Go.Proofs.YtcejmfgbfdhflaaGreat
open Go.RowKit Go.BigFrame Go.Sort
attribute [local go_sem] World.cell?_alloc_some
theorem kStart {V : World} {b : Nat} {v : Value} (hb : b < V.heap.size) (h : V.cell? ⟨b, 0, none⟩ = some v) : V.drew.cell? ⟨b, 0, none⟩ = some v ∧ Below V.heap.size V V.drew :=
  ⟨((below_dr V).cell (p := ⟨b, 0, none⟩) hb).trans h, below_dr V⟩
theorem kCall {V : World} {b : Nat} {v : Value} (hb : b < V.heap.size) {W W' : World} (hg : Below W.heap.size W W') (h : W.cell? ⟨b, 0, none⟩ = some v ∧ Below V.heap.size V W) : W'.cell? ⟨b, 0, none⟩ = some v ∧ Below V.heap.size V W' :=
  ⟨(hg.cell (p := ⟨b, 0, none⟩) (Nat.lt_of_lt_of_le hb h.2.size)).trans h.1, h.2.trans (hg.mono h.2.size)⟩
theorem kSet {V : World} {b : Nat} {v : Value} (hb : b < V.heap.size) {W : World} {k : Nat} {v0 v1 v2 v3 v4 : Value} (hk : V.heap.size ≤ k) (h : W.cell? ⟨b, 0, none⟩ = some v ∧ Below V.heap.size V W) :
    (((((W.setCell ⟨k, 0, none⟩ v0).setCell ⟨k, 1, none⟩ v1).setCell ⟨k, 2, none⟩ v2).setCell ⟨k, 3, none⟩ v3).setCell ⟨k, 4, none⟩ v4).cell? ⟨b, 0, none⟩ = some v ∧ Below V.heap.size V (((((W.setCell ⟨k, 0, none⟩ v0).setCell ⟨k, 1, none⟩ v1).setCell ⟨k, 2, none⟩ v2).setCell ⟨k, 3, none⟩ v3).setCell ⟨k, 4, none⟩ v4) :=
  ⟨((set5 (Below.refl V.heap.size W) hk v0 v1 v2 v3 v4).cell (p := ⟨b, 0, none⟩) hb).trans h.1, set5 h.2 hk _ _ _ _ _⟩
theorem kAl2 {V : World} {b : Nat} {v : Value} (hb : b < V.heap.size) {W : World} {o o' : Obj} (hk : V.heap.size ≤ W.heap.size) (h : (W.alloc o).cell? ⟨b, 0, none⟩ = some v ∧ Below V.heap.size V (W.alloc o)) :
    (W.alloc o').cell? ⟨b, 0, none⟩ = some v ∧ Below V.heap.size V (W.alloc o') := by
  obtain ⟨h1, h0⟩ := h
  have hA := below_al W o
  have hB := below_al W o'
  have e0 : b < W.heap.size := Nat.lt_of_lt_of_le hb hk
  exact ⟨((hB.cell (p := ⟨b, 0, none⟩) e0).trans (hA.cell (p := ⟨b, 0, none⟩) e0).symm).trans h1,
    ⟨h0.os.trans (by simp), h0.tape.trans (by simp), h0.output.trans (by simp), by have := h0.size; simp at this ⊢; omega, fun i hi => by have e1 := hA.block i (by omega); have e2 := hB.block i (by omega); rw [e2, ← e1]; exact h0.block i hi⟩⟩
theorem kFin {w V : World} {b : Nat} {v : Value} (h0 : Below w.heap.size w V) {W : World} (h : W.cell? ⟨b, 0, none⟩ = some v ∧ Below V.heap.size V W) : Below w.heap.size w W := h0.trans (h.2.mono h0.size)
theorem kSize {V : World} {b : Nat} {v : Value} {W W' : World} (h : W.cell? ⟨b, 0, none⟩ = some v ∧ Below V.heap.size V W) (hg : Below W.heap.size W W') : V.heap.size ≤ W'.heap.size := Nat.le_trans h.2.size hg.size
theorem new5 {W W' : World} {a b c d f : Value} {e : TypeId} (hb : Below (W.alloc (.cells #[a, b, c, d, f] e)).heap.size (W.alloc (.cells #[a, b, c, d, f] e)) W') :
    (W'.cell? ⟨W.heap.size, 0, none⟩ = some a ∧ W'.frozen? ⟨W.heap.size, 0, none⟩ = false) ∧ (W'.cell? ⟨W.heap.size, 1, none⟩ = some b ∧ W'.frozen? ⟨W.heap.size, 1, none⟩ = false) ∧
    (W'.cell? ⟨W.heap.size, 2, none⟩ = some c ∧ W'.frozen? ⟨W.heap.size, 2, none⟩ = false) ∧ (W'.cell? ⟨W.heap.size, 3, none⟩ = some d ∧ W'.frozen? ⟨W.heap.size, 3, none⟩ = false) ∧
    (W'.cell? ⟨W.heap.size, 4, none⟩ = some f ∧ W'.frozen? ⟨W.heap.size, 4, none⟩ = false) := by
  obtain ⟨⟨h0, r1, z1⟩, ⟨_, r2, z2⟩, ⟨_, r3, z3⟩, ⟨_, r4, z4⟩, ⟨_, r5, z5⟩, _⟩ := (cs_blk W #[a, b, c, d, f] e _ 0 rfl).keep hb
  exact ⟨⟨r1, z1⟩, ⟨r2, z2⟩, ⟨r3, z3⟩, ⟨r4, z4⟩, ⟨r5, z5⟩⟩
theorem new5d {W W' : World} {a b c d f : Value} {e : TypeId} (hb : Below (W.alloc (.cells #[a, b, c, d, f] e)).drew.heap.size (W.alloc (.cells #[a, b, c, d, f] e)).drew W') :
    (W'.cell? ⟨W.heap.size, 0, none⟩ = some a ∧ W'.frozen? ⟨W.heap.size, 0, none⟩ = false) ∧ (W'.cell? ⟨W.heap.size, 1, none⟩ = some b ∧ W'.frozen? ⟨W.heap.size, 1, none⟩ = false) ∧
    (W'.cell? ⟨W.heap.size, 2, none⟩ = some c ∧ W'.frozen? ⟨W.heap.size, 2, none⟩ = false) ∧ (W'.cell? ⟨W.heap.size, 3, none⟩ = some d ∧ W'.frozen? ⟨W.heap.size, 3, none⟩ = false) ∧
    (W'.cell? ⟨W.heap.size, 4, none⟩ = some f ∧ W'.frozen? ⟨W.heap.size, 4, none⟩ = false) := new5 ((below_dr _).trans hb)
abbrev Z90 : Obj := .cells #[.int .i64 0, .int .i64 0, .int .i64 0, .int .i64 0, .int .i64 0] 90
theorem alloc90 (P : Act) (w : World) (o : Oper) (h : o.op = .alloc 90) : (execOp P.eval o).run Tryz.prog w = .ok (.value (.pointer (some ⟨w.heap.size, 0, none⟩))) (w.alloc Z90) := by
  unfold execOp
  rw [h]
  go_simp
/-- The first error of chains. -/
def chkCs (pre : List Ch) : List Ch → Int
  | [] => 0
  | c :: r => if okCh c = false then 1 else if (chF pre c.id).isSome = true then 6 else chkCs (pre ++ [c]) r
theorem chkCs_step (l : List Ch) (k : Nat) (h : k < l.length) : chkCs (l.take k) (l.drop k) = if okCh l[k] = false then 1 else if (chF (l.take k) l[k].id).isSome = true then 6 else chkCs (l.take (k + 1)) (l.drop (k + 1)) := by
  rw [List.drop_eq_getElem_cons h, take_snocG l k h]
  rfl
set_option maxRecDepth 100000 in
set_option maxHeartbeats 3200000 in
theorem checkChains_any (q : Option Addr) (cap : Nat) (l : List Ch) (w : World) (hl : l.length ≤ 1000) (hcap : l.length ≤ cap) (hcm : cap ≤ maxLen) (h : ChsAt w q l) :
    Calls Tryz.prog 75 #[.slice q l.length cap] w fun e w' => e = .returned (.int .i64 (chkCs [] l)) ∧ Below w.heap.size w w' := by
  have H := Lib.hid h
  obtain ⟨E, hE⟩ : ∃ E, chkCs [] l = E := ⟨_, rfl⟩
  have HE := Lib.hid hE
  rw [hE]
  clear h hE
  unfold maxLen at hcm
  go_enter Tryz.func75, Tryz.ntmps75
  go_wp2_with fail
  go_loopw [9] (fun i wr => ∃ (k : Nat), Below w.heap.size w wr ∧ i = .int .i64 (k : Int) ∧ k ≤ l.length ∧ Hid (chkCs (l.take k) (l.drop k) = E)) (fun i wr => l.length - (intOf i).toNat)
  case atStart => exact ⟨0, Below.refl _ _, rfl, Nat.zero_le _, HE⟩
  case round =>
    obtain ⟨k, hG, rfl, hk, HI⟩ := hrel
    have HG := Lib.hid hG
    by_cases hlt : k < l.length
    · have HI2 : Hid (_ = E) := (chkCs_step l k hlt).symm.trans HI.out
      clear HI
      rcases H.out with h0 | ⟨b, o, rfl, hb, hc⟩
      · exact absurd hlt (by simp [h0])
      · obtain ⟨c1, c2, c3, c4, c5⟩ := hc k l[k] (List.getElem?_eq_getElem hlt)
        have b1 := (hG.cell (p := ⟨b, o + k * 5, none⟩) hb).trans c1
        have b2 := (hG.cell (p := ⟨b, o + k * 5 + 1, none⟩) hb).trans c2
        have b3 := (hG.cell (p := ⟨b, o + k * 5 + 2, none⟩) hb).trans c3
        have b4 := (hG.cell (p := ⟨b, o + k * 5 + 3, none⟩) hb).trans c4
        have b5 := (hG.cell (p := ⟨b, o + k * 5 + 4, none⟩) hb).trans c5
        obtain ⟨c, hcc⟩ : ∃ c, l[k] = c := ⟨_, rfl⟩
        rw [hcc] at b1 b2 b3 b4 b5 HI2
        have hlt' : (k : Int) < (l.length : Int) := by omega
        have hkc : (k : Int) ≤ (cap : Int) := by omega
        have C1 := fun W => validChain_any c W
        have C2 := fun W (hb : Below w.heap.size w W) => chainOf_any (some ⟨b, o, none⟩) cap (l.take k) c.id W (by simp; omega) ((H.out.take k).keep hb)
        simp only [List.length_take, Nat.min_eq_left (Nat.le_of_lt hlt)] at C2
        obtain ⟨x0, h0⟩ : ∃ b, okCh c = b := ⟨_, rfl⟩
        obtain ⟨x1, h1⟩ : ∃ b, (chF (l.take k) c.id).isSome = b := ⟨_, rfl⟩
        obtain ⟨d, hd⟩ : ∃ d, chOr (l.take k) c.id = d := ⟨_, rfl⟩
        rw [h0, h1] at HI2
        simp only [h0] at C1
        simp only [h1, hd] at C2
        clear c1 c2 c3 c4 c5 hc hb hG hcc h0 h1 hd
        go_wp2_with fail
        obtain ⟨W0, hW0⟩ : ∃ W0, (wr).alloc (.cells #[.int .i64 c.id, .int .i64 c.year, .int .i64 c.lo, .int .i64 c.hi, .int .i64 c.wear] 90) = W0 := ⟨_, rfl⟩
        have S0 : St wr W0 [(wr.heap.size, 0, .int .i64 c.id), (wr.heap.size, 1, .int .i64 c.year), (wr.heap.size, 2, .int .i64 c.lo), (wr.heap.size, 3, .int .i64 c.hi), (wr.heap.size, 4, .int .i64 c.wear)] := by rw [← hW0]; exact ((St.nil wr)).box #[.int .i64 c.id, .int .i64 c.year, .int .i64 c.lo, .int .i64 c.hi, .int .i64 c.wear] 90 (wr.heap.size) (by simp)
        rw [hW0]
        clear hW0
        obtain ⟨D, hC0, HD, LD, BD, hne⟩ := cls S0
        haveI := hne
        obtain ⟨d0, rfl⟩ : ∃ n : Wd D, W0 = n.w := ⟨⟨_, hC0⟩, rfl⟩
        have fD0 : ∀ n : Wd D, n.w.cell? ⟨wr.heap.size, 0, none⟩ = some (.int .i64 c.id) := fun n => (LD.out n).1.2.1
        have fD1 : ∀ n : Wd D, n.w.cell? ⟨wr.heap.size, 1, none⟩ = some (.int .i64 c.year) := fun n => (LD.out n).2.1.2.1
        have fD2 : ∀ n : Wd D, n.w.cell? ⟨wr.heap.size, 2, none⟩ = some (.int .i64 c.lo) := fun n => (LD.out n).2.2.1.2.1
        have fD3 : ∀ n : Wd D, n.w.cell? ⟨wr.heap.size, 3, none⟩ = some (.int .i64 c.hi) := fun n => (LD.out n).2.2.2.1.2.1
        have fD4 : ∀ n : Wd D, n.w.cell? ⟨wr.heap.size, 4, none⟩ = some (.int .i64 c.wear) := fun n => (LD.out n).2.2.2.2.1.2.1
        clear S0 hC0
        have D1 := cin HD fun W => Calls.be (C1 W)
        clear C1
        cases x0
        · go_wp2_with (first | first | (go_at_call 138; with_reducible refine (D1 _).out.mono ?_; rintro e w' ⟨rfl, n, rfl⟩))
          go_ret
          exact ⟨ret_int (by rw [← HI2.out]; rfl), HG.out.trans ((BD.out _).mono HG.out.size)⟩
        · go_wp2_with (first | first | (go_at_call 138; with_reducible refine (D1 _).out.mono ?_; rintro e w' ⟨rfl, n, rfl⟩))
          have hV : wr.heap.size < n.w.heap.size := (LD.out n).1.1
          have S0 := Lib.hid (kStart hV (fD0 n))
          have KC := fun W W' => Lib.hid (@kCall n.w wr.heap.size (.int .i64 c.id) hV W W')
          have KS := fun W k v0 v1 v2 v3 v4 => Lib.hid (@kSet n.w wr.heap.size (.int .i64 c.id) hV W k v0 v1 v2 v3 v4)
          have KA := fun W o o' => Lib.hid (@kAl2 n.w wr.heap.size (.int .i64 c.id) hV W o o')
          have KB := Lib.hid (HG.out.trans ((BD.out n).mono HG.out.size))
          have E2 := fun W (h : W.cell? ⟨wr.heap.size, 0, none⟩ = some (.int .i64 c.id) ∧ Below n.w.heap.size n.w W) => Lib.hid (C2 W (KB.out.trans (h.2.mono KB.out.size)))
          clear D1 C2 b1 b2 b3 b4 b5
          go_region_held3 (fun W => W.cell? ⟨wr.heap.size, 0, none⟩ = some (.int .i64 c.id) ∧ Below n.w.heap.size n.w W)
            (first | (with_reducible exact S0.out) | (with_reducible exact (KC _ _).out (by assumption) (by assumption)) | (with_reducible exact (KC _ _).out (below_al _ _) (by assumption)) | (with_reducible exact (KA _ _ _).out (by assumption) (by assumption)) | (with_reducible exact (KS _ _ _ _ _ _ _).out (by first | assumption | omega | (simp; omega) | simp) (by assumption)))
            (first | (go_at_call 112; with_reducible refine (E2 _ (by assumption)).out.mono ?_; rintro e w' ⟨rfl, hb⟩; have hn := kSize (by with_reducible assumption) hb; (first | (with_reducible have hz := new5 hb) | (with_reducible have hz := new5d hb) | skip)))
          all_goals
            have KF := fun W => Lib.hid (@kFin w n.w wr.heap.size (.int .i64 c.id) KB.out W)
            clear S0 KC KA KS E2
            cases x1
            · go_wp2_with fail
              go_roundw
              case rel => exact ⟨k + 1, (KF _).out (by assumption), by simp, hlt, by unfold Hid; rw [← HI2.out]; rfl⟩
              case measure => simp [intOf]; omega
            · go_wp2_with fail
              go_ret
              exact ⟨ret_int (by rw [← HI2.out]; rfl), (KF _).out (by assumption)⟩
    · obtain rfl : k = l.length := by omega
      clear hG
      go_wp2_with fail
      go_ret
      exact ⟨ret_int (by rw [← HI.out]; simp [chkCs]), HG.out⟩
end Go.Proofs.YtcejmfgbfdhflaaGreat
namespace Go.Proofs.YtcejmfgbfdhflaaGreat
open Go.RowKit Go.BigFrame Go.Sort
attribute [local go_sem] World.cell?_alloc_some
def chkPs (cs : List Ch) (pre : List Int) : List Pf → Int
  | [] => 0
  | p :: r => if okPf cs p = false then 1 else if pre.contains p.id = true then 6 else chkPs cs (pre ++ [p.id]) r
def chkRs (cs : List Ch) (ids : List Int) (pre : List Pf) : List Pf → Int
  | [] => 0
  | p :: r => if okRp cs p = false then 1 else if (ids.contains p.id || repB pre p) = true then 6 else chkRs cs (ids ++ [p.id]) (pre ++ [p]) r
/-- The first error of works. -/
def chk (x : WA) : Int :=
  if (decide (20 < x.cs.length) || decide (60 < x.ps.length + x.rs.length)) = true then 2
  else if chkCs [] x.cs ≠ 0 then chkCs [] x.cs
  else if chkPs x.cs [] x.ps ≠ 0 then chkPs x.cs [] x.ps
  else chkRs x.cs (x.ps.map (·.id)) [] x.rs
theorem chkPs_step (cs : List Ch) (l : List Pf) (k : Nat) (h : k < l.length) : chkPs cs ((l.take k).map (·.id)) (l.drop k) = if okPf cs l[k] = false then 1 else if ((l.take k).map (·.id)).contains l[k].id = true then 6 else chkPs cs ((l.take (k + 1)).map (·.id)) (l.drop (k + 1)) := by
  rw [List.drop_eq_getElem_cons h, take_snocG l k h, List.map_append]
  rfl
theorem chkRs_step (cs : List Ch) (i0 : List Int) (l : List Pf) (k : Nat) (h : k < l.length) : chkRs cs (i0 ++ (l.take k).map (·.id)) (l.take k) (l.drop k) = if okRp cs l[k] = false then 1 else if ((i0 ++ (l.take k).map (·.id)).contains l[k].id || repB (l.take k) l[k]) = true then 6 else chkRs cs (i0 ++ (l.take (k + 1)).map (·.id)) (l.take (k + 1)) (l.drop (k + 1)) := by
  rw [List.drop_eq_getElem_cons h, take_snocG l k h, List.map_append, ← List.append_assoc]
  rfl
theorem IntsAt.take {W : World} {p : Option Addr} {l : List Int} (h : IntsAt W p l) (k : Nat) : IntsAt W p (l.take k) := by
  rcases h with rfl | ⟨b, o, rfl, hlt, hc⟩
  · exact Or.inl (by simp)
  · exact Or.inr ⟨b, o, rfl, hlt, fun j q hq => hc j q (by rw [List.getElem?_take] at hq; split at hq; exact hq; cases hq)⟩
theorem OI.shape {W : World} {B : Nat} {v : Value} {l : List Int} (h : OI W B v l) : ∃ q cap, v = .slice q l.length cap ∧ IntsAt W q l ∧ l.length ≤ cap ∧ cap ≤ maxLen := by
  obtain ⟨q, cap, rfl, h2, h3⟩ := OI.ints h
  refine ⟨q, cap, rfl, h2, ?_⟩
  obtain ⟨_, ⟨e, h4⟩ | ⟨g, c, cur, e, _, _, h5, h6, _⟩⟩ := h
  · injection e with e1 e2 e3; subst e3; rw [h4]; exact ⟨Nat.le_refl _, Nat.zero_le _⟩
  · injection e with e1 e2 e3; subst e3; exact ⟨h5, h6⟩
theorem clsF {w W0 : World} {L : List (Nat × Nat × Value)} (S : St w W0 L) : ∃ C : World → Prop, C W0 ∧ Hid (∀ W W', C W → Below W.heap.size W W' → C W') ∧ Hid (∀ n : Wd C, Cs n.w L) ∧ Hid (∀ n : Wd C, Below w.heap.size w n.w) ∧ Nonempty (Wd C) ∧ Hid (∀ W, Below w.heap.size w W → Cs W L → C W) :=
  ⟨fun W => St w W L, S, fun _ _ h hb => h.next hb, fun n => n.h.c, fun n => n.h.b, ⟨⟨W0, S⟩⟩, fun _ h1 h2 => ⟨h1, h2⟩⟩
set_option maxRecDepth 100000 in
set_option maxHeartbeats 6400000 in
theorem Check_any (x : WA) (w : World) (h : x.At w) : Calls Tryz.prog 23 #[x.v] w fun e w' => e = .returned (.int .i64 (chk x)) ∧ Below w.heap.size w w' := by
  have K1 := fun W (hb : Below w.heap.size w W) => tooMany_any x W (h.keep hb)
  have K2 := fun W (hb : Below w.heap.size w W) => checkChains_any x.q1 x.c1 x.cs W h.n1 h.k1 h.m1 (h.cs.keep hb)
  have K3 := fun W (hb : Below w.heap.size w W) => idsOf_any x W (h.keep hb)
  have K4 := fun W (hb : Below w.heap.size w W) (p : Pf) => validProof_any x p W (h.keep hb)
  have K5 := fun W (hb : Below w.heap.size w W) (p : Pf) => validRepair_any x p W (h.keep hb)
  have H := Lib.hid h
  obtain ⟨E, hE⟩ : ∃ E, chk x = E := ⟨_, rfl⟩
  have HE := Lib.hid hE
  rw [hE]
  have n1 := h.n1
  have n2 := h.n2
  have n3 := h.n3
  have k3 := h.k3
  have m3 := h.m3
  unfold maxLen at m3
  obtain ⟨x0, h0⟩ : ∃ b, (decide (20 < x.cs.length) || decide (60 < x.ps.length + x.rs.length)) = b := ⟨_, rfl⟩
  simp only [h0] at K1
  have H0 := Lib.hid h0
  obtain ⟨e1, h1⟩ : ∃ b, chkCs [] x.cs = b := ⟨_, rfl⟩
  simp only [h1] at K2
  have H1 := Lib.hid h1
  clear h hE h0 h1
  obtain ⟨cs, ps, rs, q1, q2, q3, c1, c2, c3⟩ := x
  simp only [WA.v] at *
  go_enter Tryz.func23, Tryz.ntmps23
  go_wp2_with fail
  obtain ⟨W0, hW0⟩ : ∃ W0, (w).alloc (.cells #[.slice q1 cs.length c1, .slice q2 ps.length c2, .slice q3 rs.length c3] 26) = W0 := ⟨_, rfl⟩
  have S0 : St w W0 [(w.heap.size, 0, .slice q1 cs.length c1), (w.heap.size, 1, .slice q2 ps.length c2), (w.heap.size, 2, .slice q3 rs.length c3)] := by rw [← hW0]; exact ((St.nil w)).box #[.slice q1 cs.length c1, .slice q2 ps.length c2, .slice q3 rs.length c3] 26 (w.heap.size) (by simp)
  rw [hW0]
  clear hW0
  obtain ⟨C, hC0, HC, LC, BC, hne⟩ := cls S0
  haveI := hne
  obtain ⟨c0, rfl⟩ : ∃ n : Wd C, W0 = n.w := ⟨⟨_, hC0⟩, rfl⟩
  have fC0 : ∀ n : Wd C, n.w.cell? ⟨w.heap.size, 0, none⟩ = some (.slice q1 cs.length c1) := fun n => (LC.out n).1.2.1
  have fC1 : ∀ n : Wd C, n.w.cell? ⟨w.heap.size, 1, none⟩ = some (.slice q2 ps.length c2) := fun n => (LC.out n).2.1.2.1
  have fC2 : ∀ n : Wd C, n.w.cell? ⟨w.heap.size, 2, none⟩ = some (.slice q3 rs.length c3) := fun n => (LC.out n).2.2.1.2.1
  clear S0 hC0
  have D1 := cinL HC BC K1
  have D2 := cinL HC BC K2
  clear K1 K2
  cases x0
  · by_cases he : e1 = 0
    · subst he
      have HE1 : Hid (∀ f, f ≠ 0 → chkPs cs [] ps = f → E = f) := fun f hf e => by
        rw [← HE.out, chk, if_neg (by rw [H0.out]; simp), H1.out, if_neg (by simp)]
        simp only [e]
        rw [if_pos hf]
      have HE2 : Hid (chkPs cs [] ps = 0 → E = chkRs cs (ps.map (·.id)) [] rs) := fun e => by
        rw [← HE.out, chk, if_neg (by rw [H0.out]; simp), H1.out, if_neg (by simp)]
        simp only [e]
        rw [if_neg (by simp)]
      clear HE
      go_wp2_with (first | first | (go_at_call 74; with_reducible refine (D1 _).out.mono ?_; rintro e w' ⟨rfl, n, rfl⟩) | (go_at_call 75; with_reducible refine (D2 _).out.mono ?_; rintro e w' ⟨rfl, n, rfl⟩))
      refine (K3 _ (BC.out _)).mono ?_
      rintro e w1 ⟨v, rfl, hO, hg⟩
      have S1 : St w1 w1 [(w.heap.size, 0, .slice q1 cs.length c1), (w.heap.size, 1, .slice q2 ps.length c2), (w.heap.size, 2, .slice q3 rs.length c3)] := ⟨Below.refl _ _, (LC.out _).keep hg⟩
      have hW : Hid (Below w.heap.size w w1) := (BC.out _).trans (hg.mono (BC.out _).size)
      clear hg K3
      clear D1 D2 HC LC BC fC0 fC1 fC2 hne
      obtain ⟨qi, ci, rfl, hI, hci, hcm⟩ := OI.shape hO
      unfold maxLen at hcm
      have HI : Hid (IntsAt w1 qi (ps.map (·.id) ++ rs.map (·.id))) := hI
      clear hI hO
      obtain ⟨D, hC0, HD, LD, BD, hne, FD⟩ := clsF S1
      haveI := hne
      obtain ⟨d0, rfl⟩ : ∃ n : Wd D, w1 = n.w := ⟨⟨_, hC0⟩, rfl⟩
      have fD0 : ∀ n : Wd D, n.w.cell? ⟨w.heap.size, 0, none⟩ = some (.slice q1 cs.length c1) := fun n => (LD.out n).1.2.1
      have fD1 : ∀ n : Wd D, n.w.cell? ⟨w.heap.size, 1, none⟩ = some (.slice q2 ps.length c2) := fun n => (LD.out n).2.1.2.1
      have fD2 : ∀ n : Wd D, n.w.cell? ⟨w.heap.size, 2, none⟩ = some (.slice q3 rs.length c3) := fun n => (LD.out n).2.2.1.2.1
      clear S1 hC0
      have HW : Hid (∀ n : Wd D, Below w.heap.size w n.w) := fun n => hW.out.trans ((BD.out n).mono hW.out.size)
      simp only [WA.ids, List.length_append, List.length_map] at hci ⊢
      go_wp2_with fail
      clear fD0 fD1 fD2
      go_loopw [22] (fun i wr => ∃ (k : Nat) (n : Wd D), wr = n.w ∧ i = .int .i64 (k : Int) ∧ k ≤ ps.length ∧ Hid (chkPs cs ((ps.take k).map (·.id)) (ps.drop k) = chkPs cs [] ps)) (fun i wr => ps.length - (intOf i).toNat)
      case atStart => exact ⟨0, d0, rfl, rfl, Nat.zero_le _, rfl⟩
      case round =>
        obtain ⟨k, n, rfl, rfl, hk, HP⟩ := hrel
        by_cases hlt : k < ps.length
        · have HP2 : Hid (_ = chkPs cs [] ps) := (chkPs_step cs ps k hlt).symm.trans HP.out
          clear HP
          rcases (H.out.ps.keep (HW.out n)) with h0 | ⟨b, o, he, hb, hc⟩
          · exact absurd hlt (by simp [show ps = [] from h0])
          obtain rfl : q2 = some ⟨b, o, none⟩ := he
          obtain ⟨b1, b2, b3, b4, b5⟩ := hc k ps[k] (List.getElem?_eq_getElem hlt)
          have C3 := fun W hb => K4 W hb ps[k]
          obtain ⟨p, hp⟩ : ∃ p, ps[k] = p := ⟨_, rfl⟩
          simp only [hp] at b1 b2 b3 b4 b5 C3
          rw [hp] at HP2
          obtain ⟨x1, h1⟩ : ∃ b, okPf cs p = b := ⟨_, rfl⟩
          obtain ⟨x2, h2⟩ : ∃ b, ((ps.take k).map (·.id)).contains p.id = b := ⟨_, rfl⟩
          have C4 : ∀ W, Below d0.w.heap.size d0.w W → Calls Tryz.prog 78 #[.slice qi k ci, .int .i64 p.id] W fun e w' => e = .returned (.bool x2) ∧ W = w' := fun W hW => by
            have := hasI_any qi ci ((ps.take k).map (·.id)) p.id k (by simp; omega) W (by omega) (by
              have := (HI.out.keep hW).take k
              rwa [show (ps.map (·.id) ++ rs.map (·.id)).take k = (ps.take k).map (·.id) from by rw [List.take_append_of_le_length (by simp; omega), List.map_take]] at this)
            rwa [h2] at this
          rw [h1, h2] at HP2
          simp only [h1] at C3
          have hlt' : (k : Int) < (ps.length : Int) := by omega
          have hkc : (k : Int) ≤ (ci : Int) := by omega
          clear hc hb hp h1 h2
          obtain ⟨g0, g1, g2, -⟩ := LD.out n
          obtain ⟨-, g0, -⟩ := g0
          obtain ⟨-, g1, -⟩ := g1
          obtain ⟨-, g2, -⟩ := g2
          go_wp2_with fail
          clear g0 g1 g2 b1 b2 b3 b4 b5
          obtain ⟨W0, hW0⟩ : ∃ W0, (n.w).alloc (.cells #[.int .i64 p.id, .int .i64 p.ch, .int .i64 p.year, .int .i64 p.lo, .int .i64 p.hi] 94) = W0 := ⟨_, rfl⟩
          have S0 : St d0.w W0 [(n.w.heap.size, 0, .int .i64 p.id), (n.w.heap.size, 1, .int .i64 p.ch), (n.w.heap.size, 2, .int .i64 p.year), (n.w.heap.size, 3, .int .i64 p.lo), (n.w.heap.size, 4, .int .i64 p.hi), (w.heap.size, 0, .slice q1 cs.length c1), (w.heap.size, 1, .slice (some ⟨b, o, none⟩) ps.length c2), (w.heap.size, 2, .slice q3 rs.length c3)] := by rw [← hW0]; exact ((⟨BD.out n, LD.out n⟩ : St d0.w n.w _)).box #[.int .i64 p.id, .int .i64 p.ch, .int .i64 p.year, .int .i64 p.lo, .int .i64 p.hi] 94 (n.w.heap.size) (by simp)
          rw [hW0]
          clear hW0
          obtain ⟨kG, hkk⟩ : ∃ k, n.w.heap.size = k := ⟨_, rfl⟩
          have gkG : d0.w.heap.size ≤ kG := by rw [← hkk]; exact (BD.out n).size
          rw [hkk] at S0 ⊢
          clear hkk
          obtain ⟨G, hC0, HG, LG, BG, hne⟩ := cls S0
          haveI := hne
          obtain ⟨g0, rfl⟩ : ∃ n : Wd G, W0 = n.w := ⟨⟨_, hC0⟩, rfl⟩
          have fG0 : ∀ n : Wd G, n.w.cell? ⟨kG, 0, none⟩ = some (.int .i64 p.id) := fun n => (LG.out n).1.2.1
          have fG1 : ∀ n : Wd G, n.w.cell? ⟨kG, 1, none⟩ = some (.int .i64 p.ch) := fun n => (LG.out n).2.1.2.1
          have fG2 : ∀ n : Wd G, n.w.cell? ⟨kG, 2, none⟩ = some (.int .i64 p.year) := fun n => (LG.out n).2.2.1.2.1
          have fG3 : ∀ n : Wd G, n.w.cell? ⟨kG, 3, none⟩ = some (.int .i64 p.lo) := fun n => (LG.out n).2.2.2.1.2.1
          have fG4 : ∀ n : Wd G, n.w.cell? ⟨kG, 4, none⟩ = some (.int .i64 p.hi) := fun n => (LG.out n).2.2.2.2.1.2.1
          have fG5 : ∀ n : Wd G, n.w.cell? ⟨w.heap.size, 0, none⟩ = some (.slice q1 cs.length c1) := fun n => (LG.out n).2.2.2.2.2.1.2.1
          have fG6 : ∀ n : Wd G, n.w.cell? ⟨w.heap.size, 1, none⟩ = some (.slice (some ⟨b, o, none⟩) ps.length c2) := fun n => (LG.out n).2.2.2.2.2.2.1.2.1
          have fG7 : ∀ n : Wd G, n.w.cell? ⟨w.heap.size, 2, none⟩ = some (.slice q3 rs.length c3) := fun n => (LG.out n).2.2.2.2.2.2.2.1.2.1
          clear S0 hC0
          have HGW : Hid (∀ m : Wd G, Below w.heap.size w m.w) := fun m => hW.out.trans ((BG.out m).mono hW.out.size)
          have HGD : Hid (∀ m : Wd G, ∃ n : Wd D, m.w = n.w) := fun m => ⟨⟨m.w, FD.out _ (BG.out m) (LG.out m).2.2.2.2.2⟩, rfl⟩
          have D1 := cinL HG HGW C3
          have D2 : ∀ n : Wd G, Hid (Calls Tryz.prog 78 #[.slice qi k ci, .int .i64 p.id] n.w fun e w'' => e = .returned (.bool x2) ∧ ∃ m : Wd G, w'' = m.w) := fun n => Calls.quiet_in (C := G) ((C4 _ (BG.out n)).mono fun _ _ h => ⟨h.1, h.2 ▸ n.h⟩)
          clear C3 C4
          cases x1
          · go_wp2_with (first | first | (go_at_call 77; with_reducible refine (D1 _).out.mono ?_; rintro e w' ⟨rfl, n, rfl⟩))
            go_ret
            exact ⟨ret_int (HE1.out 1 (by decide) (by rw [← HP2.out]; rfl)).symm, HGW.out _⟩
          · go_wp2_with (first | first | (go_at_call 77; with_reducible refine (D1 _).out.mono ?_; rintro e w' ⟨rfl, n, rfl⟩))
            refine wp_region_in G (HG.out _ _ (Wd.h _) (below_dr _)) (by kernel_rfl) (by kernel_rfl) ?_
            repeat (go_big_quiet_step (first | with_reducible exact (D2 _).out))
            refine wpQuiet_nil ?_
            intro wx hwx
            obtain ⟨n2, rfl⟩ : ∃ n : Wd G, wx = n.w := ⟨⟨wx, hwx⟩, rfl⟩
            clear hwx
            cases x2
            · go_wp2_with fail
              obtain ⟨n3, hn3⟩ := HGD.out n2
              have HN3 := Lib.hid hn3
              clear hn3
              go_roundw
              case rel => exact ⟨k + 1, n3, HN3.out, by simp, hlt, by unfold Hid; rw [← HP2.out]; rfl⟩
              case measure => simp [intOf]; omega
            · go_wp2_with fail
              go_ret
              exact ⟨ret_int (HE1.out 6 (by decide) (by rw [← HP2.out]; rfl)).symm, HGW.out _⟩
        · obtain rfl : k = ps.length := by omega
          have HP0 : Hid (chkPs cs [] ps = 0) := by unfold Hid; rw [← HP.out]; simp [chkPs]
          have HE3 := Lib.hid (HE2.out HP0.out)
          clear HP HE1 HE2 HP0 K4
          obtain ⟨g0, g1, g2, -⟩ := LD.out n
          obtain ⟨-, g0, -⟩ := g0
          obtain ⟨-, g1, -⟩ := g1
          obtain ⟨-, g2, -⟩ := g2
          go_wp2_with fail
          clear g0 g1 g2
          go_loopw [41] (fun i wr => ∃ (k : Nat) (n : Wd D), wr = n.w ∧ i = .int .i64 (k : Int) ∧ k ≤ rs.length ∧ Hid (chkRs cs (ps.map (·.id) ++ (rs.take k).map (·.id)) (rs.take k) (rs.drop k) = E)) (fun i wr => rs.length - (intOf i).toNat)
          case atStart => exact ⟨0, n, rfl, rfl, Nat.zero_le _, by unfold Hid; rw [HE3.out]; simp⟩
          case round =>
            obtain ⟨k, n, rfl, rfl, hk, HP⟩ := hrel
            by_cases hlt : k < rs.length
            · have HP2 : Hid (_ = E) := (chkRs_step cs (ps.map (·.id)) rs k hlt).symm.trans HP.out
              clear HP
              rcases (H.out.rs.keep (HW.out n)) with h0 | ⟨b, o, he, hb, hc⟩
              · exact absurd hlt (by simp [show rs = [] from h0])
              obtain rfl : q3 = some ⟨b, o, none⟩ := he
              obtain ⟨b1, b2, b3, b4, b5⟩ := hc k rs[k] (List.getElem?_eq_getElem hlt)
              have C3 := fun W hb => K5 W hb rs[k]
              obtain ⟨p, hp⟩ : ∃ p, rs[k] = p := ⟨_, rfl⟩
              simp only [hp] at b1 b2 b3 b4 b5 C3
              rw [hp] at HP2
              obtain ⟨x1, h1⟩ : ∃ b, okRp cs p = b := ⟨_, rfl⟩
              obtain ⟨x2, h2⟩ : ∃ b, (ps.map (·.id) ++ (rs.take k).map (·.id)).contains p.id = b := ⟨_, rfl⟩
              obtain ⟨x3, h3⟩ : ∃ b, repB (rs.take k) p = b := ⟨_, rfl⟩
              have C4 : ∀ W, Below d0.w.heap.size d0.w W → Calls Tryz.prog 78 #[.slice qi (ps.length + k) ci, .int .i64 p.id] W fun e w' => e = .returned (.bool x2) ∧ W = w' := fun W hW => by
                have := hasI_any qi ci (ps.map (·.id) ++ (rs.take k).map (·.id)) p.id (ps.length + k) (by simp; omega) W (by omega) (by
                  have := (HI.out.keep hW).take (ps.length + k)
                  rwa [show (ps.map (·.id) ++ rs.map (·.id)).take (ps.length + k) = ps.map (·.id) ++ (rs.take k).map (·.id) from by rw [List.take_append, List.length_map, List.take_of_length_le (by simp), Nat.add_sub_cancel_left, List.map_take]] at this)
                rwa [h2] at this
              have C5 : ∀ W, Below w.heap.size w W → Calls Tryz.prog 80 #[.slice (some ⟨b, o, none⟩) k c3, p.v] W fun e w' => e = .returned (.bool x3) ∧ Below W.heap.size W w' := fun W hb => by
                have := repaired_any (some ⟨b, o, none⟩) c3 (rs.take k) p k (by simp; omega) W (by omega) ((H.out.rs.keep hb).take k)
                rwa [h3] at this
              rw [h1, h2, h3] at HP2
              simp only [h1] at C3
              have hlt' : (k : Int) < (rs.length : Int) := by omega
              have hkc : (ps.length : Int) + (k : Int) ≤ (ci : Int) := by omega
              have hk3 : (k : Int) ≤ (c3 : Int) := by have : rs.length ≤ c3 := k3; omega
              clear hc hb hp h1 h2 h3
              obtain ⟨g0, g1, g2, -⟩ := LD.out n
              obtain ⟨-, g0, -⟩ := g0
              obtain ⟨-, g1, -⟩ := g1
              obtain ⟨-, g2, -⟩ := g2
              go_wp2_with fail
              clear g0 g1 g2 b1 b2 b3 b4 b5
              obtain ⟨W0, hW0⟩ : ∃ W0, (n.w).alloc (.cells #[.int .i64 p.id, .int .i64 p.ch, .int .i64 p.year, .int .i64 p.lo, .int .i64 p.hi] 104) = W0 := ⟨_, rfl⟩
              have S0 : St d0.w W0 [(n.w.heap.size, 0, .int .i64 p.id), (n.w.heap.size, 1, .int .i64 p.ch), (n.w.heap.size, 2, .int .i64 p.year), (n.w.heap.size, 3, .int .i64 p.lo), (n.w.heap.size, 4, .int .i64 p.hi), (w.heap.size, 0, .slice q1 cs.length c1), (w.heap.size, 1, .slice q2 ps.length c2), (w.heap.size, 2, .slice (some ⟨b, o, none⟩) rs.length c3)] := by rw [← hW0]; exact ((⟨BD.out n, LD.out n⟩ : St d0.w n.w _)).box #[.int .i64 p.id, .int .i64 p.ch, .int .i64 p.year, .int .i64 p.lo, .int .i64 p.hi] 104 (n.w.heap.size) (by simp)
              rw [hW0]
              clear hW0
              obtain ⟨kG, hkk⟩ : ∃ k, n.w.heap.size = k := ⟨_, rfl⟩
              have gkG : d0.w.heap.size ≤ kG := by rw [← hkk]; exact (BD.out n).size
              rw [hkk] at S0 ⊢
              clear hkk
              obtain ⟨G, hC0, HG, LG, BG, hne⟩ := cls S0
              haveI := hne
              obtain ⟨g0, rfl⟩ : ∃ n : Wd G, W0 = n.w := ⟨⟨_, hC0⟩, rfl⟩
              have fG0 : ∀ n : Wd G, n.w.cell? ⟨kG, 0, none⟩ = some (.int .i64 p.id) := fun n => (LG.out n).1.2.1
              have fG1 : ∀ n : Wd G, n.w.cell? ⟨kG, 1, none⟩ = some (.int .i64 p.ch) := fun n => (LG.out n).2.1.2.1
              have fG2 : ∀ n : Wd G, n.w.cell? ⟨kG, 2, none⟩ = some (.int .i64 p.year) := fun n => (LG.out n).2.2.1.2.1
              have fG3 : ∀ n : Wd G, n.w.cell? ⟨kG, 3, none⟩ = some (.int .i64 p.lo) := fun n => (LG.out n).2.2.2.1.2.1
              have fG4 : ∀ n : Wd G, n.w.cell? ⟨kG, 4, none⟩ = some (.int .i64 p.hi) := fun n => (LG.out n).2.2.2.2.1.2.1
              have fG5 : ∀ n : Wd G, n.w.cell? ⟨w.heap.size, 0, none⟩ = some (.slice q1 cs.length c1) := fun n => (LG.out n).2.2.2.2.2.1.2.1
              have fG6 : ∀ n : Wd G, n.w.cell? ⟨w.heap.size, 1, none⟩ = some (.slice q2 ps.length c2) := fun n => (LG.out n).2.2.2.2.2.2.1.2.1
              have fG7 : ∀ n : Wd G, n.w.cell? ⟨w.heap.size, 2, none⟩ = some (.slice (some ⟨b, o, none⟩) rs.length c3) := fun n => (LG.out n).2.2.2.2.2.2.2.1.2.1
              clear S0 hC0
              have HGW : Hid (∀ m : Wd G, Below w.heap.size w m.w) := fun m => hW.out.trans ((BG.out m).mono hW.out.size)
              have HGD : Hid (∀ m : Wd G, ∃ n : Wd D, m.w = n.w) := fun m => ⟨⟨m.w, FD.out _ (BG.out m) (LG.out m).2.2.2.2.2⟩, rfl⟩
              have D1 := cinL HG HGW C3
              have D2 : ∀ n : Wd G, Hid (Calls Tryz.prog 78 #[.slice qi (ps.length + k) ci, .int .i64 p.id] n.w fun e w'' => e = .returned (.bool x2) ∧ ∃ m : Wd G, w'' = m.w) := fun n => Calls.quiet_in (C := G) ((C4 _ (BG.out n)).mono fun _ _ h => ⟨h.1, h.2 ▸ n.h⟩)
              have D3 := cinL HG HGW C5
              clear C3 C4 C5
              cases x1
              · go_wp2_with (first | first | (go_at_call 79; with_reducible refine (D1 _).out.mono ?_; rintro e w' ⟨rfl, n, rfl⟩))
                go_ret
                exact ⟨ret_int (by rw [← HP2.out]; rfl), HGW.out _⟩
              · go_wp2_with (first | first | (go_at_call 79; with_reducible refine (D1 _).out.mono ?_; rintro e w' ⟨rfl, n, rfl⟩))
                cases x2
                · skip
                  refine wp_region_in G (HG.out _ _ (Wd.h _) (below_dr _)) (by kernel_rfl) (by kernel_rfl) ?_
                  repeat (go_big_quiet_step (first | with_reducible exact (D2 _).out | with_reducible exact (D3 _).out))
                  refine wpQuiet_nil ?_
                  intro wx hwx
                  obtain ⟨n2, rfl⟩ : ∃ n : Wd G, wx = n.w := ⟨⟨wx, hwx⟩, rfl⟩
                  clear hwx
                  cases x3
                  · go_wp2_with fail
                    obtain ⟨n3, hn3⟩ := HGD.out n2
                    have HN3 := Lib.hid hn3
                    clear hn3
                    go_roundw
                    case rel => exact ⟨k + 1, n3, HN3.out, by simp, hlt, by unfold Hid; rw [← HP2.out]; rfl⟩
                    case measure => simp [intOf]; omega
                  · go_wp2_with fail
                    go_ret
                    exact ⟨ret_int (by rw [← HP2.out]; rfl), HGW.out _⟩
                · skip
                  refine wp_region_in G (HG.out _ _ (Wd.h _) (below_dr _)) (by kernel_rfl) (by kernel_rfl) ?_
                  repeat (go_big_quiet_step (first | with_reducible exact (D2 _).out | with_reducible exact (D3 _).out))
                  refine wpQuiet_nil ?_
                  intro wx hwx
                  obtain ⟨n2, rfl⟩ : ∃ n : Wd G, wx = n.w := ⟨⟨wx, hwx⟩, rfl⟩
                  clear hwx
                  go_wp2_with fail
                  go_ret
                  exact ⟨ret_int (by rw [← HP2.out]; rfl), HGW.out _⟩
            · obtain rfl : k = rs.length := by omega
              obtain ⟨g0, g1, g2, -⟩ := LD.out n
              obtain ⟨-, g0, -⟩ := g0
              obtain ⟨-, g1, -⟩ := g1
              obtain ⟨-, g2, -⟩ := g2
              go_wp2_with fail
              go_ret
              exact ⟨ret_int (by rw [← HP.out]; simp [chkRs]), HW.out _⟩
    · have hb : (e1 != 0) = true := by simpa using he
      have HN := Lib.hid he
      clear he
      go_wp2_with (first | first | (go_at_call 74; with_reducible refine (D1 _).out.mono ?_; rintro e w' ⟨rfl, n, rfl⟩) | (go_at_call 75; with_reducible refine (D2 _).out.mono ?_; rintro e w' ⟨rfl, n, rfl⟩))
      go_ret
      exact ⟨ret_int (by rw [← HE.out, chk, if_neg (by rw [H0.out]; simp), H1.out, if_pos HN.out]), BC.out _⟩
  · go_wp2_with (first | first | (go_at_call 74; with_reducible refine (D1 _).out.mono ?_; rintro e w' ⟨rfl, n, rfl⟩))
    go_ret
    exact ⟨ret_int (by rw [← HE.out, chk, if_pos H0.out]), BC.out _⟩
end Go.Proofs.YtcejmfgbfdhflaaGreat
