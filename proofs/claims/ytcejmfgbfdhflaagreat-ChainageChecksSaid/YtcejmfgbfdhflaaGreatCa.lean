import Derived.Test.YtcejmfgbfdhflaaGreatBa
import Derived.WalkKit
import Derived.LoopTactic
import Derived.WalkSpells
import Derived.WalkLawsBesides
import Derived.Lib.Hide
import Derived.BigQuiet
import Derived.IntWalk
import Derived.Deep.DeepMust
import Derived.WalkSmall
import Derived.StillTailTactics
import Derived.Deep.RegionLaw
import Derived.Deep.RegionHeld3
import Derived.Deep.QuietTactic
namespace Go.Proofs.YtcejmfgbfdhflaaGreat
open Go.RowKit Go.BigFrame Go.Sort
attribute [local go_sem] World.cell?_alloc_some
theorem take_snocH {α : Type} (l : List α) (k : Nat) (h : k < l.length) : l.take (k + 1) = l.take k ++ [l[k]] := by
  rw [List.take_succ_eq_append_getElem h]
/-- Chains lie at a slice. -/
def ChsAt (W : World) (p : Option Addr) (l : List Ch) : Prop :=
  l = [] ∨ ∃ b o, p = some ⟨b, o, none⟩ ∧ b < W.heap.size ∧ ∀ (j : Nat) (c : Ch), l[j]? = some c →
    W.cell? ⟨b, o + j * 5, none⟩ = some (.int .i64 c.id) ∧ W.cell? ⟨b, o + j * 5 + 1, none⟩ = some (.int .i64 c.year) ∧ W.cell? ⟨b, o + j * 5 + 2, none⟩ = some (.int .i64 c.lo) ∧ W.cell? ⟨b, o + j * 5 + 3, none⟩ = some (.int .i64 c.hi) ∧ W.cell? ⟨b, o + j * 5 + 4, none⟩ = some (.int .i64 c.wear)
/-- Proofs, or repairs, lie at a slice. -/
def PfsAt (W : World) (p : Option Addr) (l : List Pf) : Prop :=
  l = [] ∨ ∃ b o, p = some ⟨b, o, none⟩ ∧ b < W.heap.size ∧ ∀ (j : Nat) (c : Pf), l[j]? = some c →
    W.cell? ⟨b, o + j * 5, none⟩ = some (.int .i64 c.id) ∧ W.cell? ⟨b, o + j * 5 + 1, none⟩ = some (.int .i64 c.ch) ∧ W.cell? ⟨b, o + j * 5 + 2, none⟩ = some (.int .i64 c.year) ∧ W.cell? ⟨b, o + j * 5 + 3, none⟩ = some (.int .i64 c.lo) ∧ W.cell? ⟨b, o + j * 5 + 4, none⟩ = some (.int .i64 c.hi)
theorem ChsAt.keep {W W' : World} {p : Option Addr} {l : List Ch} (h : ChsAt W p l) (hb : Below W.heap.size W W') : ChsAt W' p l := by
  rcases h with rfl | ⟨b, o, rfl, hlt, hc⟩
  · exact Or.inl rfl
  · refine Or.inr ⟨b, o, rfl, Nat.lt_of_lt_of_le hlt hb.size, fun j q hq => ?_⟩
    rw [hb.cell (p := ⟨b, o + j * 5, none⟩) hlt, hb.cell (p := ⟨b, o + j * 5 + 1, none⟩) hlt, hb.cell (p := ⟨b, o + j * 5 + 2, none⟩) hlt, hb.cell (p := ⟨b, o + j * 5 + 3, none⟩) hlt, hb.cell (p := ⟨b, o + j * 5 + 4, none⟩) hlt]
    exact hc j q hq
theorem PfsAt.keep {W W' : World} {p : Option Addr} {l : List Pf} (h : PfsAt W p l) (hb : Below W.heap.size W W') : PfsAt W' p l := by
  rcases h with rfl | ⟨b, o, rfl, hlt, hc⟩
  · exact Or.inl rfl
  · refine Or.inr ⟨b, o, rfl, Nat.lt_of_lt_of_le hlt hb.size, fun j q hq => ?_⟩
    rw [hb.cell (p := ⟨b, o + j * 5, none⟩) hlt, hb.cell (p := ⟨b, o + j * 5 + 1, none⟩) hlt, hb.cell (p := ⟨b, o + j * 5 + 2, none⟩) hlt, hb.cell (p := ⟨b, o + j * 5 + 3, none⟩) hlt, hb.cell (p := ⟨b, o + j * 5 + 4, none⟩) hlt]
    exact hc j q hq
theorem ChsAt.take {W : World} {p : Option Addr} {l : List Ch} (h : ChsAt W p l) (k : Nat) : ChsAt W p (l.take k) := by
  rcases h with rfl | ⟨b, o, rfl, hlt, hc⟩
  · exact Or.inl (by simp)
  · exact Or.inr ⟨b, o, rfl, hlt, fun j q hq => hc j q (by rw [List.getElem?_take] at hq; split at hq; exact hq; cases hq)⟩
theorem PfsAt.take {W : World} {p : Option Addr} {l : List Pf} (h : PfsAt W p l) (k : Nat) : PfsAt W p (l.take k) := by
  rcases h with rfl | ⟨b, o, rfl, hlt, hc⟩
  · exact Or.inl (by simp)
  · exact Or.inr ⟨b, o, rfl, hlt, fun j q hq => hc j q (by rw [List.getElem?_take] at hq; split at hq; exact hq; cases hq)⟩
/-- The chain of an ID. -/
def chF (l : List Ch) (id : Int) : Option Ch := l.find? fun c => c.id == id
def noCh : Ch := ⟨0, 0, 0, 0, 0⟩
def chOr (l : List Ch) (id : Int) : Ch := (chF l id).getD noCh
theorem chF_hit {l : List Ch} {id : Int} {k : Nat} (h : k < l.length) (ha : ∀ j, (hj : j < l.length) → j < k → l[j].id ≠ id) (he : l[k].id = id) : chF l id = some l[k] := by
  unfold chF
  rw [List.find?_eq_some_iff_getElem]
  exact ⟨by simpa using he, k, h, rfl, fun j hj => by simpa using ha j (by omega) hj⟩
theorem chF_none {l : List Ch} {id : Int} (ha : ∀ j, (hj : j < l.length) → l[j].id ≠ id) : chF l id = none := by
  unfold chF
  rw [List.find?_eq_none]
  intro x hx
  obtain ⟨j, hj, rfl⟩ := List.getElem_of_mem hx
  simpa using ha j hj
theorem set5 {n b : Nat} {w W : World} (h : Below n w W) (hb : n ≤ b) (v0 v1 v2 v3 v4 : Value) :
    Below n w (((((W.setCell ⟨b, 0, none⟩ v0).setCell ⟨b, 1, none⟩ v1).setCell ⟨b, 2, none⟩ v2).setCell ⟨b, 3, none⟩ v3).setCell ⟨b, 4, none⟩ v4) :=
  ((((h.setCell (p := ⟨b, 0, none⟩) hb _).setCell (p := ⟨b, 1, none⟩) hb _).setCell (p := ⟨b, 2, none⟩) hb _).setCell (p := ⟨b, 3, none⟩) hb _).setCell (p := ⟨b, 4, none⟩) hb _
set_option maxHeartbeats 400000 in
/-- The closure of chainOf. -/
theorem isId_any (c : Ch) (id : Int) (B : Nat) (w : World) (hB : B < w.heap.size) (hc : w.cell? ⟨B, 0, none⟩ = some (.int .i64 id)) :
    Calls Tryz.prog 175 #[c.v, .pointer (some ⟨B, 0, none⟩)] w fun e w' => e = .returned (.bool (decide (c.id = id))) ∧ Gr w w' := by
  have hne : B ≠ w.heap.size := by omega
  go_enter Tryz.func175, Tryz.ntmps175
  go_wp2
  all_goals (go_ret; exact ⟨ret_bool (by rw [Bool.eq_iff_iff]; simp), Gr.al _ _⟩)
set_option maxHeartbeats 1600000 in
/-- slices.IndexFunc at chains, with this closure. -/
theorem idxC_any (q : Option Addr) (cap : Nat) (l : List Ch) (id : Int) (B : Nat) (w : World) (hl : l.length ≤ 1000) (h : ChsAt w q l) (hB : B < w.heap.size) (hB2 : w.cell? ⟨B, 0, none⟩ = some (.int .i64 id)) :
    Calls Tryz.prog 174 #[.slice q l.length cap, .func (.func 175) #[] #[.pointer (some ⟨B, 0, none⟩)]] w fun e w' => ∃ n : Int, e = .returned (.int .i64 n) ∧ Gr w w' ∧ ((n = -1 ∧ chF l id = none) ∨ ∃ k : Nat, n = (k : Int) ∧ ∃ hk : k < l.length, chF l id = some l[k]) := by
  have H := Lib.hid h
  have HB := Lib.hid (And.intro hB hB2)
  clear h hB hB2
  go_enter Tryz.func174, Tryz.ntmps174
  go_wp2_with fail
  go_loopw [8] (fun i wr => ∃ (k : Nat), Gr w wr ∧ i = .int .i64 (k : Int) ∧ k ≤ l.length ∧ ∀ j, (hj : j < l.length) → j < k → l[j].id ≠ id) (fun i wr => l.length - (intOf i).toNat)
  case atStart => exact ⟨0, Gr.refl _, rfl, Nat.zero_le _, fun j _ h => absurd h (by omega)⟩
  case round =>
    obtain ⟨k, hG, rfl, hk, ha⟩ := hrel
    have HA := Lib.hid ha
    have HG := Lib.hid hG
    clear ha
    by_cases hlt : k < l.length
    · rcases H.out with h0 | ⟨b, o, rfl, hb, hc⟩
      · exact absurd hlt (by simp [h0])
      · obtain ⟨c1, c2, c3, c4, c5⟩ := hc k l[k] (List.getElem?_eq_getElem hlt)
        have b1 := (hG.below.cell (p := ⟨b, o + k * 5, none⟩) hb).trans c1
        have b2 := (hG.below.cell (p := ⟨b, o + k * 5 + 1, none⟩) hb).trans c2
        have b3 := (hG.below.cell (p := ⟨b, o + k * 5 + 2, none⟩) hb).trans c3
        have b4 := (hG.below.cell (p := ⟨b, o + k * 5 + 3, none⟩) hb).trans c4
        have b5 := (hG.below.cell (p := ⟨b, o + k * 5 + 4, none⟩) hb).trans c5
        have CL := isId_any l[k] id B wr (Nat.lt_of_lt_of_le HB.out.1 hG.below.size) ((hG.below.cell (p := ⟨B, 0, none⟩) HB.out.1).trans HB.out.2)
        obtain ⟨c, hcc⟩ : ∃ c, l[k] = c := ⟨_, rfl⟩
        rw [hcc] at b1 b2 b3 b4 b5 CL
        have HC := Lib.hid hcc
        have hlt' : (k : Int) < (l.length : Int) := by omega
        clear c1 c2 c3 c4 c5 hc hb hG hcc
        by_cases he : c.id = id
        · rw [show decide (c.id = id) = true from decide_eq_true he] at CL
          have HE := Lib.hid he
          clear he
          go_wp2_with (go_at_call 175; refine CL.mono ?_; rintro e w1 ⟨rfl, hg⟩; have HG1 := Lib.hid (HG.out.trans hg); clear hg CL)
          go_ret
          exact ⟨k, rfl, HG1.out, .inr ⟨k, rfl, hlt, chF_hit hlt HA.out (by rw [HC.out]; exact HE.out)⟩⟩
        · rw [show decide (c.id = id) = false from decide_eq_false he] at CL
          have HE := Lib.hid he
          clear he
          go_wp2_with (go_at_call 175; refine CL.mono ?_; rintro e w1 ⟨rfl, hg⟩; have HG1 := Lib.hid (HG.out.trans hg); clear hg CL)
          go_roundw
          case rel => exact ⟨k + 1, HG1.out, by simp, hlt, fun j hj h => by
            by_cases e : j = k
            · subst e; rw [HC.out]; exact HE.out
            · exact HA.out j hj (by omega)⟩
          case measure => simp [intOf]; omega
    · obtain rfl : k = l.length := by omega
      clear hG
      go_wp2_with fail
      go_ret
      exact ⟨-1, rfl, HG.out, .inl ⟨rfl, chF_none fun j hj => HA.out j hj hj⟩⟩
set_option maxHeartbeats 1600000 in
theorem chainOf_any (q : Option Addr) (cap : Nat) (l : List Ch) (id : Int) (w : World) (hl : l.length ≤ 1000) (h : ChsAt w q l) :
    Calls Tryz.prog 112 #[.slice q l.length cap, .int .i64 id] w fun e w' => e = .returned (.tuple #[(chOr l id).v, .bool (chF l id).isSome]) ∧ Below w.heap.size w w' := by
  have CC := fun W (hb : Below w.heap.size w W) (B : Nat) (h1 : B < W.heap.size) (h2 : W.cell? ⟨B, 0, none⟩ = some (.int .i64 id)) => idxC_any q cap l id B W hl (h.keep hb) h1 h2
  have H := Lib.hid h
  clear h
  go_enter Tryz.func112, Tryz.ntmps112
  go_wp2_with fail
  obtain ⟨W0, hW0⟩ : ∃ W0, ((w).alloc (.cells #[.int .i64 id] 3)).alloc (.cells #[.int .i64 0, .int .i64 0, .int .i64 0, .int .i64 0, .int .i64 0] 90) = W0 := ⟨_, rfl⟩
  have S0 : St w W0 [(w.heap.size + 1, 0, .int .i64 0), (w.heap.size + 1, 1, .int .i64 0), (w.heap.size + 1, 2, .int .i64 0), (w.heap.size + 1, 3, .int .i64 0), (w.heap.size + 1, 4, .int .i64 0), (w.heap.size, 0, .int .i64 id)] := by rw [← hW0]; exact (((St.nil w)).box #[.int .i64 id] 3 (w.heap.size) (by simp)).box #[.int .i64 0, .int .i64 0, .int .i64 0, .int .i64 0, .int .i64 0] 90 (w.heap.size + 1) (by simp)
  rw [hW0]
  clear hW0
  obtain ⟨C, hC0, HC, LC, BC, hne⟩ := cls S0
  haveI := hne
  obtain ⟨c0, rfl⟩ : ∃ n : Wd C, W0 = n.w := ⟨⟨_, hC0⟩, rfl⟩
  have fC0 : ∀ n : Wd C, n.w.cell? ⟨w.heap.size + 1, 0, none⟩ = some (.int .i64 0) := fun n => (LC.out n).1.2.1
  have zC0 : ∀ n : Wd C, n.w.frozen? ⟨w.heap.size + 1, 0, none⟩ = false := fun n => (LC.out n).1.2.2
  have fC1 : ∀ n : Wd C, n.w.cell? ⟨w.heap.size + 1, 1, none⟩ = some (.int .i64 0) := fun n => (LC.out n).2.1.2.1
  have zC1 : ∀ n : Wd C, n.w.frozen? ⟨w.heap.size + 1, 1, none⟩ = false := fun n => (LC.out n).2.1.2.2
  have fC2 : ∀ n : Wd C, n.w.cell? ⟨w.heap.size + 1, 2, none⟩ = some (.int .i64 0) := fun n => (LC.out n).2.2.1.2.1
  have zC2 : ∀ n : Wd C, n.w.frozen? ⟨w.heap.size + 1, 2, none⟩ = false := fun n => (LC.out n).2.2.1.2.2
  have fC3 : ∀ n : Wd C, n.w.cell? ⟨w.heap.size + 1, 3, none⟩ = some (.int .i64 0) := fun n => (LC.out n).2.2.2.1.2.1
  have zC3 : ∀ n : Wd C, n.w.frozen? ⟨w.heap.size + 1, 3, none⟩ = false := fun n => (LC.out n).2.2.2.1.2.2
  have fC4 : ∀ n : Wd C, n.w.cell? ⟨w.heap.size + 1, 4, none⟩ = some (.int .i64 0) := fun n => (LC.out n).2.2.2.2.1.2.1
  have zC4 : ∀ n : Wd C, n.w.frozen? ⟨w.heap.size + 1, 4, none⟩ = false := fun n => (LC.out n).2.2.2.2.1.2.2
  have fC5 : ∀ n : Wd C, n.w.cell? ⟨w.heap.size, 0, none⟩ = some (.int .i64 id) := fun n => (LC.out n).2.2.2.2.2.1.2.1
  have zC5 : ∀ n : Wd C, n.w.frozen? ⟨w.heap.size, 0, none⟩ = false := fun n => (LC.out n).2.2.2.2.2.1.2.2
  clear S0 hC0
  refine (CC _ (BC.out _) w.heap.size (LC.out _).2.2.2.2.2.1.1 (fC5 _)).mono ?_
  rintro e w1 ⟨n, rfl, hg, hn⟩
  obtain ⟨m, rfl⟩ : ∃ m : Wd C, w1 = m.w := ⟨⟨_, HC.out _ _ (Wd.h _) hg.below⟩, rfl⟩
  clear hg CC
  rcases hn with ⟨rfl, hf⟩ | ⟨k, rfl, hk, hf⟩
  · have HF := Lib.hid hf
    clear hf
    go_wp2_with fail
    refine bodyPost_ret (v := .tuple #[noCh.v, .bool false]) (by simp [results, Tryz.results112, go_sem, fC0, fC1, fC2, fC3, fC4, noCh]) rfl ⟨?_, ?_⟩
    · rw [show chOr l id = noCh from by rw [chOr, HF.out]; rfl, HF.out]; rfl
    · exact set5 (BC.out m) (Nat.le_succ _) _ _ _ _ _
  · rcases H.out with h0 | ⟨b, o, rfl, hb, hc⟩
    · exact absurd hk (by simp [h0])
    obtain ⟨c1, c2, c3, c4, c5⟩ := hc k l[k] (List.getElem?_eq_getElem hk)
    have b1 : ∀ n : Wd C, n.w.cell? ⟨b, o + k * 5, none⟩ = _ := fun n => ((BC.out n).cell (p := ⟨b, o + k * 5, none⟩) hb).trans c1
    have b2 : ∀ n : Wd C, n.w.cell? ⟨b, o + k * 5 + 1, none⟩ = _ := fun n => ((BC.out n).cell (p := ⟨b, o + k * 5 + 1, none⟩) hb).trans c2
    have b3 : ∀ n : Wd C, n.w.cell? ⟨b, o + k * 5 + 2, none⟩ = _ := fun n => ((BC.out n).cell (p := ⟨b, o + k * 5 + 2, none⟩) hb).trans c3
    have b4 : ∀ n : Wd C, n.w.cell? ⟨b, o + k * 5 + 3, none⟩ = _ := fun n => ((BC.out n).cell (p := ⟨b, o + k * 5 + 3, none⟩) hb).trans c4
    have b5 : ∀ n : Wd C, n.w.cell? ⟨b, o + k * 5 + 4, none⟩ = _ := fun n => ((BC.out n).cell (p := ⟨b, o + k * 5 + 4, none⟩) hb).trans c5
    obtain ⟨c, hcc⟩ : ∃ c, l[k] = c := ⟨_, rfl⟩
    rw [hcc] at b1 b2 b3 b4 b5 hf
    have HF := Lib.hid hf
    clear c1 c2 c3 c4 c5 hc hb hf hcc
    have hlt' : (k : Int) < (l.length : Int) := by omega
    go_wp2_with fail
    refine bodyPost_ret (v := .tuple #[c.v, .bool true]) (by simp [results, Tryz.results112, go_sem, fC0, fC1, fC2, fC3, fC4]) rfl ⟨?_, ?_⟩
    · rw [show chOr l id = c from by rw [chOr, HF.out]; rfl, HF.out]; rfl
    · exact set5 (BC.out m) (Nat.le_succ _) _ _ _ _ _
end Go.Proofs.YtcejmfgbfdhflaaGreat
