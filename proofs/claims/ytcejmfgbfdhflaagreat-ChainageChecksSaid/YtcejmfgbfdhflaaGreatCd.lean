import Derived.Test.YtcejmfgbfdhflaaGreatCc
import Derived.WalkKit
import Derived.LoopTactic
import Derived.WalkSpells
import Derived.WalkLawsBesides
import Derived.Lib.Hide
import Derived.BigQuiet
import Derived.IntWalk
import Derived.Deep.DeepMust
import Derived.WalkSmall
import Derived.StillTailTactics
import Derived.Deep.RegionLaw
import Derived.Deep.RegionHeld3
import Derived.Deep.QuietTactic
namespace Go.Proofs.YtcejmfgbfdhflaaGreat
open Go.RowKit Go.BigFrame Go.Sort
attribute [local go_sem] World.cell?_alloc_some
def repB (l : List Pf) (r : Pf) : Bool := l.any fun o => o.ch == r.ch && o.year == r.year
set_option maxRecDepth 100000 in
set_option maxHeartbeats 800000 in
theorem isRep_any (o r : Pf) (B : Nat) (w : World) (h : Cs w [(B, 1, .int .i64 r.ch), (B, 2, .int .i64 r.year)]) :
    Calls Tryz.prog 142 #[o.v, .pointer (some ⟨B, 0, none⟩)] w fun e w' => e = .returned (.bool (o.ch == r.ch && o.year == r.year)) ∧ Below w.heap.size w w' := by
  obtain ⟨⟨hB, g1, -⟩, ⟨-, g2, -⟩, -⟩ := h
  have hne : B ≠ w.heap.size := by omega
  go_enter Tryz.func142, Tryz.ntmps142
  by_cases h1 : o.ch = r.ch
  · have e1 : (o.ch == r.ch) = true := by simpa using h1
    clear h1
    go_wp2_with fail
    go_ret
    exact ⟨ret_bool (by rw [e1]; simp), (Gr.al _ _).below⟩
  · have e1 : (o.ch == r.ch) = false := by simpa using h1
    clear h1
    go_wp2_with fail
    go_ret
    exact ⟨ret_bool (by rw [e1]; simp), (Gr.al _ _).below⟩
set_option maxHeartbeats 1600000 in
theorem idxR_any (q : Option Addr) (cap : Nat) (l : List Pf) (r : Pf) (B n : Nat) (hn : l.length = n) (w : World) (hl : n ≤ 1000) (h : PfsAt w q l) (hB : Cs w [(B, 1, .int .i64 r.ch), (B, 2, .int .i64 r.year)]) :
    Calls Tryz.prog 189 #[.slice q n cap, .func (.func 142) #[] #[.pointer (some ⟨B, 0, none⟩)]] w fun e w' => (∃ m : Int, e = .returned (.int .i64 m) ∧ (0 ≤ m ↔ repB l r = true)) ∧ Below w.heap.size w w' := by
  have H := Lib.hid h
  have HB := Lib.hid hB
  have HN := Lib.hid hn
  have HR : Hid (∀ k : Nat, ∀ c, l[k]? = some c → (c.ch == r.ch && c.year == r.year) = true → (0 ≤ (k : Int) ↔ repB l r = true)) := fun k c hk hc => by
    have : repB l r = true := by unfold repB; rw [List.any_eq_true]; exact ⟨c, List.mem_of_getElem? hk, hc⟩
    simp [this]
  have HF : Hid ((∀ j, (hj : j < l.length) → (l[j].ch == r.ch && l[j].year == r.year) = false) → (0 ≤ (-1 : Int) ↔ repB l r = true)) := fun h => by
    have : ¬ repB l r = true := by
      unfold repB; rw [List.any_eq_true]
      rintro ⟨c, hc, e⟩
      obtain ⟨j, hj, rfl⟩ := List.getElem_of_mem hc
      rw [h j hj] at e; cases e
    simp only [this]; decide
  clear h hB hn
  go_enter Tryz.func189, Tryz.ntmps189
  go_wp2_with fail
  go_loopw [8] (fun i wr => ∃ (k : Nat), Below w.heap.size w wr ∧ i = .int .i64 (k : Int) ∧ k ≤ n ∧ ∀ j, (hj : j < l.length) → j < k → (l[j].ch == r.ch && l[j].year == r.year) = false) (fun i wr => n - (intOf i).toNat)
  case atStart => exact ⟨0, Below.refl _ _, rfl, Nat.zero_le _, fun j _ h => absurd h (by omega)⟩
  case round =>
    obtain ⟨k, hG, rfl, hk, ha⟩ := hrel
    have HA := Lib.hid ha
    have HG := Lib.hid hG
    clear ha
    by_cases hlt : k < n
    · have hlt2 : k < l.length := by have := HN.out; omega
      rcases H.out with h0 | ⟨b, o, rfl, hb, hc⟩
      · exact absurd hlt2 (by simp [h0])
      · obtain ⟨c1, c2, c3, c4, c5⟩ := hc k l[k] (List.getElem?_eq_getElem hlt2)
        have b1 := (hG.cell (p := ⟨b, o + k * 5, none⟩) hb).trans c1
        have b2 := (hG.cell (p := ⟨b, o + k * 5 + 1, none⟩) hb).trans c2
        have b3 := (hG.cell (p := ⟨b, o + k * 5 + 2, none⟩) hb).trans c3
        have b4 := (hG.cell (p := ⟨b, o + k * 5 + 3, none⟩) hb).trans c4
        have b5 := (hG.cell (p := ⟨b, o + k * 5 + 4, none⟩) hb).trans c5
        have HX : Hid (l[k]? = some l[k]) := List.getElem?_eq_getElem hlt2
        have CL := isRep_any l[k] r B wr (HB.out.keep hG)
        obtain ⟨c, hcc⟩ : ∃ c, l[k] = c := ⟨_, rfl⟩
        rw [hcc] at b1 b2 b3 b4 b5 CL HX
        have HC := Lib.hid hcc
        have hlt' : (k : Int) < (n : Int) := by omega
        obtain ⟨z, hz⟩ : ∃ z, (c.ch == r.ch && c.year == r.year) = z := ⟨_, rfl⟩
        rw [hz] at CL
        have HZ := Lib.hid hz
        clear c1 c2 c3 c4 c5 hc hb hG hcc hz
        cases z
        · go_wp2_with (go_at_call 142; refine CL.mono ?_; rintro e w1 ⟨rfl, hg⟩; have HG1 := Lib.hid (HG.out.trans (hg.mono HG.out.size)); clear hg CL)
          go_roundw
          case rel => exact ⟨k + 1, HG1.out, by simp, hlt, fun j hj h => by
            by_cases e : j = k
            · subst e; rw [HC.out]; exact HZ.out
            · exact HA.out j hj (by omega)⟩
          case measure => simp [intOf]; omega
        · go_wp2_with (go_at_call 142; refine CL.mono ?_; rintro e w1 ⟨rfl, hg⟩; have HG1 := Lib.hid (HG.out.trans (hg.mono HG.out.size)); clear hg CL)
          go_ret
          exact ⟨⟨k, rfl, HR.out k c HX.out HZ.out⟩, HG1.out⟩
    · have HK : Hid (k = n) := by unfold Hid; omega
      clear hG
      go_wp2_with fail
      go_ret
      exact ⟨⟨-1, rfl, HF.out fun j hj => HA.out j hj (by have := HK.out; have := HN.out; omega)⟩, HG.out⟩
set_option maxHeartbeats 800000 in
theorem repaired_any (q : Option Addr) (cap : Nat) (l : List Pf) (r : Pf) (n : Nat) (hn : l.length = n) (w : World) (hl : n ≤ 1000) (h : PfsAt w q l) :
    Calls Tryz.prog 80 #[.slice q n cap, r.v] w fun e w' => e = .returned (.bool (repB l r)) ∧ Below w.heap.size w w' := by
  have CC := fun W (hb : Below w.heap.size w W) (B : Nat) (h1 : Cs W [(B, 1, .int .i64 r.ch), (B, 2, .int .i64 r.year)]) => idxR_any q cap l r B n hn W hl (h.keep hb) h1
  have HB : Hid (∀ m : Int, (0 ≤ m ↔ repB l r = true) → decide (0 ≤ m) = repB l r) := fun m h => by rw [Bool.eq_iff_iff]; simp [h]
  obtain ⟨b, hb⟩ : ∃ b, repB l r = b := ⟨_, rfl⟩
  rw [hb] at HB ⊢
  simp only [hb] at CC
  clear h hb hn
  go_enter Tryz.func80, Tryz.ntmps80
  go_wp2_with fail
  obtain ⟨W0, hW0⟩ : ∃ W0, (w).alloc (.cells #[.int .i64 r.id, .int .i64 r.ch, .int .i64 r.year, .int .i64 r.lo, .int .i64 r.hi] 104) = W0 := ⟨_, rfl⟩
  have S0 : St w W0 [(w.heap.size, 0, .int .i64 r.id), (w.heap.size, 1, .int .i64 r.ch), (w.heap.size, 2, .int .i64 r.year), (w.heap.size, 3, .int .i64 r.lo), (w.heap.size, 4, .int .i64 r.hi)] := by rw [← hW0]; exact ((St.nil w)).box #[.int .i64 r.id, .int .i64 r.ch, .int .i64 r.year, .int .i64 r.lo, .int .i64 r.hi] 104 (w.heap.size) (by simp)
  rw [hW0]
  clear hW0
  obtain ⟨C, hC0, HC, LC, BC, hne⟩ := cls S0
  haveI := hne
  obtain ⟨c0, rfl⟩ : ∃ n : Wd C, W0 = n.w := ⟨⟨_, hC0⟩, rfl⟩
  have fC0 : ∀ n : Wd C, n.w.cell? ⟨w.heap.size, 0, none⟩ = some (.int .i64 r.id) := fun n => (LC.out n).1.2.1
  have fC1 : ∀ n : Wd C, n.w.cell? ⟨w.heap.size, 1, none⟩ = some (.int .i64 r.ch) := fun n => (LC.out n).2.1.2.1
  have fC2 : ∀ n : Wd C, n.w.cell? ⟨w.heap.size, 2, none⟩ = some (.int .i64 r.year) := fun n => (LC.out n).2.2.1.2.1
  have fC3 : ∀ n : Wd C, n.w.cell? ⟨w.heap.size, 3, none⟩ = some (.int .i64 r.lo) := fun n => (LC.out n).2.2.2.1.2.1
  have fC4 : ∀ n : Wd C, n.w.cell? ⟨w.heap.size, 4, none⟩ = some (.int .i64 r.hi) := fun n => (LC.out n).2.2.2.2.1.2.1
  clear S0 hC0
  go_wp2_with (first | (go_at_call 189; refine (CC _ (BC.out _) w.heap.size ⟨(LC.out _).2.1, (LC.out _).2.2.1, trivial⟩).mono ?_; rintro e w1 ⟨⟨m, rfl, hm⟩, hg⟩; have HM := Lib.hid (HB.out _ hm); have HG := Lib.hid ((BC.out _).trans (hg.mono (BC.out _).size)); clear hm hg) | go_in)
  go_ret
  exact ⟨ret_bool HM.out, HG.out⟩
end Go.Proofs.YtcejmfgbfdhflaaGreat
