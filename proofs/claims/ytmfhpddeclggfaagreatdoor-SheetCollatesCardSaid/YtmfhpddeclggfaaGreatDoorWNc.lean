import Derived.Test.YtmfhpddeclggfaaGreatDoorWIfa
import Derived.Maps.Own
import Derived.Maps.OwnOps
import Derived.Maps.OwnSet
import Derived.Lib.SlKeysI
import Derived.RangeFuncNested
import Derived.RangeFuncBound
import Derived.RangeFuncCalls
import Derived.RangeFuncLeaves
import Derived.RangeFuncBox
import Derived.Shelf.Abstract
import Derived.Shelf.RegionOpen
import Derived.OwnWalkIn
import Derived.TacticsInMore
import Derived.LoopNIn
import Derived.LoopIn
import Derived.Maps.AppendAt
import Derived.Maps.OwnIn
import Derived.RegionIn
import Derived.BigRegionIn
import Derived.Stop.RegionWithIn
import Derived.WalkKit
import Derived.LoopTactic
import Derived.WalkSpells
import Derived.WalkLawsBesides
import Derived.Lib.Hide
import Derived.BigQuiet
import Derived.IntWalk
import Derived.Deep.DeepMust
import Derived.WalkSmall
import Derived.StillTailTactics
import Derived.Deep.RegionLaw
import Derived.Deep.QuietTactic
import Derived.Deep.Cut
import Derived.Deep.DeepCutAuto
import Derived.Deep.LoopGhost
import Derived.Laws.AppendOwn
import Derived.Deep.RegionHeld3
import Derived.Deep.AppendLies
import Derived.Test.YtmfhpddeclggfaaGreatDoorIfk
import Derived.Test.YtmfhpddeclggfaaGreatDoorWIfb
import Derived.Test.YtmfhpddeclggfaaGreatDoorWIg
import Derived.Test.YtmfhpddeclggfaaGreatDoorWIh
import Derived.Test.YtmfhpddeclggfaaGreatDoorWIia
import Derived.Test.YtmfhpddeclggfaaGreatDoorWIib
import Derived.Test.YtmfhpddeclggfaaGreatDoorKf
import Derived.Test.YtmfhpddeclggfaaGreatDoorWIic
import Derived.Test.YtmfhpddeclggfaaGreatDoorWc
import Derived.Test.YtmfhpddeclggfaaGreatDoorWMa
import Derived.Test.YtmfhpddeclggfaaGreatDoorWMb
import Derived.Test.YtmfhpddeclggfaaGreatDoorWCz
import Derived.Test.YtmfhpddeclggfaaGreatDoorWMc
import Derived.Test.YtmfhpddeclggfaaGreatDoorWHa
import Derived.Laws.OwnMore
import Derived.Test.YtmfhpddeclggfaaGreatDoorWCx
import Derived.Test.YtmfhpddeclggfaaGreatDoorWHh
import Derived.Test.YtmfhpddeclggfaaGreatDoorWHf
import Derived.Test.YtmfhpddeclggfaaGreatDoorWHe
import Derived.Test.YtmfhpddeclggfaaGreatDoorWHi
import Derived.Test.YtmfhpddeclggfaaGreatDoorWHd
import Derived.Test.YtmfhpddeclggfaaGreatDoorWNa
import Derived.Test.YtmfhpddeclggfaaGreatDoorWNb
namespace Go.Proofs.YtmfhpddeclggfaaGreatDoor
open Go.RowKit
/-! The reference's book is the program's: plain. -/
/-- What the reference finds of a number. -/
def fR (n : Nat) (ss : List SS) : List FV := if rdC n ss ss.length = [] then (if (rsC n ss ss.length).1.length = 1 then (rsC n ss ss.length).1.map (fun y => ((n : Int), y.1, y.2, true)) else []) else (rdC n ss ss.length).map (fun y => ((n : Int), y.1, y.2, false))
theorem fR_desk (n : Nat) (ss : List SS) (cs : List ByteArray) (hl : ss.length = cs.length) (hk : ∀ j, j < cs.length → SKey (ss.getD j default) (cs.getD j ByteArray.empty)) : fR n ss = fdV (layF (cs.map scL) cs.length) n := by
  have hI := coB_inv cs
  have h1 := rdC_desk n ss cs hk cs.length (Nat.le_refl _)
  have h2 := rs_desk n ss cs hl hk
  obtain ⟨d, hd⟩ : ∃ d, layF (cs.map scL) cs.length = d := ⟨_, rfl⟩
  rw [hd] at hI h1 h2 ⊢
  rw [← hl] at h1
  have hok := fdV_ok hI n
  unfold fR
  unfold fdV at hok ⊢
  rw [h1]
  by_cases h0 : d.rs n = []
  · rw [if_pos h0] at hok ⊢
    rw [if_pos (by unfold rdD; rw [h0]; rfl)]
    have hlen := h2.length_eq
    rw [List.length_map] at hlen
    unfold rsD at hok ⊢
    by_cases h9 : 1 < (rsF (d.os n) (lenS (d.os n))).length
    · rw [if_pos h9, if_neg (by omega)]
    · rw [if_neg h9] at hok ⊢
      by_cases h8 : (rsF (d.os n) (lenS (d.os n))).length = 1
      · rw [if_pos (by omega)]
        obtain ⟨f, hf⟩ := List.length_eq_one_iff.1 h8
        have hflag : ∀ g ∈ rsF (d.os n) (lenS (d.os n)), g.2.2.2 = true := fun g hg => by
          unfold rsF at hg
          obtain ⟨z, -, hz⟩ := List.mem_flatMap.1 hg
          unfold ov1 at hz
          split at hz
          · rw [List.mem_singleton.1 hz]
          · cases hz
        rw [hf] at hok h2 hflag ⊢
        have h3 : (rsC n ss ss.length).1 = [kk f] := List.perm_singleton.1 (by simpa using h2)
        have h4 := (hok f (List.mem_singleton.2 rfl)).num
        have h5 := hflag f (List.mem_singleton.2 rfl)
        rw [h3]
        simp only [List.map_cons, List.map_nil, kk]
        rw [← h4, ← h5]
      · rw [if_neg (by omega)]
        have : (rsF (d.os n) (lenS (d.os n))).length = 0 := by omega
        rw [List.length_eq_zero_iff.1 this]
  · rw [if_neg h0]
    rw [if_neg (by unfold rdD; simpa using h0)]
    unfold rdD
    rw [List.map_map]
    refine List.map_congr_left fun t ht => ?_
    obtain ⟨s, g1, g2, g3, rfl⟩ := (hI.rs n t).1 ht
    obtain ⟨k1, k2, k3, -⟩ := scS_some g1
    have hr := k2.1 g2
    have e1 : rdn s.t = n := by
      unfold rdn
      rw [if_pos hr, read_num hr k1]
      omega
    rw [e1]
    rfl
theorem stG_ge (m : Int) (x : ByteArray) : m ≤ stG m x ∧ (∀ n, spk x.data.toList = some n → n ≤ stG m x) ∧ (stG m x = m ∨ spk x.data.toList = some (stG m x)) := by
  unfold stG
  cases h : spk x.data.toList with
  | none => exact ⟨by simp, ⟨fun n h => (nomatch h), .inl (by simp)⟩⟩
  | some y =>
    simp only [Option.isSome_some, Option.getD_some, true_and]
    by_cases hm : m < y
    · rw [if_pos hm]
      exact ⟨by omega, ⟨fun n h => (Option.some.inj h) ▸ Int.le_refl _, .inr rfl⟩⟩
    · rw [if_neg hm]
      exact ⟨Int.le_refl _, ⟨fun n h => by have := Option.some.inj h; omega, .inl rfl⟩⟩
theorem grP_ge : ∀ (ps : List ByteArray) (m : Int), m ≤ grP m ps ∧ (∀ x ∈ ps, ∀ n, spk x.data.toList = some n → n ≤ grP m ps) ∧ (grP m ps = m ∨ ∃ x ∈ ps, spk x.data.toList = some (grP m ps))
  | [], m => ⟨Int.le_refl _, fun x h => absurd h List.not_mem_nil, .inl rfl⟩
  | x :: ps, m => by
    obtain ⟨a1, a2, a3⟩ := stG_ge m x
    obtain ⟨b1, b2, b3⟩ := grP_ge ps (stG m x)
    have e : grP m (x :: ps) = grP (stG m x) ps := rfl
    rw [e]
    refine ⟨Int.le_trans a1 b1, fun y hy n hn => ?_, ?_⟩
    · rcases List.mem_cons.1 hy with rfl | hy
      · exact Int.le_trans (a2 n hn) b1
      · exact b2 y hy n hn
    · rcases b3 with b3 | ⟨y, hy, h⟩
      · rcases a3 with a3 | a3
        · exact .inl (b3.trans a3)
        · exact .inr ⟨x, List.mem_cons_self, by rw [b3]; exact a3⟩
      · exact .inr ⟨y, List.mem_cons_of_mem _ hy, h⟩
theorem grC_ge : ∀ (cs : List ByteArray) (m : Int), m ≤ cs.foldl (fun m c => grP m (partsN c)) m ∧ (∀ c ∈ cs, ∀ x ∈ partsN c, ∀ n, spk x.data.toList = some n → n ≤ cs.foldl (fun m c => grP m (partsN c)) m) ∧ (cs.foldl (fun m c => grP m (partsN c)) m = m ∨ ∃ c ∈ cs, ∃ x ∈ partsN c, spk x.data.toList = some (cs.foldl (fun m c => grP m (partsN c)) m))
  | [], m => ⟨Int.le_refl _, fun x h => absurd h List.not_mem_nil, .inl rfl⟩
  | c :: cs, m => by
    obtain ⟨a1, a2, a3⟩ := grP_ge (partsN c) m
    obtain ⟨b1, b2, b3⟩ := grC_ge cs (grP m (partsN c))
    rw [List.foldl_cons]
    refine ⟨Int.le_trans a1 b1, fun y hy x hx n hn => ?_, ?_⟩
    · rcases List.mem_cons.1 hy with rfl | hy
      · exact Int.le_trans (a2 x hx n hn) b1
      · exact b2 y hy x hx n hn
    · rcases b3 with b3 | ⟨y, hy, h⟩
      · rcases a3 with a3 | ⟨x, hx, h⟩
        · exact .inl (b3.trans a3)
        · exact .inr ⟨c, List.mem_cons_self, x, hx, by rw [b3]; exact h⟩
      · exact .inr ⟨y, List.mem_cons_of_mem _ hy, h⟩
theorem sc1_spk {p : ByteArray} {n : Int} (h : spk p.data.toList = some n) : ∃ b, sc1 p = some ⟨n, p, b⟩ := by
  unfold sc1
  rw [h]
  exact ⟨_, rfl⟩
theorem last_desk (cs : List ByteArray) : grC cs = ((layF (cs.map scL) cs.length).last : Int) := by
  have hI := coB_inv cs
  obtain ⟨d, hd⟩ : ∃ d, layF (cs.map scL) cs.length = d := ⟨_, rfl⟩
  rw [hd] at hI ⊢
  obtain ⟨a1, a2, a3⟩ := grC_ge cs 0
  have e : grC cs = cs.foldl (fun m c => grP m (partsN c)) 0 := rfl
  rw [← e] at a1 a2 a3
  have up : (d.last : Int) ≤ grC cs := by
    rcases hI.ex with h | ⟨s, ⟨c, hc, hs⟩, h⟩
    · rw [h]; exact a1
    · have hsome := scS_some (cs := cs) ⟨c, hc, hs⟩
      obtain ⟨p, hp, hps⟩ := List.mem_filterMap.1 hs
      obtain ⟨e1, e2, -⟩ := sc1_some hps
      have := a2 c hc p hp s.n e1
      omega
  have dn : grC cs ≤ (d.last : Int) := by
    rcases a3 with h | ⟨c, hc, x, hx, h⟩
    · rw [h]; omega
    · obtain ⟨b, hb⟩ := sc1_spk h
      have h2 := hI.le ⟨grC cs, x, b⟩ ⟨c, hc, List.mem_filterMap.2 ⟨x, hx, hb⟩⟩
      have h3 : (grC cs).toNat ≤ d.last := h2
      omega
  omega
end Go.Proofs.YtmfhpddeclggfaaGreatDoor
