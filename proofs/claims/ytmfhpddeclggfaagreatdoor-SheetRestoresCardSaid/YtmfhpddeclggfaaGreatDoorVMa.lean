import Derived.Test.YtmfhpddeclggfaaGreatDoorVIfa
import Derived.Maps.Own
import Derived.Maps.OwnOps
import Derived.Maps.OwnSet
import Derived.Lib.SlKeysI
import Derived.RangeFuncNested
import Derived.RangeFuncBound
import Derived.RangeFuncCalls
import Derived.RangeFuncLeaves
import Derived.RangeFuncBox
import Derived.Shelf.Abstract
import Derived.Shelf.RegionOpen
import Derived.OwnWalkIn
import Derived.TacticsInMore
import Derived.LoopNIn
import Derived.LoopIn
import Derived.Maps.AppendAt
import Derived.Maps.OwnIn
import Derived.RegionIn
import Derived.BigRegionIn
import Derived.Stop.RegionWithIn
import Derived.WalkKit
import Derived.LoopTactic
import Derived.WalkSpells
import Derived.WalkLawsBesides
import Derived.Lib.Hide
import Derived.BigQuiet
import Derived.IntWalk
import Derived.Deep.DeepMust
import Derived.WalkSmall
import Derived.StillTailTactics
import Derived.Deep.RegionLaw
import Derived.Deep.QuietTactic
import Derived.Deep.Cut
import Derived.Deep.DeepCutAuto
import Derived.Deep.LoopGhost
import Derived.Laws.AppendOwn
import Derived.Deep.RegionHeld3
import Derived.Deep.AppendLies
import Derived.Test.YtmfhpddeclggfaaGreatDoorIfk
import Derived.Test.YtmfhpddeclggfaaGreatDoorVIfb
import Derived.Test.YtmfhpddeclggfaaGreatDoorVIg
import Derived.Test.YtmfhpddeclggfaaGreatDoorVIh
import Derived.Test.YtmfhpddeclggfaaGreatDoorVIia
import Derived.Test.YtmfhpddeclggfaaGreatDoorVIib
import Derived.Test.YtmfhpddeclggfaaGreatDoorKf
import Derived.Test.YtmfhpddeclggfaaGreatDoorVIic
import Derived.Test.YtmfhpddeclggfaaGreatDoorVc
namespace Go.Proofs.YtmfhpddeclggfaaGreatDoor
open Go.RowKit
/-! What a book says is a matter of the scraps, not of their order or how often they stand there. -/
/-- A desk on which these scraps were laid. -/
structure InvD (d : DS) (S : Sc → Prop) : Prop where
  le : ∀ s, S s → s.n.toNat ≤ d.last
  ex : d.last = 0 ∨ ∃ s, S s ∧ s.n.toNat = d.last
  nd : ∀ n, (d.rs n).Nodup
  rs : ∀ n t, t ∈ d.rs n ↔ ∃ s, S s ∧ s.b = true ∧ s.n.toNat = n ∧ s.t = t
  cp : ∀ n t, d.cp n t = [] ↔ t ∉ d.rs n
  os : ∀ n t, t ∈ (d.os n).map Prod.snd ↔ ∃ s, S s ∧ s.b = false ∧ s.n.toNat = n ∧ s.t = t
theorem inv0 : InvD ds0 (fun _ => False) := ⟨fun _ h => h.elim, .inl rfl, fun _ => List.nodup_nil, fun n t => by simp [ds0], fun n t => by simp [ds0], fun n t => by simp [ds0]⟩
theorem InvD.congr {d : DS} {S S' : Sc → Prop} (h : InvD d S) (e : ∀ s, S s ↔ S' s) : InvD d S' := by
  have : S = S' := funext fun s => propext (e s)
  rw [← this]; exact h
theorem InvD.add {d : DS} {S : Sc → Prop} (h : InvD d S) (k : Int) (x : Sc) : InvD (adD k d x) (fun s => S s ∨ s = x) := by
  have hl := adD_last k d x
  refine ⟨fun s hs => ?_, ?_, fun n => ?_, fun n t => ?_, fun n t => ?_, fun n t => ?_⟩
  · rw [hl]
    rcases hs with hs | rfl
    · have := h.le s hs; omega
    · omega
  · rw [hl]
    by_cases hx : d.last ≤ x.n.toNat
    · exact .inr ⟨x, .inr rfl, by omega⟩
    · rcases h.ex with h0 | ⟨s, hs, e⟩
      · omega
      · exact .inr ⟨s, .inl hs, by omega⟩
  · unfold adD
    split
    · dsimp only
      split
      · rename_i e
        subst e
        split
        · rename_i hc
          refine List.nodup_append.2 ⟨h.nd _, by simp, fun a ha b hb => ?_⟩
          rw [List.mem_singleton] at hb
          subst hb
          exact fun e => (h.cp _ _).1 hc (e ▸ ha)
        · exact h.nd _
      · exact h.nd n
    · exact h.nd n
  · unfold adD
    split
    · rename_i hb
      dsimp only
      by_cases e : n = x.n.toNat
      · subst e
        rw [if_pos rfl]
        split
        · rw [List.mem_append, h.rs, List.mem_singleton]
          constructor
          · rintro (⟨s, hs, g⟩ | rfl)
            · exact ⟨s, .inl hs, g⟩
            · exact ⟨x, .inr rfl, hb, rfl, rfl⟩
          · rintro ⟨s, hs | rfl, g1, g2, g3⟩
            · exact .inl ⟨s, hs, g1, g2, g3⟩
            · exact .inr g3.symm
        · rename_i hc
          rw [h.rs]
          constructor
          · rintro ⟨s, hs, g⟩; exact ⟨s, .inl hs, g⟩
          · rintro ⟨s, hs | rfl, g1, g2, g3⟩
            · exact ⟨s, hs, g1, g2, g3⟩
            · subst g3
              have h5 : s.t ∈ d.rs s.n.toNat := Classical.byContradiction fun h6 => hc ((h.cp _ _).2 h6)
              exact (h.rs _ _).1 h5
      · rw [if_neg e, h.rs]
        constructor
        · rintro ⟨s, hs, g⟩; exact ⟨s, .inl hs, g⟩
        · rintro ⟨s, hs | rfl, g1, g2, g3⟩
          · exact ⟨s, hs, g1, g2, g3⟩
          · exact absurd g2.symm e
    · rename_i hb
      rw [h.rs]
      constructor
      · rintro ⟨s, hs, g⟩; exact ⟨s, .inl hs, g⟩
      · rintro ⟨s, hs | rfl, g1, g2, g3⟩
        · exact ⟨s, hs, g1, g2, g3⟩
        · exact absurd g1 hb
  · unfold adD
    split
    · dsimp only
      by_cases e : n = x.n.toNat
      · subst e
        rw [if_pos rfl]
        by_cases e2 : t = x.t
        · subst e2
          rw [if_pos ⟨rfl, rfl⟩]
          constructor
          · intro h1; exact absurd h1 (addL_ne _ _)
          · intro h1
            split at h1
            · exact absurd (List.mem_append_right _ (List.mem_singleton.2 rfl)) h1
            · rename_i hc
              exact absurd ((h.cp _ _).2 h1) hc
        · rw [if_neg (fun e3 => e2 e3.2), h.cp]
          split
          · rw [List.mem_append, List.mem_singleton]
            exact ⟨fun h1 h2 => h2.elim h1 e2, fun h1 h2 => h1 (.inl h2)⟩
          · exact Iff.rfl
      · rw [if_neg (fun e3 => e e3.1), if_neg e]; exact h.cp n t
    · exact h.cp n t
  · unfold adD
    split
    · rename_i hb
      rw [h.os]
      constructor
      · rintro ⟨s, hs, g⟩; exact ⟨s, .inl hs, g⟩
      · rintro ⟨s, hs | rfl, g1, g2, g3⟩
        · exact ⟨s, hs, g1, g2, g3⟩
        · rw [hb] at g1; cases g1
    · rename_i hb
      have hb' : x.b = false := Bool.eq_false_iff.2 hb
      dsimp only
      by_cases e : n = x.n.toNat
      · subst e
        rw [if_pos rfl, List.map_append, List.mem_append, h.os]
        simp only [List.map_cons, List.map_nil, List.mem_singleton]
        constructor
        · rintro (⟨s, hs, g⟩ | rfl)
          · exact ⟨s, .inl hs, g⟩
          · exact ⟨x, .inr rfl, hb', rfl, rfl⟩
        · rintro ⟨s, hs | rfl, g1, g2, g3⟩
          · exact .inl ⟨s, hs, g1, g2, g3⟩
          · exact .inr g3.symm
      · rw [if_neg e, h.os]
        constructor
        · rintro ⟨s, hs, g⟩; exact ⟨s, .inl hs, g⟩
        · rintro ⟨s, hs | rfl, g1, g2, g3⟩
          · exact ⟨s, hs, g1, g2, g3⟩
          · exact absurd g2.symm e
theorem InvD.fold (k : Int) : ∀ (l : List Sc) (d : DS) (S : Sc → Prop), InvD d S → InvD (l.foldl (adD k) d) (fun s => S s ∨ s ∈ l)
  | [], _, _, h => h.congr (fun s => by simp)
  | x :: l, d, S, h => (InvD.fold k l (adD k d x) _ (h.add k x)).congr (fun s => by simp [or_assoc])
theorem layF_inv (ss : List (List Sc)) : ∀ k, InvD (layF ss k) (fun s => ∃ j, j < k ∧ s ∈ ss.getD j [])
  | 0 => inv0.congr (fun s => by simp)
  | k + 1 => (InvD.fold k (ss.getD k []) (layF ss k) _ (layF_inv ss k)).congr (fun s => by
    constructor
    · rintro (⟨j, hj, hs⟩ | hs)
      · exact ⟨j, by omega, hs⟩
      · exact ⟨k, by omega, hs⟩
    · rintro ⟨j, hj, hs⟩
      by_cases e : j = k
      · subst e; exact .inr hs
      · exact .inl ⟨j, by omega, hs⟩)
/-- The scraps of copies. -/
def scS (cs : List ByteArray) (s : Sc) : Prop := ∃ c ∈ cs, s ∈ scL c
theorem coB_inv (cs : List ByteArray) : InvD (layF (cs.map scL) cs.length) (scS cs) := (layF_inv (cs.map scL) cs.length).congr (fun s => by
  unfold scS
  constructor
  · rintro ⟨j, hj, hs⟩
    rw [scs_getD, if_pos hj] at hs
    exact ⟨_, getD_mem hj, hs⟩
  · rintro ⟨c, hc, hs⟩
    obtain ⟨j, hj, rfl⟩ := List.getElem_of_mem hc
    refine ⟨j, hj, ?_⟩
    rw [scs_getD, if_pos hj, List.getD, List.getElem?_eq_getElem hj]
    exact hs)
/-- A reading without its copies. -/
def kS (f : FV) : Int × List ByteArray × Bool := (f.1, f.2.1, f.2.2.2)
theorem col_mem {ts us : List ByteArray} (h : ∀ t, t ∈ ts ↔ t ∈ us) (k : Nat) (c : UInt8) : c ∈ colOf ts k ↔ c ∈ colOf us k := by
  simp only [colOf, List.mem_map, h]
theorem ovO_mem {ts us : List ByteArray} (h : ∀ t, t ∈ ts ↔ t ∈ us) : ovO ts = ovO us := by
  by_cases h0 : ts = []
  · subst h0
    have : us = [] := List.eq_nil_iff_forall_not_mem.2 fun t ht => by simpa using (h t).2 ht
    rw [this]
  · have h0' : us ≠ [] := fun e => h0 (List.eq_nil_iff_forall_not_mem.2 fun t ht => by rw [e] at h; simpa using (h t).1 ht)
    have hs : sameSz us = sameSz ts := by
      have h1 := sameSz_iff ts
      have h2 := sameSz_iff us
      simp only [← h] at h2
      cases h3 : sameSz ts with
      | true => exact h2.2 (h1.1 h3)
      | false =>
        cases h4 : sameSz us with
        | false => rfl
        | true => rw [h1.2 (h2.1 h4)] at h3; cases h3
    unfold ovO
    rw [if_neg h0, if_neg h0', hs]
    by_cases h5 : sameSz ts = true
    · rw [if_pos h5, if_pos h5]
      have hl : 0 < ts.length := List.length_pos_iff.2 h0
      have hl' : 0 < us.length := List.length_pos_iff.2 h0'
      have hz : (us.getD 0 ByteArray.empty).size = (ts.getD 0 ByteArray.empty).size := (sameSz_iff ts).1 h5 _ ((h _).2 (getD_mem hl')) _ (getD_mem hl)
      rw [hz]
      have h1 : ∀ k, oneB (colOf us k) = oneB (colOf ts k) := fun k => (one_perm_eq (col_mem h k)).symm
      simp only [h1]
      split
      · rename_i ha
        congr 2
        apply List.map_congr_left
        intro k hk
        exact (one_perm (col_mem h k) (List.all_eq_true.1 ha k hk)).2.symm
      · rfl
    · rw [if_neg h5, if_neg h5]
theorem ofL_txt (l : List (Int × ByteArray)) (z : Nat) (t : ByteArray) : t ∈ (ofL l z).map Prod.snd ↔ t ∈ l.map Prod.snd ∧ t.size = z := by
  simp only [ofL, List.mem_map, List.mem_filter, beq_iff_eq]
  constructor
  · rintro ⟨x, ⟨h1, h2⟩, rfl⟩; exact ⟨⟨x, h1, rfl⟩, h2⟩
  · rintro ⟨⟨x, h1, rfl⟩, h2⟩; exact ⟨x, ⟨h1, h2⟩, rfl⟩
theorem ov1_mem {l m : List (Int × ByteArray)} (h : ∀ t, t ∈ l.map Prod.snd ↔ t ∈ m.map Prod.snd) : (ov1 l).map kS = (ov1 m).map kS := by
  unfold ov1
  rw [ovO_mem h]
  split <;> rfl
theorem lenS_eq {l m : List (Int × ByteArray)} (h : ∀ t, t ∈ l.map Prod.snd ↔ t ∈ m.map Prod.snd) : lenS l = lenS m := by
  refine mergeSort_of_perm_i ((List.perm_ext_iff_of_nodup (dd_nodup _) (dd_nodup _)).2 fun z => ?_)
  rw [dd_mem, dd_mem]
  have e : ∀ q : List (Int × ByteArray), z ∈ q.map (fun x => ((x.2.size : Nat) : Int)) ↔ ∃ t ∈ q.map Prod.snd, ((t.size : Nat) : Int) = z := fun q => by
    simp only [List.mem_map]
    constructor
    · rintro ⟨x, hx, rfl⟩; exact ⟨x.2, ⟨x, hx, rfl⟩, rfl⟩
    · rintro ⟨t, ⟨x, hx, rfl⟩, rfl⟩; exact ⟨x, hx, rfl⟩
  rw [e, e]
  simp only [h]
theorem rsF_mem {l m : List (Int × ByteArray)} (h : ∀ t, t ∈ l.map Prod.snd ↔ t ∈ m.map Prod.snd) (ks : List Int) : (rsF l ks).map kS = (rsF m ks).map kS := by
  unfold rsF
  rw [List.map_flatMap, List.map_flatMap]
  congr 1
  funext z
  exact ov1_mem (fun t => by rw [ofL_txt, ofL_txt, h])
theorem rsD_mem {l m : List (Int × ByteArray)} (h : ∀ t, t ∈ l.map Prod.snd ↔ t ∈ m.map Prod.snd) : (rsD l).map kS = (rsD m).map kS := by
  have h1 := rsF_mem h (lenS l)
  have h2 := congrArg List.length h1
  rw [List.length_map, List.length_map] at h2
  unfold rsD
  rw [← lenS_eq h, ← h2]
  split
  · rfl
  · exact h1
/-- The readings of a number are as many, and where there is but one it is the same. -/
theorem fdV_same {d d' : DS} {S : Sc → Prop} (h : InvD d S) (h' : InvD d' S) (n : Nat) : (fdV d n).length = (fdV d' n).length ∧ ((fdV d n).length ≤ 1 → (fdV d n).map kS = (fdV d' n).map kS) := by
  have hp : (d.rs n).Perm (d'.rs n) := (List.perm_ext_iff_of_nodup (h.nd n) (h'.nd n)).2 fun t => by rw [h.rs, h'.rs]
  by_cases h0 : d.rs n = []
  · have h0' : d'.rs n = [] := by rw [h0] at hp; exact hp.nil_eq.symm
    have h1 : (rsD (d.os n)).map kS = (rsD (d'.os n)).map kS := rsD_mem (fun t => by rw [h.os, h'.os])
    unfold fdV
    rw [if_pos h0, if_pos h0']
    exact ⟨by simpa using congrArg List.length h1, fun _ => h1⟩
  · have h0' : d'.rs n ≠ [] := fun e => h0 (by rw [e] at hp; exact hp.eq_nil)
    unfold fdV
    rw [if_neg h0, if_neg h0', List.length_map, List.length_map]
    refine ⟨hp.length_eq, fun hl => ?_⟩
    obtain ⟨t, ht⟩ : ∃ t, d.rs n = [t] := List.length_eq_one_iff.1 (by have := List.length_pos_iff.2 h0; omega)
    rw [ht] at hp ⊢
    rw [hp.singleton_eq, List.map_map, List.map_map]
    rfl
theorem coD_same {d d' : DS} {S : Sc → Prop} (h : InvD d S) (h' : InvD d' S) : ∀ k, (coD d k).1.map kS = (coD d' k).1.map kS ∧ (coD d k).2.1.length = (coD d' k).2.1.length ∧ (coD d k).2.2 = (coD d' k).2.2
  | 0 => ⟨rfl, rfl, rfl⟩
  | k + 1 => by
    obtain ⟨i1, i2, i3⟩ := coD_same h h' k
    obtain ⟨h1, h2⟩ := fdV_same h h' (k + 1)
    rw [coD, coD]
    unfold stB
    obtain ⟨F, hF⟩ : ∃ F, fdV d (k + 1) = F := ⟨_, rfl⟩
    obtain ⟨G, hG⟩ : ∃ G, fdV d' (k + 1) = G := ⟨_, rfl⟩
    rw [hF, hG] at h1 h2 ⊢
    match F, G, h1, h2 with
    | [], [], _, _ => exact ⟨i1, i2, by dsimp only; rw [i3]⟩
    | [f], [g], _, h2 =>
      have h3 := h2 (Nat.le_refl _)
      exact ⟨by dsimp only; rw [List.map_append, List.map_append, i1, h3], i2, i3⟩
    | f :: f2 :: F, g :: g2 :: G, h1, _ => exact ⟨i1, by dsimp only; rw [List.length_append, List.length_append, i2, h1], i3⟩
    | [], _ :: _, h1, _ => simp at h1
    | _ :: _, [], h1, _ => simp at h1
    | [_], _ :: _ :: _, h1, _ => simp at h1
    | _ :: _ :: _, [_], h1, _ => simp at h1
theorem last_same {d d' : DS} {S : Sc → Prop} (h : InvD d S) (h' : InvD d' S) : d.last = d'.last := by
  have a : ∀ {d d' : DS}, InvD d S → InvD d' S → d.last ≤ d'.last := fun {d d'} h h' => by
    rcases h.ex with e | ⟨s, hs, e⟩
    · omega
    · have := h'.le s hs; omega
  exact Nat.le_antisymm (a h h') (a h' h)
/-- Copies with the same scraps make books that are alike. -/
theorem coB_same {cs ds : List ByteArray} (h : ∀ s, scS cs s ↔ scS ds s) : (coB cs).1.map kS = (coB ds).1.map kS ∧ (coB cs).2.1.length = (coB ds).2.1.length ∧ (coB cs).2.2 = (coB ds).2.2 := by
  have h1 := coB_inv cs
  have h2 := (coB_inv ds).congr (fun s => (h s).symm)
  unfold coB
  rw [last_same h1 h2]
  exact coD_same h1 h2 _
theorem scS_rot (cs : List ByteArray) (k : Nat) (s : Sc) : scS cs s ↔ scS (cs.drop k ++ cs.take k) s := by
  unfold scS
  have e : ∀ c, c ∈ cs ↔ c ∈ cs.drop k ++ cs.take k := fun c => by
    rw [List.mem_append]
    conv => lhs; rw [← List.take_append_drop k cs, List.mem_append]
    exact or_comm
  simp only [e]
end Go.Proofs.YtmfhpddeclggfaaGreatDoor
