import Derived.Test.YtcejmfgbfdhflaaGreatDm
import Derived.WalkKit
import Derived.LoopTactic
import Derived.WalkSpells
import Derived.WalkLawsBesides
import Derived.Lib.Hide
import Derived.BigQuiet
import Derived.IntWalk
import Derived.Deep.DeepMust
import Derived.WalkSmall
import Derived.StillTailTactics
import Derived.Deep.RegionLaw
import Derived.Deep.RegionHeld3
import Derived.Deep.QuietTactic
namespace Go.Proofs.YtcejmfgbfdhflaaGreat
open Go.RowKit Go.Shelf Go.BigFrame Go.Sort
attribute [local go_sem] World.cell?_alloc_some
def thL (x : WA) : List Th := x.ps.map Pf.th ++ x.rs.map Pf.th
def chL (x : WA) : List Int := x.ps.map (·.ch) ++ x.rs.map (·.ch)
/-- Two things that may not stand together. -/
def Bad (x : WA) (i k : Nat) : Prop := ((thL x).getD k dTh).num = ((thL x).getD i dTh).num ∨ (x.ps.length ≤ i ∧ x.ps.length ≤ k ∧ (chL x).getD k 0 = (chL x).getD i 0 ∧ ((thL x).getD k dTh).year = ((thL x).getD i dTh).year)
def fst1 (x : WA) (i : Nat) : Int := if i < x.ps.length then 0 else 1
/-- The error of the things from one on. -/
def restE (x : WA) (i : Nat) : Int :=
  if i < x.ps.length then (if chkPs x.cs ((x.ps.take i).map (·.id)) (x.ps.drop i) ≠ 0 then chkPs x.cs ((x.ps.take i).map (·.id)) (x.ps.drop i) else chkRs x.cs (x.ps.map (·.id)) [] x.rs)
  else chkRs x.cs (x.ps.map (·.id) ++ (x.rs.take (i - x.ps.length)).map (·.id)) (x.rs.take (i - x.ps.length)) (x.rs.drop (i - x.ps.length))
theorem fit_pf (cs : List Ch) (p : Pf) : fitB cs p.ch 0 p.th = okPf cs p := by
  have hL : okLong p.lo p.hi = true ↔ p.lo ≤ p.hi ∧ 9000 ≤ p.lo ∧ p.hi ≤ 12000 := by simp [okLong, insB]
  rw [Bool.eq_iff_iff, okPf_iff]
  unfold fitB okId Pf.th
  simp only [Bool.and_eq_true, inB_iff, hL]
  constructor
  · rintro ⟨a, b, c, d⟩; exact ⟨a, b, by omega, d⟩
  · rintro ⟨a, b, c, d⟩; exact ⟨a, b, by omega, d⟩
theorem fit_rp (cs : List Ch) (p : Pf) : fitB cs p.ch 1 p.th = okRp cs p := by
  have hL : okLong p.lo p.hi = true ↔ p.lo ≤ p.hi ∧ 9000 ≤ p.lo ∧ p.hi ≤ 12000 := by simp [okLong, insB]
  rw [Bool.eq_iff_iff, okRp_iff]
  unfold fitB okId Pf.th
  simp only [Bool.and_eq_true, inB_iff, hL]
  constructor
  · rintro ⟨a, b, c, d⟩; exact ⟨a, b, by omega, by omega, d⟩
  · rintro ⟨a, b, c, c2, d⟩; exact ⟨a, b, by omega, d⟩
theorem thL_lo {x : WA} {i : Nat} (h : i < x.ps.length) : (thL x).getD i dTh = x.ps[i].th ∧ (chL x).getD i 0 = x.ps[i].ch := by
  unfold thL chL
  simp [List.getElem?_append_left, h]
theorem thL_hi {x : WA} {j : Nat} (h : j < x.rs.length) : (thL x).getD (x.ps.length + j) dTh = x.rs[j].th ∧ (chL x).getD (x.ps.length + j) 0 = x.rs[j].ch := by
  unfold thL chL
  simp [h]
theorem rest_start {x : WA} (h1 : (decide (20 < x.cs.length) || decide (60 < x.ps.length + x.rs.length)) = false) (h2 : chkCs [] x.cs = 0) : chk x = restE x 0 := by
  unfold chk
  rw [if_neg (by simp [h1]), if_neg (by simp [h2])]
  unfold restE
  by_cases h : 0 < x.ps.length
  · rw [if_pos h]; rfl
  · rw [if_neg h]
    have : x.ps = [] := List.length_eq_zero_iff.1 (by omega)
    rw [this]
    simp [chkPs]
theorem rest_end (x : WA) : restE x (x.ps.length + x.rs.length) = 0 := by
  unfold restE
  rw [if_neg (by omega), Nat.add_sub_cancel_left, List.drop_length]
  rfl
theorem lo_dup {x : WA} {i : Nat} (h : i < x.ps.length) : (((x.ps.take i).map (·.id)).contains x.ps[i].id = true) ↔ ∃ k, k < i ∧ Bad x i k := by
  rw [List.contains_iff_mem, List.mem_map]
  constructor
  · rintro ⟨p, hp, e⟩
    obtain ⟨k, hk⟩ := List.mem_iff_getElem?.1 hp
    have hki : k < i := by have := (List.getElem?_eq_some_iff.1 hk).1; simp at this; omega
    rw [List.getElem?_take_of_lt hki] at hk
    obtain ⟨hk2, rfl⟩ := List.getElem?_eq_some_iff.1 hk
    exact ⟨k, hki, .inl (by rw [(thL_lo hk2).1, (thL_lo h).1]; exact e)⟩
  · rintro ⟨k, hki, e | ⟨e, -⟩⟩
    · have hk2 : k < x.ps.length := by omega
      rw [(thL_lo hk2).1, (thL_lo h).1] at e
      exact ⟨x.ps[k], List.mem_iff_getElem?.2 ⟨k, by rw [List.getElem?_take_of_lt hki]; exact List.getElem?_eq_getElem hk2⟩, e⟩
    · omega
theorem hi_dup {x : WA} {j : Nat} (h : j < x.rs.length) : ((x.ps.map (·.id) ++ (x.rs.take j).map (·.id)).contains x.rs[j].id || repB (x.rs.take j) x.rs[j]) = true ↔ ∃ k, k < x.ps.length + j ∧ Bad x (x.ps.length + j) k := by
  rw [Bool.or_eq_true, List.contains_iff_mem, List.mem_append, List.mem_map, List.mem_map]
  unfold repB
  rw [List.any_eq_true]
  constructor
  · rintro ((⟨p, hp, e⟩ | ⟨p, hp, e⟩) | ⟨p, hp, e⟩)
    · obtain ⟨k, hk2, rfl⟩ := List.getElem_of_mem hp
      exact ⟨k, by omega, .inl (by rw [(thL_lo hk2).1, (thL_hi h).1]; exact e)⟩
    · obtain ⟨k, hk⟩ := List.mem_iff_getElem?.1 hp
      have hki : k < j := by have := (List.getElem?_eq_some_iff.1 hk).1; simp at this; omega
      rw [List.getElem?_take_of_lt hki] at hk
      obtain ⟨hk2, rfl⟩ := List.getElem?_eq_some_iff.1 hk
      exact ⟨x.ps.length + k, by omega, .inl (by rw [(thL_hi hk2).1, (thL_hi h).1]; exact e)⟩
    · obtain ⟨k, hk⟩ := List.mem_iff_getElem?.1 hp
      have hki : k < j := by have := (List.getElem?_eq_some_iff.1 hk).1; simp at this; omega
      rw [List.getElem?_take_of_lt hki] at hk
      obtain ⟨hk2, rfl⟩ := List.getElem?_eq_some_iff.1 hk
      simp only [Bool.and_eq_true, beq_iff_eq] at e
      exact ⟨x.ps.length + k, by omega, .inr ⟨by omega, by omega, by rw [(thL_hi hk2).2, (thL_hi h).2]; exact e.1, by rw [(thL_hi hk2).1, (thL_hi h).1]; exact e.2⟩⟩
  · rintro ⟨k, hki, e⟩
    by_cases hk : k < x.ps.length
    · rcases e with e | ⟨-, e, -⟩
      · rw [(thL_lo hk).1, (thL_hi h).1] at e
        exact .inl (.inl ⟨x.ps[k], List.getElem_mem hk, e⟩)
      · omega
    · obtain ⟨k', rfl⟩ : ∃ k', k = x.ps.length + k' := ⟨k - x.ps.length, by omega⟩
      have hk2 : k' < x.rs.length := by omega
      have hm : x.rs[k'] ∈ x.rs.take j := List.mem_iff_getElem?.2 ⟨k', by rw [List.getElem?_take_of_lt (by omega)]; exact List.getElem?_eq_getElem hk2⟩
      rcases e with e | ⟨-, -, e1, e2⟩
      · rw [(thL_hi hk2).1, (thL_hi h).1] at e
        exact .inl (.inr ⟨_, hm, e⟩)
      · rw [(thL_hi hk2).2, (thL_hi h).2] at e1
        rw [(thL_hi hk2).1, (thL_hi h).1] at e2
        exact .inr ⟨_, hm, by simp only [Bool.and_eq_true, beq_iff_eq]; exact ⟨e1, e2⟩⟩
theorem rest_step {x : WA} {i : Nat} (h : i < x.ps.length + x.rs.length) :
    (fitB x.cs ((chL x).getD i 0) (fst1 x i) ((thL x).getD i dTh) = false → restE x i = 1) ∧
    (fitB x.cs ((chL x).getD i 0) (fst1 x i) ((thL x).getD i dTh) = true → (∃ k, k < i ∧ Bad x i k) → restE x i = 6) ∧
    (fitB x.cs ((chL x).getD i 0) (fst1 x i) ((thL x).getD i dTh) = true → (¬ ∃ k, k < i ∧ Bad x i k) → restE x i = restE x (i + 1)) := by
  by_cases hi : i < x.ps.length
  · have hs := chkPs_step x.cs x.ps i hi
    obtain ⟨e1, e2⟩ := thL_lo hi
    have hd := lo_dup hi
    rw [e1, e2, show fst1 x i = 0 from if_pos hi, fit_pf]
    unfold restE
    rw [if_pos hi]
    refine ⟨fun a => ?_, fun a b => ?_, fun a b => ?_⟩
    · rw [if_pos a] at hs
      rw [hs, if_pos (by decide)]
    · rw [if_neg (by simp [a]), if_pos (hd.2 b)] at hs
      rw [hs, if_pos (by decide)]
    · rw [if_neg (by simp [a]), if_neg (fun c => b (hd.1 c))] at hs
      rw [hs]
      by_cases hi2 : i + 1 < x.ps.length
      · rw [if_pos hi2]
      · rw [if_neg hi2, show i + 1 = x.ps.length from by omega, List.drop_length, Nat.sub_self]
        simp [chkPs]
  · obtain ⟨j, rfl⟩ : ∃ j, i = x.ps.length + j := ⟨i - x.ps.length, by omega⟩
    have hj : j < x.rs.length := by omega
    have hs := chkRs_step x.cs (x.ps.map (·.id)) x.rs j hj
    obtain ⟨e1, e2⟩ := thL_hi hj
    have hd := hi_dup hj
    rw [e1, e2, show fst1 x (x.ps.length + j) = 1 from if_neg hi, fit_rp]
    unfold restE
    rw [if_neg hi, if_neg (by omega), show x.ps.length + j - x.ps.length = j from by omega, show x.ps.length + j + 1 - x.ps.length = j + 1 from by omega, hs]
    refine ⟨fun a => by rw [if_pos a], fun a b => ?_, fun a b => ?_⟩
    · rw [if_neg (by simp [a]), if_pos (hd.2 b)]
    · rw [if_neg (by simp [a]), if_neg (fun c => b (hd.1 c))]
end Go.Proofs.YtcejmfgbfdhflaaGreat
