import Derived.Test.YtcejmfgbfdhflaaGreatDc
import Derived.Laws.AppendOwnNone
import Derived.Shelf.SlSortCmp.NoneTotal
import Derived.WalkKit
import Derived.LoopTactic
import Derived.WalkSpells
import Derived.WalkLawsBesides
import Derived.Lib.Hide
import Derived.BigQuiet
import Derived.IntWalk
import Derived.Deep.DeepMust
import Derived.WalkSmall
import Derived.StillTailTactics
import Derived.Deep.RegionLaw
import Derived.Deep.RegionHeld3
import Derived.Deep.QuietTactic
namespace Go.Proofs.YtcejmfgbfdhflaaGreat
open Go.RowKit Go.Shelf Go.BigFrame Go.Sort
attribute [local go_sem] World.cell?_alloc_some
theorem chkCs_find : ∀ (l pre : List Ch), chkCs pre l = 0 → ∀ c ∈ l, chF (pre ++ l) c.id = some c
  | [], _, _, c, hc => by simp at hc
  | d :: l, pre, h, c, hc => by
    unfold chkCs at h
    by_cases h1 : okCh d = false
    · rw [if_pos h1] at h; cases h
    · rw [if_neg h1] at h
      by_cases h2 : (chF pre d.id).isSome = true
      · rw [if_pos h2] at h; cases h
      · rw [if_neg h2] at h
        rcases List.mem_cons.1 hc with rfl | hc
        · unfold chF at *
          have h3 : List.find? (fun x => x.id == c.id) pre = none := by simpa using h2
          rw [List.find?_append, h3]
          simp
        · have := chkCs_find l _ h c hc
          rwa [List.append_assoc] at this
theorem chk_find {x : WA} (h : chk x = 0) : ∀ c ∈ x.cs, chF x.cs c.id = some c := by
  unfold chk at h
  by_cases h1 : (decide (20 < x.cs.length) || decide (60 < x.ps.length + x.rs.length)) = true
  · rw [if_pos h1] at h; cases h
  · rw [if_neg h1] at h
    by_cases h2 : chkCs [] x.cs = 0
    · exact chkCs_find _ _ h2
    · rw [if_pos h2] at h; exact absurd h h2
/-- The pairs of a chain, before they are put in order. -/
def clU (x : WA) (c : Ch) (k : Nat) : List (Int × Int) := (List.range k).flatMap fun i => clS (spP c (tsO x c) x.ps i)
/-- The pairs of a chain. -/
def clC (x : WA) (c : Ch) : List (Int × Int) := srtQ (clU x c (tsO x c).length)
/-- The pairs of works. -/
def clA (x : WA) : List (Int × Int) := x.cs.flatMap (clC x)
theorem clU_succ (x : WA) (c : Ch) (k : Nat) : clU x c (k + 1) = clU x c k ++ clS (spP c (tsO x c) x.ps k) := by
  unfold clU; rw [List.range_succ, List.flatMap_append]; simp
theorem spP_len (c : Ch) (ts : List Th) (ps : List Pf) (i : Nat) : (spP c ts ps i).ths.length ≤ ps.length + 1 := by
  unfold spP
  have := List.length_filter_le (fun p : Pf => p.ch == c.id && decide (cntU (ts.map (·.year)) p.year = i + 1)) ps
  simp only [List.length_cons, List.length_map]
  omega
theorem clU_len {x : WA} (hw : OkW x) (c : Ch) (k : Nat) : (clU x c k).length ≤ k * 3721 := by
  induction k with
  | zero => simp [clU]
  | succ k ih =>
    rw [clU_succ, List.length_append]
    have h1 : (clS (spP c (tsO x c) x.ps k)).length ≤ 3721 := by
      unfold clS
      have h2 := clTo_len (spP c (tsO x c) x.ps k).wear (spP c (tsO x c) x.ps k).ths (spP c (tsO x c) x.ps k).ths.length
      have h3 := spP_len c (tsO x c) x.ps k
      have h4 := hw.n60
      have h5 : (spP c (tsO x c) x.ps k).ths.length ≤ 61 := by omega
      exact Nat.le_trans h2 (Nat.mul_le_mul h5 h5)
    omega
theorem ts_len {x : WA} (hw : OkW x) (c : Ch) : (tsO x c).length ≤ 61 := by
  unfold tsO
  rw [(srtB_perm _).length_eq]
  have := List.length_filter_le (fun r : Pf => r.ch == c.id) x.rs
  have := hw.n60
  unfold begs
  simp only [List.length_cons, List.length_map]
  omega
theorem clC_len {x : WA} (hw : OkW x) (c : Ch) : (clC x c).length ≤ 226981 := by
  unfold clC
  rw [srtQ_len]
  have h1 := clU_len hw c (tsO x c).length
  have h2 := ts_len hw c
  have : (tsO x c).length * 3721 ≤ 61 * 3721 := Nat.mul_le_mul_right _ h2
  omega
theorem flatMap_len {α β : Type} (f : α → List β) (m : Nat) : ∀ l : List α, (∀ a, (f a).length ≤ m) → (l.flatMap f).length ≤ l.length * m
  | [], _ => by simp
  | a :: l, h => by
    have ih := flatMap_len f m l h
    have := h a
    rw [List.flatMap_cons, List.length_append, List.length_cons, Nat.succ_mul]
    omega
theorem grown_refl (W : World) (r : Option Nat) : W.grownBy W r := ⟨rfl, rfl, rfl, Nat.le_refl _, fun _ _ _ => rfl⟩
/-- A row of pairs more. -/
theorem appO {B B2 : Nat} {v x : Value} {l m : List (Int × Int)} {W : World} (hP : OP W B v l) (hQ : OP W B2 x m) (hw : B ≤ W.heap.size) (hl : l.length + m.length ≤ 10000000) {ops : Array Oper} {rest : List Oper} {o : Oper} {a : Act} {Q : Exit → Act → World → Prop} (hgd : o.guard = none) (s z : Operand)
    (ho : o.op = .call { callee := .builtin .append, args := #[s, z], argTypes := #[44, 44] }) (hs : a.eval s = v) (hx : a.eval z = x)
    (h : ∀ v' w', OP w' B v' (l ++ m) → W.grownBy w' v.ownBlock → wpList Tryz.prog ops Q rest (a.put o.dst v') w') : wpList Tryz.prog ops Q (o :: rest) a W := by
  obtain ⟨i0, hi, hz0, hz1, hz2⟩ := info_parts inf56
  obtain ⟨h1, ⟨rfl, h2⟩ | ⟨g, cap, cur, rfl, hB, hc, h3, h4, h5, h6⟩⟩ := hQ
  · have hm : m = [] := List.length_eq_zero_iff.1 h2
    subst hm
    refine wpList_append_own_none hgd s z 44 ho B 56 i0 2 Tryz.underlying44 hi v l.length (flat2 l) hs hP hx ?_
    exact h v W (by rw [List.append_nil]; exact hP) (grown_refl _ _)
  · refine wpList_append_own _ hgd s z 44 ho B 56 i0 (.agg #[.int .i64 0, .int .i64 0]) 2 16 Tryz.underlying44 hi hz0 hz1 hz2 rfl (by decide) v l.length (flat2 l) hs hP ⟨g, 0, none⟩ m.length cap (flat2 m) hx (flat2_len m) ?_ flat2_one ?_ ?_ hw ?_
    · intro j u hu
      have hj : j < m.length * 2 := by rw [← flat2_len]; exact (List.getElem?_eq_some_iff.1 hu).1
      rw [← h6, List.getElem?_take_of_lt (by omega)] at hu
      rw [show (⟨g, 0, none⟩ : Addr).add j = ⟨g, 0 + j, none⟩ from by simp [Addr.add]; omega]
      simpa [World.cell?, hc] using hu
    · unfold maxLen; omega
    · omega
    · intro v' w' ho' hg _
      refine h v' w' ?_ hg
      show w'.ownsRow B 56 2 v' (l ++ m).length (flat2 (l ++ m))
      rw [List.length_append, flat2_app]; exact ho'
/-- The pairs' sort, of none too. -/
theorem sortA_any {B : Nat} {v : Value} {l : List (Int × Int)} {W : World} (h : OP W B v l) (hl : l.length ≤ 1000000) :
    Calls Tryz.prog 166 #[v, .func (.func 167) #[] #[]] W fun e w' => e = .returned (.tuple #[]) ∧ OP w' B v (srtQ l) ∧ W.grownBy w' v.ownBlock := by
  have h0 := h
  obtain ⟨h1, ⟨rfl, h2⟩ | ⟨g, cap, cur, rfl, hB, hc, h3, h4, h5, h6⟩⟩ := h
  · have hm : l = [] := List.length_eq_zero_iff.1 h2
    subst hm
    refine (AnyF.slices_SortFunc_none Tryz.sortP2 none 0 _ W).mono ?_
    rintro e w' ⟨rfl, rfl⟩
    exact ⟨rfl, by rw [show srtQ ([] : List (Int × Int)) = [] from by simp [srtQ]]; exact h0, grown_refl _ _⟩
  · refine (sortQ_any h0 hl).mono ?_
    rintro e w' ⟨rfl, k1, k2⟩
    exact ⟨rfl, by show w'.ownsRow B 56 2 _ (srtQ l).length _; exact k1, k2⟩
end Go.Proofs.YtcejmfgbfdhflaaGreat
