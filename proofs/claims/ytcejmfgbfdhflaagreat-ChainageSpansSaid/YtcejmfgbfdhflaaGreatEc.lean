import Derived.Test.YtcejmfgbfdhflaaGreatQd
import Derived.WalkKit
import Derived.LoopTactic
import Derived.WalkSpells
import Derived.WalkLawsBesides
import Derived.Lib.Hide
import Derived.BigQuiet
import Derived.IntWalk
import Derived.Deep.DeepMust
import Derived.WalkSmall
import Derived.StillTailTactics
import Derived.Deep.RegionLaw
import Derived.Deep.RegionHeld3
import Derived.Deep.QuietTactic
namespace Go.Proofs.YtcejmfgbfdhflaaGreat
open Go.RowKit Go.BigFrame Go.Sort
attribute [local go_sem] World.cell?_alloc_some
theorem mxs_mem : ∀ (l : List Int) (a : Int) (x : Int), x ∈ l → x ≤ mxs a l
  | [], _, x, h => by simp at h
  | y :: l, a, x, h => by
    have e : mxs a (y :: l) = mxs (max a y) l := rfl
    rw [e]
    rcases List.mem_cons.1 h with rfl | h
    · exact Int.le_trans (Int.le_max_right a x) (mxs_ge l _)
    · exact mxs_mem l _ x h
theorem mns_mem : ∀ (l : List Int) (a : Int) (x : Int), x ∈ l → mns a l ≤ x
  | [], _, x, h => by simp at h
  | y :: l, a, x, h => by
    have e : mns a (y :: l) = mns (min a y) l := rfl
    rw [e]
    rcases List.mem_cons.1 h with rfl | h
    · exact Int.le_trans (mns_le l _) (Int.min_le_right a x)
    · exact mns_mem l _ x h
theorem mxs_perm {l m : List Int} (a : Int) (h : l.Perm m) : mxs a l = mxs a m := by
  apply Int.le_antisymm
  · rcases mxs_at l a with e | e
    · rw [e]; exact mxs_ge _ _
    · exact mxs_mem _ _ _ (h.subset e)
  · rcases mxs_at m a with e | e
    · rw [e]; exact mxs_ge _ _
    · exact mxs_mem _ _ _ (h.symm.subset e)
theorem mns_perm {l m : List Int} (a : Int) (h : l.Perm m) : mns a l = mns a m := by
  apply Int.le_antisymm
  · rcases mns_at m a with e | e
    · rw [e]; exact mns_le _ _
    · exact mns_mem _ _ _ (h.symm.subset e)
  · rcases mns_at l a with e | e
    · rw [e]; exact mns_le _ _
    · exact mns_mem _ _ _ (h.subset e)
theorem mnL_one (x : Int) : mnL [x] = x := by simp [mnL, mns]
theorem mnL_snoc {l : List Int} (h : l ≠ []) (x : Int) : mnL (l ++ [x]) = min (mnL l) x := by
  cases l with
  | nil => exact absurd rfl h
  | cons a l =>
    show mns a ((a :: l) ++ [x]) = min (mns a (a :: l)) x
    rw [mns_snoc]
theorem mnL_mem {l : List Int} (h : l ≠ []) : mnL l ∈ l := by
  cases l with
  | nil => exact absurd rfl h
  | cons a l =>
    show mns a (a :: l) ∈ a :: l
    rcases mns_at (a :: l) a with e | e
    · rw [e]; exact List.mem_cons_self
    · exact e
theorem mnL_le {l : List Int} {x : Int} (h : x ∈ l) : mnL l ≤ x := by
  cases l with
  | nil => simp at h
  | cons a l => exact mns_mem (a :: l) a x h
theorem mnL_perm {l m : List Int} (h : l.Perm m) : mnL l = mnL m := by
  by_cases e : l = []
  · subst e; rw [List.nil_perm.1 h]
  · have e2 : m ≠ [] := fun e3 => e (by subst e3; exact List.perm_nil.1 h)
    exact Int.le_antisymm (mnL_le (h.symm.subset (mnL_mem e2))) (mnL_le (h.subset (mnL_mem e)))
/-- The number from which the least length comes. -/
def lowNo (wear y : Int) (l : List Th) : Int := if mxs 9000 (l.map fun t => lowT wear t y) = 9000 then 0 else mnL ((l.filter fun t => decide (lowT wear t y = mxs 9000 (l.map fun t => lowT wear t y))).map (·.num))
def topNo (wear y : Int) (l : List Th) : Int := if mns 12000 (l.map fun t => highT wear t y) = 12000 then 0 else mnL ((l.filter fun t => decide (highT wear t y = mns 12000 (l.map fun t => highT wear t y))).map (·.num))
def loStep (wear y : Int) (a : Int × Int) (t : Th) : Int × Int :=
  if a.1 < lowT wear t y then (lowT wear t y, t.num) else if lowT wear t y = a.1 ∧ 9000 < lowT wear t y then (a.1, min a.2 t.num) else a
def hiStep (wear y : Int) (a : Int × Int) (t : Th) : Int × Int :=
  if highT wear t y < a.1 then (highT wear t y, t.num) else if highT wear t y = a.1 ∧ highT wear t y < 12000 then (a.1, min a.2 t.num) else a
theorem filter_none {l : List Th} {f : Th → Int} {v : Int} (h : ∀ t ∈ l, f t ≠ v) : (l.filter fun t => decide (f t = v)) = [] := by
  rw [List.filter_eq_nil_iff]
  intro t ht e
  exact h t ht (by simpa using e)
theorem loStep_snoc (wear y : Int) (l : List Th) (t : Th) :
    loStep wear y (mxs 9000 (l.map fun t => lowT wear t y), lowNo wear y l) t = (mxs 9000 ((l ++ [t]).map fun t => lowT wear t y), lowNo wear y (l ++ [t])) := by
  have e1 : mxs 9000 ((l ++ [t]).map fun t => lowT wear t y) = max (mxs 9000 (l.map fun t => lowT wear t y)) (lowT wear t y) := by
    rw [List.map_append, List.map_singleton, mxs_snoc]
  have hge := mxs_ge (l.map fun t => lowT wear t y) 9000
  have hat := mxs_at (l.map fun t => lowT wear t y) 9000
  have hmm : ∀ u ∈ l, lowT wear u y ≤ mxs 9000 (l.map fun t => lowT wear t y) := fun u hu => mxs_mem _ _ _ (List.mem_map.2 ⟨u, hu, rfl⟩)
  unfold lowNo
  rw [e1]
  unfold loStep
  generalize hL : mxs 9000 (l.map fun t => lowT wear t y) = L at *
  generalize hA : lowT wear t y = a at *
  by_cases h1 : L < a
  · rw [if_pos h1, show max L a = a from by omega, if_neg (by omega), List.filter_append, filter_none (fun u hu => by have := hmm u hu; omega)]
    simp only [hA, List.nil_append, List.filter_cons, List.filter_nil, decide_true, if_true, List.map_cons, List.map_nil, mnL_one]
  · rw [if_neg h1, show max L a = L from by omega]
    by_cases h2 : a = L ∧ 9000 < a
    · obtain ⟨h2, h3⟩ := h2
      rw [if_pos ⟨h2, h3⟩, if_neg (by omega), if_neg (by omega), List.filter_append]
      have : (l.filter fun t => decide (lowT wear t y = L)).map (·.num) ≠ [] := by
        rcases hat with e | e
        · omega
        · obtain ⟨u, hu, e2⟩ := List.mem_map.1 e
          intro e3
          have : u ∈ (l.filter fun t => decide (lowT wear t y = L)) := List.mem_filter.2 ⟨hu, by simpa using e2⟩
          rw [List.map_eq_nil_iff.1 e3] at this
          simp at this
      rw [List.map_append, show ([t].filter fun t => decide (lowT wear t y = L)) = [t] from by simp [hA, h2], List.map_singleton, mnL_snoc this]
    · rw [if_neg h2]
      by_cases h3 : L = 9000
      · rw [if_pos h3, if_pos h3]
      · rw [if_neg h3, if_neg h3, List.filter_append, show ([t].filter fun t => decide (lowT wear t y = L)) = [] from by simp [hA]; omega, List.append_nil]
theorem hiStep_snoc (wear y : Int) (l : List Th) (t : Th) :
    hiStep wear y (mns 12000 (l.map fun t => highT wear t y), topNo wear y l) t = (mns 12000 ((l ++ [t]).map fun t => highT wear t y), topNo wear y (l ++ [t])) := by
  have e1 : mns 12000 ((l ++ [t]).map fun t => highT wear t y) = min (mns 12000 (l.map fun t => highT wear t y)) (highT wear t y) := by
    rw [List.map_append, List.map_singleton, mns_snoc]
  have hge := mns_le (l.map fun t => highT wear t y) 12000
  have hat := mns_at (l.map fun t => highT wear t y) 12000
  have hmm : ∀ u ∈ l, mns 12000 (l.map fun t => highT wear t y) ≤ highT wear u y := fun u hu => mns_mem _ _ _ (List.mem_map.2 ⟨u, hu, rfl⟩)
  unfold topNo
  rw [e1]
  unfold hiStep
  generalize hL : mns 12000 (l.map fun t => highT wear t y) = L at *
  generalize hA : highT wear t y = a at *
  by_cases h1 : a < L
  · rw [if_pos h1, show min L a = a from by omega, if_neg (by omega), List.filter_append, filter_none (fun u hu => by have := hmm u hu; omega)]
    simp only [hA, List.nil_append, List.filter_cons, List.filter_nil, decide_true, if_true, List.map_cons, List.map_nil, mnL_one]
  · rw [if_neg h1, show min L a = L from by omega]
    by_cases h2 : a = L ∧ a < 12000
    · obtain ⟨h2, h3⟩ := h2
      rw [if_pos ⟨h2, h3⟩, if_neg (by omega), if_neg (by omega), List.filter_append]
      have : (l.filter fun t => decide (highT wear t y = L)).map (·.num) ≠ [] := by
        rcases hat with e | e
        · omega
        · obtain ⟨u, hu, e2⟩ := List.mem_map.1 e
          intro e3
          have : u ∈ (l.filter fun t => decide (highT wear t y = L)) := List.mem_filter.2 ⟨hu, by simpa using e2⟩
          rw [List.map_eq_nil_iff.1 e3] at this
          simp at this
      rw [List.map_append, show ([t].filter fun t => decide (highT wear t y = L)) = [t] from by simp [hA, h2], List.map_singleton, mnL_snoc this]
    · rw [if_neg h2]
      by_cases h3 : L = 12000
      · rw [if_pos h3, if_pos h3]
      · rw [if_neg h3, if_neg h3, List.filter_append, show ([t].filter fun t => decide (highT wear t y = L)) = [] from by simp [hA]; omega, List.append_nil]
theorem lowNo_perm {wear y : Int} {l m : List Th} (h : l.Perm m) : lowNo wear y l = lowNo wear y m := by
  unfold lowNo
  rw [mxs_perm 9000 (h.map fun t => lowT wear t y)]
  rw [mnL_perm ((h.filter _).map (·.num))]
theorem topNo_perm {wear y : Int} {l m : List Th} (h : l.Perm m) : topNo wear y l = topNo wear y m := by
  unfold topNo
  rw [mns_perm 12000 (h.map fun t => highT wear t y)]
  rw [mnL_perm ((h.filter _).map (·.num))]
end Go.Proofs.YtcejmfgbfdhflaaGreat
