import Derived.Test.YtcejmfgbfdhflaaGreatQd
import Derived.WalkKit
import Derived.LoopTactic
import Derived.WalkSpells
import Derived.WalkLawsBesides
import Derived.Lib.Hide
import Derived.BigQuiet
import Derived.IntWalk
import Derived.Deep.DeepMust
import Derived.WalkSmall
import Derived.StillTailTactics
import Derived.Deep.RegionLaw
import Derived.Deep.RegionHeld3
import Derived.Deep.QuietTactic
namespace Go.Proofs.YtcejmfgbfdhflaaGreat
open Go.RowKit Go.BigFrame Go.Sort
attribute [local go_sem] World.cell?_alloc_some
/-- The first error of Distance. -/
def erF (x : WA) : List Ms → Int
  | [] => 0
  | m :: l => if dsE x m = 0 then erF x l else dsE x m
def smLo (x : WA) : List Ms → Int
  | [] => 0
  | m :: l => dsLo x m + smLo x l
def smHi (x : WA) : List Ms → Int
  | [] => 0
  | m :: l => dsHi x m + smHi x l
/-- What Total returns. -/
def ttE (x : WA) (l : List Ms) : Int := if chk x ≠ 0 then chk x else if 100 < l.length then 2 else erF x l
def ttLo (x : WA) (l : List Ms) : Int := if ttE x l = 0 then smLo x l else 0
def ttHi (x : WA) (l : List Ms) : Int := if ttE x l = 0 then smHi x l else 0
theorem erF_app (x : WA) : ∀ (l m : List Ms), erF x (l ++ m) = if erF x l = 0 then erF x m else erF x l
  | [], m => by simp [erF]
  | a :: l, m => by
    have ih := erF_app x l m
    by_cases h : dsE x a = 0
    · simp [erF, h, ih]
    · simp [erF, h]
theorem smLo_app (x : WA) : ∀ (l m : List Ms), smLo x (l ++ m) = smLo x l + smLo x m
  | [], m => by simp [smLo]
  | a :: l, m => by
    have ih := smLo_app x l m
    simp only [List.cons_append, smLo, ih]; omega
theorem smHi_app (x : WA) : ∀ (l m : List Ms), smHi x (l ++ m) = smHi x l + smHi x m
  | [], m => by simp [smHi]
  | a :: l, m => by
    have ih := smHi_app x l m
    simp only [List.cons_append, smHi, ih]; omega
theorem okMs_bd {cs : List Ch} {m : Ms} (e : okMs cs m = true) : (0 ≤ m.chains ∧ m.chains ≤ 100000) ∧ (0 ≤ m.links ∧ m.links ≤ 99) ∧ 0 ≤ m.slack ∧ m.slack ≤ 100000 := by
  unfold okMs at e
  simp only [Bool.and_eq_true, inB_iff] at e
  exact ⟨e.2.2.1, e.2.2.2.1, e.2.2.2.2⟩
theorem dsE_zero {x : WA} {m : Ms} (h : dsE x m = 0) : chk x = 0 ∧ okMs x.cs m = true ∧ agE x m.ch m.year = 0 := by
  unfold dsE at h
  by_cases h1 : chk x = 0
  · rw [if_neg (by simpa using h1)] at h
    cases h2 : okMs x.cs m with
    | false => rw [h2] at h; simp at h
    | true => rw [h2] at h; exact ⟨h1, rfl, by simpa using h⟩
  · rw [if_pos h1] at h; exact absurd h h1
theorem ds_bd (x : WA) (m : Ms) : (0 ≤ dsLo x m ∧ dsLo x m ≤ 12200000) ∧ 0 ≤ dsHi x m ∧ dsHi x m ≤ 12200000 := by
  unfold dsLo dsHi
  by_cases h : dsE x m = 0
  · rw [if_pos h, if_pos h]
    obtain ⟨h1, h2, h3⟩ := dsE_zero h
    obtain ⟨⟨a1, a2⟩, ⟨b1, b2⟩, c1, c2⟩ := okMs_bd h2
    obtain ⟨⟨d1, d2⟩, e1, e2⟩ := lg_bd h3
    have k1 : 0 ≤ max 0 (lkN m - m.slack) * lgLo x m.ch m.year ∧ max 0 (lkN m - m.slack) * lgLo x m.ch m.year ≤ 10000099 * 12000 :=
      ⟨Int.mul_nonneg (by omega) (by omega), Int.mul_le_mul (by unfold lkN; omega) d2 (by omega) (by decide)⟩
    have k2 : 0 ≤ (lkN m + m.slack) * lgHi x m.ch m.year ∧ (lkN m + m.slack) * lgHi x m.ch m.year ≤ 10100099 * 12000 :=
      ⟨Int.mul_nonneg (by unfold lkN; omega) (by omega), Int.mul_le_mul (by unfold lkN; omega) e2 (by omega) (by decide)⟩
    generalize max 0 (lkN m - m.slack) * lgLo x m.ch m.year = u at *
    generalize (lkN m + m.slack) * lgHi x m.ch m.year = v at *
    omega
  · rw [if_neg h, if_neg h]; decide
theorem sm_bd (x : WA) : ∀ l : List Ms, (0 ≤ smLo x l ∧ smLo x l ≤ 12200000 * (l.length : Int)) ∧ 0 ≤ smHi x l ∧ smHi x l ≤ 12200000 * (l.length : Int)
  | [] => by simp [smLo, smHi]
  | m :: l => by
    have ih := sm_bd x l
    have h := ds_bd x m
    simp only [smLo, smHi, List.length_cons]
    omega
/-- The sums add up. -/
theorem tt_adds {x : WA} {a b : List Ms} (ha : a.length ≤ 20) (hb : b.length ≤ 20) : (ttE x (a ++ b) = 0 ↔ ttE x a = 0 ∧ ttE x b = 0) ∧ (ttE x (a ++ b) = 0 → ttLo x (a ++ b) = ttLo x a + ttLo x b ∧ ttHi x (a ++ b) = ttHi x a + ttHi x b) := by
  have q1 : ∀ l : List Ms, l.length ≤ 100 → chk x = 0 → ttE x l = erF x l := fun l hl hk => by
    unfold ttE; rw [if_neg (by simpa using hk), if_neg (by omega)]
  have q2 : ∀ l : List Ms, chk x ≠ 0 → ttE x l ≠ 0 := fun l hk => by
    unfold ttE; rw [if_pos hk]; exact hk
  have h : ttE x (a ++ b) = 0 ↔ ttE x a = 0 ∧ ttE x b = 0 := by
    by_cases hk : chk x = 0
    · rw [q1 a (by omega) hk, q1 b (by omega) hk, q1 (a ++ b) (by simp; omega) hk, erF_app]
      by_cases h1 : erF x a = 0 <;> simp [h1]
    · have k1 := q2 a hk
      have k2 := q2 b hk
      have k3 := q2 (a ++ b) hk
      simp [k1, k3]
  refine ⟨h, fun e => ?_⟩
  obtain ⟨e1, e2⟩ := h.1 e
  unfold ttLo ttHi
  rw [if_pos e, if_pos e, if_pos e1, if_pos e1, if_pos e2, if_pos e2, smLo_app, smHi_app]
  exact ⟨rfl, rfl⟩
/-- With a greater slack a distance is not narrower. -/
theorem ds_more {x : WA} {m : Ms} {d : Int} (h : dsE x m = 0) (hd : 0 ≤ d) (hm : m.slack + d ≤ 100000) :
    dsE x { m with slack := m.slack + d } = 0 ∧ dsLo x { m with slack := m.slack + d } ≤ dsLo x m ∧ dsHi x m ≤ dsHi x { m with slack := m.slack + d } := by
  obtain ⟨h1, h2, h3⟩ := dsE_zero h
  obtain ⟨⟨a1, a2⟩, ⟨b1, b2⟩, c1, c2⟩ := okMs_bd h2
  obtain ⟨⟨d1, d2⟩, e1, e2⟩ := lg_bd h3
  have k2 : okMs x.cs { m with slack := m.slack + d } = true := by
    unfold okMs at h2 ⊢
    simp only [Bool.and_eq_true, inB_iff] at h2 ⊢
    refine ⟨h2.1, h2.2.1, h2.2.2.1, h2.2.2.2.1, ?_, hm⟩
    show 0 ≤ m.slack + d
    omega
  have k : dsE x { m with slack := m.slack + d } = 0 := by
    unfold dsE
    rw [if_neg (by simpa using h1), k2, if_neg (by simp)]; exact h3
  refine ⟨k, ?_, ?_⟩
  · unfold dsLo
    rw [if_pos h, if_pos k]
    show max 0 (lkN m - (m.slack + d)) * lgLo x m.ch m.year / 10000 ≤ _
    refine Int.ediv_le_ediv (by decide) (Int.mul_le_mul_of_nonneg_right (by omega) (by omega))
  · unfold dsHi
    rw [if_pos h, if_pos k]
    show _ ≤ ((lkN m + (m.slack + d)) * lgHi x m.ch m.year + 9999) / 10000
    have : (lkN m + m.slack) * lgHi x m.ch m.year ≤ (lkN m + (m.slack + d)) * lgHi x m.ch m.year := Int.mul_le_mul_of_nonneg_right (by omega) (by omega)
    exact Int.ediv_le_ediv (by decide) (by omega)
end Go.Proofs.YtcejmfgbfdhflaaGreat
