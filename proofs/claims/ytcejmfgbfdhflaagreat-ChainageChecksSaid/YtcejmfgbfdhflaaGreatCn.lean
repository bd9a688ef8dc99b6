import Derived.Test.YtcejmfgbfdhflaaGreatCg
import Derived.Test.YtcejmfgbfdhflaaGreatCk
import Derived.WalkKit
import Derived.LoopTactic
import Derived.WalkSpells
import Derived.WalkLawsBesides
import Derived.Lib.Hide
import Derived.BigQuiet
import Derived.IntWalk
import Derived.Deep.DeepMust
import Derived.WalkSmall
import Derived.StillTailTactics
import Derived.Deep.RegionLaw
import Derived.Deep.RegionHeld3
import Derived.Deep.QuietTactic
namespace Go.Proofs.YtcejmfgbfdhflaaGreat
open Go.RowKit Go.Shelf Go.BigFrame Go.Sort
attribute [local go_sem] World.cell?_alloc_some
/-- What is known of checked works. -/
structure OkW (x : WA) : Prop where
  c20 : x.cs.length ≤ 20
  n60 : x.ps.length + x.rs.length ≤ 60
  ch : ∀ c ∈ x.cs, okCh c = true
  pf : ∀ p ∈ x.ps, okPf x.cs p = true
  rp : ∀ r ∈ x.rs, okRp x.cs r = true
  ry : x.rs.Pairwise fun a b => ¬ (a.ch = b.ch ∧ a.year = b.year)
theorem chkCs_ok : ∀ (l pre : List Ch), chkCs pre l = 0 → ∀ c ∈ l, okCh c = true
  | [], _, _, c, hc => by simp at hc
  | d :: l, pre, h, c, hc => by
    unfold chkCs at h
    by_cases h1 : okCh d = false
    · rw [if_pos h1] at h; cases h
    · rw [if_neg h1] at h
      by_cases h2 : (chF pre d.id).isSome = true
      · rw [if_pos h2] at h; cases h
      · rw [if_neg h2] at h
        rcases List.mem_cons.1 hc with rfl | hc
        · simpa using h1
        · exact chkCs_ok l _ h c hc
theorem chkPs_ok (cs : List Ch) : ∀ (l : List Pf) (pre : List Int), chkPs cs pre l = 0 → ∀ p ∈ l, okPf cs p = true
  | [], _, _, c, hc => by simp at hc
  | d :: l, pre, h, c, hc => by
    unfold chkPs at h
    by_cases h1 : okPf cs d = false
    · rw [if_pos h1] at h; cases h
    · rw [if_neg h1] at h
      by_cases h2 : pre.contains d.id = true
      · rw [if_pos h2] at h; cases h
      · rw [if_neg h2] at h
        rcases List.mem_cons.1 hc with rfl | hc
        · simpa using h1
        · exact chkPs_ok cs l _ h c hc
theorem chkRs_ok (cs : List Ch) : ∀ (l : List Pf) (ids : List Int) (pre : List Pf), chkRs cs ids pre l = 0 → (∀ p ∈ l, okRp cs p = true) ∧ (∀ p ∈ l, ∀ q ∈ pre, ¬ (q.ch = p.ch ∧ q.year = p.year)) ∧ l.Pairwise fun a b => ¬ (a.ch = b.ch ∧ a.year = b.year)
  | [], _, _, _ => ⟨by simp, by simp, List.Pairwise.nil⟩
  | d :: l, ids, pre, h => by
    unfold chkRs at h
    by_cases h1 : okRp cs d = false
    · rw [if_pos h1] at h; cases h
    · rw [if_neg h1] at h
      by_cases h2 : (ids.contains d.id || repB pre d) = true
      · rw [if_pos h2] at h; cases h
      · rw [if_neg h2] at h
        obtain ⟨k1, k2, k3⟩ := chkRs_ok cs l _ _ h
        have h3 : ∀ q ∈ pre, ¬ (q.ch = d.ch ∧ q.year = d.year) := fun q hq e => h2 (by
          rw [Bool.or_eq_true]
          right
          unfold repB
          rw [List.any_eq_true]
          exact ⟨q, hq, by simp [e.1, e.2]⟩)
        refine ⟨fun p hp => ?_, fun p hp q hq => ?_, List.pairwise_cons.2 ⟨fun p hp => ?_, k3⟩⟩
        · rcases List.mem_cons.1 hp with rfl | hp
          · simpa using h1
          · exact k1 p hp
        · rcases List.mem_cons.1 hp with rfl | hp
          · exact h3 q hq
          · exact k2 p hp q (List.mem_append_left _ hq)
        · exact k2 p hp d (List.mem_append_right _ (List.mem_singleton_self d))
theorem okW_of {x : WA} (h : chk x = 0) : OkW x := by
  unfold chk at h
  by_cases h1 : (decide (20 < x.cs.length) || decide (60 < x.ps.length + x.rs.length)) = true
  · rw [if_pos h1] at h; cases h
  · rw [if_neg h1] at h
    by_cases h2 : chkCs [] x.cs = 0
    · rw [if_neg (by simpa using h2)] at h
      by_cases h3 : chkPs x.cs [] x.ps = 0
      · rw [if_neg (by simpa using h3)] at h
        obtain ⟨k1, _, k3⟩ := chkRs_ok _ _ _ _ h
        simp at h1
        exact ⟨by omega, by omega, chkCs_ok _ _ h2, chkPs_ok _ _ _ h3, k1, k3⟩
      · rw [if_pos h3] at h; exact absurd h h3
    · rw [if_pos h2] at h; exact absurd h h2
theorem chF_mem {l : List Ch} {id : Int} {c : Ch} (h : chF l id = some c) : c ∈ l ∧ c.id = id := by
  unfold chF at h
  exact ⟨List.mem_of_find?_eq_some h, by have := List.find?_some h; simpa using this⟩
theorem chOr_some {l : List Ch} {id : Int} {c : Ch} (h : chF l id = some c) : chOr l id = c := by unfold chOr; rw [h]; rfl
theorem okCh_iff {c : Ch} : okCh c = true ↔ okId c.id = true ∧ (0 ≤ c.year ∧ c.year ≤ 4000) ∧ (c.lo ≤ c.hi ∧ 9000 ≤ c.lo ∧ c.hi ≤ 12000) ∧ (0 ≤ c.wear ∧ c.wear ≤ 1000) := by
  simp [okCh, inB, okLong, insB]
theorem okPf_iff {cs : List Ch} {p : Pf} : okPf cs p = true ↔ (chF cs p.ch).isSome = true ∧ okId p.id = true ∧ ((chOr cs p.ch).year ≤ p.year ∧ p.year ≤ 4000) ∧ (p.lo ≤ p.hi ∧ 9000 ≤ p.lo ∧ p.hi ≤ 12000) := by
  simp [okPf, inB, okLong, insB]
theorem okRp_iff {cs : List Ch} {p : Pf} : okRp cs p = true ↔ (chF cs p.ch).isSome = true ∧ okId p.id = true ∧ ((chOr cs p.ch).year ≤ p.year ∧ p.year ≤ 4000) ∧ (chOr cs p.ch).year < p.year ∧ (p.lo ≤ p.hi ∧ 9000 ≤ p.lo ∧ p.hi ≤ 12000) := by
  simp [okRp, inB, okLong, insB]
/-- What is known of a chain of checked works. -/
structure OkC (x : WA) (c : Ch) : Prop where
  ok : okCh c = true
  py : ∀ p ∈ x.ps, p.ch = c.id → c.year ≤ p.year ∧ okTh p.th = true
  rb : ∀ r ∈ x.rs, r.ch = c.id → c.year < r.year ∧ okTh r.th = true
theorem okC_of {x : WA} (h : OkW x) {id : Int} {c : Ch} (hc : chF x.cs id = some c) : OkC x c := by
  obtain ⟨h1, h2⟩ := chF_mem hc
  have hk := h.ch c h1
  have hk2 := okCh_iff.1 hk
  refine ⟨hk, fun p hp e => ?_, fun p hp e => ?_⟩
  · have k := okPf_iff.1 (h.pf p hp)
    rw [e, h2, chOr_some hc] at k
    exact ⟨k.2.2.1.1, okTh_iff.2 ⟨⟨by show 0 ≤ p.year; omega, k.2.2.1.2⟩, k.2.2.2⟩⟩
  · have k := okRp_iff.1 (h.rp p hp)
    rw [e, h2, chOr_some hc] at k
    exact ⟨k.2.2.2.1, okTh_iff.2 ⟨⟨by show 0 ≤ p.year; omega, k.2.2.1.2⟩, k.2.2.2.2⟩⟩
theorem begs_ok {x : WA} {c : Ch} (h : OkC x c) : ∀ t ∈ begs x.rs c, okTh t = true ∧ c.year ≤ t.year := by
  intro t ht
  unfold begs at ht
  rcases List.mem_cons.1 ht with rfl | ht
  · have := okCh_iff.1 h.ok
    exact ⟨okTh_iff.2 ⟨this.2.1, this.2.2.1⟩, Int.le_refl _⟩
  · obtain ⟨r, hr, rfl⟩ := List.mem_map.1 ht
    obtain ⟨h1, h2⟩ := List.mem_filter.1 hr
    obtain ⟨k1, k2⟩ := h.rb r h1 (by simpa using h2)
    exact ⟨k2, Int.le_of_lt k1⟩
theorem begs_ne {x : WA} {c : Ch} (hw : OkW x) (h : OkC x c) : (begs x.rs c).Pairwise fun a b => a.year ≠ b.year := by
  unfold begs
  rw [List.pairwise_cons]
  constructor
  · intro t ht
    obtain ⟨r, hr, rfl⟩ := List.mem_map.1 ht
    obtain ⟨h1, h2⟩ := List.mem_filter.1 hr
    have := (h.rb r h1 (by simpa using h2)).1
    show c.year ≠ r.year
    omega
  · rw [List.pairwise_map]
    refine (hw.ry.filter _).imp_of_mem fun {a b} ha hb hab e => ?_
    have e1 := (List.mem_filter.1 ha).2
    have e2 := (List.mem_filter.1 hb).2
    simp only [beq_iff_eq] at e1 e2
    exact hab ⟨by rw [e1, e2], e⟩
/-- Things by their years. -/
def srtB (l : List Th) : List Th := l.mergeSort fun a b => decide (a.year ≤ b.year)
theorem srtB_perm (l : List Th) : (srtB l).Perm l := List.mergeSort_perm _ _
theorem srtB_up (l : List Th) : (srtB l).Pairwise fun a b => a.year ≤ b.year := by
  have := List.pairwise_mergeSort (le := fun a b : Th => decide (a.year ≤ b.year)) (fun a b c h1 h2 => by simp only [decide_eq_true_eq] at *; omega) (fun a b => by simp only [Bool.or_eq_true, decide_eq_true_eq]; omega) l
  exact this.imp fun h => by simpa using h
theorem pairwise_mem_eq {l : List Th} (h : l.Pairwise fun a b => a.year ≠ b.year) : ∀ a ∈ l, ∀ b ∈ l, a.year = b.year → a = b := by
  induction l with
  | nil => intro a ha; simp at ha
  | cons d l ih =>
    rw [List.pairwise_cons] at h
    intro a ha b hb e
    rcases List.mem_cons.1 ha with e1 | h1
    · rcases List.mem_cons.1 hb with e2 | h2
      · rw [e1, e2]
      · rw [e1] at e; exact absurd e (h.1 b h2)
    · rcases List.mem_cons.1 hb with e2 | h2
      · rw [e2] at e; exact absurd e.symm (h.1 a h1)
      · exact ih h.2 a h1 b h2 e
theorem srtB_uniq {l ts : List Th} (hne : l.Pairwise fun a b => a.year ≠ b.year) (hp : ts.Perm l) (hs : ts.Pairwise fun a b => a.year ≤ b.year) : ts = srtB l := by
  refine List.Perm.eq_of_pairwise (le := fun a b : Th => a.year ≤ b.year) (fun a b ha hb h1 h2 => ?_) hs (srtB_up l) (hp.trans (srtB_perm l).symm)
  exact pairwise_mem_eq hne a (hp.subset ha) b ((srtB_perm l).subset hb) (by omega)
end Go.Proofs.YtcejmfgbfdhflaaGreat
