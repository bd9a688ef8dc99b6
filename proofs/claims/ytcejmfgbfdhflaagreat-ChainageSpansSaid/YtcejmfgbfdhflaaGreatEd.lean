import Derived.Test.YtcejmfgbfdhflaaGreatEc
import Derived.Test.YtcejmfgbfdhflaaGreatQe
import Derived.WalkKit
import Derived.LoopTactic
import Derived.WalkSpells
import Derived.WalkLawsBesides
import Derived.Lib.Hide
import Derived.BigQuiet
import Derived.IntWalk
import Derived.Deep.DeepMust
import Derived.WalkSmall
import Derived.StillTailTactics
import Derived.Deep.RegionLaw
import Derived.Deep.RegionHeld3
import Derived.Deep.QuietTactic
namespace Go.Proofs.YtcejmfgbfdhflaaGreat
open Go.RowKit Go.BigFrame Go.Sort
attribute [local go_sem] World.cell?_alloc_some
def mkL (c : Ch) (lo : Int) : List Th := if lo = c.year then [c.th] else []
def inP (c : Ch) (lo hi : Int) (p : Th × Int) : Option Th := if p.2 = c.id ∧ lo ≤ p.1.year ∧ p.1.year ≤ hi then some p.1 else none
def inK (x : WA) (c : Ch) (lo hi : Int) (k : Nat) : List Th := (((thL x).zip (chL x)).take k).filterMap (inP c lo hi)
/-- The things that lie in a spell, in the specification's order. -/
def inL (x : WA) (c : Ch) (lo hi : Int) : List Th := mkL c lo ++ inK x c lo hi (x.ps.length + x.rs.length)
theorem inK_step {x : WA} {c : Ch} {lo hi : Int} {k : Nat} (h1 : k < (thL x).length) (h2 : k < (chL x).length) :
    inK x c lo hi (k + 1) = inK x c lo hi k ++ (inP c lo hi ((thL x)[k], (chL x)[k])).toList := by
  unfold inK
  have hz : k < ((thL x).zip (chL x)).length := by rw [List.length_zip]; omega
  rw [List.take_succ_eq_append_getElem hz, List.filterMap_append, List.getElem_zip]
  congr 1
def inF (c : Ch) (lo hi : Int) (p : Pf) : Bool := p.ch == c.id && (decide (lo ≤ p.year) && decide (p.year ≤ hi))
theorem inP_map (c : Ch) (lo hi : Int) : ∀ l : List Pf, (l.map fun p => (p.th, p.ch)).filterMap (inP c lo hi) = (l.filter (inF c lo hi)).map Pf.th
  | [] => rfl
  | p :: l => by
    have ih := inP_map c lo hi l
    rw [List.map_cons, List.filterMap_cons, List.filter_cons, ih]
    by_cases h : p.ch = c.id ∧ lo ≤ p.year ∧ p.year ≤ hi
    · have h2 : inF c lo hi p = true := by simp [inF, h]
      have h3 : inP c lo hi (p.th, p.ch) = some p.th := if_pos h
      rw [h2, h3]; rfl
    · have h2 : inF c lo hi p = false := by
        rw [Bool.eq_false_iff]; intro e; simp [inF] at e; exact h e
      have h3 : inP c lo hi (p.th, p.ch) = none := if_neg h
      rw [h2, h3]; rfl
theorem inL_eq (x : WA) (c : Ch) (lo hi : Int) : inL x c lo hi = mkL c lo ++ ((x.ps.filter (inF c lo hi)).map Pf.th ++ (x.rs.filter (inF c lo hi)).map Pf.th) := by
  have hz : (thL x).zip (chL x) = (x.ps.map fun p => (p.th, p.ch)) ++ (x.rs.map fun p => (p.th, p.ch)) := by
    unfold thL chL
    rw [List.zip_append (by simp), List.zip_map', List.zip_map']
  unfold inL inK
  rw [List.take_of_length_le (by rw [hz]; simp), hz, List.filterMap_append, inP_map, inP_map]
theorem filter_one {ts : List Th} {ix : Nat} {g : Th → Bool} (hix : ix < ts.length) (h : ∀ j, (hj : j < ts.length) → (g ts[j] = true ↔ j = ix)) : ts.filter g = [ts[ix]] := by
  have e : ts = ts.take ix ++ ts[ix] :: ts.drop (ix + 1) := by
    rw [List.getElem_cons_drop, List.take_append_drop]
  have h1 : (ts.take ix).filter g = [] := by
    rw [List.filter_eq_nil_iff]
    intro t ht hg
    obtain ⟨j, hj, rfl⟩ := List.getElem_of_mem ht
    rw [List.length_take] at hj
    rw [List.getElem_take] at hg
    have := (h j (by omega)).1 hg
    omega
  have h2 : (ts.drop (ix + 1)).filter g = [] := by
    rw [List.filter_eq_nil_iff]
    intro t ht hg
    obtain ⟨j, hj, rfl⟩ := List.getElem_of_mem ht
    rw [List.length_drop] at hj
    rw [List.getElem_drop] at hg
    have := (h _ (by omega)).1 hg
    omega
  have h3 : g ts[ix] = true := (h ix hix).2 rfl
  generalize hv : ts[ix] = v at *
  rw [e, List.filter_append, h1, List.filter_cons, h3, if_pos rfl, h2]
  rfl
/-- What lies in a spell is what the program finds, in another order. -/
theorem inL_perm {x : WA} {c : Ch} {y : Int} (hw : OkW x) (hc : OkC x c) (hy : c.year ≤ y) : (inL x c (spO x c y).lo (spO x c y).hi).Perm (spO x c y).ths := by
  have hix := ix_lt (x := x) hy
  have hpm : (tsO x c).Perm (begs x.rs c) := srtB_perm _
  have hup : ((tsO x c).map (·.year)).Pairwise (fun a b => a ≤ b) := by rw [List.pairwise_map]; exact srtB_up _
  have hsc := fun y => sorted_cnt y _ hup
  have hok := begs_ok hc
  have hne := begs_ne hw hc
  have hnd : (tsO x c).Pairwise fun a b => a.year ≠ b.year := (hpm.pairwise_iff (fun {a b} h => fun e => h e.symm)).2 hne
  have hupt : (tsO x c).Pairwise fun a b => a.year ≤ b.year := srtB_up _
  have hcy : ∀ p ∈ x.ps, p.ch = c.id → c.year ≤ p.year ∧ p.year ≤ 4000 := fun p hp e => ⟨(hc.py p hp e).1, (okTh_iff.1 (hc.py p hp e).2).1.2⟩
  have e1 : (spO x c y).lo = ((tsO x c).getD (ixO x c y) dTh).year := rfl
  have e2 : (spO x c y).hi = hiP (tsO x c) (ixO x c y) := rfl
  have e3 : (spO x c y).ths = (tsO x c).getD (ixO x c y) dTh :: (x.ps.filter fun p => p.ch == c.id && decide (cntU ((tsO x c).map (·.year)) p.year = ixO x c y + 1)).map Pf.th := rfl
  rw [e1, e2, e3, inL_eq]
  have hokt : ∀ j, (h : j < (tsO x c).length) → c.year ≤ (tsO x c)[j].year ∧ (tsO x c)[j].year ≤ 4000 := fun j h => by
    have := hok _ (hpm.subset (List.getElem_mem h))
    exact ⟨this.2, (okTh_iff.1 this.1).1.2⟩
  unfold hiP
  generalize tsO x c = ts at *
  generalize ixO x c y = ix at *
  have g1 : ts.getD ix dTh = ts[ix] := by simp [List.getD, hix]
  have lt : ∀ i j, (hi : i < ts.length) → (hj : j < ts.length) → i < j → ts[i].year < ts[j].year := fun i j hi hj hij => by
    have h1 := List.pairwise_iff_getElem.1 hupt i j hi hj hij
    have h2 := List.pairwise_iff_getElem.1 hnd i j hi hj hij
    omega
  have yr : ∀ y j, (h : j < ts.length) → (ts[j].year ≤ y ↔ j < cntU (ts.map (·.year)) y) := fun y j h => by
    have := hsc y j (by simpa using h)
    rwa [List.getElem_map] at this
  have cle : ∀ y, cntU (ts.map (·.year)) y ≤ ts.length := fun y => by simpa using cntU_le (ts.map (·.year)) y
  rw [g1]
  obtain ⟨H, hH⟩ : ∃ H, (if ix + 1 < ts.length then (ts.getD (ix + 1) dTh).year - 1 else 4000) = H := ⟨_, rfl⟩
  have hH1 : ∀ h : ix + 1 < ts.length, H = ts[ix + 1].year - 1 := fun h => by
    rw [← hH, if_pos h, show ts.getD (ix + 1) dTh = ts[ix + 1] from by simp [List.getD, h]]
  have hH2 : ¬ ix + 1 < ts.length → H = 4000 := fun h => by rw [← hH, if_neg h]
  rw [hH]
  have hlH : ts[ix].year ≤ H := by
    by_cases h : ix + 1 < ts.length
    · have := lt ix (ix + 1) hix h (by omega); rw [hH1 h]; omega
    · rw [hH2 h]; exact (hokt ix hix).2
  -- the proofs
  have hP : x.ps.filter (inF c ts[ix].year H) = x.ps.filter fun p => p.ch == c.id && decide (cntU (ts.map (·.year)) p.year = ix + 1) := by
    apply List.filter_congr
    intro p hp
    unfold inF
    by_cases hch : p.ch = c.id
    · obtain ⟨k1, k2⟩ := hcy p hp hch
      rw [hch]
      simp only [beq_self_eq_true, Bool.true_and]
      rw [← Bool.decide_and, decide_eq_decide]
      have a1 := yr p.year ix hix
      have a3 := cle p.year
      constructor
      · rintro ⟨h1, h2⟩
        have := a1.1 h1
        by_cases h : ix + 1 < ts.length
        · have a2 := yr p.year (ix + 1) h
          have := hH1 h
          omega
        · omega
      · intro h1
        refine ⟨a1.2 (by omega), ?_⟩
        by_cases h : ix + 1 < ts.length
        · have a2 := yr p.year (ix + 1) h
          have := hH1 h
          omega
        · rw [hH2 h]; exact k2
    · have : (p.ch == c.id) = false := by simpa using hch
      rw [this]; rfl
  rw [hP]
  generalize (x.ps.filter fun p => p.ch == c.id && decide (cntU (ts.map (·.year)) p.year = ix + 1)).map Pf.th = P
  -- the making and the repairs
  have hR : mkL c ts[ix].year ++ (x.rs.filter (inF c ts[ix].year H)).map Pf.th = (begs x.rs c).filter fun t => decide (ts[ix].year ≤ t.year) && decide (t.year ≤ H) := by
    unfold begs mkL
    rw [List.filter_cons, List.filter_map, List.filter_filter]
    have hf : x.rs.filter (inF c ts[ix].year H) = x.rs.filter fun a => ((fun t : Th => decide (ts[ix].year ≤ t.year) && decide (t.year ≤ H)) ∘ Pf.th) a && a.ch == c.id := by
      apply List.filter_congr
      intro r _
      show (r.ch == c.id && (decide (ts[ix].year ≤ r.year) && decide (r.year ≤ H))) = ((decide (ts[ix].year ≤ r.year) && decide (r.year ≤ H)) && r.ch == c.id)
      rw [Bool.and_comm]
    rw [hf]
    have k1 := (hokt ix hix).1
    by_cases h : ts[ix].year = c.year
    · have : (decide (ts[ix].year ≤ c.th.year) && decide (c.th.year ≤ H)) = true := by
        show (decide (ts[ix].year ≤ c.year) && decide (c.year ≤ H)) = true
        simp; omega
      rw [this, if_pos h, if_pos rfl]; rfl
    · have : (decide (ts[ix].year ≤ c.th.year) && decide (c.th.year ≤ H)) = false := by
        show (decide (ts[ix].year ≤ c.year) && decide (c.year ≤ H)) = false
        simp; omega
      rw [this, if_neg h, if_neg (by decide)]; rfl
  have hT : (ts.filter fun t => decide (ts[ix].year ≤ t.year) && decide (t.year ≤ H)) = [ts[ix]] := by
    refine filter_one hix fun j hj => ?_
    rw [Bool.and_eq_true, decide_eq_true_eq, decide_eq_true_eq]
    constructor
    · rintro ⟨h1, h2⟩
      rcases Nat.lt_trichotomy j ix with h | h | h
      · have := lt j ix hj hix h; omega
      · exact h
      · have h3 : ix + 1 < ts.length := by omega
        have h4 := hH1 h3
        rcases Nat.lt_or_ge (ix + 1) j with h5 | h5
        · have := lt (ix + 1) j h3 hj h5; omega
        · obtain rfl : j = ix + 1 := by omega
          omega
    · rintro rfl
      exact ⟨Int.le_refl _, hlH⟩
  have hRT : (mkL c ts[ix].year ++ (x.rs.filter (inF c ts[ix].year H)).map Pf.th).Perm [ts[ix]] := by
    rw [hR, ← hT]
    exact (hpm.filter _).symm
  generalize (x.rs.filter (inF c ts[ix].year H)).map Pf.th = R at *
  generalize mkL c ts[ix].year = M at *
  have q1 : (M ++ (P ++ R)).Perm ((M ++ R) ++ P) := by
    rw [List.append_assoc]
    exact (List.perm_append_comm (l₁ := P) (l₂ := R)).append_left M
  exact q1.trans (hRT.append_right P)
end Go.Proofs.YtcejmfgbfdhflaaGreat
