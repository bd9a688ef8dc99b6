import Derived.Test.YtdefpcjlbganpaaMSort
import Derived.RangeFuncNested
import Derived.RangeFuncBox
import Derived.RangeFuncBound
import Derived.RangeFuncCalls
import Derived.RangeFuncLeaves
import Derived.Shelf.Abstract
import Derived.Shelf.RegionOpen
import Derived.BigRegionIn
import Derived.Stop.RegionWithIn
import Derived.WalkKit
import Derived.OwnWalkIn
import Derived.TacticsInMore
import Derived.LoopNIn
import Derived.LoopIn
import Derived.Lib.Hide
import Derived.IntWalk
import Derived.Deep.QuietTactic
import Derived.Deep.RegionHeld3
import Derived.Deep.RegionLaw
import Derived.StillTailTactics
import Derived.WalkSmall
import Derived.Deep.DeepMust
import Derived.BigQuiet
import Derived.WalkLawsBesides
import Derived.WalkSpells
import Derived.LoopTactic
import Derived.Test.YtdefpcjlbganpaaMDist
import Derived.Lib.SliceRun
import Derived.Lib.SlicesCompact
import Derived.Deep.LoopGhost
import Derived.Deep.DeepCutAuto
import Derived.Deep.CutBlock
import Derived.Test.YtdefpcjlbganpaaMCut
import Derived.Test.YtdefpcjlbganpaaMBxs
namespace Go.Proofs.Ytdefpcjlbganpaa.HM
/-- The order of points: first by x, then by y. -/
def ltP (p q : Pt) : Prop := p.x < q.x ∨ p.x = q.x ∧ p.y < q.y
def leP (p q : Pt) : Prop := p.x < q.x ∨ p.x = q.x ∧ p.y ≤ q.y
theorem leP_of {p q : Pt} : leP p q ↔ ltP p q ∨ p = q := by
  unfold leP ltP
  obtain ⟨a, b⟩ := p
  obtain ⟨c, d⟩ := q
  rw [Pt.mk.injEq]
  simp only
  omega
/-- A vector to the east, or just to the north. -/
def LP (x y : Int) : Prop := 0 < x ∨ x = 0 ∧ 0 < y
theorem lp_sub {p q : Pt} : ltP p q ↔ LP (q.x - p.x) (q.y - p.y) := by unfold ltP LP; omega
theorem lp_scal {k x y : Int} (h : LP (k * x) (k * y)) (e : LP x y) : 0 < k := by
  rcases Int.lt_or_le 0 k with hk | hk
  · exact hk
  exfalso
  rcases e with e | ⟨rfl, e⟩
  · have h1 : k * x ≤ 0 := Int.mul_nonpos_of_nonpos_of_nonneg hk (by omega)
    rcases h with h | ⟨h, h2⟩
    · omega
    · have : k = 0 := by
        rcases Int.mul_eq_zero.1 h with h | h
        · exact h
        · omega
      subst this
      omega
  · have h1 : k * y ≤ 0 := Int.mul_nonpos_of_nonpos_of_nonneg hk (by omega)
    rcases h with h | ⟨h, h2⟩ <;> omega
theorem lp_comb {α β g1 g2 f1 f2 : Int} (ha : 0 ≤ α) (hb : 0 < β) (hg : LP g1 g2) (hf : LP f1 f2) : LP (α * g1 + β * f1) (α * g2 + β * f2) := by
  have gx : 0 ≤ g1 := by rcases hg with h | h <;> omega
  have a1 : 0 ≤ α * g1 := Int.mul_nonneg ha gx
  rcases hf with h | ⟨rfl, h⟩
  · have b1 : 0 < β * f1 := Int.mul_pos hb h
    exact .inl (by omega)
  · have b1 : 0 < β * f2 := Int.mul_pos hb h
    rcases hg with h' | ⟨rfl, h'⟩
    · rcases Int.lt_or_le 0 α with h0 | h0
      · have : 0 < α * g1 := Int.mul_pos h0 h'
        exact .inl (by omega)
      · have : α = 0 := by omega
        subst this
        exact .inr ⟨by omega, by omega⟩
    · have : 0 ≤ α * g2 := Int.mul_nonneg ha (by omega)
      exact .inr ⟨by omega, by omega⟩
/-- The cross product. -/
def cx (a b c d : Int) : Int := a * d - b * c
theorem cx_id (e1 e2 f1 f2 g1 g2 : Int) : cx f1 f2 g1 g2 * e1 = cx f1 f2 e1 e2 * g1 + cx e1 e2 g1 g2 * f1 ∧ cx f1 f2 g1 g2 * e2 = cx f1 f2 e1 e2 * g2 + cx e1 e2 g1 g2 * f2 := by
  unfold cx; constructor <;> grind
theorem cx_lt {e1 e2 f1 f2 g1 g2 : Int} (he : LP e1 e2) (hf : LP f1 f2) (hg : LP g1 g2) (h1 : 0 ≤ cx f1 f2 e1 e2) (h2 : 0 < cx e1 e2 g1 g2) : 0 < cx f1 f2 g1 g2 := by
  have h := lp_comb h1 h2 hg hf
  obtain ⟨i1, i2⟩ := cx_id e1 e2 f1 f2 g1 g2
  rw [← i1, ← i2] at h
  exact lp_scal h he
theorem cx_neg {e1 e2 f1 f2 : Int} : cx f1 f2 e1 e2 = -cx e1 e2 f1 f2 := by unfold cx; grind
theorem cx_le {e1 e2 f1 f2 g1 g2 : Int} (he : LP e1 e2) (hf : LP f1 f2) (hg : LP g1 g2) (h1 : 0 ≤ cx f1 f2 e1 e2) (h2 : 0 ≤ cx e1 e2 g1 g2) : 0 ≤ cx f1 f2 g1 g2 := by
  rcases Int.lt_or_le (cx f1 f2 g1 g2) 0 with h | h
  · exfalso
    -- g × f > 0, f × e ≥ 0: then g × e > 0, against e × g ≥ 0
    have h3 : 0 < cx g1 g2 f1 f2 := by rw [cx_neg]; omega
    have h4 : 0 ≤ cx f1 f2 e1 e2 := h1
    have i := cx_id f1 f2 g1 g2 e1 e2
    have h5 := lp_comb h4 h3 hg he
    have e1' : cx f1 f2 e1 e2 * g1 + cx g1 g2 f1 f2 * e1 = cx g1 g2 e1 e2 * f1 := by unfold cx; grind
    have e2' : cx f1 f2 e1 e2 * g2 + cx g1 g2 f1 f2 * e2 = cx g1 g2 e1 e2 * f2 := by unfold cx; grind
    rw [e1', e2'] at h5
    have := lp_scal h5 hf
    rw [cx_neg] at this
    omega
  · exact h
theorem ar_cx (a b c : Pt) : ar a b c = cx (b.x - a.x) (b.y - a.y) (c.x - a.x) (c.y - a.y) := rfl
/-- Two left turns of a way in order make one. -/
theorem turn_over {a b c p : Pt} (h1 : ltP a b) (h2 : ltP b c) (h3 : ltP c p) (t1 : 0 < ar a b c) (t2 : 0 < ar b c p) : 0 < ar a b p := by
  rw [lp_sub] at h1 h2 h3
  have e1 : ar a b c = cx (b.x - a.x) (b.y - a.y) (c.x - b.x) (c.y - b.y) := by unfold ar cx; grind
  have e2 : ar b c p = cx (c.x - b.x) (c.y - b.y) (p.x - c.x) (p.y - c.y) := by unfold ar cx; grind
  have e3 : ar a b p = ar a b c + cx (b.x - a.x) (b.y - a.y) (p.x - c.x) (p.y - c.y) := by unfold ar cx; grind
  rw [e1] at t1
  rw [e2] at t2
  have := cx_lt h2 h1 h3 (by omega) t2
  rw [e3, e1]
  omega
/-- A point ahead of an edge that turns left to p lies left of the next edge. -/
theorem behind_left {s t p q : Pt} (h1 : ltP s t) (h2 : ltP t p) (h3 : ltP q t) (t1 : 0 ≤ ar s t q) (t2 : 0 < ar s t p) : 0 < ar t p q := by
  rw [lp_sub] at h1 h2 h3
  have e1 : ar s t q = cx (t.x - q.x) (t.y - q.y) (t.x - s.x) (t.y - s.y) := by unfold ar cx; grind
  have e2 : ar s t p = cx (t.x - s.x) (t.y - s.y) (p.x - t.x) (p.y - t.y) := by unfold ar cx; grind
  have e3 : ar t p q = cx (t.x - q.x) (t.y - q.y) (p.x - t.x) (p.y - t.y) := by unfold ar cx; grind
  rw [e1] at t1
  rw [e2] at t2
  rw [e3]
  exact cx_lt h1 h3 h2 t1 t2
/-- A point that lies left of an edge, to whose right p lies, lies left of the way to p. -/
theorem popped_left {t u p q : Pt} (h1 : ltP t u) (h2 : ltP t p) (h3 : ltP t q) (t1 : 0 ≤ ar t u q) (t2 : ar t u p ≤ 0) : 0 ≤ ar t p q := by
  rw [lp_sub] at h1 h2 h3
  rw [ar_cx] at *
  exact cx_le h1 h2 h3 (by rw [cx_neg]; omega) t1
/-- An edge of the hull of points. -/
def Btw (v b q : Pt) : Prop := (leP v q ∧ leP q b) ∨ (leP b q ∧ leP q v)
def Edge (S : List Pt) (v b : Pt) : Prop := v ∈ S ∧ b ∈ S ∧ v ≠ b ∧ ∀ q ∈ S, 0 ≤ ar v b q ∧ (ar v b q = 0 → Btw v b q)
theorem Edge.sub {S T : List Pt} {v b : Pt} (h : Edge S v b) (hT : ∀ q ∈ T, q ∈ S) (hv : v ∈ T) (hb : b ∈ T) : Edge T v b := ⟨hv, hb, h.2.2.1, fun q hq => h.2.2.2 q (hT q hq)⟩
theorem ltP_irr {p : Pt} : ¬ ltP p p := by unfold ltP; omega
theorem ltP_tr {p q r : Pt} (h : ltP p q) (k : ltP q r) : ltP p r := by unfold ltP at *; omega
theorem ltP_tot (p q : Pt) : ltP p q ∨ p = q ∨ ltP q p := by
  unfold ltP
  obtain ⟨a, b⟩ := p
  obtain ⟨c, d⟩ := q
  rw [Pt.mk.injEq]
  simp only
  omega
theorem leP_anti {p q : Pt} (h : leP p q) (k : leP q p) : p = q := by
  rw [leP_of] at h k
  rcases h with h | h
  · rcases k with k | k
    · exact absurd (ltP_tr h k) ltP_irr
    · exact k.symm
  · exact h
theorem leP_tr {p q r : Pt} (h : leP p q) (k : leP q r) : leP p r := by unfold leP at *; omega
theorem leP_rf (p : Pt) : leP p p := by unfold leP; omega
theorem leP_tot (p q : Pt) : leP p q ∨ leP q p := by unfold leP; omega
theorem ar_swap (a b c : Pt) : ar a c b = -ar a b c := by unfold ar; grind
theorem ar_cyc (a b c : Pt) : ar b c a = ar a b c := by unfold ar; grind
/-- The next corner is the only one. -/
theorem Edge.uniq {S : List Pt} {v b c : Pt} (h : Edge S v b) (k : Edge S v c) : b = c := by
  have h1 := h.2.2.2 c k.2.1
  have k1 := k.2.2.2 b h.2.1
  rw [ar_swap] at k1
  have z : ar v b c = 0 := by omega
  have h2 := h1.2 z
  have k2 := k1.2 (by omega)
  unfold Btw at h2 k2
  have n1 := h.2.2.1
  have n2 := k.2.2.1
  rcases h2 with ⟨h2, h3⟩ | ⟨h2, h3⟩ <;> rcases k2 with ⟨k2, k3⟩ | ⟨k2, k3⟩
  · exact leP_anti k3 h3
  · exact absurd (leP_anti h2 (leP_tr k2 k3 |> fun _ => k2 |> fun k => (leP_tr k k3))) n2
  · exact absurd (leP_anti (leP_tr k2 (leP_rf _)) (leP_tr h2 h3 |> fun _ => (leP_tr h2 h3))) n1
  · exact leP_anti h2 k2
def popA (p : Pt) : List Pt → List Pt
  | b :: a :: r => if ar a b p ≤ 0 then popA p (a :: r) else b :: a :: r
  | l => l
def chA (l : List Pt) : List Pt := l.foldl (fun st p => p :: popA p st) []
/-- A way that turns left, its last corner first, with all points on it or on its left. -/
def Good (P : Pt → Prop) : List Pt → Prop
  | [] => False
  | [a] => ∀ q, P q → leP a q
  | b :: a :: r => ltP a b ∧ (∀ q, P q → 0 ≤ ar a b q ∧ (ar a b q = 0 → leP a q ∧ leP q b)) ∧ (∀ z, r.head? = some z → 0 < ar z a b) ∧ Good P (a :: r)
theorem Good.ext {P : Pt → Prop} {p : Pt} : ∀ {r : List Pt} {a b : Pt}, Good P (b :: a :: r) → 0 < ar a b p → ltP b p → Good (fun q => P q ∨ q = p) (b :: a :: r)
  | [], a, b, ⟨h1, h2, h3, h4⟩, t, hp => by
    refine ⟨h1, ?_, h3, ?_⟩
    · rintro q (hq | rfl)
      · exact h2 q hq
      · exact ⟨by omega, fun h => by omega⟩
    · rintro q (hq | rfl)
      · exact h4 q hq
      · exact leP_of.2 (.inl (ltP_tr h1 hp))
  | z :: r, a, b, ⟨h1, h2, h3, h4⟩, t, hp => by
    refine ⟨h1, ?_, h3, ?_⟩
    · rintro q (hq | rfl)
      · exact h2 q hq
      · exact ⟨by omega, fun h => by omega⟩
    · exact Good.ext h4 (turn_over h4.1 h1 hp (h3 z rfl) t) (ltP_tr h1 hp)
theorem popA_good {P : Pt → Prop} {p : Pt} (hP : ∀ q, P q → ltP q p) : ∀ (st : List Pt) (t : Pt), st.head? = some t → (∀ q ∈ st, P q) → Good P st → (∀ q, P q → ltP t q → 0 ≤ ar t p q) → Good (fun q => P q ∨ q = p) (p :: popA p st)
  | [], t, ht, _, _, _ => by cases ht
  | [a], t, ht, hs, g, H => by
    obtain rfl : a = t := by simpa using ht
    have ha : ltP a p := hP a (hs a (by simp))
    refine ⟨ha, ?_, by simp, ?_⟩
    · rintro q (hq | rfl)
      · rcases leP_of.1 (g q hq) with h | rfl
        · exact ⟨H q hq h, fun _ => ⟨g q hq, leP_of.2 (.inl (hP q hq))⟩⟩
        · exact ⟨by unfold ar; grind, fun _ => ⟨leP_rf _, leP_of.2 (.inl ha)⟩⟩
      · exact ⟨by unfold ar; grind, fun _ => ⟨leP_of.2 (.inl ha), leP_rf _⟩⟩
    · rintro q (hq | rfl)
      · exact g q hq
      · exact leP_of.2 (.inl ha)
  | b :: a :: r, t, ht, hs, g, H => by
    obtain rfl : b = t := by simpa using ht
    obtain ⟨h1, h2, h3, h4⟩ := g
    have hb : ltP b p := hP b (hs b (by simp))
    unfold popA
    split
    · rename_i hle
      refine popA_good hP (a :: r) a rfl (fun q hq => hs q (List.mem_cons_of_mem _ hq)) h4 (fun q hq hlt => ?_)
      exact popped_left h1 (ltP_tr h1 hb) hlt (h2 q hq).1 hle
    · rename_i hgt
      have tt : 0 < ar a b p := by omega
      refine ⟨hb, ?_, ?_, Good.ext ⟨h1, h2, h3, h4⟩ tt hb⟩
      · rintro q (hq | rfl)
        · rcases ltP_tot q b with h | rfl | h
          · have := behind_left h1 hb h (h2 q hq).1 tt
            exact ⟨by omega, fun e => by omega⟩
          · exact ⟨by unfold ar; grind, fun _ => ⟨leP_rf _, leP_of.2 (.inl hb)⟩⟩
          · exact ⟨H q hq h, fun _ => ⟨leP_of.2 (.inl h), leP_of.2 (.inl (hP q hq))⟩⟩
        · exact ⟨by unfold ar; grind, fun _ => ⟨leP_of.2 (.inl hb), leP_rf _⟩⟩
      · intro z hz
        obtain rfl : a = z := by simpa using hz
        exact tt
theorem popA_sub (p : Pt) : ∀ (st : List Pt), ∀ q ∈ popA p st, q ∈ st
  | [], q, h => h
  | [a], q, h => h
  | b :: a :: r, q, h => by
    unfold popA at h
    split at h
    · exact List.mem_cons_of_mem _ (popA_sub p (a :: r) q h)
    · exact h
theorem good_congr {P Q : Pt → Prop} (h : ∀ q, P q ↔ Q q) {st : List Pt} (g : Good P st) : Good Q st := by
  have : P = Q := funext fun q => propext (h q)
  rw [← this]; exact g
theorem foldA_good : ∀ (l st : List Pt) (P : Pt → Prop) (t : Pt), st.head? = some t → (∀ q ∈ st, P q) → (∀ q, P q → leP q t) → Good P st → (t :: l).Pairwise ltP →
    Good (fun q => P q ∨ q ∈ l) (l.foldl (fun st p => p :: popA p st) st) ∧ (∀ q ∈ l.foldl (fun st p => p :: popA p st) st, P q ∨ q ∈ l) ∧ (l.foldl (fun st p => p :: popA p st) st).head? = (t :: l).getLast?
  | [], st, P, t, ht, hs, hm, g, _ => ⟨good_congr (by simp) g, by simpa using hs, by simpa using ht⟩
  | p :: l, st, P, t, ht, hs, hm, g, hl => by
    have htp : ltP t p := by rw [List.pairwise_cons] at hl; exact hl.1 p (by simp)
    have hP : ∀ q, P q → ltP q p := fun q hq => by
      rcases leP_of.1 (hm q hq) with h | rfl
      · exact ltP_tr h htp
      · exact htp
    have g' := popA_good hP st t ht hs g (fun q hq hlt => by
      rcases leP_of.1 (hm q hq) with h | rfl
      · exact absurd (ltP_tr h hlt) ltP_irr
      · exact absurd hlt ltP_irr)
    obtain ⟨r1, r2, r3⟩ := foldA_good l (p :: popA p st) (fun q => P q ∨ q = p) p rfl (by
      intro q hq
      rcases List.mem_cons.1 hq with rfl | hq
      · exact .inr rfl
      · exact .inl (hs q (popA_sub p st q hq))) (by
      rintro q (hq | rfl)
      · exact leP_of.2 (.inl (hP q hq))
      · exact leP_rf _) g' (by rw [List.pairwise_cons] at hl; exact hl.2)
    refine ⟨good_congr (fun q => by simp [or_assoc]) r1, fun q hq => ?_, ?_⟩
    · have := r2 q hq; simpa [or_assoc] using this
    · rw [List.foldl_cons, r3, List.getLast?_cons_cons]
theorem chA_good (a : Pt) (l : List Pt) (hl : (a :: l).Pairwise ltP) : Good (· ∈ a :: l) (chA (a :: l)) ∧ (∀ q ∈ chA (a :: l), q ∈ a :: l) ∧ (chA (a :: l)).head? = (a :: l).getLast? := by
  have e : chA (a :: l) = l.foldl (fun st p => p :: popA p st) [a] := by unfold chA; rw [List.foldl_cons]; rfl
  rw [e]
  obtain ⟨r1, r2, r3⟩ := foldA_good l [a] (· = a) a rfl (by simp) (by rintro q rfl; exact leP_rf _) (by rintro q rfl; exact leP_rf _) hl
  exact ⟨good_congr (fun q => by simp) r1, fun q hq => by simpa using r2 q hq, r3⟩
def Er (P : Pt → Prop) (b a : Pt) : Prop := ltP a b ∧ ∀ q, P q → 0 ≤ ar a b q ∧ (ar a b q = 0 → leP a q ∧ leP q b)
/-- Neighbours are so related. -/
def Ch {α : Type} (R : α → α → Prop) : List α → Prop
  | a :: b :: r => R a b ∧ Ch R (b :: r)
  | _ => True
theorem Good.chain {P : Pt → Prop} : ∀ {st : List Pt}, Good P st → Ch (Er P) st
  | [], h => h.elim
  | [_], _ => trivial
  | _ :: _ :: _, ⟨h1, h2, _, h4⟩ => ⟨⟨h1, h2⟩, Good.chain h4⟩
theorem Good.bot {P : Pt → Prop} : ∀ {st : List Pt} (a : Pt), st.getLast? = some a → Good P st → ∀ q, P q → leP a q
  | [], a, h, _ => by cases h
  | [b], a, h, g => by obtain rfl : b = a := by simpa using h
                       exact g
  | b :: a :: r, c, h, ⟨_, _, _, h4⟩ => by
    rw [List.getLast?_cons_cons] at h
    exact Good.bot c h h4
theorem Ch.imp {α : Type} {R S : α → α → Prop} (h : ∀ a b, R a b → S a b) : ∀ {l : List α}, Ch R l → Ch S l
  | [], _ => trivial
  | [_], _ => trivial
  | a :: b :: _, ⟨h1, h2⟩ => ⟨h a b h1, Ch.imp h h2⟩
theorem Ch.app {α : Type} {R : α → α → Prop} {x : α} {m : List α} : ∀ {l : List α}, Ch R (l ++ [x]) → Ch R (x :: m) → Ch R (l ++ x :: m)
  | [], _, h => h
  | [_], ⟨h1, _⟩, h => ⟨h1, h⟩
  | _ :: b :: r, ⟨h1, h2⟩, h => ⟨h1, Ch.app (l := b :: r) h2 h⟩
theorem Ch.snoc {α : Type} {R : α → α → Prop} {x y : α} : ∀ {l : List α}, Ch R (l ++ [x]) → R x y → Ch R (l ++ [x, y])
  | [], _, h => ⟨h, trivial⟩
  | [_], ⟨h1, _⟩, h => ⟨h1, h, trivial⟩
  | _ :: b :: r, ⟨h1, h2⟩, h => ⟨h1, Ch.snoc (l := b :: r) h2 h⟩
theorem Ch.rev {α : Type} {R : α → α → Prop} : ∀ {l : List α}, Ch R l → Ch (fun a b => R b a) l.reverse
  | [], _ => trivial
  | [_], _ => trivial
  | a :: b :: r, ⟨h1, h2⟩ => by
    have h := Ch.rev h2
    rw [List.reverse_cons, List.reverse_cons, List.append_assoc]
    rw [List.reverse_cons] at h
    exact Ch.snoc h h1
theorem Ch.map {α β : Type} {R : β → β → Prop} (f : α → β) : ∀ {l : List α}, Ch R (l.map f) → Ch (fun a b => R (f a) (f b)) l
  | [], _ => trivial
  | [_], _ => trivial
  | _ :: b :: r, ⟨h1, h2⟩ => ⟨h1, Ch.map f (l := b :: r) h2⟩
theorem Ch.mem {α : Type} {R : α → α → Prop} {T : α → Prop} : ∀ {l : List α}, Ch R l → (∀ a ∈ l, T a) → Ch (fun a b => T a ∧ T b ∧ R a b) l
  | [], _, _ => trivial
  | [_], _, _ => trivial
  | a :: b :: r, ⟨h1, h2⟩, h => ⟨⟨h a (by simp), h b (by simp), h1⟩, Ch.mem h2 (fun c hc => h c (List.mem_cons_of_mem _ hc))⟩
/-- The point on the other side of the origin. -/
def ng (p : Pt) : Pt := ⟨-p.x, -p.y⟩
theorem ng_ng (p : Pt) : ng (ng p) = p := by unfold ng; simp
theorem ng_ar (a b c : Pt) : ar (ng a) (ng b) (ng c) = ar a b c := by unfold ar ng; grind
theorem ng_lt (a b : Pt) : ltP (ng a) (ng b) ↔ ltP b a := by unfold ltP ng; simp only; omega
theorem ng_le (a b : Pt) : leP (ng a) (ng b) ↔ leP b a := by unfold leP ng; simp only; omega
theorem ng_popA (p : Pt) : ∀ st : List Pt, (popA p st).map ng = popA (ng p) (st.map ng)
  | [] => rfl
  | [_] => rfl
  | b :: a :: r => by
    have ih := ng_popA p (a :: r)
    simp only [List.map_cons] at ih
    simp only [List.map_cons, popA, ng_ar]
    split
    · exact ih
    · rfl
theorem ng_foldA : ∀ (l st : List Pt), (l.foldl (fun st p => p :: popA p st) st).map ng = (l.map ng).foldl (fun st p => p :: popA p st) (st.map ng)
  | [], _ => rfl
  | p :: l, st => by rw [List.foldl_cons, ng_foldA l, List.map_cons, List.map_cons, List.foldl_cons, ng_popA]
theorem ng_chA (l : List Pt) : (chA l).map ng = chA (l.map ng) := ng_foldA l []
/-- An edge, from the lesser point to the greater one, or the other way. -/
theorem low_chain (a : Pt) (l : List Pt) (hl : (a :: l).Pairwise ltP) : Ch (Edge (a :: l)) (chA (a :: l)).reverse ∧ (chA (a :: l)).Pairwise (fun x y => ltP y x) := by
  obtain ⟨g, hs, _⟩ := chA_good a l hl
  have c := g.chain
  constructor
  · have c2 := (c.mem hs).rev
    refine c2.imp ?_
    rintro x y ⟨hy, hx, h1, h2⟩
    refine ⟨hx, hy, fun e => ?_, fun q hq => ⟨(h2 q hq).1, fun e => .inl ((h2 q hq).2 e)⟩⟩
    rw [e] at h1
    exact ltP_irr h1
  · clear g hs
    generalize chA (a :: l) = st at c
    induction st with
    | nil => exact List.Pairwise.nil
    | cons b r ih =>
      cases r with
      | nil => simp
      | cons a' r =>
        obtain ⟨h1, h2⟩ := c
        have ih := ih h2
        rw [List.pairwise_cons]
        refine ⟨fun z hz => ?_, ih⟩
        rcases List.mem_cons.1 hz with rfl | hz
        · exact h1.1
        · rw [List.pairwise_cons] at ih
          exact ltP_tr (ih.1 z hz) h1.1
def hullA (s : List Pt) : List Pt := (chA s).reverse.dropLast ++ (chA s.reverse).reverse.dropLast
theorem popA_last (p : Pt) : ∀ st : List Pt, (popA p st).getLast? = st.getLast?
  | [] => rfl
  | [_] => rfl
  | b :: a :: r => by
    unfold popA
    split
    · rw [popA_last p (a :: r), List.getLast?_cons_cons]
    · rfl
theorem popA_ne (p : Pt) : ∀ st : List Pt, st ≠ [] → popA p st ≠ []
  | [], h => absurd rfl h
  | [_], _ => by simp [popA]
  | b :: a :: r, _ => by
    unfold popA
    split
    · exact popA_ne p (a :: r) (by simp)
    · simp
theorem foldA_last : ∀ (l st : List Pt), st ≠ [] → (l.foldl (fun st p => p :: popA p st) st).getLast? = st.getLast?
  | [], _, _ => rfl
  | p :: l, st, h => by
    rw [List.foldl_cons, foldA_last l _ (by simp)]
    have := popA_ne p st h
    rw [← popA_last p st]
    cases hp : popA p st with
    | nil => exact absurd hp this
    | cons x r => rw [List.getLast?_cons_cons]
theorem chA_last (a : Pt) (l : List Pt) : (chA (a :: l)).getLast? = some a := by
  have e : chA (a :: l) = l.foldl (fun st p => p :: popA p st) [a] := by unfold chA; rw [List.foldl_cons]; rfl
  rw [e, foldA_last l [a] (by simp)]
  rfl
theorem last_split {α : Type} {r : List α} {a : α} (h : r.getLast? = some a) : ∃ r', r = r' ++ [a] := by
  have hn : r ≠ [] := by rintro rfl; cases h
  refine ⟨r.dropLast, ?_⟩
  have := List.dropLast_concat_getLast hn
  rw [List.getLast?_eq_some_getLast hn] at h
  injection h with h
  rw [h] at this
  exact this.symm
theorem ends {c : List Pt} {M a : Pt} (h : c.head? = some M) (k : c.getLast? = some a) (hne : M ≠ a) : ∃ r, c = M :: (r ++ [a]) := by
  cases c with
  | nil => cases h
  | cons x r =>
    obtain rfl : x = M := by simpa using h
    cases r with
    | nil =>
      exfalso
      apply hne
      simpa using k
    | cons y r =>
      rw [List.getLast?_cons_cons] at k
      obtain ⟨r', h'⟩ := last_split k
      exact ⟨r', by rw [h']⟩
theorem pw_rev {l : List Pt} (h : l.Pairwise ltP) : (l.reverse.map ng).Pairwise ltP := by
  rw [List.pairwise_map, List.pairwise_reverse]
  exact h.imp (fun {a b} h => (ng_lt b a).2 h)
theorem hull_closed (a : Pt) (l : List Pt) (hl : (a :: l).Pairwise ltP) (hne : l ≠ []) :
    ∃ t, hullA (a :: l) = a :: t ∧ a ∉ t ∧ t ≠ [] ∧ Ch (Edge (a :: l)) (a :: (t ++ [a])) ∧ ∀ q ∈ hullA (a :: l), q ∈ a :: l := by
  obtain ⟨M, hM⟩ : ∃ M, (a :: l).getLast? = some M := by
    cases h : (a :: l).getLast? with
    | none => simp at h
    | some M => exact ⟨M, rfl⟩
  obtain ⟨l', hl'⟩ := last_split hM
  have hMl : M ∈ l := by
    cases l with
    | nil => exact absurd rfl hne
    | cons b r =>
      rw [List.getLast?_cons_cons] at hM
      exact List.mem_of_getLast? hM
  have haM : ltP a M := by rw [List.pairwise_cons] at hl; exact hl.1 M hMl
  have hMa : M ≠ a := fun e => by rw [e] at haM; exact ltP_irr haM
  -- below
  obtain ⟨c1, p1⟩ := low_chain a l hl
  obtain ⟨_, s1, d1⟩ := chA_good a l hl
  obtain ⟨r1, e1⟩ := ends (d1.trans hM) (chA_last a l) hMa
  -- above
  have er : ∃ l2, (a :: l).reverse = M :: l2 := by
    cases h : (a :: l).reverse with
    | nil => simp at h
    | cons x r =>
      have := List.head?_reverse (l := a :: l)
      rw [h, hM] at this
      obtain rfl : x = M := by simpa using this
      exact ⟨r, rfl⟩
  obtain ⟨l2, hr⟩ := er
  have pr := pw_rev hl
  rw [hr, List.map_cons] at pr
  obtain ⟨c2, p2⟩ := low_chain (ng M) (l2.map ng) pr
  obtain ⟨_, s2, d2⟩ := chA_good (ng M) (l2.map ng) pr
  have em : chA (ng M :: l2.map ng) = (chA (M :: l2)).map ng := by rw [ng_chA, List.map_cons]
  rw [em] at c2 p2 s2 d2
  have hla : (M :: l2).getLast? = some a := by
    rw [← hr, List.reverse_cons, List.getLast?_concat]
  have d2' : (chA (M :: l2)).head? = some a := by
    rw [← List.map_cons, List.getLast?_map, hla, List.head?_map] at d2
    cases h : (chA (M :: l2)).head? with
    | none => rw [h] at d2; cases d2
    | some z =>
      rw [h] at d2
      have d3 : ng z = ng a := by simpa using d2
      have := congrArg ng d3
      rw [ng_ng, ng_ng] at this
      rw [this]
  obtain ⟨r2, e2⟩ := ends d2' (chA_last M l2) (Ne.symm hMa)
  have hh : hullA (a :: l) = a :: (r1.reverse ++ M :: r2.reverse) := by
    unfold hullA
    rw [hr, e1, e2, show (M :: (r1 ++ [a])).reverse = (a :: r1.reverse) ++ [M] from by simp, show (a :: (r2 ++ [M])).reverse = (M :: r2.reverse) ++ [a] from by simp, List.dropLast_concat, List.dropLast_concat]
    simp
  have mem1 : ∀ q ∈ chA (a :: l), q ∈ a :: l := s1
  have mem2 : ∀ q ∈ chA (M :: l2), q ∈ a :: l := fun q hq => by
    have h := s2 (ng q) (List.mem_map_of_mem hq)
    rw [← List.map_cons, List.mem_map] at h
    obtain ⟨z, hz, ez⟩ := h
    have := congrArg ng ez
    rw [ng_ng, ng_ng] at this
    rw [this, ← hr] at hz
    exact List.mem_reverse.1 hz
  refine ⟨r1.reverse ++ M :: r2.reverse, hh, ?_, by simp, ?_, ?_⟩
  · intro h
    rw [List.mem_append, List.mem_cons, List.mem_reverse, List.mem_reverse] at h
    rcases h with h | rfl | h
    · rw [e1, List.pairwise_cons] at p1
      have := p1.2
      rw [List.pairwise_append] at this
      exact ltP_irr (this.2.2 a h a (by simp))
    · exact hMa rfl
    · rw [e2, List.map_cons, List.pairwise_cons] at p2
      have := p2.1 (ng a) (List.mem_map_of_mem (by rw [List.mem_append]; exact .inl h))
      exact ltP_irr this
  · have k1 : Ch (Edge (a :: l)) ((a :: r1.reverse) ++ [M]) := by
      have : (chA (a :: l)).reverse = (a :: r1.reverse) ++ [M] := by rw [e1]; simp
      rw [this] at c1
      exact c1
    have k2 : Ch (Edge (a :: l)) (M :: (r2.reverse ++ [a])) := by
      have : ((chA (M :: l2)).map ng).reverse = (M :: (r2.reverse ++ [a])).map ng := by rw [e2]; simp
      rw [this] at c2
      refine (Ch.map ng c2).imp ?_
      rintro x y ⟨h1, h2, h3, h4⟩
      have mm : ∀ z, ng z ∈ ng M :: l2.map ng ↔ z ∈ a :: l := fun z => by
        rw [← List.map_cons, ← hr, List.mem_map]
        constructor
        · rintro ⟨u, hu, e⟩
          have := congrArg ng e
          rw [ng_ng, ng_ng] at this
          rw [← this]; exact List.mem_reverse.1 hu
        · intro hz
          exact ⟨z, List.mem_reverse.2 hz, rfl⟩
      refine ⟨(mm x).1 h1, (mm y).1 h2, fun e => h3 (by rw [e]), fun q hq => ?_⟩
      have := h4 (ng q) ((mm q).2 hq)
      rw [ng_ar] at this
      refine ⟨this.1, fun e => ?_⟩
      have := this.2 e
      unfold Btw at this ⊢
      rw [ng_le, ng_le, ng_le, ng_le] at this
      rcases this with ⟨u, v⟩ | ⟨u, v⟩
      · exact .inr ⟨v, u⟩
      · exact .inl ⟨v, u⟩
    have := Ch.app (l := a :: r1.reverse) k1 k2
    simpa using this
  · intro q hq
    rw [hh] at hq
    rw [List.mem_cons, List.mem_append, List.mem_cons, List.mem_reverse, List.mem_reverse] at hq
    rcases hq with rfl | h | rfl | h
    · simp
    · exact mem1 q (by rw [e1]; simp [h])
    · exact List.mem_cons_of_mem _ hMl
    · exact mem2 q (by rw [e2]; simp [h])
/-- A closed way of such edges is the only one. -/
theorem way_uniq {S : List Pt} {m : Pt} : ∀ (t t' : List Pt) (x : Pt), Ch (Edge S) (x :: (t ++ [m])) → Ch (Edge S) (x :: (t' ++ [m])) → m ∉ t → m ∉ t' → t = t'
  | [], [], _, _, _, _, _ => rfl
  | [], y :: t', x, h, h', _, n' => absurd (h.1.uniq h'.1) (fun e => n' (by rw [e]; simp))
  | y :: t, [], x, h, h', n, _ => absurd (h'.1.uniq h.1) (fun e => n (by rw [e]; simp))
  | y :: t, y' :: t', x, h, h', n, n' => by
    obtain rfl := h.1.uniq h'.1
    rw [way_uniq t t' y h.2 h'.2 (fun e => n (List.mem_cons_of_mem _ e)) (fun e => n' (List.mem_cons_of_mem _ e))]
theorem Ch.get {α : Type} {R : α → α → Prop} : ∀ {l : List α}, Ch R l → ∀ (i : Nat) (x y : α), l[i]? = some x → l[i + 1]? = some y → R x y
  | [], _, i, x, y, h, _ => by simp at h
  | [a], _, i, x, y, _, k => by simp at k
  | a :: b :: r, ⟨h1, h2⟩, 0, x, y, h, k => by
    obtain rfl : a = x := by simpa using h
    obtain rfl : b = y := by simpa using k
    exact h1
  | a :: b :: r, ⟨h1, h2⟩, i + 1, x, y, h, k => Ch.get h2 i x y (by simpa using h) (by simpa using k)
/-- Each edge of a closed way, by indices. -/
theorem way_edge {S : List Pt} {a : Pt} {t : List Pt} (h : Ch (Edge S) (a :: (t ++ [a]))) (i : Nat) (x y : Pt) (hi : i < t.length + 1) (hx : (a :: t)[i]? = some x) (hy : (a :: t)[(i + 1) % (t.length + 1)]? = some y) : Edge S x y := by
  have e : a :: (t ++ [a]) = (a :: t) ++ [a] := rfl
  rw [e] at h
  refine Ch.get h i x y ?_ ?_
  · rw [List.getElem?_append_left (by simpa using hi)]; exact hx
  · rcases Nat.lt_or_ge (i + 1) (t.length + 1) with k | k
    · rw [Nat.mod_eq_of_lt k] at hy
      rw [List.getElem?_append_left (by simpa using k)]; exact hy
    · have : i + 1 = t.length + 1 := by omega
      rw [this, Nat.mod_self] at hy
      rw [this, List.getElem?_append_right (by simp)]
      simpa using hy
/-- Three corners in a row turn left, or the third one is the first one. -/
theorem edge_turn {S : List Pt} {u v w : Pt} (h : Edge S u v) (k : Edge S v w) : 0 < ar u v w ∨ w = u := by
  have h1 := h.2.2.2 w k.2.1
  rcases Int.lt_or_le 0 (ar u v w) with c | c
  · exact .inl c
  · right
    have z : ar u v w = 0 := by omega
    have h2 := h1.2 z
    have k1 := (k.2.2.2 u h.1).2 (by rw [ar_cyc]; exact z)
    have n1 := h.2.2.1
    have n2 := k.2.2.1
    unfold Btw at h2 k1
    rcases h2 with ⟨a1, a2⟩ | ⟨a1, a2⟩ <;> rcases k1 with ⟨b1, b2⟩ | ⟨b1, b2⟩
    · exact absurd (leP_anti (leP_tr a1 a2) b1) n1
    · exact leP_anti b1 a1
    · exact leP_anti a2 b2
    · exact absurd (leP_anti b2 (leP_tr a1 a2) ) n1
/-- With three corners or more the third one is another one. -/
theorem way_three {S : List Pt} {a : Pt} {t : List Pt} (h : Ch (Edge S) (a :: (t ++ [a]))) (ht : a ∉ t) (h2 : 2 ≤ t.length) (i : Nat) (u v w : Pt) (hi : i < t.length + 1) (hu : (a :: t)[i]? = some u) (hv : (a :: t)[(i + 1) % (t.length + 1)]? = some v) (hw : (a :: t)[(i + 2) % (t.length + 1)]? = some w) : 0 < ar u v w := by
  have gt : ∀ k, ∃ x, (a :: t)[k % (t.length + 1)]? = some x := fun k => ⟨_, List.getElem?_eq_getElem (by simpa using Nat.mod_lt k (by omega))⟩
  have ed : ∀ k x y, (a :: t)[k % (t.length + 1)]? = some x → (a :: t)[(k + 1) % (t.length + 1)]? = some y → Edge S x y := fun k x y hx hy =>
    way_edge h (k % (t.length + 1)) x y (Nat.mod_lt k (by omega)) hx (by rw [Nat.mod_add_mod]; exact hy)
  have e1 : Edge S u v := ed i u v (by rw [Nat.mod_eq_of_lt hi]; exact hu) hv
  have e2 : Edge S v w := ed (i + 1) v w hv hw
  rcases edge_turn e1 e2 with c | rfl
  · exact c
  · exfalso
    have al : ∀ k x y, (a :: t)[(i + k) % (t.length + 1)]? = some x → (a :: t)[(i + k + 2) % (t.length + 1)]? = some y → x = y := by
      intro k
      induction k with
      | zero =>
        intro x y hx hy
        rw [Nat.add_zero, Nat.mod_eq_of_lt hi, hu] at hx
        rw [Nat.add_zero, hw] at hy
        injection hx with hx
        injection hy with hy
        rw [← hx, ← hy]
      | succ k ih =>
        intro x y hx hy
        obtain ⟨x0, hx0⟩ := gt (i + k)
        obtain ⟨y0, hy0⟩ := gt (i + k + 2)
        have e := ih x0 y0 hx0 hy0
        have g1 := ed (i + k) x0 x hx0 hx
        have g2 := ed (i + k + 2) y0 y hy0 hy
        rw [e] at g1
        exact g1.uniq g2
    obtain ⟨z, hz⟩ := gt 2
    have := al (t.length + 1 - i) a z (by rw [show i + (t.length + 1 - i) = t.length + 1 by omega, Nat.mod_self]; rfl) (by rw [show i + (t.length + 1 - i) + 2 = 2 + (t.length + 1) by omega, Nat.add_mod_right]; exact hz)
    rw [Nat.mod_eq_of_lt (by omega)] at hz
    rw [← this] at hz
    exact ht (List.mem_of_getElem? (i := 1) (by simpa using hz))
end Go.Proofs.Ytdefpcjlbganpaa.HM
namespace Go.Proofs.Ytdefpcjlbganpaa
open Go.RowKit Go.Shelf Go.BigFrame Go.Sort
attribute [local go_sem] Oper.semAt_some
attribute [local go_sem] World.cell?_alloc_some
theorem flatP_len2 (l : List Pt) : (flatP l).length = l.length * 2 := flatP_len l
theorem flatP_set : ∀ (l : List Pt) (k : Nat) (p : Pt), flatP (l.set k p) = ((flatP l).set (k * 2) (.int .i64 p.x)).set (k * 2 + 1) (.int .i64 p.y)
  | [], k, p => rfl
  | q :: l, 0, p => rfl
  | q :: l, k + 1, p => by
    have e : ∀ (q : Pt) l, flatP (q :: l) = .int .i64 q.x :: .int .i64 q.y :: flatP l := fun _ _ => rfl
    rw [List.set_cons_succ, e, e, flatP_set l k p, show (k + 1) * 2 = k * 2 + 1 + 1 from by omega]
    simp
theorem PO.block {w B L g cap l W} (h : PO w B L (.slice (some ⟨g, 0, none⟩) l.length cap) l W) (h0 : 0 < l.length) : ∃ cur, W.heap[g]? = some (.cells cur 23 (0, 0)) ∧ cur.size = cap * 2 ∧ cur.toList.take (l.length * 2) = flatP l ∧ B ≤ g ∧ l.length ≤ cap ∧ cap ≤ maxLen := by
  obtain ⟨h1, ⟨_, h2⟩ | ⟨g', cap', cur, e, hg, hc, h3, h4, h5, h6⟩⟩ := h.own
  · omega
  · injection e with e1 e2 e3
    injection e1 with e1
    injection e1 with e1
    subst e1 e3
    exact ⟨cur, hc, h5, h6, hg, h3, h4⟩
theorem PO.remake {w B L g cap l W} (h : PO w B L (.slice (some ⟨g, 0, none⟩) l.length cap) l W) (h0 : 0 < l.length) (f : Array Value → Array Value) (s : List Pt) (hl : s.length ≤ cap)
   (hf : ∀ cur : Array Value, cur.size = cap * 2 → cur.toList.take (l.length * 2) = flatP l → (f cur).size = cap * 2 ∧ (f cur).toList.take (s.length * 2) = flatP s) :
   PO w B L (.slice (some ⟨g, 0, none⟩) s.length cap) s (mapBlock W g f) := by
  obtain ⟨cur, hc, h5, h6, hg, h3, h4⟩ := h.block h0
  obtain ⟨k1, k2⟩ := hf cur h5 h6
  refine ⟨?_, h.lo, h.wB, ?_, ?_⟩
  · have hgr := grown_map W g f
    refine ⟨?_, h.st.c.grown hgr (fun x hx e => ?_)⟩
    · refine h.st.b.trans ⟨hgr.os, hgr.tape, hgr.output, hgr.size, fun k hk => hgr.block k (Nat.lt_of_lt_of_le hk h.st.b.size) (fun e => ?_)⟩
      injection e with e
      have := h.wB
      omega
    · injection e with e
      have := h.lo x hx
      omega
  · exact Nat.le_trans h.BW (grown_map W g f).size
  · exact ⟨by rw [flatP_len], .inr ⟨g, cap, f cur, rfl, hg, heap_map W g f cur 23 hc, hl, h4, k1, k2⟩⟩
theorem PO.cells {w B L g cap l W} (h : PO w B L (.slice (some ⟨g, 0, none⟩) l.length cap) l W) (k : Nat) (p : Pt) (hk : l[k]? = some p) :
   (W.cell? ⟨g, k * 2, none⟩ = some (.int .i64 p.x) ∧ W.frozen? ⟨g, k * 2, none⟩ = false) ∧ (W.cell? ⟨g, k * 2 + 1, none⟩ = some (.int .i64 p.y) ∧ W.frozen? ⟨g, k * 2 + 1, none⟩ = false) := by
  have hlt : k < l.length := (List.getElem?_eq_some_iff.1 hk).1
  obtain ⟨cur, hc, h5, h6, hg, h3, h4⟩ := h.block (by omega)
  obtain ⟨e1, e2⟩ := flatP_get hk
  rw [← h6, List.getElem?_take_of_lt (by omega)] at e1 e2
  have e1' : cur[k * 2]? = some (.int .i64 p.x) := by simpa using e1
  have e2' : cur[k * 2 + 1]? = some (.int .i64 p.y) := by simpa using e2
  exact ⟨⟨by simpa [World.cell?, hc] using e1', by simp [World.frozen?, hc]⟩, by simpa [World.cell?, hc] using e2', by simp [World.frozen?, hc]⟩
theorem PO.store {w B L g cap l W} (h : PO w B L (.slice (some ⟨g, 0, none⟩) l.length cap) l W) (k : Nat) (p : Pt) (hk : k < l.length) :
   PO w B L (.slice (some ⟨g, 0, none⟩) l.length cap) (l.set k p) ((W.setCell ⟨g, k * 2, none⟩ (.int .i64 p.x)).setCell ⟨g, k * 2 + 1, none⟩ (.int .i64 p.y)) := by
  obtain ⟨_, _, _, _, _, h3, _⟩ := h.block (by omega)
  have := h.remake (by omega) (fun cur => (cur.setIfInBounds (k * 2) (.int .i64 p.x)).setIfInBounds (k * 2 + 1) (.int .i64 p.y)) (l.set k p) (by simpa using h3) (fun cur hs ht => ⟨by simpa using hs, by
    rw [List.length_set, flatP_set, ← ht]
    simp only [Array.toList_setIfInBounds, List.take_set]⟩)
  rw [List.length_set] at this
  simpa only [setCell_eq, mapBlock_mapBlock] using this
theorem mapBlock_id (w : World) (b : Nat) : mapBlock w b id = w := by
  have e : onCells id = id := funext fun o => by cases o <;> rfl
  have h : w.heap.modify b (onCells id) = w.heap := by
    rw [e]
    apply Array.ext_getElem?
    intro k
    rw [Array.getElem?_modify]
    split <;> simp
  unfold mapBlock
  rw [h]
theorem setCells_map (b : Nat) : ∀ (vs : List Value) (o : Nat) (w : World), ∃ f : Array Value → Array Value, w.setCells b o vs = mapBlock w b f ∧ ∀ cur, (f cur).size = cur.size ∧ ∀ n, n ≤ o → (f cur).toList.take n = cur.toList.take n
  | [], o, w => ⟨id, (mapBlock_id w b).symm, fun cur => ⟨rfl, fun n _ => rfl⟩⟩
  | v :: r, o, w => by
    obtain ⟨f, h1, h2⟩ := setCells_map b r (o + 1) (w.setCell ⟨b, o, none⟩ v)
    refine ⟨fun cur => f (cur.setIfInBounds o v), ?_, fun cur => ⟨by rw [(h2 _).1]; simp, fun n hn => ?_⟩⟩
    · rw [World.setCells, h1, setCell_eq, mapBlock_mapBlock]
    · rw [(h2 _).2 n (by omega)]
      rw [Array.toList_setIfInBounds, List.take_set, List.set_eq_of_length_le (by simp; omega)]
/-- clear of a slice of points. -/
theorem run_clearP (w : World) (ty : TypeId) (b k n c : Nat) (hn : 0 < n) (hc : ∀ j, j < n * 2 → (w.cell? ⟨b, k + j, none⟩).isSome = true) (hf : ∀ j, j < n * 2 → w.frozen? ⟨b, k + j, none⟩ = false) :
    (Builtin.clear_ #[35] ty #[.slice (some ⟨b, k, none⟩) n c]).run Try.prog w = .ok (.tuple #[]) (w.setCells b k (List.replicate (n * 2) (.int .i64 0))) := by
  have hv : ∀ w, (zeroValue 23).run Try.prog w = .ok (.agg #[.int .i64 0, .int .i64 0]) w := fun w => by exact Try.zeroValue23 w
  have ht := Try.underlying35
  have hzc : (Builtin.zeroCells #[.int .i64 0, .int .i64 0] n).toList = List.replicate (n * 2) (.int .i64 0) := by
    simp only [Builtin.zeroCells]
    apply List.ext_getElem
    · simp
    · intro i h1 h2
      have : i % 2 = 0 ∨ i % 2 = 1 := by omega
      simp
      rcases this with e | e <;> simp [e]
  have hst := run_storeCells_cells (P := Try.prog) b k (List.replicate (n * 2) (.int .i64 0)) 0 w (by simpa using hc) (by simpa using hf) (by intro v hv'; rw [List.eq_of_mem_replicate hv']; rfl)
  simp only [Nat.add_zero] at hst
  obtain ⟨m, rfl⟩ : ∃ m, n = m + 1 := ⟨n - 1, by omega⟩
  simp [Builtin.clear_, run_underlying ht, hv, Value.cells, hzc, hst]
theorem PO.spot {w B L g cap l W} (h : PO w B L (.slice (some ⟨g, 0, none⟩) l.length cap) l W) (h0 : 0 < l.length) (o : Nat) (ho : o < cap * 2) : (W.cell? ⟨g, o, none⟩).isSome = true ∧ W.frozen? ⟨g, o, none⟩ = false := by
  obtain ⟨cur, hc, h5, h6, hg, h3, h4⟩ := h.block h0
  have : o < cur.size := by omega
  exact ⟨by simp [World.cell?, hc, this], by simp [World.frozen?, hc]⟩
theorem list_low {dk c : List Pt} {kk : Nat} (hl : c.length = kk) (hk : kk ≤ dk.length) (h : ∀ j, j < kk → c[j]? = some dk.toArray[j]!) : dk.take kk = c := by
  apply List.ext_getElem?
  intro j
  rcases Nat.lt_or_ge j kk with hj | hj
  · rw [List.getElem?_take_of_lt hj, h j hj]
    have : j < dk.length := by omega
    simp [this]
  · rw [List.getElem?_eq_none (by simp; omega), List.getElem?_eq_none (by omega)]
theorem neP2_run (a b : Pt) (w : World) : (binOp .neq 23 a.v b.v).run Try.prog w = .ok (.bool (!ptE a b)) w := by
  unfold ptE
  rw [pt_beq]
  by_cases h1 : a.x = b.x <;> by_cases h2 : a.y = b.y
  all_goals (simp [go_sem, h1, h2]; done)
theorem below_drN (w : World) (n : Nat) : Below w.heap.size w (w.drewN n) := ⟨rfl, rfl, rfl, Nat.le_refl _, fun _ _ => rfl⟩
open Go.Lib in
set_option maxRecDepth 100000 in
set_option maxHeartbeats 8000000 in
theorem compactP_any {w : World} {B g cap : Nat} {L : List (Nat × Nat × Value)} {l : List Pt} {W : World} (h : PO w B L (.slice (some ⟨g, 0, none⟩) l.length cap) l W) (h1 : 1 ≤ l.length) (hl : l.length ≤ 1000) :
    Calls Try.prog 107 #[.slice (some ⟨g, 0, none⟩) l.length cap] W fun e w' => e = .returned (.slice (some ⟨g, 0, none⟩) (compactUpTo l.toArray l.length).length cap) ∧ PO w B L (.slice (some ⟨g, 0, none⟩) (compactUpTo l.toArray l.length).length cap) (compactUpTo l.toArray l.length) w' := by
  have HP := Lib.hid h
  obtain ⟨_, _, _, _, _, hcap, hmax⟩ := h.block (by omega)
  unfold maxLen at hmax
  clear h
  obtain ⟨d, hd⟩ : ∃ d : Array Pt, l.toArray = d := ⟨_, rfl⟩
  have hdl : d.size = l.length := by rw [← hd]; simp
  have HD : Hid (∀ k, k < l.length → l[k]? = some d[k]!) := fun k hk => by rw [← hd]; simp [hk]
  rw [hd]
  have same : Hid ((∀ j, j < l.length → keeps d j = true) → compactUpTo d l.length = l) := fun hall => by
    rw [compactUpTo_all d _ hall, ← hdl, range_map_get, ← hd]
  have HS := Lib.hid hdl
  have HL : Hid (d = l.toArray) := hd.symm
  clear hd hdl
  by_cases h2 : l.length < 2
  · have e : Hid (compactUpTo d l.length = l) := same.out (fun j hj => keeps_lt_one d j (by omega))
    go_enter Try.func107, Try.ntmps107
    go_wp2_with fail
    go_ret
    rw [e.out]
    exact ⟨rfl, HP.out⟩
  · go_enter Try.func107, Try.ntmps107
    go_wp2_with fail
    go_loopg [3] l.length (fun gh s3 wr => ∃ k : Nat, 1 ≤ k ∧ k ≤ l.length ∧ l.length - k ≤ gh ∧ s3 = .int .i64 (k : Int) ∧ Hid (PO w B L (.slice (some ⟨g, 0, none⟩) l.length cap) l wr) ∧ Hid (∀ j, j < k → keeps d j = true))
    case atStart => exact ⟨1, Nat.le_refl _, by omega, by omega, rfl, HP, keeps_lt_one d⟩
    case round =>
      obtain ⟨k, hk1, hk, hg, rfl, hPO, A⟩ := hrel
      by_cases hlt : k < l.length
      · obtain ⟨m, rfl⟩ : ∃ m, k = m + 1 := ⟨k - 1, by omega⟩
        have hx := HD.out m (by omega)
        have hy := HD.out (m + 1) hlt
        obtain ⟨x, ex⟩ : ∃ x, d[m]! = x := ⟨_, rfl⟩
        obtain ⟨y, ey⟩ : ∃ x, d[m + 1]! = x := ⟨_, rfl⟩
        rw [ex] at hx
        rw [ey] at hy
        have HXY := Lib.hid (And.intro ex ey)
        obtain ⟨⟨g1, _⟩, g2, _⟩ := hPO.out.cells m x hx
        obtain ⟨⟨g3, _⟩, g4, _⟩ := hPO.out.cells (m + 1) y hy
        have HX := Lib.hid (And.intro hx hy)
        clear ex ey hx hy
        have ke := fun W => eqP_run y x W
        have hw1 : IntKind.i64.wrap ((m : Int) + 1 - 1) = (m : Int) := (wrapEq _).trans ((w64 (by omega)).trans (by omega))
        have hw2 : ((m : Int) + 1).toNat = m + 1 := by omega
        by_cases hdup : y = x
        · have hz : ptE y x = true := by unfold ptE; exact decide_eq_true hdup
          rw [hz] at ke
          have HDUP := Lib.hid hdup
          clear hz hdup
          have hcp : m + 1 < cap := by omega
          have hcp' : ¬ cap = m + 1 := by omega
          have hcp2 : ¬ cap - (m + 1) = 0 := by omega
          go_wp2_with fail
          go_quiet (fail)
          go_wp2_with fail
          have HDT : Hid (∀ t, t = m + 1 + 1 → keeps d (t - 1) = false) := by
            rintro t rfl
            exact keeps_neg (by omega) (by rw [show m + 1 + 1 - 1 = m + 1 from rfl, HXY.out.2, show m + 1 - 1 = m from rfl, HXY.out.1]; exact HDUP.out)
          have HST : Hid (CompInv d (m + 1 + 1) (m + 1) d) := CompInv.start A.out (by
            exact keeps_neg (by omega) (by rw [HXY.out.2, show m + 1 - 1 = m from rfl, HXY.out.1]; exact HDUP.out))
          clear g1 g2 g3 g4 ke hw1 hw2
          go_loopg [3, 5] l.length (fun gh s3 s5 wr => ∃ (kk t : Nat) (dk : List Pt), s3 = .int .i64 (kk : Int) ∧ s5 = .int .i64 ((t : Int) + 1) ∧ m + 1 + (t + 1) ≤ l.length ∧ l.length - (m + 1 + (t + 1)) ≤ gh ∧ Hid (dk.length = l.length) ∧ Hid (PO w B L (.slice (some ⟨g, 0, none⟩) dk.length cap) dk wr) ∧ Hid (CompInv d (m + 1 + (t + 1)) kk dk.toArray))
          case atStart => exact ⟨m + 1, 0, l, by simp, by simp, by omega, by omega, rfl, hPO.out.next (below_drN _ _), by unfold Hid; rw [← HL.out]; exact HST.out⟩
          case round =>
            obtain ⟨kk, t, dk, rfl, rfl, hle, hg2, hdk, hPO2, hI⟩ := hrel
            have hkk := hI.out.lt
            by_cases hlt2 : m + 1 + (t + 1) < l.length
            · have gt : ∀ j, j < l.length → dk[j]? = some dk.toArray[j]! := fun j hj => by
                have : j < dk.length := by rw [hdk.out]; exact hj
                simp [this]
              have hu := gt (m + 1 + (t + 1)) hlt2
              have hv := gt (m + 1 + t) (by omega)
              have ho := gt kk (by omega)
              rw [hI.out.high _ (by omega)] at hu hv
              obtain ⟨u, eu⟩ : ∃ x, d[m + 1 + (t + 1)]! = x := ⟨_, rfl⟩
              obtain ⟨v, ev⟩ : ∃ x, d[m + 1 + t]! = x := ⟨_, rfl⟩
              obtain ⟨o, eo⟩ : ∃ x, dk.toArray[kk]! = x := ⟨_, rfl⟩
              rw [eu] at hu
              rw [ev] at hv
              rw [eo] at ho
              obtain ⟨⟨g1, _⟩, g2, _⟩ := hPO2.out.cells _ u hu
              obtain ⟨⟨g3, _⟩, g4, _⟩ := hPO2.out.cells _ v hv
              obtain ⟨⟨g5, g6⟩, g7, g8⟩ := hPO2.out.cells _ o ho
              rw [show (m + 1 + (t + 1)) * 2 = (m + 1) * 2 + (t + 1) * 2 by omega] at g1 g2
              rw [show (m + 1 + t) * 2 = (m + 1) * 2 + t * 2 by omega] at g3 g4
              have HUV := Lib.hid (And.intro eu ev)
              clear hu hv ho eu ev eo gt
              have ke : ∀ W, (binOp .neq 23 u.v v.v).run Try.prog W = .ok (.bool (!ptE u v)) W := fun W => neP2_run u v W
              have hw1 : IntKind.i64.wrap ((t : Int) + 1 - 1) = (t : Int) := (wrapEq _).trans ((w64 (by omega)).trans (by omega))
              have hw2 : ((t : Int) + 1).toNat = t + 1 := by omega
              by_cases huv : u = v
              · have hz : ptE u v = true := by unfold ptE; exact decide_eq_true huv
                rw [hz] at ke
                have HUVE := Lib.hid huv
                clear hz huv
                go_wp2_with fail
                go_quiet (fail)
                go_wp2_with fail
                go_roundg (l.length - (m + 1 + (t + 1 + 1)))
                case measure => omega
                case rel => exact ⟨kk, t + 1, dk, rfl, by simp, by omega, Nat.le_refl _, hdk, hPO2.out.next (below_drN _ _), hI.out.skip (keeps_neg (by omega) (by rw [HUV.out.1, show m + 1 + (t + 1) - 1 = m + 1 + t by omega, HUV.out.2]; exact HUVE.out))⟩
              · have hz : ptE u v = false := by unfold ptE; exact decide_eq_false huv
                rw [hz] at ke
                have HUVE := Lib.hid huv
                clear hz huv
                go_wp2_with fail
                go_quiet (fail)
                go_wp2_with fail
                go_roundg (l.length - (m + 1 + (t + 1 + 1)))
                case measure => omega
                case rel =>
                  refine ⟨kk + 1, t + 1, dk.set kk u, by simp, by simp, by omega, Nat.le_refl _, by unfold Hid; rw [List.length_set]; exact hdk.out, ?_, ?_⟩
                  · have := (hPO2.out.next (below_drN _ nq)).store kk u (by rw [hdk.out]; omega)
                    unfold Hid
                    rw [List.length_set]
                    exact this
                  · have := hI.out.keep (by rw [HS.out]; omega) (keeps_pos (by rw [HUV.out.1, show m + 1 + (t + 1) - 1 = m + 1 + t by omega, HUV.out.2]; exact HUVE.out))
                    rw [HUV.out.1] at this
                    unfold Hid
                    rw [show m + 1 + (t + 1 + 1) = m + 1 + (t + 1) + 1 from by omega]
                    simpa using this
            · have hend : m + 1 + (t + 1) = l.length := by omega
              have hcl : ∀ ty, (Builtin.clear_ #[35] ty #[.slice (some ⟨g, kk * 2, none⟩) (l.length - kk) (cap - kk)]).run Try.prog wr = .ok (.tuple #[]) (wr.setCells g (kk * 2) (List.replicate ((l.length - kk) * 2) (.int .i64 0))) := fun ty =>
                run_clearP wr ty g (kk * 2) (l.length - kk) (cap - kk) (by omega) (fun j hj => (hPO2.out.spot (by rw [hdk.out]; omega) _ (by omega)).1) (fun j hj => (hPO2.out.spot (by rw [hdk.out]; omega) _ (by omega)).2)
              have hkc : ¬ cap = kk := by omega
              have hkc2 : ¬ cap - kk = 0 := by omega
              have hkc3 : kk < cap := by omega
              go_wp2_with fail
              go_ret
              have hlen : (compactUpTo d l.length).length = kk := by rw [← hI.out.len, hend]
              have hlow : dk.take kk = compactUpTo d l.length := list_low hlen (by rw [hdk.out]; omega) (by rw [← hend]; exact hI.out.low)
              refine ⟨by rw [hlen]; rfl, ?_⟩
              obtain ⟨f, hf1, hf2⟩ := setCells_map g (List.replicate ((l.length - kk) * 2) (.int .i64 0)) (kk * 2) wr
              rw [hf1]
              refine hPO2.out.remake (by rw [hdk.out]; omega) f (compactUpTo d l.length) (by omega) (fun cur hs ht => ⟨by rw [(hf2 cur).1]; exact hs, ?_⟩)
              rw [hlen, (hf2 cur).2 _ (Nat.le_refl _), ← hlow, ← flatP_take, ← ht, List.take_take, hdk.out]
              congr 1
              omega
        · have hz : ptE y x = false := by unfold ptE; exact decide_eq_false hdup
          rw [hz] at ke
          have HDUP := Lib.hid hdup
          clear hz hdup
          go_wp2_with fail
          go_quiet (fail)
          go_wp2_with fail
          go_roundg (l.length - (m + 1 + 1))
          case measure => omega
          case rel =>
            refine ⟨m + 1 + 1, by omega, by omega, Nat.le_refl _, by simp, hPO.out.next (below_drN _ _), fun j hj => ?_⟩
            by_cases e : j = m + 1
            · subst e
              exact keeps_pos (by rw [HXY.out.2, show m + 1 - 1 = m from rfl, HXY.out.1]; exact HDUP.out)
            · exact A.out j (by omega)
      · obtain rfl : k = l.length := by omega
        have e : Hid (compactUpTo d l.length = l) := same.out A.out
        go_wp2_with fail
        go_ret
        rw [e.out]
        exact ⟨rfl, hPO.out⟩
end Go.Proofs.Ytdefpcjlbganpaa
namespace Go.Proofs.Ytdefpcjlbganpaa
open Go.RowKit Go.Shelf Go.BigFrame Go.Sort
attribute [local go_sem] Oper.semAt_some
attribute [local go_sem] World.cell?_alloc_some
def cptL (s : List Pt) : List Pt := Go.Lib.compactUpTo s.toArray s.length
/-- What Hull returns: the points without those that are there twice, or the corners of the hull. -/
def hullC (l : List Pt) : List Pt := if (cptL (srtP l)).length = 1 then cptL (srtP l) else hullL (cptL (srtP l))
theorem cptL_len (s : List Pt) : (cptL s).length ≤ s.length := by
  unfold cptL Go.Lib.compactUpTo
  rw [List.length_map]
  refine Nat.le_trans (List.length_filter_le _ _) ?_
  simp
theorem cptL_pos (s : List Pt) (h : 1 ≤ s.length) : 1 ≤ (cptL s).length := by
  unfold cptL Go.Lib.compactUpTo
  rw [List.length_map]
  apply List.length_pos_of_mem (a := 0)
  rw [List.mem_filter]
  refine ⟨by simp; omega, by simp [Go.Lib.keeps]⟩
set_option maxRecDepth 100000 in
set_option maxHeartbeats 4000000 in
theorem Hull_any (b o cap : Nat) (l : List Pt) (w : World) (h1 : 1 ≤ l.length) (hl : l.length ≤ 200) (hok : l.all okP = true) (hp : PtsAt w (some ⟨b, o, none⟩) l) :
    Calls Try.prog 39 #[.slice (some ⟨b, o, none⟩) l.length cap] w fun e w' => ∃ v, e = .returned (.tuple #[v, .int .i64 0]) ∧ PO w w.heap.size [] v (hullC l) w' := by
  have C0 := checkPoints_any 1 (some ⟨b, o, none⟩) cap l w (by omega) hp
  rw [ck_all (by omega) hok] at C0
  have HC0 := Lib.hid C0
  have HP := Lib.hid hp
  have HHC : Hid (hullC l = if (cptL (srtP l)).length = 1 then cptL (srtP l) else hullL (cptL (srtP l))) := rfl
  obtain ⟨s0, hs⟩ : ∃ s, srtP l = s := ⟨_, rfl⟩
  have hs1 : s0.length = l.length := by rw [← hs]; exact srtP_len l
  rw [hs] at HHC
  obtain ⟨s, hc⟩ : ∃ c, cptL s0 = c := ⟨_, rfl⟩
  have hc1 : s.length ≤ l.length := by rw [← hc, ← hs1]; exact cptL_len s0
  have hc2 : 1 ≤ s.length := by rw [← hc]; exact cptL_pos s0 (by omega)
  rw [hc] at HHC
  have HSRT := Lib.hid hs
  have HS1 := Lib.hid hs1
  have HCPT := Lib.hid hc
  have HL := Lib.hid (And.intro (And.intro hc2 hc1) (And.intro h1 hl))
  clear C0 hp hok hl h1 hs hs1 hc hc1 hc2
  go_enter Try.func39, Try.ntmps39
  go_wp2_with (go_at_call 102; refine HC0.out.mono ?_; rintro e w1 ⟨rfl, hb1⟩)
  have HB1 := Lib.hid hb1
  clear hb1
  go_at_call 103
  refine (cloneP_any b o cap l w1 (by have := HL.out; omega) (HP.out.keep HB1.out)).mono ?_
  rintro e w2 ⟨v2, rfl, P2⟩
  obtain ⟨g, cap2, rfl, hg, hcap, hmax⟩ := P2.shape (by have := HL.out; omega)
  have HP2 := Lib.hid P2
  have HG := Lib.hid (And.intro hg (And.intro hcap hmax))
  clear P2 hg hcap hmax
  go_wp2_with fail
  refine (sortP_any HP2.out (by have := HL.out; omega)).mono ?_
  rintro e w3 ⟨rfl, P3⟩
  rw [HSRT.out] at P3
  have HP3 := Lib.hid P3
  clear P3 HP2
  have CC := compactP_any (l := s0) (cap := cap2) (g := g) (by have h := HP3.out; rw [← HS1.out] at h; exact h) (by have := HL.out; have := HS1.out; omega) (by have := HL.out; have := HS1.out; omega)
  rw [HS1.out] at CC
  rw [← HS1.out, show Go.Lib.compactUpTo s0.toArray s0.length = s from HCPT.out, HS1.out] at CC
  have HCC := Lib.hid CC
  clear CC
  by_cases hone : s.length = 1
  · have hgd : (s.length : Int) = 1 := by omega
    have hgd' : ((s.length : Int) == 1) = true := by simpa using hgd
    have HONE := Lib.hid hone
    clear hone
    go_wp2_with (go_at_call 107; refine HCC.out.mono ?_; rintro e w4 ⟨rfl, hP4⟩)
    have HP4 := Lib.hid hP4
    have HQ4 : Hid (PtsAt w4 (some ⟨g, 0, none⟩) s) := by
      obtain ⟨a, c, e, hq⟩ := hP4.pts
      injection e with e1
      rw [← e1] at hq
      exact hq
    clear HCC HP3 hP4
    have HW41 : Hid (w1.heap.size ≤ w4.heap.size) := HP4.out.st.b.size
    go_ret2
    refine ⟨_, rfl, ?_⟩
    rw [HHC.out, if_pos HONE.out]
    exact PO.of_own (HB1.out.trans (HP4.out.st.b.mono HB1.out.size)) HP4.out.own rfl HB1.out.size
  · have hgd : ¬ (s.length : Int) = 1 := by omega
    have hgd' : ((s.length : Int) == 1) = false := by simpa using hgd
    have HTWO : Hid (2 ≤ s.length) := by have := HL.out; unfold Hid; omega
    have HHC2 : Hid (hullC l = hullL s) := by unfold Hid; rw [HHC.out, if_neg hone]
    clear hone HHC
    go_wp2_with (go_at_call 107; refine HCC.out.mono ?_; rintro e w4 ⟨rfl, hP4⟩)
    have HP4 := Lib.hid hP4
    have HQ4 : Hid (PtsAt w4 (some ⟨g, 0, none⟩) s) := by
      obtain ⟨a, c, e, hq⟩ := hP4.pts
      injection e with e1
      rw [← e1] at hq
      exact hq
    clear HCC HP3 hP4
    have HW41 : Hid (w1.heap.size ≤ w4.heap.size) := HP4.out.st.b.size
    have CL := leftTurns_any (some ⟨g, 0, none⟩) cap2 s w4 (by have := HL.out; have := HTWO.out; omega) HQ4.out
    refine CL.mono ?_
    rintro e w5 ⟨vb, rfl, P5⟩
    clear CL
    have hB5 : Below w4.heap.size w4 w5 := P5.st.b
    have HP5 := Lib.hid (HP4.out.next hB5)
    have hlen5 : 2 ≤ (ltR s).reverse.length := by rw [List.length_reverse]; exact ltR_two s (by have := HL.out; have := HTWO.out; omega)
    have HRES0 : Hid (hullL s = (ltR s).reverse.dropLast ++ (ltR s.reverse).reverse.dropLast) := rfl
    obtain ⟨A, hA⟩ : ∃ A, (ltR s).reverse = A := ⟨_, rfl⟩
    have HA200 : Hid ((ltR s).reverse.length ≤ 1000) := by unfold Hid; rw [List.length_reverse]; have := ltR_len _ s rfl; have := HL.out; omega
    rw [hA] at P5 hlen5 HRES0 HA200
    clear hA
    obtain ⟨g5, cap5, rfl, hg5, hcap5, hmax5⟩ := P5.shape (by omega)
    have HG5 := Lib.hid (And.intro hg5 (And.intro hcap5 hmax5))
    have HW4 : Hid (w.heap.size ≤ w4.heap.size) := Nat.le_trans HB1.out.size HP4.out.st.b.size
    have hgl : g < w4.heap.size := (holdsK_own HP4.out.own).2
    have HNE : Hid (g5 ≠ g) := by unfold Hid; omega
    have HO5 := Lib.hid P5.own
    have HLN5 := Lib.hid hlen5
    clear P5 HP4 HQ4 hB5 hg5 hcap5 hmax5 hgl hlen5
    have CR := revP_any (l := s) (cap := cap2) (g := g) HP5.out (by have := HL.out; have := HTWO.out; omega)
    have HCR := Lib.hid CR
    clear CR
    go_wp2_with (go_at_call 109; refine HCR.out.mono ?_; rintro e w6 ⟨rfl, P6, hg6⟩)
    have HO6 : Hid (w6.ownsRow w4.heap.size 23 2 (.slice (some ⟨g5, 0, none⟩) A.length cap5) A.length (flatP A)) := World.ownsRow.kept HO5.out hg6 (.inr (fun e => HNE.out (by simpa [Value.ownBlock] using e)))
    have HSR : Hid (s.reverse.length = s.length) := by unfold Hid; rw [List.length_reverse]
    have HP6 := Lib.hid P6
    have HQ6 : Hid (PtsAt w6 (some ⟨g, 0, none⟩) s.reverse) := by
      obtain ⟨a, c, e, hq⟩ := P6.pts
      injection e with e1
      rw [← e1] at hq
      exact hq
    clear P6 HO5 HP5 hg6
    have CL := leftTurns_any (some ⟨g, 0, none⟩) cap2 s.reverse w6 (by have := HL.out; have := HSR.out; have := HTWO.out; omega) HQ6.out
    rw [HSR.out] at CL
    refine CL.mono ?_
    rintro e w7 ⟨va, rfl, P7⟩
    clear CL
    have hB7 : Below w6.heap.size w6 w7 := P7.st.b
    have HO7 := Lib.hid (ownsRow_keep HO6.out hB7)
    have hlen7 : 2 ≤ (ltR s.reverse).reverse.length := by rw [List.length_reverse]; exact ltR_two _ (by have := HL.out; have := HSR.out; have := HTWO.out; omega)
    obtain ⟨g7, cap7, rfl, hg7, hcap7, hmax7⟩ := P7.shape (by omega)
    have HG7 := Lib.hid (And.intro hg7 (And.intro hcap7 hmax7))
    have HP7 := Lib.hid P7
    have HLN7 := Lib.hid hlen7
    have HBB : Hid (Below w.heap.size w w7) := (HB1.out).trans (((HP6.out.st.b).trans (hB7.mono HP6.out.st.b.size)).mono HB1.out.size)
    have HBW : Hid (w.heap.size ≤ w4.heap.size) := HW4
    clear P7 hB7 HO6 hg7 hcap7 hmax7 hlen7 HP6 HQ6
    obtain ⟨Z, hZ⟩ : ∃ A, (ltR s.reverse).reverse = A := ⟨_, rfl⟩
    have HZ200 : Hid ((ltR s.reverse).reverse.length ≤ 1000) := by unfold Hid; rw [List.length_reverse]; have := ltR_len _ s.reverse rfl; have := HL.out; have := HSR.out; have := HTWO.out; omega
    rw [hZ] at HLN7 HG7 HP7 HZ200
    have HRES : Hid (hullL s = A.dropLast ++ Z.dropLast) := by unfold Hid; rw [HRES0.out, hZ]
    simp only [hZ]
    clear hZ HRES0
    have HPA : Hid (PO w w.heap.size [] (.slice (some ⟨g5, 0, none⟩) (A.length - 1) cap5) A.dropLast w7) := by
      unfold Hid
      rw [List.dropLast_eq_take]
      exact (PO.of_own HBB.out HO7.out rfl HBW.out).take (A.length - 1) (by omega) (by have := HLN5.out; omega)
    have HPZ : Hid (PtsAt w7 (some ⟨g7, 0, none⟩) Z.dropLast) := by
      unfold Hid
      rw [List.dropLast_eq_take]
      obtain ⟨a, c, e, hq⟩ := (HP7.out.take (Z.length - 1) (by omega) (by have := HLN7.out; omega)).pts
      injection e with e1
      rw [← e1] at hq
      exact hq
    have HLAZ : Hid (A.dropLast.length + Z.dropLast.length ≤ 1000000) := by unfold Hid; rw [List.length_dropLast, List.length_dropLast]; have := HA200.out; have := HZ200.out; omega
    go_wp2_with (first | (go_at_call 110; with_reducible refine (withoutLast_any g5 0 A.length cap5 _ (by have := HLN5.out; omega) HG5.out.2.1 HG5.out.2.2).mono ?_; rintro e w' ⟨rfl, rfl⟩) | (go_at_call 110; with_reducible refine (withoutLast_any g7 0 Z.length cap7 _ (by have := HLN7.out; omega) HG7.out.2.1 HG7.out.2.2).mono ?_; rintro e w' ⟨rfl, rfl⟩) | (at_builtin; refine appM HPA.out Z.dropLast HLAZ.out g7 0 cap7 HPZ.out rfl _ _ rfl rfl (by rw [List.length_dropLast]; rfl) ?_; intro v' w' hPO))
    go_ret2
    refine ⟨_, rfl, ?_⟩
    rw [HHC2.out, HRES.out]
    exact hPO
end Go.Proofs.Ytdefpcjlbganpaa
namespace Go.Proofs.Ytdefpcjlbganpaa
open Go.RowKit Go.Shelf Go.BigFrame Go.Sort
attribute [local go_sem] Oper.semAt_some
attribute [local go_sem] World.cell?_alloc_some
open HM
theorem sg_le0 (n : Int) : sg n ≤ 0 ↔ n ≤ 0 := by unfold sg; split <;> (try split) <;> omega
theorem popR_A {p : Pt} (hp : okP p = true) : ∀ (st : List Pt), (∀ q ∈ st, okP q = true) → popR p st = popA p st
  | [], _ => rfl
  | [_], _ => rfl
  | b :: a :: r, h => by
    have e : (trn a b p ≤ 0) = (ar a b p ≤ 0) := by rw [trn_ok (h a (by simp)) (h b (by simp)) hp, propext (sg_le0 _)]
    unfold popR popA
    rw [popR_A hp (a :: r) (fun q hq => h q (List.mem_cons_of_mem _ hq))]
    by_cases hz : ar a b p ≤ 0
    · rw [if_pos hz, if_pos (by rw [e]; exact hz)]
    · rw [if_neg hz, if_neg (by rw [e]; exact hz)]
theorem foldR_A : ∀ (l st : List Pt), (∀ q ∈ st, okP q = true) → (∀ q ∈ l, okP q = true) → l.foldl (fun st p => p :: popR p st) st = l.foldl (fun st p => p :: popA p st) st
  | [], _, _, _ => rfl
  | p :: l, st, h1, h2 => by
    have hp := h2 p (by simp)
    rw [List.foldl_cons, List.foldl_cons, popR_A hp st h1]
    refine foldR_A l _ (fun q hq => ?_) (fun q hq => h2 q (List.mem_cons_of_mem _ hq))
    rcases List.mem_cons.1 hq with rfl | hq
    · exact hp
    · exact h1 q (popA_sub p st q hq)
theorem hullL_A {s : List Pt} (h : ∀ q ∈ s, okP q = true) : hullL s = hullA s := by
  have e1 : ltR s = chA s := foldR_A s [] (by simp) h
  have e2 : ltR s.reverse = chA s.reverse := foldR_A s.reverse [] (by simp) (fun q hq => h q (by simpa using hq))
  unfold hullL hullA
  rw [e1, e2]
theorem cpt_facts (d : Array Pt) (hs : ∀ i j, i < j → j < d.size → leP d[i]! d[j]!) : ∀ m, m + 1 ≤ d.size →
    (Go.Lib.compactUpTo d (m + 1)).Pairwise ltP ∧ (∀ x ∈ Go.Lib.compactUpTo d (m + 1), leP x d[m]!) ∧ (∀ j, j < m + 1 → d[j]! ∈ Go.Lib.compactUpTo d (m + 1)) ∧ (∀ x ∈ Go.Lib.compactUpTo d (m + 1), ∃ j, j < m + 1 ∧ x = d[j]!)
  | 0, _ => by
    rw [Go.Lib.compactUpTo_succ, Go.Lib.keeps_lt_one d 0 (by omega)]
    have e : Go.Lib.compactUpTo d 0 = [] := rfl
    rw [e]
    refine ⟨by simp, ?_, ?_, ?_⟩
    · intro x hx
      obtain rfl : x = d[0]! := by simpa using hx
      exact leP_rf _
    · intro j hj
      obtain rfl : j = 0 := by omega
      simp
    · intro x hx
      exact ⟨0, by omega, by simpa using hx⟩
  | m + 1, hm => by
    obtain ⟨h1, h2, h3, h4⟩ := cpt_facts d hs m (by omega)
    have hle := hs m (m + 1) (by omega) (by omega)
    rw [Go.Lib.compactUpTo_succ]
    by_cases hk : d[m + 1]! = d[m]!
    · rw [Go.Lib.keeps_neg (by omega) (by rw [hk]; rfl)]
      simp only [Bool.false_eq_true, if_false, List.append_nil]
      refine ⟨h1, fun x hx => by rw [hk]; exact h2 x hx, fun j hj => ?_, fun x hx => ?_⟩
      · rcases Nat.lt_or_ge j (m + 1) with h | h
        · exact h3 j h
        · obtain rfl : j = m + 1 := by omega
          rw [hk]; exact h3 m (by omega)
      · obtain ⟨j, hj, e⟩ := h4 x hx
        exact ⟨j, by omega, e⟩
    · rw [Go.Lib.keeps_pos (by exact hk)]
      simp only [if_true]
      have hlt : ltP d[m]! d[m + 1]! := by
        rcases leP_of.1 hle with h | h
        · exact h
        · exact absurd h.symm hk
      refine ⟨?_, ?_, ?_, ?_⟩
      · rw [List.pairwise_append]
        refine ⟨h1, by simp, fun x hx y hy => ?_⟩
        obtain rfl : y = d[m + 1]! := by simpa using hy
        rcases leP_of.1 (h2 x hx) with h | h
        · exact ltP_tr h hlt
        · rw [h]; exact hlt
      · intro x hx
        rw [List.mem_append] at hx
        rcases hx with hx | hx
        · exact leP_tr (h2 x hx) hle
        · obtain rfl : x = d[m + 1]! := by simpa using hx
          exact leP_rf _
      · intro j hj
        rw [List.mem_append]
        rcases Nat.lt_or_ge j (m + 1) with h | h
        · exact .inl (h3 j h)
        · obtain rfl : j = m + 1 := by omega
          exact .inr (by simp)
      · intro x hx
        rw [List.mem_append] at hx
        rcases hx with hx | hx
        · obtain ⟨j, hj, e⟩ := h4 x hx
          exact ⟨j, by omega, e⟩
        · exact ⟨m + 1, by omega, by simpa using hx⟩
theorem srtP_sorted (l : List Pt) : (srtP l).Pairwise leP := by
  have h := List.pairwise_mergeSort (le := fun x y => !(ltOf cmpP) y x) (fun a b c h1 h2 => by
    simp only [Bool.not_eq_true', ← Bool.not_eq_true] at h1 h2 ⊢
    rw [lt_cmpP] at h1 h2 ⊢
    omega) (fun a b => by
    simp only [Bool.or_eq_true, Bool.not_eq_true', ← Bool.not_eq_true]
    rw [lt_cmpP, lt_cmpP]
    omega) l
  refine h.imp (fun {a b} h => ?_)
  simp only [Bool.not_eq_true', ← Bool.not_eq_true] at h
  rw [lt_cmpP] at h
  unfold leP
  omega
theorem srtP_mem (l : List Pt) (q : Pt) : q ∈ srtP l ↔ q ∈ l := List.mem_mergeSort
theorem cptL_facts (l : List Pt) (h : 1 ≤ l.length) : (cptL (srtP l)).Pairwise ltP ∧ ∀ q, q ∈ cptL (srtP l) ↔ q ∈ l := by
  obtain ⟨s, hs⟩ : ∃ s, srtP l = s := ⟨_, rfl⟩
  have hso := srtP_sorted l
  have hme := srtP_mem l
  have hln := srtP_len l
  rw [hs] at hso hme hln ⊢
  unfold cptL
  obtain ⟨m, hm⟩ : ∃ m, s.length = m + 1 := ⟨s.length - 1, by omega⟩
  have ge : ∀ j, j < s.length → s[j]? = some s.toArray[j]! := fun j hj => by simp [hj]
  obtain ⟨h1, _, h3, h4⟩ := cpt_facts s.toArray (fun i j hij hj => by
    have hj' : j < s.length := by simpa using hj
    rw [List.pairwise_iff_getElem] at hso
    have := hso i j (by omega) hj' hij
    have e1 := ge i (by omega)
    have e2 := ge j hj'
    rw [List.getElem?_eq_getElem (by omega)] at e1 e2
    injection e1 with e1
    injection e2 with e2
    rw [← e1, ← e2]; exact this) m (by simp; omega)
  rw [hm]
  refine ⟨h1, fun q => ⟨fun hq => ?_, fun hq => ?_⟩⟩
  · obtain ⟨j, hj, e⟩ := h4 q hq
    have := ge j (by omega)
    rw [← e] at this
    exact (hme q).1 (List.mem_of_getElem? this)
  · obtain ⟨j, hj⟩ := List.getElem?_of_mem ((hme q).2 hq)
    have hjl : j < s.length := (List.getElem?_eq_some_iff.1 hj).1
    rw [ge j hjl] at hj
    injection hj with hj
    rw [← hj]
    exact h3 j (by omega)
/-- What the hull of points is: one point, or a closed way of edges. -/
theorem hullC_facts (l : List Pt) (h : 1 ≤ l.length) (hok : ∀ q ∈ l, okP q = true) :
    (∃ a, hullC l = [a] ∧ ∀ q, q ∈ l ↔ q = a) ∨ (∃ a t, hullC l = a :: t ∧ a ∉ t ∧ t ≠ [] ∧ Ch (HM.Edge l) (a :: (t ++ [a])) ∧ (∀ q ∈ hullC l, q ∈ l) ∧ ∀ q ∈ l, leP a q) := by
  obtain ⟨h1, h2⟩ := cptL_facts l h
  unfold hullC
  cases hc : cptL (srtP l) with
  | nil =>
    have := cptL_pos (srtP l) (by rw [srtP_len]; exact h)
    rw [hc] at this
    simp at this
  | cons a r =>
    rw [hc] at h1 h2
    cases r with
    | nil => exact .inl ⟨a, by simp, fun q => by rw [← h2 q]; simp⟩
    | cons b r =>
      right
      obtain ⟨t, e1, e2, e3, e4, e5⟩ := hull_closed a (b :: r) h1 (by simp)
      rw [if_neg (by simp), hullL_A (fun q hq => hok q ((h2 q).1 hq))]
      refine ⟨a, t, e1, e2, e3, ?_, fun q hq => (h2 q).1 (e5 q hq), fun q hq => ?_⟩
      · exact e4.imp (fun x y e => e.sub (fun q hq => (h2 q).2 hq) ((h2 x).1 e.1) ((h2 y).1 e.2.1))
      · have := (h2 q).2 hq
        rcases List.mem_cons.1 this with rfl | hq'
        · exact leP_rf _
        · rw [List.pairwise_cons] at h1
          exact leP_of.2 (.inl (h1.1 q hq'))
/-- The hull of the hull is the hull. -/
theorem hullC_again (l : List Pt) (h : 1 ≤ l.length) (hok : ∀ q ∈ l, okP q = true) : hullC (hullC l) = hullC l := by
  rcases hullC_facts l h hok with ⟨a, e, hq⟩ | ⟨a, t, e, n, ht, hch, hsub, hmin⟩
  · rw [e]
    rcases hullC_facts [a] (by simp) (by intro q hq'; obtain rfl : q = a := by simpa using hq'
                                         exact hok q ((hq q).2 rfl)) with ⟨b, e', hq'⟩ | ⟨b, t', e', n', ht', hch', hsub', _⟩
    · rw [e', show b = a from ((by simpa using (hq' b) : b = a))]
    · exfalso
      cases t' with
      | nil => exact ht' rfl
      | cons c t' =>
        have h1 : b = a := by simpa using hsub' b (by rw [e']; simp)
        have h2 : c = a := by simpa using hsub' c (by rw [e']; simp)
        exact n' (by rw [h1, h2]; simp)
  · have hok2 : ∀ q ∈ hullC l, okP q = true := fun q hq => hok q (hsub q hq)
    have hpos : 1 ≤ (hullC l).length := by rw [e]; simp
    have hch2 : Ch (HM.Edge (hullC l)) (a :: (t ++ [a])) := by
      have := hch.mem (T := fun q => q ∈ hullC l) (fun q hq => by
        rw [e]
        rw [List.mem_cons, List.mem_append, List.mem_singleton] at hq
        rw [List.mem_cons]
        rcases hq with h | h | h
        · exact .inl h
        · exact .inr h
        · exact .inl h)
      exact this.imp (fun x y h => h.2.2.sub hsub h.1 h.2.1)
    rcases hullC_facts (hullC l) hpos hok2 with ⟨b, e', hq'⟩ | ⟨b, t', e', n', ht', hch', hsub', hmin'⟩
    · exfalso
      cases t with
      | nil => exact ht rfl
      | cons c t =>
        have h1 : a = b := (hq' a).1 (by rw [e]; simp)
        have h2 : c = b := (hq' c).1 (by rw [e]; simp)
        exact n (by rw [h1, h2]; simp)
    · have hab : a = b := leP_anti (hmin b (hsub b (hsub' b (by rw [e']; simp)))) (hmin' a (by rw [e]; simp))
      subst hab
      rw [e', e, way_uniq t' t a hch' hch2 n' n]
end Go.Proofs.Ytdefpcjlbganpaa
namespace Go.Proofs.Ytdefpcjlbganpaa
open Go.RowKit Go.Shelf Go.BigFrame Go.Sort
attribute [local go_sem] Oper.semAt_some
attribute [local go_sem] World.cell?_alloc_some
open HM
/-- Points of a line, in order, lie in the box of the ends. -/
theorem onS_of {a b q : Pt} (ha : okP a = true) (hb : okP b = true) (hq : okP q = true) (hab : a ≠ b) (h0 : ar a b q = 0) (h : Btw a b q) : onS ⟨a, b⟩ q = true := by
  have ka := okP_small ha
  have kb := okP_small hb
  have hbox : (min a.x b.x ≤ q.x ∧ q.x ≤ max a.x b.x) ∧ (min a.y b.y ≤ q.y ∧ q.y ≤ max a.y b.y) := by
    unfold ar at h0
    have hne : a.x ≠ b.x ∨ a.y ≠ b.y := by
      rcases Int.decEq a.x b.x with h1 | h1
      · exact .inl h1
      · rcases Int.decEq a.y b.y with h2 | h2
        · exact .inr h2
        · obtain ⟨a1, a2⟩ := a
          obtain ⟨b1, b2⟩ := b
          exact absurd (by rw [Pt.mk.injEq]; exact ⟨h1, h2⟩) hab
    unfold Btw leP at h
    have hx : min a.x b.x ≤ q.x ∧ q.x ≤ max a.x b.x := by omega
    refine ⟨hx, ?_⟩
    rcases Int.lt_trichotomy a.x b.x with e | e | e
    · -- (b.x - a.x) (q.y - a.y) = (b.y - a.y) (q.x - a.x), 0 ≤ q.x - a.x ≤ b.x - a.x
      have hd : 0 < b.x - a.x := by omega
      have hu : 0 ≤ q.x - a.x ∧ q.x - a.x ≤ b.x - a.x := by omega
      generalize b.x - a.x = d at h0 hd hu
      generalize q.x - a.x = u at h0 hu
      have key : d * (q.y - a.y) = (b.y - a.y) * u := by omega
      rcases Int.le_total 0 (b.y - a.y) with s | s
      · have l1 : 0 ≤ (b.y - a.y) * u := Int.mul_nonneg s hu.1
        have l2 : (b.y - a.y) * u ≤ (b.y - a.y) * d := Int.mul_le_mul_of_nonneg_left hu.2 s
        rw [← key] at l1 l2
        rw [Int.mul_comm (b.y - a.y) d] at l2
        have m1 : 0 ≤ q.y - a.y := Int.le_of_mul_le_mul_left (by simpa using l1) hd
        have m2 : q.y - a.y ≤ b.y - a.y := Int.le_of_mul_le_mul_left l2 hd
        omega
      · have l1 : (b.y - a.y) * u ≤ 0 := Int.mul_nonpos_of_nonpos_of_nonneg s hu.1
        have l2 : (b.y - a.y) * d ≤ (b.y - a.y) * u := Int.mul_le_mul_of_nonpos_left s hu.2
        rw [← key] at l1 l2
        rw [Int.mul_comm (b.y - a.y) d] at l2
        have m1 : q.y - a.y ≤ 0 := Int.le_of_mul_le_mul_left (by simpa using l1) hd
        have m2 : b.y - a.y ≤ q.y - a.y := Int.le_of_mul_le_mul_left l2 hd
        omega
    · omega
    · have hd : 0 < a.x - b.x := by omega
      have hu : 0 ≤ a.x - q.x ∧ a.x - q.x ≤ a.x - b.x := by omega
      have key : (a.x - b.x) * (q.y - a.y) = (b.y - a.y) * (a.x - q.x) := by
        have e1 : (a.x - b.x) * (q.y - a.y) = -((b.x - a.x) * (q.y - a.y)) := by grind
        have e2 : (b.y - a.y) * (a.x - q.x) = -((b.y - a.y) * (q.x - a.x)) := by grind
        omega
      generalize a.x - b.x = d at key hd hu
      generalize a.x - q.x = u at key hu
      rcases Int.le_total 0 (b.y - a.y) with s | s
      · have l1 : 0 ≤ (b.y - a.y) * u := Int.mul_nonneg s hu.1
        have l2 : (b.y - a.y) * u ≤ (b.y - a.y) * d := Int.mul_le_mul_of_nonneg_left hu.2 s
        rw [← key] at l1 l2
        rw [Int.mul_comm (b.y - a.y) d] at l2
        have m1 : 0 ≤ q.y - a.y := Int.le_of_mul_le_mul_left (by simpa using l1) hd
        have m2 : q.y - a.y ≤ b.y - a.y := Int.le_of_mul_le_mul_left l2 hd
        omega
      · have l1 : (b.y - a.y) * u ≤ 0 := Int.mul_nonpos_of_nonpos_of_nonneg s hu.1
        have l2 : (b.y - a.y) * d ≤ (b.y - a.y) * u := Int.mul_le_mul_of_nonpos_left s hu.2
        rw [← key] at l1 l2
        rw [Int.mul_comm (b.y - a.y) d] at l2
        have m1 : q.y - a.y ≤ 0 := Int.le_of_mul_le_mul_left (by simpa using l1) hd
        have m2 : b.y - a.y ≤ q.y - a.y := Int.le_of_mul_le_mul_left l2 hd
        omega
  have hb' : okB (bxOf ⟨a, b⟩) = true := okB_iff2.2 (by simp only [bxOf]; omega)
  unfold onS
  rw [show okG ⟨a, b⟩ = true from by simp [okG, ha, hb, hab], show hds (bxOf ⟨a, b⟩) q = true from hds_iff.2 ⟨hb', by simp only [bxOf]; exact hbox⟩, trn_ok ha hb hq, h0]
  rfl
/-- What the law asks of a hull, by indices. -/
theorem hull_idx (l : List Pt) (h : 1 ≤ l.length) (hok : ∀ q ∈ l, okP q = true) (i : Nat) (a b : Pt) (hi : i < (hullC l).length) (ha : (hullC l)[i]? = some a) (hb : (hullC l)[(i + 1) % (hullC l).length]? = some b) :
    a ∈ l ∧ b ∈ l ∧ (2 < (hullC l).length → ∀ c, (hullC l)[(i + 2) % (hullC l).length]? = some c → trn a b c = 1) ∧
    ∀ q ∈ l, 0 ≤ trn a b q ∧ ((hullC l).length = 1 → q = a) ∧ ((hullC l).length = 2 → onS ⟨a, b⟩ q = true) := by
  rcases hullC_facts l h hok with ⟨m, e, hq⟩ | ⟨m, t, e, n, ht, hch, hsub, hmin⟩
  · rw [e] at hi ha hb ⊢
    obtain rfl : i = 0 := by simpa using hi
    obtain rfl : m = a := by simpa using ha
    obtain rfl : m = b := by simpa using hb
    have hm := (hq m).2 rfl
    refine ⟨hm, hm, fun h => by simp at h, fun q hql => ?_⟩
    obtain rfl := (hq q).1 hql
    refine ⟨?_, fun _ => rfl, fun h => by simp at h⟩
    rw [trn_ok (hok _ hm) (hok _ hm) (hok _ hm)]
    have : ar q q q = 0 := by unfold ar; grind
    rw [this]; decide
  · have hl : (hullC l).length = t.length + 1 := by rw [e]; rfl
    rw [hl] at hi hb ⊢
    rw [e] at ha hb ⊢
    have hE := way_edge hch i a b hi ha hb
    refine ⟨hE.1, hE.2.1, fun h2 c hc => ?_, fun q hql => ?_⟩
    · have hcl : c ∈ l := hsub c (by rw [e]; exact List.mem_of_getElem? hc)
      rw [trn_ok (hok _ hE.1) (hok _ hE.2.1) (hok _ hcl)]
      have := way_three hch n (by omega) i a b c hi ha hb hc
      unfold sg
      rw [if_pos this]
    · have hq0 := hE.2.2.2 q hql
      rw [trn_ok (hok _ hE.1) (hok _ hE.2.1) (hok _ hql)]
      refine ⟨?_, fun h => ?_, fun h => ?_⟩
      · unfold sg; split
        · decide
        · split
          · omega
          · decide
      · exfalso; apply ht; cases t with
        | nil => rfl
        | cons _ _ => simp at h
      · have hE2 : HM.Edge l b a := by
          have := way_edge hch ((i + 1) % (t.length + 1)) b a (Nat.mod_lt _ (by omega)) hb (by
            rw [Nat.mod_add_mod, show i + 1 + 1 = i + (t.length + 1) by omega, Nat.add_mod_right, Nat.mod_eq_of_lt hi]; exact ha)
          exact this
        have hq1 := hE2.2.2.2 q hql
        have e1 : ar b a q = -ar a b q := by unfold ar; grind
        rw [e1] at hq1
        exact onS_of (hok _ hE.1) (hok _ hE.2.1) (hok _ hql) hE.2.2.1 (by omega) (hq0.2 (by omega))
end Go.Proofs.Ytdefpcjlbganpaa
namespace Go.Proofs.Ytdefpcjlbganpaa
open Go.RowKit Go.Shelf Go.BigFrame Go.Sort
attribute [local go_sem] Oper.semAt_some
attribute [local go_sem] World.cell?_alloc_some
set_option maxRecDepth 100000 in
set_option maxHeartbeats 4000000 in
theorem has_yes (q : Option Addr) (cap : Nat) (l : List Pt) (p : Pt) (w : World) (hl : l.length ≤ 1000) (hp : PtsAt w q l) (hm : p ∈ l) :
    Calls Try.prog 69 #[.slice q l.length cap, p.v] w fun e w' => e = .returned (.bool true) ∧ Below w.heap.size w w' := by
  have HP := Lib.hid hp
  have HM := Lib.hid hm
  clear hp hm
  go_enter Try.func69, Try.ntmps69
  go_wp2_with fail
  obtain ⟨W0, hW0⟩ : ∃ W0, (w).alloc (.cells #[.int .i64 p.x, .int .i64 p.y] 23) = W0 := ⟨_, rfl⟩
  have S0 : St w W0 [(w.heap.size, 0, .int .i64 p.x), (w.heap.size, 1, .int .i64 p.y)] := by rw [← hW0]; exact ((St.nil w)).box #[.int .i64 p.x, .int .i64 p.y] 23 (w.heap.size) (by simp)
  rw [hW0]
  clear hW0
  obtain ⟨C, hC0, HC, LC, BC, hne⟩ := cls S0
  haveI := hne
  obtain ⟨c0, rfl⟩ : ∃ n : Wd C, W0 = n.w := ⟨⟨_, hC0⟩, rfl⟩
  have fC0 : ∀ n : Wd C, n.w.cell? ⟨w.heap.size, 0, none⟩ = some (.int .i64 p.x) := fun n => (LC.out n).1.2.1
  have fC1 : ∀ n : Wd C, n.w.cell? ⟨w.heap.size, 1, none⟩ = some (.int .i64 p.y) := fun n => (LC.out n).2.1.2.1
  clear S0 hC0
  go_loopw [5] (fun i wr => ∃ (k : Nat) (n : Wd C), wr = n.w ∧ i = .int .i64 (k : Int) ∧ k ≤ l.length ∧ Hid (∀ j, j < k → l[j]? ≠ some p)) (fun i wr => l.length - (intOf i).toNat)
  case atStart => exact ⟨0, c0, rfl, rfl, by omega, fun j hj => absurd hj (by omega)⟩
  case round =>
    obtain ⟨k, n, rfl, rfl, hk, A⟩ := hrel
    by_cases hlt : k < l.length
    · obtain ⟨x, hx⟩ : ∃ p, l[k]? = some p := ⟨_, List.getElem?_eq_getElem hlt⟩
      rcases HP.out with hnil | ⟨b, o, rfl, hbl, hc⟩
      · rw [hnil] at hlt; simp at hlt
      · have u := hc _ _ hx
        have g1 : ∀ n : Wd C, n.w.cell? ⟨b, o + k * 2, none⟩ = some (.int .i64 x.x) := fun n => ((BC.out n).cell (p := ⟨b, o + k * 2, none⟩) hbl).trans u.1
        have g2 : ∀ n : Wd C, n.w.cell? ⟨b, o + k * 2 + 1, none⟩ = some (.int .i64 x.y) := fun n => ((BC.out n).cell (p := ⟨b, o + k * 2 + 1, none⟩) hbl).trans u.2
        have HX := Lib.hid hx
        have ke := fun W => eqP_run x p W
        obtain ⟨z, hz⟩ : ∃ z, ptE x p = z := ⟨_, rfl⟩
        rw [hz] at ke
        have HZ := Lib.hid hz
        clear u hx hc hz
        go_wp2_with fail
        refine wp_region_in C (HC.out _ _ (Wd.h _) (below_dr _)) (by kernel_rfl) (by kernel_rfl) ?_
        repeat (go_big_quiet_step (first | fail))
        refine wpQuiet_nil ?_
        intro wx hwx
        obtain ⟨n2, rfl⟩ : ∃ n : Wd C, wx = n.w := ⟨⟨wx, hwx⟩, rfl⟩
        clear hwx
        cases z
        · go_wp2_with fail
          go_roundw
          case rel =>
            refine ⟨k + 1, n2, rfl, by simp, by omega, fun j hj => ?_⟩
            by_cases e : j = k
            · subst e
              rw [HX.out]
              intro e
              injection e with e
              have := HZ.out
              rw [e] at this
              simp [ptE] at this
            · exact A.out j (by omega)
          case measure => simp [intOf]; omega
        · go_wp2_with fail
          go_ret
          exact ⟨rfl, BC.out _⟩
    · exfalso
      obtain ⟨j, hj⟩ := List.getElem?_of_mem HM.out
      exact A.out j (by have := (List.getElem?_eq_some_iff.1 hj).1; omega) hj
set_option maxHeartbeats 4000000 in
theorem Hull_err (q : Option Addr) (cap : Nat) (l : List Pt) (w : World) (hl : l.length ≤ 140737488355327) (hp : PtsAt w q l) (he : ck 1 l ≠ 0) :
    Calls Try.prog 39 #[.slice q l.length cap] w fun e w' => e = .returned (.tuple #[.slice none 0 0, .int .i64 (ck 1 l)]) ∧ Below w.heap.size w w' := by
  have C0 := checkPoints_any 1 q cap l w hl hp
  obtain ⟨c, hc⟩ : ∃ c, ck 1 l = c := ⟨_, rfl⟩
  rw [hc] at C0 he ⊢
  have HC0 := Lib.hid C0
  have he' : (c == 0) = false := by simpa using he
  have he2 : (c != 0) = true := by simpa using he
  clear C0 hc hp
  go_enter Try.func39, Try.ntmps39
  go_wp2_with (go_at_call 102; refine HC0.out.mono ?_; rintro e w1 ⟨rfl, hb1⟩)
  go_ret2
  exact ⟨rfl, hb1⟩
end Go.Proofs.Ytdefpcjlbganpaa
