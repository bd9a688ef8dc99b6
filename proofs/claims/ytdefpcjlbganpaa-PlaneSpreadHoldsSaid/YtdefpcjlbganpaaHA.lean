import Derived.Test.YtdefpcjlbganpaaAround1
import Derived.WalkKit
import Derived.LoopTactic
import Derived.WalkSpells
import Derived.WalkLawsBesides
import Derived.Lib.Hide
import Derived.BigQuiet
import Derived.IntWalk
import Derived.Deep.DeepMust
import Derived.WalkSmall
import Derived.StillTailTactics
import Derived.Deep.RegionLaw
import Derived.Deep.RegionHeld3
import Derived.Deep.QuietTactic
import Derived.Deep.DeepCutAuto
import Derived.Sort.Grow
import Derived.Laws.AppendOwn
import Derived.Deep.CutBlock
import Derived.RangeFuncNested
import Derived.RangeFuncBox
import Derived.RangeFuncBound
import Derived.RangeFuncCalls
import Derived.RangeFuncLeaves
import Derived.Shelf.Abstract
import Derived.Shelf.RegionOpen
import Derived.BigRegionIn
import Derived.Stop.RegionWithIn
import Derived.OwnWalkIn
import Derived.TacticsInMore
import Derived.LoopNIn
import Derived.LoopIn
import Derived.Test.YtdefpcjlbganpaaMRd
import Derived.Test.YtdefpcjlbganpaaRSpr
import Derived.Test.YtdefpcjlbganpaaMCut
import Derived.Test.YtdefpcjlbganpaaMBxs
import Derived.Lib.MinMax
namespace Go.Proofs.Ytdefpcjlbganpaa
open Go.RowKit Go.BigFrame Go.Sort
attribute [local go_sem] World.cell?_alloc_some
/-! A region with a quiet head, a forced middle that makes memory, and a quiet end. -/
section
variable {P : Program} {ops : Array Oper} {md : Region.Mode} {C : World → Prop}
/-- Each of the later operations waits for one of them. -/
def chain2B (md : Region.Mode) (ops : Array Oper) (n : Nat) : Bool := (List.range ops.size).all fun t => decide (t ≤ n) || (List.range t).any fun s => decide (n ≤ s) && Region.waitsFor md ops t s
theorem tail_waits2 {n : Nat} {li : Array Bool} (hs : Region.sinkB md ops n = true) (hc : chain2B md ops n = true) (hn : n < ops.size) (inv : HeadInv md ops n li) (i : Nat) (hi : i < n) (hun : li.getD i true = false) : ∀ t, n ≤ t → t ∉ Region.ready md ops li := by
  intro t ht hr
  obtain ⟨_, ot, hot, hall⟩ := mem_ready.1 hr
  have htlt : t < ops.size := (Array.getElem?_eq_some_iff.1 hot).1
  by_cases htn : t = n
  · subst htn
    have hT : ∀ d i, t - i = d → i < t → li.getD i true = false → False := by
      intro d
      induction d using Nat.strongRecOn with
      | _ d ih =>
        intro i hd hi hun
        have h1 := List.all_eq_true.1 hs i (List.mem_range.2 hi)
        obtain ⟨j, hj, hj2⟩ := List.any_eq_true.1 h1
        simp only [Bool.and_eq_true, decide_eq_true_eq] at hj2
        obtain ⟨oj, hoj, e, he, hb, hon⟩ := Region.waitsFor_spec hj2.2
        have hjle : j ≤ t := by have := List.mem_range.1 hj; omega
        by_cases hjt : j = t
        · subst hjt
          have : oj = ot := Option.some.inj (hoj.symm.trans hot)
          subst this
          have h2 := hall e he hb
          rw [hon, getD_both hun] at h2
          cases h2
        · cases hl : li.getD j false with
          | true =>
            have h2 := inv.closed j oj hoj hl e he hb
            rw [hon, getD_both hun] at h2
            cases h2
          | false =>
            have hjs : j < li.size := by rw [inv.size]; omega
            exact ih (t - j) (by omega) j rfl (by omega) (getD_in hjs hl)
    exact hT (t - i) i rfl hi hun
  · have h1 := List.all_eq_true.1 hc t (List.mem_range.2 htlt)
    simp only [Bool.or_eq_true, decide_eq_true_eq] at h1
    rcases h1 with h1 | h1
    · omega
    · obtain ⟨s, hs1, hs2⟩ := List.any_eq_true.1 h1
      simp only [Bool.and_eq_true, decide_eq_true_eq] at hs2
      obtain ⟨o', ho', e, he, hb, hon⟩ := Region.waitsFor_spec hs2.2
      have : o' = ot := Option.some.inj (ho'.symm.trans hot)
      subst this
      have h2 := hall e he hb
      have hst := List.mem_range.1 hs1
      rw [hon, getD_both (inv.tail s hs2.1 (by omega))] at h2
      cases h2
theorem Ahead.pick2 {n i : Nat} {oi : Oper} {v : Value} {L : Array Bool → Act → Prop} (hi : ops[i]? = some oi) (hsel : ∀ (j : Nat) (o : Oper) cs b, ops[j]? = some o → o.op ≠ .select cs b)
    (hs : Region.sinkB md ops n = true) (hc : chain2B md ops n = true) (hn : n < ops.size) (hin : i < n) (hend : ∀ li a, L li a → ∀ j ∈ Region.ready md ops li, n ≤ j) (f : Nat) :
    ∀ (li : Array Bool) (a : Act), HeadInv md ops n li →
      (∀ j oj, ops[j]? = some oj → j ≠ i → li.getD j true = false → (∀ e ∈ oj.after, Region.binds md e = true → e.on ≠ i) → oi.apart ops oj = true) →
      i ∈ Region.ready md ops li → YieldsIn P ops C oi v a → Ahead P md ops C n L f (li.setIfInBounds i true) (a.put oi.dst v) → Ahead P md ops C n L (f + 1) li a := by
  induction f with
  | zero =>
    intro li a inv _ hr hy H
    refine ⟨fun e => absurd hr (by rw [e]; simp), fun j hj => ?_⟩
    have hjn : j < n := (Nat.lt_or_ge j n).resolve_right fun h => absurd hj (tail_waits2 hs hc hn inv i hin (mem_ready.1 hr).1 j h)
    rcases Nat.decEq j i with hne | rfl
    · have := hend _ _ H j (ready_mono hj hne)
      omega
    · exact ⟨hjn, hy.qOp hi H⟩
  | succ f ih =>
    intro li a inv hap hr hy H
    refine ⟨fun e => absurd hr (by rw [e]; simp), fun j hj => ?_⟩
    have hjn : j < n := (Nat.lt_or_ge j n).resolve_right fun h => absurd hj (tail_waits2 hs hc hn inv i hin (mem_ready.1 hr).1 j h)
    rcases Nat.decEq j i with hne | rfl
    · obtain ⟨hju, oj, hoj, hall⟩ := mem_ready.1 hj
      have hno : ∀ e ∈ oj.after, Region.binds md e = true → e.on ≠ i := fun e he hb heq => by
        have h1 := hall e he hb
        rw [heq, getD_both (mem_ready.1 hr).1] at h1
        cases h1
      refine ⟨hjn, qOp_mono (fun a' h3 => ih (li.setIfInBounds j true) a' (inv.set hj hjn) (fun k ok hk hki hu hno' => hap k ok hk hki ?_ hno') (ready_mono hr (Ne.symm hne)) h3.1 ?_)
        (qOp_put hoj (hap j oj hoj hne hju hno) (fun cs b => hsel i oi cs b hi) (fun cs b => hsel j oj cs b hoj) hy (H.2 j (ready_mono hj hne)).2)⟩
      · rcases Nat.decEq j k with hjk | rfl
        · rwa [getD_set_ne true hjk] at hu
        · exact hju
      · rw [Array.setIfInBounds_comm _ _ hne]; exact h3.2
    · exact ⟨hjn, hy.qOp hi H⟩
def midB (md : Region.Mode) (ops : Array Oper) (g : Nat) : Nat → Nat → Array Bool → Bool
  | 0, k, li => Region.lexFrom md ops g k li
  | m + 1, k, li => decide (Region.ready md ops li = [k]) && midB md ops g m (k + 1) (li.setIfInBounds k true)
def headB (md : Region.Mode) (ops : Array Oper) (m g : Nat) : Nat → Nat → Array Bool → Bool
  | 0, k, li => midB md ops g m k li
  | f + 1, k, li => (Region.ready md ops li).contains k && Region.free md ops li k && headB md ops m g f (k + 1) (li.setIfInBounds k true)
theorem midB_ready {g m k : Nat} {li : Array Bool} (h : midB md ops g (m + 1) k li = true) : ∀ j ∈ Region.ready md ops li, k ≤ j := by
  intro j hj
  simp only [midB, Bool.and_eq_true, decide_eq_true_eq] at h
  rw [h.1] at hj
  have : j = k := by simpa using hj
  omega
theorem Ahead.lex2 {n m g : Nat} {Lq : Act → Prop} (hsel : Region.noSelect ops = true) (hs : Region.sinkB md ops n = true) (hc : chain2B md ops n = true) (hn : n < ops.size) :
    ∀ (l : List Oper) (k : Nat) (li : Array Bool) (a : Act), (∀ j, j < l.length → l[j]? = ops[k + j]?) → k + l.length = n → HeadInv md ops n li → headB md ops (m + 1) g l.length k li = true →
      wpQuiet P ops C Lq l a → Ahead P md ops C n (fun li' a' => midB md ops g (m + 1) n li' = true ∧ Lq a') l.length li a := by
  intro l
  induction l with
  | nil =>
    intro k li a _ hk _ hB h
    obtain rfl : k = n := by simpa using hk
    exact ⟨by simpa [headB] using hB, h⟩
  | cons o l ih =>
    intro k li a hl hk inv hB h
    have h0 : ops[k]? = some o := by simpa using (hl 0 (by simp)).symm
    simp only [List.length_cons, headB, Bool.and_eq_true] at hB hk
    have hr : k ∈ Region.ready md ops li := by simpa using hB.1.1
    have hq : qOp P ops C k (wpQuiet P ops C Lq l) a := by unfold qOp; simp only [h0]; exact h
    obtain ⟨v, hy, hK⟩ := yieldsIn_of_qOp h0 hq
    refine Ahead.pick2 h0 (Region.noSelect_spec hsel) hs hc hn (by omega) (fun li' a' hL => midB_ready hL.1) l.length li a inv (Region.free_spec h0 hB.1.2) hr hy
      (ih (k + 1) _ _ (fun j hj => ?_) (by omega) (inv.set hr (by omega)) hB.2 hK)
    have := hl (j + 1) (by simp; omega)
    simpa [Nat.add_assoc, Nat.add_comm 1 j] using this
/-- What is asked behind the middle. -/
def QMid (P : Program) (ops : Array Oper) (C : World → Prop) (Q : Exit → Act → World → Prop) (l : List Oper) (e : Exit) (a : Act) (w : World) : Prop :=
  match e with
  | .normal => C w ∧ wpQuiet P ops C (fun a' => ∀ w', C w' → Q .normal a' w') l a
  | e => Q e a w
theorem QMid.pan {Q : Exit → Act → World → Prop} {l : List Oper} : (∀ c a w, QMid P ops C Q l (.panic c) a w → Q (.panic c) a w) ∧ (LetsOut (QMid P ops C Q l) → LetsOut Q) := ⟨fun _ _ _ h => h, fun ⟨a, w, h⟩ => ⟨a, w, h⟩⟩
theorem upon_mid {o : Oper} {a : Act} {K K' : Act → World → Prop} {Q Q' : Exit → Act → World → Prop} (hK : ∀ a w, K a w → K' a w) (hQ : (∀ c a w, Q (.panic c) a w → Q' (.panic c) a w) ∧ (LetsOut Q → LetsOut Q')) : ∀ r, o.upon P a K Q r → o.upon P a K' Q' r := by
  intro r h
  unfold Oper.upon at h ⊢
  split at h
  · exact hK _ _ h
  · exact hK _ _ h
  · exact hK _ _ h
  · refine h.mono fun e w'' he => ?_
    cases e with
    | returned v => exact hK _ _ he
    | panicked c => exact hQ.1 _ _ _ he
    | outgrown => exact hQ.2 he
  · exact h.mono fun v w'' hv => hK _ _ hv
  · exact hQ.1 _ _ _ h
  · exact h
theorem wpAny_of_mid (hsel : Region.noSelect ops = true) {g : Nat} {Q : Exit → Act → World → Prop} {l2 : List Oper} (hg : l2.length = g) : ∀ (l1 : List Oper) (k : Nat) (li : Array Bool) (a : Act) (w : World), (∀ j, (l1 ++ l2)[j]? = ops[k + j]?) →
    midB md ops g l1.length k li = true → wpList P ops (QMid P ops C Q l2) l1 a w → wpAny P md ops Q (l1.length + g) li a w
  | [], k, li, a, w, hl, hB, h => by
    obtain ⟨hC, hq⟩ := h
    rw [List.length_nil, Nat.zero_add, ← hg]
    refine wpAny_of_quiet (Q := fun a' => ∀ w', C w' → Q .normal a' w') (fun _ w' hw' h => h w' hw') _ _ _ _ hC ?_
    exact wpAnyQ_lex (C := C) hsel l2 k li a (by simpa using hl) (by rw [hg]; exact hB) hq
  | o :: l1, k, li, a, w, hl, hB, h => by
    have h0 : ops[k]? = some o := by simpa using (hl 0).symm
    simp only [List.length_cons, midB, Bool.and_eq_true, decide_eq_true_eq] at hB
    rw [List.length_cons, show l1.length + 1 + g = l1.length + g + 1 from by omega]
    refine ⟨fun h1 => (by rw [hB.1] at h1; cases h1), fun i hi => ?_⟩
    rw [hB.1] at hi
    obtain rfl : i = k := by simpa using hi
    have ih := fun a' w' (h' : wpList P ops (QMid P ops C Q l2) l1 a' w') => wpAny_of_mid hsel hg l1 (i + 1) (li.setIfInBounds i true) a' w' (fun j => by have := hl (j + 1); simpa [Nat.add_assoc, Nat.add_comm 1 j] using this) hB.2 h'
    unfold wpOp
    simp only [h0]
    unfold wpList at h
    split at h
    · rename_i hw
      rw [if_pos hw]
      rcases h with h | ⟨h1, h2⟩
      · exact .inl (upon_mid (fun a w h => ih a w h) QMid.pan _ h)
      · exact .inr ⟨h1, QMid.pan.2 h2⟩
    · rename_i hw
      rw [if_neg hw]
      exact ih _ _ h
/-- A region with a quiet head of n operations, m + 1 in a forced order that may make memory, and a quiet end. -/
theorem wp_region_mid {id : Nat} {Q : Exit → Act → World → Prop} {a : Act} {w : World} {l : List Oper} (n m : Nat) (C : World → Prop) (hC : C w.drew) (hm : P.follows .mixedOrders = true)
    (hB : (Region.noSelect l.toArray && decide (n + (m + 1) ≤ l.length) && Region.sinkB .any l.toArray n && chain2B .any l.toArray n && headB .any l.toArray (m + 1) (l.length - (n + (m + 1))) n 0 (Array.replicate l.toArray.size false)) = true)
    (h : wpQuiet P l.toArray (fun w' => ∃ n : Wd C, w' = n.w) (fun a' => ∀ w', C w' → wpList P l.toArray (QMid P l.toArray (fun w' => ∃ n : Wd C, w' = n.w) Q (l.drop (n + (m + 1)))) ((l.drop n).take (m + 1)) a' w') (l.take n) a) : (Code.region id l.toArray true).wp P Q a w := by
  have e : (fun w' => ∃ n : Wd C, w' = n.w) = C := funext fun w' => propext ⟨fun ⟨n, hn⟩ => hn ▸ n.h, fun hc => ⟨⟨w', hc⟩, rfl⟩⟩
  rw [e] at h
  simp only [Bool.and_eq_true, decide_eq_true_eq] at hB
  obtain ⟨⟨⟨⟨hsel, hn⟩, hs⟩, hc⟩, hlex⟩ := hB
  have ht : (l.take n).length = n := by rw [List.length_take]; omega
  have h1l : ((l.drop n).take (m + 1)).length = m + 1 := by rw [List.length_take, List.length_drop]; omega
  have h2l : (l.drop (n + (m + 1))).length = l.length - (n + (m + 1)) := List.length_drop
  have inv : HeadInv .any l.toArray n (Array.replicate l.toArray.size false) :=
    ⟨by simp, fun j oj _ hl => (by rw [getD_replicate_false] at hl; cases hl), fun t _ ht => getD_in (by simpa using ht) (getD_replicate_false _ _)⟩
  have H := Ahead.lex2 (md := .any) (m := m) (g := l.length - (n + (m + 1))) hsel hs hc (by simp; omega) (l.take n) 0 _ a (fun j hj => by rw [ht] at hj; simp [hj]) (by omega) inv (by rw [ht]; exact hlex) h
  refine wp_region_any hm ?_
  have hj : (l.drop n).take (m + 1) ++ l.drop (n + (m + 1)) = l.drop n := by
    rw [← List.drop_drop]; exact List.take_append_drop _ _
  have K := Ahead.any (Q := Q) (g := m + 1 + (l.length - (n + (m + 1)))) (fun li a' w' hw' hL => by
    have := wpAny_of_mid (md := .any) (Q := Q) hsel h2l ((l.drop n).take (m + 1)) n li a' w' (fun j => by rw [hj]; simp [List.getElem?_drop]) (by rw [h1l]; exact hL.1) (hL.2 w' hw')
    rwa [h1l] at this) _ _ _ _ hC H
  rw [ht, show n + (m + 1 + (l.length - (n + (m + 1)))) = l.toArray.size from by simp; omega] at K
  exact K
end
end Go.Proofs.Ytdefpcjlbganpaa
namespace Go.Proofs.Ytdefpcjlbganpaa
open Go.RowKit Go.Shelf Go.BigFrame
attribute [local go_sem] Oper.semAt_some
attribute [local go_sem] World.cell?_alloc_some
/-- A point of a box. -/
def InB (b : Bx) (p : Pt) : Prop := (b.x.lo ≤ p.x ∧ p.x ≤ b.x.hi) ∧ b.y.lo ≤ p.y ∧ p.y ≤ b.y.hi
theorem cr_in {b : Bx} (h : okB b = true) (i : Nat) : InB b (cr b i) := by
  have := okB_iff2.1 h
  unfold InB
  match i with
  | 0 => simp only [cr, h, if_true]; omega
  | 1 => simp only [cr, h, if_true]; omega
  | 2 => simp only [cr, h, if_true]; omega
  | n + 3 => simp only [cr, h, if_true]; omega
theorem lin1 {u lo x hi : Int} (h1 : lo ≤ x) (h2 : x ≤ hi) : u * lo ≤ u * x ∧ u * x ≤ u * hi ∨ u * hi ≤ u * x ∧ u * x ≤ u * lo := by
  rcases Int.le_total 0 u with h | h
  · exact .inl ⟨Int.mul_le_mul_of_nonneg_left h1 h, Int.mul_le_mul_of_nonneg_left h2 h⟩
  · exact .inr ⟨Int.mul_le_mul_of_nonpos_left h h2, Int.mul_le_mul_of_nonpos_left h h1⟩
/-- What is linear in both coordinates has its ends at corners. -/
theorem lin2 {b : Bx} (h : okB b = true) (u v c : Int) {p : Pt} (hp : InB b p) : (∃ i, i < 4 ∧ u * (cr b i).x + v * (cr b i).y + c ≤ u * p.x + v * p.y + c) ∧ (∃ i, i < 4 ∧ u * p.x + v * p.y + c ≤ u * (cr b i).x + v * (cr b i).y + c) := by
  have e0 : cr b 0 = ⟨b.x.lo, b.y.lo⟩ := by simp [cr, h]
  have e1 : cr b 1 = ⟨b.x.hi, b.y.lo⟩ := by simp [cr, h]
  have e2 : cr b 2 = ⟨b.x.hi, b.y.hi⟩ := by simp [cr, h]
  have e3 : cr b 3 = ⟨b.x.lo, b.y.hi⟩ := by simp [cr, h]
  rcases lin1 (u := u) hp.1.1 hp.1.2 with hx | hx <;> rcases lin1 (u := v) hp.2.1 hp.2.2 with hy | hy
  · exact ⟨⟨0, by omega, by rw [e0]; simp only; omega⟩, ⟨2, by omega, by rw [e2]; simp only; omega⟩⟩
  · exact ⟨⟨3, by omega, by rw [e3]; simp only; omega⟩, ⟨1, by omega, by rw [e1]; simp only; omega⟩⟩
  · exact ⟨⟨1, by omega, by rw [e1]; simp only; omega⟩, ⟨3, by omega, by rw [e3]; simp only; omega⟩⟩
  · exact ⟨⟨2, by omega, by rw [e2]; simp only; omega⟩, ⟨0, by omega, by rw [e0]; simp only; omega⟩⟩
theorem lin_a (a b c : Pt) : ar a b c = (b.y - c.y) * a.x + (c.x - b.x) * a.y + (b.x * c.y - b.y * c.x) := by unfold ar; grind
theorem lin_b (a b c : Pt) : ar a b c = (c.y - a.y) * b.x + (a.x - c.x) * b.y + (a.y * c.x - a.x * c.y) := by unfold ar; grind
theorem lin_c (a b c : Pt) : ar a b c = (a.y - b.y) * c.x + (b.x - a.x) * c.y + (a.x * b.y - a.y * b.x) := by unfold ar; grind
theorem sprd_in {a b c : Bx} (ha : okB a = true) (hb : okB b = true) (hc : okB c = true) {p q r : Pt} (hp : InB a p) (hq : InB b q) (hr : InB c r) : (sprd (cr a) (cr b) (cr c)).lo ≤ ar p q r ∧ ar p q r ≤ (sprd (cr a) (cr b) (cr c)).hi := by
  constructor
  · obtain ⟨i, hi, h1⟩ := (lin2 ha (q.y - r.y) (r.x - q.x) (q.x * r.y - q.y * r.x) hp).1
    rw [← lin_a, ← lin_a] at h1
    obtain ⟨j, hj, h2⟩ := (lin2 hb (r.y - (cr a i).y) ((cr a i).x - r.x) ((cr a i).y * r.x - (cr a i).x * r.y) hq).1
    rw [← lin_b, ← lin_b] at h2
    obtain ⟨k, hk, h3⟩ := (lin2 hc ((cr a i).y - (cr b j).y) ((cr b j).x - (cr a i).x) ((cr a i).x * (cr b j).y - (cr a i).y * (cr b j).x) hr).1
    rw [← lin_c, ← lin_c] at h3
    have := (sprd_le (cr a) (cr b) (cr c) i j k hi hj hk).1
    omega
  · obtain ⟨i, hi, h1⟩ := (lin2 ha (q.y - r.y) (r.x - q.x) (q.x * r.y - q.y * r.x) hp).2
    rw [← lin_a, ← lin_a] at h1
    obtain ⟨j, hj, h2⟩ := (lin2 hb (r.y - (cr a i).y) ((cr a i).x - r.x) ((cr a i).y * r.x - (cr a i).x * r.y) hq).2
    rw [← lin_b, ← lin_b] at h2
    obtain ⟨k, hk, h3⟩ := (lin2 hc ((cr a i).y - (cr b j).y) ((cr b j).x - (cr a i).x) ((cr a i).x * (cr b j).y - (cr a i).y * (cr b j).x) hr).2
    rw [← lin_c, ← lin_c] at h3
    have := (sprd_le (cr a) (cr b) (cr c) i j k hi hj hk).2
    omega
def clp (n : Int) (s : Sp) : Int := max s.lo (min s.hi n)
theorem sq_le_abs {x m : Int} (h : -m ≤ x ∧ x ≤ m) : x * x ≤ m * m := by
  have h1 : (m - x) * (m + x) ≥ 0 := Int.mul_nonneg (by omega) (by omega)
  have h2 : (m - x) * (m + x) = m * m - x * x := by grind
  omega
theorem sq_ge_abs {x m : Int} (h0 : 0 ≤ m) (h : m ≤ x ∨ x ≤ -m) : m * m ≤ x * x := by
  rcases h with h | h
  · have h1 : (x - m) * (x + m) ≥ 0 := Int.mul_nonneg (by omega) (by omega)
    have h2 : (x - m) * (x + m) = x * x - m * m := by grind
    omega
  · have h1 : (-x - m) * (-x + m) ≥ 0 := Int.mul_nonneg (by omega) (by omega)
    have h2 : (-x - m) * (-x + m) = x * x - m * m := by grind
    omega
theorem sq_eq_abs {x m : Int} (h : x = m ∨ x = -m) : x * x = m * m := by
  rcases h with rfl | rfl
  · rfl
  · grind
theorem apt_lo {s t : Sp} {x y : Int} (hx : s.lo ≤ x ∧ x ≤ s.hi) (hy : t.lo ≤ y ∧ y ≤ t.hi) : (aptS s t).lo * (aptS s t).lo ≤ (y - x) * (y - x) := by
  unfold aptS
  apply sq_ge_abs
  · simp only; omega
  · simp only; omega
theorem apt_hi {s t : Sp} {x y : Int} (hx : s.lo ≤ x ∧ x ≤ s.hi) (hy : t.lo ≤ y ∧ y ≤ t.hi) : (y - x) * (y - x) ≤ (aptS s t).hi * (aptS s t).hi := by
  unfold aptS
  apply sq_le_abs
  simp only; omega
theorem dst_in {a b : Bx} {p q : Pt} (hp : InB a p) (hq : InB b q) : (dstB a b).lo ≤ dq p q ∧ dq p q ≤ (dstB a b).hi := by
  unfold dstB dq
  have h1 := apt_lo hp.1 hq.1
  have h2 := apt_lo hp.2 hq.2
  have h3 := apt_hi hp.1 hq.1
  have h4 := apt_hi hp.2 hq.2
  simp only; omega
theorem clp_in {s : Sp} (h : s.lo ≤ s.hi) (n : Int) : s.lo ≤ clp n s ∧ clp n s ≤ s.hi := by unfold clp; omega
theorem apt_near {s t : Sp} (hs : s.lo ≤ s.hi) (ht : t.lo ≤ t.hi) : (clp (clp t.lo s) t - clp t.lo s) * (clp (clp t.lo s) t - clp t.lo s) = (aptS s t).lo * (aptS s t).lo := by
  apply sq_eq_abs
  unfold clp aptS
  simp only; omega
theorem near_is {a b : Bx} (ha : okB a = true) (hb : okB b = true) : dq ⟨clp b.x.lo a.x, clp b.y.lo a.y⟩ ⟨clp (clp b.x.lo a.x) b.x, clp (clp b.y.lo a.y) b.y⟩ = (dstB a b).lo := by
  have h1 := okB_iff2.1 ha
  have h2 := okB_iff2.1 hb
  unfold dq dstB
  simp only
  rw [apt_near (by omega) (by omega), apt_near (by omega) (by omega)]
theorem far_is {a b : Bx} (ha : okB a = true) (hb : okB b = true) : ∃ k, k < 16 ∧ dq (cr a (k / 4)) (cr b (k % 4)) = (dstB a b).hi := by
  have a0 : cr a 0 = ⟨a.x.lo, a.y.lo⟩ := by simp [cr, ha]
  have a1 : cr a 1 = ⟨a.x.hi, a.y.lo⟩ := by simp [cr, ha]
  have a2 : cr a 2 = ⟨a.x.hi, a.y.hi⟩ := by simp [cr, ha]
  have a3 : cr a 3 = ⟨a.x.lo, a.y.hi⟩ := by simp [cr, ha]
  have b0 : cr b 0 = ⟨b.x.lo, b.y.lo⟩ := by simp [cr, hb]
  have b1 : cr b 1 = ⟨b.x.hi, b.y.lo⟩ := by simp [cr, hb]
  have b2 : cr b 2 = ⟨b.x.hi, b.y.hi⟩ := by simp [cr, hb]
  have b3 : cr b 3 = ⟨b.x.lo, b.y.hi⟩ := by simp [cr, hb]
  have hX : (aptS a.x b.x).hi = b.x.hi - a.x.lo ∨ (aptS a.x b.x).hi = -(b.x.lo - a.x.hi) := by unfold aptS; simp only; omega
  have hY : (aptS a.y b.y).hi = b.y.hi - a.y.lo ∨ (aptS a.y b.y).hi = -(b.y.lo - a.y.hi) := by unfold aptS; simp only; omega
  unfold dstB
  simp only
  rcases hX with hX | hX <;> rcases hY with hY | hY <;> rw [hX, hY]
  · exact ⟨2, by omega, by rw [show 2 / 4 = 0 from rfl, show 2 % 4 = 2 from rfl, a0, b2]; rfl⟩
  · exact ⟨13, by omega, by rw [show 13 / 4 = 3 from rfl, show 13 % 4 = 1 from rfl, a3, b1]; unfold dq; grind⟩
  · exact ⟨7, by omega, by rw [show 7 / 4 = 1 from rfl, show 7 % 4 = 3 from rfl, a1, b3]; unfold dq; grind⟩
  · exact ⟨8, by omega, by rw [show 8 / 4 = 2 from rfl, show 8 % 4 = 0 from rfl, a2, b0]; unfold dq; grind⟩
theorem hds_in {b : Bx} (h : okB b = true) {p : Pt} : hds b p = true ↔ InB b p := by rw [hds_iff]; simp only [h, true_and]; exact Iff.rfl
theorem cut_in {a P Q : Bx} (h : cutB a = some (P, Q)) : okB P = true ∧ okB Q = true ∧ ∀ p, (InB P p ∨ InB Q p) ↔ InB a p := by
  obtain ⟨ha, _, _, hc⟩ := cut_some h ⟨0, 0⟩
  have hPQ : okB P = true ∧ okB Q = true := by
    have := cvB_is P Q
    rw [hc] at this
    simpa using this.symm
  refine ⟨hPQ.1, hPQ.2, fun p => ?_⟩
  obtain ⟨_, h1, _, _⟩ := cut_some h p
  rw [← hds_in hPQ.1, ← hds_in hPQ.2, ← hds_in ha, ← h1, Bool.or_eq_true]
theorem spr_cut {a b c P Q : Bx} (h : cutB a = some (P, Q)) (hb : okB b = true) (hc : okB c = true) :
    min (sprd (cr P) (cr b) (cr c)).lo (sprd (cr Q) (cr b) (cr c)).lo = (sprd (cr a) (cr b) (cr c)).lo ∧ max (sprd (cr P) (cr b) (cr c)).hi (sprd (cr Q) (cr b) (cr c)).hi = (sprd (cr a) (cr b) (cr c)).hi := by
  have ha := (cut_some h ⟨0, 0⟩).1
  obtain ⟨hP, hQ, hin⟩ := cut_in h
  obtain ⟨⟨k1, l1, e1⟩, k2, l2, e2⟩ := sprd_at (cr a) (cr b) (cr c)
  obtain ⟨⟨k3, l3, e3⟩, k4, l4, e4⟩ := sprd_at (cr P) (cr b) (cr c)
  obtain ⟨⟨k5, l5, e5⟩, k6, l6, e6⟩ := sprd_at (cr Q) (cr b) (cr c)
  have p3 := (sprd_in ha hb hc ((hin _).1 (.inl (cr_in hP (k3 / 16)))) (cr_in hb (k3 / 4 % 4)) (cr_in hc (k3 % 4))).1
  have p4 := (sprd_in ha hb hc ((hin _).1 (.inl (cr_in hP (k4 / 16)))) (cr_in hb (k4 / 4 % 4)) (cr_in hc (k4 % 4))).2
  have p5 := (sprd_in ha hb hc ((hin _).1 (.inr (cr_in hQ (k5 / 16)))) (cr_in hb (k5 / 4 % 4)) (cr_in hc (k5 % 4))).1
  have p6 := (sprd_in ha hb hc ((hin _).1 (.inr (cr_in hQ (k6 / 16)))) (cr_in hb (k6 / 4 % 4)) (cr_in hc (k6 % 4))).2
  rw [← e3] at p3
  rw [← e4] at p4
  rw [← e5] at p5
  rw [← e6] at p6
  constructor
  · have q : (sprd (cr P) (cr b) (cr c)).lo ≤ (sprd (cr a) (cr b) (cr c)).lo ∨ (sprd (cr Q) (cr b) (cr c)).lo ≤ (sprd (cr a) (cr b) (cr c)).lo := by
      rw [e1]
      rcases (hin _).2 (cr_in ha (k1 / 16)) with g | g
      · exact .inl (sprd_in hP hb hc g (cr_in hb _) (cr_in hc _)).1
      · exact .inr (sprd_in hQ hb hc g (cr_in hb _) (cr_in hc _)).1
    omega
  · have q : (sprd (cr a) (cr b) (cr c)).hi ≤ (sprd (cr P) (cr b) (cr c)).hi ∨ (sprd (cr a) (cr b) (cr c)).hi ≤ (sprd (cr Q) (cr b) (cr c)).hi := by
      rw [e2]
      rcases (hin _).2 (cr_in ha (k2 / 16)) with g | g
      · exact .inl (sprd_in hP hb hc g (cr_in hb _) (cr_in hc _)).2
      · exact .inr (sprd_in hQ hb hc g (cr_in hb _) (cr_in hc _)).2
    omega
theorem near_in {a b : Bx} (ha : okB a = true) (hb : okB b = true) : InB a ⟨clp b.x.lo a.x, clp b.y.lo a.y⟩ ∧ InB b ⟨clp (clp b.x.lo a.x) b.x, clp (clp b.y.lo a.y) b.y⟩ := by
  have h1 := okB_iff2.1 ha
  have h2 := okB_iff2.1 hb
  exact ⟨⟨clp_in (by omega) _, clp_in (by omega) _⟩, clp_in (by omega) _, clp_in (by omega) _⟩
theorem dst_cut {a b P Q : Bx} (h : cutB a = some (P, Q)) (hb : okB b = true) :
    min (dstB P b).lo (dstB Q b).lo = (dstB a b).lo ∧ max (dstB P b).hi (dstB Q b).hi = (dstB a b).hi := by
  have ha := (cut_some h ⟨0, 0⟩).1
  obtain ⟨hP, hQ, hin⟩ := cut_in h
  obtain ⟨k2, l2, e2⟩ := far_is ha hb
  obtain ⟨k4, l4, e4⟩ := far_is hP hb
  obtain ⟨k6, l6, e6⟩ := far_is hQ hb
  have n1 := near_in ha hb
  have n3 := near_in hP hb
  have n5 := near_in hQ hb
  have p3 := (dst_in ((hin _).1 (.inl n3.1)) n3.2).1
  rw [near_is hP hb] at p3
  have p5 := (dst_in ((hin _).1 (.inr n5.1)) n5.2).1
  rw [near_is hQ hb] at p5
  have p4 := (dst_in ((hin _).1 (.inl (cr_in hP (k4 / 4)))) (cr_in hb (k4 % 4))).2
  rw [e4] at p4
  have p6 := (dst_in ((hin _).1 (.inr (cr_in hQ (k6 / 4)))) (cr_in hb (k6 % 4))).2
  rw [e6] at p6
  constructor
  · have q : (dstB P b).lo ≤ (dstB a b).lo ∨ (dstB Q b).lo ≤ (dstB a b).lo := by
      rw [← near_is ha hb]
      rcases (hin _).2 n1.1 with g | g
      · exact .inl (dst_in g n1.2).1
      · exact .inr (dst_in g n1.2).1
    omega
  · have q : (dstB a b).hi ≤ (dstB P b).hi ∨ (dstB a b).hi ≤ (dstB Q b).hi := by
      rw [← e2]
      rcases (hin _).2 (cr_in ha (k2 / 4)) with g | g
      · exact .inl (dst_in g (cr_in hb _)).2
      · exact .inr (dst_in g (cr_in hb _)).2
    omega
end Go.Proofs.Ytdefpcjlbganpaa
namespace Go.Proofs.Ytdefpcjlbganpaa
open Go.RowKit Go.Shelf Go.BigFrame
attribute [local go_sem] Oper.semAt_some
attribute [local go_sem] World.cell?_alloc_some
theorem below_dN (w : World) (n : Nat) : Below w.heap.size w (w.drewN n) := ⟨rfl, rfl, rfl, Nat.le_refl _, fun _ _ => rfl⟩
set_option maxHeartbeats 400000 in
theorem lWithin_any (n : Int) (s : Sp) (w : World) : Calls Try.prog 71 #[.int .i64 n, s.v] w fun e w' => e = .returned (.bool (inS s n)) ∧ Below w.heap.size w w' := by
  go_enter Try.func71, Try.ntmps71
  go_wp2
  all_goals (go_ret; refine ⟨ret_bool ?_, ((St.nil w).al _).b⟩; simp [inS] <;> omega)
set_option maxHeartbeats 400000 in
theorem clamp_any (n : Int) (s : Sp) (w : World) : Calls Try.prog 132 #[.int .i64 n, s.v] w fun e w' => e = .returned (.int .i64 (clp n s)) ∧ Below w.heap.size w w' := by
  go_enter Try.func132, Try.ntmps132
  go_wp2
  go_ret
  exact ⟨rfl, ((St.nil w).al _).b⟩
def intoS (n : Int) (s : Sp) : Int := s.lo + n % (s.hi - s.lo + 1)
theorem into_in {s : Sp} (h : s.lo ≤ s.hi) (n : Int) : s.lo ≤ intoS n s ∧ intoS n s ≤ s.hi := by
  unfold intoS
  have h1 := Int.emod_nonneg n (show s.hi - s.lo + 1 ≠ 0 by omega)
  have h2 := Int.emod_lt_of_pos n (show 0 < s.hi - s.lo + 1 by omega)
  omega
set_option maxHeartbeats 1000000 in
theorem into_any (n : Int) (s : Sp) (w : World) (hs : okS s = true) (h0 : 0 ≤ n ∧ n ≤ 4294967295) : Calls Try.prog 131 #[.int .u32 n, s.v] w fun e w' => e = .returned (.int .i64 (intoS n s)) ∧ Below w.heap.size w w' := by
  have hb := okS_sm hs
  have hb' := okS_iff.1 hs
  obtain ⟨r, hr⟩ : ∃ r, intoS n s = r := ⟨_, rfl⟩
  obtain ⟨d, hd⟩ : ∃ d, s.hi - s.lo + 1 = d := ⟨_, rfl⟩
  obtain ⟨m, hm⟩ : ∃ m, n.tmod d = m := ⟨_, rfl⟩
  have hm2 : n % d = m := by rw [← hm, Int.tmod_eq_emod_of_nonneg h0.1]
  have hr2 : s.lo + m = r := by rw [← hr, intoS, hd, hm2]
  have hin := into_in (s := s) (by omega) n
  rw [hr] at hin
  have e0 : IntKind.i64.wrap n = n := (wrapEq _).trans (w64 (by omega))
  have e1 : IntKind.i64.wrap (s.hi - s.lo) = s.hi - s.lo := (wrapEq _).trans (w64 (by omega))
  have e2 : IntKind.i64.wrap (s.hi - s.lo + 1) = d := by rw [hd]; exact (wrapEq _).trans (w64 (by omega))
  have e3 : IntKind.i64.wrap (s.lo + m) = r := by rw [hr2]; exact (wrapEq _).trans (w64 (by omega))
  have e4 : IntKind.i64.wrap m = m := (wrapEq _).trans (w64 (by omega))
  have e5 : (d == 0) = false := by simp; omega
  have e6 : ¬ d = 0 := by omega
  have H := Lib.hid hin
  rw [hr]
  clear hr hd hm2 hr2 hin hb hb' hs h0
  go_enter Try.func131, Try.ntmps131
  go_wp2_with fail
  go_quiet (fail)
  go_wp2_with fail
  go_ret
  exact ⟨rfl, ((St.nil w).al _).b.trans ((below_dN _ _).mono (by simp))⟩
def pk (b : Bx) (x y : Int) : Pt := ⟨intoS x b.x, intoS y b.y⟩
theorem pk_in {b : Bx} (h : okB b = true) (x y : Int) : InB b (pk b x y) := by
  have h1 := okB_iff2.1 h
  exact ⟨into_in (by omega) _, into_in (by omega) _⟩
set_option maxRecDepth 100000 in
set_option maxHeartbeats 4000000 in
theorem pick_any (b : Bx) (x y : Int) (w : World) (hb : okB b = true) (hx : 0 ≤ x ∧ x ≤ 4294967295) (hy : 0 ≤ y ∧ y ≤ 4294967295) :
   Calls Try.prog 70 #[b.v, .agg #[.int .u32 x, .int .u32 y]] w fun e w' => e = .returned (pk b x y).v ∧ Below w.heap.size w w' := by
  obtain ⟨b1, b2⟩ := okB_iff.1 hb
  have C1 := fun W => into_any x b.x W b1 hx
  have C2 := fun W => into_any y b.y W b2 hy
  unfold pk
  obtain ⟨u, hu⟩ : ∃ u, intoS x b.x = u := ⟨_, rfl⟩
  obtain ⟨v, hv⟩ : ∃ u, intoS y b.y = u := ⟨_, rfl⟩
  rw [hu, hv]
  simp only [hu] at C1
  simp only [hv] at C2
  clear hu hv hb hx hy b1 b2
  go_enter Try.func70, Try.ntmps70
  go_wp2_with fail
  obtain ⟨W0, hW0⟩ : ∃ W0, (((w).alloc (.cells #[.int .i64 b.x.lo, .int .i64 b.x.hi, .int .i64 b.y.lo, .int .i64 b.y.hi] 60)).alloc (.cells #[.int .u32 (x), .int .u32 (y)] 85)).alloc (.cells #[.int .i64 (0), .int .i64 (0)] 23) = W0 := ⟨_, rfl⟩
  have S0 : St w W0 [(w.heap.size + 1 + 1, 0, .int .i64 (0)), (w.heap.size + 1 + 1, 1, .int .i64 (0)), (w.heap.size + 1, 0, .int .u32 (x)), (w.heap.size + 1, 1, .int .u32 (y)), (w.heap.size, 0, .int .i64 b.x.lo), (w.heap.size, 1, .int .i64 b.x.hi), (w.heap.size, 2, .int .i64 b.y.lo), (w.heap.size, 3, .int .i64 b.y.hi)] := by rw [← hW0]; exact ((((St.nil w)).box #[.int .i64 b.x.lo, .int .i64 b.x.hi, .int .i64 b.y.lo, .int .i64 b.y.hi] 60 (w.heap.size) (by simp)).box #[.int .u32 (x), .int .u32 (y)] 85 (w.heap.size + 1) (by simp)).box #[.int .i64 (0), .int .i64 (0)] 23 (w.heap.size + 1 + 1) (by simp)
  rw [hW0]
  clear hW0
  obtain ⟨C, hC0, HC, LC, BC, hne⟩ := cls S0
  haveI := hne
  obtain ⟨c0, rfl⟩ : ∃ n : Wd C, W0 = n.w := ⟨⟨_, hC0⟩, rfl⟩
  have fC0 : ∀ n : Wd C, n.w.cell? ⟨w.heap.size + 1 + 1, 0, none⟩ = some (.int .i64 (0)) := fun n => (LC.out n).1.2.1
  have zC0 : ∀ n : Wd C, n.w.frozen? ⟨w.heap.size + 1 + 1, 0, none⟩ = false := fun n => (LC.out n).1.2.2
  have fC1 : ∀ n : Wd C, n.w.cell? ⟨w.heap.size + 1 + 1, 1, none⟩ = some (.int .i64 (0)) := fun n => (LC.out n).2.1.2.1
  have zC1 : ∀ n : Wd C, n.w.frozen? ⟨w.heap.size + 1 + 1, 1, none⟩ = false := fun n => (LC.out n).2.1.2.2
  have fC2 : ∀ n : Wd C, n.w.cell? ⟨w.heap.size + 1, 0, none⟩ = some (.int .u32 (x)) := fun n => (LC.out n).2.2.1.2.1
  have fC3 : ∀ n : Wd C, n.w.cell? ⟨w.heap.size + 1, 1, none⟩ = some (.int .u32 (y)) := fun n => (LC.out n).2.2.2.1.2.1
  have fC4 : ∀ n : Wd C, n.w.cell? ⟨w.heap.size, 0, none⟩ = some (.int .i64 b.x.lo) := fun n => (LC.out n).2.2.2.2.1.2.1
  have fC5 : ∀ n : Wd C, n.w.cell? ⟨w.heap.size, 1, none⟩ = some (.int .i64 b.x.hi) := fun n => (LC.out n).2.2.2.2.2.1.2.1
  have fC6 : ∀ n : Wd C, n.w.cell? ⟨w.heap.size, 2, none⟩ = some (.int .i64 b.y.lo) := fun n => (LC.out n).2.2.2.2.2.2.1.2.1
  have fC7 : ∀ n : Wd C, n.w.cell? ⟨w.heap.size, 3, none⟩ = some (.int .i64 b.y.hi) := fun n => (LC.out n).2.2.2.2.2.2.2.1.2.1
  clear S0 hC0
  have D1 := cin HC C1
  have D2 := cin HC C2
  clear C1 C2
  refine wp_region_in_tail 11 C (HC.out _ _ (Wd.h _) (below_dr _)) (by kernel_rfl) (by kernel_rfl) ?_
  simp only [List.take_succ_cons, List.take_zero, List.drop_succ_cons, List.drop_zero]
  repeat (go_big_quiet_step (first | with_reducible exact (D1 _).out | with_reducible exact (D2 _).out))
  refine wpQuiet_nil ?_
  intro wx hwx
  obtain ⟨n2, rfl⟩ : ∃ n : Wd C, wx = n.w := ⟨⟨wx, hwx⟩, rfl⟩
  clear hwx D1 D2
  go_wp2_with fail
  refine bodyPost_ret (v := Pt.v ⟨u, v⟩) (by simp [results, Try.results70, go_sem, fC0, fC1]) rfl ⟨rfl, ?_⟩
  exact below_set (below_set (BC.out _) _ _ _ (by omega)) _ _ _ (by omega)
end Go.Proofs.Ytdefpcjlbganpaa
namespace Go.Proofs.Ytdefpcjlbganpaa
open Go.RowKit Go.Shelf Go.BigFrame
attribute [local go_sem] Oper.semAt_some
attribute [local go_sem] World.cell?_alloc_some
theorem ptsC3 (W : World) (n : Nat) (hn : W.heap.size = n) (a b c : Pt) (e : TypeId) : PtsAt (W.alloc (.cells #[.int .i64 a.x, .int .i64 a.y, .int .i64 b.x, .int .i64 b.y, .int .i64 c.x, .int .i64 c.y] e)) (some ⟨n, 0, none⟩) [a, b, c] := by
  subst hn
  refine Or.inr ⟨_, 0, rfl, by simp, fun j q hq => ?_⟩
  rw [Nat.zero_add]
  match j, hq with
  | 0, rfl => exact ⟨new_at W _ _ _ _ rfl, new_at W _ _ _ _ rfl⟩
  | 1, rfl => exact ⟨new_at W _ _ _ _ rfl, new_at W _ _ _ _ rfl⟩
  | 2, rfl => exact ⟨new_at W _ _ _ _ rfl, new_at W _ _ _ _ rfl⟩
theorem egs3 (p q r : Pt) : egs [p, q, r] = [(0, ⟨p, q⟩), (1, ⟨q, r⟩), (2, ⟨r, p⟩)] := by simp [egs, upto, eg, pt, List.range_succ]
theorem pm {p q : Pt} (hp : okP p = true) (hq : okP q = true) : -1099511627776 ≤ p.x * q.y ∧ p.x * q.y ≤ 1099511627776 := by
  have h1 := (okP_small hp).1
  have h2 := (okP_small hq).2
  exact mul_abs (A := 1048576) (B := 1048576) h1 h2
theorem awr3 {p q r : Pt} (hp : okP p = true) (hq : okP q = true) (hr : okP r = true) : awr (egs [p, q, r]) = ar p q r := by
  rw [egs3]
  simp only [awr, List.foldl_cons, List.foldl_nil, awStep]
  have a1 := pm hp hq
  have a2 := pm hq hp
  have a3 := pm hq hr
  have a4 := pm hr hq
  have a5 := pm hr hp
  have a6 := pm hp hr
  rw [w64 (n := p.x * q.y) (by omega), w64 (n := q.x * p.y) (by omega), w64 (n := q.x * r.y) (by omega), w64 (n := r.x * q.y) (by omega), w64 (n := r.x * p.y) (by omega), w64 (n := p.x * r.y) (by omega)]
  rw [w64 (n := p.x * q.y - q.x * p.y) (by omega), w64 (n := q.x * r.y - r.x * q.y) (by omega), w64 (n := r.x * p.y - p.x * r.y) (by omega)]
  rw [w64 (n := 0 + (p.x * q.y - q.x * p.y)) (by omega), w64 (n := 0 + (p.x * q.y - q.x * p.y) + (q.x * r.y - r.x * q.y)) (by omega), w64 (by omega)]
  unfold ar
  grind
theorem arRes3 {p q r : Pt} (hp : okP p = true) (hq : okP q = true) (hr : okP r = true) : arRes [p, q, r] = .tuple #[.int .i64 (ar p q r), .int .i64 0] := by
  unfold arRes
  rw [if_pos (ck_all (by simp) (by simp [hp, hq, hr])), awr3 hp hq hr]
theorem area3_any {p q r : Pt} (hp : okP p = true) (hq : okP q = true) (hr : okP r = true) (W : World) :
   Calls Try.prog 30 #[.slice (some ⟨W.heap.size, 0, none⟩) 3 3] (W.alloc (.cells #[.int .i64 p.x, .int .i64 p.y, .int .i64 q.x, .int .i64 q.y, .int .i64 r.x, .int .i64 r.y] 23)) fun e w' => e = .returned (.tuple #[.int .i64 (ar p q r), .int .i64 0]) ∧ Below W.heap.size W w' := by
  rw [← arRes3 hp hq hr]
  refine (Area_any (some ⟨W.heap.size, 0, none⟩) 3 [p, q, r] _ (by simp) (ptsC3 W _ rfl p q r 23)).mono ?_
  rintro e w' ⟨h1, h2⟩
  exact ⟨h1, (below_al W _).trans (h2.mono (by simp))⟩
theorem cin3 {C : World → Prop} (H : Hid (∀ W W', C W → Below W.heap.size W W' → C W')) {p q r : Pt} (hp : okP p = true) (hq : okP q = true) (hr : okP r = true) (n : Wd C) :
    Hid (Calls Try.prog 30 #[.slice (some ⟨n.w.heap.size, 0, none⟩) 3 3] (n.w.alloc (.cells #[.int .i64 p.x, .int .i64 p.y, .int .i64 q.x, .int .i64 q.y, .int .i64 r.x, .int .i64 r.y] 23)) fun e w'' => e = .returned (.tuple #[.int .i64 (ar p q r), .int .i64 0]) ∧ ∃ m : Wd C, w'' = m.w) :=
  Lib.hid ((area3_any hp hq hr n.w).mono fun _ _ h => ⟨h.1, ⟨⟨_, H.out _ _ n.h h.2⟩, rfl⟩⟩)
/-- Is a value among the first ones? -/
def anyE (f : Nat → Int) (v : Int) : Nat → Bool
  | 0 => false
  | k + 1 => anyE f v k || (f k == v)
theorem anyE_of {f : Nat → Int} {v : Int} {k : Nat} (e : v = f k) : ∀ {n}, k < n → anyE f v n = true
  | 0, h => absurd h (by omega)
  | n + 1, h => by
    rw [anyE]
    rcases Nat.lt_or_ge k n with h' | h'
    · rw [anyE_of e h']; rfl
    · obtain rfl : k = n := by omega
      rw [e]; simp
set_option maxRecDepth 100000 in
set_option maxHeartbeats 16000000 in
theorem attained_any (a b c : Bx) (s : Sp) (w : World) (ha : okB a = true) (hb : okB b = true) (hc : okB c = true)
   (hlo : ∃ k, k < 64 ∧ s.lo = ar (cr a (k / 16)) (cr b (k / 4 % 4)) (cr c (k % 4))) (hhi : ∃ k, k < 64 ∧ s.hi = ar (cr a (k / 16)) (cr b (k / 4 % 4)) (cr c (k % 4))) :
   Calls Try.prog 72 #[a.v, b.v, c.v, s.v] w fun e w' => e = .returned (.bool true) ∧ Below w.heap.size w w' := by
  have K1 := fun W => Corners_any a W
  have K2 := fun W => Corners_any b W
  have K3 := fun W => Corners_any c W
  have F1 : Hid (∀ i, okP (cr a i) = true) := fun i => cr_ok ha i
  have F2 : Hid (∀ i, okP (cr b i) = true) := fun i => cr_ok hb i
  have F3 : Hid (∀ i, okP (cr c i) = true) := fun i => cr_ok hc i
  obtain ⟨f, hf⟩ : ∃ f, cr a = f := ⟨_, rfl⟩
  obtain ⟨g, hg⟩ : ∃ f, cr b = f := ⟨_, rfl⟩
  obtain ⟨h, hh⟩ : ∃ f, cr c = f := ⟨_, rfl⟩
  simp only [hf] at K1 F1 hlo hhi
  simp only [hg] at K2 F2 hlo hhi
  simp only [hh] at K3 F3 hlo hhi
  obtain ⟨E, hE⟩ : ∃ E : Nat → Int, (fun k => ar (f (k / 16)) (g (k / 4 % 4)) (h (k % 4))) = E := ⟨_, rfl⟩
  have HE' : Hid (∀ k, ar (f (k / 16)) (g (k / 4 % 4)) (h (k % 4)) = E k) := fun k => by rw [← hE]
  have HL : Hid (anyE E s.lo 64 = true) := by obtain ⟨k, hk, e⟩ := hlo; exact anyE_of (by rw [← hE]; exact e) hk
  have HH : Hid (anyE E s.hi 64 = true) := by obtain ⟨k, hk, e⟩ := hhi; exact anyE_of (by rw [← hE]; exact e) hk
  clear hf hg hh hlo hhi ha hb hc hE
  go_enter Try.func72, Try.ntmps72
  go_wp2_with fail
  obtain ⟨W0, hW0⟩ : ∃ W0, ((((w).alloc (.cells #[.int .i64 a.x.lo, .int .i64 a.x.hi, .int .i64 a.y.lo, .int .i64 a.y.hi] 60)).alloc (.cells #[.int .i64 b.x.lo, .int .i64 b.x.hi, .int .i64 b.y.lo, .int .i64 b.y.hi] 60)).alloc (.cells #[.int .i64 c.x.lo, .int .i64 c.x.hi, .int .i64 c.y.lo, .int .i64 c.y.hi] 60)).alloc (.cells #[.int .i64 s.lo, .int .i64 s.hi] 58) = W0 := ⟨_, rfl⟩
  have S0 : St w W0 [(w.heap.size + 1 + 1 + 1, 0, .int .i64 s.lo), (w.heap.size + 1 + 1 + 1, 1, .int .i64 s.hi), (w.heap.size + 1 + 1, 0, .int .i64 c.x.lo), (w.heap.size + 1 + 1, 1, .int .i64 c.x.hi), (w.heap.size + 1 + 1, 2, .int .i64 c.y.lo), (w.heap.size + 1 + 1, 3, .int .i64 c.y.hi), (w.heap.size + 1, 0, .int .i64 b.x.lo), (w.heap.size + 1, 1, .int .i64 b.x.hi), (w.heap.size + 1, 2, .int .i64 b.y.lo), (w.heap.size + 1, 3, .int .i64 b.y.hi), (w.heap.size, 0, .int .i64 a.x.lo), (w.heap.size, 1, .int .i64 a.x.hi), (w.heap.size, 2, .int .i64 a.y.lo), (w.heap.size, 3, .int .i64 a.y.hi)] := by rw [← hW0]; exact (((((St.nil w)).box #[.int .i64 a.x.lo, .int .i64 a.x.hi, .int .i64 a.y.lo, .int .i64 a.y.hi] 60 (w.heap.size) (by simp)).box #[.int .i64 b.x.lo, .int .i64 b.x.hi, .int .i64 b.y.lo, .int .i64 b.y.hi] 60 (w.heap.size + 1) (by simp)).box #[.int .i64 c.x.lo, .int .i64 c.x.hi, .int .i64 c.y.lo, .int .i64 c.y.hi] 60 (w.heap.size + 1 + 1) (by simp)).box #[.int .i64 s.lo, .int .i64 s.hi] 58 (w.heap.size + 1 + 1 + 1) (by simp)
  rw [hW0]
  clear hW0
  obtain ⟨C, hC0, HC, LC, BC, hne⟩ := cls S0
  haveI := hne
  obtain ⟨c0, rfl⟩ : ∃ n : Wd C, W0 = n.w := ⟨⟨_, hC0⟩, rfl⟩
  have fC0 : ∀ n : Wd C, n.w.cell? ⟨w.heap.size + 1 + 1 + 1, 0, none⟩ = some (.int .i64 s.lo) := fun n => (LC.out n).1.2.1
  have fC1 : ∀ n : Wd C, n.w.cell? ⟨w.heap.size + 1 + 1 + 1, 1, none⟩ = some (.int .i64 s.hi) := fun n => (LC.out n).2.1.2.1
  have fC2 : ∀ n : Wd C, n.w.cell? ⟨w.heap.size + 1 + 1, 0, none⟩ = some (.int .i64 c.x.lo) := fun n => (LC.out n).2.2.1.2.1
  have fC3 : ∀ n : Wd C, n.w.cell? ⟨w.heap.size + 1 + 1, 1, none⟩ = some (.int .i64 c.x.hi) := fun n => (LC.out n).2.2.2.1.2.1
  have fC4 : ∀ n : Wd C, n.w.cell? ⟨w.heap.size + 1 + 1, 2, none⟩ = some (.int .i64 c.y.lo) := fun n => (LC.out n).2.2.2.2.1.2.1
  have fC5 : ∀ n : Wd C, n.w.cell? ⟨w.heap.size + 1 + 1, 3, none⟩ = some (.int .i64 c.y.hi) := fun n => (LC.out n).2.2.2.2.2.1.2.1
  have fC6 : ∀ n : Wd C, n.w.cell? ⟨w.heap.size + 1, 0, none⟩ = some (.int .i64 b.x.lo) := fun n => (LC.out n).2.2.2.2.2.2.1.2.1
  have fC7 : ∀ n : Wd C, n.w.cell? ⟨w.heap.size + 1, 1, none⟩ = some (.int .i64 b.x.hi) := fun n => (LC.out n).2.2.2.2.2.2.2.1.2.1
  have fC8 : ∀ n : Wd C, n.w.cell? ⟨w.heap.size + 1, 2, none⟩ = some (.int .i64 b.y.lo) := fun n => (LC.out n).2.2.2.2.2.2.2.2.1.2.1
  have fC9 : ∀ n : Wd C, n.w.cell? ⟨w.heap.size + 1, 3, none⟩ = some (.int .i64 b.y.hi) := fun n => (LC.out n).2.2.2.2.2.2.2.2.2.1.2.1
  have fC10 : ∀ n : Wd C, n.w.cell? ⟨w.heap.size, 0, none⟩ = some (.int .i64 a.x.lo) := fun n => (LC.out n).2.2.2.2.2.2.2.2.2.2.1.2.1
  have fC11 : ∀ n : Wd C, n.w.cell? ⟨w.heap.size, 1, none⟩ = some (.int .i64 a.x.hi) := fun n => (LC.out n).2.2.2.2.2.2.2.2.2.2.2.1.2.1
  have fC12 : ∀ n : Wd C, n.w.cell? ⟨w.heap.size, 2, none⟩ = some (.int .i64 a.y.lo) := fun n => (LC.out n).2.2.2.2.2.2.2.2.2.2.2.2.1.2.1
  have fC13 : ∀ n : Wd C, n.w.cell? ⟨w.heap.size, 3, none⟩ = some (.int .i64 a.y.hi) := fun n => (LC.out n).2.2.2.2.2.2.2.2.2.2.2.2.2.1.2.1
  clear S0 hC0
  have D1 := cin HC K1
  clear K1
  go_wp2_with (first | (go_at_call 57; with_reducible refine (D1 _).out.mono ?_; rintro e w' ⟨rfl, n, rfl⟩))
  obtain ⟨W0, hW0⟩ : ∃ W0, (n.w).alloc (.cells #[.int .i64 (f 0).x, .int .i64 (f 0).y, .int .i64 (f 1).x, .int .i64 (f 1).y, .int .i64 (f 2).x, .int .i64 (f 2).y, .int .i64 (f 3).x, .int .i64 (f 3).y] 68) = W0 := ⟨_, rfl⟩
  have S0 : St w W0 [(n.w.heap.size, 0, .int .i64 (f 0).x), (n.w.heap.size, 1, .int .i64 (f 0).y), (n.w.heap.size, 2, .int .i64 (f 1).x), (n.w.heap.size, 3, .int .i64 (f 1).y), (n.w.heap.size, 4, .int .i64 (f 2).x), (n.w.heap.size, 5, .int .i64 (f 2).y), (n.w.heap.size, 6, .int .i64 (f 3).x), (n.w.heap.size, 7, .int .i64 (f 3).y), (w.heap.size + 1 + 1 + 1, 0, .int .i64 s.lo), (w.heap.size + 1 + 1 + 1, 1, .int .i64 s.hi), (w.heap.size + 1 + 1, 0, .int .i64 c.x.lo), (w.heap.size + 1 + 1, 1, .int .i64 c.x.hi), (w.heap.size + 1 + 1, 2, .int .i64 c.y.lo), (w.heap.size + 1 + 1, 3, .int .i64 c.y.hi), (w.heap.size + 1, 0, .int .i64 b.x.lo), (w.heap.size + 1, 1, .int .i64 b.x.hi), (w.heap.size + 1, 2, .int .i64 b.y.lo), (w.heap.size + 1, 3, .int .i64 b.y.hi), (w.heap.size, 0, .int .i64 a.x.lo), (w.heap.size, 1, .int .i64 a.x.hi), (w.heap.size, 2, .int .i64 a.y.lo), (w.heap.size, 3, .int .i64 a.y.hi)] := by rw [← hW0]; exact ((⟨BC.out n, LC.out n⟩ : St w n.w _)).box #[.int .i64 (f 0).x, .int .i64 (f 0).y, .int .i64 (f 1).x, .int .i64 (f 1).y, .int .i64 (f 2).x, .int .i64 (f 2).y, .int .i64 (f 3).x, .int .i64 (f 3).y] 68 (n.w.heap.size) (by simp)
  rw [hW0]
  clear hW0
  obtain ⟨kD, hkk⟩ : ∃ k, n.w.heap.size = k := ⟨_, rfl⟩
  have gkD : w.heap.size ≤ kD := by rw [← hkk]; exact (BC.out n).size
  rw [hkk] at S0 ⊢
  clear hkk
  obtain ⟨D, hC0, HD, LD, BD, hne⟩ := cls S0
  haveI := hne
  obtain ⟨d0, rfl⟩ : ∃ n : Wd D, W0 = n.w := ⟨⟨_, hC0⟩, rfl⟩
  have fD0 : ∀ n : Wd D, n.w.cell? ⟨kD, 0, none⟩ = some (.int .i64 (f 0).x) := fun n => (LD.out n).1.2.1
  have fD1 : ∀ n : Wd D, n.w.cell? ⟨kD, 1, none⟩ = some (.int .i64 (f 0).y) := fun n => (LD.out n).2.1.2.1
  have fD2 : ∀ n : Wd D, n.w.cell? ⟨kD, 2, none⟩ = some (.int .i64 (f 1).x) := fun n => (LD.out n).2.2.1.2.1
  have fD3 : ∀ n : Wd D, n.w.cell? ⟨kD, 3, none⟩ = some (.int .i64 (f 1).y) := fun n => (LD.out n).2.2.2.1.2.1
  have fD4 : ∀ n : Wd D, n.w.cell? ⟨kD, 4, none⟩ = some (.int .i64 (f 2).x) := fun n => (LD.out n).2.2.2.2.1.2.1
  have fD5 : ∀ n : Wd D, n.w.cell? ⟨kD, 5, none⟩ = some (.int .i64 (f 2).y) := fun n => (LD.out n).2.2.2.2.2.1.2.1
  have fD6 : ∀ n : Wd D, n.w.cell? ⟨kD, 6, none⟩ = some (.int .i64 (f 3).x) := fun n => (LD.out n).2.2.2.2.2.2.1.2.1
  have fD7 : ∀ n : Wd D, n.w.cell? ⟨kD, 7, none⟩ = some (.int .i64 (f 3).y) := fun n => (LD.out n).2.2.2.2.2.2.2.1.2.1
  have fD8 : ∀ n : Wd D, n.w.cell? ⟨w.heap.size + 1 + 1 + 1, 0, none⟩ = some (.int .i64 s.lo) := fun n => (LD.out n).2.2.2.2.2.2.2.2.1.2.1
  have fD9 : ∀ n : Wd D, n.w.cell? ⟨w.heap.size + 1 + 1 + 1, 1, none⟩ = some (.int .i64 s.hi) := fun n => (LD.out n).2.2.2.2.2.2.2.2.2.1.2.1
  have fD10 : ∀ n : Wd D, n.w.cell? ⟨w.heap.size + 1 + 1, 0, none⟩ = some (.int .i64 c.x.lo) := fun n => (LD.out n).2.2.2.2.2.2.2.2.2.2.1.2.1
  have fD11 : ∀ n : Wd D, n.w.cell? ⟨w.heap.size + 1 + 1, 1, none⟩ = some (.int .i64 c.x.hi) := fun n => (LD.out n).2.2.2.2.2.2.2.2.2.2.2.1.2.1
  have fD12 : ∀ n : Wd D, n.w.cell? ⟨w.heap.size + 1 + 1, 2, none⟩ = some (.int .i64 c.y.lo) := fun n => (LD.out n).2.2.2.2.2.2.2.2.2.2.2.2.1.2.1
  have fD13 : ∀ n : Wd D, n.w.cell? ⟨w.heap.size + 1 + 1, 3, none⟩ = some (.int .i64 c.y.hi) := fun n => (LD.out n).2.2.2.2.2.2.2.2.2.2.2.2.2.1.2.1
  have fD14 : ∀ n : Wd D, n.w.cell? ⟨w.heap.size + 1, 0, none⟩ = some (.int .i64 b.x.lo) := fun n => (LD.out n).2.2.2.2.2.2.2.2.2.2.2.2.2.2.1.2.1
  have fD15 : ∀ n : Wd D, n.w.cell? ⟨w.heap.size + 1, 1, none⟩ = some (.int .i64 b.x.hi) := fun n => (LD.out n).2.2.2.2.2.2.2.2.2.2.2.2.2.2.2.1.2.1
  have fD16 : ∀ n : Wd D, n.w.cell? ⟨w.heap.size + 1, 2, none⟩ = some (.int .i64 b.y.lo) := fun n => (LD.out n).2.2.2.2.2.2.2.2.2.2.2.2.2.2.2.2.1.2.1
  have fD17 : ∀ n : Wd D, n.w.cell? ⟨w.heap.size + 1, 3, none⟩ = some (.int .i64 b.y.hi) := fun n => (LD.out n).2.2.2.2.2.2.2.2.2.2.2.2.2.2.2.2.2.1.2.1
  have fD18 : ∀ n : Wd D, n.w.cell? ⟨w.heap.size, 0, none⟩ = some (.int .i64 a.x.lo) := fun n => (LD.out n).2.2.2.2.2.2.2.2.2.2.2.2.2.2.2.2.2.2.1.2.1
  have fD19 : ∀ n : Wd D, n.w.cell? ⟨w.heap.size, 1, none⟩ = some (.int .i64 a.x.hi) := fun n => (LD.out n).2.2.2.2.2.2.2.2.2.2.2.2.2.2.2.2.2.2.2.1.2.1
  have fD20 : ∀ n : Wd D, n.w.cell? ⟨w.heap.size, 2, none⟩ = some (.int .i64 a.y.lo) := fun n => (LD.out n).2.2.2.2.2.2.2.2.2.2.2.2.2.2.2.2.2.2.2.2.1.2.1
  have fD21 : ∀ n : Wd D, n.w.cell? ⟨w.heap.size, 3, none⟩ = some (.int .i64 a.y.hi) := fun n => (LD.out n).2.2.2.2.2.2.2.2.2.2.2.2.2.2.2.2.2.2.2.2.2.1.2.1
  clear S0 hC0
  have D2 := cin HD K2
  clear K2 D1
  go_wp2_with (first | (go_at_call 57; with_reducible refine (D2 _).out.mono ?_; rintro e w' ⟨rfl, n, rfl⟩))
  obtain ⟨W0, hW0⟩ : ∃ W0, (n.w).alloc (.cells #[.int .i64 (g 0).x, .int .i64 (g 0).y, .int .i64 (g 1).x, .int .i64 (g 1).y, .int .i64 (g 2).x, .int .i64 (g 2).y, .int .i64 (g 3).x, .int .i64 (g 3).y] 68) = W0 := ⟨_, rfl⟩
  have S0 : St w W0 [(n.w.heap.size, 0, .int .i64 (g 0).x), (n.w.heap.size, 1, .int .i64 (g 0).y), (n.w.heap.size, 2, .int .i64 (g 1).x), (n.w.heap.size, 3, .int .i64 (g 1).y), (n.w.heap.size, 4, .int .i64 (g 2).x), (n.w.heap.size, 5, .int .i64 (g 2).y), (n.w.heap.size, 6, .int .i64 (g 3).x), (n.w.heap.size, 7, .int .i64 (g 3).y), (kD, 0, .int .i64 (f 0).x), (kD, 1, .int .i64 (f 0).y), (kD, 2, .int .i64 (f 1).x), (kD, 3, .int .i64 (f 1).y), (kD, 4, .int .i64 (f 2).x), (kD, 5, .int .i64 (f 2).y), (kD, 6, .int .i64 (f 3).x), (kD, 7, .int .i64 (f 3).y), (w.heap.size + 1 + 1 + 1, 0, .int .i64 s.lo), (w.heap.size + 1 + 1 + 1, 1, .int .i64 s.hi), (w.heap.size + 1 + 1, 0, .int .i64 c.x.lo), (w.heap.size + 1 + 1, 1, .int .i64 c.x.hi), (w.heap.size + 1 + 1, 2, .int .i64 c.y.lo), (w.heap.size + 1 + 1, 3, .int .i64 c.y.hi), (w.heap.size + 1, 0, .int .i64 b.x.lo), (w.heap.size + 1, 1, .int .i64 b.x.hi), (w.heap.size + 1, 2, .int .i64 b.y.lo), (w.heap.size + 1, 3, .int .i64 b.y.hi), (w.heap.size, 0, .int .i64 a.x.lo), (w.heap.size, 1, .int .i64 a.x.hi), (w.heap.size, 2, .int .i64 a.y.lo), (w.heap.size, 3, .int .i64 a.y.hi)] := by rw [← hW0]; exact ((⟨BD.out n, LD.out n⟩ : St w n.w _)).box #[.int .i64 (g 0).x, .int .i64 (g 0).y, .int .i64 (g 1).x, .int .i64 (g 1).y, .int .i64 (g 2).x, .int .i64 (g 2).y, .int .i64 (g 3).x, .int .i64 (g 3).y] 68 (n.w.heap.size) (by simp)
  rw [hW0]
  clear hW0
  obtain ⟨kG, hkk⟩ : ∃ k, n.w.heap.size = k := ⟨_, rfl⟩
  have gkG : w.heap.size ≤ kG := by rw [← hkk]; exact (BD.out n).size
  rw [hkk] at S0 ⊢
  clear hkk
  obtain ⟨G, hC0, HG, LG, BG, hne⟩ := cls S0
  haveI := hne
  obtain ⟨g0, rfl⟩ : ∃ n : Wd G, W0 = n.w := ⟨⟨_, hC0⟩, rfl⟩
  have fG0 : ∀ n : Wd G, n.w.cell? ⟨kG, 0, none⟩ = some (.int .i64 (g 0).x) := fun n => (LG.out n).1.2.1
  have fG1 : ∀ n : Wd G, n.w.cell? ⟨kG, 1, none⟩ = some (.int .i64 (g 0).y) := fun n => (LG.out n).2.1.2.1
  have fG2 : ∀ n : Wd G, n.w.cell? ⟨kG, 2, none⟩ = some (.int .i64 (g 1).x) := fun n => (LG.out n).2.2.1.2.1
  have fG3 : ∀ n : Wd G, n.w.cell? ⟨kG, 3, none⟩ = some (.int .i64 (g 1).y) := fun n => (LG.out n).2.2.2.1.2.1
  have fG4 : ∀ n : Wd G, n.w.cell? ⟨kG, 4, none⟩ = some (.int .i64 (g 2).x) := fun n => (LG.out n).2.2.2.2.1.2.1
  have fG5 : ∀ n : Wd G, n.w.cell? ⟨kG, 5, none⟩ = some (.int .i64 (g 2).y) := fun n => (LG.out n).2.2.2.2.2.1.2.1
  have fG6 : ∀ n : Wd G, n.w.cell? ⟨kG, 6, none⟩ = some (.int .i64 (g 3).x) := fun n => (LG.out n).2.2.2.2.2.2.1.2.1
  have fG7 : ∀ n : Wd G, n.w.cell? ⟨kG, 7, none⟩ = some (.int .i64 (g 3).y) := fun n => (LG.out n).2.2.2.2.2.2.2.1.2.1
  have fG8 : ∀ n : Wd G, n.w.cell? ⟨kD, 0, none⟩ = some (.int .i64 (f 0).x) := fun n => (LG.out n).2.2.2.2.2.2.2.2.1.2.1
  have fG9 : ∀ n : Wd G, n.w.cell? ⟨kD, 1, none⟩ = some (.int .i64 (f 0).y) := fun n => (LG.out n).2.2.2.2.2.2.2.2.2.1.2.1
  have fG10 : ∀ n : Wd G, n.w.cell? ⟨kD, 2, none⟩ = some (.int .i64 (f 1).x) := fun n => (LG.out n).2.2.2.2.2.2.2.2.2.2.1.2.1
  have fG11 : ∀ n : Wd G, n.w.cell? ⟨kD, 3, none⟩ = some (.int .i64 (f 1).y) := fun n => (LG.out n).2.2.2.2.2.2.2.2.2.2.2.1.2.1
  have fG12 : ∀ n : Wd G, n.w.cell? ⟨kD, 4, none⟩ = some (.int .i64 (f 2).x) := fun n => (LG.out n).2.2.2.2.2.2.2.2.2.2.2.2.1.2.1
  have fG13 : ∀ n : Wd G, n.w.cell? ⟨kD, 5, none⟩ = some (.int .i64 (f 2).y) := fun n => (LG.out n).2.2.2.2.2.2.2.2.2.2.2.2.2.1.2.1
  have fG14 : ∀ n : Wd G, n.w.cell? ⟨kD, 6, none⟩ = some (.int .i64 (f 3).x) := fun n => (LG.out n).2.2.2.2.2.2.2.2.2.2.2.2.2.2.1.2.1
  have fG15 : ∀ n : Wd G, n.w.cell? ⟨kD, 7, none⟩ = some (.int .i64 (f 3).y) := fun n => (LG.out n).2.2.2.2.2.2.2.2.2.2.2.2.2.2.2.1.2.1
  have fG16 : ∀ n : Wd G, n.w.cell? ⟨w.heap.size + 1 + 1 + 1, 0, none⟩ = some (.int .i64 s.lo) := fun n => (LG.out n).2.2.2.2.2.2.2.2.2.2.2.2.2.2.2.2.1.2.1
  have fG17 : ∀ n : Wd G, n.w.cell? ⟨w.heap.size + 1 + 1 + 1, 1, none⟩ = some (.int .i64 s.hi) := fun n => (LG.out n).2.2.2.2.2.2.2.2.2.2.2.2.2.2.2.2.2.1.2.1
  have fG18 : ∀ n : Wd G, n.w.cell? ⟨w.heap.size + 1 + 1, 0, none⟩ = some (.int .i64 c.x.lo) := fun n => (LG.out n).2.2.2.2.2.2.2.2.2.2.2.2.2.2.2.2.2.2.1.2.1
  have fG19 : ∀ n : Wd G, n.w.cell? ⟨w.heap.size + 1 + 1, 1, none⟩ = some (.int .i64 c.x.hi) := fun n => (LG.out n).2.2.2.2.2.2.2.2.2.2.2.2.2.2.2.2.2.2.2.1.2.1
  have fG20 : ∀ n : Wd G, n.w.cell? ⟨w.heap.size + 1 + 1, 2, none⟩ = some (.int .i64 c.y.lo) := fun n => (LG.out n).2.2.2.2.2.2.2.2.2.2.2.2.2.2.2.2.2.2.2.2.1.2.1
  have fG21 : ∀ n : Wd G, n.w.cell? ⟨w.heap.size + 1 + 1, 3, none⟩ = some (.int .i64 c.y.hi) := fun n => (LG.out n).2.2.2.2.2.2.2.2.2.2.2.2.2.2.2.2.2.2.2.2.2.1.2.1
  have fG22 : ∀ n : Wd G, n.w.cell? ⟨w.heap.size + 1, 0, none⟩ = some (.int .i64 b.x.lo) := fun n => (LG.out n).2.2.2.2.2.2.2.2.2.2.2.2.2.2.2.2.2.2.2.2.2.2.1.2.1
  have fG23 : ∀ n : Wd G, n.w.cell? ⟨w.heap.size + 1, 1, none⟩ = some (.int .i64 b.x.hi) := fun n => (LG.out n).2.2.2.2.2.2.2.2.2.2.2.2.2.2.2.2.2.2.2.2.2.2.2.1.2.1
  have fG24 : ∀ n : Wd G, n.w.cell? ⟨w.heap.size + 1, 2, none⟩ = some (.int .i64 b.y.lo) := fun n => (LG.out n).2.2.2.2.2.2.2.2.2.2.2.2.2.2.2.2.2.2.2.2.2.2.2.2.1.2.1
  have fG25 : ∀ n : Wd G, n.w.cell? ⟨w.heap.size + 1, 3, none⟩ = some (.int .i64 b.y.hi) := fun n => (LG.out n).2.2.2.2.2.2.2.2.2.2.2.2.2.2.2.2.2.2.2.2.2.2.2.2.2.1.2.1
  have fG26 : ∀ n : Wd G, n.w.cell? ⟨w.heap.size, 0, none⟩ = some (.int .i64 a.x.lo) := fun n => (LG.out n).2.2.2.2.2.2.2.2.2.2.2.2.2.2.2.2.2.2.2.2.2.2.2.2.2.2.1.2.1
  have fG27 : ∀ n : Wd G, n.w.cell? ⟨w.heap.size, 1, none⟩ = some (.int .i64 a.x.hi) := fun n => (LG.out n).2.2.2.2.2.2.2.2.2.2.2.2.2.2.2.2.2.2.2.2.2.2.2.2.2.2.2.1.2.1
  have fG28 : ∀ n : Wd G, n.w.cell? ⟨w.heap.size, 2, none⟩ = some (.int .i64 a.y.lo) := fun n => (LG.out n).2.2.2.2.2.2.2.2.2.2.2.2.2.2.2.2.2.2.2.2.2.2.2.2.2.2.2.2.1.2.1
  have fG29 : ∀ n : Wd G, n.w.cell? ⟨w.heap.size, 3, none⟩ = some (.int .i64 a.y.hi) := fun n => (LG.out n).2.2.2.2.2.2.2.2.2.2.2.2.2.2.2.2.2.2.2.2.2.2.2.2.2.2.2.2.2.1.2.1
  clear S0 hC0
  have D3 := cin HG K3
  clear K3 D2
  go_wp2_with (first | (go_at_call 57; with_reducible refine (D3 _).out.mono ?_; rintro e w' ⟨rfl, n, rfl⟩))
  obtain ⟨W0, hW0⟩ : ∃ W0, (n.w).alloc (.cells #[.int .i64 (h 0).x, .int .i64 (h 0).y, .int .i64 (h 1).x, .int .i64 (h 1).y, .int .i64 (h 2).x, .int .i64 (h 2).y, .int .i64 (h 3).x, .int .i64 (h 3).y] 68) = W0 := ⟨_, rfl⟩
  have S0 : St w W0 [(n.w.heap.size, 0, .int .i64 (h 0).x), (n.w.heap.size, 1, .int .i64 (h 0).y), (n.w.heap.size, 2, .int .i64 (h 1).x), (n.w.heap.size, 3, .int .i64 (h 1).y), (n.w.heap.size, 4, .int .i64 (h 2).x), (n.w.heap.size, 5, .int .i64 (h 2).y), (n.w.heap.size, 6, .int .i64 (h 3).x), (n.w.heap.size, 7, .int .i64 (h 3).y), (kG, 0, .int .i64 (g 0).x), (kG, 1, .int .i64 (g 0).y), (kG, 2, .int .i64 (g 1).x), (kG, 3, .int .i64 (g 1).y), (kG, 4, .int .i64 (g 2).x), (kG, 5, .int .i64 (g 2).y), (kG, 6, .int .i64 (g 3).x), (kG, 7, .int .i64 (g 3).y), (kD, 0, .int .i64 (f 0).x), (kD, 1, .int .i64 (f 0).y), (kD, 2, .int .i64 (f 1).x), (kD, 3, .int .i64 (f 1).y), (kD, 4, .int .i64 (f 2).x), (kD, 5, .int .i64 (f 2).y), (kD, 6, .int .i64 (f 3).x), (kD, 7, .int .i64 (f 3).y), (w.heap.size + 1 + 1 + 1, 0, .int .i64 s.lo), (w.heap.size + 1 + 1 + 1, 1, .int .i64 s.hi), (w.heap.size + 1 + 1, 0, .int .i64 c.x.lo), (w.heap.size + 1 + 1, 1, .int .i64 c.x.hi), (w.heap.size + 1 + 1, 2, .int .i64 c.y.lo), (w.heap.size + 1 + 1, 3, .int .i64 c.y.hi), (w.heap.size + 1, 0, .int .i64 b.x.lo), (w.heap.size + 1, 1, .int .i64 b.x.hi), (w.heap.size + 1, 2, .int .i64 b.y.lo), (w.heap.size + 1, 3, .int .i64 b.y.hi), (w.heap.size, 0, .int .i64 a.x.lo), (w.heap.size, 1, .int .i64 a.x.hi), (w.heap.size, 2, .int .i64 a.y.lo), (w.heap.size, 3, .int .i64 a.y.hi)] := by rw [← hW0]; exact ((⟨BG.out n, LG.out n⟩ : St w n.w _)).box #[.int .i64 (h 0).x, .int .i64 (h 0).y, .int .i64 (h 1).x, .int .i64 (h 1).y, .int .i64 (h 2).x, .int .i64 (h 2).y, .int .i64 (h 3).x, .int .i64 (h 3).y] 68 (n.w.heap.size) (by simp)
  rw [hW0]
  clear hW0
  obtain ⟨kJ, hkk⟩ : ∃ k, n.w.heap.size = k := ⟨_, rfl⟩
  have gkJ : w.heap.size ≤ kJ := by rw [← hkk]; exact (BG.out n).size
  rw [hkk] at S0 ⊢
  clear hkk
  obtain ⟨J, hC0, HJ, LJ, BJ, hne⟩ := cls S0
  haveI := hne
  obtain ⟨j0, rfl⟩ : ∃ n : Wd J, W0 = n.w := ⟨⟨_, hC0⟩, rfl⟩
  have fJ0 : ∀ n : Wd J, n.w.cell? ⟨kJ, 0, none⟩ = some (.int .i64 (h 0).x) := fun n => (LJ.out n).1.2.1
  have fJ1 : ∀ n : Wd J, n.w.cell? ⟨kJ, 1, none⟩ = some (.int .i64 (h 0).y) := fun n => (LJ.out n).2.1.2.1
  have fJ2 : ∀ n : Wd J, n.w.cell? ⟨kJ, 2, none⟩ = some (.int .i64 (h 1).x) := fun n => (LJ.out n).2.2.1.2.1
  have fJ3 : ∀ n : Wd J, n.w.cell? ⟨kJ, 3, none⟩ = some (.int .i64 (h 1).y) := fun n => (LJ.out n).2.2.2.1.2.1
  have fJ4 : ∀ n : Wd J, n.w.cell? ⟨kJ, 4, none⟩ = some (.int .i64 (h 2).x) := fun n => (LJ.out n).2.2.2.2.1.2.1
  have fJ5 : ∀ n : Wd J, n.w.cell? ⟨kJ, 5, none⟩ = some (.int .i64 (h 2).y) := fun n => (LJ.out n).2.2.2.2.2.1.2.1
  have fJ6 : ∀ n : Wd J, n.w.cell? ⟨kJ, 6, none⟩ = some (.int .i64 (h 3).x) := fun n => (LJ.out n).2.2.2.2.2.2.1.2.1
  have fJ7 : ∀ n : Wd J, n.w.cell? ⟨kJ, 7, none⟩ = some (.int .i64 (h 3).y) := fun n => (LJ.out n).2.2.2.2.2.2.2.1.2.1
  have fJ8 : ∀ n : Wd J, n.w.cell? ⟨kG, 0, none⟩ = some (.int .i64 (g 0).x) := fun n => (LJ.out n).2.2.2.2.2.2.2.2.1.2.1
  have fJ9 : ∀ n : Wd J, n.w.cell? ⟨kG, 1, none⟩ = some (.int .i64 (g 0).y) := fun n => (LJ.out n).2.2.2.2.2.2.2.2.2.1.2.1
  have fJ10 : ∀ n : Wd J, n.w.cell? ⟨kG, 2, none⟩ = some (.int .i64 (g 1).x) := fun n => (LJ.out n).2.2.2.2.2.2.2.2.2.2.1.2.1
  have fJ11 : ∀ n : Wd J, n.w.cell? ⟨kG, 3, none⟩ = some (.int .i64 (g 1).y) := fun n => (LJ.out n).2.2.2.2.2.2.2.2.2.2.2.1.2.1
  have fJ12 : ∀ n : Wd J, n.w.cell? ⟨kG, 4, none⟩ = some (.int .i64 (g 2).x) := fun n => (LJ.out n).2.2.2.2.2.2.2.2.2.2.2.2.1.2.1
  have fJ13 : ∀ n : Wd J, n.w.cell? ⟨kG, 5, none⟩ = some (.int .i64 (g 2).y) := fun n => (LJ.out n).2.2.2.2.2.2.2.2.2.2.2.2.2.1.2.1
  have fJ14 : ∀ n : Wd J, n.w.cell? ⟨kG, 6, none⟩ = some (.int .i64 (g 3).x) := fun n => (LJ.out n).2.2.2.2.2.2.2.2.2.2.2.2.2.2.1.2.1
  have fJ15 : ∀ n : Wd J, n.w.cell? ⟨kG, 7, none⟩ = some (.int .i64 (g 3).y) := fun n => (LJ.out n).2.2.2.2.2.2.2.2.2.2.2.2.2.2.2.1.2.1
  have fJ16 : ∀ n : Wd J, n.w.cell? ⟨kD, 0, none⟩ = some (.int .i64 (f 0).x) := fun n => (LJ.out n).2.2.2.2.2.2.2.2.2.2.2.2.2.2.2.2.1.2.1
  have fJ17 : ∀ n : Wd J, n.w.cell? ⟨kD, 1, none⟩ = some (.int .i64 (f 0).y) := fun n => (LJ.out n).2.2.2.2.2.2.2.2.2.2.2.2.2.2.2.2.2.1.2.1
  have fJ18 : ∀ n : Wd J, n.w.cell? ⟨kD, 2, none⟩ = some (.int .i64 (f 1).x) := fun n => (LJ.out n).2.2.2.2.2.2.2.2.2.2.2.2.2.2.2.2.2.2.1.2.1
  have fJ19 : ∀ n : Wd J, n.w.cell? ⟨kD, 3, none⟩ = some (.int .i64 (f 1).y) := fun n => (LJ.out n).2.2.2.2.2.2.2.2.2.2.2.2.2.2.2.2.2.2.2.1.2.1
  have fJ20 : ∀ n : Wd J, n.w.cell? ⟨kD, 4, none⟩ = some (.int .i64 (f 2).x) := fun n => (LJ.out n).2.2.2.2.2.2.2.2.2.2.2.2.2.2.2.2.2.2.2.2.1.2.1
  have fJ21 : ∀ n : Wd J, n.w.cell? ⟨kD, 5, none⟩ = some (.int .i64 (f 2).y) := fun n => (LJ.out n).2.2.2.2.2.2.2.2.2.2.2.2.2.2.2.2.2.2.2.2.2.1.2.1
  have fJ22 : ∀ n : Wd J, n.w.cell? ⟨kD, 6, none⟩ = some (.int .i64 (f 3).x) := fun n => (LJ.out n).2.2.2.2.2.2.2.2.2.2.2.2.2.2.2.2.2.2.2.2.2.2.1.2.1
  have fJ23 : ∀ n : Wd J, n.w.cell? ⟨kD, 7, none⟩ = some (.int .i64 (f 3).y) := fun n => (LJ.out n).2.2.2.2.2.2.2.2.2.2.2.2.2.2.2.2.2.2.2.2.2.2.2.1.2.1
  have fJ24 : ∀ n : Wd J, n.w.cell? ⟨w.heap.size + 1 + 1 + 1, 0, none⟩ = some (.int .i64 s.lo) := fun n => (LJ.out n).2.2.2.2.2.2.2.2.2.2.2.2.2.2.2.2.2.2.2.2.2.2.2.2.1.2.1
  have fJ25 : ∀ n : Wd J, n.w.cell? ⟨w.heap.size + 1 + 1 + 1, 1, none⟩ = some (.int .i64 s.hi) := fun n => (LJ.out n).2.2.2.2.2.2.2.2.2.2.2.2.2.2.2.2.2.2.2.2.2.2.2.2.2.1.2.1
  have fJ26 : ∀ n : Wd J, n.w.cell? ⟨w.heap.size + 1 + 1, 0, none⟩ = some (.int .i64 c.x.lo) := fun n => (LJ.out n).2.2.2.2.2.2.2.2.2.2.2.2.2.2.2.2.2.2.2.2.2.2.2.2.2.2.1.2.1
  have fJ27 : ∀ n : Wd J, n.w.cell? ⟨w.heap.size + 1 + 1, 1, none⟩ = some (.int .i64 c.x.hi) := fun n => (LJ.out n).2.2.2.2.2.2.2.2.2.2.2.2.2.2.2.2.2.2.2.2.2.2.2.2.2.2.2.1.2.1
  have fJ28 : ∀ n : Wd J, n.w.cell? ⟨w.heap.size + 1 + 1, 2, none⟩ = some (.int .i64 c.y.lo) := fun n => (LJ.out n).2.2.2.2.2.2.2.2.2.2.2.2.2.2.2.2.2.2.2.2.2.2.2.2.2.2.2.2.1.2.1
  have fJ29 : ∀ n : Wd J, n.w.cell? ⟨w.heap.size + 1 + 1, 3, none⟩ = some (.int .i64 c.y.hi) := fun n => (LJ.out n).2.2.2.2.2.2.2.2.2.2.2.2.2.2.2.2.2.2.2.2.2.2.2.2.2.2.2.2.2.1.2.1
  have fJ30 : ∀ n : Wd J, n.w.cell? ⟨w.heap.size + 1, 0, none⟩ = some (.int .i64 b.x.lo) := fun n => (LJ.out n).2.2.2.2.2.2.2.2.2.2.2.2.2.2.2.2.2.2.2.2.2.2.2.2.2.2.2.2.2.2.1.2.1
  have fJ31 : ∀ n : Wd J, n.w.cell? ⟨w.heap.size + 1, 1, none⟩ = some (.int .i64 b.x.hi) := fun n => (LJ.out n).2.2.2.2.2.2.2.2.2.2.2.2.2.2.2.2.2.2.2.2.2.2.2.2.2.2.2.2.2.2.2.1.2.1
  have fJ32 : ∀ n : Wd J, n.w.cell? ⟨w.heap.size + 1, 2, none⟩ = some (.int .i64 b.y.lo) := fun n => (LJ.out n).2.2.2.2.2.2.2.2.2.2.2.2.2.2.2.2.2.2.2.2.2.2.2.2.2.2.2.2.2.2.2.2.1.2.1
  have fJ33 : ∀ n : Wd J, n.w.cell? ⟨w.heap.size + 1, 3, none⟩ = some (.int .i64 b.y.hi) := fun n => (LJ.out n).2.2.2.2.2.2.2.2.2.2.2.2.2.2.2.2.2.2.2.2.2.2.2.2.2.2.2.2.2.2.2.2.2.1.2.1
  have fJ34 : ∀ n : Wd J, n.w.cell? ⟨w.heap.size, 0, none⟩ = some (.int .i64 a.x.lo) := fun n => (LJ.out n).2.2.2.2.2.2.2.2.2.2.2.2.2.2.2.2.2.2.2.2.2.2.2.2.2.2.2.2.2.2.2.2.2.2.1.2.1
  have fJ35 : ∀ n : Wd J, n.w.cell? ⟨w.heap.size, 1, none⟩ = some (.int .i64 a.x.hi) := fun n => (LJ.out n).2.2.2.2.2.2.2.2.2.2.2.2.2.2.2.2.2.2.2.2.2.2.2.2.2.2.2.2.2.2.2.2.2.2.2.1.2.1
  have fJ36 : ∀ n : Wd J, n.w.cell? ⟨w.heap.size, 2, none⟩ = some (.int .i64 a.y.lo) := fun n => (LJ.out n).2.2.2.2.2.2.2.2.2.2.2.2.2.2.2.2.2.2.2.2.2.2.2.2.2.2.2.2.2.2.2.2.2.2.2.2.1.2.1
  have fJ37 : ∀ n : Wd J, n.w.cell? ⟨w.heap.size, 3, none⟩ = some (.int .i64 a.y.hi) := fun n => (LJ.out n).2.2.2.2.2.2.2.2.2.2.2.2.2.2.2.2.2.2.2.2.2.2.2.2.2.2.2.2.2.2.2.2.2.2.2.2.2.1.2.1
  clear S0 hC0
  clear D3 HC LC BC HD LD BD HG LG BG
  go_loopw [12, 13, 14] (fun x y i wr => ∃ k : Nat, i = .int .i64 (k : Int) ∧ k ≤ 64 ∧ x = .bool (anyE E s.lo k) ∧ y = .bool (anyE E s.hi k) ∧ ∃ n : Wd J, wr = n.w) (fun x y i wr => 64 - (intOf i).toNat)
  case atStart => exact ⟨0, rfl, by omega, rfl, rfl, _, rfl⟩
  case round =>
    obtain ⟨k, rfl, hk, hx, hy, n, rfl⟩ := hrel
    by_cases hlt : k < 64
    · obtain ⟨m1, hm1⟩ : ∃ m, k / 16 = m := ⟨_, rfl⟩
      obtain ⟨m2, hm2⟩ : ∃ m, k / 4 % 4 = m := ⟨_, rfl⟩
      obtain ⟨m3, hm3⟩ : ∃ m, k % 4 = m := ⟨_, rfl⟩
      have l1 : m1 < 4 := by omega
      have l2 : m2 < 4 := by omega
      have l3 : m3 < 4 := by omega
      have q1 : (k : Int).tdiv 16 = (m1 : Int) := by rw [Int.tdiv_eq_ediv_of_nonneg (by omega)]; omega
      have q2 : ((k : Int).tdiv 4).tmod 4 = (m2 : Int) := by rw [Int.tdiv_eq_ediv_of_nonneg (by omega), Int.tmod_eq_emod_of_nonneg (by omega)]; omega
      have q3 : (k : Int).tmod 4 = (m3 : Int) := by rw [Int.tmod_eq_emod_of_nonneg (by omega)]; omega
      have q2' : (k : Int) / 4 % 4 = (m2 : Int) := by omega
      obtain ⟨v, hv⟩ : ∃ v, ar (f m1) (g m2) (h m3) = v := ⟨_, rfl⟩
      have hEv : E k = v := by rw [← hv, ← hm1, ← hm2, ← hm3]; exact (HE'.out k).symm
      obtain ⟨X, hX⟩ : ∃ X, anyE E s.lo k = X := ⟨_, rfl⟩
      obtain ⟨Y, hY⟩ : ∃ X, anyE E s.hi k = X := ⟨_, rfl⟩
      have HN1 : Hid (anyE E s.lo (k + 1) = (X || (v == s.lo))) := by unfold Hid; rw [anyE, hX, hEv]
      have HN2 : Hid (anyE E s.hi (k + 1) = (Y || (v == s.hi))) := by unfold Hid; rw [anyE, hY, hEv]
      rw [hX] at hx
      rw [hY] at hy
      subst hx hy
      have A1 : ∀ n : Wd J, n.w.cell? ⟨kD, m1 * 2, none⟩ = some (.int .i64 (f m1).x) ∧ n.w.cell? ⟨kD, m1 * 2 + 1, none⟩ = some (.int .i64 (f m1).y) := fun n => cells4 (fJ16 n) (fJ17 n) (fJ18 n) (fJ19 n) (fJ20 n) (fJ21 n) (fJ22 n) (fJ23 n) m1 l1
      have A2 : ∀ n : Wd J, n.w.cell? ⟨kG, m2 * 2, none⟩ = some (.int .i64 (g m2).x) ∧ n.w.cell? ⟨kG, m2 * 2 + 1, none⟩ = some (.int .i64 (g m2).y) := fun n => cells4 (fJ8 n) (fJ9 n) (fJ10 n) (fJ11 n) (fJ12 n) (fJ13 n) (fJ14 n) (fJ15 n) m2 l2
      have A3 : ∀ n : Wd J, n.w.cell? ⟨kJ, m3 * 2, none⟩ = some (.int .i64 (h m3).x) ∧ n.w.cell? ⟨kJ, m3 * 2 + 1, none⟩ = some (.int .i64 (h m3).y) := fun n => cells4 (fJ0 n) (fJ1 n) (fJ2 n) (fJ3 n) (fJ4 n) (fJ5 n) (fJ6 n) (fJ7 n) m3 l3
      have A1x := fun n => (A1 n).1
      have A1y := fun n => (A1 n).2
      have A2x := fun n => (A2 n).1
      have A2y := fun n => (A2 n).2
      have A3x := fun n => (A3 n).1
      have A3y := fun n => (A3 n).2
      have D7 := fun n => cin3 HJ (F1.out m1) (F2.out m2) (F3.out m3) n
      simp only [hv] at D7
      clear A1 A2 A3 fJ0 fJ1 fJ2 fJ3 fJ4 fJ5 fJ6 fJ7 fJ8 fJ9 fJ10 fJ11 fJ12 fJ13 fJ14 fJ15 fJ16 fJ17 fJ18 fJ19 fJ20 fJ21 fJ22 fJ23 hX hY hEv hv hm1 hm2 hm3
      have l1' : (m1 : Int) < 4 := by omega
      have l2' : (m2 : Int) < 4 := by omega
      have l3' : (m3 : Int) < 4 := by omega
      have hw0 : IntKind.i64.wrap ((k : Int) + 1) = (k : Int) + 1 := (wrapEq _).trans (w64 (by omega))
      go_wp2_with fail
      refine wp_region_mid 13 2 J (HJ.out _ _ (Wd.h _) (below_dr _)) (by kernel_rfl) (by kernel_rfl) ?_
      simp only [List.take_succ_cons, List.take_zero, List.drop_succ_cons, List.drop_zero]
      repeat (go_big_quiet_step (fail))
      refine wpQuiet_nil ?_
      intro wx hwx
      obtain ⟨n2, rfl⟩ : ∃ n : Wd J, wx = n.w := ⟨⟨wx, hwx⟩, rfl⟩
      clear hwx
      go_wp2_with (first | (go_at_call 30; with_reducible refine (D7 _).out.mono ?_; rintro e w' ⟨rfl, n, rfl⟩))
      refine ⟨⟨_, rfl⟩, ?_⟩
      repeat (go_big_quiet_step (fail))
      refine wpQuiet_nil ?_
      rintro wx ⟨n3, rfl⟩
      cases X <;> cases Y
      all_goals
        go_wp2_with fail
        go_roundw
        case rel => exact ⟨k + 1, by simp, by omega, by rw [HN1.out]; simp, by rw [HN2.out]; simp, _, rfl⟩
        case measure => simp [intOf]; omega
    · obtain rfl : k = 64 := by omega
      rw [HL.out] at hx
      rw [HH.out] at hy
      subst hx hy
      go_wp2_with fail
      go_ret
      exact ⟨rfl, BJ.out _⟩
end Go.Proofs.Ytdefpcjlbganpaa
namespace Go.Proofs.Ytdefpcjlbganpaa
open Go.RowKit Go.Shelf Go.BigFrame
attribute [local go_sem] Oper.semAt_some
attribute [local go_sem] World.cell?_alloc_some
abbrev Z23 : Obj := .cells #[.int .i64 0, .int .i64 0] 23
theorem alloc23 (P : Act) (w : World) (o : Oper) (h : o.op = .alloc 23) : (execOp P.eval o).run Try.prog w = .ok (.value (.pointer (some ⟨w.heap.size, 0, none⟩))) (w.alloc Z23) := by
  unfold execOp
  rw [h]
  go_simp
/-- A region that draws, makes one variable, and then has a forced end. -/
theorem wp_region_var1 {P : Program} {id : Nat} {Q : Exit → Act → World → Prop} {a : Act} {w : World} {l : List Oper} (m : Nat) (C : World → Prop) (s : Nat) (ob : Obj)
    (hcl : ∀ W W', C W → Below W.heap.size W W' → C W') (hC : C w.drew) (hm : P.follows .mixedOrders = true) (hB : Region.lexTailB .any l.toArray (m + 1) = true)
    (hal : ∃ o, l[m]? = some o ∧ o.dst = some s ∧ o.guard = none ∧ ∀ (a : Act) w, (execOp a.eval o).run P w = .ok (.value (.pointer (some ⟨w.heap.size, 0, none⟩))) (w.alloc ob))
    (hsl : slotsB a.tmps.size (l.take (m + 1)) = true)
    (h : ∃ A : Act, (∀ D : World → Prop, (∀ W W', D W → Below W.heap.size W W' → D W') → (∀ W, D W → C W) → Nonempty (Wd D) → wpQuiet P l.toArray (fun w' => ∃ n : Wd D, w' = n.w) (fun a' => a' = A) (l.take m) a) ∧
      (∀ (n : Wd C) (k : Nat), w.heap.size ≤ k → n.w.heap[k]? = some ob → wpList P l.toArray Q (l.drop (m + 1)) (A.put (some s) (.pointer (some ⟨k, 0, none⟩))) n.w)) : (Code.region id l.toArray true).wp P Q a w := by
  obtain ⟨A, h1, h2⟩ := h
  refine wp_region_floats (m + 1) m C A (fun _ => s) (fun _ => ob) hcl hC hm hB (by omega) ?_ hsl h1 ?_
  · intro i hi1 hi2
    obtain rfl : i = m := by omega
    exact hal
  · intro W bl hW hb _
    obtain ⟨p1, q1⟩ := hb m (by omega) (by omega)
    have := h2 ⟨W, hW⟩ (bl m) p1 q1
    rw [show m + 1 - m = 1 from by omega]
    exact this
set_option maxRecDepth 100000 in
set_option maxHeartbeats 16000000 in
theorem closest_any (a b : Bx) (d : Sp) (w : World)
   (hlo : dst ⟨clp b.x.lo a.x, clp b.y.lo a.y⟩ ⟨clp (clp b.x.lo a.x) b.x, clp (clp b.y.lo a.y) b.y⟩ = d.lo) (hhi : ∃ k, k < 16 ∧ d.hi = dst (cr a (k / 4)) (cr b (k % 4))) :
   Calls Try.prog 73 #[a.v, b.v, d.v] w fun e w' => e = .returned (.bool true) ∧ Below w.heap.size w w' := by
  have K1 := fun W => Corners_any a W
  have K2 := fun W => Corners_any b W
  have P1 := fun W => clamp_any b.x.lo a.x W
  have P2 := fun W => clamp_any b.y.lo a.y W
  obtain ⟨px, hpx⟩ : ∃ p, clp b.x.lo a.x = p := ⟨_, rfl⟩
  obtain ⟨py, hpy⟩ : ∃ p, clp b.y.lo a.y = p := ⟨_, rfl⟩
  simp only [hpx] at P1 hlo
  simp only [hpy] at P2 hlo
  have P3 := fun W => clamp_any px b.x W
  have P4 := fun W => clamp_any py b.y W
  obtain ⟨qx, hqx⟩ : ∃ p, clp px b.x = p := ⟨_, rfl⟩
  obtain ⟨qy, hqy⟩ : ∃ p, clp py b.y = p := ⟨_, rfl⟩
  simp only [hqx] at P3 hlo
  simp only [hqy] at P4 hlo
  have T1 : ∀ W, Calls Try.prog 21 #[Pt.v ⟨px, py⟩, Pt.v ⟨qx, qy⟩] W fun e w' => e = .returned (.int .i64 d.lo) ∧ Below W.heap.size W w' := fun W => by rw [← hlo]; exact Dist_any _ _ W
  obtain ⟨f, hf⟩ : ∃ f, cr a = f := ⟨_, rfl⟩
  obtain ⟨g, hg⟩ : ∃ f, cr b = f := ⟨_, rfl⟩
  simp only [hf] at K1 hhi
  simp only [hg] at K2 hhi
  obtain ⟨E, hE⟩ : ∃ E : Nat → Int, (fun k => dst (f (k / 4)) (g (k % 4))) = E := ⟨_, rfl⟩
  have HE' : Hid (∀ k, dst (f (k / 4)) (g (k % 4)) = E k) := fun k => by rw [← hE]
  have HH : Hid (anyE E d.hi 16 = true) := by obtain ⟨k, hk, e⟩ := hhi; exact anyE_of (by rw [← hE]; exact e) hk
  clear hf hg hhi hE hpx hpy hqx hqy hlo
  go_enter Try.func73, Try.ntmps73
  go_wp2_with fail
  obtain ⟨W0, hW0⟩ : ∃ W0, (((w).alloc (.cells #[.int .i64 a.x.lo, .int .i64 a.x.hi, .int .i64 a.y.lo, .int .i64 a.y.hi] 60)).alloc (.cells #[.int .i64 b.x.lo, .int .i64 b.x.hi, .int .i64 b.y.lo, .int .i64 b.y.hi] 60)).alloc (.cells #[.int .i64 d.lo, .int .i64 d.hi] 58) = W0 := ⟨_, rfl⟩
  have S0 : St w W0 [(w.heap.size + 1 + 1, 0, .int .i64 d.lo), (w.heap.size + 1 + 1, 1, .int .i64 d.hi), (w.heap.size + 1, 0, .int .i64 b.x.lo), (w.heap.size + 1, 1, .int .i64 b.x.hi), (w.heap.size + 1, 2, .int .i64 b.y.lo), (w.heap.size + 1, 3, .int .i64 b.y.hi), (w.heap.size, 0, .int .i64 a.x.lo), (w.heap.size, 1, .int .i64 a.x.hi), (w.heap.size, 2, .int .i64 a.y.lo), (w.heap.size, 3, .int .i64 a.y.hi)] := by rw [← hW0]; exact ((((St.nil w)).box #[.int .i64 a.x.lo, .int .i64 a.x.hi, .int .i64 a.y.lo, .int .i64 a.y.hi] 60 (w.heap.size) (by simp)).box #[.int .i64 b.x.lo, .int .i64 b.x.hi, .int .i64 b.y.lo, .int .i64 b.y.hi] 60 (w.heap.size + 1) (by simp)).box #[.int .i64 d.lo, .int .i64 d.hi] 58 (w.heap.size + 1 + 1) (by simp)
  rw [hW0]
  clear hW0
  obtain ⟨C, hC0, HC, LC, BC, hne⟩ := cls S0
  haveI := hne
  obtain ⟨c0, rfl⟩ : ∃ n : Wd C, W0 = n.w := ⟨⟨_, hC0⟩, rfl⟩
  have fC0 : ∀ n : Wd C, n.w.cell? ⟨w.heap.size + 1 + 1, 0, none⟩ = some (.int .i64 d.lo) := fun n => (LC.out n).1.2.1
  have fC1 : ∀ n : Wd C, n.w.cell? ⟨w.heap.size + 1 + 1, 1, none⟩ = some (.int .i64 d.hi) := fun n => (LC.out n).2.1.2.1
  have fC2 : ∀ n : Wd C, n.w.cell? ⟨w.heap.size + 1, 0, none⟩ = some (.int .i64 b.x.lo) := fun n => (LC.out n).2.2.1.2.1
  have fC3 : ∀ n : Wd C, n.w.cell? ⟨w.heap.size + 1, 1, none⟩ = some (.int .i64 b.x.hi) := fun n => (LC.out n).2.2.2.1.2.1
  have fC4 : ∀ n : Wd C, n.w.cell? ⟨w.heap.size + 1, 2, none⟩ = some (.int .i64 b.y.lo) := fun n => (LC.out n).2.2.2.2.1.2.1
  have fC5 : ∀ n : Wd C, n.w.cell? ⟨w.heap.size + 1, 3, none⟩ = some (.int .i64 b.y.hi) := fun n => (LC.out n).2.2.2.2.2.1.2.1
  have fC6 : ∀ n : Wd C, n.w.cell? ⟨w.heap.size, 0, none⟩ = some (.int .i64 a.x.lo) := fun n => (LC.out n).2.2.2.2.2.2.1.2.1
  have fC7 : ∀ n : Wd C, n.w.cell? ⟨w.heap.size, 1, none⟩ = some (.int .i64 a.x.hi) := fun n => (LC.out n).2.2.2.2.2.2.2.1.2.1
  have fC8 : ∀ n : Wd C, n.w.cell? ⟨w.heap.size, 2, none⟩ = some (.int .i64 a.y.lo) := fun n => (LC.out n).2.2.2.2.2.2.2.2.1.2.1
  have fC9 : ∀ n : Wd C, n.w.cell? ⟨w.heap.size, 3, none⟩ = some (.int .i64 a.y.hi) := fun n => (LC.out n).2.2.2.2.2.2.2.2.2.1.2.1
  clear S0 hC0
  refine wp_region_var1 13 C 7 Z23 HC.out (HC.out _ _ (Wd.h _) (below_dr _)) (by kernel_rfl) (by kernel_rfl) ⟨_, rfl, rfl, rfl, fun a w => alloc23 a w _ rfl⟩ (by rfl) ?_
  apply Exists.intro
  apply And.intro
  · intro D hD hDC hne
    have HD := Lib.hid hD
    have gD0 : ∀ n : Wd D, n.w.cell? ⟨w.heap.size + 1 + 1, 0, none⟩ = some (.int .i64 d.lo) := fun n => (LC.out ⟨n.w, hDC _ n.h⟩).1.2.1
    have gD1 : ∀ n : Wd D, n.w.cell? ⟨w.heap.size + 1 + 1, 1, none⟩ = some (.int .i64 d.hi) := fun n => (LC.out ⟨n.w, hDC _ n.h⟩).2.1.2.1
    have gD2 : ∀ n : Wd D, n.w.cell? ⟨w.heap.size + 1, 0, none⟩ = some (.int .i64 b.x.lo) := fun n => (LC.out ⟨n.w, hDC _ n.h⟩).2.2.1.2.1
    have gD3 : ∀ n : Wd D, n.w.cell? ⟨w.heap.size + 1, 1, none⟩ = some (.int .i64 b.x.hi) := fun n => (LC.out ⟨n.w, hDC _ n.h⟩).2.2.2.1.2.1
    have gD4 : ∀ n : Wd D, n.w.cell? ⟨w.heap.size + 1, 2, none⟩ = some (.int .i64 b.y.lo) := fun n => (LC.out ⟨n.w, hDC _ n.h⟩).2.2.2.2.1.2.1
    have gD5 : ∀ n : Wd D, n.w.cell? ⟨w.heap.size + 1, 3, none⟩ = some (.int .i64 b.y.hi) := fun n => (LC.out ⟨n.w, hDC _ n.h⟩).2.2.2.2.2.1.2.1
    have gD6 : ∀ n : Wd D, n.w.cell? ⟨w.heap.size, 0, none⟩ = some (.int .i64 a.x.lo) := fun n => (LC.out ⟨n.w, hDC _ n.h⟩).2.2.2.2.2.2.1.2.1
    have gD7 : ∀ n : Wd D, n.w.cell? ⟨w.heap.size, 1, none⟩ = some (.int .i64 a.x.hi) := fun n => (LC.out ⟨n.w, hDC _ n.h⟩).2.2.2.2.2.2.2.1.2.1
    have gD8 : ∀ n : Wd D, n.w.cell? ⟨w.heap.size, 2, none⟩ = some (.int .i64 a.y.lo) := fun n => (LC.out ⟨n.w, hDC _ n.h⟩).2.2.2.2.2.2.2.2.1.2.1
    have gD9 : ∀ n : Wd D, n.w.cell? ⟨w.heap.size, 3, none⟩ = some (.int .i64 a.y.hi) := fun n => (LC.out ⟨n.w, hDC _ n.h⟩).2.2.2.2.2.2.2.2.2.1.2.1
    have D1 := cin HD P1
    have D2 := cin HD P2
    haveI := hne
    simp only [List.take_succ_cons, List.take_zero]
    repeat (go_big_quiet_step (first | with_reducible exact (D1 _).out | with_reducible exact (D2 _).out))
    exact wpQuiet_nil rfl
  intro n0 k1 hk1 q1
  simp only [List.drop_succ_cons, List.drop_zero, Act.put]
  go_simp
  have kb : w.heap.size + 1 + 1 < c0.w.heap.size := (LC.out c0).1.1
  have hL1 : ∀ x ∈ ([(w.heap.size + 1 + 1, 0, .int .i64 d.lo), (w.heap.size + 1 + 1, 1, .int .i64 d.hi), (w.heap.size + 1, 0, .int .i64 b.x.lo), (w.heap.size + 1, 1, .int .i64 b.x.hi), (w.heap.size + 1, 2, .int .i64 b.y.lo), (w.heap.size + 1, 3, .int .i64 b.y.hi), (w.heap.size, 0, .int .i64 a.x.lo), (w.heap.size, 1, .int .i64 a.x.hi), (w.heap.size, 2, .int .i64 a.y.lo), (w.heap.size, 3, .int .i64 a.y.hi)] : List (Nat × Nat × Value)), x.1 ≠ k1 := by simp only [List.forall_mem_cons, List.not_mem_nil, false_implies, implies_true, and_true]; omega
  have S1 := St.put ⟨BC.out n0, LC.out n0⟩ k1 (by omega) hL1 _ 23 q1 (fun c => (c.setIfInBounds 0 (.int .i64 px)).setIfInBounds 1 (.int .i64 py)) #[.int .i64 px, .int .i64 py] rfl
  have hb1 : w.heap.size + 1 + 1 < k1 := by omega
  obtain ⟨⟨_, r1, z1⟩, ⟨_, r2, z2⟩, _⟩ := cs_heap n0.w k1 _ 23 q1 _ 0 rfl
  have HS := Lib.hid S1
  clear hL1 S1 kb hk1 q1
  go_upto_region 2 with fail
  obtain ⟨W1, hW1⟩ : ∃ W1, ((n0.w.setCell { block := k1, off := 0 } (Value.int IntKind.i64 px)).setCell { block := k1, off := 1 } (Value.int IntKind.i64 py)) = W1 := ⟨_, rfl⟩
  have S3 : St w W1 ((k1, 0, .int .i64 px) :: (k1, 1, .int .i64 py) :: [(w.heap.size + 1 + 1, 0, .int .i64 d.lo), (w.heap.size + 1 + 1, 1, .int .i64 d.hi), (w.heap.size + 1, 0, .int .i64 b.x.lo), (w.heap.size + 1, 1, .int .i64 b.x.hi), (w.heap.size + 1, 2, .int .i64 b.y.lo), (w.heap.size + 1, 3, .int .i64 b.y.hi), (w.heap.size, 0, .int .i64 a.x.lo), (w.heap.size, 1, .int .i64 a.x.hi), (w.heap.size, 2, .int .i64 a.y.lo), (w.heap.size, 3, .int .i64 a.y.hi)]) := by
    rw [← hW1]
    simp only [Go.Sort.setCell_eq, Go.Sort.mapBlock_mapBlock]
    exact HS.out
  rw [hW1]
  clear hW1 HS r1 r2 z1 z2
  obtain ⟨D, hC0, HD, LD, BD, hne⟩ := cls S3
  haveI := hne
  obtain ⟨d0, rfl⟩ : ∃ n : Wd D, W1 = n.w := ⟨⟨_, hC0⟩, rfl⟩
  have fD0 : ∀ n : Wd D, n.w.cell? ⟨k1, 0, none⟩ = some (.int .i64 px) := fun n => (LD.out n).1.2.1
  have fD1 : ∀ n : Wd D, n.w.cell? ⟨k1, 1, none⟩ = some (.int .i64 py) := fun n => (LD.out n).2.1.2.1
  have fD2 : ∀ n : Wd D, n.w.cell? ⟨w.heap.size + 1 + 1, 0, none⟩ = some (.int .i64 d.lo) := fun n => (LD.out n).2.2.1.2.1
  have fD3 : ∀ n : Wd D, n.w.cell? ⟨w.heap.size + 1 + 1, 1, none⟩ = some (.int .i64 d.hi) := fun n => (LD.out n).2.2.2.1.2.1
  have fD4 : ∀ n : Wd D, n.w.cell? ⟨w.heap.size + 1, 0, none⟩ = some (.int .i64 b.x.lo) := fun n => (LD.out n).2.2.2.2.1.2.1
  have fD5 : ∀ n : Wd D, n.w.cell? ⟨w.heap.size + 1, 1, none⟩ = some (.int .i64 b.x.hi) := fun n => (LD.out n).2.2.2.2.2.1.2.1
  have fD6 : ∀ n : Wd D, n.w.cell? ⟨w.heap.size + 1, 2, none⟩ = some (.int .i64 b.y.lo) := fun n => (LD.out n).2.2.2.2.2.2.1.2.1
  have fD7 : ∀ n : Wd D, n.w.cell? ⟨w.heap.size + 1, 3, none⟩ = some (.int .i64 b.y.hi) := fun n => (LD.out n).2.2.2.2.2.2.2.1.2.1
  have fD8 : ∀ n : Wd D, n.w.cell? ⟨w.heap.size, 0, none⟩ = some (.int .i64 a.x.lo) := fun n => (LD.out n).2.2.2.2.2.2.2.2.1.2.1
  have fD9 : ∀ n : Wd D, n.w.cell? ⟨w.heap.size, 1, none⟩ = some (.int .i64 a.x.hi) := fun n => (LD.out n).2.2.2.2.2.2.2.2.2.1.2.1
  have fD10 : ∀ n : Wd D, n.w.cell? ⟨w.heap.size, 2, none⟩ = some (.int .i64 a.y.lo) := fun n => (LD.out n).2.2.2.2.2.2.2.2.2.2.1.2.1
  have fD11 : ∀ n : Wd D, n.w.cell? ⟨w.heap.size, 3, none⟩ = some (.int .i64 a.y.hi) := fun n => (LD.out n).2.2.2.2.2.2.2.2.2.2.2.1.2.1
  clear S3 hC0
  refine wp_region_var1 11 D 8 Z23 HD.out (HD.out _ _ (Wd.h _) (below_dr _)) (by kernel_rfl) (by kernel_rfl) ⟨_, rfl, rfl, rfl, fun a w => alloc23 a w _ rfl⟩ (by rfl) ?_
  apply Exists.intro
  apply And.intro
  · intro G hG hGD hne
    have HG := Lib.hid hG
    have gG0 : ∀ n : Wd G, n.w.cell? ⟨k1, 0, none⟩ = some (.int .i64 px) := fun n => (LD.out ⟨n.w, hGD _ n.h⟩).1.2.1
    have gG1 : ∀ n : Wd G, n.w.cell? ⟨k1, 1, none⟩ = some (.int .i64 py) := fun n => (LD.out ⟨n.w, hGD _ n.h⟩).2.1.2.1
    have gG2 : ∀ n : Wd G, n.w.cell? ⟨w.heap.size + 1 + 1, 0, none⟩ = some (.int .i64 d.lo) := fun n => (LD.out ⟨n.w, hGD _ n.h⟩).2.2.1.2.1
    have gG3 : ∀ n : Wd G, n.w.cell? ⟨w.heap.size + 1 + 1, 1, none⟩ = some (.int .i64 d.hi) := fun n => (LD.out ⟨n.w, hGD _ n.h⟩).2.2.2.1.2.1
    have gG4 : ∀ n : Wd G, n.w.cell? ⟨w.heap.size + 1, 0, none⟩ = some (.int .i64 b.x.lo) := fun n => (LD.out ⟨n.w, hGD _ n.h⟩).2.2.2.2.1.2.1
    have gG5 : ∀ n : Wd G, n.w.cell? ⟨w.heap.size + 1, 1, none⟩ = some (.int .i64 b.x.hi) := fun n => (LD.out ⟨n.w, hGD _ n.h⟩).2.2.2.2.2.1.2.1
    have gG6 : ∀ n : Wd G, n.w.cell? ⟨w.heap.size + 1, 2, none⟩ = some (.int .i64 b.y.lo) := fun n => (LD.out ⟨n.w, hGD _ n.h⟩).2.2.2.2.2.2.1.2.1
    have gG7 : ∀ n : Wd G, n.w.cell? ⟨w.heap.size + 1, 3, none⟩ = some (.int .i64 b.y.hi) := fun n => (LD.out ⟨n.w, hGD _ n.h⟩).2.2.2.2.2.2.2.1.2.1
    have gG8 : ∀ n : Wd G, n.w.cell? ⟨w.heap.size, 0, none⟩ = some (.int .i64 a.x.lo) := fun n => (LD.out ⟨n.w, hGD _ n.h⟩).2.2.2.2.2.2.2.2.1.2.1
    have gG9 : ∀ n : Wd G, n.w.cell? ⟨w.heap.size, 1, none⟩ = some (.int .i64 a.x.hi) := fun n => (LD.out ⟨n.w, hGD _ n.h⟩).2.2.2.2.2.2.2.2.2.1.2.1
    have gG10 : ∀ n : Wd G, n.w.cell? ⟨w.heap.size, 2, none⟩ = some (.int .i64 a.y.lo) := fun n => (LD.out ⟨n.w, hGD _ n.h⟩).2.2.2.2.2.2.2.2.2.2.1.2.1
    have gG11 : ∀ n : Wd G, n.w.cell? ⟨w.heap.size, 3, none⟩ = some (.int .i64 a.y.hi) := fun n => (LD.out ⟨n.w, hGD _ n.h⟩).2.2.2.2.2.2.2.2.2.2.2.1.2.1
    have D1 := cin HG P3
    have D2 := cin HG P4
    haveI := hne
    simp only [List.take_succ_cons, List.take_zero]
    repeat (go_big_quiet_step (first | with_reducible exact (D1 _).out | with_reducible exact (D2 _).out))
    exact wpQuiet_nil rfl
  intro n1 k2 hk2 q1
  simp only [List.drop_succ_cons, List.drop_zero, Act.put]
  go_simp
  have kd : k1 < d0.w.heap.size := (LD.out d0).1.1
  have kb : w.heap.size + 1 + 1 < d0.w.heap.size := (LD.out d0).2.2.1.1
  have hL1 : ∀ x ∈ ([(k1, 0, .int .i64 px), (k1, 1, .int .i64 py), (w.heap.size + 1 + 1, 0, .int .i64 d.lo), (w.heap.size + 1 + 1, 1, .int .i64 d.hi), (w.heap.size + 1, 0, .int .i64 b.x.lo), (w.heap.size + 1, 1, .int .i64 b.x.hi), (w.heap.size + 1, 2, .int .i64 b.y.lo), (w.heap.size + 1, 3, .int .i64 b.y.hi), (w.heap.size, 0, .int .i64 a.x.lo), (w.heap.size, 1, .int .i64 a.x.hi), (w.heap.size, 2, .int .i64 a.y.lo), (w.heap.size, 3, .int .i64 a.y.hi)] : List (Nat × Nat × Value)), x.1 ≠ k2 := by simp only [List.forall_mem_cons, List.not_mem_nil, false_implies, implies_true, and_true]; omega
  have S1 := St.put ⟨BD.out n1, LD.out n1⟩ k2 (by omega) hL1 _ 23 q1 (fun c => (c.setIfInBounds 0 (.int .i64 qx)).setIfInBounds 1 (.int .i64 qy)) #[.int .i64 qx, .int .i64 qy] rfl
  have hb2 : w.heap.size + 1 + 1 < k2 := by omega
  have hb3 : k1 < k2 := by omega
  obtain ⟨⟨_, r1, z1⟩, ⟨_, r2, z2⟩, _⟩ := cs_heap n1.w k2 _ 23 q1 _ 0 rfl
  have HS := Lib.hid S1
  clear hL1 S1 kb kd hk2 q1
  go_upto_region 3 with fail
  obtain ⟨W1, hW1⟩ : ∃ W1, ((n1.w.setCell { block := k2, off := 0 } (Value.int IntKind.i64 qx)).setCell { block := k2, off := 1 } (Value.int IntKind.i64 qy)) = W1 := ⟨_, rfl⟩
  have S3 : St w W1 ((k2, 0, .int .i64 qx) :: (k2, 1, .int .i64 qy) :: [(k1, 0, .int .i64 px), (k1, 1, .int .i64 py), (w.heap.size + 1 + 1, 0, .int .i64 d.lo), (w.heap.size + 1 + 1, 1, .int .i64 d.hi), (w.heap.size + 1, 0, .int .i64 b.x.lo), (w.heap.size + 1, 1, .int .i64 b.x.hi), (w.heap.size + 1, 2, .int .i64 b.y.lo), (w.heap.size + 1, 3, .int .i64 b.y.hi), (w.heap.size, 0, .int .i64 a.x.lo), (w.heap.size, 1, .int .i64 a.x.hi), (w.heap.size, 2, .int .i64 a.y.lo), (w.heap.size, 3, .int .i64 a.y.hi)]) := by
    rw [← hW1]
    simp only [Go.Sort.setCell_eq, Go.Sort.mapBlock_mapBlock]
    exact HS.out
  rw [hW1]
  clear hW1 HS r1 r2 z1 z2
  obtain ⟨G, hC0, HG, LG, BG, hne⟩ := cls S3
  haveI := hne
  obtain ⟨g0, rfl⟩ : ∃ n : Wd G, W1 = n.w := ⟨⟨_, hC0⟩, rfl⟩
  have fG0 : ∀ n : Wd G, n.w.cell? ⟨k2, 0, none⟩ = some (.int .i64 qx) := fun n => (LG.out n).1.2.1
  have fG1 : ∀ n : Wd G, n.w.cell? ⟨k2, 1, none⟩ = some (.int .i64 qy) := fun n => (LG.out n).2.1.2.1
  have fG2 : ∀ n : Wd G, n.w.cell? ⟨k1, 0, none⟩ = some (.int .i64 px) := fun n => (LG.out n).2.2.1.2.1
  have fG3 : ∀ n : Wd G, n.w.cell? ⟨k1, 1, none⟩ = some (.int .i64 py) := fun n => (LG.out n).2.2.2.1.2.1
  have fG4 : ∀ n : Wd G, n.w.cell? ⟨w.heap.size + 1 + 1, 0, none⟩ = some (.int .i64 d.lo) := fun n => (LG.out n).2.2.2.2.1.2.1
  have fG5 : ∀ n : Wd G, n.w.cell? ⟨w.heap.size + 1 + 1, 1, none⟩ = some (.int .i64 d.hi) := fun n => (LG.out n).2.2.2.2.2.1.2.1
  have fG6 : ∀ n : Wd G, n.w.cell? ⟨w.heap.size + 1, 0, none⟩ = some (.int .i64 b.x.lo) := fun n => (LG.out n).2.2.2.2.2.2.1.2.1
  have fG7 : ∀ n : Wd G, n.w.cell? ⟨w.heap.size + 1, 1, none⟩ = some (.int .i64 b.x.hi) := fun n => (LG.out n).2.2.2.2.2.2.2.1.2.1
  have fG8 : ∀ n : Wd G, n.w.cell? ⟨w.heap.size + 1, 2, none⟩ = some (.int .i64 b.y.lo) := fun n => (LG.out n).2.2.2.2.2.2.2.2.1.2.1
  have fG9 : ∀ n : Wd G, n.w.cell? ⟨w.heap.size + 1, 3, none⟩ = some (.int .i64 b.y.hi) := fun n => (LG.out n).2.2.2.2.2.2.2.2.2.1.2.1
  have fG10 : ∀ n : Wd G, n.w.cell? ⟨w.heap.size, 0, none⟩ = some (.int .i64 a.x.lo) := fun n => (LG.out n).2.2.2.2.2.2.2.2.2.2.1.2.1
  have fG11 : ∀ n : Wd G, n.w.cell? ⟨w.heap.size, 1, none⟩ = some (.int .i64 a.x.hi) := fun n => (LG.out n).2.2.2.2.2.2.2.2.2.2.2.1.2.1
  have fG12 : ∀ n : Wd G, n.w.cell? ⟨w.heap.size, 2, none⟩ = some (.int .i64 a.y.lo) := fun n => (LG.out n).2.2.2.2.2.2.2.2.2.2.2.2.1.2.1
  have fG13 : ∀ n : Wd G, n.w.cell? ⟨w.heap.size, 3, none⟩ = some (.int .i64 a.y.hi) := fun n => (LG.out n).2.2.2.2.2.2.2.2.2.2.2.2.2.1.2.1
  clear S3 hC0
  have D1 := cin HG K1
  clear K1
  go_wp2_with (first | (go_at_call 57; with_reducible refine (D1 _).out.mono ?_; rintro e w' ⟨rfl, n, rfl⟩))
  obtain ⟨W0, hW0⟩ : ∃ W0, (n.w).alloc (.cells #[.int .i64 (f 0).x, .int .i64 (f 0).y, .int .i64 (f 1).x, .int .i64 (f 1).y, .int .i64 (f 2).x, .int .i64 (f 2).y, .int .i64 (f 3).x, .int .i64 (f 3).y] 68) = W0 := ⟨_, rfl⟩
  have S0 : St w W0 [(n.w.heap.size, 0, .int .i64 (f 0).x), (n.w.heap.size, 1, .int .i64 (f 0).y), (n.w.heap.size, 2, .int .i64 (f 1).x), (n.w.heap.size, 3, .int .i64 (f 1).y), (n.w.heap.size, 4, .int .i64 (f 2).x), (n.w.heap.size, 5, .int .i64 (f 2).y), (n.w.heap.size, 6, .int .i64 (f 3).x), (n.w.heap.size, 7, .int .i64 (f 3).y), (k2, 0, .int .i64 qx), (k2, 1, .int .i64 qy), (k1, 0, .int .i64 px), (k1, 1, .int .i64 py), (w.heap.size + 1 + 1, 0, .int .i64 d.lo), (w.heap.size + 1 + 1, 1, .int .i64 d.hi), (w.heap.size + 1, 0, .int .i64 b.x.lo), (w.heap.size + 1, 1, .int .i64 b.x.hi), (w.heap.size + 1, 2, .int .i64 b.y.lo), (w.heap.size + 1, 3, .int .i64 b.y.hi), (w.heap.size, 0, .int .i64 a.x.lo), (w.heap.size, 1, .int .i64 a.x.hi), (w.heap.size, 2, .int .i64 a.y.lo), (w.heap.size, 3, .int .i64 a.y.hi)] := by rw [← hW0]; exact ((⟨BG.out n, LG.out n⟩ : St w n.w _)).box #[.int .i64 (f 0).x, .int .i64 (f 0).y, .int .i64 (f 1).x, .int .i64 (f 1).y, .int .i64 (f 2).x, .int .i64 (f 2).y, .int .i64 (f 3).x, .int .i64 (f 3).y] 68 (n.w.heap.size) (by simp)
  rw [hW0]
  clear hW0
  obtain ⟨kI, hkk⟩ : ∃ k, n.w.heap.size = k := ⟨_, rfl⟩
  have gkI : w.heap.size ≤ kI := by rw [← hkk]; exact (BG.out n).size
  rw [hkk] at S0 ⊢
  clear hkk
  obtain ⟨I, hC0, HI, LI, BI, hne⟩ := cls S0
  haveI := hne
  obtain ⟨i0, rfl⟩ : ∃ n : Wd I, W0 = n.w := ⟨⟨_, hC0⟩, rfl⟩
  have fI0 : ∀ n : Wd I, n.w.cell? ⟨kI, 0, none⟩ = some (.int .i64 (f 0).x) := fun n => (LI.out n).1.2.1
  have fI1 : ∀ n : Wd I, n.w.cell? ⟨kI, 1, none⟩ = some (.int .i64 (f 0).y) := fun n => (LI.out n).2.1.2.1
  have fI2 : ∀ n : Wd I, n.w.cell? ⟨kI, 2, none⟩ = some (.int .i64 (f 1).x) := fun n => (LI.out n).2.2.1.2.1
  have fI3 : ∀ n : Wd I, n.w.cell? ⟨kI, 3, none⟩ = some (.int .i64 (f 1).y) := fun n => (LI.out n).2.2.2.1.2.1
  have fI4 : ∀ n : Wd I, n.w.cell? ⟨kI, 4, none⟩ = some (.int .i64 (f 2).x) := fun n => (LI.out n).2.2.2.2.1.2.1
  have fI5 : ∀ n : Wd I, n.w.cell? ⟨kI, 5, none⟩ = some (.int .i64 (f 2).y) := fun n => (LI.out n).2.2.2.2.2.1.2.1
  have fI6 : ∀ n : Wd I, n.w.cell? ⟨kI, 6, none⟩ = some (.int .i64 (f 3).x) := fun n => (LI.out n).2.2.2.2.2.2.1.2.1
  have fI7 : ∀ n : Wd I, n.w.cell? ⟨kI, 7, none⟩ = some (.int .i64 (f 3).y) := fun n => (LI.out n).2.2.2.2.2.2.2.1.2.1
  have fI8 : ∀ n : Wd I, n.w.cell? ⟨k2, 0, none⟩ = some (.int .i64 qx) := fun n => (LI.out n).2.2.2.2.2.2.2.2.1.2.1
  have fI9 : ∀ n : Wd I, n.w.cell? ⟨k2, 1, none⟩ = some (.int .i64 qy) := fun n => (LI.out n).2.2.2.2.2.2.2.2.2.1.2.1
  have fI10 : ∀ n : Wd I, n.w.cell? ⟨k1, 0, none⟩ = some (.int .i64 px) := fun n => (LI.out n).2.2.2.2.2.2.2.2.2.2.1.2.1
  have fI11 : ∀ n : Wd I, n.w.cell? ⟨k1, 1, none⟩ = some (.int .i64 py) := fun n => (LI.out n).2.2.2.2.2.2.2.2.2.2.2.1.2.1
  have fI12 : ∀ n : Wd I, n.w.cell? ⟨w.heap.size + 1 + 1, 0, none⟩ = some (.int .i64 d.lo) := fun n => (LI.out n).2.2.2.2.2.2.2.2.2.2.2.2.1.2.1
  have fI13 : ∀ n : Wd I, n.w.cell? ⟨w.heap.size + 1 + 1, 1, none⟩ = some (.int .i64 d.hi) := fun n => (LI.out n).2.2.2.2.2.2.2.2.2.2.2.2.2.1.2.1
  have fI14 : ∀ n : Wd I, n.w.cell? ⟨w.heap.size + 1, 0, none⟩ = some (.int .i64 b.x.lo) := fun n => (LI.out n).2.2.2.2.2.2.2.2.2.2.2.2.2.2.1.2.1
  have fI15 : ∀ n : Wd I, n.w.cell? ⟨w.heap.size + 1, 1, none⟩ = some (.int .i64 b.x.hi) := fun n => (LI.out n).2.2.2.2.2.2.2.2.2.2.2.2.2.2.2.1.2.1
  have fI16 : ∀ n : Wd I, n.w.cell? ⟨w.heap.size + 1, 2, none⟩ = some (.int .i64 b.y.lo) := fun n => (LI.out n).2.2.2.2.2.2.2.2.2.2.2.2.2.2.2.2.1.2.1
  have fI17 : ∀ n : Wd I, n.w.cell? ⟨w.heap.size + 1, 3, none⟩ = some (.int .i64 b.y.hi) := fun n => (LI.out n).2.2.2.2.2.2.2.2.2.2.2.2.2.2.2.2.2.1.2.1
  have fI18 : ∀ n : Wd I, n.w.cell? ⟨w.heap.size, 0, none⟩ = some (.int .i64 a.x.lo) := fun n => (LI.out n).2.2.2.2.2.2.2.2.2.2.2.2.2.2.2.2.2.2.1.2.1
  have fI19 : ∀ n : Wd I, n.w.cell? ⟨w.heap.size, 1, none⟩ = some (.int .i64 a.x.hi) := fun n => (LI.out n).2.2.2.2.2.2.2.2.2.2.2.2.2.2.2.2.2.2.2.1.2.1
  have fI20 : ∀ n : Wd I, n.w.cell? ⟨w.heap.size, 2, none⟩ = some (.int .i64 a.y.lo) := fun n => (LI.out n).2.2.2.2.2.2.2.2.2.2.2.2.2.2.2.2.2.2.2.2.1.2.1
  have fI21 : ∀ n : Wd I, n.w.cell? ⟨w.heap.size, 3, none⟩ = some (.int .i64 a.y.hi) := fun n => (LI.out n).2.2.2.2.2.2.2.2.2.2.2.2.2.2.2.2.2.2.2.2.2.1.2.1
  clear S0 hC0
  have D2 := cin HI K2
  clear K2 D1
  go_wp2_with (first | (go_at_call 57; with_reducible refine (D2 _).out.mono ?_; rintro e w' ⟨rfl, n, rfl⟩))
  obtain ⟨W0, hW0⟩ : ∃ W0, (n.w).alloc (.cells #[.int .i64 (g 0).x, .int .i64 (g 0).y, .int .i64 (g 1).x, .int .i64 (g 1).y, .int .i64 (g 2).x, .int .i64 (g 2).y, .int .i64 (g 3).x, .int .i64 (g 3).y] 68) = W0 := ⟨_, rfl⟩
  have S0 : St w W0 [(n.w.heap.size, 0, .int .i64 (g 0).x), (n.w.heap.size, 1, .int .i64 (g 0).y), (n.w.heap.size, 2, .int .i64 (g 1).x), (n.w.heap.size, 3, .int .i64 (g 1).y), (n.w.heap.size, 4, .int .i64 (g 2).x), (n.w.heap.size, 5, .int .i64 (g 2).y), (n.w.heap.size, 6, .int .i64 (g 3).x), (n.w.heap.size, 7, .int .i64 (g 3).y), (kI, 0, .int .i64 (f 0).x), (kI, 1, .int .i64 (f 0).y), (kI, 2, .int .i64 (f 1).x), (kI, 3, .int .i64 (f 1).y), (kI, 4, .int .i64 (f 2).x), (kI, 5, .int .i64 (f 2).y), (kI, 6, .int .i64 (f 3).x), (kI, 7, .int .i64 (f 3).y), (k2, 0, .int .i64 qx), (k2, 1, .int .i64 qy), (k1, 0, .int .i64 px), (k1, 1, .int .i64 py), (w.heap.size + 1 + 1, 0, .int .i64 d.lo), (w.heap.size + 1 + 1, 1, .int .i64 d.hi), (w.heap.size + 1, 0, .int .i64 b.x.lo), (w.heap.size + 1, 1, .int .i64 b.x.hi), (w.heap.size + 1, 2, .int .i64 b.y.lo), (w.heap.size + 1, 3, .int .i64 b.y.hi), (w.heap.size, 0, .int .i64 a.x.lo), (w.heap.size, 1, .int .i64 a.x.hi), (w.heap.size, 2, .int .i64 a.y.lo), (w.heap.size, 3, .int .i64 a.y.hi)] := by rw [← hW0]; exact ((⟨BI.out n, LI.out n⟩ : St w n.w _)).box #[.int .i64 (g 0).x, .int .i64 (g 0).y, .int .i64 (g 1).x, .int .i64 (g 1).y, .int .i64 (g 2).x, .int .i64 (g 2).y, .int .i64 (g 3).x, .int .i64 (g 3).y] 68 (n.w.heap.size) (by simp)
  rw [hW0]
  clear hW0
  obtain ⟨kJ, hkk⟩ : ∃ k, n.w.heap.size = k := ⟨_, rfl⟩
  have gkJ : w.heap.size ≤ kJ := by rw [← hkk]; exact (BI.out n).size
  rw [hkk] at S0 ⊢
  clear hkk
  obtain ⟨J, hC0, HJ, LJ, BJ, hne⟩ := cls S0
  haveI := hne
  obtain ⟨j0, rfl⟩ : ∃ n : Wd J, W0 = n.w := ⟨⟨_, hC0⟩, rfl⟩
  have fJ0 : ∀ n : Wd J, n.w.cell? ⟨kJ, 0, none⟩ = some (.int .i64 (g 0).x) := fun n => (LJ.out n).1.2.1
  have fJ1 : ∀ n : Wd J, n.w.cell? ⟨kJ, 1, none⟩ = some (.int .i64 (g 0).y) := fun n => (LJ.out n).2.1.2.1
  have fJ2 : ∀ n : Wd J, n.w.cell? ⟨kJ, 2, none⟩ = some (.int .i64 (g 1).x) := fun n => (LJ.out n).2.2.1.2.1
  have fJ3 : ∀ n : Wd J, n.w.cell? ⟨kJ, 3, none⟩ = some (.int .i64 (g 1).y) := fun n => (LJ.out n).2.2.2.1.2.1
  have fJ4 : ∀ n : Wd J, n.w.cell? ⟨kJ, 4, none⟩ = some (.int .i64 (g 2).x) := fun n => (LJ.out n).2.2.2.2.1.2.1
  have fJ5 : ∀ n : Wd J, n.w.cell? ⟨kJ, 5, none⟩ = some (.int .i64 (g 2).y) := fun n => (LJ.out n).2.2.2.2.2.1.2.1
  have fJ6 : ∀ n : Wd J, n.w.cell? ⟨kJ, 6, none⟩ = some (.int .i64 (g 3).x) := fun n => (LJ.out n).2.2.2.2.2.2.1.2.1
  have fJ7 : ∀ n : Wd J, n.w.cell? ⟨kJ, 7, none⟩ = some (.int .i64 (g 3).y) := fun n => (LJ.out n).2.2.2.2.2.2.2.1.2.1
  have fJ8 : ∀ n : Wd J, n.w.cell? ⟨kI, 0, none⟩ = some (.int .i64 (f 0).x) := fun n => (LJ.out n).2.2.2.2.2.2.2.2.1.2.1
  have fJ9 : ∀ n : Wd J, n.w.cell? ⟨kI, 1, none⟩ = some (.int .i64 (f 0).y) := fun n => (LJ.out n).2.2.2.2.2.2.2.2.2.1.2.1
  have fJ10 : ∀ n : Wd J, n.w.cell? ⟨kI, 2, none⟩ = some (.int .i64 (f 1).x) := fun n => (LJ.out n).2.2.2.2.2.2.2.2.2.2.1.2.1
  have fJ11 : ∀ n : Wd J, n.w.cell? ⟨kI, 3, none⟩ = some (.int .i64 (f 1).y) := fun n => (LJ.out n).2.2.2.2.2.2.2.2.2.2.2.1.2.1
  have fJ12 : ∀ n : Wd J, n.w.cell? ⟨kI, 4, none⟩ = some (.int .i64 (f 2).x) := fun n => (LJ.out n).2.2.2.2.2.2.2.2.2.2.2.2.1.2.1
  have fJ13 : ∀ n : Wd J, n.w.cell? ⟨kI, 5, none⟩ = some (.int .i64 (f 2).y) := fun n => (LJ.out n).2.2.2.2.2.2.2.2.2.2.2.2.2.1.2.1
  have fJ14 : ∀ n : Wd J, n.w.cell? ⟨kI, 6, none⟩ = some (.int .i64 (f 3).x) := fun n => (LJ.out n).2.2.2.2.2.2.2.2.2.2.2.2.2.2.1.2.1
  have fJ15 : ∀ n : Wd J, n.w.cell? ⟨kI, 7, none⟩ = some (.int .i64 (f 3).y) := fun n => (LJ.out n).2.2.2.2.2.2.2.2.2.2.2.2.2.2.2.1.2.1
  have fJ16 : ∀ n : Wd J, n.w.cell? ⟨k2, 0, none⟩ = some (.int .i64 qx) := fun n => (LJ.out n).2.2.2.2.2.2.2.2.2.2.2.2.2.2.2.2.1.2.1
  have fJ17 : ∀ n : Wd J, n.w.cell? ⟨k2, 1, none⟩ = some (.int .i64 qy) := fun n => (LJ.out n).2.2.2.2.2.2.2.2.2.2.2.2.2.2.2.2.2.1.2.1
  have fJ18 : ∀ n : Wd J, n.w.cell? ⟨k1, 0, none⟩ = some (.int .i64 px) := fun n => (LJ.out n).2.2.2.2.2.2.2.2.2.2.2.2.2.2.2.2.2.2.1.2.1
  have fJ19 : ∀ n : Wd J, n.w.cell? ⟨k1, 1, none⟩ = some (.int .i64 py) := fun n => (LJ.out n).2.2.2.2.2.2.2.2.2.2.2.2.2.2.2.2.2.2.2.1.2.1
  have fJ20 : ∀ n : Wd J, n.w.cell? ⟨w.heap.size + 1 + 1, 0, none⟩ = some (.int .i64 d.lo) := fun n => (LJ.out n).2.2.2.2.2.2.2.2.2.2.2.2.2.2.2.2.2.2.2.2.1.2.1
  have fJ21 : ∀ n : Wd J, n.w.cell? ⟨w.heap.size + 1 + 1, 1, none⟩ = some (.int .i64 d.hi) := fun n => (LJ.out n).2.2.2.2.2.2.2.2.2.2.2.2.2.2.2.2.2.2.2.2.2.1.2.1
  have fJ22 : ∀ n : Wd J, n.w.cell? ⟨w.heap.size + 1, 0, none⟩ = some (.int .i64 b.x.lo) := fun n => (LJ.out n).2.2.2.2.2.2.2.2.2.2.2.2.2.2.2.2.2.2.2.2.2.2.1.2.1
  have fJ23 : ∀ n : Wd J, n.w.cell? ⟨w.heap.size + 1, 1, none⟩ = some (.int .i64 b.x.hi) := fun n => (LJ.out n).2.2.2.2.2.2.2.2.2.2.2.2.2.2.2.2.2.2.2.2.2.2.2.1.2.1
  have fJ24 : ∀ n : Wd J, n.w.cell? ⟨w.heap.size + 1, 2, none⟩ = some (.int .i64 b.y.lo) := fun n => (LJ.out n).2.2.2.2.2.2.2.2.2.2.2.2.2.2.2.2.2.2.2.2.2.2.2.2.1.2.1
  have fJ25 : ∀ n : Wd J, n.w.cell? ⟨w.heap.size + 1, 3, none⟩ = some (.int .i64 b.y.hi) := fun n => (LJ.out n).2.2.2.2.2.2.2.2.2.2.2.2.2.2.2.2.2.2.2.2.2.2.2.2.2.1.2.1
  have fJ26 : ∀ n : Wd J, n.w.cell? ⟨w.heap.size, 0, none⟩ = some (.int .i64 a.x.lo) := fun n => (LJ.out n).2.2.2.2.2.2.2.2.2.2.2.2.2.2.2.2.2.2.2.2.2.2.2.2.2.2.1.2.1
  have fJ27 : ∀ n : Wd J, n.w.cell? ⟨w.heap.size, 1, none⟩ = some (.int .i64 a.x.hi) := fun n => (LJ.out n).2.2.2.2.2.2.2.2.2.2.2.2.2.2.2.2.2.2.2.2.2.2.2.2.2.2.2.1.2.1
  have fJ28 : ∀ n : Wd J, n.w.cell? ⟨w.heap.size, 2, none⟩ = some (.int .i64 a.y.lo) := fun n => (LJ.out n).2.2.2.2.2.2.2.2.2.2.2.2.2.2.2.2.2.2.2.2.2.2.2.2.2.2.2.2.1.2.1
  have fJ29 : ∀ n : Wd J, n.w.cell? ⟨w.heap.size, 3, none⟩ = some (.int .i64 a.y.hi) := fun n => (LJ.out n).2.2.2.2.2.2.2.2.2.2.2.2.2.2.2.2.2.2.2.2.2.2.2.2.2.2.2.2.2.1.2.1
  clear S0 hC0
  have D3 := cin HJ T1
  clear T1 D2 HC LC BC HD LD BD HG LG BG HI LI BI
  go_loopw [11, 12] (fun x i wr => ∃ k : Nat, i = .int .i64 (k : Int) ∧ k ≤ 16 ∧ x = .bool (anyE E d.hi k) ∧ ∃ n : Wd J, wr = n.w) (fun x i wr => 16 - (intOf i).toNat)
  case atStart => exact ⟨0, rfl, by omega, rfl, _, rfl⟩
  case round =>
    obtain ⟨k, rfl, hk, hx, n, rfl⟩ := hrel
    by_cases hlt : k < 16
    · obtain ⟨m1, hm1⟩ : ∃ m, k / 4 = m := ⟨_, rfl⟩
      obtain ⟨m3, hm3⟩ : ∃ m, k % 4 = m := ⟨_, rfl⟩
      have l1 : m1 < 4 := by omega
      have l3 : m3 < 4 := by omega
      have q1 : (k : Int).tdiv 4 = (m1 : Int) := by rw [Int.tdiv_eq_ediv_of_nonneg (by omega)]; omega
      have q3 : (k : Int).tmod 4 = (m3 : Int) := by rw [Int.tmod_eq_emod_of_nonneg (by omega)]; omega
      have T7 := fun W => Dist_any (f m1) (g m3) W
      obtain ⟨v, hv⟩ : ∃ v, dst (f m1) (g m3) = v := ⟨_, rfl⟩
      have hEv : E k = v := by rw [← hv, ← hm1, ← hm3]; exact (HE'.out k).symm
      simp only [hv] at T7
      obtain ⟨X, hX⟩ : ∃ X, anyE E d.hi k = X := ⟨_, rfl⟩
      have HN1 : Hid (anyE E d.hi (k + 1) = (X || (v == d.hi))) := by unfold Hid; rw [anyE, hX, hEv]
      rw [hX] at hx
      subst hx
      have A1 : ∀ n : Wd J, n.w.cell? ⟨kI, m1 * 2, none⟩ = some (.int .i64 (f m1).x) ∧ n.w.cell? ⟨kI, m1 * 2 + 1, none⟩ = some (.int .i64 (f m1).y) := fun n => cells4 (fJ8 n) (fJ9 n) (fJ10 n) (fJ11 n) (fJ12 n) (fJ13 n) (fJ14 n) (fJ15 n) m1 l1
      have A3 : ∀ n : Wd J, n.w.cell? ⟨kJ, m3 * 2, none⟩ = some (.int .i64 (g m3).x) ∧ n.w.cell? ⟨kJ, m3 * 2 + 1, none⟩ = some (.int .i64 (g m3).y) := fun n => cells4 (fJ0 n) (fJ1 n) (fJ2 n) (fJ3 n) (fJ4 n) (fJ5 n) (fJ6 n) (fJ7 n) m3 l3
      have A1x := fun n => (A1 n).1
      have A1y := fun n => (A1 n).2
      have A3x := fun n => (A3 n).1
      have A3y := fun n => (A3 n).2
      have D7 := cin HJ T7
      clear A1 A3 fJ0 fJ1 fJ2 fJ3 fJ4 fJ5 fJ6 fJ7 fJ8 fJ9 fJ10 fJ11 fJ12 fJ13 fJ14 fJ15 hX hEv hv hm1 hm3 T7
      have l1' : (m1 : Int) < 4 := by omega
      have l3' : (m3 : Int) < 4 := by omega
      have hw0 : IntKind.i64.wrap ((k : Int) + 1) = (k : Int) + 1 := (wrapEq _).trans (w64 (by omega))
      go_wp2_with fail
      cases X
      all_goals
        refine wp_region_in J (HJ.out _ _ (Wd.h _) (below_dr _)) (by kernel_rfl) (by kernel_rfl) ?_
        repeat (go_big_quiet_step (first | with_reducible exact (D7 _).out))
        refine wpQuiet_nil ?_
        intro wx hwx
        obtain ⟨n2, rfl⟩ : ∃ n : Wd J, wx = n.w := ⟨⟨wx, hwx⟩, rfl⟩
        clear hwx
        go_wp2_with fail
        go_roundw
        case rel => exact ⟨k + 1, by simp, by omega, by rw [HN1.out]; simp, _, rfl⟩
        case measure => simp [intOf]; omega
    · obtain rfl : k = 16 := by omega
      rw [HH.out] at hx
      subst hx
      go_wp2_with fail
      refine wp_region_in J (HJ.out _ _ (Wd.h _) (below_dr _)) (by kernel_rfl) (by kernel_rfl) ?_
      repeat (go_big_quiet_step (first | with_reducible exact (D3 _).out))
      refine wpQuiet_nil ?_
      intro wx hwx
      obtain ⟨n2, rfl⟩ : ∃ n : Wd J, wx = n.w := ⟨⟨wx, hwx⟩, rfl⟩
      clear hwx
      go_wp2_with fail
      go_ret
      exact ⟨ret_bool (by simp), BJ.out _⟩
end Go.Proofs.Ytdefpcjlbganpaa
