import Derived.Test.YtcejmfgbfdhflaaGreatLw
import Derived.Test.YtcejmfgbfdhflaaGreatTail
import Derived.WalkKit
import Derived.LoopTactic
import Derived.WalkSpells
import Derived.WalkLawsBesides
import Derived.Lib.Hide
import Derived.BigQuiet
import Derived.IntWalk
import Derived.Deep.DeepMust
import Derived.WalkSmall
import Derived.StillTailTactics
import Derived.Deep.RegionLaw
import Derived.Deep.RegionHeld3
import Derived.Deep.QuietTactic
namespace Go.Proofs.YtcejmfgbfdhflaaGreat
open Go.RowKit Go.BigFrame
/-! A region that draws its order, in which variables are made too: one walk serves. -/
section
variable {P : Program} {ops : Array Oper} {md : Region.Mode} {C : World → Prop}
/-- In every class of grown worlds within C an operation yields this. -/
def AllY (P : Program) (ops : Array Oper) (C : World → Prop) (o : Oper) (v : Value) (a : Act) : Prop :=
  ∀ D : World → Prop, (∀ W W', D W → Below W.heap.size W W' → D W') → (∀ W, D W → C W) → Nonempty (Wd D) → YieldsIn P ops D o v a
/-- From here on f operations come up, each of the first n, whatever the order: each yields its value, or makes a variable; then L. -/
def AheadU (P : Program) (md : Region.Mode) (ops : Array Oper) (C : World → Prop) (isA : Nat → Bool) (val : Nat → Value) (n : Nat) (L : Array Bool → Act → Prop) : Nat → Array Bool → Act → Prop
  | 0, li, a => L li a
  | f + 1, li, a => Region.ready md ops li ≠ [] ∧ ∀ i ∈ Region.ready md ops li, i < n ∧ ∃ oi, ops[i]? = some oi ∧ (isA i = false → AllY P ops C oi (val i) a) ∧ ∀ v, (isA i = true ∨ v = val i) → AheadU P md ops C isA val n L f (li.setIfInBounds i true) (a.put oi.dst v)
theorem AllY.back {oi oj : Oper} {u v : Value} {a : Act} (hap : oi.apart ops oj = true) (hs : ∀ cs b, oj.op ≠ .select cs b) (h : AllY P ops C oj u (a.put oi.dst v)) : AllY P ops C oj u a :=
  fun D h1 h2 h3 => (h D h1 h2 h3).of_same (execOp_put oj hs a oi.dst v (Oper.apart_spec hap).1).symm (wanted_put oj a oi.dst v (Oper.apart_spec hap).1).symm
theorem AllY.fwd {oi oj : Oper} {u v : Value} {a : Act} (hap : oi.apart ops oj = true) (hs : ∀ cs b, oi.op ≠ .select cs b) (h : AllY P ops C oi v a) : AllY P ops C oi v (a.put oj.dst u) :=
  fun D h1 h2 h3 => (h D h1 h2 h3).of_same (execOp_put oi hs a oj.dst u (Oper.apart_spec hap).2.2) (wanted_put oi a oj.dst u (Oper.apart_spec hap).2.2)
theorem AheadU.pick {isA : Nat → Bool} {val : Nat → Value} {n i : Nat} {oi : Oper} {L : Array Bool → Act → Prop} (hi : ops[i]? = some oi) (hsel : ∀ (j : Nat) (o : Oper) cs b, ops[j]? = some o → o.op ≠ .select cs b)
    (hs : Region.sinkB md ops n = true) (hc : Region.chainB md ops n = true) (hn : n < ops.size) (hin : i < n) (hend : ∀ li a, L li a → ∀ j ∈ Region.ready md ops li, n ≤ j) (f : Nat) :
    ∀ (li : Array Bool) (a : Act), HeadInv md ops n li →
      (∀ j oj, ops[j]? = some oj → j ≠ i → li.getD j true = false → (∀ e ∈ oj.after, Region.binds md e = true → e.on ≠ i) → oi.apart ops oj = true) →
      i ∈ Region.ready md ops li → (isA i = false → AllY P ops C oi (val i) a) → (∀ v, (isA i = true ∨ v = val i) → AheadU P md ops C isA val n L f (li.setIfInBounds i true) (a.put oi.dst v)) → AheadU P md ops C isA val n L (f + 1) li a := by
  induction f with
  | zero =>
    intro li a inv _ hr hy H
    refine ⟨fun e => absurd hr (by rw [e]; simp), fun j hj => ?_⟩
    have hjn : j < n := (Nat.lt_or_ge j n).resolve_right fun h => absurd hj (tail_waits hs hc hn inv _ i rfl hin (mem_ready.1 hr).1 j h)
    rcases Nat.decEq j i with hne | rfl
    · have := hend _ _ (H (val i) (.inr rfl)) j (ready_mono hj hne)
      omega
    · exact ⟨hjn, oi, hi, hy, H⟩
  | succ f ih =>
    intro li a inv hap hr hy H
    refine ⟨fun e => absurd hr (by rw [e]; simp), fun j hj => ?_⟩
    have hjn : j < n := (Nat.lt_or_ge j n).resolve_right fun h => absurd hj (tail_waits hs hc hn inv _ i rfl hin (mem_ready.1 hr).1 j h)
    rcases Nat.decEq j i with hne | rfl
    · obtain ⟨hju, oj, hoj, hall⟩ := mem_ready.1 hj
      have hno : ∀ e ∈ oj.after, Region.binds md e = true → e.on ≠ i := fun e he hb heq => by
        have h1 := hall e he hb
        rw [heq, getD_both (mem_ready.1 hr).1] at h1
        cases h1
      have hp := hap j oj hoj hne hju hno
      have key : ∀ v, (isA i = true ∨ v = val i) → (isA j = false → AllY P ops C oj (val j) (a.put oi.dst v)) ∧ ∀ u, (isA j = true ∨ u = val j) → AheadU P md ops C isA val n L f ((li.setIfInBounds i true).setIfInBounds j true) ((a.put oi.dst v).put oj.dst u) := fun v hv => by
        obtain ⟨_, oj', hoj', h1, h2⟩ := (H v hv).2 j (ready_mono hj hne)
        obtain rfl : oj = oj' := Option.some.inj (hoj.symm.trans hoj')
        exact ⟨h1, h2⟩
      refine ⟨hjn, oj, hoj, fun hA => ((key (val i) (.inr rfl)).1 hA).back hp (fun cs b => hsel j oj cs b hoj), fun u hu => ?_⟩
      refine ih (li.setIfInBounds j true) _ (inv.set hj hjn) (fun k ok hk hki hun hno' => hap k ok hk hki ?_ hno') (ready_mono hr (Ne.symm hne)) (fun hA => (hy hA).fwd hp (fun cs b => hsel i oi cs b hi)) (fun v hv => ?_)
      · rcases Nat.decEq j k with hjk | rfl
        · rwa [getD_set_ne true hjk] at hun
        · exact hju
      · rw [Array.setIfInBounds_comm _ _ hne, ← Act.put_comm a v u (Oper.apart_spec hp).2.1]
        exact (key v hv).2 u hu
    · exact ⟨hjn, oi, hi, hy, H⟩
/-- Where the variables lie. -/
def InvU (isA : Nat → Bool) (sl : Nat → Nat) (blk : Nat → Obj) (N : Nat) (li : Array Bool) (a : Act) (w : World) : Prop :=
  ∃ bl : Nat → Nat, ∀ i, isA i = true → li.getD i false = true → a.tmps[sl i]? = some (.pointer (some ⟨bl i, 0, none⟩)) ∧ N ≤ bl i ∧ w.heap[bl i]? = some (blk i) ∧ ∀ j, isA j = true → li.getD j false = true → j ≠ i → bl j ≠ bl i
theorem AheadU.any {isA : Nat → Bool} {val : Nat → Value} {sl : Nat → Nat} {blk : Nat → Obj} {N n g : Nat} {L : Array Bool → Act → Prop} {Q : Exit → Act → World → Prop}
    (hcl : ∀ W W', C W → Below W.heap.size W W' → C W')
    (hA : ∀ i oi, ops[i]? = some oi → isA i = true → oi.dst = some (sl i) ∧ oi.guard = none ∧ ∀ (a : Act) w, (execOp a.eval oi).run P w = .ok (.value (.pointer (some ⟨w.heap.size, 0, none⟩))) (w.alloc (blk i)))
    (hB : ∀ i j oi, ops[i]? = some oi → i < n → isA j = true → i ≠ j → oi.dst ≠ some (sl j))
    (hL : ∀ li a w, C w → InvU isA sl blk N li a w → N ≤ w.heap.size → L li a → wpAny P md ops Q g li a w) :
    ∀ (f : Nat) (li : Array Bool) (a : Act) (w : World), C w → InvU isA sl blk N li a w → N ≤ w.heap.size → (∀ i, isA i = true → sl i < a.tmps.size) → AheadU P md ops C isA val n L f li a → wpAny P md ops Q (f + g) li a w
  | 0, li, a, w, hw, hI, hN, _, h => by rw [Nat.zero_add]; exact hL _ _ _ hw hI hN h
  | f + 1, li, a, w, hw, hI, hN, hsz, h => by
    rw [show f + 1 + g = f + g + 1 from by omega]
    refine ⟨fun e => absurd e h.1, fun i hi => ?_⟩
    obtain ⟨hin, oi, hoi, hy, H⟩ := h.2 i hi
    have hun := (mem_ready.1 hi).1
    have hils : i < li.size := by
      rcases Nat.lt_or_ge i li.size with h' | h'
      · exact h'
      · simp [Array.getElem?_eq_none h'] at hun
    cases hia : isA i with
    | false =>
      have hq := (hy hia (fun W => C W ∧ Below w.heap.size w W) (fun W W' h1 h2 => ⟨hcl _ _ h1.1 h2, h1.2.trans (h2.mono h1.2.size)⟩) (fun W h1 => h1.1) ⟨⟨w, hw, Below.refl _ _⟩⟩).qOp hoi (K := fun a' => a' = a.put oi.dst (val i)) rfl
      refine wpOp_of_qOp (C := fun W => C W ∧ Below w.heap.size w W) ⟨hw, Below.refl _ _⟩ (fun a' w' hw' ha' => ?_) hq
      subst ha'
      refine AheadU.any hcl hA hB hL f _ _ w' hw'.1 ?_ (Nat.le_trans hN hw'.2.size) (fun j hj => ?_) (H _ (.inr rfl))
      · obtain ⟨bl, hbl⟩ := hI
        have hl : ∀ j, isA j = true → (li.setIfInBounds i true).getD j false = true → li.getD j false = true := fun j hj hlj => by
          rwa [getD_set_ne false (fun e => by rw [e, hj] at hia; cases hia)] at hlj
        refine ⟨bl, fun j hj hlj => ?_⟩
        obtain ⟨h1, h2, h3, h4⟩ := hbl j hj (hl j hj hlj)
        have hne : i ≠ j := fun e => by rw [e, hj] at hia; cases hia
        refine ⟨?_, h2, ?_, fun k hk hlk hne => h4 k hk (hl k hk hlk) hne⟩
        · have := hB i j oi hoi hin hj hne
          cases hd : oi.dst with
          | none => exact h1
          | some d =>
            have hdn : d ≠ sl j := fun e => this (by rw [hd, e])
            simp only [Act.put]
            rw [Array.getElem?_setIfInBounds_ne hdn]
            exact h1
        · rw [hw'.2.block _ (Array.getElem?_eq_some_iff.1 h3).1]; exact h3
      · have := hsz j hj
        cases oi.dst with
        | none => exact this
        | some d => simpa [Act.put] using this
    | true =>
      obtain ⟨hd, hg, hx⟩ := hA i oi hoi hia
      unfold wpOp
      simp only [hoi]
      rw [if_pos (by simp [Region.wanted, hg])]
      refine .inl ?_
      unfold Oper.wp
      rw [hx]
      simp only [Oper.upon]
      refine AheadU.any hcl hA hB hL f _ _ _ (hcl _ _ hw (below_al _ _)) ?_ (Nat.le_trans hN (by simp)) (fun j hj => ?_) (H _ (.inl hia))
      · obtain ⟨bl, hbl⟩ := hI
        refine ⟨fun j => if j = i then w.heap.size else bl j, fun j hj hlj => ?_⟩
        have hl : ∀ j, j ≠ i → (li.setIfInBounds i true).getD j false = true → li.getD j false = true := fun j hj hlj => by
          rwa [getD_set_ne false (Ne.symm hj)] at hlj
        have hlt : ∀ j, isA j = true → j ≠ i → (li.setIfInBounds i true).getD j false = true → bl j < w.heap.size := fun j hj hne hlj => (Array.getElem?_eq_some_iff.1 (hbl j hj (hl j hne hlj)).2.2.1).1
        by_cases hji : j = i
        · subst hji
          dsimp only
          rw [if_pos rfl]
          refine ⟨?_, hN, heap_alloc_new _ _, fun k hk hlk hne => ?_⟩
          · have := hsz j hj
            simp only [hd, Act.put]
            simp [this]
          · rw [if_neg hne]
            have := hlt k hk hne hlk
            omega
        · dsimp only
          rw [if_neg hji]
          obtain ⟨h1, h2, h3, h4⟩ := hbl j hj (hl j hji hlj)
          refine ⟨?_, h2, ?_, fun k hk hlk hne => ?_⟩
          · have := hB i j oi hoi hin hj (Ne.symm hji)
            have hdn : sl i ≠ sl j := fun e => this (by rw [hd, e])
            simp only [hd, Act.put]
            rw [Array.getElem?_setIfInBounds_ne hdn]
            exact h1
          · rw [(below_al w (blk i)).block _ (Array.getElem?_eq_some_iff.1 h3).1]; exact h3
          · by_cases hki : k = i
            · subst hki
              rw [if_pos rfl]
              have := hlt j hj hji hlj
              omega
            · rw [if_neg hki]
              exact h4 k hk (hl k hki hlk) hne
      · have := hsz j hj
        rw [hd]
        simpa [Act.put] using this
/-- Values for r slots, one after another. -/
def putAll (sl : Nat → Nat) (vs : Nat → Value) : Nat → Nat → Act → Act
  | 0, _, a => a
  | r + 1, k, a => putAll sl vs r (k + 1) (a.put (some (sl k)) (vs k))
theorem putAll_congr {sl : Nat → Nat} {vs vs' : Nat → Value} : ∀ (r k : Nat) (a : Act), (∀ i, k ≤ i → i < k + r → vs i = vs' i) → putAll sl vs r k a = putAll sl vs' r k a
  | 0, _, _, _ => rfl
  | r + 1, k, a, h => by
    rw [putAll, putAll, h k (Nat.le_refl _) (by omega)]
    exact putAll_congr r (k + 1) _ fun i h1 h2 => h i (by omega) (by omega)
theorem putAll_other {sl : Nat → Nat} {vs : Nat → Value} {t : Nat} : ∀ (r k : Nat) (a : Act), (∀ i, k ≤ i → i < k + r → sl i ≠ t) → (putAll sl vs r k a).tmps[t]? = a.tmps[t]?
  | 0, _, _, _ => rfl
  | r + 1, k, a, h => by
    rw [putAll, putAll_other r (k + 1) _ fun i h1 h2 => h i (by omega) (by omega)]
    have := h k (Nat.le_refl _) (by omega)
    simp only [Act.put]
    rw [Array.getElem?_setIfInBounds_ne this]
theorem putAll_get {sl : Nat → Nat} {vs : Nat → Value} : ∀ (r k : Nat) (a : Act), (∀ i j, k ≤ i → i < k + r → k ≤ j → j < k + r → i ≠ j → sl i ≠ sl j) → (∀ i, k ≤ i → i < k + r → sl i < a.tmps.size) → ∀ i, k ≤ i → i < k + r → (putAll sl vs r k a).tmps[sl i]? = some (vs i)
  | 0, _, _, _, _, _, h1, h2 => absurd h2 (by omega)
  | r + 1, k, a, hd, hz, i, h1, h2 => by
    rw [putAll]
    by_cases hik : i = k
    · subst hik
      rw [putAll_other _ _ _ fun j h3 h4 => hd j i (by omega) (by omega) h1 h2 (by omega)]
      have := hz i h1 h2
      simp [Act.put, this]
    · exact putAll_get r (k + 1) _ (fun x y a1 a2 a3 a4 => hd x y (by omega) (by omega) (by omega) (by omega)) (fun x a1 a2 => by have := hz x (by omega) (by omega); simpa [Act.put] using this) i (by omega) (by omega)
/-- The variables' part of the text's order. -/
theorem AheadU.lexA {isA : Nat → Bool} {val : Nat → Value} {sl : Nat → Nat} {m n g : Nat} {Lq : Act → Prop} (hsel : Region.noSelect ops = true) (hs : Region.sinkB md ops n = true) (hc : Region.chainB md ops n = true) (hn : n < ops.size)
    (hA : ∀ i, m ≤ i → i < n → isA i = true ∧ ∃ oi, ops[i]? = some oi ∧ oi.dst = some (sl i)) :
    ∀ (r k : Nat) (li : Array Bool) (a : Act), m ≤ k → k + r = n → HeadInv md ops n li → Region.lexHead md ops g r k li = true → (∀ vs : Nat → Value, Lq (putAll sl vs r k a)) →
      AheadU P md ops C isA val n (fun li' a' => HeadInv md ops n li' ∧ Region.seqB md ops g n li' = true ∧ Lq a') r li a
  | 0, k, li, a, _, hk, inv, hB, h => by
    obtain rfl : k = n := by omega
    exact ⟨inv, by simpa [Region.lexHead] using hB, h fun _ => undef⟩
  | r + 1, k, li, a, hm, hk, inv, hB, h => by
    simp only [Region.lexHead, Bool.and_eq_true] at hB
    obtain ⟨hia, oi, hoi, hd⟩ := hA k hm (by omega)
    have hr : k ∈ Region.ready md ops li := by simpa using hB.1.1
    refine AheadU.pick hoi (Region.noSelect_spec hsel) hs hc hn (by omega) (fun li' a' hL => seqB_ready hL.2.1) r li a inv (Region.free_spec hoi hB.1.2) hr (fun e => by rw [hia] at e; cases e) (fun v _ => ?_)
    refine AheadU.lexA hsel hs hc hn hA r (k + 1) _ _ (by omega) (by omega) (inv.set hr (by omega)) hB.2 (fun vs => ?_)
    have := h fun i => if i = k then v else vs i
    rw [putAll] at this
    rw [hd, putAll_congr (vs' := fun i => if i = k then v else vs i) r (k + 1) _ fun i h1 h2 => (if_neg (by omega)).symm]
    simpa using this
/-- What a walk leaves alone. -/
theorem quiet_keeps {D : World → Prop} {A : Act} {d : Nat} : ∀ (l : List Oper) (a : Act), (∀ o ∈ l, o.dst ≠ some d) → wpQuiet P ops D (fun a' => a' = A) l a → A.tmps[d]? = a.tmps[d]?
  | [], a, _, h => by obtain rfl : a = A := h; rfl
  | o :: l, a, hd, h => by
    have hput : ∀ v, (a.put o.dst v).tmps[d]? = a.tmps[d]? := fun v => by
      have := hd o List.mem_cons_self
      cases ho : o.dst with
      | none => rfl
      | some e =>
        have hne : e ≠ d := fun h' => this (by rw [ho, h'])
        simp only [Act.put]
        rw [Array.getElem?_setIfInBounds_ne hne]
    unfold wpQuiet at h
    split at h
    · obtain ⟨v, _, h2⟩ := h
      rw [quiet_keeps l _ (fun o' h' => hd o' (List.mem_cons_of_mem _ h')) h2, hput]
    · rw [quiet_keeps l _ (fun o' h' => hd o' (List.mem_cons_of_mem _ h')) h, hput]
/-- The slots of quiet operations: each one its own, and there. -/
def slotsB (s : Nat) : List Oper → Bool
  | [] => true
  | o :: l => (match o.dst with | some d => decide (d < s) && l.all fun o' => o'.dst != some d | none => false) && slotsB s l
theorem AheadU.lexQ {isA : Nat → Bool} {A : Act} {n m g r s : Nat} {L : Array Bool → Act → Prop} (hsel : Region.noSelect ops = true) (hs : Region.sinkB md ops n = true) (hc : Region.chainB md ops n = true) (hn : n < ops.size)
    (hend : ∀ li a, L li a → ∀ j ∈ Region.ready md ops li, n ≤ j) (hmn : m + r = n) (hA : ∀ i, i < m → isA i = false) (hD : ∃ D : World → Prop, (∀ W W', D W → Below W.heap.size W W' → D W') ∧ (∀ W, D W → C W) ∧ Nonempty (Wd D))
    (val : Nat → Value) (hval : ∀ i oi d, ops[i]? = some oi → oi.dst = some d → val i = (A.tmps[d]?).getD undef)
    (hfin : ∀ li, HeadInv md ops n li → Region.lexHead md ops g r m li = true → AheadU P md ops C isA val n L r li A) :
    ∀ (l : List Oper) (k : Nat) (li : Array Bool) (a : Act), (∀ j, j < l.length → l[j]? = ops[k + j]?) → k + l.length = m → HeadInv md ops n li → Region.lexHead md ops g (l.length + r) k li = true → a.tmps.size = s → slotsB s l = true →
      (∀ D : World → Prop, (∀ W W', D W → Below W.heap.size W W' → D W') → (∀ W, D W → C W) → Nonempty (Wd D) → wpQuiet P ops D (fun a' => a' = A) l a) → AheadU P md ops C isA val n L (l.length + r) li a
  | [], k, li, a, _, hk, inv, hB, _, _, h => by
    obtain ⟨D, h1, h2, h3⟩ := hD
    obtain rfl : a = A := h D h1 h2 h3
    simp only [List.length_nil, Nat.zero_add] at hB hk ⊢
    obtain rfl : k = m := by omega
    exact hfin li inv hB
  | o :: l, k, li, a, hl, hk, inv, hB, hz, hsl, h => by
    have h0 : ops[k]? = some o := by simpa using (hl 0 (by simp)).symm
    rw [List.length_cons, show l.length + 1 + r = l.length + r + 1 from by omega] at hB ⊢
    simp only [List.length_cons] at hk
    simp only [Region.lexHead, Bool.and_eq_true] at hB
    simp only [slotsB, Bool.and_eq_true] at hsl
    have hr : k ∈ Region.ready md ops li := by simpa using hB.1.1
    cases hd : o.dst with
    | none => rw [hd] at hsl; cases hsl.1
    | some d =>
      rw [hd] at hsl
      simp only [Bool.and_eq_true, decide_eq_true_eq, List.all_eq_true, bne_iff_ne] at hsl
      have key : ∀ D : World → Prop, (∀ W W', D W → Below W.heap.size W W' → D W') → (∀ W, D W → C W) → Nonempty (Wd D) → YieldsIn P ops D o (val k) a ∧ wpQuiet P ops D (fun a' => a' = A) l (a.put o.dst (val k)) := fun D h1 h2 h3 => by
        have hq : qOp P ops D k (wpQuiet P ops D (fun a' => a' = A) l) a := by unfold qOp; simp only [h0]; exact h D h1 h2 h3
        obtain ⟨v, hy, hK⟩ := yieldsIn_of_qOp h0 hq
        have e := quiet_keeps l _ hsl.1.2 hK
        have hv : val k = v := by
          rw [hval k o d h0 hd, e, hd]
          simp [Act.put, hz, hsl.1.1]
        rw [hv]
        exact ⟨hy, hK⟩
      refine AheadU.pick h0 (Region.noSelect_spec hsel) hs hc hn (by omega) hend (l.length + r) li a inv (Region.free_spec h0 hB.1.2) hr (fun _ D h1 h2 h3 => (key D h1 h2 h3).1) (fun v hv => ?_)
      obtain rfl : v = val k := hv.resolve_left (by rw [hA k (by omega)]; simp)
      refine AheadU.lexQ hsel hs hc hn hend hmn hA hD val hval hfin l (k + 1) _ _ (fun j hj => ?_) (by omega) (inv.set hr (by omega)) hB.2 (by rw [hd]; simpa [Act.put] using hz) hsl.2 (fun D h1 h2 h3 => (key D h1 h2 h3).2)
      have := hl (j + 1) (by simp; omega)
      simpa [Nat.add_assoc, Nat.add_comm 1 j] using this
theorem slotsB_lt {s : Nat} : ∀ {l : List Oper} {i : Nat} {o : Oper}, slotsB s l = true → l[i]? = some o → ∃ d, o.dst = some d ∧ d < s
  | [], _, _, _, h => by simp at h
  | p :: l, 0, o, hs, h => by
    obtain rfl : p = o := by simpa using h
    simp only [slotsB, Bool.and_eq_true] at hs
    cases hd : p.dst with
    | none => rw [hd] at hs; cases hs.1
    | some d =>
      rw [hd] at hs
      simp only [Bool.and_eq_true, decide_eq_true_eq] at hs
      exact ⟨d, rfl, hs.1.1⟩
  | p :: l, i + 1, o, hs, h => by
    simp only [slotsB, Bool.and_eq_true] at hs
    exact slotsB_lt hs.2 (by simpa using h)
theorem slotsB_ne {s : Nat} : ∀ {l : List Oper} {i j : Nat} {o p : Oper}, slotsB s l = true → l[i]? = some o → l[j]? = some p → i < j → o.dst ≠ p.dst
  | [], _, _, _, _, _, h, _, _ => by simp at h
  | x :: l, i, 0, o, p, _, _, _, h => by omega
  | x :: l, 0, j + 1, o, p, hs, h, k, _ => by
    obtain rfl : x = o := by simpa using h
    simp only [slotsB, Bool.and_eq_true] at hs
    have hk : p ∈ l := List.mem_of_getElem? (by simpa using k)
    cases hd : x.dst with
    | none => rw [hd] at hs; cases hs.1
    | some d =>
      rw [hd] at hs
      simp only [Bool.and_eq_true, decide_eq_true_eq, List.all_eq_true, bne_iff_ne] at hs
      exact fun e => hs.1.2 p hk e.symm
  | x :: l, i + 1, j + 1, o, p, hs, h, k, hij => by
    simp only [slotsB, Bool.and_eq_true] at hs
    exact slotsB_ne hs.2 (by simpa using h) (by simpa using k) (by omega)
theorem slotsB_take {s : Nat} : ∀ (l : List Oper) (k : Nat), slotsB s l = true → slotsB s (l.take k) = true
  | [], _, _ => by simp [slotsB]
  | o :: l, 0, _ => by simp [slotsB]
  | o :: l, k + 1, h => by
    simp only [slotsB, Bool.and_eq_true, List.take_succ_cons] at h ⊢
    refine ⟨?_, slotsB_take l k h.2⟩
    cases hd : o.dst with
    | none => rw [hd] at h; cases h.1
    | some d =>
      rw [hd] at h
      simp only [Bool.and_eq_true, decide_eq_true_eq, List.all_eq_true] at h ⊢
      exact ⟨h.1.1, fun x hx => h.1.2 x (List.mem_of_mem_take hx)⟩
end
/-- A region that draws its order: m quiet operations, then variables up to n, then a forced end. -/
theorem wp_region_floats {P : Program} {id : Nat} {Q : Exit → Act → World → Prop} {a : Act} {w : World} {l : List Oper} (n m : Nat) (C : World → Prop) (A : Act) (sl : Nat → Nat) (blk : Nat → Obj)
    (hcl : ∀ W W', C W → Below W.heap.size W W' → C W') (hC : C w.drew) (hm : P.follows .mixedOrders = true) (hB : Region.lexTailB .any l.toArray n = true) (hmn : m ≤ n)
    (hal : ∀ i, m ≤ i → i < n → ∃ o, l[i]? = some o ∧ o.dst = some (sl i) ∧ o.guard = none ∧ ∀ (a : Act) w, (execOp a.eval o).run P w = .ok (.value (.pointer (some ⟨w.heap.size, 0, none⟩))) (w.alloc (blk i)))
    (hsl : slotsB a.tmps.size (l.take n) = true)
    (hq : ∀ D : World → Prop, (∀ W W', D W → Below W.heap.size W W' → D W') → (∀ W, D W → C W) → Nonempty (Wd D) → wpQuiet P l.toArray (fun w' => ∃ n : Wd D, w' = n.w) (fun a' => a' = A) (l.take m) a)
    (ht : ∀ (W : World) (bl : Nat → Nat), C W → (∀ i, m ≤ i → i < n → w.heap.size ≤ bl i ∧ W.heap[bl i]? = some (blk i)) → (∀ i j, m ≤ i → i < n → m ≤ j → j < n → i ≠ j → bl i ≠ bl j) →
      wpList P l.toArray Q (l.drop n) (putAll sl (fun i => .pointer (some ⟨bl i, 0, none⟩)) (n - m) m A) W) : (Code.region id l.toArray true).wp P Q a w := by
  simp only [Region.lexTailB, Bool.and_eq_true, decide_eq_true_eq] at hB
  obtain ⟨⟨⟨⟨hsel, hn⟩, hs⟩, hc⟩, hlex⟩ := hB
  have hnl : n < l.length := by simpa using hn
  have hg : (l.drop n).length = l.toArray.size - n := by simp
  have hop : ∀ i : Nat, l.toArray[i]? = l[i]? := fun i => List.getElem?_toArray
  have inv : HeadInv .any l.toArray n (Array.replicate l.toArray.size false) :=
    ⟨by simp, fun j oj _ hl => (by rw [getD_replicate_false] at hl; cases hl), fun t _ ht => getD_in (by simpa using ht) (getD_replicate_false _ _)⟩
  have hq' : ∀ D : World → Prop, (∀ W W', D W → Below W.heap.size W W' → D W') → (∀ W, D W → C W) → Nonempty (Wd D) → wpQuiet P l.toArray D (fun a' => a' = A) (l.take m) a := fun D h1 h2 h3 => by
    have e : (fun w' => ∃ n : Wd D, w' = n.w) = D := funext fun w' => propext ⟨fun ⟨n, hn⟩ => hn ▸ n.h, fun hc => ⟨⟨w', hc⟩, rfl⟩⟩
    have := hq D h1 h2 h3
    rwa [e] at this
  have hne : Nonempty (Wd C) := ⟨⟨_, hC⟩⟩
  obtain ⟨isA, hisA⟩ : ∃ isA : Nat → Bool, isA = fun i => decide (m ≤ i ∧ i < n) := ⟨_, rfl⟩
  have hia : ∀ i, isA i = true ↔ m ≤ i ∧ i < n := fun i => by rw [hisA]; simp
  obtain ⟨val, hval⟩ : ∃ val : Nat → Value, val = fun i => match l[i]? with | some o => (match o.dst with | some d => (A.tmps[d]?).getD undef | none => undef) | none => undef := ⟨_, rfl⟩
  have tk : ∀ i, i < n → (l.take n)[i]? = l[i]? := fun i hi => List.getElem?_take_of_lt hi
  have hslA : ∀ i, m ≤ i → i < n → sl i < a.tmps.size := fun i h1 h2 => by
    obtain ⟨o, ho, hd, _⟩ := hal i h1 h2
    obtain ⟨d, hd', hlt⟩ := slotsB_lt hsl (i := i) (o := o) (by rw [tk i h2]; exact ho)
    rw [hd] at hd'
    cases hd'
    exact hlt
  have hdist : ∀ i j oi, l[i]? = some oi → i < n → isA j = true → i ≠ j → oi.dst ≠ some (sl j) := fun i j oi hoi hi hj hij => by
    obtain ⟨h1, h2⟩ := (hia j).1 hj
    obtain ⟨o, ho, hd, _⟩ := hal j h1 h2
    rcases Nat.lt_or_gt_of_ne hij with h | h
    · have := slotsB_ne hsl (i := i) (j := j) (o := oi) (p := o) (by rw [tk i hi]; exact hoi) (by rw [tk j h2]; exact ho) h
      rwa [hd] at this
    · have := slotsB_ne hsl (i := j) (j := i) (o := o) (p := oi) (by rw [tk j h2]; exact ho) (by rw [tk i hi]; exact hoi) h
      rw [hd] at this
      exact this.symm
  have hslne : ∀ i j, m ≤ i → i < n → m ≤ j → j < n → i ≠ j → sl i ≠ sl j := fun i j h1 h2 h3 h4 hij e => by
    obtain ⟨o, ho, hd, _⟩ := hal i h1 h2
    exact hdist i j o ho h2 ((hia j).2 ⟨h3, h4⟩) hij (by rw [hd, e])
  have hAs : ∀ i, m ≤ i → i < n → sl i < A.tmps.size := fun i h1 h2 => by
    have k := quiet_keeps (d := sl i) _ _ (fun o ho => by
      obtain ⟨j, hj⟩ := List.getElem?_of_mem ho
      have hjm : j < m := by have := (List.getElem?_eq_some_iff.1 hj).1; simp at this; omega
      exact hdist j i o (by rwa [List.getElem?_take_of_lt hjm] at hj) (by omega) ((hia i).2 ⟨h1, h2⟩) (by omega)) (hq' C hcl (fun _ h => h) hne)
    have := hslA i h1 h2
    rw [Array.getElem?_eq_getElem this] at k
    exact (Array.getElem?_eq_some_iff.1 k).1
  have hr : m + (n - m) = n := by omega
  obtain ⟨r, hrr⟩ : ∃ r, n - m = r := ⟨_, rfl⟩
  rw [hrr] at hr ht
  have hm' : (l.take m).length = m := by rw [List.length_take]; omega
  obtain ⟨Lq, hLq⟩ : ∃ Lq : Act → Prop, Lq = fun a' => ∀ (W : World) (bl : Nat → Nat), C W → (∀ i, m ≤ i → i < n → a'.tmps[sl i]? = some (.pointer (some ⟨bl i, 0, none⟩)) ∧ w.heap.size ≤ bl i ∧ W.heap[bl i]? = some (blk i)) → (∀ i j, m ≤ i → i < n → m ≤ j → j < n → i ≠ j → bl i ≠ bl j) → wpList P l.toArray Q (l.drop n) a' W := ⟨_, rfl⟩
  have hput : ∀ vs : Nat → Value, Lq (putAll sl vs r m A) := fun vs => by
    rw [hLq]
    intro W bl hW h1 h2
    have e : ∀ i, m ≤ i → i < m + r → vs i = .pointer (some ⟨bl i, 0, none⟩) := fun i k1 k2 => by
      have := (h1 i k1 (by omega)).1
      rw [putAll_get r m A (fun x y a1 a2 a3 a4 => hslne x y a1 (by omega) a3 (by omega)) (fun x a1 a2 => hAs x a1 (by omega)) i k1 k2] at this
      exact Option.some.inj this
    rw [putAll_congr r m A e]
    exact ht W bl hW (fun i k1 k2 => (h1 i k1 k2).2) h2
  have H := AheadU.lexQ (P := P) (C := C) (md := .any) (isA := isA) (A := A) (g := l.toArray.size - n) (m := m) (r := r) (s := a.tmps.size)
    (L := fun li' a' => HeadInv .any l.toArray n li' ∧ Region.seqB .any l.toArray (l.toArray.size - n) n li' = true ∧ Lq a')
    hsel hs hc hn (fun li a hL => seqB_ready hL.2.1) hr (fun i hi => by rw [hisA]; simp; omega) ⟨C, hcl, fun _ h => h, hne⟩ val (fun i oi d h1 h2 => by rw [hop] at h1; rw [hval]; simp only [h1, h2])
    (fun li hinv hlx => AheadU.lexA hsel hs hc hn (fun i h1 h2 => ⟨(hia i).2 ⟨h1, h2⟩, by obtain ⟨o, ho, hd, _⟩ := hal i h1 h2; exact ⟨o, by rw [hop]; exact ho, hd⟩⟩) r m li A (Nat.le_refl _) hr hinv hlx hput)
    (l.take m) 0 _ a (fun j hj => by rw [hm'] at hj; simp [hj]) (by omega) inv (by rw [hm', hr]; exact hlex) rfl (by have := slotsB_take (l.take n) m hsl; rwa [List.take_take, Nat.min_eq_left hmn] at this) hq'
  refine wp_region_any hm ?_
  have K := AheadU.any (P := P) (ops := l.toArray) (md := .any) (C := C) (sl := sl) (blk := blk) (N := w.heap.size) (g := l.toArray.size - n) (Q := Q) hcl
    (fun i oi h1 h2 => by
      obtain ⟨k1, k2⟩ := (hia i).1 h2
      obtain ⟨o, ho, r1, r2, r3⟩ := hal i k1 k2
      rw [hop] at h1
      obtain rfl : oi = o := Option.some.inj (h1.symm.trans ho)
      exact ⟨r1, r2, r3⟩)
    (fun i j oi h1 h2 h3 h4 => hdist i j oi (by rwa [hop] at h1) h2 h3 h4)
    (fun li a' w' hw' hI _ hL => by
      obtain ⟨hinv, hseq, hq⟩ := hL
      rw [hLq] at hq
      have hall : ∀ i, i < n → li.getD i false = true := fun i hi => by
        have hn0 : n ∈ Region.ready .any l.toArray li := by
          obtain ⟨g0, hg0⟩ : ∃ g0, l.toArray.size - n = g0 + 1 := ⟨l.toArray.size - n - 1, by omega⟩
          rw [hg0] at hseq
          simp only [Region.seqB, Bool.and_eq_true, decide_eq_true_eq] at hseq
          rw [hseq.1]
          simp
        cases hg : li.getD i false with
        | true => rfl
        | false => exact absurd hn0 (tail_waits hs hc hn hinv _ i rfl hi (getD_in (by rw [hinv.size]; omega) hg) n (Nat.le_refl _))
      obtain ⟨bl, hbl⟩ := hI
      have := wpAny_of_seq (md := .any) (Q' := Q) (l.drop n) n li a' w' (fun j => by simp [List.getElem?_drop]) (by rw [hg]; exact hseq) (hq w' bl hw'
        (fun i k1 k2 => by obtain ⟨x, y, z, _⟩ := hbl i ((hia i).2 ⟨k1, k2⟩) (hall i k2); exact ⟨x, y, z⟩)
        (fun i j k1 k2 k3 k4 hij => (hbl j ((hia j).2 ⟨k3, k4⟩) (hall j k4)).2.2.2 i ((hia i).2 ⟨k1, k2⟩) (hall i k2) hij))
      rwa [hg] at this)
    _ _ _ _ hC ⟨fun _ => 0, fun i _ hl => by rw [getD_replicate_false] at hl; cases hl⟩ (Nat.le_refl _) (fun i hi => by obtain ⟨h1, h2⟩ := (hia i).1 hi; exact hslA i h1 h2) H
  rw [hm', show m + r + (l.toArray.size - n) = l.toArray.size from by omega] at K
  exact K
end Go.Proofs.YtcejmfgbfdhflaaGreat
namespace Go.Proofs.YtcejmfgbfdhflaaGreat
open Go.RowKit Go.BigFrame Go.Sort
theorem cs_heap (W : World) (b : Nat) (cs : Array Value) (e : TypeId) (h : W.heap[b]? = some (.cells cs e)) : ∀ (l : List Value) (o : Nat), cs.toList.drop o = l → Cs W (blk b o l)
  | [], _, _ => trivial
  | v :: l, o, hl => by
    have h1 : cs.toList[o]? = some v := by
      have := congrArg List.head? hl
      simpa [List.head?_drop] using this
    refine ⟨⟨(Array.getElem?_eq_some_iff.1 h).1, ?_, ?_⟩, cs_heap W b cs e h l (o + 1) ?_⟩
    · have h2 : cs[o]? = some v := by simpa using h1
      simpa [World.cell?, h] using h2
    · simp [World.frozen?, h]
    · rw [← List.drop_drop, hl]; simp
theorem grown_map (W : World) (b : Nat) (f : Array Value → Array Value) : W.grownBy (mapBlock W b f) (some b) :=
  ⟨rfl, rfl, rfl, by simp [mapBlock], fun k hk hne => by
    have : b ≠ k := fun e => hne (by rw [e])
    simp [mapBlock, hk, Array.getElem_modify, this]⟩
theorem heap_map (W : World) (b : Nat) (f : Array Value → Array Value) (cs : Array Value) (e : TypeId) (h : W.heap[b]? = some (.cells cs e)) : (mapBlock W b f).heap[b]? = some (.cells (f cs) e) := by
  obtain ⟨h1, h2⟩ := Array.getElem?_eq_some_iff.1 h
  simp [mapBlock, h1, Array.getElem_modify, onCells, h2]
/-- A variable of the call's own, written. -/
theorem St.put {w W : World} {L : List (Nat × Nat × Value)} (h : St w W L) (b : Nat) (hb : w.heap.size ≤ b) (hne : ∀ x ∈ L, x.1 ≠ b) (cs : Array Value) (e : TypeId) (hh : W.heap[b]? = some (.cells cs e)) (f : Array Value → Array Value) (cs' : Array Value) (hf : f cs = cs') :
    St w (mapBlock W b f) (blk b 0 cs'.toList ++ L) := by
  have hg := grown_map W b f
  refine ⟨h.b.trans ⟨hg.os, hg.tape, hg.output, hg.size, fun k hk => hg.block k (Nat.lt_of_lt_of_le hk h.b.size) (fun e => ?_)⟩, ?_⟩
  · injection e with e; omega
  · exact Cs.app (h.c.grown hg fun x hx e => hne x hx (by injection e)) (cs_heap _ b cs' e (by rw [← hf]; exact heap_map W b f cs e hh) cs'.toList 0 rfl)
/-- A region that draws its order: m quiet operations, then variables up to n, then a forced end. -/
theorem wp_region_vars {P : Program} {id : Nat} {Q : Exit → Act → World → Prop} {a : Act} {w : World} {l : List Oper} (n m : Nat) (C : World → Prop) (sl : Nat → Nat) (blk : Nat → Obj)
    (hcl : ∀ W W', C W → Below W.heap.size W W' → C W') (hC : C w.drew) (hm : P.follows .mixedOrders = true) (hB : Region.lexTailB .any l.toArray n = true) (hmn : m ≤ n)
    (hal : ∀ i, m ≤ i → i < n → ∃ o, l[i]? = some o ∧ o.dst = some (sl i) ∧ o.guard = none ∧ ∀ (a : Act) w, (execOp a.eval o).run P w = .ok (.value (.pointer (some ⟨w.heap.size, 0, none⟩))) (w.alloc (blk i)))
    (hsl : slotsB a.tmps.size (l.take n) = true)
    (h : ∃ A : Act, (∀ D : World → Prop, (∀ W W', D W → Below W.heap.size W W' → D W') → (∀ W, D W → C W) → Nonempty (Wd D) → wpQuiet P l.toArray (fun w' => ∃ n : Wd D, w' = n.w) (fun a' => a' = A) (l.take m) a) ∧
      (∀ (W : World) (bl : Nat → Nat), C W → (∀ i, m ≤ i → i < n → w.heap.size ≤ bl i ∧ W.heap[bl i]? = some (blk i)) → (∀ i j, m ≤ i → i < n → m ≤ j → j < n → i ≠ j → bl i ≠ bl j) →
        wpList P l.toArray Q (l.drop n) (putAll sl (fun i => .pointer (some ⟨bl i, 0, none⟩)) (n - m) m A) W)) : (Code.region id l.toArray true).wp P Q a w :=
  let ⟨A, h1, h2⟩ := h
  wp_region_floats n m C A sl blk hcl hC hm hB hmn hal hsl h1 h2
/-- A region that draws, makes one variable, and then has a forced end. -/
theorem wp_region_var1 {P : Program} {id : Nat} {Q : Exit → Act → World → Prop} {a : Act} {w : World} {l : List Oper} (m : Nat) (C : World → Prop) (s : Nat) (ob : Obj)
    (hcl : ∀ W W', C W → Below W.heap.size W W' → C W') (hC : C w.drew) (hm : P.follows .mixedOrders = true) (hB : Region.lexTailB .any l.toArray (m + 1) = true)
    (hal : ∃ o, l[m]? = some o ∧ o.dst = some s ∧ o.guard = none ∧ ∀ (a : Act) w, (execOp a.eval o).run P w = .ok (.value (.pointer (some ⟨w.heap.size, 0, none⟩))) (w.alloc ob))
    (hsl : slotsB a.tmps.size (l.take (m + 1)) = true)
    (h : ∃ A : Act, (∀ D : World → Prop, (∀ W W', D W → Below W.heap.size W W' → D W') → (∀ W, D W → C W) → Nonempty (Wd D) → wpQuiet P l.toArray (fun w' => ∃ n : Wd D, w' = n.w) (fun a' => a' = A) (l.take m) a) ∧
      (∀ (n : Wd C) (k : Nat), w.heap.size ≤ k → n.w.heap[k]? = some ob → wpList P l.toArray Q (l.drop (m + 1)) (A.put (some s) (.pointer (some ⟨k, 0, none⟩))) n.w)) : (Code.region id l.toArray true).wp P Q a w := by
  obtain ⟨A, h1, h2⟩ := h
  refine wp_region_floats (m + 1) m C A (fun _ => s) (fun _ => ob) hcl hC hm hB (by omega) ?_ hsl h1 ?_
  · intro i hi1 hi2
    obtain rfl : i = m := by omega
    exact hal
  · intro W bl hW hb _
    obtain ⟨p1, q1⟩ := hb m (by omega) (by omega)
    have := h2 ⟨W, hW⟩ (bl m) p1 q1
    rw [show m + 1 - m = 1 from by omega]
    exact this
end Go.Proofs.YtcejmfgbfdhflaaGreat
