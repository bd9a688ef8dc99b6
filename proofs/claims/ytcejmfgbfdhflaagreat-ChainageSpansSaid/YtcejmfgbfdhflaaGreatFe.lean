import Derived.Test.YtcejmfgbfdhflaaGreatFc
import Derived.WalkKit
import Derived.LoopTactic
import Derived.WalkSpells
import Derived.WalkLawsBesides
import Derived.Lib.Hide
import Derived.BigQuiet
import Derived.IntWalk
import Derived.Deep.DeepMust
import Derived.WalkSmall
import Derived.StillTailTactics
import Derived.Deep.RegionLaw
import Derived.Deep.RegionHeld3
import Derived.Deep.QuietTactic
namespace Go.Proofs.YtcejmfgbfdhflaaGreat
open Go.RowKit Go.BigFrame Go.Sort
attribute [local go_sem] World.cell?_alloc_some
/-! A region that draws its order, in a round, in which one new thing is made of what came before: one walk serves. -/
section
variable {P : Program} {ops : Array Oper} {md : Region.Mode} {C : World → Prop}
def OkA (P : Program) (pv : Nat → Value) (blk : Obj) (o : Oper) (a : Act) : Prop := ∀ w, (execOp a.eval o).run P w = .ok (.value (pv w.heap.size)) (w.alloc blk)
theorem OkA.back {pv : Nat → Value} {blk : Obj} {oi oj : Oper} {v : Value} {a : Act} (hap : oi.apart ops oj = true) (hs : ∀ cs b, oj.op ≠ .select cs b) (h : OkA P pv blk oj (a.put oi.dst v)) : OkA P pv blk oj a := fun w => by
  rw [← h w, execOp_put oj hs a oi.dst v (Oper.apart_spec hap).1]
theorem OkA.fwd {pv : Nat → Value} {blk : Obj} {oi oj : Oper} {u : Value} {a : Act} (hap : oi.apart ops oj = true) (hs : ∀ cs b, oi.op ≠ .select cs b) (h : OkA P pv blk oi a) : OkA P pv blk oi (a.put oj.dst u) := fun w => by
  rw [← h w, execOp_put oi hs a oj.dst u (Oper.apart_spec hap).2.2]
def AheadV (P : Program) (md : Region.Mode) (ops : Array Oper) (C : World → Prop) (s : Nat) (pv : Nat → Value) (blk : Obj) (val : Nat → Value) (n : Nat) (L : Array Bool → Act → Prop) : Nat → Array Bool → Act → Prop
  | 0, li, a => L li a
  | f + 1, li, a => Region.ready md ops li ≠ [] ∧ ∀ i ∈ Region.ready md ops li, i < n ∧ ∃ oi, ops[i]? = some oi ∧ (i ≠ s → AllY P ops C oi (val i) a) ∧ (i = s → OkA P pv blk oi a) ∧ ∀ v, (i = s ∨ v = val i) → AheadV P md ops C s pv blk val n L f (li.setIfInBounds i true) (a.put oi.dst v)
theorem AheadV.pick {s : Nat} {pv : Nat → Value} {blk : Obj} {val : Nat → Value} {n i : Nat} {oi : Oper} {L : Array Bool → Act → Prop} (hi : ops[i]? = some oi) (hsel : ∀ (j : Nat) (o : Oper) cs b, ops[j]? = some o → o.op ≠ .select cs b)
    (hs : Region.sinkB md ops n = true) (hc : Region.chainB md ops n = true) (hn : n < ops.size) (hin : i < n) (hend : ∀ li a, L li a → ∀ j ∈ Region.ready md ops li, n ≤ j) (f : Nat) :
    ∀ (li : Array Bool) (a : Act), HeadInv md ops n li →
      (∀ j oj, ops[j]? = some oj → j ≠ i → li.getD j true = false → (∀ e ∈ oj.after, Region.binds md e = true → e.on ≠ i) → oi.apart ops oj = true) →
      i ∈ Region.ready md ops li → (i ≠ s → AllY P ops C oi (val i) a) → (i = s → OkA P pv blk oi a) → (∀ v, (i = s ∨ v = val i) → AheadV P md ops C s pv blk val n L f (li.setIfInBounds i true) (a.put oi.dst v)) → AheadV P md ops C s pv blk val n L (f + 1) li a := by
  induction f with
  | zero =>
    intro li a inv _ hr hy hz H
    refine ⟨fun e => absurd hr (by rw [e]; simp), fun j hj => ?_⟩
    have hjn : j < n := (Nat.lt_or_ge j n).resolve_right fun h => absurd hj (tail_waits hs hc hn inv _ i rfl hin (mem_ready.1 hr).1 j h)
    rcases Nat.decEq j i with hne | rfl
    · have := hend _ _ (H (val i) (.inr rfl)) j (ready_mono hj hne)
      omega
    · exact ⟨hjn, oi, hi, hy, hz, H⟩
  | succ f ih =>
    intro li a inv hap hr hy hz H
    refine ⟨fun e => absurd hr (by rw [e]; simp), fun j hj => ?_⟩
    have hjn : j < n := (Nat.lt_or_ge j n).resolve_right fun h => absurd hj (tail_waits hs hc hn inv _ i rfl hin (mem_ready.1 hr).1 j h)
    rcases Nat.decEq j i with hne | rfl
    · obtain ⟨hju, oj, hoj, hall⟩ := mem_ready.1 hj
      have hno : ∀ e ∈ oj.after, Region.binds md e = true → e.on ≠ i := fun e he hb heq => by
        have h1 := hall e he hb
        rw [heq, getD_both (mem_ready.1 hr).1] at h1
        cases h1
      have hp := hap j oj hoj hne hju hno
      have key : ∀ v, (i = s ∨ v = val i) → (j ≠ s → AllY P ops C oj (val j) (a.put oi.dst v)) ∧ (j = s → OkA P pv blk oj (a.put oi.dst v)) ∧ ∀ u, (j = s ∨ u = val j) → AheadV P md ops C s pv blk val n L f ((li.setIfInBounds i true).setIfInBounds j true) ((a.put oi.dst v).put oj.dst u) := fun v hv => by
        obtain ⟨_, oj', hoj', h1, h2, h3⟩ := (H v hv).2 j (ready_mono hj hne)
        obtain rfl : oj = oj' := Option.some.inj (hoj.symm.trans hoj')
        exact ⟨h1, h2, h3⟩
      refine ⟨hjn, oj, hoj, fun hA => ((key (val i) (.inr rfl)).1 hA).back hp (fun cs b => hsel j oj cs b hoj), fun hA => ((key (val i) (.inr rfl)).2.1 hA).back hp (fun cs b => hsel j oj cs b hoj), fun u hu => ?_⟩
      refine ih (li.setIfInBounds j true) _ (inv.set hj hjn) (fun k ok hk hki hun hno' => hap k ok hk hki ?_ hno') (ready_mono hr (Ne.symm hne)) (fun hA => (hy hA).fwd hp (fun cs b => hsel i oi cs b hi)) (fun hA => (hz hA).fwd hp (fun cs b => hsel i oi cs b hi)) (fun v hv => ?_)
      · rcases Nat.decEq j k with hjk | rfl
        · rwa [getD_set_ne true hjk] at hun
        · exact hju
      · rw [Array.setIfInBounds_comm _ _ hne, ← Act.put_comm a v u (Oper.apart_spec hp).2.1]
        exact (key v hv).2.2 u hu
    · exact ⟨hjn, oi, hi, hy, hz, H⟩
theorem AheadV.lexQ {sx : Nat} {pv : Nat → Value} {blk : Obj} {A : Act} {n m g r s : Nat} {L : Array Bool → Act → Prop} (hsel : Region.noSelect ops = true) (hs : Region.sinkB md ops n = true) (hc : Region.chainB md ops n = true) (hn : n < ops.size)
    (hend : ∀ li a, L li a → ∀ j ∈ Region.ready md ops li, n ≤ j) (hmn : m + r = n) (hA : m ≤ sx) (hD : ∃ D : World → Prop, (∀ W W', D W → Below W.heap.size W W' → D W') ∧ (∀ W, D W → C W) ∧ Nonempty (Wd D))
    (val : Nat → Value) (hval : ∀ i oi d, ops[i]? = some oi → oi.dst = some d → val i = (A.tmps[d]?).getD undef)
    (hfin : ∀ li, HeadInv md ops n li → Region.lexHead md ops g r m li = true → AheadV P md ops C sx pv blk val n L r li A) :
    ∀ (l : List Oper) (k : Nat) (li : Array Bool) (a : Act), (∀ j, j < l.length → l[j]? = ops[k + j]?) → k + l.length = m → HeadInv md ops n li → Region.lexHead md ops g (l.length + r) k li = true → a.tmps.size = s → slotsB s l = true →
      (∀ D : World → Prop, (∀ W W', D W → Below W.heap.size W W' → D W') → (∀ W, D W → C W) → Nonempty (Wd D) → wpQuiet P ops D (fun a' => a' = A) l a) → AheadV P md ops C sx pv blk val n L (l.length + r) li a
  | [], k, li, a, _, hk, inv, hB, _, _, h => by
    obtain ⟨D, h1, h2, h3⟩ := hD
    obtain rfl : a = A := h D h1 h2 h3
    simp only [List.length_nil, Nat.zero_add] at hB hk ⊢
    obtain rfl : k = m := by omega
    exact hfin li inv hB
  | o :: l, k, li, a, hl, hk, inv, hB, hz, hsl, h => by
    have h0 : ops[k]? = some o := by simpa using (hl 0 (by simp)).symm
    rw [List.length_cons, show l.length + 1 + r = l.length + r + 1 from by omega] at hB ⊢
    simp only [List.length_cons] at hk
    simp only [Region.lexHead, Bool.and_eq_true] at hB
    simp only [slotsB, Bool.and_eq_true] at hsl
    have hr : k ∈ Region.ready md ops li := by simpa using hB.1.1
    cases hd : o.dst with
    | none => rw [hd] at hsl; cases hsl.1
    | some d =>
      rw [hd] at hsl
      simp only [Bool.and_eq_true, decide_eq_true_eq, List.all_eq_true, bne_iff_ne] at hsl
      have key : ∀ D : World → Prop, (∀ W W', D W → Below W.heap.size W W' → D W') → (∀ W, D W → C W) → Nonempty (Wd D) → YieldsIn P ops D o (val k) a ∧ wpQuiet P ops D (fun a' => a' = A) l (a.put o.dst (val k)) := fun D h1 h2 h3 => by
        have hq : qOp P ops D k (wpQuiet P ops D (fun a' => a' = A) l) a := by unfold qOp; simp only [h0]; exact h D h1 h2 h3
        obtain ⟨v, hy, hK⟩ := yieldsIn_of_qOp h0 hq
        have e := quiet_keeps l _ hsl.1.2 hK
        have hv : val k = v := by
          rw [hval k o d h0 hd, e, hd]
          simp [Act.put, hz, hsl.1.1]
        rw [hv]
        exact ⟨hy, hK⟩
      refine AheadV.pick h0 (Region.noSelect_spec hsel) hs hc hn (by omega) hend (l.length + r) li a inv (Region.free_spec h0 hB.1.2) hr (fun _ D h1 h2 h3 => (key D h1 h2 h3).1) (fun e => absurd e (by omega)) (fun v hv => ?_)
      obtain rfl : v = val k := hv.resolve_left (by omega)
      refine AheadV.lexQ hsel hs hc hn hend hmn hA hD val hval hfin l (k + 1) _ _ (fun j hj => ?_) (by omega) (inv.set hr (by omega)) hB.2 (by rw [hd]; simpa [Act.put] using hz) hsl.2 (fun D h1 h2 h3 => (key D h1 h2 h3).2)
      have := hl (j + 1) (by simp; omega)
      simpa [Nat.add_assoc, Nat.add_comm 1 j] using this

/-- Where the new thing lies. -/
def InvV (s d : Nat) (pv : Nat → Value) (blk : Obj) (N : Nat) (li : Array Bool) (a : Act) (w : World) : Prop :=
  li.getD s false = true → ∃ b, a.tmps[d]? = some (pv b) ∧ N ≤ b ∧ w.heap[b]? = some blk
theorem AheadV.anyIn {s d : Nat} {pv : Nat → Value} {blk : Obj} {val : Nat → Value} {N n g l m : Nat} {L : Array Bool → Act → Prop} {Q : Exit → Act → World → Prop}
    (hcl : ∀ W W', C W → Below W.heap.size W W' → C W') (hdf : ∀ (j : Nat) (o : Oper), ops[j]? = some o → ∀ c, o.op ≠ .defer c)
    (hA : ∀ os, ops[s]? = some os → os.dst = some d ∧ os.guard = none)
    (hB : ∀ i oi, ops[i]? = some oi → i < n → i ≠ s → oi.dst ≠ some d)
    (hL : ∀ li a w, C w → InvV s d pv blk N li a w → N ≤ w.heap.size → L li a → wpAnyIn (Fence.wide.inRound l) m P md ops Q g li a w) :
    ∀ (f : Nat) (li : Array Bool) (a : Act) (w : World), C w → InvV s d pv blk N li a w → N ≤ w.heap.size → d < a.tmps.size → AheadV P md ops C s pv blk val n L f li a → wpAnyIn (Fence.wide.inRound l) m P md ops Q (f + g) li a w
  | 0, li, a, w, hw, hI, hN, _, h => by rw [Nat.zero_add]; exact hL _ _ _ hw hI hN h
  | f + 1, li, a, w, hw, hI, hN, hsz, h => by
    rw [show f + 1 + g = f + g + 1 from by omega]
    refine ⟨fun e => absurd e h.1, fun i hi => ?_⟩
    obtain ⟨hin, oi, hoi, hy, hz, H⟩ := h.2 i hi
    have hun := (mem_ready.1 hi).1
    have hils : i < li.size := by
      rcases Nat.lt_or_ge i li.size with h' | h'
      · exact h'
      · simp [Array.getElem?_eq_none h'] at hun
    by_cases his : i = s
    · obtain ⟨hd, hg⟩ := hA oi (his ▸ hoi)
      have hx := hz his
      unfold wpOpIn
      simp only [hoi]
      rw [if_pos (by simp [Region.wanted, hg])]
      unfold Oper.wpIn
      refine ⟨fun _ _ => trivial, ?_⟩
      rw [Oper.semAt_eq _ _ _ (hdf i oi hoi), hx]
      simp only [Oper.uponIn]
      refine AheadV.anyIn hcl hdf hA hB hL f _ _ _ (hcl _ _ hw (below_al _ _)) ?_ (Nat.le_trans hN (by simp)) ?_ (H _ (.inl his))
      · intro _
        refine ⟨w.heap.size, ?_, hN, heap_alloc_new _ _⟩
        simp only [hd, Act.put]
        simp [hsz]
      · rw [hd]
        simpa [Act.put] using hsz
    · have hq := (hy his (fun W => C W ∧ Below w.heap.size w W) (fun W W' h1 h2 => ⟨hcl _ _ h1.1 h2, h1.2.trans (h2.mono h1.2.size)⟩) (fun W h1 => h1.1) ⟨⟨w, hw, Below.refl _ _⟩⟩).qOp hoi (K := fun a' => a' = a.put oi.dst (val i)) rfl
      refine wpOpIn_of_q (C := fun W => C W ∧ Below w.heap.size w W) hdf ⟨hw, Below.refl _ _⟩ (fun a' w' hw' ha' => ?_) hq
      subst ha'
      refine AheadV.anyIn hcl hdf hA hB hL f _ _ w' hw'.1 ?_ (Nat.le_trans hN hw'.2.size) ?_ (H _ (.inr rfl))
      · intro hl
        rw [getD_set_ne false his] at hl
        obtain ⟨b, h1, h2, h3⟩ := hI hl
        refine ⟨b, ?_, h2, ?_⟩
        · have := hB i oi hoi hin his
          cases hd : oi.dst with
          | none => exact h1
          | some e =>
            have hdn : e ≠ d := fun e' => this (by rw [hd, e'])
            simp only [Act.put]
            rw [Array.getElem?_setIfInBounds_ne hdn]
            exact h1
        · rw [hw'.2.block _ (Array.getElem?_eq_some_iff.1 h3).1]; exact h3
      · cases oi.dst with
        | none => exact hsz
        | some e => simpa [Act.put] using hsz
end
/-- A region that draws its order, in a round: s quiet operations, then one that makes a new thing, then a forced end. -/
theorem wpIn_region_made {P : Program} {id l m : Nat} {Q : Exit → Act → World → Prop} {a : Act} {w : World} {ls : List Oper} (s d : Nat) (C : World → Prop) (pv : Nat → Value) (blk : Obj)
    (hcl : ∀ W W', C W → Below W.heap.size W W' → C W') (hC : C w.drew) (hm : P.follows .mixedOrders = true) (hB : Region.lexTailB .any ls.toArray (s + 1) = true)
    (hd : (ls.all fun o => match o.op with | .defer _ => false | _ => true) = true)
    (hal : ∃ os, ls[s]? = some os ∧ os.dst = some d ∧ os.guard = none) (hsl : slotsB a.tmps.size (ls.take (s + 1)) = true)
    (h : ∃ A : Act, (∀ D : World → Prop, (∀ W W', D W → Below W.heap.size W W' → D W') → (∀ W, D W → C W) → Nonempty (Wd D) → wpQuiet P ls.toArray (fun w' => ∃ n : Wd D, w' = n.w) (fun a' => a' = A) (ls.take s) a) ∧
      (∀ os, ls[s]? = some os → OkA P pv blk os A) ∧
      (∀ (W : World) (b : Nat), C W → w.heap.size ≤ b → W.heap[b]? = some blk → wpListIn (Fence.wide.inRound l) m P ls.toArray Q (ls.drop (s + 1)) (A.put (some d) (pv b)) W)) : (Code.region id ls.toArray true).wpIn (Fence.wide.inRound l) m P Q a w := by
  obtain ⟨A, hq, hok, ht⟩ := h
  obtain ⟨os, hos, hdst, hgd⟩ := hal
  simp only [Region.lexTailB, Bool.and_eq_true, decide_eq_true_eq] at hB
  obtain ⟨⟨⟨⟨hsel, hn⟩, hs⟩, hc⟩, hlex⟩ := hB
  have hnl : s + 1 < ls.length := by simpa using hn
  have hg : (ls.drop (s + 1)).length = ls.toArray.size - (s + 1) := by simp
  have hop : ∀ i : Nat, ls.toArray[i]? = ls[i]? := fun i => List.getElem?_toArray
  have inv : HeadInv .any ls.toArray (s + 1) (Array.replicate ls.toArray.size false) :=
    ⟨by simp, fun j oj _ hl => (by rw [getD_replicate_false] at hl; cases hl), fun t _ ht => getD_in (by simpa using ht) (getD_replicate_false _ _)⟩
  have hq' : ∀ D : World → Prop, (∀ W W', D W → Below W.heap.size W W' → D W') → (∀ W, D W → C W) → Nonempty (Wd D) → wpQuiet P ls.toArray D (fun a' => a' = A) (ls.take s) a := fun D h1 h2 h3 => by
    have e : (fun w' => ∃ n : Wd D, w' = n.w) = D := funext fun w' => propext ⟨fun ⟨n, hn⟩ => hn ▸ n.h, fun hc => ⟨⟨w', hc⟩, rfl⟩⟩
    have := hq D h1 h2 h3
    rwa [e] at this
  have hne : Nonempty (Wd C) := ⟨⟨_, hC⟩⟩
  obtain ⟨val, hval⟩ : ∃ val : Nat → Value, val = fun i => match ls[i]? with | some o => (match o.dst with | some d => (A.tmps[d]?).getD undef | none => undef) | none => undef := ⟨_, rfl⟩
  have tk : ∀ i, i < s + 1 → (ls.take (s + 1))[i]? = ls[i]? := fun i hi => List.getElem?_take_of_lt hi
  have hslA : d < a.tmps.size := by
    obtain ⟨d', hd', hlt⟩ := slotsB_lt hsl (i := s) (o := os) (by rw [tk s (by omega)]; exact hos)
    rw [hdst] at hd'
    cases hd'
    exact hlt
  have hdist : ∀ i oi, ls[i]? = some oi → i < s + 1 → i ≠ s → oi.dst ≠ some d := fun i oi hoi hi his => by
    have := slotsB_ne hsl (i := i) (j := s) (o := oi) (p := os) (by rw [tk i hi]; exact hoi) (by rw [tk s (by omega)]; exact hos) (by omega)
    rwa [hdst] at this
  have hAs : d < A.tmps.size := by
    have k := quiet_keeps (d := d) _ _ (fun o ho => by
      obtain ⟨j, hj⟩ := List.getElem?_of_mem ho
      have hjm : j < s := by have := (List.getElem?_eq_some_iff.1 hj).1; simp at this; omega
      exact hdist j o (by rwa [List.getElem?_take_of_lt hjm] at hj) (by omega) (by omega)) (hq' C hcl (fun _ h => h) hne)
    rw [Array.getElem?_eq_getElem hslA] at k
    exact (Array.getElem?_eq_some_iff.1 k).1
  have hm' : (ls.take s).length = s := by rw [List.length_take]; omega
  obtain ⟨Lq, hLq⟩ : ∃ Lq : Act → Prop, Lq = fun a' => ∀ (W : World) (b : Nat), C W → a'.tmps[d]? = some (pv b) → w.heap.size ≤ b → W.heap[b]? = some blk → wpListIn (Fence.wide.inRound l) m P ls.toArray Q (ls.drop (s + 1)) a' W := ⟨_, rfl⟩
  have hput : ∀ v : Value, Lq (A.put (some d) v) := fun v => by
    rw [hLq]
    intro W b hW h1 h2 h3
    have e : v = pv b := by
      simp only [Act.put] at h1
      rw [Array.getElem?_setIfInBounds_self_of_lt hAs] at h1
      exact Option.some.inj h1
    rw [e]
    exact ht W b hW h2 h3
  have hdf : ∀ (j : Nat) (o : Oper), ls.toArray[j]? = some o → ∀ c, o.op ≠ .defer c := fun j o ho => defer_ne hd (by have := Array.mem_of_getElem? ho; simpa using this)
  have H := AheadV.lexQ (P := P) (C := C) (md := .any) (sx := s) (pv := pv) (blk := blk) (A := A) (n := s + 1) (g := ls.toArray.size - (s + 1)) (m := s) (r := 1) (s := a.tmps.size)
    (L := fun li' a' => HeadInv .any ls.toArray (s + 1) li' ∧ Region.seqB .any ls.toArray (ls.toArray.size - (s + 1)) (s + 1) li' = true ∧ Lq a')
    hsel hs hc hn (fun li a hL => seqB_ready hL.2.1) rfl (Nat.le_refl _) ⟨C, hcl, fun _ h => h, hne⟩ val (fun i oi d h1 h2 => by rw [hop] at h1; rw [hval]; simp only [h1, h2])
    (fun li hinv hlx => by
      simp only [Region.lexHead, Bool.and_eq_true] at hlx
      have hr : s ∈ Region.ready .any ls.toArray li := by simpa using hlx.1.1
      have hos' : ls.toArray[s]? = some os := by rw [hop]; exact hos
      refine AheadV.pick hos' (Region.noSelect_spec hsel) hs hc hn (by omega) (fun li' a' hL => seqB_ready hL.2.1) 0 li A hinv (Region.free_spec hos' hlx.1.2) hr (fun e => absurd rfl e) (fun _ => hok os hos) (fun v _ => ?_)
      exact ⟨hinv.set hr (by omega), hlx.2, by rw [hdst]; exact hput v⟩)
    (ls.take s) 0 _ a (fun j hj => by rw [hm'] at hj; simp [hj]) (by omega) inv (by rw [hm']; exact hlex) rfl (by have := slotsB_take (ls.take (s + 1)) s hsl; rwa [List.take_take, Nat.min_eq_left (by omega)] at this) hq'
  refine wpIn_region_any hm ?_
  have K := AheadV.anyIn (P := P) (ops := ls.toArray) (md := .any) (C := C) (s := s) (d := d) (pv := pv) (blk := blk) (N := w.heap.size) (g := ls.toArray.size - (s + 1)) (l := l) (m := m) (Q := Q) hcl hdf
    (fun os' h1 => by
      rw [hop] at h1
      obtain rfl : os' = os := Option.some.inj (h1.symm.trans hos)
      exact ⟨hdst, hgd⟩)
    (fun i oi h1 h2 h3 => hdist i oi (by rwa [hop] at h1) h2 h3)
    (fun li a' w' hw' hI _ hL => by
      obtain ⟨hinv, hseq, hq⟩ := hL
      rw [hLq] at hq
      have hall : li.getD s false = true := by
        have hn0 : s + 1 ∈ Region.ready .any ls.toArray li := by
          obtain ⟨g0, hg0⟩ : ∃ g0, ls.toArray.size - (s + 1) = g0 + 1 := ⟨ls.toArray.size - (s + 1) - 1, by omega⟩
          rw [hg0] at hseq
          simp only [Region.seqB, Bool.and_eq_true, decide_eq_true_eq] at hseq
          rw [hseq.1]
          simp
        cases hg : li.getD s false with
        | true => rfl
        | false => exact absurd hn0 (tail_waits hs hc hn hinv _ s rfl (by omega) (getD_in (by rw [hinv.size]; omega) hg) (s + 1) (Nat.le_refl _))
      obtain ⟨b, x, y, z⟩ := hI hall
      have := wpAnyIn_seq (md := .any) (l := l) (m := m) (Q := Q) (ls.drop (s + 1)) (s + 1) li a' w' (fun j => by simp [List.getElem?_drop]) (by rw [hg]; exact hseq) (hq w' b hw' x y z)
      rwa [hg] at this)
    _ _ _ _ hC (fun hl => by rw [getD_replicate_false] at hl; cases hl) (Nat.le_refl _) hslA H
  rw [hm', show s + 1 + (ls.toArray.size - (s + 1)) = ls.toArray.size from by omega] at K
  exact K
end Go.Proofs.YtcejmfgbfdhflaaGreat
