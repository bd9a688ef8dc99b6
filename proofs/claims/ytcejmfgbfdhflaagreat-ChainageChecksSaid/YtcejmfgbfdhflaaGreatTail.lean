import Derived.Test.YtcejmfgbfdhflaaGreatKit
import Derived.BigQuiet
import Derived.Deep.CutBlock
import Derived.Deep.DeepCutAuto
import Derived.Deep.DeepMust
import Derived.Deep.QuietTactic
import Derived.Deep.RegionHeld3
import Derived.Deep.RegionLaw
import Derived.IntWalk
import Derived.Laws.AppendOwn
import Derived.Lib.Hide
import Derived.LoopTactic
import Derived.Sort.Grow
import Derived.StillTailTactics
import Derived.WalkKit
import Derived.WalkLawsBesides
import Derived.WalkSmall
import Derived.WalkSpells
/-
  Regions that draw their order, quiet but for a forced end.
-/
namespace Go.Proofs.YtcejmfgbfdhflaaGreat
open Go.RowKit Go.BigFrame Go.Sort
attribute [local go_sem] World.cell?_alloc_some
/-! A region of which all but a forced end is quiet: one walk of the text's order serves. -/
section
variable {P : Program} {ops : Array Oper} {md : Region.Mode} {C : World → Prop}
/-- From here on f operations come up, each of them one of the first n, whatever the order; then L. -/
def Ahead (P : Program) (md : Region.Mode) (ops : Array Oper) (C : World → Prop) (n : Nat) (L : Array Bool → Act → Prop) : Nat → Array Bool → Act → Prop
  | 0, li, a => L li a
  | f + 1, li, a => Region.ready md ops li ≠ [] ∧ ∀ i ∈ Region.ready md ops li, i < n ∧ qOp P ops C i (Ahead P md ops C n L f (li.setIfInBounds i true)) a
theorem Ahead.any {n g : Nat} {L : Array Bool → Act → Prop} {Q : Exit → Act → World → Prop} (hL : ∀ li a w, C w → L li a → wpAny P md ops Q g li a w) :
    ∀ (f : Nat) (li : Array Bool) (a : Act) (w : World), C w → Ahead P md ops C n L f li a → wpAny P md ops Q (f + g) li a w
  | 0, li, a, w, hw, h => by rw [Nat.zero_add]; exact hL _ _ _ hw h
  | f + 1, li, a, w, hw, h => by
    rw [show f + 1 + g = f + g + 1 from by omega]
    exact ⟨fun e => absurd e h.1, fun i hi => wpOp_of_qOp hw (fun a' w' hw' k => Ahead.any hL f _ a' w' hw' k) (h.2 i hi).2⟩
theorem Ahead.pick {n i : Nat} {oi : Oper} {v : Value} {L : Array Bool → Act → Prop} (hi : ops[i]? = some oi) (hsel : ∀ (j : Nat) (o : Oper) cs b, ops[j]? = some o → o.op ≠ .select cs b)
    (hs : Region.sinkB md ops n = true) (hc : Region.chainB md ops n = true) (hn : n < ops.size) (hin : i < n) (hend : ∀ li a, L li a → ∀ j ∈ Region.ready md ops li, n ≤ j) (f : Nat) :
    ∀ (li : Array Bool) (a : Act), HeadInv md ops n li →
      (∀ j oj, ops[j]? = some oj → j ≠ i → li.getD j true = false → (∀ e ∈ oj.after, Region.binds md e = true → e.on ≠ i) → oi.apart ops oj = true) →
      i ∈ Region.ready md ops li → YieldsIn P ops C oi v a → Ahead P md ops C n L f (li.setIfInBounds i true) (a.put oi.dst v) → Ahead P md ops C n L (f + 1) li a := by
  induction f with
  | zero =>
    intro li a inv _ hr hy H
    refine ⟨fun e => absurd hr (by rw [e]; simp), fun j hj => ?_⟩
    have hjn : j < n := (Nat.lt_or_ge j n).resolve_right fun h => absurd hj (tail_waits hs hc hn inv _ i rfl hin (mem_ready.1 hr).1 j h)
    rcases Nat.decEq j i with hne | rfl
    · have := hend _ _ H j (ready_mono hj hne)
      omega
    · exact ⟨hjn, hy.qOp hi H⟩
  | succ f ih =>
    intro li a inv hap hr hy H
    refine ⟨fun e => absurd hr (by rw [e]; simp), fun j hj => ?_⟩
    have hjn : j < n := (Nat.lt_or_ge j n).resolve_right fun h => absurd hj (tail_waits hs hc hn inv _ i rfl hin (mem_ready.1 hr).1 j h)
    rcases Nat.decEq j i with hne | rfl
    · obtain ⟨hju, oj, hoj, hall⟩ := mem_ready.1 hj
      have hno : ∀ e ∈ oj.after, Region.binds md e = true → e.on ≠ i := fun e he hb heq => by
        have h1 := hall e he hb
        rw [heq, getD_both (mem_ready.1 hr).1] at h1
        cases h1
      refine ⟨hjn, qOp_mono (fun a' h3 => ih (li.setIfInBounds j true) a' (inv.set hj hjn) (fun k ok hk hki hu hno' => hap k ok hk hki ?_ hno') (ready_mono hr (Ne.symm hne)) h3.1 ?_)
        (qOp_put hoj (hap j oj hoj hne hju hno) (fun cs b => hsel i oi cs b hi) (fun cs b => hsel j oj cs b hoj) hy (H.2 j (ready_mono hj hne)).2)⟩
      · rcases Nat.decEq j k with hjk | rfl
        · rwa [getD_set_ne true hjk] at hu
        · exact hju
      · rw [Array.setIfInBounds_comm _ _ hne]; exact h3.2
    · exact ⟨hjn, hy.qOp hi H⟩
theorem Ahead.lex {n g : Nat} {Lq : Act → Prop} (hsel : Region.noSelect ops = true) (hs : Region.sinkB md ops n = true) (hc : Region.chainB md ops n = true) (hn : n < ops.size) :
    ∀ (l : List Oper) (k : Nat) (li : Array Bool) (a : Act), (∀ j, j < l.length → l[j]? = ops[k + j]?) → k + l.length = n → HeadInv md ops n li → Region.lexHead md ops g l.length k li = true →
      wpQuiet P ops C Lq l a → Ahead P md ops C n (fun li' a' => Region.seqB md ops g n li' = true ∧ Lq a') l.length li a := by
  intro l
  induction l with
  | nil =>
    intro k li a _ hk _ hB h
    obtain rfl : k = n := by simpa using hk
    exact ⟨by simpa [Region.lexHead] using hB, h⟩
  | cons o l ih =>
    intro k li a hl hk inv hB h
    have h0 : ops[k]? = some o := by simpa using (hl 0 (by simp)).symm
    simp only [List.length_cons, Region.lexHead, Bool.and_eq_true] at hB hk
    have hr : k ∈ Region.ready md ops li := by simpa using hB.1.1
    have hq : qOp P ops C k (wpQuiet P ops C Lq l) a := by unfold qOp; simp only [h0]; exact h
    obtain ⟨v, hy, hK⟩ := yieldsIn_of_qOp h0 hq
    refine Ahead.pick h0 (Region.noSelect_spec hsel) hs hc hn (by omega) (fun li' a' hL => seqB_ready hL.1) l.length li a inv (Region.free_spec h0 hB.1.2) hr hy
      (ih (k + 1) _ _ (fun j hj => ?_) (by omega) (inv.set hr (by omega)) hB.2 hK)
    have := hl (j + 1) (by simp; omega)
    simpa [Nat.add_assoc, Nat.add_comm 1 j] using this
/-- All but the end, from n on, is quiet in a class of worlds; the end's order is forced. -/
theorem wp_region_in_tail {id : Nat} {Q : Exit → Act → World → Prop} {a : Act} {w : World} {l : List Oper} (n : Nat) (C : World → Prop) (hC : C w.drew) (hm : P.follows .mixedOrders = true) (hB : Region.lexTailB .any l.toArray n = true)
    (h : wpQuiet P l.toArray (fun w' => ∃ n : Wd C, w' = n.w) (fun a' => ∀ w', C w' → wpList P l.toArray Q (l.drop n) a' w') (l.take n) a) : (Code.region id l.toArray true).wp P Q a w := by
  have e : (fun w' => ∃ n : Wd C, w' = n.w) = C := funext fun w' => propext ⟨fun ⟨n, hn⟩ => hn ▸ n.h, fun hc => ⟨⟨w', hc⟩, rfl⟩⟩
  rw [e] at h
  simp only [Region.lexTailB, Bool.and_eq_true, decide_eq_true_eq] at hB
  obtain ⟨⟨⟨⟨hsel, hn⟩, hs⟩, hc⟩, hlex⟩ := hB
  have hnl : n < l.length := by simpa using hn
  have ht : (l.take n).length = n := by rw [List.length_take]; omega
  have hg : (l.drop n).length = l.toArray.size - n := by simp
  have inv : HeadInv .any l.toArray n (Array.replicate l.toArray.size false) :=
    ⟨by simp, fun j oj _ hl => (by rw [getD_replicate_false] at hl; cases hl), fun t _ ht => getD_in (by simpa using ht) (getD_replicate_false _ _)⟩
  have H := Ahead.lex (md := .any) (g := l.toArray.size - n) hsel hs hc hn (l.take n) 0 _ a (fun j hj => by rw [ht] at hj; simp [hj]) (by omega) inv (by rw [ht]; exact hlex) h
  refine wp_region_any hm ?_
  have K := Ahead.any (Q := Q) (g := l.toArray.size - n) (fun li a' w' hw' hL => by
    have := wpAny_of_seq (md := .any) (Q' := Q) (l.drop n) n li a' w' (fun j => by simp [List.getElem?_drop]) (by rw [hg]; exact hL.1) (hL.2 w' hw')
    rwa [hg] at this) _ _ _ _ hC H
  rw [ht, show n + (l.toArray.size - n) = l.toArray.size from by omega] at K
  exact K
end
theorem clsGr (W : World) : ∃ C : World → Prop, C W ∧ Hid (∀ A B, C A → Gr A B → C B) ∧ Hid (∀ n : Wd C, Gr W n.w) ∧ Nonempty (Wd C) :=
  ⟨fun W' => Gr W W', Gr.refl W, fun _ _ h k => h.trans k, fun n => n.h, ⟨⟨W, Gr.refl W⟩⟩⟩
theorem Gr.cell {W W' : World} (h : Gr W W') {b o : Nat} {v : Value} (hc : W.cell? ⟨b, o, none⟩ = some v) : W'.cell? ⟨b, o, none⟩ = some v :=
  (h.below.cell (p := ⟨b, o, none⟩) (World.block_lt_of_cell? W _ hc)).trans hc
open Go.RowKit Go.BigFrame Go.Sort
attribute [local go_sem] World.cell?_alloc_some
section
variable {P : Program} {ops : Array Oper} {md : Region.Mode} {C : World → Prop}
theorem wpOpIn_of_q {l m i : Nat} {K : Act → Prop} {K' : Act → World → Prop} {Q : Exit → Act → World → Prop} {a : Act} {w : World} (hd : ∀ (j : Nat) (o : Oper), ops[j]? = some o → ∀ c, o.op ≠ .defer c) (hw : C w) (h : ∀ a w', C w' → K a → K' a w') (hh : qOp P ops C i K a) :
    wpOpIn (Fence.wide.inRound l) m P ops Q i K' a w := by
  unfold qOp at hh
  unfold wpOpIn
  cases ho : ops[i]? with
  | none => simp only [ho] at hh; exact h _ _ hw hh
  | some o =>
    simp only [ho] at hh
    dsimp only
    split
    · rename_i hwn
      rw [if_pos hwn] at hh
      exact wpIn_of_quiet (hd i o ho) hw h hh
    · rename_i hwn
      rw [if_neg hwn] at hh
      exact ⟨fun _ _ => trivial, h _ _ hw hh⟩
theorem Ahead.anyIn {l m n g : Nat} {L : Array Bool → Act → Prop} {Q : Exit → Act → World → Prop} (hd : ∀ (j : Nat) (o : Oper), ops[j]? = some o → ∀ c, o.op ≠ .defer c) (hL : ∀ li a w, C w → L li a → wpAnyIn (Fence.wide.inRound l) m P md ops Q g li a w) :
    ∀ (f : Nat) (li : Array Bool) (a : Act) (w : World), C w → Ahead P md ops C n L f li a → wpAnyIn (Fence.wide.inRound l) m P md ops Q (f + g) li a w
  | 0, li, a, w, hw, h => by rw [Nat.zero_add]; exact hL _ _ _ hw h
  | f + 1, li, a, w, hw, h => by
    rw [show f + 1 + g = f + g + 1 from by omega]
    exact ⟨fun e => absurd e h.1, fun i hi => wpOpIn_of_q hd hw (fun a' w' hw' k => Ahead.anyIn hd hL f _ a' w' hw' k) (h.2 i hi).2⟩
theorem wpAnyIn_seq {l m : Nat} {Q : Exit → Act → World → Prop} : ∀ (r : List Oper) (k : Nat) (li : Array Bool) (a : Act) (w : World), (∀ j, r[j]? = ops[k + j]?) → Region.seqB md ops r.length k li = true →
    wpListIn (Fence.wide.inRound l) m P ops Q r a w → wpAnyIn (Fence.wide.inRound l) m P md ops Q r.length li a w
  | [], _, _, _, _, _, hB, h => ⟨by simpa [Region.seqB] using hB, h⟩
  | o :: r, k, li, a, w, hl, hB, h => by
    have h0 : ops[k]? = some o := by simpa using (hl 0).symm
    simp only [List.length_cons, Region.seqB, Bool.and_eq_true, decide_eq_true_eq] at hB
    refine ⟨fun h1 => absurd hB.1 (by rw [h1]; simp), fun i hi => ?_⟩
    rw [hB.1] at hi
    obtain rfl : i = k := by simpa using hi
    refine wpOpIn_mono (K := wpListIn (Fence.wide.inRound l) m P ops Q r) (fun a' w' h' => wpAnyIn_seq r (i + 1) _ a' w' (fun j => ?_) hB.2 h') ?_
    · have := hl (j + 1)
      simpa [Nat.add_assoc, Nat.add_comm 1 j] using this
    · unfold wpOpIn; simp only [h0]; exact h
/-- The like, in a round. -/
theorem wpIn_region_in_tail {id l m : Nat} {Q : Exit → Act → World → Prop} {a : Act} {w : World} {ls : List Oper} (n : Nat) (C : World → Prop) (hC : C w.drew) (hm : P.follows .mixedOrders = true) (hB : Region.lexTailB .any ls.toArray n = true)
    (hd : (ls.all fun o => match o.op with | .defer _ => false | _ => true) = true)
    (h : wpQuiet P ls.toArray (fun w' => ∃ n : Wd C, w' = n.w) (fun a' => ∀ w', C w' → wpListIn (Fence.wide.inRound l) m P ls.toArray Q (ls.drop n) a' w') (ls.take n) a) : (Code.region id ls.toArray true).wpIn (Fence.wide.inRound l) m P Q a w := by
  have e : (fun w' => ∃ n : Wd C, w' = n.w) = C := funext fun w' => propext ⟨fun ⟨n, hn⟩ => hn ▸ n.h, fun hc => ⟨⟨w', hc⟩, rfl⟩⟩
  rw [e] at h
  simp only [Region.lexTailB, Bool.and_eq_true, decide_eq_true_eq] at hB
  obtain ⟨⟨⟨⟨hsel, hn⟩, hs⟩, hc⟩, hlex⟩ := hB
  have hnl : n < ls.length := by simpa using hn
  have ht : (ls.take n).length = n := by rw [List.length_take]; omega
  have hg : (ls.drop n).length = ls.toArray.size - n := by simp
  have inv : HeadInv .any ls.toArray n (Array.replicate ls.toArray.size false) :=
    ⟨by simp, fun j oj _ hl => (by rw [getD_replicate_false] at hl; cases hl), fun t _ ht => getD_in (by simpa using ht) (getD_replicate_false _ _)⟩
  have hd' : ∀ (j : Nat) (o : Oper), ls.toArray[j]? = some o → ∀ c, o.op ≠ .defer c := fun j o ho => defer_ne hd (by have := Array.mem_of_getElem? ho; simpa using this)
  have H := Ahead.lex (md := .any) (g := ls.toArray.size - n) hsel hs hc hn (ls.take n) 0 _ a (fun j hj => by rw [ht] at hj; simp [hj]) (by omega) inv (by rw [ht]; exact hlex) h
  refine wpIn_region_any hm ?_
  have K := Ahead.anyIn (l := l) (m := m) (Q := Q) (g := ls.toArray.size - n) hd' (fun li a' w' hw' hL => by
    have := wpAnyIn_seq (md := .any) (l := l) (m := m) (Q := Q) (ls.drop n) n li a' w' (fun j => by simp [List.getElem?_drop]) (by rw [hg]; exact hL.1) (hL.2 w' hw')
    rwa [hg] at this) _ _ _ _ hC H
  rw [ht, show n + (ls.toArray.size - n) = ls.toArray.size from by omega] at K
  exact K
end
end Go.Proofs.YtcejmfgbfdhflaaGreat
