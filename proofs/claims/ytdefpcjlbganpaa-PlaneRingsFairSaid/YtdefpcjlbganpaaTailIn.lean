import Derived.Test.YtdefpcjlbganpaaAround1
import Derived.WalkKit
import Derived.LoopTactic
import Derived.WalkSpells
import Derived.WalkLawsBesides
import Derived.Lib.Hide
import Derived.BigQuiet
import Derived.IntWalk
import Derived.Deep.DeepMust
import Derived.WalkSmall
import Derived.StillTailTactics
import Derived.Deep.RegionLaw
import Derived.Deep.RegionHeld3
import Derived.Deep.QuietTactic
import Derived.Deep.DeepCutAuto
import Derived.Sort.Grow
import Derived.Laws.AppendOwn
import Derived.Deep.CutBlock
namespace Go.Proofs.Ytdefpcjlbganpaa
open Go.RowKit Go.BigFrame Go.Sort
attribute [local go_sem] World.cell?_alloc_some
section
variable {P : Program} {ops : Array Oper} {md : Region.Mode} {C : World → Prop}
theorem wpOpIn_of_q {l m i : Nat} {K : Act → Prop} {K' : Act → World → Prop} {Q : Exit → Act → World → Prop} {a : Act} {w : World} (hd : ∀ (j : Nat) (o : Oper), ops[j]? = some o → ∀ c, o.op ≠ .defer c) (hw : C w) (h : ∀ a w', C w' → K a → K' a w') (hh : qOp P ops C i K a) :
    wpOpIn (Fence.wide.inRound l) m P ops Q i K' a w := by
  unfold qOp at hh
  unfold wpOpIn
  cases ho : ops[i]? with
  | none => simp only [ho] at hh; exact h _ _ hw hh
  | some o =>
    simp only [ho] at hh
    dsimp only
    split
    · rename_i hwn
      rw [if_pos hwn] at hh
      exact wpIn_of_quiet (hd i o ho) hw h hh
    · rename_i hwn
      rw [if_neg hwn] at hh
      exact ⟨fun _ _ => trivial, h _ _ hw hh⟩
theorem Ahead.anyIn {l m n g : Nat} {L : Array Bool → Act → Prop} {Q : Exit → Act → World → Prop} (hd : ∀ (j : Nat) (o : Oper), ops[j]? = some o → ∀ c, o.op ≠ .defer c) (hL : ∀ li a w, C w → L li a → wpAnyIn (Fence.wide.inRound l) m P md ops Q g li a w) :
    ∀ (f : Nat) (li : Array Bool) (a : Act) (w : World), C w → Ahead P md ops C n L f li a → wpAnyIn (Fence.wide.inRound l) m P md ops Q (f + g) li a w
  | 0, li, a, w, hw, h => by rw [Nat.zero_add]; exact hL _ _ _ hw h
  | f + 1, li, a, w, hw, h => by
    rw [show f + 1 + g = f + g + 1 from by omega]
    exact ⟨fun e => absurd e h.1, fun i hi => wpOpIn_of_q hd hw (fun a' w' hw' k => Ahead.anyIn hd hL f _ a' w' hw' k) (h.2 i hi).2⟩
theorem wpAnyIn_seq {l m : Nat} {Q : Exit → Act → World → Prop} : ∀ (r : List Oper) (k : Nat) (li : Array Bool) (a : Act) (w : World), (∀ j, r[j]? = ops[k + j]?) → Region.seqB md ops r.length k li = true →
    wpListIn (Fence.wide.inRound l) m P ops Q r a w → wpAnyIn (Fence.wide.inRound l) m P md ops Q r.length li a w
  | [], _, _, _, _, _, hB, h => ⟨by simpa [Region.seqB] using hB, h⟩
  | o :: r, k, li, a, w, hl, hB, h => by
    have h0 : ops[k]? = some o := by simpa using (hl 0).symm
    simp only [List.length_cons, Region.seqB, Bool.and_eq_true, decide_eq_true_eq] at hB
    refine ⟨fun h1 => absurd hB.1 (by rw [h1]; simp), fun i hi => ?_⟩
    rw [hB.1] at hi
    obtain rfl : i = k := by simpa using hi
    refine wpOpIn_mono (K := wpListIn (Fence.wide.inRound l) m P ops Q r) (fun a' w' h' => wpAnyIn_seq r (i + 1) _ a' w' (fun j => ?_) hB.2 h') ?_
    · have := hl (j + 1)
      simpa [Nat.add_assoc, Nat.add_comm 1 j] using this
    · unfold wpOpIn; simp only [h0]; exact h
/-- The like, in a round. -/
theorem wpIn_region_in_tail {id l m : Nat} {Q : Exit → Act → World → Prop} {a : Act} {w : World} {ls : List Oper} (n : Nat) (C : World → Prop) (hC : C w.drew) (hm : P.follows .mixedOrders = true) (hB : Region.lexTailB .any ls.toArray n = true)
    (hd : (ls.all fun o => match o.op with | .defer _ => false | _ => true) = true)
    (h : wpQuiet P ls.toArray (fun w' => ∃ n : Wd C, w' = n.w) (fun a' => ∀ w', C w' → wpListIn (Fence.wide.inRound l) m P ls.toArray Q (ls.drop n) a' w') (ls.take n) a) : (Code.region id ls.toArray true).wpIn (Fence.wide.inRound l) m P Q a w := by
  have e : (fun w' => ∃ n : Wd C, w' = n.w) = C := funext fun w' => propext ⟨fun ⟨n, hn⟩ => hn ▸ n.h, fun hc => ⟨⟨w', hc⟩, rfl⟩⟩
  rw [e] at h
  simp only [Region.lexTailB, Bool.and_eq_true, decide_eq_true_eq] at hB
  obtain ⟨⟨⟨⟨hsel, hn⟩, hs⟩, hc⟩, hlex⟩ := hB
  have hnl : n < ls.length := by simpa using hn
  have ht : (ls.take n).length = n := by rw [List.length_take]; omega
  have hg : (ls.drop n).length = ls.toArray.size - n := by simp
  have inv : HeadInv .any ls.toArray n (Array.replicate ls.toArray.size false) :=
    ⟨by simp, fun j oj _ hl => (by rw [getD_replicate_false] at hl; cases hl), fun t _ ht => getD_in (by simpa using ht) (getD_replicate_false _ _)⟩
  have hd' : ∀ (j : Nat) (o : Oper), ls.toArray[j]? = some o → ∀ c, o.op ≠ .defer c := fun j o ho => defer_ne hd (by have := Array.mem_of_getElem? ho; simpa using this)
  have H := Ahead.lex (md := .any) (g := ls.toArray.size - n) hsel hs hc hn (ls.take n) 0 _ a (fun j hj => by rw [ht] at hj; simp [hj]) (by omega) inv (by rw [ht]; exact hlex) h
  refine wpIn_region_any hm ?_
  have K := Ahead.anyIn (l := l) (m := m) (Q := Q) (g := ls.toArray.size - n) hd' (fun li a' w' hw' hL => by
    have := wpAnyIn_seq (md := .any) (l := l) (m := m) (Q := Q) (ls.drop n) n li a' w' (fun j => by simp [List.getElem?_drop]) (by rw [hg]; exact hL.1) (hL.2 w' hw')
    rwa [hg] at this) _ _ _ _ hC H
  rw [ht, show n + (ls.toArray.size - n) = ls.toArray.size from by omega] at K
  exact K
end
end Go.Proofs.Ytdefpcjlbganpaa
