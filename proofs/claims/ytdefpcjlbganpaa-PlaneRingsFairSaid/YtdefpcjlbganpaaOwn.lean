import Derived.Test.YtdefpcjlbganpaaSegMath
import Derived.WalkKit
import Derived.LoopTactic
import Derived.WalkSpells
import Derived.WalkLawsBesides
import Derived.Lib.Hide
import Derived.BigQuiet
import Derived.IntWalk
import Derived.Deep.DeepMust
import Derived.WalkSmall
import Derived.StillTailTactics
import Derived.Deep.RegionLaw
import Derived.Deep.RegionHeld3
import Derived.Deep.QuietTactic
import Derived.Deep.DeepCutAuto
import Derived.Laws.AppendOwn
import Derived.Deep.CutBlock
namespace Go.Proofs.Ytdefpcjlbganpaa
open Go.RowKit Go.BigFrame
attribute [local go_sem] World.cell?_alloc_some
/-- The cells of points. -/
def flatP : List Pt → List Value
  | [] => []
  | p :: l => .int .i64 p.x :: .int .i64 p.y :: flatP l
theorem flatP_app (l m : List Pt) : flatP (l ++ m) = flatP l ++ flatP m := by
  induction l with
  | nil => rfl
  | cons p l ih => simp [flatP, ih]
theorem flatP_len (l : List Pt) : (flatP l).length = l.length * 2 := by
  induction l with
  | nil => rfl
  | cons p l ih => simp only [flatP, List.length_cons, ih]; omega
theorem flatP_get : ∀ {l : List Pt} {j : Nat} {q : Pt}, l[j]? = some q → (flatP l)[j * 2]? = some (.int .i64 q.x) ∧ (flatP l)[j * 2 + 1]? = some (.int .i64 q.y)
  | [], _, _, h => by simp at h
  | p :: l, 0, q, h => by
    obtain rfl : p = q := by simpa using h
    exact ⟨rfl, rfl⟩
  | p :: l, j + 1, q, h => by
    have ih := flatP_get (l := l) (j := j) (q := q) (by simpa using h)
    rw [show (j + 1) * 2 = j * 2 + 1 + 1 from by omega]
    simpa [flatP] using ih
theorem flatP_one : ∀ {l : List Pt}, ∀ u ∈ flatP l, u.oneCell' = true
  | [], u, h => by simp [flatP] at h
  | p :: l, u, h => by
    simp only [flatP, List.mem_cons] at h
    rcases h with rfl | rfl | h
    · rfl
    · rfl
    · exact flatP_one u h
/-- A list of points that the call alone holds, beside cells that lie there. -/
structure PO (w : World) (B : Nat) (L : List (Nat × Nat × Value)) (v : Value) (l : List Pt) (W : World) : Prop where
  st : St w W L
  lo : ∀ x ∈ L, x.1 < B
  wB : w.heap.size ≤ B
  BW : B ≤ W.heap.size
  own : W.ownsRow B 23 2 v l.length (flatP l)
theorem ownsRow_keep {W W' : World} {B : Nat} {e : TypeId} {k n : Nat} {v : Value} {xs : List Value} (h : W.ownsRow B e k v n xs) (hb : Below W.heap.size W W') : W'.ownsRow B e k v n xs := by
  obtain ⟨h1, h2 | ⟨g, cap, cur, rfl, hg, hc, h3, h4, h5, h6⟩⟩ := h
  · exact ⟨h1, .inl h2⟩
  · exact ⟨h1, .inr ⟨g, cap, cur, rfl, hg, by rw [hb.block g (Array.getElem?_eq_some_iff.1 hc).1]; exact hc, h3, h4, h5, h6⟩⟩
theorem PO.next {w B L v l W W'} (h : PO w B L v l W) (hb : Below W.heap.size W W') : PO w B L v l W' :=
  ⟨h.st.next hb, h.lo, h.wB, Nat.le_trans h.BW hb.size, ownsRow_keep h.own hb⟩
theorem Cs.grown {W W' : World} {row : Option Nat} (hg : W.grownBy W' row) : ∀ {L : List (Nat × Nat × Value)}, (∀ x ∈ L, some x.1 ≠ row) → Cs W L → Cs W' L
  | [], _, _ => trivial
  | (b, o, v) :: L, hf, h => ⟨⟨Nat.lt_of_lt_of_le h.1.1 hg.size, by rw [World.cell?_of_block (a := ⟨b, o, none⟩) (hg.block b h.1.1 (hf _ List.mem_cons_self))]; exact h.1.2.1, by rw [World.frozen?_of_block (a := ⟨b, o, none⟩) (hg.block b h.1.1 (hf _ List.mem_cons_self))]; exact h.1.2.2⟩,
      Cs.grown hg (fun x hx => hf x (List.mem_cons_of_mem _ hx)) h.2⟩
theorem ownBlock_lo {W : World} {B : Nat} {e : TypeId} {k n : Nat} {v : Value} {xs : List Value} (h : W.ownsRow B e k v n xs) {r : Nat} (hr : v.ownBlock = some r) : B ≤ r := by
  obtain ⟨_, ⟨rfl, _⟩ | ⟨g, cap, cur, rfl, hg, _⟩⟩ := h
  · simp [Value.ownBlock] at hr
  · simp only [Value.ownBlock, Option.some.injEq] at hr; omega
theorem PO.app {w B L v l W W' v'} {m : List Pt} (h : PO w B L v l W) (hg : W.grownBy W' v.ownBlock) (ho : W'.ownsRow B 23 2 v' (l.length + m.length) (flatP l ++ flatP m)) : PO w B L v' (l ++ m) W' := by
  refine ⟨⟨?_, h.st.c.grown hg (fun x hx e => ?_)⟩, h.lo, h.wB, Nat.le_trans h.BW hg.size, ?_⟩
  · refine h.st.b.trans ⟨hg.os, hg.tape, hg.output, hg.size, fun k hk => hg.block k (Nat.lt_of_lt_of_le hk h.st.b.size) (fun e => ?_)⟩
    have := ownBlock_lo h.own e.symm
    have := h.wB
    omega
  · have := ownBlock_lo h.own e.symm
    have := h.lo x hx
    omega
  · rw [flatP_app, List.length_append]; exact ho
theorem PO.pts {w B L v l W} (h : PO w B L v l W) : ∃ a cap, v = .slice a l.length cap ∧ PtsAt W a l := by
  obtain ⟨h1, ⟨rfl, h2⟩ | ⟨g, cap, cur, rfl, hg, hc, h3, h4, h5, h6⟩⟩ := h.own
  · refine ⟨none, 0, by rw [h2], .inl (List.length_eq_zero_iff.1 h2)⟩
  · refine ⟨some ⟨g, 0, none⟩, cap, rfl, .inr ⟨g, 0, rfl, (Array.getElem?_eq_some_iff.1 hc).1, fun j q hq => ?_⟩⟩
    have hj : j < l.length := (List.getElem?_eq_some_iff.1 hq).1
    obtain ⟨g1, g2⟩ := flatP_get hq
    rw [← h6] at g1 g2
    rw [List.getElem?_take_of_lt (by omega)] at g1 g2
    rw [Nat.zero_add]
    exact ⟨by simpa [World.cell?, hc] using g1, by simpa [World.cell?, hc] using g2⟩
theorem PO.made {w W : World} {B : Nat} {L} (h : St w W L) (hL : ∀ x ∈ L, x.1 < B) (hB : W.heap.size = B) : PO w B L (.slice (some ⟨B, 0, none⟩) 0 0) [] (W.alloc (.cells #[] 23)) :=
  ⟨h.al _, hL, by have := h.b.size; omega, by simp; omega, by subst hB; exact World.ownsRow_made W #[] 0 (Nat.le_refl _) (by decide) rfl⟩
/-- A class of worlds, in which a list of points is held. -/
theorem clsP {w W0 : World} {B : Nat} {L : List (Nat × Nat × Value)} {v : Value} {l : List Pt} (S : PO w B L v l W0) : ∃ C : World → Prop, C W0 ∧ Hid (∀ W W', C W → Below W.heap.size W W' → C W') ∧ Hid (∀ n : Wd C, Cs n.w L) ∧ Hid (∀ n : Wd C, Below w.heap.size w n.w) ∧ Nonempty (Wd C) ∧ Hid (∀ n : Wd C, PO w B L v l n.w) :=
  ⟨PO w B L v l, S, fun _ _ h hb => h.next hb, fun n => n.h.st.c, fun n => n.h.st.b, ⟨⟨W0, S⟩⟩, fun n => n.h⟩
theorem Cs.lt {W : World} : ∀ {L : List (Nat × Nat × Value)}, Cs W L → ∀ x ∈ L, x.1 < W.heap.size
  | [], _, x, hx => by simp at hx
  | (b, o, v) :: L, h, x, hx => by
    rcases List.mem_cons.1 hx with rfl | hx
    · exact h.1.1
    · exact Cs.lt h.2 x hx
theorem Try.inf23 : (Try.prog.info? 23).map (fun i => (i.zero, i.size, i.bytes)) = some (some (.agg #[.int .i64 0, .int .i64 0]), 2, 16) := by kernel_rfl
/-- One point more. -/
theorem app1 {w : World} {B : Nat} {L : List (Nat × Nat × Value)} {v : Value} {l : List Pt} {W : World} (hP : PO w B L v l W) (p : Pt) (hl : l.length ≤ 1000000) {ops : Array Oper} {rest : List Oper} {o : Oper} {a : Act} {Q : Exit → Act → World → Prop} (hgd : o.guard = none) (s x : Operand)
    (ho : o.op = .call { callee := .builtin .append, args := #[s, x], argTypes := #[35, 35] }) (hs : a.eval s = v) (hx : a.eval x = .slice (some ⟨W.heap.size, 0, none⟩) 1 1)
    (h : ∀ v' w', PO w B L v' (l ++ [p]) w' → wpList Try.prog ops Q rest (a.put o.dst v') w') : wpList Try.prog ops Q (o :: rest) a (W.alloc (.cells #[.int .i64 p.x, .int .i64 p.y] 23)) := by
  obtain ⟨i0, hi, hz0, hz1, hz2⟩ := info_parts Try.inf23
  have hP1 := hP.next (below_al W (.cells #[.int .i64 p.x, .int .i64 p.y] 23))
  refine wpList_append_own _ hgd s x 35 ho B 23 i0 (.agg #[.int .i64 0, .int .i64 0]) 2 16 Try.underlying35 hi hz0 hz1 hz2 rfl (by decide) v l.length (flatP l) hs hP1.own ⟨W.heap.size, 0, none⟩ 1 1 (flatP [p]) hx rfl ?_ flatP_one ?_ ?_ hP1.BW ?_
  · intro j u hu
    match j, hu with
    | 0, hu =>
      obtain rfl : Value.int .i64 p.x = u := by simpa [flatP] using hu
      exact new_at W _ 23 0 _ rfl
    | 1, hu =>
      obtain rfl : Value.int .i64 p.y = u := by simpa [flatP] using hu
      exact new_at W _ 23 1 _ rfl
  · unfold maxLen; omega
  · omega
  · intro v' w' ho' hg _
    exact h v' w' (hP1.app (m := [p]) hg ho')
theorem neP_run (a b : Pt) (w : World) : (binOp .neq 23 a.v b.v).run Try.prog w = .ok (.bool (!ptE a b)) w := by
  unfold ptE
  rw [pt_beq]
  by_cases h1 : a.x = b.x <;> by_cases h2 : a.y = b.y
  all_goals (simp [go_sem, h1, h2]; done)
end Go.Proofs.Ytdefpcjlbganpaa
