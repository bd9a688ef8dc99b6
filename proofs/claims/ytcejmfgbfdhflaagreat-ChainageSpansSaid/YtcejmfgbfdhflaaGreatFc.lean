import Derived.Test.YtcejmfgbfdhflaaGreatFb
import Derived.WalkKit
import Derived.LoopTactic
import Derived.WalkSpells
import Derived.WalkLawsBesides
import Derived.Lib.Hide
import Derived.BigQuiet
import Derived.IntWalk
import Derived.Deep.DeepMust
import Derived.WalkSmall
import Derived.StillTailTactics
import Derived.Deep.RegionLaw
import Derived.Deep.RegionHeld3
import Derived.Deep.QuietTactic
namespace Go.Proofs.YtcejmfgbfdhflaaGreat
open Go.RowKit Go.BigFrame Go.Sort Go.Shelf
attribute [local go_sem] World.cell?_alloc_some
attribute [local go_sem] Oper.semAt_some
theorem row_ownFrom {β : Type} (B b e k : Nat) (v : β → Value) (n : β → Nat) (xs : β → List Value) : OwnFrom B (fun s W => W.ownsRow b e k (v s) (n s) (xs s)) := fun s W W' row h hg hr => by
  obtain ⟨h1, h2 | ⟨g, cap, cur, hv, hgb, hc, h3, h4, h5, h6⟩⟩ := h
  · exact ⟨h1, .inl h2⟩
  · refine ⟨h1, .inr ⟨g, cap, cur, hv, hgb, ?_, h3, h4, h5, h6⟩⟩
    rw [hg.block g (Array.getElem?_eq_some_iff.1 hc).1 (fun e => by
      obtain ⟨_, o, ho, hcell⟩ := hr g e.symm
      rw [hc] at ho
      cases ho
      cases hcell)]
    exact hc
theorem appIin {F : Fence} {m : Nat} {B : Nat} {v : Value} {l : List Int} {W : World} (hP : OI W B v l) (hw : B ≤ W.heap.size) (x : Int) (hl : l.length ≤ 1000000) {ops : Array Oper} {rest : List Oper} {o : Oper} {a : Act} {Q : Exit → Act → World → Prop} (hgd : o.guard = none) (s y : Operand)
    (ho : o.op = .call { callee := .builtin .append, args := #[s, y], argTypes := #[36, 36] }) (hs : a.eval s = v) (hx : a.eval y = .slice (some ⟨W.heap.size, 0, none⟩) 1 1)
    (h : ∀ v' w', OI w' B v' (l ++ [x]) → W.grownBy w' v.ownBlock → wpListIn F m Tryz.prog ops Q rest (a.put o.dst v') w') : wpListIn F m Tryz.prog ops Q (o :: rest) a (W.alloc (.cells #[.int .i64 x] 3)) := by
  obtain ⟨i0, hi, hz0, hz1, hz2⟩ := info_parts inf3
  refine wpListIn_append_own _ hgd s y 36 ho B 3 i0 (.int .i64 0) 1 8 Tryz.underlying36 hi hz0 hz1 hz2 rfl (by decide) v l.length (l.map (Value.int .i64)) hs (hP.alloc _) ⟨W.heap.size, 0, none⟩ 1 1 [.int .i64 x] hx rfl ?_ ?_ ?_ ?_ ?_ ?_
  · intro j u hu
    match j, hu with
    | 0, hu =>
      obtain rfl : Value.int .i64 x = u := by simpa using hu
      exact new_at W _ 3 0 _ rfl
  · intro u hu; obtain rfl : u = .int .i64 x := by simpa using hu
    rfl
  · unfold maxLen; omega
  · omega
  · simp; omega
  · intro v' w' ho' hg _
    refine h v' w' ?_ ?_
    · show w'.ownsRow B 3 1 v' (l ++ [x]).length ((l ++ [x]).map (Value.int .i64))
      rw [List.length_append, List.map_append]; exact ho'
    · exact ⟨hg.os, hg.tape, hg.output, by have := hg.size; simp at this; omega, fun k hk hne => (hg.block k (by simp; omega) hne).trans (Below.heap_alloc W _ k hk)⟩
/-- The spell of a year, among those that lie. -/
theorem sps_spell {x : WA} {c : Ch} {B G n : Nat} {W : World} {xs : List SV} (h : SpsAt (spA x c) n B W G xs) (hn : n = (tsO x c).length) (hn61 : n ≤ 61) (y : Int) (hy : c.year ≤ y) :
    ∃ sv : SV, sv.s = spO x c y ∧ okS sv.s = true ∧ ThsAt W sv.q sv.s.ths ∧ (sv.s.ths.length ≤ sv.cap ∧ sv.cap ≤ maxLen) ∧
      ∀ W', Below W.heap.size W W' → Calls Tryz.prog 137 #[.slice (some ⟨G, 0, none⟩) n n, .int .i64 y] W' fun e w'' => e = .returned sv.v ∧ Below W'.heap.size W' w'' := by
  have hmap : xs.map (·.s) = (List.range n).map (spA x c) := by
    apply List.ext_getElem
    · simp [h.len]
    · intro j h1 h2
      have hj : j < xs.length := by simpa using h1
      have := (h.at_ j xs[j] (List.getElem?_eq_getElem hj)).1
      simp [this]
  have hlo : (xs.map fun x => x.s.lo) = (tsO x c).map (·.year) := by
    have e4 : (xs.map fun x => x.s.lo) = (xs.map (·.s)).map (·.lo) := by rw [List.map_map]; rfl
    rw [e4, hmap, List.map_map]
    apply List.ext_getElem
    · simp [hn]
    · intro j h5 h6
      have : j < (tsO x c).length := by simpa using h6
      simp [spP, List.getElem?_eq_getElem this]
  have hup : upB (xs.map fun x => x.s.lo) := by
    rw [hlo]; unfold upB; rw [List.pairwise_map]; exact srtB_up _
  have hcn : cntU (xs.map fun x => x.s.lo) y = ixO x c y + 1 := by rw [hlo]; exact cnt_pos hy
  have hix : ixO x c y < xs.length := by
    have := ix_lt (x := x) hy
    have := h.len
    omega
  obtain ⟨q1, q2, q3, q4, q5, q6⟩ := h.at_ (ixO x c y) xs[ixO x c y] (List.getElem?_eq_getElem hix)
  refine ⟨xs[ixO x c y], q1, q2, q4.ths, ⟨q5, q6⟩, fun W' hb => ?_⟩
  exact spellOf_any G 0 n n xs y W' h.len (by omega) (Nat.lt_of_lt_of_le h.lt hb.size) (fun j sv hj => by rw [Nat.zero_add]; exact ((h.at_ j sv hj).2.2.1).keep hb) hup _ _ hcn (List.getElem?_eq_getElem hix)
end Go.Proofs.YtcejmfgbfdhflaaGreat
