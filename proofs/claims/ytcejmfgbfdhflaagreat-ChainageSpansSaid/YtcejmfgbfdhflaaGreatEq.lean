import Derived.Test.YtcejmfgbfdhflaaGreatEb
import Derived.Test.YtcejmfgbfdhflaaGreatQd
import Derived.Test.YtcejmfgbfdhflaaGreatEn
import Derived.Maps.AppendAt
import Derived.WalkKit
import Derived.LoopTactic
import Derived.WalkSpells
import Derived.WalkLawsBesides
import Derived.Lib.Hide
import Derived.BigQuiet
import Derived.IntWalk
import Derived.Deep.DeepMust
import Derived.WalkSmall
import Derived.StillTailTactics
import Derived.Deep.RegionLaw
import Derived.Deep.RegionHeld3
import Derived.Deep.QuietTactic
namespace Go.Proofs.YtcejmfgbfdhflaaGreat
open Go.RowKit Go.BigFrame Go.Sort
attribute [local go_sem] World.cell?_alloc_some
/-- The cells of measures. -/
def flatM : List Ms → List Value
  | [] => []
  | m :: l => .int .i64 m.ch :: .int .i64 m.year :: .int .i64 m.chains :: .int .i64 m.links :: .int .i64 m.slack :: flatM l
theorem flatM_app (l m : List Ms) : flatM (l ++ m) = flatM l ++ flatM m := by
  induction l with
  | nil => rfl
  | cons p l ih => simp [flatM, ih]
theorem flatM_len (l : List Ms) : (flatM l).length = l.length * 5 := by
  induction l with
  | nil => rfl
  | cons p l ih => simp [flatM, ih]; omega
theorem flatM_one : ∀ {l : List Ms}, ∀ u ∈ flatM l, u.oneCell' = true
  | [], u, h => by simp [flatM] at h
  | p :: l, u, h => by
    simp only [flatM, List.mem_cons] at h
    rcases h with rfl | rfl | rfl | rfl | rfl | h
    · rfl
    · rfl
    · rfl
    · rfl
    · rfl
    · exact flatM_one u h
theorem flatM_get : ∀ {l : List Ms} {j : Nat} {q : Ms}, l[j]? = some q → (flatM l)[j * 5]? = some (.int .i64 q.ch) ∧ (flatM l)[j * 5 + 1]? = some (.int .i64 q.year) ∧ (flatM l)[j * 5 + 2]? = some (.int .i64 q.chains) ∧ (flatM l)[j * 5 + 3]? = some (.int .i64 q.links) ∧ (flatM l)[j * 5 + 4]? = some (.int .i64 q.slack)
  | [], _, _, h => by simp at h
  | p :: l, 0, q, h => by
    obtain rfl : p = q := by simpa using h
    exact ⟨rfl, rfl, rfl, rfl, rfl⟩
  | p :: l, j + 1, q, h => by
    have ih := flatM_get (l := l) (j := j) (q := q) (by simpa using h)
    rw [show (j + 1) * 5 = j * 5 + 1 + 1 + 1 + 1 + 1 from by omega]
    simpa [flatM] using ih
theorem flatM_at {W : World} {b o : Nat} : ∀ {l : List Ms} {k : Nat}, (∀ (j : Nat) (m : Ms), l[j]? = some m → W.cell? ⟨b, o + (k + j) * 5, none⟩ = some (.int .i64 m.ch) ∧ W.cell? ⟨b, o + (k + j) * 5 + 1, none⟩ = some (.int .i64 m.year) ∧ W.cell? ⟨b, o + (k + j) * 5 + 2, none⟩ = some (.int .i64 m.chains) ∧ W.cell? ⟨b, o + (k + j) * 5 + 3, none⟩ = some (.int .i64 m.links) ∧ W.cell? ⟨b, o + (k + j) * 5 + 4, none⟩ = some (.int .i64 m.slack)) →
    ∀ (j : Nat) (u : Value), (flatM l)[j]? = some u → W.cell? ⟨b, o + k * 5 + j, none⟩ = some u
  | [], _, _, j, u, h => by simp [flatM] at h
  | m :: l, k, hc, j, u, h => by
    have h0 := hc 0 m rfl
    rw [Nat.add_zero] at h0
    simp only [flatM] at h
    match j, h with
    | 0, h => rw [← Option.some.inj h]; exact h0.1
    | 1, h => rw [← Option.some.inj h]; exact h0.2.1
    | 2, h => rw [← Option.some.inj h]; exact h0.2.2.1
    | 3, h => rw [← Option.some.inj h]; exact h0.2.2.2.1
    | 4, h => rw [← Option.some.inj h]; exact h0.2.2.2.2
    | j + 5, h =>
      have := flatM_at (l := l) (k := k + 1) (fun i m' hi => by
        have := hc (i + 1) m' (by simpa using hi)
        rwa [show k + (i + 1) = k + 1 + i from by omega] at this) j u (by simpa using h)
      rwa [show o + (k + 1) * 5 + j = o + k * 5 + (j + 5) from by omega] at this
/-- Measures that the call owns. -/
abbrev OM (W : World) (B : Nat) (v : Value) (l : List Ms) : Prop := W.ownsRow B 73 5 v l.length (flatM l)
theorem OM.mss {W : World} {B : Nat} {v : Value} {l : List Ms} (h : OM W B v l) : ∃ q cap, v = .slice q l.length cap ∧ MssAt W q l := by
  obtain ⟨h1, ⟨rfl, h2⟩ | ⟨g, cap, cur, rfl, hB, hc, h3, h4, h5, h6⟩⟩ := h
  · exact ⟨none, 0, by rw [h2], .inl (List.length_eq_zero_iff.1 h2)⟩
  · refine ⟨_, cap, rfl, .inr ⟨g, 0, rfl, (Array.getElem?_eq_some_iff.1 hc).1, fun j t hj => ?_⟩⟩
    have hlt : j < l.length := (List.getElem?_eq_some_iff.1 hj).1
    obtain ⟨a0, a1, a2, a3, a4⟩ := flatM_get hj
    rw [← h6, List.getElem?_take_of_lt (by omega)] at a0 a1 a2 a3 a4
    rw [Nat.zero_add]
    exact ⟨by simpa [World.cell?, hc] using a0, by simpa [World.cell?, hc] using a1, by simpa [World.cell?, hc] using a2, by simpa [World.cell?, hc] using a3, by simpa [World.cell?, hc] using a4⟩
theorem inf73 : (Tryz.prog.info? 73).map (fun i => (i.zero, i.size, i.bytes)) = some (some (.agg #[.int .i64 0, .int .i64 0, .int .i64 0, .int .i64 0, .int .i64 0]), 5, 40) := by kernel_rfl
theorem run_append_ms_at {W : World} {B : Nat} {g n c : Nat} {l m : List Ms} {q : Option Addr} {cap : Nat} (ty : TypeId) (hP : OM W B (.slice (some ⟨g, 0, none⟩) n c) l) (hw : B ≤ W.heap.size) (hm : MssAt W q m) (hl : l.length + m.length ≤ 1000) :
    ∃ g' c' w', (Builtin.append_ #[69, 69] ty #[.slice (some ⟨g, 0, none⟩) n c, .slice q m.length cap]).run Tryz.prog W = .ok (.slice (some ⟨g', 0, none⟩) (l ++ m).length c') w' ∧ OM w' B (.slice (some ⟨g', 0, none⟩) (l ++ m).length c') (l ++ m) ∧ W.grownBy w' (some g) ∧ (g' = g ∨ g' = W.heap.size) := by
  obtain ⟨i0, hi, hz0, hz1, hz2⟩ := info_parts inf73
  have hadd : ∀ (b o j : Nat), (⟨b, o, none⟩ : Addr).add j = ⟨b, o + j, none⟩ := fun b o j => by
    unfold Addr.add
    split
    · rename_i h; simp_all
    · rfl
  have key : ∀ ad, (∀ j u, (flatM m)[j]? = some u → W.cell? (Addr.add ad j) = some u) → ∃ g' c' w', (Builtin.append_ #[69, 69] ty #[.slice (some ⟨g, 0, none⟩) n c, .slice (some ad) m.length cap]).run Tryz.prog W = .ok (.slice (some ⟨g', 0, none⟩) (l ++ m).length c') w' ∧ OM w' B (.slice (some ⟨g', 0, none⟩) (l ++ m).length c') (l ++ m) ∧ W.grownBy w' (some g) ∧ (g' = g ∨ g' = W.heap.size) := fun ad had => by
    obtain ⟨v', w', hr, h2, h3, h4, h5⟩ := run_append_own_at (P := Tryz.prog) W B 69 ty 73 i0 (.agg #[.int .i64 0, .int .i64 0, .int .i64 0, .int .i64 0, .int .i64 0]) 5 40 Tryz.underlying69 hi hz0 hz1 hz2 rfl (by decide) (.slice (some ⟨g, 0, none⟩) n c) l.length (flatM l) hP ad m.length cap (flatM m) (flatM_len m) had flatM_one (by unfold maxLen; omega) (by omega) hw
    rw [← flatM_app, ← List.length_append] at h2
    have h2' := h2
    obtain ⟨-, ⟨e, -⟩ | ⟨g', cap', cur, rfl, -⟩⟩ := h2
    · exact absurd (h4.1 e).1 (by intro h; cases h)
    · exact ⟨g', cap', w', hr, h2', h3, by simpa [Value.ownBlock] using h5⟩
  by_cases he : m = []
  · subst he
    rcases q with - | ad
    · have hP' := hP
      obtain ⟨h1, ⟨e, -⟩ | ⟨g', cap', cur, e, hB, hc, h3, h4, h5, h6⟩⟩ := hP
      · cases e
      · injection e with e1 e2 e3
        injection e1 with e1
        injection e1 with e1
        subst e1 e2 e3
        refine ⟨g, c, W, ?_, ?_, ⟨rfl, rfl, rfl, Nat.le_refl _, fun _ _ _ => rfl⟩, .inl rfl⟩
        · simp [Builtin.append_, run_underlying Tryz.underlying69, sizeOf, typeInfo, hi, Builtin.lenOf, Builtin.firstCells, loadCells, h3]
          first | rfl | simp [storeCells] | (unfold storeCells; rfl) | (unfold storeCells; simp)
        · simpa using hP'
    · exact key ad fun j u h => by simp [flatM] at h
  · rcases hm with h | ⟨b, o, rfl, hb, hc⟩
    · exact absurd h he
    · refine key _ fun j u h => ?_
      rw [hadd]
      have := flatM_at (l := m) (k := 0) (b := b) (o := o) (W := W) (fun j m' hj => by simpa using hc j m' hj) j u h
      simpa using this
/-- An append of measures in a region that draws its order. -/
theorem step_app {ops : Array Oper} {W : World} {o : Oper} {a : Act} {K : Act → World → Prop} {Q : Exit → Act → World → Prop} {E : Prop} (hgd : o.guard = none) (s x : Operand)
    (ho : o.op = .call { callee := .builtin .append, args := #[s, x], argTypes := #[69, 69] }) {B g n c : Nat} {l m l' : List Ms} {q : Option Addr} {cap N : Nat}
    (hs : a.eval s = .slice (some ⟨g, 0, none⟩) n c) (hx : a.eval x = .slice q m.length cap) (hP : OM W B (.slice (some ⟨g, 0, none⟩) n c) l) (hw : B ≤ W.heap.size) (hm : MssAt W q m) (hl : l.length + m.length ≤ 1000) (hl' : l ++ m = l') (hN : l'.length = N)
    (h : ∀ g' c' w', OM w' B (.slice (some ⟨g', 0, none⟩) N c') l' → W.grownBy w' (some g) → (g' = g ∨ g' = W.heap.size) → K (a.put o.dst (.slice (some ⟨g', 0, none⟩) N c')) w') :
    if Region.wanted o (yielded ops a.tmps) = true then Oper.wp Tryz.prog o a W K Q else E := by
  subst hl' hN
  rw [if_pos (by simp [Region.wanted, hgd])]
  obtain ⟨g', c', w', hr, h2, h3, h4⟩ := run_append_ms_at (cap := cap) o.type hP hw hm hl
  unfold Oper.wp execOp
  simp only [ho, resolve, invoke, builtin, Sem.run_bind, Sem.run_pure, Result.andThen_ok, List.map_toArray, List.map_cons, List.map_nil, hs, hx, hr]
  exact h g' c' w' h2 h3 h4
/-- A new variable of two numbers, apart from the row at block g. -/
structure Z2 (V W : World) (k g : Nat) : Prop where
  cs : Cs W [(k, 0, .int .i64 0), (k, 1, .int .i64 0)]
  ne : k ≠ g
  ge : V.heap.size ≤ k
theorem Z2.new {V W : World} {g : Nat} (h : V.heap.size ≤ W.heap.size) (hg : W.heap.size ≠ g) : Z2 V (W.alloc (.cells #[.int .i64 0, .int .i64 0] 30)) W.heap.size g :=
  ⟨⟨(cs_blk W #[.int .i64 0, .int .i64 0] 30 _ 0 rfl).1, (cs_blk W #[.int .i64 0, .int .i64 0] 30 _ 0 rfl).2.1, trivial⟩, hg, h⟩
theorem Z2.al {V W : World} {k g g' : Nat} (h : Z2 V W k g) (o : Obj) (hg : k ≠ g') : Z2 V (W.alloc o) k g' := ⟨h.cs.keep (below_al _ _), hg, h.ge⟩
theorem Z2.below {V W W' : World} {k g : Nat} (h : Z2 V W k g) (hb : Below W.heap.size W W') : Z2 V W' k g := ⟨h.cs.keep hb, h.ne, h.ge⟩
theorem Z2.app {V W W' : World} {k g g' : Nat} (h : Z2 V W k g) (hg : W.grownBy W' (some g)) (ha : g' = g ∨ g' = W.heap.size) : Z2 V W' k g' := by
  refine ⟨h.cs.grown hg (fun x hx e => ?_), ?_, h.ge⟩
  · simp only [List.mem_cons, List.not_mem_nil, or_false] at hx
    rcases hx with rfl | rfl <;> (injection e with e; exact h.ne e)
  · have := h.cs.1.1
    rcases ha with rfl | rfl
    · exact h.ne
    · intro e; exact absurd this (by show ¬ k < W.heap.size; omega)
theorem hGrow {V : World} {L : List (Nat × Nat × Value)} (hb : ∀ x ∈ L, x.1 < V.heap.size) {W W' : World} {g : Nat} (hg : V.heap.size ≤ g) (hgr : W.grownBy W' (some g)) (h : Cs0 W L ∧ Below V.heap.size V W) : Cs0 W' L ∧ Below V.heap.size V W' :=
  ⟨Cs0.of (fun x hx => World.cell?_of_block (a := ⟨x.1, x.2.1, none⟩) (hgr.block x.1 (Nat.lt_of_lt_of_le (hb x hx) h.2.size) (fun e => by injection e with e; have := hb x hx; omega))) h.1, below_grownB h.2 hg hgr⟩
theorem lit_om (W : World) (B : Nat) (hB : B ≤ W.heap.size) : OM (W.alloc (.cells #[] 73)) B (.slice (some ⟨W.heap.size, 0, none⟩) 0 0) [] := World.ownsRow_lit W #[] 0 hB (by decide) rfl
end Go.Proofs.YtcejmfgbfdhflaaGreat
