import Derived.RangeFuncNested
import Derived.RangeFuncBox
import Derived.RangeFuncBound
import Derived.RangeFuncCalls
import Derived.RangeFuncLeaves
import Derived.Shelf.Abstract
import Derived.Shelf.RegionOpen
import Derived.WalkKit
import Derived.OwnWalkIn
import Derived.TacticsInMore
import Derived.LoopNIn
import Derived.LoopIn
import Derived.Lib.Hide
import Derived.IntWalk
import Derived.Test.YtdefpcjlbganpaaEdges
import Derived.Test.YtdefpcjlbganpaaCheckP
namespace Go.Proofs.Ytdefpcjlbganpaa
open Go.RowKit Go.Shelf
attribute [local go_sem] Oper.semAt_some
theorem upto_all {α : Type} (f : Nat → α) (k n : Nat) (h : k ≤ n) : upto f k <+: upto f n := by
  obtain ⟨m, rfl⟩ : ∃ m, n = k + m := ⟨n - k, by omega⟩
  clear h
  induction m with
  | zero => exact List.prefix_rfl
  | succ m ih => rw [show k + (m + 1) = (k + m) + 1 from by omega, upto_succ]; exact ih.trans (List.prefix_append _ _)
/-- The edges of a polygon. -/
def egs (l : List Pt) : List (Nat × Sg) := upto (fun j => (j, eg l j)) l.length
set_option maxHeartbeats 1000000 in
theorem edges_in (F : Fence) (n : Nat) (h91 : F.fn 91) (hro : F.round = none) (a : Option Addr) (len cap : Nat) (w : World) :
    CallsIn F n Try.prog 91 #[.slice a len cap] w fun e w' => e = .returned (.func (.func 136) #[] #[.pointer (some ⟨w.heap.size, 0, none⟩)]) ∧ w' = w.alloc (.cells #[.slice a len cap] 35) := by
  refine callsIn_of_wp Try.func91 rfl h91 ?_ hro
  simp only [Try.ntmps91, List.size_toArray, List.length_cons, List.length_nil, Nat.reduceAdd, Nat.reduceSub, Array.replicate_succ, Array.replicate_zero, List.push_toArray, List.append_toArray, List.nil_append, List.cons_append]
  gi_wp2
  go_ret
  exact ⟨rfl, rfl⟩
theorem edges_stops (F : Fence) (n : Nat) (h136 : F.fn 136) (hro : F.round = none) (hn : 1 ≤ n) (Bs n₀ b off cap : Nat) (ls : List Pt) (hlen : ls.length ≤ 1000) (hb : b < n₀) (w : World) (hBs : Bs < w.heap.size) (hn0 : n₀ ≤ w.heap.size)
    (hBc : w.cell? ⟨Bs, 0, none⟩ = some (.slice (some ⟨b, off, none⟩) ls.length cap)) (hc : ∀ j, j < ls.length → w.cell? ⟨b, off + j * 2, none⟩ = some (.int .i64 (pt ls j).x) ∧ w.cell? ⟨b, off + j * 2 + 1, none⟩ = some (.int .i64 (pt ls j).y)) :
    SeqStopsK F n Try.prog 136 #[.pointer (some ⟨Bs, 0, none⟩)] edgA (KpE n₀ Bs) (fun ys => ys = egs ls) (fun pre => pre <+: egs ls) ls.length w := fun l J Jx W hW hJ _ hY h0 => by
  have hbw : b < w.heap.size := Nat.lt_of_lt_of_le hb hn0
  refine (edges1_in F n h136 hro hn l Bs n₀ b off cap ls hlen hb J Jx W hJ (Nat.le_trans hn0 hW.size) hY ((hW.cell (p := ⟨Bs, 0, none⟩) hBs).trans hBc)
    (fun j hj => ⟨(hW.cell (p := ⟨b, off + j * 2, none⟩) hbw).trans (hc j hj).1, (hW.cell (p := ⟨b, off + j * 2 + 1, none⟩) hbw).trans (hc j hj).2⟩) h0).mono ?_
  rintro e W' ⟨he, ⟨ys, rfl, hj⟩ | ⟨pre, ⟨k, hk, rfl⟩, hj⟩⟩
  · exact ⟨he, .inl ⟨_, rfl, hj⟩⟩
  · exact ⟨he, .inr ⟨_, upto_all _ _ _ hk, hj⟩⟩
theorem kpE_t {n Bs : Nat} : ∀ {A B C : World}, KpE n Bs A B → KpE n Bs B C → KpE n Bs A C := fun h k => h.trans k
theorem kpE_b {w : World} {n Bs : Nat} (hn : n ≤ w.heap.size) (hB : Bs < w.heap.size) : ∀ (W : World) (l : Nat) (o o' : Obj), w.heap.size ≤ l → W.heap[l]? = some o → o.isCells = false → o.isWalk = false → KpE n Bs W (W.putObj l o') := fun W l o o' hl ho h1 h2 =>
  have hb := belowK_b (n₀ := w.heap.size) (w := w) (Nat.le_refl _) W l o o' hl ho h1 h2
  ⟨hb.mono hn, fun _ h => (hb.cell (p := ⟨Bs, 0, none⟩) hB).trans h⟩
theorem Cs.own {W W' : World} {row : Option Nat} (hg : W.grownBy W' row) (hr : ∀ r, row = some r → ∃ o : Obj, W.heap[r]? = some o ∧ o.isCells = false) : ∀ {l : List (Nat × Nat × Value)}, Cs W l → Cs W' l
  | [], _ => trivial
  | _ :: _, h => ⟨⟨Nat.lt_of_lt_of_le h.1.1 hg.size, cell_kept h.1.2.1 hg hr, (frozen_kept h.1.2.1 hg hr).trans h.1.2.2⟩, Cs.own hg hr h.2⟩
theorem cs_ownFrom {β : Type} (B : Nat) (L : β → List (Nat × Nat × Value)) : OwnFrom B (fun s W => Cs W (L s)) := fun _ _ _ _ h hg hr => Cs.own hg (fun r e => (hr r e).2) h
theorem setCell_frozen (W : World) (b o k u : Nat) (v : Value) : (W.setCell ⟨b, o, none⟩ v).frozen? ⟨k, u, none⟩ = W.frozen? ⟨k, u, none⟩ := by rw [World.frozen?_setCell]
theorem size_setCell (W : World) (b o : Nat) (v : Value) : (W.setCell ⟨b, o, none⟩ v).heap.size = W.heap.size := by simp
/-- A store into the first cell of a list. -/
theorem Cs.set1 {W : World} {b o : Nat} {u v : Value} (h : Cs W [(b, o, u)]) : Cs (W.setCell ⟨b, o, none⟩ v) [(b, o, v)] :=
  ⟨⟨by rw [size_setCell]; exact h.1.1, World.cell?_setCell_same' _ _ _ (by rw [h.1.2.1]; rfl), by rw [setCell_frozen]; exact h.1.2.2⟩, trivial⟩
/-- A store into another block. -/
theorem Cs.far {W : World} {b o : Nat} {v : Value} : ∀ {l : List (Nat × Nat × Value)}, (∀ x ∈ l, x.1 ≠ b) → Cs W l → Cs (W.setCell ⟨b, o, none⟩ v) l
  | [], _, _ => trivial
  | (k, u, x) :: l, hf, h => ⟨⟨by rw [size_setCell]; exact h.1.1, by rw [World.cell?_setCell_other _ _ _ _ (fun e => hf (k, u, x) List.mem_cons_self (by injection e with e1; exact e1.symm))]; exact h.1.2.1, by rw [setCell_frozen]; exact h.1.2.2⟩, Cs.far (fun y hy => hf y (List.mem_cons_of_mem _ hy)) h.2⟩
theorem KpE.set {n Bs : Nat} {W : World} {b o : Nat} (v : Value) (hn : n ≤ b) (hB : Bs ≠ b) : KpE n Bs W (W.setCell ⟨b, o, none⟩ v) :=
  ⟨(Below.refl n W).setCell (p := ⟨b, o, none⟩) hn v, fun _ h => by rw [World.cell?_setCell_other _ _ _ _ (fun e => hB (by injection e with e1; exact e1.symm))]; exact h⟩
theorem KpE.of {n Bs : Nat} {W W' : World} (hb : Below W.heap.size W W') (hn : n ≤ W.heap.size) : KpE n Bs W W' :=
  ⟨hb.mono hn, fun _ h => (hb.cell (p := ⟨Bs, 0, none⟩) (World.block_lt_of_cell? W _ h)).trans h⟩
theorem pts_cells {W : World} {p : Option Addr} {l : List Pt} (h : PtsAt W p l) (hl : 0 < l.length) : ∃ b o, p = some ⟨b, o, none⟩ ∧ b < W.heap.size ∧ ∀ j, j < l.length → W.cell? ⟨b, o + j * 2, none⟩ = some (.int .i64 (pt l j).x) ∧ W.cell? ⟨b, o + j * 2 + 1, none⟩ = some (.int .i64 (pt l j).y) := by
  rcases h with rfl | ⟨b, o, e, hb, hc⟩
  · exact absurd hl (by simp)
  · refine ⟨b, o, e, hb, fun j hj => ?_⟩
    have hq : l[j]? = some (pt l j) := by rw [pt, List.getD, List.getElem?_eq_getElem hj]; rfl
    exact hc j _ hq
end Go.Proofs.Ytdefpcjlbganpaa
