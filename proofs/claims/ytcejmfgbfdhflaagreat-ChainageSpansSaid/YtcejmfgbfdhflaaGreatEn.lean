import Derived.Test.YtcejmfgbfdhflaaGreatQd
import Derived.WalkKit
import Derived.LoopTactic
import Derived.WalkSpells
import Derived.WalkLawsBesides
import Derived.Lib.Hide
import Derived.BigQuiet
import Derived.IntWalk
import Derived.Deep.DeepMust
import Derived.WalkSmall
import Derived.StillTailTactics
import Derived.Deep.RegionLaw
import Derived.Deep.RegionHeld3
import Derived.Deep.QuietTactic
namespace Go.Proofs.YtcejmfgbfdhflaaGreat
open Go.RowKit Go.BigFrame Go.Sort
attribute [local go_sem] World.cell?_alloc_some
/-- Cells that hold this. -/
def Cs0 (W : World) : List (Nat × Nat × Value) → Prop
  | [] => True
  | [x] => W.cell? ⟨x.1, x.2.1, none⟩ = some x.2.2
  | x :: y :: r => W.cell? ⟨x.1, x.2.1, none⟩ = some x.2.2 ∧ Cs0 W (y :: r)
theorem Cs0.of {W W' : World} : ∀ {L : List (Nat × Nat × Value)}, (∀ x ∈ L, W'.cell? ⟨x.1, x.2.1, none⟩ = W.cell? ⟨x.1, x.2.1, none⟩) → Cs0 W L → Cs0 W' L
  | [], _, _ => trivial
  | [x], h, k => by
    have : W.cell? ⟨x.1, x.2.1, none⟩ = some x.2.2 := k
    show W'.cell? ⟨x.1, x.2.1, none⟩ = some x.2.2
    rw [h x (by simp), this]
  | x :: y :: r, h, k => by
    refine ⟨?_, Cs0.of (fun z hz => h z (List.mem_cons_of_mem _ hz)) k.2⟩
    rw [h x (by simp)]; exact k.1
theorem hStart {V : World} {L : List (Nat × Nat × Value)} (hb : ∀ x ∈ L, x.1 < V.heap.size) (h : Cs0 V L) : Cs0 V.drew L ∧ Below V.heap.size V V.drew :=
  ⟨Cs0.of (fun x hx => (below_dr V).cell (p := ⟨x.1, x.2.1, none⟩) (hb x hx)) h, below_dr V⟩
theorem hCall {V : World} {L : List (Nat × Nat × Value)} (hb : ∀ x ∈ L, x.1 < V.heap.size) {W W' : World} (hg : Below W.heap.size W W') (h : Cs0 W L ∧ Below V.heap.size V W) : Cs0 W' L ∧ Below V.heap.size V W' :=
  ⟨Cs0.of (fun x hx => hg.cell (p := ⟨x.1, x.2.1, none⟩) (Nat.lt_of_lt_of_le (hb x hx) h.2.size)) h.1, h.2.trans (hg.mono h.2.size)⟩
theorem hSet2 {V : World} {L : List (Nat × Nat × Value)} (hb : ∀ x ∈ L, x.1 < V.heap.size) {W : World} {k : Nat} {v0 v1 : Value} (hk : V.heap.size ≤ k) (h : Cs0 W L ∧ Below V.heap.size V W) :
    Cs0 ((W.setCell ⟨k, 0, none⟩ v0).setCell ⟨k, 1, none⟩ v1) L ∧ Below V.heap.size V ((W.setCell ⟨k, 0, none⟩ v0).setCell ⟨k, 1, none⟩ v1) :=
  ⟨Cs0.of (fun x hx => (set2 (Below.refl V.heap.size W) hk v0 v1).cell (p := ⟨x.1, x.2.1, none⟩) (hb x hx)) h.1, set2 h.2 hk _ _⟩
theorem hAl2 {V : World} {L : List (Nat × Nat × Value)} (hb : ∀ x ∈ L, x.1 < V.heap.size) {W : World} {o o' : Obj} (hk : V.heap.size ≤ W.heap.size) (h : Cs0 (W.alloc o) L ∧ Below V.heap.size V (W.alloc o)) :
    Cs0 (W.alloc o') L ∧ Below V.heap.size V (W.alloc o') := by
  obtain ⟨h1, h0⟩ := h
  have hA := below_al W o
  have hB := below_al W o'
  exact ⟨Cs0.of (fun x hx => (hB.cell (p := ⟨x.1, x.2.1, none⟩) (Nat.lt_of_lt_of_le (hb x hx) hk)).trans (hA.cell (p := ⟨x.1, x.2.1, none⟩) (Nat.lt_of_lt_of_le (hb x hx) hk)).symm) h1,
    ⟨h0.os.trans (by simp), h0.tape.trans (by simp), h0.output.trans (by simp), by have := h0.size; simp at this ⊢; omega, fun i hi => by have e1 := hA.block i (by omega); have e2 := hB.block i (by omega); rw [e2, ← e1]; exact h0.block i hi⟩⟩
theorem hSize {V : World} {L : List (Nat × Nat × Value)} {W W' : World} (h : Cs0 W L ∧ Below V.heap.size V W) (hg : Below W.heap.size W W') : V.heap.size ≤ W'.heap.size := Nat.le_trans h.2.size hg.size
theorem new2 {W W' : World} {a b : Value} {e : TypeId} (hb : Below (W.alloc (.cells #[a, b] e)).heap.size (W.alloc (.cells #[a, b] e)) W') :
    (W'.cell? ⟨W.heap.size, 0, none⟩ = some a ∧ W'.frozen? ⟨W.heap.size, 0, none⟩ = false) ∧ (W'.cell? ⟨W.heap.size, 1, none⟩ = some b ∧ W'.frozen? ⟨W.heap.size, 1, none⟩ = false) := by
  obtain ⟨⟨h0, r1, z1⟩, ⟨_, r2, z2⟩, _⟩ := (cs_blk W #[a, b] e _ 0 rfl).keep hb
  exact ⟨⟨r1, z1⟩, ⟨r2, z2⟩⟩
theorem new2d {W W' : World} {a b : Value} {e : TypeId} (hb : Below (W.alloc (.cells #[a, b] e)).drew.heap.size (W.alloc (.cells #[a, b] e)).drew W') :
    (W'.cell? ⟨W.heap.size, 0, none⟩ = some a ∧ W'.frozen? ⟨W.heap.size, 0, none⟩ = false) ∧ (W'.cell? ⟨W.heap.size, 1, none⟩ = some b ∧ W'.frozen? ⟨W.heap.size, 1, none⟩ = false) := new2 ((below_dr _).trans hb)
/-- What a region leaves that has made a variable of two numbers: grown, and the variable is new. -/
def Made2 (V W : World) (k : Nat) (p q : Value) : Prop := Below V.heap.size V W ∧ V.heap.size ≤ k ∧ Cs W [(k, 0, p), (k, 1, q)]
theorem made2_al {V W : World} {L : List (Nat × Nat × Value)} {p q : Value} {e : TypeId} (hk : V.heap.size ≤ W.heap.size) (h : Cs0 (W.alloc (.cells #[p, q] e)) L ∧ Below V.heap.size V (W.alloc (.cells #[p, q] e))) : Made2 V (W.alloc (.cells #[p, q] e)) W.heap.size p q :=
  ⟨h.2, hk, (cs_blk W #[p, q] e _ 0 rfl).1, (cs_blk W #[p, q] e _ 0 rfl).2.1, trivial⟩
theorem made2_set {V W : World} {L : List (Nat × Nat × Value)} {k : Nat} {p q u v : Value} (hk : V.heap.size ≤ k) (hlt : k < W.heap.size) (h0 : W.cell? ⟨k, 0, none⟩ = some u ∧ W.frozen? ⟨k, 0, none⟩ = false) (h1 : W.cell? ⟨k, 1, none⟩ = some v ∧ W.frozen? ⟨k, 1, none⟩ = false)
    (h : Cs0 ((W.setCell ⟨k, 0, none⟩ p).setCell ⟨k, 1, none⟩ q) L ∧ Below V.heap.size V ((W.setCell ⟨k, 0, none⟩ p).setCell ⟨k, 1, none⟩ q)) : Made2 V ((W.setCell ⟨k, 0, none⟩ p).setCell ⟨k, 1, none⟩ q) k p q := by
  have hc : Cs W [(k, 0, u), (k, 1, v)] := ⟨⟨hlt, h0⟩, ⟨hlt, h1⟩, trivial⟩
  have := (hc.upd (b := k) (o := 0) (u := p)).upd (b := k) (o := 1) (u := q)
  exact ⟨h.2, hk, by simpa using this⟩
theorem St.made2 {w V W : World} {L : List (Nat × Nat × Value)} {k : Nat} {p q : Value} (h : St w V L) (hm : Made2 V W k p q) : St w W ((k, 0, p) :: (k, 1, q) :: L) :=
  ⟨h.b.trans (hm.1.mono h.b.size), ⟨hm.2.2.1, hm.2.2.2.1, h.c.keep hm.1⟩⟩
end Go.Proofs.YtcejmfgbfdhflaaGreat
