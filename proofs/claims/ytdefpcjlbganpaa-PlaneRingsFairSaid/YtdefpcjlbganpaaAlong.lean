import Derived.Test.YtdefpcjlbganpaaMeet
import Derived.WalkKit
import Derived.LoopTactic
import Derived.WalkSpells
import Derived.WalkLawsBesides
import Derived.Lib.Hide
import Derived.BigQuiet
import Derived.IntWalk
import Derived.Deep.DeepMust
import Derived.WalkSmall
import Derived.StillTailTactics
import Derived.Deep.RegionLaw
import Derived.Deep.RegionHeld3
import Derived.Deep.QuietTactic
namespace Go.Proofs.Ytdefpcjlbganpaa
open Go.RowKit Go.BigFrame
def alongOf : Option Bx → Int
  | none => 0
  | some c => if sgl c then 1 else 3
/-- How two segments of a line meet. -/
def mtAlong (s t : Sg) : Int := alongOf (meetB (bxOf s) (bxOf t))
theorem new4 {W W' : World} {a b c d : Value} {e : TypeId} (hb : Below (W.alloc (.cells #[a, b, c, d] e)).heap.size (W.alloc (.cells #[a, b, c, d] e)) W') :
    (W'.cell? ⟨W.heap.size, 0, none⟩ = some a ∧ W'.frozen? ⟨W.heap.size, 0, none⟩ = false) ∧ (W'.cell? ⟨W.heap.size, 1, none⟩ = some b ∧ W'.frozen? ⟨W.heap.size, 1, none⟩ = false) ∧
    (W'.cell? ⟨W.heap.size, 2, none⟩ = some c ∧ W'.frozen? ⟨W.heap.size, 2, none⟩ = false) ∧ (W'.cell? ⟨W.heap.size, 3, none⟩ = some d ∧ W'.frozen? ⟨W.heap.size, 3, none⟩ = false) ∧ W.heap.size < W'.heap.size := by
  have S := (((St.nil W).box4 a b c d e _ rfl).next hb).c
  obtain ⟨⟨h0, h1⟩, ⟨_, h2⟩, ⟨_, h3⟩, ⟨_, h4⟩, _⟩ := S
  exact ⟨h1, h2, h3, h4, h0⟩
theorem below_ald (W : World) (o : Obj) : Below W.drew.heap.size W.drew (W.alloc o).drew := by
  have h := below_al W o
  exact ⟨h.os, h.tape, h.output, h.size, h.block⟩
theorem new4d {W W' : World} {a b c d : Value} {e : TypeId} (hb : Below (W.alloc (.cells #[a, b, c, d] e)).drew.heap.size (W.alloc (.cells #[a, b, c, d] e)).drew W') :
    (W'.cell? ⟨W.heap.size, 0, none⟩ = some a ∧ W'.frozen? ⟨W.heap.size, 0, none⟩ = false) ∧ (W'.cell? ⟨W.heap.size, 1, none⟩ = some b ∧ W'.frozen? ⟨W.heap.size, 1, none⟩ = false) ∧
    (W'.cell? ⟨W.heap.size, 2, none⟩ = some c ∧ W'.frozen? ⟨W.heap.size, 2, none⟩ = false) ∧ (W'.cell? ⟨W.heap.size, 3, none⟩ = some d ∧ W'.frozen? ⟨W.heap.size, 3, none⟩ = false) ∧ W.heap.size < W'.heap.size :=
  new4 ((Below.refl _ _).drew.trans hb)
theorem keep4 {W W' : World} {a b c d : Value} {k : Nat} (hb : Below W.heap.size W W')
    (h : (W.cell? ⟨k, 0, none⟩ = some a ∧ W.frozen? ⟨k, 0, none⟩ = false) ∧ (W.cell? ⟨k, 1, none⟩ = some b ∧ W.frozen? ⟨k, 1, none⟩ = false) ∧
    (W.cell? ⟨k, 2, none⟩ = some c ∧ W.frozen? ⟨k, 2, none⟩ = false) ∧ (W.cell? ⟨k, 3, none⟩ = some d ∧ W.frozen? ⟨k, 3, none⟩ = false) ∧ k < W.heap.size) :
    (W'.cell? ⟨k, 0, none⟩ = some a ∧ W'.frozen? ⟨k, 0, none⟩ = false) ∧ (W'.cell? ⟨k, 1, none⟩ = some b ∧ W'.frozen? ⟨k, 1, none⟩ = false) ∧
    (W'.cell? ⟨k, 2, none⟩ = some c ∧ W'.frozen? ⟨k, 2, none⟩ = false) ∧ (W'.cell? ⟨k, 3, none⟩ = some d ∧ W'.frozen? ⟨k, 3, none⟩ = false) ∧ k < W'.heap.size := by
  obtain ⟨⟨h1, g1⟩, ⟨h2, g2⟩, ⟨h3, g3⟩, ⟨h4, g4⟩, h5⟩ := h
  exact ⟨⟨(hb.cell (p := ⟨k, 0, none⟩) h5).trans h1, (hb.frozen (p := ⟨k, 0, none⟩) h5).trans g1⟩, ⟨(hb.cell (p := ⟨k, 1, none⟩) h5).trans h2, (hb.frozen (p := ⟨k, 1, none⟩) h5).trans g2⟩,
    ⟨(hb.cell (p := ⟨k, 2, none⟩) h5).trans h3, (hb.frozen (p := ⟨k, 2, none⟩) h5).trans g3⟩, ⟨(hb.cell (p := ⟨k, 3, none⟩) h5).trans h4, (hb.frozen (p := ⟨k, 3, none⟩) h5).trans g4⟩, Nat.lt_of_lt_of_le h5 hb.size⟩
theorem keepGG {w : World} {s t : Sg} {W W' : World} (hb : Below W.heap.size W W')
    (h : W.cell? ⟨w.heap.size, 0, none⟩ = some (.int .i64 s.a.x) ∧ W.cell? ⟨w.heap.size, 1, none⟩ = some (.int .i64 s.a.y) ∧ W.cell? ⟨w.heap.size, 2, none⟩ = some (.int .i64 s.b.x) ∧ W.cell? ⟨w.heap.size, 3, none⟩ = some (.int .i64 s.b.y) ∧
      W.cell? ⟨w.heap.size + 1, 0, none⟩ = some (.int .i64 t.a.x) ∧ W.cell? ⟨w.heap.size + 1, 1, none⟩ = some (.int .i64 t.a.y) ∧ W.cell? ⟨w.heap.size + 1, 2, none⟩ = some (.int .i64 t.b.x) ∧ W.cell? ⟨w.heap.size + 1, 3, none⟩ = some (.int .i64 t.b.y) ∧ w.heap.size + 1 < W.heap.size ∧ Below w.heap.size w W) :
    W'.cell? ⟨w.heap.size, 0, none⟩ = some (.int .i64 s.a.x) ∧ W'.cell? ⟨w.heap.size, 1, none⟩ = some (.int .i64 s.a.y) ∧ W'.cell? ⟨w.heap.size, 2, none⟩ = some (.int .i64 s.b.x) ∧ W'.cell? ⟨w.heap.size, 3, none⟩ = some (.int .i64 s.b.y) ∧
      W'.cell? ⟨w.heap.size + 1, 0, none⟩ = some (.int .i64 t.a.x) ∧ W'.cell? ⟨w.heap.size + 1, 1, none⟩ = some (.int .i64 t.a.y) ∧ W'.cell? ⟨w.heap.size + 1, 2, none⟩ = some (.int .i64 t.b.x) ∧ W'.cell? ⟨w.heap.size + 1, 3, none⟩ = some (.int .i64 t.b.y) ∧ w.heap.size + 1 < W'.heap.size ∧ Below w.heap.size w W' := by
  obtain ⟨h1, h2, h3, h4, h5, h6, h7, h8, h9, h0⟩ := h
  have g9 : w.heap.size < W.heap.size := by omega
  exact ⟨(hb.cell (p := ⟨w.heap.size, 0, none⟩) g9).trans h1, (hb.cell (p := ⟨w.heap.size, 1, none⟩) g9).trans h2, (hb.cell (p := ⟨w.heap.size, 2, none⟩) g9).trans h3, (hb.cell (p := ⟨w.heap.size, 3, none⟩) g9).trans h4,
    (hb.cell (p := ⟨w.heap.size + 1, 0, none⟩) h9).trans h5, (hb.cell (p := ⟨w.heap.size + 1, 1, none⟩) h9).trans h6, (hb.cell (p := ⟨w.heap.size + 1, 2, none⟩) h9).trans h7, (hb.cell (p := ⟨w.heap.size + 1, 3, none⟩) h9).trans h8, Nat.lt_of_lt_of_le h9 hb.size, h0.trans (hb.mono h0.size)⟩
theorem boundGG {w : World} {s t : Sg} {W W' : World} (hb : Below W.heap.size W W')
    (h : W.cell? ⟨w.heap.size, 0, none⟩ = some (.int .i64 s.a.x) ∧ W.cell? ⟨w.heap.size, 1, none⟩ = some (.int .i64 s.a.y) ∧ W.cell? ⟨w.heap.size, 2, none⟩ = some (.int .i64 s.b.x) ∧ W.cell? ⟨w.heap.size, 3, none⟩ = some (.int .i64 s.b.y) ∧
      W.cell? ⟨w.heap.size + 1, 0, none⟩ = some (.int .i64 t.a.x) ∧ W.cell? ⟨w.heap.size + 1, 1, none⟩ = some (.int .i64 t.a.y) ∧ W.cell? ⟨w.heap.size + 1, 2, none⟩ = some (.int .i64 t.b.x) ∧ W.cell? ⟨w.heap.size + 1, 3, none⟩ = some (.int .i64 t.b.y) ∧ w.heap.size + 1 < W.heap.size ∧ Below w.heap.size w W) :
    w.heap.size + 1 < W'.heap.size := Nat.lt_of_lt_of_le h.2.2.2.2.2.2.2.2.1 hb.size
theorem setGG {w : World} {s t : Sg} {W : World} {k : Nat} {v1 v2 v3 v4 : Value} (hk : w.heap.size + 1 < k)
    (h : W.cell? ⟨w.heap.size, 0, none⟩ = some (.int .i64 s.a.x) ∧ W.cell? ⟨w.heap.size, 1, none⟩ = some (.int .i64 s.a.y) ∧ W.cell? ⟨w.heap.size, 2, none⟩ = some (.int .i64 s.b.x) ∧ W.cell? ⟨w.heap.size, 3, none⟩ = some (.int .i64 s.b.y) ∧
      W.cell? ⟨w.heap.size + 1, 0, none⟩ = some (.int .i64 t.a.x) ∧ W.cell? ⟨w.heap.size + 1, 1, none⟩ = some (.int .i64 t.a.y) ∧ W.cell? ⟨w.heap.size + 1, 2, none⟩ = some (.int .i64 t.b.x) ∧ W.cell? ⟨w.heap.size + 1, 3, none⟩ = some (.int .i64 t.b.y) ∧ w.heap.size + 1 < W.heap.size ∧ Below w.heap.size w W) :
    ((((W.setCell ⟨k, 0, none⟩ v1).setCell ⟨k, 1, none⟩ v2).setCell ⟨k, 2, none⟩ v3).setCell ⟨k, 3, none⟩ v4).cell? ⟨w.heap.size, 0, none⟩ = some (.int .i64 s.a.x) ∧ ((((W.setCell ⟨k, 0, none⟩ v1).setCell ⟨k, 1, none⟩ v2).setCell ⟨k, 2, none⟩ v3).setCell ⟨k, 3, none⟩ v4).cell? ⟨w.heap.size, 1, none⟩ = some (.int .i64 s.a.y) ∧ ((((W.setCell ⟨k, 0, none⟩ v1).setCell ⟨k, 1, none⟩ v2).setCell ⟨k, 2, none⟩ v3).setCell ⟨k, 3, none⟩ v4).cell? ⟨w.heap.size, 2, none⟩ = some (.int .i64 s.b.x) ∧ ((((W.setCell ⟨k, 0, none⟩ v1).setCell ⟨k, 1, none⟩ v2).setCell ⟨k, 2, none⟩ v3).setCell ⟨k, 3, none⟩ v4).cell? ⟨w.heap.size, 3, none⟩ = some (.int .i64 s.b.y) ∧
      ((((W.setCell ⟨k, 0, none⟩ v1).setCell ⟨k, 1, none⟩ v2).setCell ⟨k, 2, none⟩ v3).setCell ⟨k, 3, none⟩ v4).cell? ⟨w.heap.size + 1, 0, none⟩ = some (.int .i64 t.a.x) ∧ ((((W.setCell ⟨k, 0, none⟩ v1).setCell ⟨k, 1, none⟩ v2).setCell ⟨k, 2, none⟩ v3).setCell ⟨k, 3, none⟩ v4).cell? ⟨w.heap.size + 1, 1, none⟩ = some (.int .i64 t.a.y) ∧ ((((W.setCell ⟨k, 0, none⟩ v1).setCell ⟨k, 1, none⟩ v2).setCell ⟨k, 2, none⟩ v3).setCell ⟨k, 3, none⟩ v4).cell? ⟨w.heap.size + 1, 2, none⟩ = some (.int .i64 t.b.x) ∧ ((((W.setCell ⟨k, 0, none⟩ v1).setCell ⟨k, 1, none⟩ v2).setCell ⟨k, 2, none⟩ v3).setCell ⟨k, 3, none⟩ v4).cell? ⟨w.heap.size + 1, 3, none⟩ = some (.int .i64 t.b.y) ∧ w.heap.size + 1 < ((((W.setCell ⟨k, 0, none⟩ v1).setCell ⟨k, 1, none⟩ v2).setCell ⟨k, 2, none⟩ v3).setCell ⟨k, 3, none⟩ v4).heap.size ∧ Below w.heap.size w ((((W.setCell ⟨k, 0, none⟩ v1).setCell ⟨k, 1, none⟩ v2).setCell ⟨k, 2, none⟩ v3).setCell ⟨k, 3, none⟩ v4) := by
  obtain ⟨h1, h2, h3, h4, h5, h6, h7, h8, h9, h0⟩ := h
  have hb : Below (w.heap.size + 1 + 1) W ((((W.setCell ⟨k, 0, none⟩ v1).setCell ⟨k, 1, none⟩ v2).setCell ⟨k, 2, none⟩ v3).setCell ⟨k, 3, none⟩ v4) :=
    Below.refl (w.heap.size + 1 + 1) W |>.setCell (p := ⟨k, 0, none⟩) (by exact hk) v1 |>.setCell (p := ⟨k, 1, none⟩) (by exact hk) v2 |>.setCell (p := ⟨k, 2, none⟩) (by exact hk) v3 |>.setCell (p := ⟨k, 3, none⟩) (by exact hk) v4
  have e0 : w.heap.size < w.heap.size + 1 + 1 := by omega
  have e1 : w.heap.size + 1 < w.heap.size + 1 + 1 := by omega
  exact ⟨(hb.cell (p := ⟨w.heap.size, 0, none⟩) e0).trans h1, (hb.cell (p := ⟨w.heap.size, 1, none⟩) e0).trans h2, (hb.cell (p := ⟨w.heap.size, 2, none⟩) e0).trans h3, (hb.cell (p := ⟨w.heap.size, 3, none⟩) e0).trans h4,
    (hb.cell (p := ⟨w.heap.size + 1, 0, none⟩) e1).trans h5, (hb.cell (p := ⟨w.heap.size + 1, 1, none⟩) e1).trans h6, (hb.cell (p := ⟨w.heap.size + 1, 2, none⟩) e1).trans h7, (hb.cell (p := ⟨w.heap.size + 1, 3, none⟩) e1).trans h8, Nat.lt_of_lt_of_le h9 hb.size, h0.trans (hb.mono (by omega))⟩
theorem allocGG {w : World} {s t : Sg} {W : World} {o o' : Obj} (hk : w.heap.size + 1 < W.heap.size)
    (h : (W.alloc o).cell? ⟨w.heap.size, 0, none⟩ = some (.int .i64 s.a.x) ∧ (W.alloc o).cell? ⟨w.heap.size, 1, none⟩ = some (.int .i64 s.a.y) ∧ (W.alloc o).cell? ⟨w.heap.size, 2, none⟩ = some (.int .i64 s.b.x) ∧ (W.alloc o).cell? ⟨w.heap.size, 3, none⟩ = some (.int .i64 s.b.y) ∧ (W.alloc o).cell? ⟨w.heap.size + 1, 0, none⟩ = some (.int .i64 t.a.x) ∧ (W.alloc o).cell? ⟨w.heap.size + 1, 1, none⟩ = some (.int .i64 t.a.y) ∧ (W.alloc o).cell? ⟨w.heap.size + 1, 2, none⟩ = some (.int .i64 t.b.x) ∧ (W.alloc o).cell? ⟨w.heap.size + 1, 3, none⟩ = some (.int .i64 t.b.y) ∧ w.heap.size + 1 < (W.alloc o).heap.size ∧ Below w.heap.size w (W.alloc o)) :
    (W.alloc o').cell? ⟨w.heap.size, 0, none⟩ = some (.int .i64 s.a.x) ∧ (W.alloc o').cell? ⟨w.heap.size, 1, none⟩ = some (.int .i64 s.a.y) ∧ (W.alloc o').cell? ⟨w.heap.size, 2, none⟩ = some (.int .i64 s.b.x) ∧ (W.alloc o').cell? ⟨w.heap.size, 3, none⟩ = some (.int .i64 s.b.y) ∧ (W.alloc o').cell? ⟨w.heap.size + 1, 0, none⟩ = some (.int .i64 t.a.x) ∧ (W.alloc o').cell? ⟨w.heap.size + 1, 1, none⟩ = some (.int .i64 t.a.y) ∧ (W.alloc o').cell? ⟨w.heap.size + 1, 2, none⟩ = some (.int .i64 t.b.x) ∧ (W.alloc o').cell? ⟨w.heap.size + 1, 3, none⟩ = some (.int .i64 t.b.y) ∧ w.heap.size + 1 < (W.alloc o').heap.size ∧ Below w.heap.size w (W.alloc o') := by
  obtain ⟨h1, h2, h3, h4, h5, h6, h7, h8, _, h0⟩ := h
  have hA := below_al W o
  have hB := below_al W o'
  have e0 : w.heap.size < W.heap.size := by omega
  have hw : Below w.heap.size W (W.alloc o') := hB.mono (by omega)
  have hc : ∀ b k, b < W.heap.size → (W.alloc o').cell? ⟨b, k, none⟩ = (W.alloc o).cell? ⟨b, k, none⟩ := fun b k hb => (hB.cell (p := ⟨b, k, none⟩) hb).trans (hA.cell (p := ⟨b, k, none⟩) hb).symm
  exact ⟨(hc _ _ e0).trans h1, (hc _ _ e0).trans h2, (hc _ _ e0).trans h3, (hc _ _ e0).trans h4, (hc _ _ hk).trans h5, (hc _ _ hk).trans h6, (hc _ _ hk).trans h7, (hc _ _ hk).trans h8, Nat.lt_of_lt_of_le hk hB.size,
    ⟨h0.os.trans (by simp), h0.tape.trans (by simp), h0.output.trans (by simp), by have := h0.size; simp at this ⊢; omega, fun i hi => by have e1 := hA.block i (by omega); have e2 := hB.block i (by omega); rw [e2, ← e1]; exact h0.block i hi⟩⟩
theorem startGG {w W : World} {s t : Sg} {l} (h : St w W ((w.heap.size + 1, 0, .int .i64 t.a.x) :: (w.heap.size + 1, 1, .int .i64 t.a.y) :: (w.heap.size + 1, 2, .int .i64 t.b.x) :: (w.heap.size + 1, 3, .int .i64 t.b.y) ::
    (w.heap.size, 0, .int .i64 s.a.x) :: (w.heap.size, 1, .int .i64 s.a.y) :: (w.heap.size, 2, .int .i64 s.b.x) :: (w.heap.size, 3, .int .i64 s.b.y) :: l)) :
    W.cell? ⟨w.heap.size, 0, none⟩ = some (.int .i64 s.a.x) ∧ W.cell? ⟨w.heap.size, 1, none⟩ = some (.int .i64 s.a.y) ∧ W.cell? ⟨w.heap.size, 2, none⟩ = some (.int .i64 s.b.x) ∧ W.cell? ⟨w.heap.size, 3, none⟩ = some (.int .i64 s.b.y) ∧
      W.cell? ⟨w.heap.size + 1, 0, none⟩ = some (.int .i64 t.a.x) ∧ W.cell? ⟨w.heap.size + 1, 1, none⟩ = some (.int .i64 t.a.y) ∧ W.cell? ⟨w.heap.size + 1, 2, none⟩ = some (.int .i64 t.b.x) ∧ W.cell? ⟨w.heap.size + 1, 3, none⟩ = some (.int .i64 t.b.y) ∧ w.heap.size + 1 < W.heap.size ∧ Below w.heap.size w W := by
  obtain ⟨hb, h1, h2, h3, h4, h5, h6, h7, h8, _⟩ := h
  exact ⟨h5.2.1, h6.2.1, h7.2.1, h8.2.1, h1.2.1, h2.2.1, h3.2.1, h4.2.1, h1.1, hb⟩
set_option maxRecDepth 100000 in
set_option maxHeartbeats 4000000 in
theorem meetingAlong_any (s t : Sg) (w : World) :
   Calls Try.prog 89 #[s.v, t.v] w fun e w' => e = .returned (.int .i64 (mtAlong s t)) ∧ Below w.heap.size w w' := by
  have S0 := Lib.hid (startGG (((St.nil w).boxG s 31 _ rfl).boxG t 31 (w.heap.size + 1) (by simp)).dr)
  have KN := fun W W' => Lib.hid (@keepGG w s t W W')
  have C1 := fun W => Lib.hid (boxOf_any s W)
  have C2 := fun W => Lib.hid (boxOf_any t W)
  have C3 := fun W => Lib.hid (Meet_any (bxOf s) (bxOf t) W)
  obtain ⟨A, hA⟩ : ∃ B, Hid (bxOf s = B) := ⟨_, rfl⟩
  obtain ⟨B, hB⟩ : ∃ B, Hid (bxOf t = B) := ⟨_, rfl⟩
  obtain ⟨R, hR⟩ : ∃ X, Hid (meetB A B = X) := ⟨_, rfl⟩
  rw [show mtAlong s t = alongOf R from by rw [mtAlong, hA.out, hB.out, hR.out]]
  simp only [hA.out, hB.out, hR.out] at C1 C2 C3
  obtain ⟨V, hV⟩ : ∃ V, Hid (R.getD bx0 = V) := ⟨_, rfl⟩
  obtain ⟨i, hi⟩ : ∃ i, Hid (R.isSome = i) := ⟨_, rfl⟩
  simp only [bxRes, hV.out, hi.out] at C3
  obtain ⟨M, hM⟩ : ∃ M, Hid (alongOf R = M) := ⟨_, rfl⟩
  rw [hM.out]
  clear hA hB
  go_enter Try.func89, Try.ntmps89
  go_wp2_with fail
  go_region_held3 (fun W => W.cell? ⟨w.heap.size, 0, none⟩ = some (.int .i64 s.a.x) ∧ W.cell? ⟨w.heap.size, 1, none⟩ = some (.int .i64 s.a.y) ∧ W.cell? ⟨w.heap.size, 2, none⟩ = some (.int .i64 s.b.x) ∧ W.cell? ⟨w.heap.size, 3, none⟩ = some (.int .i64 s.b.y) ∧
      W.cell? ⟨w.heap.size + 1, 0, none⟩ = some (.int .i64 t.a.x) ∧ W.cell? ⟨w.heap.size + 1, 1, none⟩ = some (.int .i64 t.a.y) ∧ W.cell? ⟨w.heap.size + 1, 2, none⟩ = some (.int .i64 t.b.x) ∧ W.cell? ⟨w.heap.size + 1, 3, none⟩ = some (.int .i64 t.b.y) ∧ w.heap.size + 1 < W.heap.size ∧ Below w.heap.size w W)
    (first | (with_reducible exact S0.out) | (with_reducible exact (KN _ _).out (by assumption) (by assumption)) | (with_reducible exact (KN _ _).out (below_al _ _) (by assumption)) | (with_reducible exact (KN _ _).out (below_ald _ _) (by assumption)) | (with_reducible exact allocGG (by assumption) (by assumption)) | (with_reducible exact setGG (by first | omega | (simp; omega) | simp) (by assumption)))
    (first
      | (go_at_call 86; with_reducible refine (C1 _).out.mono ?_; rintro e w' ⟨rfl, hb⟩; have hn := boundGG hb (by with_reducible assumption); (first | (with_reducible have hz := keep4 hb hz) | (with_reducible have hz := new4 hb) | (with_reducible have hz := new4d (a := .int .i64 0) (b := .int .i64 0) (c := .int .i64 0) (d := .int .i64 0) hb; simp only [World.size_alloc] at hz) | skip))
      | (go_at_call 86; with_reducible refine (C2 _).out.mono ?_; rintro e w' ⟨rfl, hb⟩; have hn := boundGG hb (by with_reducible assumption); (first | (with_reducible have hz := keep4 hb hz) | (with_reducible have hz := new4 hb) | (with_reducible have hz := new4d (a := .int .i64 0) (b := .int .i64 0) (c := .int .i64 0) (d := .int .i64 0) hb; simp only [World.size_alloc] at hz) | skip))
      | (go_at_call 45; with_reducible refine (C3 _).out.mono ?_; rintro e w' ⟨rfl, hb⟩; have hn := boundGG hb (by with_reducible assumption); (first | (with_reducible have hz := keep4 hb hz) | (with_reducible have hz := new4 hb) | (with_reducible have hz := new4d (a := .int .i64 0) (b := .int .i64 0) (c := .int .i64 0) (d := .int .i64 0) hb; simp only [World.size_alloc] at hz) | skip)))
  all_goals
    obtain ⟨_, _, _, _, _, _, _, _, _, hB⟩ := ‹_ ∧ _ ∧ _ ∧ _ ∧ _ ∧ _ ∧ _ ∧ _ ∧ _ ∧ Below w.heap.size w _›
    have hHB := Lib.hid hB
    clear hB
    cases i
    · have hM1 : M = 0 := by
        rw [← hM.out]
        cases R with
        | none => rfl
        | some c => exact absurd hi.out (by simp)
      subst hM1
      clear hM hi hV
      go_wp2_with fail
      go_ret
      exact ⟨rfl, hHB.out⟩
    · have hM1 : M = if sgl V then 1 else 3 := by
        rw [← hM.out]
        cases R with
        | none => exact absurd hi.out (by simp)
        | some c => have := hV.out; simp only [Option.getD_some] at this; rw [← this]; rfl
      clear hM hi hV
      obtain ⟨v, hv⟩ : ∃ v, sgl V = v := ⟨_, rfl⟩
      have CS := fun W => Lib.hid (single_any V W)
      rw [hv] at hM1 CS
      clear hv
      go_wp2_with fail
      refine (CS _).out.mono ?_
      rintro e w9 ⟨rfl, hb9⟩
      have hF : Hid (Below w.heap.size w w9) := hHB.out.trans (hb9.mono hHB.out.size)
      cases v
      · subst hM1
        go_wp2_with fail
        go_ret
        exact ⟨rfl, hF.out⟩
      · subst hM1
        go_wp2_with fail
        go_ret
        exact ⟨rfl, hF.out⟩
end Go.Proofs.Ytdefpcjlbganpaa
