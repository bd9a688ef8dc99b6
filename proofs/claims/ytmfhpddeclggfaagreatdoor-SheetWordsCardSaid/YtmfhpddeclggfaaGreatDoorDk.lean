import Derived.Test.YtmfhpddeclggfaaGreatDoorWl
import Derived.Test.YtmfhpddeclggfaaGreatDoorFam
import Derived.Laws.StructEq
import Derived.MapKept
import Derived.WideKeyRuns
import Derived.Maps.Own
import Derived.WalkKit
import Derived.LoopTactic
import Derived.WalkSpells
import Derived.WalkLawsBesides
import Derived.Lib.Hide
import Derived.BigQuiet
import Derived.IntWalk
import Derived.Deep.DeepMust
import Derived.WalkSmall
import Derived.StillTailTactics
import Derived.Deep.RegionLaw
import Derived.Deep.QuietTactic
import Derived.Deep.RegionHeld3
import Derived.Deep.AppendLies
namespace Go.Proofs.YtmfhpddeclggfaaGreatDoor
open Go.RowKit
/-- The desk, as it lies. -/
structure Desk (W : World) (D M : Nat) (last : Int) (R : Nat → Value) (L : List Ent) : Prop where
  c0 : W.cell? ⟨D, 0, none⟩ = some (.int .i64 last)
  cr : ∀ n, n ≤ 400 → W.cell? ⟨D, 1 + n, none⟩ = some (R n)
  cm : W.cell? ⟨D, 402, none⟩ = some (.map (some M))
  fz : ∀ o, W.frozen? ⟨D, o, none⟩ = false
  mp : MapIs W M L
theorem new_set (W : World) (a : Addr) (v : Value) (cs : Array Value) (e : TypeId) (k : Nat) (u : Value) (h : cs.toList[k]? = some u) : ((W.setCell a v).alloc (.cells cs e)).cell? ⟨W.heap.size, k, none⟩ = some u := by
  have := cells_new (W.setCell a v) cs e k u h
  rw [World.size_setCell, show (⟨W.heap.size, 0, none⟩ : Addr).add k = ⟨W.heap.size, k, none⟩ from by simp [Addr.add]; omega] at this
  exact this
theorem grownBy_setCellAt (W : World) (b o : Nat) (v : Value) : W.grownBy (W.setCell ⟨b, o, none⟩ v) (some b) :=
  ⟨rfl, rfl, rfl, (KeepsWalks.setCell W _ v).size, fun k _ hk => Below.heap_setCell _ _ _ k (fun e => hk (by rw [e]))⟩
theorem nw_at (w : World) (C : Array Value) (e : TypeId) (o : Nat) (u : Value) (h : C.toList[o]? = some u) : (w.alloc (.cells C e)).cell? ⟨w.heap.size, o, none⟩ = some u := by
  have := cells_new w C e o u h
  rwa [show (⟨w.heap.size, 0, none⟩ : Addr).add o = ⟨w.heap.size, o, none⟩ from by simp [Addr.add]; omega] at this
theorem desk_ne {W : World} {D M : Nat} {last : Int} {R : Nat → Value} {L : List Ent} (h : Desk W D M last R L) : D ≠ M := by
  intro e
  obtain ⟨es, clock, hm, -⟩ := h.mp
  have := h.c0
  rw [← e] at hm
  simp [World.cell?, hm] at this
theorem MapIs.grown {W W' : World} {M : Nat} {L : List Ent} {row : Option Nat} (h : MapIs W M L) (hg : W.grownBy W' row) (hr : row ≠ some M) : MapIs W' M L := by
  obtain ⟨es, clock, hm, hL⟩ := h
  exact ⟨es, clock, (hg.block M (Array.getElem?_eq_some_iff.1 hm).1 (fun e => hr e.symm)).trans hm, hL⟩
theorem Desk.grown {W W' : World} {D M : Nat} {last : Int} {R : Nat → Value} {L : List Ent} {row : Option Nat} (h : Desk W D M last R L) (hg : W.grownBy W' row) (h1 : row ≠ some D) (h2 : row ≠ some M) : Desk W' D M last R L := by
  have hD : D < W.heap.size := World.block_lt_of_cell? W ⟨D, 0, none⟩ h.c0
  have hb := hg.block D hD (fun e => h1 e.symm)
  exact ⟨(World.cell?_of_block (a := ⟨D, 0, none⟩) hb).trans h.c0, fun n hn => (World.cell?_of_block (a := ⟨D, 1 + n, none⟩) hb).trans (h.cr n hn), (World.cell?_of_block (a := ⟨D, 402, none⟩) hb).trans h.cm, fun o => (World.frozen?_of_block (a := ⟨D, o, none⟩) hb).trans (h.fz o), h.mp.grown hg h2⟩
theorem Desk.max {W : World} {D M : Nat} {last : Int} {R : Nat → Value} {L : List Ent} (h : Desk W D M last R L) (x : Int) : Desk (W.setCell ⟨D, 0, none⟩ (.int .i64 x)) D M x R L := by
  refine ⟨World.cell?_setCell_same _ _ _ h.c0, fun n hn => ?_, ?_, fun o => ?_, h.mp.grown (grownBy_setCell' W D _) (fun e => desk_ne h (Option.some.inj e))⟩
  · rw [World.cell?_setCell_other _ _ _ _ (addr_ne (by omega))]; exact h.cr n hn
  · rw [World.cell?_setCell_other _ _ _ _ (addr_ne (by omega))]; exact h.cm
  · rw [World.frozen?_setCell]; exact h.fz o
theorem Desk.row {W : World} {D M : Nat} {last : Int} {R : Nat → Value} {L : List Ent} (h : Desk W D M last R L) (n : Nat) (hn : n ≤ 400) (v : Value) : Desk (W.setCell ⟨D, 1 + n, none⟩ v) D M last (fun j => if j = n then v else R j) L := by
  refine ⟨?_, fun m hm => ?_, ?_, fun o => ?_, h.mp.grown (grownBy_setCellAt W D (1 + n) v) (fun e => desk_ne h (Option.some.inj e))⟩
  · rw [World.cell?_setCell_other _ _ _ _ (addr_ne (by omega))]; exact h.c0
  · by_cases e : m = n
    · subst e
      simp only [if_true]
      exact World.cell?_setCell_same _ _ _ (h.cr m hm)
    · rw [World.cell?_setCell_other _ _ _ _ (addr_ne (by omega)), if_neg e]; exact h.cr m hm
  · rw [World.cell?_setCell_other _ _ _ _ (addr_ne (by omega))]; exact h.cm
  · rw [World.frozen?_setCell]; exact h.fz o
theorem grown_al (W : World) (o : Obj) : W.grownBy (W.alloc o) none := World.grownBy_alloc W o none
theorem grown_dr (W : World) : W.grownBy W.drew none := ⟨rfl, rfl, rfl, Nat.le_refl _, fun _ _ _ => rfl⟩
theorem grown_tr {A B C : World} {r : Option Nat} (h : A.grownBy B r) (k : B.grownBy C r) : A.grownBy C r := ⟨k.os.trans h.os, k.tape.trans h.tape, k.output.trans h.output, Nat.le_trans h.size k.size, fun i hi hne => (k.block i (Nat.lt_of_lt_of_le hi h.size) hne).trans (h.block i hi hne)⟩
theorem grown_wk {A B : World} {r : Option Nat} (h : A.grownBy B none) : A.grownBy B r := ⟨h.os, h.tape, h.output, h.size, fun i hi _ => h.block i hi (by simp)⟩
theorem cell_al {W : World} {b o : Nat} {v : Value} (h : W.cell? ⟨b, o, none⟩ = some v) (x : Obj) : (W.alloc x).cell? ⟨b, o, none⟩ = some v := (grown_al W x).cell h (by simp)
/-- The world behind the first steps of add. -/
theorem ad_w5 (W : World) (D M : Nat) (last x : Int) (R : Nat → Value) (L : List Ent) (n : Int) (t : ByteArray) (hd : Desk W D M last R L) :
    ∃ W5, (((W.setCell ⟨D, 0, none⟩ (.int .i64 x)).alloc (.cells #[.int .i64 n, .string t, .bool true] 224)).alloc (.cells #[.int .i64 n, .string t] 242)).drew = W5 ∧ W5.heap.size = W.heap.size + 2 ∧ W.grownBy W5 (some D) ∧ Desk W5 D M x R L ∧
      W5.cell? ⟨W.heap.size, 0, none⟩ = some (.int .i64 n) ∧ W5.cell? ⟨W.heap.size + 1, 0, none⟩ = some (.int .i64 n) ∧ W5.cell? ⟨W.heap.size + 1, 1, none⟩ = some (.string t) := by
  have h6 : ∀ (V : World) (j : Nat) (u : Value), (#[Value.int .i64 n, .string t] : Array Value).toList[j]? = some u → V.heap.size = W.heap.size + 1 → (V.alloc (.cells #[.int .i64 n, .string t] 242)).cell? ⟨W.heap.size + 1, j, none⟩ = some u := by
    intro V j u hu hV
    have := nw_at V _ 242 j u hu
    rwa [hV] at this
  refine ⟨_, rfl, by simp, ?_, ?_, ?_, ?_, ?_⟩
  · exact grown_tr (grown_tr (grown_tr (grownBy_setCell' W D _) (grown_wk (grown_al _ _))) (grown_wk (grown_al _ _))) (grown_wk (grown_dr _))
  · exact (((hd.max x).grown (grown_al _ _) (by simp) (by simp)).grown (grown_al _ _) (by simp) (by simp)).grown (grown_dr _) (by simp) (by simp)
  · exact cell_al (new_set W _ _ _ _ 0 _ rfl) _
  · exact h6 _ 0 _ rfl (by simp)
  · exact h6 _ 1 _ rfl (by simp)
end Go.Proofs.YtmfhpddeclggfaaGreatDoor
