import Derived.Test.YtmfhpddeclggfaaGreatDoorVIia
import Derived.Test.YtmfhpddeclggfaaGreatDoorTf
import Derived.Test.YtmfhpddeclggfaaGreatDoorVTc
import Derived.Test.YtmfhpddeclggfaaGreatDoorVTa
import Derived.Test.YtmfhpddeclggfaaGreatDoorVIfb
import Derived.Test.YtmfhpddeclggfaaGreatDoorVc
import Derived.Test.YtmfhpddeclggfaaGreatDoorKf
import Derived.Test.YtmfhpddeclggfaaGreatDoorOm
import Derived.Lib.ConvBytes
import Derived.Laws.IdiomStrings
import Derived.WalkKit
import Derived.LoopTactic
import Derived.WalkSpells
import Derived.WalkLawsBesides
import Derived.Lib.Hide
import Derived.BigQuiet
import Derived.IntWalk
import Derived.Deep.DeepMust
import Derived.WalkSmall
import Derived.StillTailTactics
import Derived.Deep.RegionLaw
import Derived.Deep.QuietTactic
import Derived.Deep.Cut
import Derived.Deep.DeepCutAuto
import Derived.Deep.LoopGhost
import Derived.Deep.RegionHeld3
import Derived.Laws.OwnMore
namespace Go.Proofs.YtmfhpddeclggfaaGreatDoor
open Go.RowKit
/-! A box of four rows, and what hangs on them. -/
/-- A block that lies there and is none of the box's. -/
def KpT (w W : World) (rs : Fin 4 → Row) (q : Option Addr) : Prop := ∀ ad, q = some ad → ad.block < W.heap.size ∧ ad.block ≠ w.heap.size ∧ ∀ i, some ad.block ≠ (rs i).v.ownBlock
/-- Bools as they lie. -/
def BoolsAt (W : World) (p : Option Addr) (zs : List Bool) : Prop :=
  zs = [] ∨ ∃ b o, p = some ⟨b, o, none⟩ ∧ b < W.heap.size ∧ ∀ j, j < zs.length → W.cell? ⟨b, o + j, none⟩ = some (.bool (zs.getD j false))
theorem BoolsAt.below {W W' : World} {p : Option Addr} {zs : List Bool} (h : BoolsAt W p zs) (hb : Below W.heap.size W W') : BoolsAt W' p zs := by
  rcases h with h | ⟨b, o, h1, h2, h3⟩
  · exact .inl h
  · exact .inr ⟨b, o, h1, Nat.lt_of_lt_of_le h2 hb.size, fun j hj => (hb.cell (p := ⟨b, o + j, none⟩) h2).trans (h3 j hj)⟩
theorem BoolsAt.keep {W W' : World} {p : Option Addr} {zs : List Bool} (h : BoolsAt W p zs) (hs : W.heap.size ≤ W'.heap.size) (hc : zs = [] ∨ ∀ ad, p = some ad → ∀ o, W'.cell? ⟨ad.block, o, none⟩ = W.cell? ⟨ad.block, o, none⟩) : BoolsAt W' p zs := by
  rcases h with h | ⟨b, o, h1, h2, h3⟩
  · exact .inl h
  · rcases hc with hc | hc
    · exact .inl hc
    · exact .inr ⟨b, o, h1, Nat.lt_of_lt_of_le h2 hs, fun j hj => (hc _ h1 (o + j)).trans (h3 j hj)⟩
theorem StrsAt.keepT {W W' : World} {p : Option Addr} {zs : List ByteArray} (h : StrsAt W p zs) (hs : W.heap.size ≤ W'.heap.size) (hc : zs = [] ∨ ∀ ad, p = some ad → ∀ o, W'.cell? ⟨ad.block, o, none⟩ = W.cell? ⟨ad.block, o, none⟩) : StrsAt W' p zs := by
  rcases h with h | ⟨b, o, h1, h2, h3⟩
  · exact .inl h
  · rcases hc with hc | hc
    · exact .inl hc
    · exact .inr ⟨b, o, h1, Nat.lt_of_lt_of_le h2 hs, fun j hj => (hc _ h1 (o + j)).trans (h3 j hj)⟩
/-- A box of four headers, the rows as they are, and lists of texts and of bools elsewhere. -/
structure TS (w W : World) (vs : Fin 4 → Value) (rs : Fin 4 → Row) (X : List (Option Addr × List ByteArray)) (Y : List (Option Addr × List Bool)) : Prop where
  bel : Below w.heap.size w W
  lt : w.heap.size < W.heap.size
  cell : ∀ i : Fin 4, W.cell? ⟨w.heap.size, i.val, none⟩ = some (vs i)
  fz : ∀ o, W.frozen? ⟨w.heap.size, o, none⟩ = false
  fam : Fam (w.heap.size + 1) rs W
  st : ∀ x ∈ X, StrsAt W x.1 x.2 ∧ (x.2 = [] ∨ KpT w W rs x.1)
  bo : ∀ y ∈ Y, BoolsAt W y.1 y.2 ∧ (y.2 = [] ∨ KpT w W rs y.1)
theorem KpT.size {w W W' : World} {rs : Fin 4 → Row} {q : Option Addr} (h : KpT w W rs q) (hs : W.heap.size ≤ W'.heap.size) : KpT w W' rs q := fun ad e => ⟨Nat.lt_of_lt_of_le (h ad e).1 hs, (h ad e).2⟩
theorem TS.next {w W W' : World} {vs : Fin 4 → Value} {rs : Fin 4 → Row} {X : List (Option Addr × List ByteArray)} {Y : List (Option Addr × List Bool)} (h : TS w W vs rs X Y) (hb : Below W.heap.size W W') : TS w W' vs rs X Y :=
  ⟨h.bel.trans (hb.mono h.bel.size), Nat.lt_of_lt_of_le h.lt hb.size, fun i => (hb.cell (p := ⟨w.heap.size, i.val, none⟩) h.lt).trans (h.cell i), fun o => (hb.frozen (p := ⟨w.heap.size, o, none⟩) h.lt).trans (h.fz o), ⟨fun i => ownsRow_keep (h.fam.own i) hb, h.fam.apart⟩,
    fun x hx => ⟨(h.st x hx).1.below hb, (h.st x hx).2.imp id (fun h => h.size hb.size)⟩, fun x hx => ⟨(h.bo x hx).1.below hb, (h.bo x hx).2.imp id (fun h => h.size hb.size)⟩⟩
theorem TS.own {w W : World} {vs : Fin 4 → Value} {rs : Fin 4 → Row} {X : List (Option Addr × List ByteArray)} {Y : List (Option Addr × List Bool)} (h : TS w W vs rs X Y) (i : Fin 4) : ∀ g, (rs i).v.ownBlock = some g → w.heap.size + 1 ≤ g ∧ g < W.heap.size := fun g e => (h.fam.own i).lt g e
/-- A row has grown. -/
theorem TS.app {w W W' : World} {vs : Fin 4 → Value} {rs : Fin 4 → Row} {X : List (Option Addr × List ByteArray)} {Y : List (Option Addr × List Bool)} (h : TS w W vs rs X Y) (i : Fin 4) (r : Row)
    (hown : W'.ownsRow (w.heap.size + 1) r.e r.k r.v r.n r.xs) (hgr : W.grownBy W' (rs i).v.ownBlock) (hat : r.v.ownBlock = (rs i).v.ownBlock ∨ ∃ x, r.v.ownBlock = some x ∧ W.heap.size ≤ x) :
    TS w W' vs (fun j => if j = i then r else rs j) X Y := by
  have hne : ∀ j, some w.heap.size ≠ (rs j).v.ownBlock := fun j e => by have := (h.own j _ e.symm).1; omega
  have hb : W'.heap[w.heap.size]? = W.heap[w.heap.size]? := hgr.block _ h.lt (hne i)
  have hF := fam_grown2 h.fam i r (W' := W') hgr hown hat
  have hk : ∀ q, KpT w W rs q → KpT w W' (fun j => if j = i then r else rs j) q ∧ ∀ ad, q = some ad → ∀ o, W'.cell? ⟨ad.block, o, none⟩ = W.cell? ⟨ad.block, o, none⟩ := fun q hq => by
    refine ⟨fun ad e => ?_, fun ad e o => ?_⟩
    · obtain ⟨g1, g2, g3⟩ := hq ad e
      refine ⟨Nat.lt_of_lt_of_le g1 hgr.size, g2, fun j => ?_⟩
      dsimp only
      split
      · rcases hat with h3 | ⟨x, h3, h4⟩
        · rw [h3]; exact g3 i
        · rw [h3]; exact fun e2 => by have := Option.some.inj e2; omega
      · exact g3 j
    · obtain ⟨g1, g2, g3⟩ := hq ad e
      exact World.cell?_of_block (a := ⟨ad.block, o, none⟩) (hgr.block _ g1 (g3 i))
  exact ⟨h.bel.grown hgr (Nat.le_of_lt h.lt) (fun k e => by have := (h.own i k e).1; omega), Nat.lt_of_lt_of_le h.lt hgr.size,
    fun j => (World.cell?_of_block (a := ⟨w.heap.size, j.val, none⟩) hb).trans (h.cell j), fun o => (World.frozen?_of_block (a := ⟨w.heap.size, o, none⟩) hb).trans (h.fz o), hF,
    fun x hx => ⟨StrsAt.keepT (h.st x hx).1 hgr.size ((h.st x hx).2.imp id (fun h => (hk _ h).2)), (h.st x hx).2.imp id (fun h => (hk _ h).1)⟩,
    fun x hx => ⟨(h.bo x hx).1.keep hgr.size ((h.bo x hx).2.imp id (fun h => (hk _ h).2)), (h.bo x hx).2.imp id (fun h => (hk _ h).1)⟩⟩
/-- A header is written. -/
theorem TS.store {w W : World} {vs : Fin 4 → Value} {rs : Fin 4 → Row} {X : List (Option Addr × List ByteArray)} {Y : List (Option Addr × List Bool)} (h : TS w W vs rs X Y) (i : Fin 4) (v : Value) :
    TS w (W.setCell ⟨w.heap.size, i.val, none⟩ v) (fun j => if j = i then v else vs j) rs X Y := by
  have hst := grownBy_setCellAt W w.heap.size i.val v
  have hk : ∀ q, KpT w W rs q → KpT w (W.setCell ⟨w.heap.size, i.val, none⟩ v) rs q ∧ ∀ ad, q = some ad → ∀ o, (W.setCell ⟨w.heap.size, i.val, none⟩ v).cell? ⟨ad.block, o, none⟩ = W.cell? ⟨ad.block, o, none⟩ := fun q hq =>
    ⟨fun ad e => ⟨by rw [World.size_setCell]; exact (hq ad e).1, (hq ad e).2⟩, fun ad e o => World.cell?_setCell_other _ _ _ _ (fun e2 => (hq ad e).2.1 (congrArg Addr.block e2).symm)⟩
  refine ⟨h.bel.setCell (p := ⟨w.heap.size, i.val, none⟩) (Nat.le_refl _) _, by rw [World.size_setCell]; exact h.lt, fun j => ?_, fun o => by rw [World.frozen?_setCell]; exact h.fz o, h.fam.kept hst (fun j => ?_), fun x hx => ?_, fun x hx => ?_⟩
  · by_cases e : j = i
    · subst e
      rw [if_pos rfl]
      exact World.cell?_setCell_same _ _ _ (h.cell j)
    · rw [if_neg e, World.cell?_setCell_other _ _ _ _ (addr_ne (fun e2 => e (Fin.ext e2.symm)))]
      exact h.cell j
  · cases hv : (rs j).v.ownBlock with
    | none => exact .inl rfl
    | some g => exact .inr (fun e => by have := ((h.fam.own j).lt g hv).1; cases e; omega)
  · exact ⟨StrsAt.keepT (h.st x hx).1 (by rw [World.size_setCell]; exact Nat.le_refl _) ((h.st x hx).2.imp id (fun h => (hk _ h).2)), (h.st x hx).2.imp id (fun h => (hk _ h).1)⟩
  · exact ⟨(h.bo x hx).1.keep (by rw [World.size_setCell]; exact Nat.le_refl _) ((h.bo x hx).2.imp id (fun h => (hk _ h).2)), (h.bo x hx).2.imp id (fun h => (hk _ h).1)⟩
theorem TS.congr {w W : World} {vs vs' : Fin 4 → Value} {rs rs' : Fin 4 → Row} {X : List (Option Addr × List ByteArray)} {Y : List (Option Addr × List Bool)} (h : TS w W vs rs X Y) (e : ∀ i, vs i = vs' i) (e2 : ∀ i, rs i = rs' i) : TS w W vs' rs' X Y := by
  rw [← funext e, ← funext e2]; exact h
theorem TS.more {w W : World} {vs : Fin 4 → Value} {rs : Fin 4 → Row} {X X' : List (Option Addr × List ByteArray)} {Y Y' : List (Option Addr × List Bool)} (h : TS w W vs rs X Y)
    (hx : ∀ x ∈ X', x ∈ X ∨ (StrsAt W x.1 x.2 ∧ (x.2 = [] ∨ KpT w W rs x.1))) (hy : ∀ y ∈ Y', y ∈ Y ∨ (BoolsAt W y.1 y.2 ∧ (y.2 = [] ∨ KpT w W rs y.1))) : TS w W vs rs X' Y' :=
  ⟨h.bel, h.lt, h.cell, h.fz, h.fam, fun x hx' => (hx x hx').elim (h.st x) id, fun y hy' => (hy y hy').elim (h.bo y) id⟩
def t4 {α : Type} (a b c d : α) : Fin 4 → α
  | 0 => a
  | 1 => b
  | 2 => c
  | 3 => d
theorem TS.mk0 (w : World) (t : TypeId) (e0 e1 e2 e3 : TypeId) (k0 k1 k2 k3 : Nat) : TS w (w.alloc (.cells #[.slice none 0 0, .slice none 0 0, .slice none 0 0, .slice none 0 0] t)) (fun _ => .slice none 0 0) (t4 ⟨e0, k0, .slice none 0 0, 0, []⟩ ⟨e1, k1, .slice none 0 0, 0, []⟩ ⟨e2, k2, .slice none 0 0, 0, []⟩ ⟨e3, k3, .slice none 0 0, 0, []⟩) [] [] := by
  refine ⟨below_alloc1 _ _, by simp, fun i => ?_, fun o => frozen_new w _ _ o, ⟨fun i => ?_, fun i j g hi => ?_⟩, fun x hx => (by cases hx), fun x hx => (by cases hx)⟩
  · match i with
    | 0 => exact nw_at w _ t 0 _ rfl
    | 1 => exact nw_at w _ t 1 _ rfl
    | 2 => exact nw_at w _ t 2 _ rfl
    | 3 => exact nw_at w _ t 3 _ rfl
  · match i with
    | 0 => exact World.ownsRow_nil _ _ _ _
    | 1 => exact World.ownsRow_nil _ _ _ _
    | 2 => exact World.ownsRow_nil _ _ _ _
    | 3 => exact World.ownsRow_nil _ _ _ _
  · match i with
    | 0 => cases hi
    | 1 => cases hi
    | 2 => cases hi
    | 3 => cases hi
/-! What is told: the program's told. -/
/-- A fate as it lies. -/
structure FE where
  kd : Nat
  pos : Nat
  p : Option Addr
  cap : Nat
  pl : List Nat
  byt : UInt8
instance : Inhabited FE := ⟨⟨0, 0, none, 0, [], 0⟩⟩
def FE.ft (f : FE) : Ft := ⟨f.kd, f.pos, f.pl, f.byt⟩
def FE.v (f : FE) : Value := .agg #[.int .u8 (f.kd : Int), .int .u16 (f.pos : Int), .slice f.p f.pl.length f.cap, .int .u8 (f.byt.toNat : Int)]
structure FE.ok (f : FE) : Prop where
  kd : f.kd ≤ 255
  pos : f.pos ≤ 65535
  pb : ∀ k, f.pl.getD k 0 ≤ 65535
  pn : f.pl.length ≤ maxLen
/-- Fates as they lie in a slice. -/
def FatesAt (W : World) (p : Option Addr) (fs : List FE) : Prop :=
  (fs = [] ∨ ∃ b o, p = some ⟨b, o, none⟩ ∧ b < W.heap.size ∧ ∀ j, j < fs.length → W.cell? ⟨b, o + j * 4, none⟩ = some (.int .u8 ((fs.getD j default).kd : Int)) ∧ W.cell? ⟨b, o + j * 4 + 1, none⟩ = some (.int .u16 ((fs.getD j default).pos : Int)) ∧
    W.cell? ⟨b, o + j * 4 + 2, none⟩ = some (.slice (fs.getD j default).p (fs.getD j default).pl.length (fs.getD j default).cap) ∧ W.cell? ⟨b, o + j * 4 + 3, none⟩ = some (.int .u8 ((fs.getD j default).byt.toNat : Int))) ∧
  ∀ j, j < fs.length → U16At W (fs.getD j default).p (fs.getD j default).pl ∧ (fs.getD j default).ok
theorem FatesAt.below {W W' : World} {p : Option Addr} {fs : List FE} (h : FatesAt W p fs) (hb : Below W.heap.size W W') : FatesAt W' p fs := by
  obtain ⟨h1, h2⟩ := h
  refine ⟨?_, fun j hj => ⟨(h2 j hj).1.below hb, (h2 j hj).2⟩⟩
  rcases h1 with h | ⟨b, o, h1, h3, h4⟩
  · exact .inl h
  · refine .inr ⟨b, o, h1, Nat.lt_of_lt_of_le h3 hb.size, fun j hj => ?_⟩
    obtain ⟨a0, a1, a2, a3⟩ := h4 j hj
    exact ⟨(hb.cell (p := ⟨b, o + j * 4, none⟩) h3).trans a0, (hb.cell (p := ⟨b, o + j * 4 + 1, none⟩) h3).trans a1, (hb.cell (p := ⟨b, o + j * 4 + 2, none⟩) h3).trans a2, (hb.cell (p := ⟨b, o + j * 4 + 3, none⟩) h3).trans a3⟩
theorem fates_at {W : World} {p : Option Addr} {fs : List FE} (h : FatesAt W p fs) {j : Nat} (hj : j < fs.length) : ∃ b o, p = some ⟨b, o, none⟩ ∧ b < W.heap.size ∧ W.cell? ⟨b, o + j * 4, none⟩ = some (.int .u8 ((fs.getD j default).kd : Int)) ∧ W.cell? ⟨b, o + j * 4 + 1, none⟩ = some (.int .u16 ((fs.getD j default).pos : Int)) ∧
    W.cell? ⟨b, o + j * 4 + 2, none⟩ = some (.slice (fs.getD j default).p (fs.getD j default).pl.length (fs.getD j default).cap) ∧ W.cell? ⟨b, o + j * 4 + 3, none⟩ = some (.int .u8 ((fs.getD j default).byt.toNat : Int)) := by
  rcases h.1 with h0 | ⟨b, o, h1, h3, h4⟩
  · rw [h0] at hj; exact absurd hj (Nat.not_lt_zero _)
  · exact ⟨b, o, h1, h3, h4 j hj⟩
/-- The fates of one copy. -/
structure GF where
  p : Option Addr
  cap : Nat
  fs : List FE
instance : Inhabited GF := ⟨⟨none, 0, []⟩⟩
def FatessAt (W : World) (p : Option Addr) (gs : List GF) : Prop :=
  (gs = [] ∨ ∃ b o, p = some ⟨b, o, none⟩ ∧ b < W.heap.size ∧ ∀ j, j < gs.length → W.cell? ⟨b, o + j, none⟩ = some (.slice (gs.getD j default).p (gs.getD j default).fs.length (gs.getD j default).cap)) ∧
  ∀ j, j < gs.length → FatesAt W (gs.getD j default).p (gs.getD j default).fs
theorem FatessAt.below {W W' : World} {p : Option Addr} {gs : List GF} (h : FatessAt W p gs) (hb : Below W.heap.size W W') : FatessAt W' p gs := by
  obtain ⟨h1, h2⟩ := h
  refine ⟨?_, fun j hj => (h2 j hj).below hb⟩
  rcases h1 with h | ⟨b, o, h1, h3, h4⟩
  · exact .inl h
  · exact .inr ⟨b, o, h1, Nat.lt_of_lt_of_le h3 hb.size, fun j hj => (hb.cell (p := ⟨b, o + j, none⟩) h3).trans (h4 j hj)⟩
theorem fatess_at {W : World} {p : Option Addr} {gs : List GF} (h : FatessAt W p gs) {j : Nat} (hj : j < gs.length) : ∃ b o, p = some ⟨b, o, none⟩ ∧ b < W.heap.size ∧ W.cell? ⟨b, o + j, none⟩ = some (.slice (gs.getD j default).p (gs.getD j default).fs.length (gs.getD j default).cap) ∧ FatesAt W (gs.getD j default).p (gs.getD j default).fs := by
  rcases h.1 with h0 | ⟨b, o, h1, h3, h4⟩
  · rw [h0] at hj; exact absurd hj (Nat.not_lt_zero _)
  · exact ⟨b, o, h1, h3, h4 j hj, h.2 j hj⟩
/-- The fate of a line of a copy. -/
def feAt (fs : List FE) (i : Nat) : FE := fs.getD i default
/-- The first lines' texts. -/
def txT (ls : List GL) (k : Nat) : List ByteArray := (List.range k).map fun i : Nat => bs (lineT ((i : Int) + 1) (ls.getD i default).ws)
theorem txT_succ (ls : List GL) (k : Nat) : txT ls (k + 1) = txT ls k ++ [bs (lineT ((k : Int) + 1) (ls.getD k default).ws)] := by simp [txT, List.range_succ]
theorem txT_len (ls : List GL) (k : Nat) : (txT ls k).length = k := by simp [txT]
theorem txT_at (ls : List GL) {k i : Nat} (h : i < k) : (txT ls k).getD i ByteArray.empty = bs (lineT ((i : Int) + 1) (ls.getD i default).ws) := by
  simp [txT, List.getD, h]
/-- What of each line a copy has, for the first m lines. -/
def hvT (ts : List ByteArray) (fs : List FE) (m : Nat) : List (Option (List UInt8)) := (List.range m).map fun i => fatC (ts.getD i ByteArray.empty).data.toList (feAt fs i).ft
theorem hvT_succ (ts : List ByteArray) (fs : List FE) (m : Nat) : hvT ts fs (m + 1) = hvT ts fs m ++ [fatC (ts.getD m ByteArray.empty).data.toList (feAt fs m).ft] := by simp [hvT, List.range_succ]
theorem hvT_len (ts : List ByteArray) (fs : List FE) (m : Nat) : (hvT ts fs m).length = m := by simp [hvT]
def hsT (h : List (Option (List UInt8))) : List ByteArray := h.map fun o => bs (o.getD [])
def lsT (h : List (Option (List UInt8))) : List Bool := h.map fun o => !o.isSome
def blsV (l : List Bool) : List Value := l.map .bool
/-- Two rows that grow, and what was there before. -/
structure IN (W2 W : World) (vh vl : Value) (h : List (Option (List UInt8))) : Prop where
  bel : Below W2.heap.size W2 W
  hs : W.ownsRow W2.heap.size 9 1 vh h.length (strsV (hsT h))
  ls : W.ownsRow W2.heap.size 4 1 vl h.length (blsV (lsT h))
  apart : ∀ g, vh.ownBlock = some g → vl.ownBlock = some g → False
theorem IN.next {W2 W W' : World} {vh vl : Value} {h : List (Option (List UInt8))} (I : IN W2 W vh vl h) (hb : Below W.heap.size W W') : IN W2 W' vh vl h :=
  ⟨I.bel.trans (hb.mono I.bel.size), ownsRow_keep I.hs hb, ownsRow_keep I.ls hb, I.apart⟩
theorem inf4 : (Tryz.prog.info? 4).map (fun i => (i.zero, i.size, i.bytes)) = some (some (.bool false), 1, 1) := by kernel_rfl
theorem inf117 : (Tryz.prog.info? 117).map (fun i => (i.zero, i.size, i.bytes)) = some (some (.slice none 0 0), 1, 24) := by kernel_rfl
theorem IN.lsA {W2 w5 wA w6 : World} {vh vl : Value} {h : List (Option (List UInt8))} (I : IN W2 w5 vh vl h) (hA : Below w5.heap.size w5 wA) (g1 : wA.grownBy w6 vh.ownBlock) : w6.ownsRow W2.heap.size 4 1 vl h.length (blsV (lsT h)) := by
  refine (ownsRow_keep I.ls hA).kept g1 ?_
  cases hv : vl.ownBlock with
  | none => exact .inl rfl
  | some g => exact .inr (fun e => I.apart g e.symm hv)
theorem IN.add {W2 w5 wA w6 wB w8 : World} {vh vl vh' vl' : Value} {h : List (Option (List UInt8))} {n : Nat} {o : Option (List UInt8)} (I : IN W2 w5 vh vl h) (hn : h.length = n) (hA : Below w5.heap.size w5 wA)
    (h1 : w6.ownsRow W2.heap.size 9 1 vh' (n + 1) (strsV (hsT h) ++ strsV [bs (o.getD [])])) (g1 : wA.grownBy w6 vh.ownBlock) (a1 : vh'.ownBlock = vh.ownBlock ∨ vh'.ownBlock = some wA.heap.size)
    (hB : Below w6.heap.size w6 wB) (h2 : w8.ownsRow W2.heap.size 4 1 vl' (n + 1) (blsV (lsT h) ++ blsV [!o.isSome])) (g2 : wB.grownBy w8 vl.ownBlock) (a2 : vl'.ownBlock = vl.ownBlock ∨ vl'.ownBlock = some wB.heap.size) : IN W2 w8 vh' vl' (h ++ [o]) := by
  have l0 := fun g e => (I.hs.lt g e)
  have l1 := fun g e => (I.ls.lt g e)
  have h1' := h1.lt
  have hs1 := hA.size
  have hs2 := g1.size
  have hs3 := hB.size
  refine ⟨((I.bel.trans (hA.mono I.bel.size)).grown g1 (Nat.le_trans I.bel.size hs1) (fun k e => (l0 k e).1)).trans (hB.mono (Nat.le_trans I.bel.size (Nat.le_trans hs1 hs2))) |>.grown g2 (by have := I.bel.size; omega) (fun k e => (l1 k e).1), ?_, ?_, fun g e1 e2 => ?_⟩
  · have h3 : strsV (hsT (h ++ [o])) = strsV (hsT h) ++ strsV [bs (o.getD [])] := by simp [strsV, hsT]
    rw [h3, List.length_append, hn]
    refine (ownsRow_keep h1 hB).kept g2 ?_
    cases hv : vh'.ownBlock with
    | none => exact .inl rfl
    | some g =>
      refine .inr (fun e => ?_)
      rcases a1 with a | a
      · exact I.apart g (by rw [← a, hv]) e.symm
      · rw [hv] at a
        have := Option.some.inj a
        have := (l1 g e.symm).2
        omega
  · have h3 : blsV (lsT (h ++ [o])) = blsV (lsT h) ++ blsV [!o.isSome] := by simp [blsV, lsT]
    rw [h3, List.length_append, hn]
    exact h2
  · have b1 := (h1' g e1)
    rcases a2 with a | a
    · rw [a] at e2
      rcases a1 with a' | a'
      · exact I.apart g (by rw [← a', e1]) e2
      · rw [e1] at a'
        have := Option.some.inj a'
        have := (l1 g e2).2
        omega
    · rw [e2] at a
      have := Option.some.inj a
      omega
theorem bl_new (W : World) (b : Nat) (x : Bool) (hb : W.heap.size = b) : ∀ j u, (blsV [x])[j]? = some u → (W.alloc (.cells #[.bool x] 4)).cell? ((⟨b, 0, none⟩ : Addr).add j) = some u := by
  subst hb
  exact cells_new W #[.bool x] 4
theorem blsV_one {l : List Bool} : ∀ u ∈ blsV l, u.oneCell' = true := fun u hu => by
  obtain ⟨p, -, rfl⟩ := List.mem_map.1 hu
  rfl
theorem IN.mk0 (W2 : World) : IN W2 ((W2.alloc (.cells #[] 9)).alloc (.cells #[] 4)) (.slice (some ⟨W2.heap.size, 0, none⟩) 0 0) (.slice (some ⟨W2.heap.size + 1, 0, none⟩) 0 0) [] := by
  have h1 : (W2.alloc (.cells #[] 9)).ownsRow W2.heap.size 9 1 (.slice (some ⟨W2.heap.size, 0, none⟩) 0 0) 0 [] := World.ownsRow_lit W2 #[] 0 (Nat.le_refl _) (by decide) rfl
  have h2 : ((W2.alloc (.cells #[] 9)).alloc (.cells #[] 4)).ownsRow W2.heap.size 4 1 (.slice (some ⟨(W2.alloc (.cells #[] 9)).heap.size, 0, none⟩) 0 0) 0 [] := World.ownsRow_lit (W2.alloc (.cells #[] 9)) #[] 0 (by simp) (by decide) rfl
  rw [show (W2.alloc (.cells #[] 9)).heap.size = W2.heap.size + 1 from by simp] at h2
  exact ⟨(below_alloc1 W2 _).trans ((below_alloc1 _ _).mono (by simp)), h1.alloc _, h2, fun g e1 e2 => by simp [Value.ownBlock] at e1 e2; omega⟩
end Go.Proofs.YtmfhpddeclggfaaGreatDoor
