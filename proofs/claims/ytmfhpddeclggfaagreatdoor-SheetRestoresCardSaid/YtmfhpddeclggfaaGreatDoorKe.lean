import Derived.Test.YtmfhpddeclggfaaGreatDoorKd
import Derived.Laws.StructEq
import Derived.MapKept
import Derived.WideKeyRuns
import Derived.Maps.Own
import Derived.WalkKit
import Derived.LoopTactic
import Derived.WalkSpells
import Derived.WalkLawsBesides
import Derived.Lib.Hide
import Derived.BigQuiet
import Derived.IntWalk
import Derived.Deep.DeepMust
import Derived.WalkSmall
import Derived.StillTailTactics
import Derived.Deep.RegionLaw
import Derived.Deep.QuietTactic
import Derived.Deep.RegionHeld3
import Derived.Deep.AppendLies
import Derived.Carry
import Derived.Laws.Tables
namespace Go.Proofs.YtmfhpddeclggfaaGreatDoor
open Go.RowKit
/-- The desk, as it lies. -/
structure Desk (W : World) (D M : Nat) (last : Int) (R : Nat → Value) (L : List Ent) : Prop where
  c0 : W.cell? ⟨D, 0, none⟩ = some (.int .i64 last)
  cr : ∀ n, n ≤ 400 → W.cell? ⟨D, 1 + n, none⟩ = some (R n)
  cm : W.cell? ⟨D, 402, none⟩ = some (.map (some M))
  fz : ∀ o, W.frozen? ⟨D, o, none⟩ = false
  mp : MapIs W M L
theorem new_set (W : World) (a : Addr) (v : Value) (cs : Array Value) (e : TypeId) (k : Nat) (u : Value) (h : cs.toList[k]? = some u) : ((W.setCell a v).alloc (.cells cs e)).cell? ⟨W.heap.size, k, none⟩ = some u := by
  have := cells_new (W.setCell a v) cs e k u h
  rw [World.size_setCell, show (⟨W.heap.size, 0, none⟩ : Addr).add k = ⟨W.heap.size, k, none⟩ from by simp [Addr.add]; omega] at this
  exact this
theorem grownBy_setCellAt (W : World) (b o : Nat) (v : Value) : W.grownBy (W.setCell ⟨b, o, none⟩ v) (some b) :=
  ⟨rfl, rfl, rfl, (KeepsWalks.setCell W _ v).size, fun k _ hk => Below.heap_setCell _ _ _ k (fun e => hk (by rw [e]))⟩
theorem nw_at (w : World) (C : Array Value) (e : TypeId) (o : Nat) (u : Value) (h : C.toList[o]? = some u) : (w.alloc (.cells C e)).cell? ⟨w.heap.size, o, none⟩ = some u := by
  have := cells_new w C e o u h
  rwa [show (⟨w.heap.size, 0, none⟩ : Addr).add o = ⟨w.heap.size, o, none⟩ from by simp [Addr.add]; omega] at this
theorem desk_ne {W : World} {D M : Nat} {last : Int} {R : Nat → Value} {L : List Ent} (h : Desk W D M last R L) : D ≠ M := by
  intro e
  obtain ⟨es, clock, hm, -⟩ := h.mp
  have := h.c0
  rw [← e] at hm
  simp [World.cell?, hm] at this
theorem MapIs.grown {W W' : World} {M : Nat} {L : List Ent} {row : Option Nat} (h : MapIs W M L) (hg : W.grownBy W' row) (hr : row ≠ some M) : MapIs W' M L := by
  obtain ⟨es, clock, hm, hL⟩ := h
  exact ⟨es, clock, (hg.block M (Array.getElem?_eq_some_iff.1 hm).1 (fun e => hr e.symm)).trans hm, hL⟩
theorem Desk.grown {W W' : World} {D M : Nat} {last : Int} {R : Nat → Value} {L : List Ent} {row : Option Nat} (h : Desk W D M last R L) (hg : W.grownBy W' row) (h1 : row ≠ some D) (h2 : row ≠ some M) : Desk W' D M last R L := by
  have hD : D < W.heap.size := World.block_lt_of_cell? W ⟨D, 0, none⟩ h.c0
  have hb := hg.block D hD (fun e => h1 e.symm)
  exact ⟨(World.cell?_of_block (a := ⟨D, 0, none⟩) hb).trans h.c0, fun n hn => (World.cell?_of_block (a := ⟨D, 1 + n, none⟩) hb).trans (h.cr n hn), (World.cell?_of_block (a := ⟨D, 402, none⟩) hb).trans h.cm, fun o => (World.frozen?_of_block (a := ⟨D, o, none⟩) hb).trans (h.fz o), h.mp.grown hg h2⟩
theorem Desk.max {W : World} {D M : Nat} {last : Int} {R : Nat → Value} {L : List Ent} (h : Desk W D M last R L) (x : Int) : Desk (W.setCell ⟨D, 0, none⟩ (.int .i64 x)) D M x R L := by
  refine ⟨World.cell?_setCell_same _ _ _ h.c0, fun n hn => ?_, ?_, fun o => ?_, h.mp.grown (grownBy_setCell' W D _) (fun e => desk_ne h (Option.some.inj e))⟩
  · rw [World.cell?_setCell_other _ _ _ _ (addr_ne (by omega))]; exact h.cr n hn
  · rw [World.cell?_setCell_other _ _ _ _ (addr_ne (by omega))]; exact h.cm
  · rw [World.frozen?_setCell]; exact h.fz o
theorem Desk.row {W : World} {D M : Nat} {last : Int} {R : Nat → Value} {L : List Ent} (h : Desk W D M last R L) (n : Nat) (hn : n ≤ 400) (v : Value) : Desk (W.setCell ⟨D, 1 + n, none⟩ v) D M last (fun j => if j = n then v else R j) L := by
  refine ⟨?_, fun m hm => ?_, ?_, fun o => ?_, h.mp.grown (grownBy_setCellAt W D (1 + n) v) (fun e => desk_ne h (Option.some.inj e))⟩
  · rw [World.cell?_setCell_other _ _ _ _ (addr_ne (by omega))]; exact h.c0
  · by_cases e : m = n
    · subst e
      simp only [if_true]
      exact World.cell?_setCell_same _ _ _ (h.cr m hm)
    · rw [World.cell?_setCell_other _ _ _ _ (addr_ne (by omega)), if_neg e]; exact h.cr m hm
  · rw [World.cell?_setCell_other _ _ _ _ (addr_ne (by omega))]; exact h.cm
  · rw [World.frozen?_setCell]; exact h.fz o
theorem grown_al (W : World) (o : Obj) : W.grownBy (W.alloc o) none := World.grownBy_alloc W o none
theorem grown_dr (W : World) : W.grownBy W.drew none := ⟨rfl, rfl, rfl, Nat.le_refl _, fun _ _ _ => rfl⟩
theorem grown_tr {A B C : World} {r : Option Nat} (h : A.grownBy B r) (k : B.grownBy C r) : A.grownBy C r := ⟨k.os.trans h.os, k.tape.trans h.tape, k.output.trans h.output, Nat.le_trans h.size k.size, fun i hi hne => (k.block i (Nat.lt_of_lt_of_le hi h.size) hne).trans (h.block i hi hne)⟩
theorem grown_wk {A B : World} {r : Option Nat} (h : A.grownBy B none) : A.grownBy B r := ⟨h.os, h.tape, h.output, h.size, fun i hi _ => h.block i hi (by simp)⟩
theorem cell_al {W : World} {b o : Nat} {v : Value} (h : W.cell? ⟨b, o, none⟩ = some v) (x : Obj) : (W.alloc x).cell? ⟨b, o, none⟩ = some v := (grown_al W x).cell h (by simp)
/-- The world behind the first steps of add. -/
theorem ad_w5 (W : World) (D M : Nat) (last x : Int) (R : Nat → Value) (L : List Ent) (n : Int) (t : ByteArray) (hd : Desk W D M last R L) :
    ∃ W5, (((W.setCell ⟨D, 0, none⟩ (.int .i64 x)).alloc (.cells #[.int .i64 n, .string t, .bool true] 224)).alloc (.cells #[.int .i64 n, .string t] 242)).drew = W5 ∧ W5.heap.size = W.heap.size + 2 ∧ W.grownBy W5 (some D) ∧ Desk W5 D M x R L ∧
      W5.cell? ⟨W.heap.size, 0, none⟩ = some (.int .i64 n) ∧ W5.cell? ⟨W.heap.size + 1, 0, none⟩ = some (.int .i64 n) ∧ W5.cell? ⟨W.heap.size + 1, 1, none⟩ = some (.string t) := by
  have h6 : ∀ (V : World) (j : Nat) (u : Value), (#[Value.int .i64 n, .string t] : Array Value).toList[j]? = some u → V.heap.size = W.heap.size + 1 → (V.alloc (.cells #[.int .i64 n, .string t] 242)).cell? ⟨W.heap.size + 1, j, none⟩ = some u := by
    intro V j u hu hV
    have := nw_at V _ 242 j u hu
    rwa [hV] at this
  refine ⟨_, rfl, by simp, ?_, ?_, ?_, ?_, ?_⟩
  · exact grown_tr (grown_tr (grown_tr (grownBy_setCell' W D _) (grown_wk (grown_al _ _))) (grown_wk (grown_al _ _))) (grown_wk (grown_dr _))
  · exact (((hd.max x).grown (grown_al _ _) (by simp) (by simp)).grown (grown_al _ _) (by simp) (by simp)).grown (grown_dr _) (by simp) (by simp)
  · exact cell_al (new_set W _ _ _ _ 0 _ rfl) _
  · exact h6 _ 0 _ rfl (by simp)
  · exact h6 _ 1 _ rfl (by simp)
end Go.Proofs.YtmfhpddeclggfaaGreatDoor
namespace Go.Proofs.YtmfhpddeclggfaaGreatDoor
open Go.RowKit
theorem below_gr {base : Nat} {W W' : World} {row : Option Nat} (hg : W.grownBy W' row) (hb : base ≤ W.heap.size) (hr : ∀ k, row = some k → base ≤ k) : Below base W W' := (Below.refl base W).grown hg hb hr
/-- The world behind the reading that is appended. -/
theorem ad_w7 {ι : Type} [DecidableEq ι] {f : ι → Row} {i1 : ι} {B D M base : Nat} {last : Int} {R : Nat → Value} {L : List Ent} {n m : Nat} {t : ByteArray} {xs : List Value} {W6 w1 : World} {gg cap : Nat}
    (hd : Desk W6 D M last R L) (hn : n ≤ 400) (hF : Fam B f W6) (hDB : D < B) (hMB : M < B) (hB : B ≤ W6.heap.size) (hD0 : base ≤ D) (h1 : f i1 = ⟨242, 2, R n, m, xs⟩)
    (hown : w1.ownsRow B 242 2 (.slice (some ⟨gg, 0, none⟩) (m + 1) cap) (m + 1) (xs ++ [.int .i64 (n : Int), .string t]))
    (hgrow : (W6.alloc (.cells #[.int .i64 (n : Int), .string t] 242)).drew.grownBy w1 (R n).ownBlock) (hat : (R n).ownBlock = some gg ∨ gg = W6.heap.size + 1) :
    ∃ W7, w1.setCell ⟨D, 1 + n, none⟩ (.slice (some ⟨gg, 0, none⟩) (m + 1) cap) = W7 ∧ Desk W7 D M last (fun j => if j = n then .slice (some ⟨gg, 0, none⟩) (m + 1) cap else R j) L ∧
      Fam B (fun j => if j = i1 then ⟨242, 2, .slice (some ⟨gg, 0, none⟩) (m + 1) cap, m + 1, xs ++ [.int .i64 (n : Int), .string t]⟩ else f j) W7 ∧ Below base W6 W7 ∧ W6.heap.size ≤ W7.heap.size := by
  have hr : ∀ k, (R n).ownBlock = some k → B ≤ k ∧ k < W6.heap.size := fun k hk => by
    have h5 := (hF.own i1).lt k
    rw [h1] at h5
    exact h5 hk
  have hnD : (R n).ownBlock ≠ some D := fun e => by have := hr D e; omega
  have hnM : (R n).ownBlock ≠ some M := fun e => by have := hr M e; omega
  have hga : W6.grownBy (W6.alloc (.cells #[.int .i64 (n : Int), .string t] 242)).drew none := grown_tr (grown_al _ _) (grown_dr _)
  have hd1 := (hd.grown hga (by simp) (by simp)).grown hgrow hnD hnM
  have hFa := hF.kept hga (fun i => by cases (f i).v.ownBlock <;> simp)
  have hs6 : (W6.alloc (.cells #[.int .i64 (n : Int), .string t] 242)).drew.heap.size = W6.heap.size + 1 := by show (W6.alloc _).heap.size = _; simp
  have hF1 := hFa.grown i1 ⟨242, 2, .slice (some ⟨gg, 0, none⟩) (m + 1) cap, m + 1, xs ++ [.int .i64 (n : Int), .string t]⟩ (W' := w1) (by rw [h1]; exact hgrow) hown (by
    rw [h1, hs6]
    rcases hat with h | h
    · exact .inr ⟨by rw [h]; rfl, by rw [h]; simp⟩
    · exact .inl (by rw [h]; rfl))
  have hsz := hgrow.size
  rw [hs6] at hsz
  refine ⟨_, rfl, hd1.row n hn _, hF1.kept (grownBy_setCellAt w1 D (1 + n) _) (fun i => ?_), ?_, ?_⟩
  · cases hv : (if i = i1 then (⟨242, 2, .slice (some ⟨gg, 0, none⟩) (m + 1) cap, m + 1, xs ++ [.int .i64 (n : Int), .string t]⟩ : Row) else f i).v.ownBlock with
    | none => exact .inl rfl
    | some g => exact .inr (fun e => by have := ((hF1.own i).lt g hv).1; cases e; omega)
  · exact ((below_gr hga (by omega) (by simp)).trans (below_gr hgrow (by omega) (fun k hk => by have := hr k hk; omega))).trans (below_gr (grownBy_setCellAt w1 D (1 + n) _) (by omega) (fun k hk => by cases hk; exact hD0))
  · simp only [World.size_setCell]; omega
/-- The world behind the map's store. -/
theorem ad_w9 {ι : Type} [DecidableEq ι] {f : ι → Row} {i2 : ι} {B D M base : Nat} {last : Int} {R : Nat → Value} {L : List Ent} {n : Int} {t : ByteArray} {v v' : Value} {l : Nat} {zs : List Value} {zs' : List Value} {W7 w2 W8 : World}
    (hd : Desk W7 D M last R L) (hF : Fam B f W7) (hDB : D < B) (hMB : M < B) (hB : B ≤ W7.heap.size) (hM0 : base ≤ M) (hD0 : base ≤ D) (h2 : f i2 = ⟨3, 1, v, l, zs⟩)
    (hown : w2.ownsRow B 3 1 v' (l + 1) zs') (hgrow : W7.grownBy w2 v.ownBlock) (hat : v'.ownBlock = some (W7.heap.size + 1) ∨ (v'.ownBlock = v.ownBlock ∧ v.ownBlock ≠ none))
    (hM : MapIs W8 M (updL n t v' L)) (hg8 : w2.grownBy W8 (some M)) :
    Desk W8 D M last R (updL n t v' L) ∧ Fam B (fun j => if j = i2 then ⟨3, 1, v', l + 1, zs'⟩ else f j) W8 ∧ Below base W7 W8 ∧ W7.heap.size ≤ W8.heap.size := by
  have hr : ∀ k, v.ownBlock = some k → B ≤ k ∧ k < W7.heap.size := fun k hk => by
    have h5 := (hF.own i2).lt k
    rw [h2] at h5
    exact h5 hk
  have hDM := desk_ne hd
  have hnD : v.ownBlock ≠ some D := fun e => by have := hr D e; omega
  have hnM : v.ownBlock ≠ some M := fun e => by have := hr M e; omega
  have hd2 := hd.grown hgrow hnD hnM
  have hbD := hg8.block D (World.block_lt_of_cell? w2 ⟨D, 0, none⟩ hd2.c0) (fun e => hDM (Option.some.inj e))
  have hsz := hgrow.size
  have hs8 := hg8.size
  have hF2 : Fam B (fun j => if j = i2 then ⟨3, 1, v', l + 1, zs'⟩ else f j) w2 := by
    refine ⟨fun j => ?_, fun i j g hi hj => ?_⟩
    · show w2.ownsRow B (if j = i2 then (⟨3, 1, v', l + 1, zs'⟩ : Row) else f j).e _ _ _ _
      by_cases e : j = i2
      · simp only [if_pos e]; exact hown
      · simp only [if_neg e]
        refine (hF.own j).kept hgrow ?_
        cases hb : (f j).v.ownBlock with
        | none => exact .inl rfl
        | some g => exact .inr (fun e2 => e (hF.apart j i2 g hb (by rw [h2]; exact e2.symm)))
    · have lt : ∀ j g, (f j).v.ownBlock = some g → g < W7.heap.size := fun j g hj => ((hF.own j).lt g hj).2
      by_cases e : i = i2 <;> by_cases e2 : j = i2
      · rw [e, e2]
      · simp only [if_pos e] at hi
        simp only [if_neg e2] at hj
        rcases hat with h | ⟨h, _⟩
        · rw [h] at hi; cases hi; exact absurd (lt j _ hj) (by omega)
        · rw [h] at hi; exact absurd (hF.apart j i2 g hj (by rw [h2]; exact hi)) e2
      · simp only [if_neg e] at hi
        simp only [if_pos e2] at hj
        rcases hat with h | ⟨h, _⟩
        · rw [h] at hj; cases hj; exact absurd (lt i _ hi) (by omega)
        · rw [h] at hj; exact absurd (hF.apart i i2 g hi (by rw [h2]; exact hj)) e
      · simp only [if_neg e] at hi
        simp only [if_neg e2] at hj
        exact hF.apart i j g hi hj
  refine ⟨⟨(World.cell?_of_block (a := ⟨D, 0, none⟩) hbD).trans hd2.c0, fun n hn => (World.cell?_of_block (a := ⟨D, 1 + n, none⟩) hbD).trans (hd2.cr n hn), (World.cell?_of_block (a := ⟨D, 402, none⟩) hbD).trans hd2.cm, fun o => (World.frozen?_of_block (a := ⟨D, o, none⟩) hbD).trans (hd2.fz o), hM⟩, hF2.kept hg8 (fun i => ?_), ?_, by omega⟩
  · cases hv : (if i = i2 then (⟨3, 1, v', l + 1, zs'⟩ : Row) else f i).v.ownBlock with
    | none => exact .inl rfl
    | some g => exact .inr (fun e => by have := ((hF2.own i).lt g hv).1; cases e; omega)
  · exact (below_gr hgrow (by omega) (fun k hk => by have := hr k hk; omega)).trans (below_gr hg8 (by omega) (fun k hk => by cases hk; exact hM0))
end Go.Proofs.YtmfhpddeclggfaaGreatDoor
namespace Go.Proofs.YtmfhpddeclggfaaGreatDoor
open Go.RowKit
theorem nil85 (w : World) : Sem.run Tryz.prog (binOp .eql 85 (.slice none 0 0) (.slice none 0 0)) w = .ok (.bool true) w := by kernel_rfl
theorem some85 (a : Addr) (n c : Nat) (w : World) : Sem.run Tryz.prog (binOp .eql 85 (.slice (some a) n c) (.slice none 0 0)) w = .ok (.bool false) w := by kernel_rfl
theorem inf242 : (Tryz.prog.info? 242).map (fun i => (i.zero, i.size, i.bytes)) = some (some (.agg #[.int .i64 0, .string ⟨#[]⟩]), 2, 24) := by kernel_rfl
set_option maxRecDepth 100000 in
set_option maxHeartbeats 4000000 in
theorem add_new {ι : Type} [DecidableEq ι] (f : ι → Row) (i1 i2 : ι) (h12 : i1 ≠ i2) (B D M base : Nat) (hD0 : base ≤ D) (hM0 : base ≤ M) (last : Int) (R : Nat → Value) (L : List Ent) (k : Int) (n : Nat) (t : ByteArray) (m : Nat) (xs : List Value) (W : World)
    (hd : Desk W D M last R L) (hn : n ≤ 400) (hF : Fam B f W) (hB : B ≤ W.heap.size) (hDB : D < B) (hMB : M < B) (hDM : D ≠ M) (h1 : f i1 = ⟨242, 2, R n, m, xs⟩) (hm : m ≤ 1000) (h2 : f i2 = ⟨3, 1, .slice none 0 0, 0, []⟩) (hi : idxL n t L = none) :
    Calls Tryz.prog 166 #[.pointer (some ⟨D, 0, none⟩), .int .i64 k, .agg #[.int .i64 (n : Int), .string t, .bool true]] W fun e w' => e = .returned (.tuple #[]) ∧ ∃ v1 v2,
      Desk w' D M (max last n) (fun j => if j = n then v1 else R j) (updL n t v2 L) ∧
      Fam B (fun j => if j = i2 then ⟨3, 1, v2, 1, [.int .i64 k]⟩ else if j = i1 then ⟨242, 2, v1, m + 1, xs ++ [.int .i64 (n : Int), .string t]⟩ else f j) w' ∧ Below base W w' ∧ W.heap.size ≤ w'.heap.size := by
  have HD := Lib.hid hd
  have hix := Lib.hid hi
  have hDW : D < W.heap.size := by omega
  have HBs : Hid (B ≤ W.heap.size) := hB
  obtain ⟨c0, cr, hc402, fz, mp⟩ := hd
  have cn := cr n hn
  have f0 := fz 0
  have fn := fz (1 + n)
  have HF := Lib.hid hF
  have HMP := Lib.hid mp
  clear cr fz mp hF hi
  go_enter Tryz.func166, Tryz.ntmps166
  go_wp2_with fail
  have hD1 : D ≠ W.heap.size := by omega
  have hD2 : W.heap.size ≠ D := by omega
  have hk1 : ∀ v, ((W.setCell ⟨D, 0, none⟩ v).alloc (.cells #[.int .i64 (n : Int), .string t, .bool true] 224)).drew.cell? ⟨W.heap.size, 0, none⟩ = some (.int .i64 (n : Int)) := fun v => new_set W _ v _ _ 0 _ rfl
  rw [show Op.load 3 (Operand.tmp 10) = id (Op.load 3 (Operand.tmp 10)) from rfl]
  go_region_held3 (fun w' => w'.cell? ⟨W.heap.size, 0, none⟩ = some (.int .i64 (n : Int))) (first | exact hk1 _ | go_keep) (fail)
  clear hk1
  go_wp2_with fail
  obtain ⟨W5, hW5, hs5, hg5, hd5, d1, d2, d3⟩ := ad_w5 W D M last (max last (n : Int)) R L n t HD.out
  rw [hW5]
  have HD5 := Lib.hid hd5
  have HG5 := Lib.hid hg5
  have HS5 := Lib.hid hs5
  have D1 := Lib.hid d1
  have D2 := Lib.hid d2
  have D3 := Lib.hid d3
  have e1 : W5.cell? ⟨D, 402, none⟩ = some (.map (some M)) := hd5.cm
  have hlk : ∀ m, Sem.run Tryz.prog (Instr.lookup 208 (.map (some M)) (keyV n t) false) (W5.drewN m) = .ok (.slice none 0 0) (W5.drewN m) := by
    intro m
    have := run_look (W := W5.drewN m) (M := M) (L := L) hd5.mp n t
    rwa [show lookL n t L = .slice none 0 0 by unfold lookL; rw [hix.out]] at this
  clear hW5 hg5 hs5 hd5 c0 hc402 cn f0 fn
  have hnil := nil85
  go_quiet (fail)
  clear hlk hnil e1 d1 d2 d3
  go_wp2_with fail
  obtain ⟨W6, hW6⟩ : ∃ W6, W5.drewN nq = W6 := ⟨_, rfl⟩
  have g6 : W5.grownBy W6 none := by rw [← hW6]; exact ⟨rfl, rfl, rfl, Nat.le_refl _, fun _ _ _ => rfl⟩
  rw [hW6]
  have hD6 := HD5.out.grown g6 (by simp) (by simp)
  have hF6 : Fam B f W6 := (HF.out.kept HG5.out (fun i => by
    cases hb : (f i).v.ownBlock with
    | none => exact .inl rfl
    | some g => exact .inr (fun e => by have := ((HF.out.own i).lt g hb).1; cases e; omega))).kept g6 (fun i => by cases (f i).v.ownBlock <;> simp)
  have hs6 : W6.heap.size = W.heap.size + 2 := by rw [← hW6]; exact HS5.out
  have d1 := g6.cell D1.out (by simp)
  have d2 := g6.cell D2.out (by simp)
  have d3 := g6.cell D3.out (by simp)
  have cR := hD6.cr n hn
  have fR := hD6.fz (1 + n)
  have hO := hF6.own i1
  rw [h1] at hO
  have HF6 := Lib.hid hF6
  have HD6 := Lib.hid hD6
  have H1 := Lib.hid h1
  have H2 := Lib.hid h2
  have hn0 : (0 : Int) ≤ (n : Int) := by omega
  have hn4 : (n : Int) < 401 := by omega
  have HS6 := Lib.hid hs6
  have hlt6 : W.heap.size + 1 < W6.heap.size := by omega
  have ao : ∀ g, (R n).ownBlock = some g → B ≤ g ∧ g < W6.heap.size := fun g hg => hO.lt g hg
  have aw : (R n).ownBlock ≠ some W.heap.size := fun e => by
    have h5 := (HF.out.own i1).lt W.heap.size (by rw [H1.out]; exact e)
    omega
  have aw1 : (R n).ownBlock ≠ some (W.heap.size + 1) := fun e => by
    have h5 := (HF.out.own i1).lt (W.heap.size + 1) (by rw [H1.out]; exact e)
    omega
  have cR2 : (W6.alloc (.cells #[.int .i64 (n : Int), .string t] 242)).cell? ⟨D, 1 + n, none⟩ = some (R n) := cell_al cR _
  have hD3 : D ≠ W.heap.size + 1 := by omega
  have aD : some D ≠ (R n).ownBlock := fun e => by have h5 := ao D e.symm; omega
  have hD6s : D < (W6.alloc (.cells #[.int .i64 (n : Int), .string t] 242)).drew.heap.size := by show D < (W6.alloc _).heap.size; rw [World.size_alloc]; omega
  have fD6 : (W6.alloc (.cells #[.int .i64 (n : Int), .string t] 242)).drew.frozen? ⟨D, 1 + n, none⟩ = false := (World.frozen?_of_block (a := ⟨D, 1 + n, none⟩) ((grown_al W6 _).block D (by omega) (by simp))).trans fR
  have hD4 : W.heap.size + 1 ≠ D := by omega
  obtain ⟨i0, hi, hz0, hz1, hz2⟩ := info_parts inf242
  have HLm : Hid (m + 1 ≤ maxLen) := by unfold Hid maxLen; omega
  have HLb : Hid ((m + 1) * 24 ≤ 140737488355328) := by unfold Hid; omega
  have HB6 : Hid (B ≤ W6.heap.size) := by unfold Hid; omega
  have HG6 := Lib.hid g6
  clear hW6 g6 hD6 hF6 h1 h2 hs6 hB
  rw [show Op.load 206 (Operand.tmp 59) = id (Op.load 206 (Operand.tmp 59)) from rfl]
  go_region_held3 (fun w' => w'.cell? ⟨W.heap.size, 0, none⟩ = some (.int .i64 (n : Int)) ∧ w'.cell? ⟨W.heap.size + 1, 0, none⟩ = some (.int .i64 (n : Int)) ∧ w'.cell? ⟨W.heap.size + 1, 1, none⟩ = some (.string t))
    (first
      | go_keep
      | (go_split_ands
         refine ⟨?_, ?_, ?_⟩
         · (rw [hgrow.cell_far _ (by simp; omega) (Ne.symm aw)]; assumption)
         · (rw [hgrow.cell_far _ (by simp; omega) (Ne.symm aw1)]; assumption)
         · (rw [hgrow.cell_far _ (by simp; omega) (Ne.symm aw1)]; assumption)))
    ((refine step_append_lies _ (by rfl) _ _ _ (by rfl) B 242 i0 _ 2 24 Tryz.underlying206 hi hz0 hz1 hz2 rfl (by omega) (R n) m xs (by rfl) ((hO.alloc _).drew)
        ⟨W6.heap.size, 0, none⟩ 1 1 [.int .i64 (n : Int), .string t] (by rfl) (by rfl) (World.news_of_block (cs := #[.int .i64 (n : Int), .string t]) (t := 242) (fr := (0, 0)) (heap_alloc_new W6 _)) (by simp [Value.oneCell'])
        (by omega) HLm.out HLb.out (by have h5 := HB6.out; simp; omega) (W6.heap.size + 1) (by simp) ?_; intro gg cap w1 hown1 hgrow hat hlt; have hc9 : w1.cell? ⟨D, 1 + n, none⟩ = some (R n) := hgrow.cell (cell_al cR _) aD; have hf9 : w1.frozen? ⟨D, 1 + n, none⟩ = false := (World.frozen?_of_block (a := ⟨D, 1 + n, none⟩) (hgrow.block D hD6s aD)).trans fD6))
  all_goals
    clear hc9 hf9 cR cR2 fR fD6 d1 d2 d3
    have hHe : (w1.setCell ⟨D, 1 + n, none⟩ (.slice (some ⟨gg, 0, none⟩) (m + 1) cap)).cell? ⟨W.heap.size + 1, 0, none⟩ = some (.int .i64 (n : Int)) ∧ (w1.setCell ⟨D, 1 + n, none⟩ (.slice (some ⟨gg, 0, none⟩) (m + 1) cap)).cell? ⟨W.heap.size + 1, 1, none⟩ = some (.string t) := by
      rename_i hh
      exact ⟨hh.2.1, hh.2.2⟩
    obtain ⟨W7, hW7, hd7, hF7, hb7, hs7⟩ := ad_w7 (base := base) HD6.out hn HF6.out hDB hMB HB6.out hD0 H1.out hown1 hgrow hat
    obtain ⟨q2, q3⟩ := hHe
    rw [hW7] at q2 q3 ⊢
    have e7 : W7.cell? ⟨D, 402, none⟩ = some (.map (some M)) := hd7.cm
    have hlk7 : Sem.run Tryz.prog (Instr.lookup 208 (.map (some M)) (keyV n t) false) W7.drew = .ok (.slice none 0 0) W7.drew := by
      have := run_look (W := W7.drew) (M := M) (L := L) hd7.mp n t
      rwa [show lookL n t L = .slice none 0 0 by unfold lookL; rw [hix.out]] at this
    have HD7 := Lib.hid hd7
    have hDMs : some D ≠ some M := fun e => desk_ne hd7 (Option.some.inj e)
    have hMWs : some (W.heap.size + 1) ≠ some M := fun e => by cases e; have h5 := HBs.out; omega
    have HF7 := Lib.hid hF7
    have HB7 := Lib.hid hb7
    have HS7 := Lib.hid hs7
    have hBW7 : Hid (B ≤ W7.heap.size) := by have h5 := HB6.out; unfold Hid; omega
    clear hW7 hd7 hF7 hb7 hs7 hown1 hgrow hat hlt aD hD6s aw aw1 ao HLm HLb hz0 hz1 hz2 hi hn0 hn4
    go_wp2_with fail
    go_region_held3 (fun w' => w'.cell? ⟨D, 402, none⟩ = some (.map (some M)) ∧ w'.cell? ⟨W.heap.size + 1, 0, none⟩ = some (.int .i64 (n : Int)) ∧ w'.cell? ⟨W.heap.size + 1, 1, none⟩ = some (.string t))
      (first
        | go_keep
        | (go_split_ands
           refine ⟨?_, ?_, ?_⟩
           · (first | exact g7.out.cell (by assumption) (by simp [Value.ownBlock]) | exact G8.out.cell (by assumption) hDMs)
           · (first | exact g7.out.cell (by assumption) (by simp [Value.ownBlock]) | exact G8.out.cell (by assumption) hMWs)
           · (first | exact g7.out.cell (by assumption) (by simp [Value.ownBlock]) | exact G8.out.cell (by assumption) hMWs)))
      ((go_at_call 184; refine (withLast_new (.slice none 0 0) [] k B _ (World.ownsRow_nil _ _ _ _) (by simp) (by simp) (by exact hBW7.out)).mono ?_; rintro e w2 ⟨v2, rfl, hO7, hg7, hw7, hs27⟩; have g7 := Lib.hid hg7; have hm2 := MapIs.grown (W := W7.drew) HD7.out.mp hg7 (by simp [Value.ownBlock]); obtain ⟨W8, hr8, hm8, hg8⟩ := run_upd hm2 (n : Int) t v2; have G8 := Lib.hid hg8; have M8 := Lib.hid hm8; clear hg8 hm8 hm2 hg7))
    have gd : W7.grownBy W7.drew none := grown_dr W7
    have hd7' := HD7.out.grown gd (by simp) (by simp)
    have hF7' := HF7.out.kept gd (fun i => by cases ((if i = i1 then (⟨242, 2, .slice (some ⟨gg, 0, none⟩) (m + 1) cap, m + 1, xs ++ [.int .i64 (n : Int), .string t]⟩ : Row) else f i)).v.ownBlock <;> simp)
    obtain ⟨za, zb, zc, zd⟩ := ad_w9 (v := .slice none 0 0) (l := 0) (zs := []) (zs' := [.int .i64 k]) (i2 := i2) (base := base) hd7' hF7' hDB hMB hBW7.out hM0 hD0 (by rw [if_neg (fun e => h12 e.symm)]; exact H2.out) hO7 g7.out hw7 M8.out G8.out
    have zz : Hid (∃ v1 v2, Desk W8 D M (max last n) (fun j => if j = n then v1 else R j) (updL n t v2 L) ∧
      Fam B (fun j => if j = i2 then ⟨3, 1, v2, 1, [.int .i64 k]⟩ else if j = i1 then ⟨242, 2, v1, m + 1, xs ++ [.int .i64 (n : Int), .string t]⟩ else f j) W8 ∧ Below base W W8 ∧ W.heap.size ≤ W8.heap.size) := by
      have hsd : W7.drew.heap.size = W7.heap.size := rfl
      have h5 := HS5.out
      have h6 := HS6.out
      have h7 := HS7.out
      exact ⟨_, _, za, zb, ((((below_gr HG5.out (by omega) (fun k hk => by cases hk; exact hD0)).trans (below_gr HG6.out (by omega) (by simp))).trans HB7.out).trans (below_gr gd (by omega) (by simp))).trans zc, by omega⟩
    clear za zb zc zd hd7' hF7' gd
    go_wp2_with fail

    exact ⟨rfl, _, by simp [results, Tryz.results166, go_sem], rfl, zz.out⟩
end Go.Proofs.YtmfhpddeclggfaaGreatDoor
namespace Go.Proofs.YtmfhpddeclggfaaGreatDoor
open Go.RowKit
set_option maxRecDepth 100000 in
set_option maxHeartbeats 4000000 in
theorem add_old {ι : Type} [DecidableEq ι] (f : ι → Row) (i2 : ι) (B D M base : Nat) (hD0 : base ≤ D) (hM0 : base ≤ M) (last : Int) (R : Nat → Value) (L : List Ent) (k : Int) (n : Nat) (t : ByteArray) (a0 : Addr) (l0 c0 : Nat) (zs : List Int) (W : World)
    (hd : Desk W D M last R L) (hn : n ≤ 400) (hF : Fam B f W) (hB : B ≤ W.heap.size) (hDB : D < B) (hMB : M < B) (h2 : f i2 = ⟨3, 1, .slice (some a0) l0 c0, zs.length, cellsI zs⟩) (hzk : zs.getLast? ≠ some k) (hzl : zs.length ≤ 1000) (hi : lookL n t L = .slice (some a0) l0 c0) :
    Calls Tryz.prog 166 #[.pointer (some ⟨D, 0, none⟩), .int .i64 k, .agg #[.int .i64 (n : Int), .string t, .bool true]] W fun e w' => e = .returned (.tuple #[]) ∧ ∃ v2,
      Desk w' D M (max last n) R (updL n t v2 L) ∧
      Fam B (fun j => if j = i2 then ⟨3, 1, v2, zs.length + 1, cellsI (zs ++ [k])⟩ else f j) w' ∧ Below base W w' ∧ W.heap.size ≤ w'.heap.size := by
  have HD := Lib.hid hd
  have hix := Lib.hid hi
  have hDW : D < W.heap.size := by omega
  have HBs : Hid (B ≤ W.heap.size) := hB
  obtain ⟨hc0, cr, hc402, fz, mp⟩ := hd
  have cn := cr n hn
  have f0 := fz 0
  have fn := fz (1 + n)
  have HF := Lib.hid hF
  have HMP := Lib.hid mp
  clear cr fz mp hF hi
  go_enter Tryz.func166, Tryz.ntmps166
  go_wp2_with fail
  have hD1 : D ≠ W.heap.size := by omega
  have hD2 : W.heap.size ≠ D := by omega
  have hk1 : ∀ v, ((W.setCell ⟨D, 0, none⟩ v).alloc (.cells #[.int .i64 (n : Int), .string t, .bool true] 224)).drew.cell? ⟨W.heap.size, 0, none⟩ = some (.int .i64 (n : Int)) := fun v => new_set W _ v _ _ 0 _ rfl
  rw [show Op.load 3 (Operand.tmp 10) = id (Op.load 3 (Operand.tmp 10)) from rfl]
  go_region_held3 (fun w' => w'.cell? ⟨W.heap.size, 0, none⟩ = some (.int .i64 (n : Int))) (first | exact hk1 _ | go_keep) (fail)
  clear hk1
  go_wp2_with fail
  obtain ⟨W5, hW5, hs5, hg5, hd5, d1, d2, d3⟩ := ad_w5 W D M last (max last (n : Int)) R L n t HD.out
  rw [hW5]
  have HD5 := Lib.hid hd5
  have HG5 := Lib.hid hg5
  have HS5 := Lib.hid hs5
  have D1 := Lib.hid d1
  have D2 := Lib.hid d2
  have D3 := Lib.hid d3
  have e1 : W5.cell? ⟨D, 402, none⟩ = some (.map (some M)) := hd5.cm
  have hlk : ∀ m, Sem.run Tryz.prog (Instr.lookup 208 (.map (some M)) (keyV n t) false) (W5.drewN m) = .ok (.slice (some a0) l0 c0) (W5.drewN m) := by
    intro m
    have := run_look (W := W5.drewN m) (M := M) (L := L) hd5.mp n t
    rwa [hix.out] at this
  clear hW5 hg5 hs5 hd5 hc0 hc402 cn f0 fn
  have hnil := some85 a0 l0 c0
  go_quiet (fail)
  clear hlk hnil e1 d1 d2 d3
  go_wp2_with fail
  obtain ⟨W6, hW6⟩ : ∃ W6, W5.drewN nq = W6 := ⟨_, rfl⟩
  have g6 : W5.grownBy W6 none := by rw [← hW6]; exact ⟨rfl, rfl, rfl, Nat.le_refl _, fun _ _ _ => rfl⟩
  rw [hW6]
  have hD6 := HD5.out.grown g6 (by simp) (by simp)
  have hF6 : Fam B f W6 := (HF.out.kept HG5.out (fun i => by
    cases hb : (f i).v.ownBlock with
    | none => exact .inl rfl
    | some g => exact .inr (fun e => by have := ((HF.out.own i).lt g hb).1; cases e; omega))).kept g6 (fun i => by cases (f i).v.ownBlock <;> simp)
  have hs6 : W6.heap.size = W.heap.size + 2 := by rw [← hW6]; exact HS5.out
  have q2 := g6.cell D2.out (by simp)
  have q3 := g6.cell D3.out (by simp)
  have e7 : W6.cell? ⟨D, 402, none⟩ = some (.map (some M)) := hD6.cm
  have hlk7 : Sem.run Tryz.prog (Instr.lookup 208 (.map (some M)) (keyV n t) false) W6.drew = .ok (.slice (some a0) l0 c0) W6.drew := by
    have := run_look (W := W6.drew) (M := M) (L := L) hD6.mp n t
    rwa [hix.out] at this
  have HD7 := Lib.hid hD6
  have H2 := Lib.hid h2
  have HZK := Lib.hid hzk
  have HZL := Lib.hid hzl
  have hO2 := hF6.own i2
  rw [h2] at hO2
  have gd : W6.grownBy W6.drew none := grown_dr W6
  have HO2 := Lib.hid (hO2.kept gd (Classical.em _))
  have hDM0 : D ≠ M := desk_ne hD6
  have hMs : some D ≠ some M := fun e => hDM0 (Option.some.inj e)
  have hMWs : some (W.heap.size + 1) ≠ some M := fun e => by cases e; have h5 := HBs.out; omega
  have hvD : some D ≠ (Value.slice (some a0) l0 c0).ownBlock := fun e => by have h5 := (hO2.lt D e.symm).1; omega
  have hvM : (Value.slice (some a0) l0 c0).ownBlock ≠ some M := fun e => by have h5 := (hO2.lt M e).1; omega
  have hvW : some (W.heap.size + 1) ≠ (Value.slice (some a0) l0 c0).ownBlock := fun e => by
    have h5 := (HF.out.own i2).lt (W.heap.size + 1) (by rw [H2.out]; exact e.symm)
    omega
  have HF7 := Lib.hid hF6
  have HG6 := Lib.hid g6
  have HS6 := Lib.hid hs6
  have hBW7 : Hid (B ≤ W6.heap.size) := by unfold Hid; omega
  clear hW6 hD6 hF6 g6 hs6 h2 hzk hzl hO2 hB gd hDM0
  go_region_held3 (fun w' => w'.cell? ⟨D, 402, none⟩ = some (.map (some M)) ∧ w'.cell? ⟨W.heap.size + 1, 0, none⟩ = some (.int .i64 (n : Int)) ∧ w'.cell? ⟨W.heap.size + 1, 1, none⟩ = some (.string t))
      (first
        | go_keep
        | (go_split_ands
           refine ⟨?_, ?_, ?_⟩
           · (first | exact g7.out.cell (by assumption) hvD | exact G8.out.cell (by assumption) hMs)
           · (first | exact g7.out.cell (by assumption) hvW | exact G8.out.cell (by assumption) hMWs)
           · (first | exact g7.out.cell (by assumption) hvW | exact G8.out.cell (by assumption) hMWs)))
      ((go_at_call 184; refine (withLast_new (.slice (some a0) l0 c0) zs k B _ HO2.out HZK.out (by have h5 := HZL.out; omega) (by exact hBW7.out)).mono ?_; rintro e w2 ⟨v2, rfl, hO7, hg7, hw7, hs27⟩; have g7 := Lib.hid hg7; have hm2 := MapIs.grown (W := W6.drew) HD7.out.mp hg7 hvM; obtain ⟨W8, hr8, hm8, hg8⟩ := run_upd hm2 (n : Int) t v2; have G8 := Lib.hid hg8; have M8 := Lib.hid hm8; clear hg8 hm8 hm2 hg7))
  have gd : W6.grownBy W6.drew none := grown_dr W6
  have hd7' := HD7.out.grown gd (by simp) (by simp)
  have hF7' := HF7.out.kept gd (fun i => by cases (f i).v.ownBlock <;> simp)
  obtain ⟨za, zb, zc, zd⟩ := ad_w9 (v := .slice (some a0) l0 c0) (l := zs.length) (zs := cellsI zs) (zs' := cellsI (zs ++ [k])) (i2 := i2) (base := base) hd7' hF7' hDB hMB hBW7.out hM0 hD0 H2.out hO7 g7.out hw7 M8.out G8.out
  have zz : Hid (∃ v2, Desk W8 D M (max last n) R (updL n t v2 L) ∧
      Fam B (fun j => if j = i2 then ⟨3, 1, v2, zs.length + 1, cellsI (zs ++ [k])⟩ else f j) W8 ∧ Below base W W8 ∧ W.heap.size ≤ W8.heap.size) := by
    have hsd : W6.drew.heap.size = W6.heap.size := rfl
    have h5 := HS5.out
    have h6 := HS6.out
    exact ⟨_, za, zb, (((below_gr HG5.out (by omega) (fun k hk => by cases hk; exact hD0)).trans (below_gr HG6.out (by omega) (by simp))).trans (below_gr gd (by omega) (by simp))).trans zc, by omega⟩
  clear za zb zc zd hd7' hF7' gd
  go_wp2_with fail
  exact ⟨rfl, _, by simp [results, Tryz.results166, go_sem], rfl, zz.out⟩
end Go.Proofs.YtmfhpddeclggfaaGreatDoor
namespace Go.Proofs.YtmfhpddeclggfaaGreatDoor
open Go.RowKit
/-- What a desk's rows say: no reading, or one, with the copies that show it. -/
def entR (n : Int) (t : ByteArray) (v : Value) (ks : List Int) : List Ent := if ks = [] then [] else [(n, t, v)]
def rowR (n : Int) (t : ByteArray) (v : Value) (ks : List Int) : Row := if ks = [] then ⟨242, 2, v, 0, []⟩ else ⟨242, 2, v, 1, [.int .i64 n, .string t]⟩
def famL (t1 t2 : ByteArray) (R : Nat → Value) (v1 v2 : Value) (ks1 ks2 : List Int) (i : Fin 4) : Row :=
  if i = 0 then rowR 1 t1 (R 1) ks1 else if i = 1 then rowR 2 t2 (R 2) ks2 else if i = 2 then ⟨3, 1, v1, ks1.length, cellsI ks1⟩ else ⟨3, 1, v2, ks2.length, cellsI ks2⟩
/-- The desk with the readings of two lines. -/
def La (last : Int) (ks1 ks2 : List Int) (t1 t2 : ByteArray) (D M : Nat) (W : World) : Prop :=
  ∃ (B : Nat) (R : Nat → Value) (v1 v2 : Value), Desk W D M last R (entR 1 t1 v1 ks1 ++ entR 2 t2 v2 ks2) ∧ Fam B (famL t1 t2 R v1 v2 ks1 ks2) W ∧ B ≤ W.heap.size ∧ D < B ∧ M < B ∧ (ks1 = [] → v1 = .slice none 0 0) ∧ (ks2 = [] → v2 = .slice none 0 0)
theorem La.below {last : Int} {ks1 ks2 : List Int} {t1 t2 : ByteArray} {D M : Nat} {W W' : World} (h : La last ks1 ks2 t1 t2 D M W) (hb : Below W.heap.size W W') : La last ks1 ks2 t1 t2 D M W' := by
  obtain ⟨B, R, v1, v2, hd, hF, hB, hD, hM, n1, n2⟩ := h
  have c : ∀ a v, a.block < W.heap.size → W.cell? a = some v → W'.cell? a = some v := fun a v ha hv => (hb.cell ha).trans hv
  refine ⟨B, R, v1, v2, ⟨c _ _ (by show D < _; omega) hd.c0, fun n hn => c _ _ (by show D < _; omega) (hd.cr n hn), c _ _ (by show D < _; omega) hd.cm, fun o => (hb.frozen (p := ⟨D, o, none⟩) (by show D < _; omega)).trans (hd.fz o), ?_⟩, ⟨fun i => ownsRow_keep (hF.own i) hb, hF.apart⟩, Nat.le_trans hB hb.size, hD, hM, n1, n2⟩
  obtain ⟨es, clock, hm, hL⟩ := hd.mp
  exact ⟨es, clock, (hb.block M (by omega)).trans hm, hL⟩
theorem keyB_ne {a b : Int} (h : a ≠ b) (s t : ByteArray) : keyB a s b t = false := by simp [keyB, h]
theorem keyB_self (a : Int) (s : ByteArray) : keyB a s a s = true := by simp [keyB]
theorem fam_ext {B : Nat} {ι : Type} {f g : ι → Row} {W : World} (h : Fam B f W) (e : ∀ i, f i = g i) : Fam B g W := by
  rw [← funext e]; exact h
/-- The first line's first copy. -/
theorem la_1 (t1 t2 : ByteArray) (D M base : Nat) (W : World) (hD0 : base ≤ D) (hM0 : base ≤ M) (h : La 0 [] [] t1 t2 D M W) (k : Int) :
    Calls Tryz.prog 166 #[.pointer (some ⟨D, 0, none⟩), .int .i64 k, .agg #[.int .i64 1, .string t1, .bool true]] W fun e w' => e = .returned (.tuple #[]) ∧ La 1 [k] [] t1 t2 D M w' ∧ Below base W w' := by
  obtain ⟨B, R, v1, v2, hd, hF, hB, hD, hM, n1, n2⟩ := h
  have hv1 : v1 = .slice none 0 0 := n1 rfl
  subst hv1
  refine (add_new (famL t1 t2 R (.slice none 0 0) v2 [] []) 0 2 (by decide) B D M base hD0 hM0 0 R _ k 1 t1 0 [] W hd (by omega) hF hB hD hM (desk_ne hd) rfl (by omega) rfl rfl).mono ?_
  rintro e w' ⟨rfl, u1, u2, hd', hF', hb, hs⟩
  refine ⟨rfl, ⟨B, fun j => if j = 1 then u1 else R j, u2, v2, hd', fam_ext hF' ?_, by omega, hD, hM, by simp, n2⟩, hb⟩
  intro i
  match i with
  | 0 => rfl
  | 1 => rfl
  | 2 => rfl
  | 3 => rfl
/-- The second line's first copy. -/
theorem la_2 (t1 t2 : ByteArray) (D M base : Nat) (W : World) (hD0 : base ≤ D) (hM0 : base ≤ M) (ks1 : List Int) (h1 : ks1 ≠ []) (h : La 1 ks1 [] t1 t2 D M W) (k : Int) :
    Calls Tryz.prog 166 #[.pointer (some ⟨D, 0, none⟩), .int .i64 k, .agg #[.int .i64 2, .string t2, .bool true]] W fun e w' => e = .returned (.tuple #[]) ∧ La 2 ks1 [k] t1 t2 D M w' ∧ Below base W w' := by
  obtain ⟨B, R, v1, v2, hd, hF, hB, hD, hM, n1, n2⟩ := h
  have hv2 : v2 = .slice none 0 0 := n2 rfl
  subst hv2
  have hk : idxL 2 t2 (entR 1 t1 v1 ks1 ++ entR 2 t2 (.slice none 0 0) []) = none := by
    simp [entR, h1, idxL, keyB_ne]
  refine (add_new (famL t1 t2 R v1 (.slice none 0 0) ks1 []) 1 3 (by decide) B D M base hD0 hM0 1 R _ k 2 t2 0 [] W hd (by omega) hF hB hD hM (desk_ne hd) rfl (by omega) rfl hk).mono ?_
  rintro e w' ⟨rfl, u1, u2, hd', hF', hb, hs⟩
  refine ⟨rfl, ⟨B, fun j => if j = 2 then u1 else R j, v1, u2, ?_, fam_ext hF' ?_, by omega, hD, hM, n1, by simp⟩, hb⟩
  · have e : updL 2 t2 u2 (entR 1 t1 v1 ks1 ++ entR 2 t2 (.slice none 0 0) []) = entR 1 t1 v1 ks1 ++ entR 2 t2 u2 [k] := by
      unfold updL
      rw [hk]
      simp [entR, h1]
    rw [← e]
    exact hd'
  intro i
  match i with
  | 0 => rfl
  | 1 => rfl
  | 2 => rfl
  | 3 => rfl
/-- The second line's second copy. -/
theorem la_3 (t1 t2 : ByteArray) (D M base : Nat) (W : World) (hD0 : base ≤ D) (hM0 : base ≤ M) (ks1 ks2 : List Int) (h1 : ks1 ≠ []) (h2 : ks2 ≠ []) (k : Int) (hk : ks2.getLast? ≠ some k) (hl : ks2.length ≤ 1000) (h : La 2 ks1 ks2 t1 t2 D M W) :
    Calls Tryz.prog 166 #[.pointer (some ⟨D, 0, none⟩), .int .i64 k, .agg #[.int .i64 2, .string t2, .bool true]] W fun e w' => e = .returned (.tuple #[]) ∧ La 2 ks1 (ks2 ++ [k]) t1 t2 D M w' ∧ Below base W w' := by
  obtain ⟨B, R, v1, v2, hd, hF, hB, hD, hM, n1, n2⟩ := h
  have o3 := hF.own 3
  obtain ⟨a0, l0, c0, rfl⟩ : ∃ a0 l0 c0, v2 = .slice (some a0) l0 c0 := by
    rcases o3.2 with ⟨_, e⟩ | ⟨g, cap, cur, e, _⟩
    · exact absurd (List.length_eq_zero_iff.1 e) h2
    · exact ⟨_, _, _, e⟩
  have hix : idxL 2 t2 (entR 1 t1 v1 ks1 ++ entR 2 t2 (.slice (some a0) l0 c0) ks2) = some 1 := by
    simp [entR, h1, h2, idxL, keyB_ne, keyB_self]
  have hlk : lookL 2 t2 (entR 1 t1 v1 ks1 ++ entR 2 t2 (.slice (some a0) l0 c0) ks2) = .slice (some a0) l0 c0 := by
    unfold lookL
    rw [hix]
    simp [entR, h1, h2]
  refine (add_old (famL t1 t2 R v1 (.slice (some a0) l0 c0) ks1 ks2) 3 B D M base hD0 hM0 2 R _ k 2 t2 a0 l0 c0 ks2 W hd (by omega) hF hB hD hM rfl hk hl hlk).mono ?_
  rintro e w' ⟨rfl, u2, hd', hF', hb, hs⟩
  refine ⟨rfl, ⟨B, R, v1, u2, ?_, fam_ext hF' ?_, by omega, hD, hM, n1, by simp⟩, hb⟩
  · have e : updL 2 t2 u2 (entR 1 t1 v1 ks1 ++ entR 2 t2 (.slice (some a0) l0 c0) ks2) = entR 1 t1 v1 ks1 ++ entR 2 t2 u2 (ks2 ++ [k]) := by
      unfold updL
      rw [hix]
      simp [entR, h1, h2]
    rw [← e]
    exact hd'
  intro i
  match i with
  | 0 => rfl
  | 1 => simp [famL, rowR, h2]
  | 2 => rfl
  | 3 => simp [famL]
end Go.Proofs.YtmfhpddeclggfaaGreatDoor
namespace Go.Proofs.YtmfhpddeclggfaaGreatDoor
open Go.RowKit
theorem rep_in (N : Nat) (x z : Value) (R : List Value) (n : Nat) (h : n < N) : (List.replicate N x ++ z :: R)[n]? = some x := by
  rw [List.getElem?_append_left (by simpa using h), List.getElem?_replicate, if_pos h]
theorem rep_at (N : Nat) (x z : Value) (R : List Value) : (List.replicate N x ++ z :: R)[N]? = some z := by
  rw [List.getElem?_append_right (by simp)]; simp
theorem dk_cells (m : Nat) : (Tryz.zeroCells212.setIfInBounds 402 (.map (some m))).toList[0]? = some (.int .i64 0) ∧ (∀ n, n ≤ 400 → (Tryz.zeroCells212.setIfInBounds 402 (.map (some m))).toList[1 + n]? = some (.slice none 0 0)) ∧ (Tryz.zeroCells212.setIfInBounds 402 (.map (some m))).toList[402]? = some (.map (some m)) := by
  have e : (Tryz.zeroCells212.setIfInBounds 402 (.map (some m))).toList = .int .i64 0 :: (List.replicate 401 (.slice none 0 0) ++ .map (some m) :: List.replicate 401 (.slice none 0 0)) := by kernel_rfl
  rw [e]
  refine ⟨rfl, fun n hn => ?_, ?_⟩
  · rw [Nat.add_comm 1 n, List.getElem?_cons_succ]; exact rep_in _ _ _ _ n (Nat.lt_succ_of_le hn)
  · rw [show (402 : Nat) = 401 + 1 from rfl, List.getElem?_cons_succ]; exact rep_at _ _ _ _
/-- A desk that is laid anew. -/
theorem la_0 (t1 t2 : ByteArray) (W : World) (cs : Array Value) (h0 : cs.toList[0]? = some (.int .i64 0)) (h1 : ∀ n, n ≤ 400 → cs.toList[1 + n]? = some (.slice none 0 0)) (h2 : cs.toList[402]? = some (.map (some W.heap.size))) :
    La 0 [] [] t1 t2 (W.heap.size + 1) W.heap.size ((W.alloc (.map #[] 0)).alloc (.cells cs 212)) := by
  have hc : ∀ o v, cs.toList[o]? = some v → ((W.alloc (.map #[] 0)).alloc (.cells cs 212)).cell? ⟨W.heap.size + 1, o, none⟩ = some v := by
    intro o v h
    have := nw_at (W.alloc (.map #[] 0)) cs 212 o v h
    rwa [World.size_alloc] at this
  have hfz : ∀ o, ((W.alloc (.map #[] 0)).alloc (.cells cs 212)).frozen? ⟨W.heap.size + 1, o, none⟩ = false := by
    intro o
    have := frozen_new (W.alloc (.map #[] 0)) cs 212 o
    rwa [World.size_alloc] at this
  refine ⟨W.heap.size + 2, fun _ => .slice none 0 0, .slice none 0 0, .slice none 0 0, ⟨hc 0 _ h0, fun n hn => hc _ _ (h1 n hn), hc _ _ h2, hfz, ?_⟩, ⟨fun i => ?_, fun i j g hi => ?_⟩, by simp, by omega, by omega, fun _ => rfl, fun _ => rfl⟩
  · refine ⟨#[], 0, ?_, rfl⟩
    rw [(grown_al (W.alloc (.map #[] 0)) (.cells cs 212)).block W.heap.size (by simp) (by simp)]
    exact heap_last _ _
  · match i with
    | 0 => exact World.ownsRow_nil _ _ _ _
    | 1 => exact World.ownsRow_nil _ _ _ _
    | 2 => exact World.ownsRow_nil _ _ _ _
    | 3 => exact World.ownsRow_nil _ _ _ _
  · match i with
    | 0 => cases hi
    | 1 => cases hi
    | 2 => cases hi
    | 3 => cases hi
set_option maxRecDepth 100000 in
set_option maxHeartbeats 4000000 in
theorem lay_san (t1 t2 : ByteArray) (sb : Nat) (p0 p1 : Option Addr) (c0 c1 B0 : Nat) (W : World) (h0 : W.cell? ⟨sb, 0, none⟩ = some (.slice p0 2 c0)) (h1 : W.cell? ⟨sb, 1, none⟩ = some (.slice p1 1 c1)) (hs0 : ScAt B0 W p0 [⟨1, t1, true⟩, ⟨2, t2, true⟩]) (hs1 : ScAt B0 W p1 [⟨2, t2, true⟩]) :
    Calls Tryz.prog 140 #[.slice (some ⟨sb, 0, none⟩) 2 2] W fun e w' => ∃ D M, e = .returned (.pointer (some ⟨D, 0, none⟩)) ∧ La 2 [0] [0, 1] t1 t2 D M w' ∧ Below W.heap.size W w' := by
  have hmm := @run_makeMap Tryz.prog
  obtain ⟨k0, k1, k2⟩ := dk_cells W.heap.size
  obtain ⟨cs, hcs⟩ : ∃ cs, Tryz.zeroCells212.setIfInBounds 402 (.map (some W.heap.size)) = cs := ⟨_, rfl⟩
  rw [hcs] at k0 k1 k2
  have HL0 := Lib.hid (la_0 t1 t2 W cs k0 k1 k2)
  have hB0 : Below W.heap.size W ((W.alloc (.map #[] 0)).alloc (.cells cs 212)) := ((Below.refl _ _).alloc (Nat.le_refl _) _).alloc (by simp) _
  obtain ⟨W1, hW1⟩ : ∃ W1, (W.alloc (.map #[] 0)).alloc (.cells cs 212) = W1 := ⟨_, rfl⟩
  rw [hW1] at HL0 hB0
  have HB0 := Lib.hid hB0
  obtain ⟨g0, rfl, -, l0, m0⟩ : ∃ g, p0 = some ⟨g, 0, none⟩ ∧ B0 ≤ g ∧ g < W.heap.size ∧ ∀ j s, ([⟨1, t1, true⟩, ⟨2, t2, true⟩] : List Sc)[j]? = some s → W.cell? ⟨g, j * 3, none⟩ = some (.int .i64 s.n) ∧ W.cell? ⟨g, j * 3 + 1, none⟩ = some (.string s.t) ∧ W.cell? ⟨g, j * 3 + 2, none⟩ = some (.bool s.b) := hs0.resolve_left (by simp)
  obtain ⟨g1, rfl, -, l1, m1⟩ : ∃ g, p1 = some ⟨g, 0, none⟩ ∧ B0 ≤ g ∧ g < W.heap.size ∧ ∀ j s, ([⟨2, t2, true⟩] : List Sc)[j]? = some s → W.cell? ⟨g, j * 3, none⟩ = some (.int .i64 s.n) ∧ W.cell? ⟨g, j * 3 + 1, none⟩ = some (.string s.t) ∧ W.cell? ⟨g, j * 3 + 2, none⟩ = some (.bool s.b) := hs1.resolve_left (by simp)
  have hsb : sb < W.heap.size := World.block_lt_of_cell? W ⟨sb, 0, none⟩ h0
  -- all that is read, in any later world
  have RD : Hid (∀ w', Below W.heap.size W w' → w'.cell? ⟨sb, 0, none⟩ = some (.slice (some ⟨g0, 0, none⟩) 2 c0) ∧ w'.cell? ⟨sb, 1, none⟩ = some (.slice (some ⟨g1, 0, none⟩) 1 c1) ∧
      (w'.cell? ⟨g0, 0, none⟩ = some (.int .i64 1) ∧ w'.cell? ⟨g0, 1, none⟩ = some (.string t1) ∧ w'.cell? ⟨g0, 2, none⟩ = some (.bool true)) ∧
      (w'.cell? ⟨g0, 3, none⟩ = some (.int .i64 2) ∧ w'.cell? ⟨g0, 4, none⟩ = some (.string t2) ∧ w'.cell? ⟨g0, 5, none⟩ = some (.bool true)) ∧
      (w'.cell? ⟨g1, 0, none⟩ = some (.int .i64 2) ∧ w'.cell? ⟨g1, 1, none⟩ = some (.string t2) ∧ w'.cell? ⟨g1, 2, none⟩ = some (.bool true))) := by
    intro w' hb
    have c : ∀ b o v, b < W.heap.size → W.cell? ⟨b, o, none⟩ = some v → w'.cell? ⟨b, o, none⟩ = some v := fun b o v hl h => (hb.cell (p := ⟨b, o, none⟩) hl).trans h
    obtain ⟨a1, a2, a3⟩ := m0 0 _ rfl
    obtain ⟨a4, a5, a6⟩ := m0 1 _ rfl
    obtain ⟨a7, a8, a9⟩ := m1 0 _ rfl
    exact ⟨c _ _ _ hsb h0, c _ _ _ hsb h1, ⟨c _ _ _ l0 a1, c _ _ _ l0 a2, c _ _ _ l0 a3⟩, ⟨c _ _ _ l0 a4, c _ _ _ l0 a5, c _ _ _ l0 a6⟩, c _ _ _ l1 a7, c _ _ _ l1 a8, c _ _ _ l1 a9⟩
  clear k0 k1 k2 hs0 hs1 h0 h1 l0 l1 m0 m1 hsb hB0
  go_enter Tryz.func140, Tryz.ntmps140
  go_wp2_with fail
  clear hcs hW1 hmm
  obtain ⟨r0, r1, ⟨r2, r3, r4⟩, -⟩ := RD.out W1 HB0.out
  have b0 : Below W.heap.size W1 (W1.alloc (.cells #[.int .i64 1, .string t1, .bool true] 224)) := (Below.refl _ _).alloc HB0.out.size _
  have c0 := HL0.out.below (below_alloc1 W1 (.cells #[.int .i64 1, .string t1, .bool true] 224))
  have C1 := Lib.hid (la_1 t1 t2 (W.heap.size + 1) W.heap.size W.heap.size _ (by omega) (by omega) c0 0)
  have HX0 := Lib.hid b0
  clear b0 c0
  refine wp_loop_rounds 3 ?_
  rw [rounds_succ]
  go_wp2_with fail
  refine wp_loop_rounds 3 ?_
  rw [rounds_succ]
  go_wp2_with fail
  refine C1.out.mono ?_
  rintro e W2 ⟨rfl, hl, hb⟩
  have HB2 : Hid (Below W.heap.size W W2) := (HB0.out.trans HX0.out).trans hb
  have c0 := hl.below (below_alloc1 W2 (.cells #[.int .i64 2, .string t2, .bool true] 224))
  have C2 := Lib.hid (la_2 t1 t2 (W.heap.size + 1) W.heap.size W.heap.size _ (by omega) (by omega) [0] (by simp) c0 0)
  have HX2 : Hid (Below W.heap.size W2 (W2.alloc (.cells #[.int .i64 2, .string t2, .bool true] 224))) := (Below.refl _ _).alloc HB2.out.size _
  clear C1 hl hb c0 HL0 r0 r1 r2 r3 r4
  obtain ⟨r0, r1, -, ⟨r2, r3, r4⟩, -⟩ := RD.out W2 HB2.out
  go_wp2_with fail
  rw [rounds_succ]
  go_wp2_with fail
  refine C2.out.mono ?_
  rintro e W3 ⟨rfl, hl, hb⟩
  have HB3 : Hid (Below W.heap.size W W3) := (HB2.out.trans HX2.out).trans hb
  have c0 := hl.below (below_alloc1 W3 (.cells #[.int .i64 2, .string t2, .bool true] 224))
  have C3 := Lib.hid (la_3 t1 t2 (W.heap.size + 1) W.heap.size W.heap.size _ (by omega) (by omega) [0] [0] (by simp) (by simp) 1 (by simp) (by simp) c0)
  have HX3 : Hid (Below W.heap.size W3 (W3.alloc (.cells #[.int .i64 2, .string t2, .bool true] 224))) := (Below.refl _ _).alloc HB3.out.size _
  clear C2 hl hb c0 r0 r1 r2 r3 r4
  obtain ⟨r0, r1, -, -, ⟨r2, r3, r4⟩⟩ := RD.out W3 HB3.out
  go_wp2_with fail
  rw [rounds_succ]
  go_wp2_with fail
  rw [rounds_succ]
  go_wp2_with fail
  refine wp_loop_rounds 2 ?_
  rw [rounds_succ]
  go_wp2_with fail
  refine C3.out.mono ?_
  rintro e W4 ⟨rfl, hl, hb⟩
  have HB4 : Hid (Below W.heap.size W W4) := (HB3.out.trans HX3.out).trans hb
  have HL4 := Lib.hid hl
  clear C3 hl hb r0 r1 r2 r3 r4
  go_wp2_with fail
  rw [rounds_succ]
  go_wp2_with fail
  rw [rounds_succ]
  go_wp2_with fail
  go_ret
  exact ⟨_, _, rfl, HL4.out, HB4.out⟩
end Go.Proofs.YtmfhpddeclggfaaGreatDoor
namespace Go.Proofs.YtmfhpddeclggfaaGreatDoor
open Go.RowKit
theorem inf87 : (Tryz.prog.info? 87).map (fun i => (i.zero, i.size, i.bytes)) = some (some (.agg #[.int .i64 0, .slice none 0 0, .slice none 0 0, .bool false]), 4, 64) := by kernel_rfl
set_option maxRecDepth 100000 in
set_option maxHeartbeats 4000000 in
theorem found_one (t : ByteArray) (n : Nat) (D M : Nat) (last : Int) (R : Nat → Value) (L : List Ent) (g cap : Nat) (pc : Option Addr) (lc cc : Nat) (W : World) (hn : n ≤ 400) (hd : Desk W D M last R L) (hR : R n = .slice (some ⟨g, 0, none⟩) 1 cap) (_hg : g < W.heap.size)
    (hc0 : W.cell? ⟨g, 0, none⟩ = some (.int .i64 n)) (hc1 : W.cell? ⟨g, 1, none⟩ = some (.string t)) (hl : lookL n t L = (.slice pc lc cc)) (ht : t.size ≤ 1000000) (he : Env W) :
    Calls Tryz.prog 141 #[.pointer (some ⟨D, 0, none⟩), .int .i64 n] W fun e w' => ∃ (v' : Value) (n' : Int) (p : Option Addr) (k c : Nat), e = .returned v' ∧ w'.ownsRow W.heap.size 87 4 v' 1 [.int .i64 n', .slice p k c, (.slice pc lc cc), .bool false] ∧ Below W.heap.size W w' := by
  have HD := Lib.hid hd
  have HE := Lib.hid he
  have hDW : D < W.heap.size := World.block_lt_of_cell? W ⟨D, 0, none⟩ hd.c0
  have cR := hd.cr n hn
  rw [hR] at cR
  have cM := hd.cm
  have hn0 : (0 : Int) ≤ (n : Int) := by omega
  have hn4 : (n : Int) < 401 := by omega
  have RDS := Lib.hid (sRead t (W.alloc (.cells #[.int .i64 n, .string t] 242)) ht (he.next (below_alloc1 _ _)))
  clear hd he
  go_enter Tryz.func141, Tryz.ntmps141
  go_wp2_with fail
  refine wp_loop_rounds 2 ?_
  rw [rounds_succ]
  go_wp2_with fail
  refine RDS.out.mono ?_
  rintro e w1 hr
  obtain ⟨hb, n', p, k, c, er⟩ := rd_any hr
  subst er
  have hbW : Below W.heap.size W w1 := (below_alloc1 W _).trans (hb.mono (by simp))
  have hd1 : Desk w1 D M last R L := HD.out.grown (row := none) ⟨hbW.os, hbW.tape, hbW.output, hbW.size, fun i hi _ => hbW.block i hi⟩ (by simp) (by simp)
  have hs1 : W.heap.size + 1 ≤ w1.heap.size := by have := hb.size; simpa using this
  have q0 : w1.cell? ⟨W.heap.size, 0, none⟩ = some (.int .i64 n) := (hb.cell (p := ⟨W.heap.size, 0, none⟩) (by simp)).trans (nw_at W _ 242 0 _ rfl)
  have q1 : w1.cell? ⟨W.heap.size, 1, none⟩ = some (.string t) := (hb.cell (p := ⟨W.heap.size, 1, none⟩) (by simp)).trans (nw_at W _ 242 1 _ rfl)
  have HD1 := Lib.hid hd1
  have HBW := Lib.hid hbW
  have HS1 := Lib.hid hs1
  have hne : W.heap.size ≠ w1.heap.size := by omega
  have q2 : (w1.alloc (.cells #[.int .i64 n', .slice p k c] 39)).cell? ⟨W.heap.size, 0, none⟩ = some (.int .i64 n) := cell_al q0 _
  have q3 : (w1.alloc (.cells #[.int .i64 n', .slice p k c] 39)).cell? ⟨W.heap.size, 1, none⟩ = some (.string t) := cell_al q1 _
  have q4 : (w1.alloc (.cells #[.int .i64 n', .slice p k c] 39)).cell? ⟨D, 402, none⟩ = some (.map (some M)) := cell_al hd1.cm _
  have q5 : (w1.alloc (.cells #[.int .i64 n', .slice p k c] 39)).cell? ⟨w1.heap.size, 0, none⟩ = some (.int .i64 n') := nw_at w1 _ 39 0 _ rfl
  have q6 : (w1.alloc (.cells #[.int .i64 n', .slice p k c] 39)).cell? ⟨w1.heap.size, 1, none⟩ = some (.slice p k c) := nw_at w1 _ 39 1 _ rfl
  clear RDS hr hb hbW hd1 hs1
  go_wp2_with fail
  obtain ⟨W2, hW2⟩ : ∃ W2, w1.alloc (.cells #[.int .i64 n', .slice p k c] 39) = W2 := ⟨_, rfl⟩
  rw [hW2] at q2 q3 q4 q5 q6
  have hd2 : Desk W2 D M last R L := HD1.out.grown (hW2 ▸ grown_al w1 _) (by simp) (by simp)
  have hlk7 : Sem.run Tryz.prog (Instr.lookup 208 (.map (some M)) (keyV n t) false) W2.drew = .ok (.slice pc lc cc) W2.drew := by
    have := run_look (W := W2.drew) (M := M) (L := L) (hd2.mp.grown (grown_dr W2) (by simp)) n t
    rwa [hl] at this
  have hs2 : W2.heap.size = w1.heap.size + 1 := by rw [← hW2]; simp
  have hg2 : Hid (w1.grownBy W2 none) := hW2 ▸ grown_al w1 _
  have HS2 := Lib.hid hs2
  try rw [hW2]
  clear hW2 hd2 hs2 q0 q1
  obtain ⟨i0, hi, hz0, hz1, hz2⟩ := info_parts inf87
  go_region_held3 (fun w' => w'.cell? ⟨W.heap.size, 0, none⟩ = some (.int .i64 (n : Int)) ∧ w'.cell? ⟨W.heap.size, 1, none⟩ = some (.string t) ∧ w'.cell? ⟨D, 402, none⟩ = some (.map (some M)) ∧ w'.cell? ⟨w1.heap.size, 0, none⟩ = some (.int .i64 n') ∧ w'.cell? ⟨w1.heap.size, 1, none⟩ = some (.slice p k c))
    (first
      | go_keep
      | (go_split_ands
         refine ⟨?_, ?_, ?_, ?_, ?_⟩ <;> (rw [hgrow.cell (by assumption) (by simp [Value.ownBlock])])))
    ((refine step_append_lies _ (by rfl) _ _ _ (by rfl) W.heap.size 87 i0 _ 4 64 Tryz.underlying75 hi hz0 hz1 hz2 rfl (by omega) (.slice none 0 0) 0 [] (by rfl) (World.ownsRow_nil _ _ _ _)
        ⟨W2.heap.size, 0, none⟩ 1 1 [.int .i64 n', .slice p k c, (.slice pc lc cc), .bool false] (by rfl) (by rfl) (World.news_of_block (cs := #[.int .i64 n', .slice p k c, (.slice pc lc cc), .bool false]) (t := 87) (fr := (0, 0)) (heap_alloc_new W2 _)) (by simp [Value.oneCell'])
        (by omega) (by unfold maxLen; omega) (by omega) (by have h5 := HS1.out; have h6 := HS2.out; simp; omega) (W2.heap.size + 1) (by simp) ?_; intro gg cap w9 hown1 hgrow hat hlt))
  have zz : Hid (Below W.heap.size W w9) := by
    have h5 := HS1.out
    have h6 := HS2.out
    refine (HBW.out.trans (below_gr hg2.out (by omega) (by simp))).trans (below_gr (grown_tr (grown_tr (grown_al W2 _) (grown_dr _)) hgrow) (by omega) (by simp))
  have zo := Lib.hid hown1
  clear hown1 hgrow hat hlt
  go_wp2_with fail
  rw [rounds_succ]
  go_wp2_with fail
  go_ret
  exact ⟨_, n', p, k, c, rfl, zo.out, zz.out⟩
end Go.Proofs.YtmfhpddeclggfaaGreatDoor
namespace Go.Proofs.YtmfhpddeclggfaaGreatDoor
open Go.RowKit
theorem own_at {W : World} {B : Nat} {e : TypeId} {s n : Nat} {v : Value} {xs : List Value} (h : W.ownsRow B e s v n xs) (hn : 0 < n) (hl : xs.length = n * s) : ∃ g cap, v = .slice (some ⟨g, 0, none⟩) n cap ∧ B ≤ g ∧ g < W.heap.size ∧ ∀ j u, xs[j]? = some u → W.cell? ⟨g, j, none⟩ = some u := by
  obtain ⟨h1, ⟨rfl, h2⟩ | ⟨g, cap, cur, rfl, hg, hc, h3, h4, h5, h6⟩⟩ := h
  · exact absurd h2 (by omega)
  · refine ⟨g, cap, rfl, hg, (Array.getElem?_eq_some_iff.1 hc).1, fun j u hj => ?_⟩
    have hjl : j < xs.length := (List.getElem?_eq_some_iff.1 hj).1
    rw [← h6, List.getElem?_take_of_lt (by omega)] at hj
    simpa [World.cell?, hc] using hj
/-- What is read of a desk with two lines. -/
theorem la_read {ks1 ks2 : List Int} {t1 t2 : ByteArray} {D M : Nat} {W : World} (h1 : ks1 ≠ []) (h2 : ks2 ≠ []) (h : La 2 ks1 ks2 t1 t2 D M W) :
    ∃ (R : Nat → Value) (L : List Ent), Desk W D M 2 R L ∧
      (∃ g cap, R 1 = .slice (some ⟨g, 0, none⟩) 1 cap ∧ g < W.heap.size ∧ W.cell? ⟨g, 0, none⟩ = some (.int .i64 1) ∧ W.cell? ⟨g, 1, none⟩ = some (.string t1)) ∧
      (∃ g cap, R 2 = .slice (some ⟨g, 0, none⟩) 1 cap ∧ g < W.heap.size ∧ W.cell? ⟨g, 0, none⟩ = some (.int .i64 2) ∧ W.cell? ⟨g, 1, none⟩ = some (.string t2)) ∧
      (∃ a c, lookL 1 t1 L = .slice (some a) ks1.length c) ∧ (∃ a c, lookL 2 t2 L = .slice (some a) ks2.length c) := by
  obtain ⟨B, R, v1, v2, hd, hF, hB, hD, hM, n1, n2⟩ := h
  have o0 := hF.own 0
  have o1 := hF.own 1
  have o2 := hF.own 2
  have o3 := hF.own 3
  have e0 : famL t1 t2 R v1 v2 ks1 ks2 0 = ⟨242, 2, R 1, 1, [.int .i64 1, .string t1]⟩ := by simp [famL, rowR, h1]
  have e1 : famL t1 t2 R v1 v2 ks1 ks2 1 = ⟨242, 2, R 2, 1, [.int .i64 2, .string t2]⟩ := by simp [famL, rowR, h2]
  rw [e0] at o0
  rw [e1] at o1
  have hl1 : 0 < ks1.length := List.length_pos_iff.2 h1
  have hl2 : 0 < ks2.length := List.length_pos_iff.2 h2
  obtain ⟨g0, p0, r0, -, b0, c0⟩ := own_at o0 Nat.one_pos rfl
  obtain ⟨g1, p1, r1, -, b1, c1⟩ := own_at o1 Nat.one_pos rfl
  obtain ⟨g2, p2, r2, -⟩ := own_at (W := W) (B := B) (e := 3) (s := 1) (n := ks1.length) (v := v1) (xs := cellsI ks1) o2 hl1 (by simp [cellsI])
  obtain ⟨g3, p3, r3, -⟩ := own_at (W := W) (B := B) (e := 3) (s := 1) (n := ks2.length) (v := v2) (xs := cellsI ks2) o3 hl2 (by simp [cellsI])
  refine ⟨R, _, hd, ⟨g0, p0, r0, b0, c0 0 _ rfl, c0 1 _ rfl⟩, ⟨g1, p1, r1, b1, c1 0 _ rfl, c1 1 _ rfl⟩, ⟨⟨g2, 0, none⟩, p2, ?_⟩, ⟨⟨g3, 0, none⟩, p3, ?_⟩⟩
  · simp only [lookL, entR, h1, h2, if_false, List.cons_append, List.nil_append, idxL, keyB_self, if_true]
    simpa using r2
  · simp only [lookL, entR, h1, h2, if_false, List.cons_append, List.nil_append, idxL, keyB_self, keyB_ne (show (2 : Int) ≠ 1 by decide), if_true]
    simpa using r3
/-- What found leaves where a number has one reading. -/
def FoundP (W : World) (len : Nat) (e : Ending) (w' : World) : Prop :=
  ∃ (g cap : Nat) (n' : Int) (p : Option Addr) (k c : Nat) (pc : Option Addr) (cc : Nat), e = .returned (.slice (some ⟨g, 0, none⟩) 1 cap) ∧ W.heap.size ≤ g ∧ g < w'.heap.size ∧
    (w'.cell? ⟨g, 0, none⟩ = some (.int .i64 n') ∧ w'.cell? ⟨g, 1, none⟩ = some (.slice p k c) ∧ w'.cell? ⟨g, 2, none⟩ = some (.slice pc len cc) ∧ w'.cell? ⟨g, 3, none⟩ = some (.bool false)) ∧ Below W.heap.size W w'
theorem found_1 {ks1 ks2 : List Int} {t1 t2 : ByteArray} {D M : Nat} {W : World} (h1 : ks1 ≠ []) (h2 : ks2 ≠ []) (h : La 2 ks1 ks2 t1 t2 D M W) (ht : t1.size ≤ 1000000) (he : Env W) :
    Calls Tryz.prog 141 #[.pointer (some ⟨D, 0, none⟩), .int .i64 1] W (FoundP W ks1.length) := by
  obtain ⟨R, L, hd, ⟨g, cap, a1, a2, a3, a4⟩, -, ⟨a, c, hl⟩, -⟩ := la_read h1 h2 h
  refine (found_one t1 1 D M 2 R L g cap (some a) _ c W (by decide) hd a1 a2 a3 a4 hl ht he).mono ?_
  rintro e w' ⟨v', n', p, k, c', rfl, ho, hb⟩
  obtain ⟨g', cap', rfl, u1, u2, u3⟩ := own_at ho (by decide) rfl
  exact ⟨g', cap', n', p, k, c', some a, c, rfl, u1, u2, ⟨u3 0 _ rfl, u3 1 _ rfl, u3 2 _ rfl, u3 3 _ rfl⟩, hb⟩
theorem found_2 {ks1 ks2 : List Int} {t1 t2 : ByteArray} {D M : Nat} {W : World} (h1 : ks1 ≠ []) (h2 : ks2 ≠ []) (h : La 2 ks1 ks2 t1 t2 D M W) (ht : t2.size ≤ 1000000) (he : Env W) :
    Calls Tryz.prog 141 #[.pointer (some ⟨D, 0, none⟩), .int .i64 2] W (FoundP W ks2.length) := by
  obtain ⟨R, L, hd, -, ⟨g, cap, a1, a2, a3, a4⟩, -, ⟨a, c, hl⟩⟩ := la_read h1 h2 h
  refine (found_one t2 2 D M 2 R L g cap (some a) _ c W (by decide) hd a1 a2 a3 a4 hl ht he).mono ?_
  rintro e w' ⟨v', n', p, k, c', rfl, ho, hb⟩
  obtain ⟨g', cap', rfl, u1, u2, u3⟩ := own_at ho (by decide) rfl
  exact ⟨g', cap', n', p, k, c', some a, c, rfl, u1, u2, ⟨u3 0 _ rfl, u3 1 _ rfl, u3 2 _ rfl, u3 3 _ rfl⟩, hb⟩
end Go.Proofs.YtmfhpddeclggfaaGreatDoor
