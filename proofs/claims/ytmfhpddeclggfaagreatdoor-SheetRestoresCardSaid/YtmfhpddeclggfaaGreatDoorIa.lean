import Derived.Test.YtmfhpddeclggfaaGreatDoorKe
import Derived.Laws.StructEq
import Derived.MapKept
import Derived.WideKeyRuns
import Derived.Maps.Own
import Derived.WalkKit
import Derived.LoopTactic
import Derived.WalkSpells
import Derived.WalkLawsBesides
import Derived.Lib.Hide
import Derived.BigQuiet
import Derived.IntWalk
import Derived.Deep.DeepMust
import Derived.WalkSmall
import Derived.StillTailTactics
import Derived.Deep.RegionLaw
import Derived.Deep.QuietTactic
import Derived.Deep.RegionHeld3
import Derived.Deep.AppendLies
import Derived.Carry
import Derived.Laws.Tables
namespace Go.Proofs.YtmfhpddeclggfaaGreatDoor
open Go.RowKit
/-! The desk with its other scraps. -/
/-- The desk, as it lies. -/
structure Dk (W : World) (D M : Nat) (last : Int) (R O : Nat → Value) (L : List Ent) : Prop where
  c0 : W.cell? ⟨D, 0, none⟩ = some (.int .i64 last)
  cr : ∀ n, n ≤ 400 → W.cell? ⟨D, 1 + n, none⟩ = some (R n)
  co : ∀ n, n ≤ 400 → W.cell? ⟨D, 403 + n, none⟩ = some (O n)
  cm : W.cell? ⟨D, 402, none⟩ = some (.map (some M))
  fz : ∀ o, W.frozen? ⟨D, o, none⟩ = false
  mp : MapIs W M L
theorem dk_ne {W : World} {D M : Nat} {last : Int} {R O : Nat → Value} {L : List Ent} (h : Dk W D M last R O L) : D ≠ M := by
  intro e
  obtain ⟨es, clock, hm, -⟩ := h.mp
  have := h.c0
  rw [← e] at hm
  simp [World.cell?, hm] at this
theorem Dk.grown {W W' : World} {D M : Nat} {last : Int} {R O : Nat → Value} {L : List Ent} {row : Option Nat} (h : Dk W D M last R O L) (hg : W.grownBy W' row) (h1 : row ≠ some D) (h2 : row ≠ some M) : Dk W' D M last R O L := by
  have hD : D < W.heap.size := World.block_lt_of_cell? W ⟨D, 0, none⟩ h.c0
  have hb := hg.block D hD (fun e => h1 e.symm)
  exact ⟨(World.cell?_of_block (a := ⟨D, 0, none⟩) hb).trans h.c0, fun n hn => (World.cell?_of_block (a := ⟨D, 1 + n, none⟩) hb).trans (h.cr n hn), fun n hn => (World.cell?_of_block (a := ⟨D, 403 + n, none⟩) hb).trans (h.co n hn), (World.cell?_of_block (a := ⟨D, 402, none⟩) hb).trans h.cm, fun o => (World.frozen?_of_block (a := ⟨D, o, none⟩) hb).trans (h.fz o), h.mp.grown hg h2⟩
theorem Dk.max {W : World} {D M : Nat} {last : Int} {R O : Nat → Value} {L : List Ent} (h : Dk W D M last R O L) (x : Int) : Dk (W.setCell ⟨D, 0, none⟩ (.int .i64 x)) D M x R O L := by
  refine ⟨World.cell?_setCell_same _ _ _ h.c0, fun n hn => ?_, fun n hn => ?_, ?_, fun o => ?_, h.mp.grown (grownBy_setCell' W D _) (fun e => dk_ne h (Option.some.inj e))⟩
  · rw [World.cell?_setCell_other _ _ _ _ (addr_ne (by omega))]; exact h.cr n hn
  · rw [World.cell?_setCell_other _ _ _ _ (addr_ne (by omega))]; exact h.co n hn
  · rw [World.cell?_setCell_other _ _ _ _ (addr_ne (by omega))]; exact h.cm
  · rw [World.frozen?_setCell]; exact h.fz o
theorem Dk.row {W : World} {D M : Nat} {last : Int} {R O : Nat → Value} {L : List Ent} (h : Dk W D M last R O L) (n : Nat) (hn : n ≤ 400) (v : Value) : Dk (W.setCell ⟨D, 1 + n, none⟩ v) D M last (fun j => if j = n then v else R j) O L := by
  refine ⟨?_, fun m hm => ?_, fun m hm => ?_, ?_, fun o => ?_, h.mp.grown (grownBy_setCellAt W D (1 + n) v) (fun e => dk_ne h (Option.some.inj e))⟩
  · rw [World.cell?_setCell_other _ _ _ _ (addr_ne (by omega))]; exact h.c0
  · by_cases e : m = n
    · subst e
      simp only [if_true]
      exact World.cell?_setCell_same _ _ _ (h.cr m hm)
    · rw [World.cell?_setCell_other _ _ _ _ (addr_ne (by omega)), if_neg e]; exact h.cr m hm
  · rw [World.cell?_setCell_other _ _ _ _ (addr_ne (by omega))]; exact h.co m hm
  · rw [World.cell?_setCell_other _ _ _ _ (addr_ne (by omega))]; exact h.cm
  · rw [World.frozen?_setCell]; exact h.fz o
/-- The world behind the first steps of add. -/
theorem ak_w5 (W : World) (D M : Nat) (last x : Int) (R O : Nat → Value) (L : List Ent) (n : Int) (t : ByteArray) (hd : Dk W D M last R O L) :
    ∃ W5, (((W.setCell ⟨D, 0, none⟩ (.int .i64 x)).alloc (.cells #[.int .i64 n, .string t, .bool true] 224)).alloc (.cells #[.int .i64 n, .string t] 242)).drew = W5 ∧ W5.heap.size = W.heap.size + 2 ∧ W.grownBy W5 (some D) ∧ Dk W5 D M x R O L ∧
      W5.cell? ⟨W.heap.size, 0, none⟩ = some (.int .i64 n) ∧ W5.cell? ⟨W.heap.size + 1, 0, none⟩ = some (.int .i64 n) ∧ W5.cell? ⟨W.heap.size + 1, 1, none⟩ = some (.string t) := by
  have h6 : ∀ (V : World) (j : Nat) (u : Value), (#[Value.int .i64 n, .string t] : Array Value).toList[j]? = some u → V.heap.size = W.heap.size + 1 → (V.alloc (.cells #[.int .i64 n, .string t] 242)).cell? ⟨W.heap.size + 1, j, none⟩ = some u := by
    intro V j u hu hV
    have := nw_at V _ 242 j u hu
    rwa [hV] at this
  refine ⟨_, rfl, by simp, ?_, ?_, ?_, ?_, ?_⟩
  · exact grown_tr (grown_tr (grown_tr (grownBy_setCell' W D _) (grown_wk (grown_al _ _))) (grown_wk (grown_al _ _))) (grown_wk (grown_dr _))
  · exact (((hd.max x).grown (grown_al _ _) (by simp) (by simp)).grown (grown_al _ _) (by simp) (by simp)).grown (grown_dr _) (by simp) (by simp)
  · exact cell_al (new_set W _ _ _ _ 0 _ rfl) _
  · exact h6 _ 0 _ rfl (by simp)
  · exact h6 _ 1 _ rfl (by simp)
/-- The world behind the reading that is appended. -/
theorem ak_w7 {ι : Type} [DecidableEq ι] {f : ι → Row} {i1 : ι} {B D M base : Nat} {last : Int} {R O : Nat → Value} {L : List Ent} {n m : Nat} {t : ByteArray} {xs : List Value} {W6 w1 : World} {gg cap : Nat}
    (hd : Dk W6 D M last R O L) (hn : n ≤ 400) (hF : Fam B f W6) (hDB : D < B) (hMB : M < B) (hB : B ≤ W6.heap.size) (hD0 : base ≤ D) (h1 : f i1 = ⟨242, 2, R n, m, xs⟩)
    (hown : w1.ownsRow B 242 2 (.slice (some ⟨gg, 0, none⟩) (m + 1) cap) (m + 1) (xs ++ [.int .i64 (n : Int), .string t]))
    (hgrow : (W6.alloc (.cells #[.int .i64 (n : Int), .string t] 242)).drew.grownBy w1 (R n).ownBlock) (hat : (R n).ownBlock = some gg ∨ gg = W6.heap.size + 1) :
    ∃ W7, w1.setCell ⟨D, 1 + n, none⟩ (.slice (some ⟨gg, 0, none⟩) (m + 1) cap) = W7 ∧ Dk W7 D M last (fun j => if j = n then .slice (some ⟨gg, 0, none⟩) (m + 1) cap else R j) O L ∧
      Fam B (fun j => if j = i1 then ⟨242, 2, .slice (some ⟨gg, 0, none⟩) (m + 1) cap, m + 1, xs ++ [.int .i64 (n : Int), .string t]⟩ else f j) W7 ∧ Below base W6 W7 ∧ W6.heap.size ≤ W7.heap.size := by
  have hr : ∀ k, (R n).ownBlock = some k → B ≤ k ∧ k < W6.heap.size := fun k hk => by
    have h5 := (hF.own i1).lt k
    rw [h1] at h5
    exact h5 hk
  have hnD : (R n).ownBlock ≠ some D := fun e => by have := hr D e; omega
  have hnM : (R n).ownBlock ≠ some M := fun e => by have := hr M e; omega
  have hga : W6.grownBy (W6.alloc (.cells #[.int .i64 (n : Int), .string t] 242)).drew none := grown_tr (grown_al _ _) (grown_dr _)
  have hd1 := (hd.grown hga (by simp) (by simp)).grown hgrow hnD hnM
  have hFa := hF.kept hga (fun i => by cases (f i).v.ownBlock <;> simp)
  have hs6 : (W6.alloc (.cells #[.int .i64 (n : Int), .string t] 242)).drew.heap.size = W6.heap.size + 1 := by show (W6.alloc _).heap.size = _; simp
  have hF1 := hFa.grown i1 ⟨242, 2, .slice (some ⟨gg, 0, none⟩) (m + 1) cap, m + 1, xs ++ [.int .i64 (n : Int), .string t]⟩ (W' := w1) (by rw [h1]; exact hgrow) hown (by
    rw [h1, hs6]
    rcases hat with h | h
    · exact .inr ⟨by rw [h]; rfl, by rw [h]; simp⟩
    · exact .inl (by rw [h]; rfl))
  have hsz := hgrow.size
  rw [hs6] at hsz
  refine ⟨_, rfl, hd1.row n hn _, hF1.kept (grownBy_setCellAt w1 D (1 + n) _) (fun i => ?_), ?_, ?_⟩
  · cases hv : (if i = i1 then (⟨242, 2, .slice (some ⟨gg, 0, none⟩) (m + 1) cap, m + 1, xs ++ [.int .i64 (n : Int), .string t]⟩ : Row) else f i).v.ownBlock with
    | none => exact .inl rfl
    | some g => exact .inr (fun e => by have := ((hF1.own i).lt g hv).1; cases e; omega)
  · exact ((below_gr hga (by omega) (by simp)).trans (below_gr hgrow (by omega) (fun k hk => by have := hr k hk; omega))).trans (below_gr (grownBy_setCellAt w1 D (1 + n) _) (by omega) (fun k hk => by cases hk; exact hD0))
  · simp only [World.size_setCell]; omega
/-- The world behind the map's store. -/
theorem ak_w9 {ι : Type} [DecidableEq ι] {f : ι → Row} {i2 : ι} {B D M base : Nat} {last : Int} {R O : Nat → Value} {L : List Ent} {n : Int} {t : ByteArray} {v v' : Value} {l : Nat} {zs : List Value} {zs' : List Value} {W7 w2 W8 : World}
    (hd : Dk W7 D M last R O L) (hF : Fam B f W7) (hDB : D < B) (hMB : M < B) (hB : B ≤ W7.heap.size) (hM0 : base ≤ M) (hD0 : base ≤ D) (h2 : f i2 = ⟨3, 1, v, l, zs⟩)
    (hown : w2.ownsRow B 3 1 v' (l + 1) zs') (hgrow : W7.grownBy w2 v.ownBlock) (hat : v'.ownBlock = some (W7.heap.size + 1) ∨ (v'.ownBlock = v.ownBlock ∧ v.ownBlock ≠ none))
    (hM : MapIs W8 M (updL n t v' L)) (hg8 : w2.grownBy W8 (some M)) :
    Dk W8 D M last R O (updL n t v' L) ∧ Fam B (fun j => if j = i2 then ⟨3, 1, v', l + 1, zs'⟩ else f j) W8 ∧ Below base W7 W8 ∧ W7.heap.size ≤ W8.heap.size := by
  have hr : ∀ k, v.ownBlock = some k → B ≤ k ∧ k < W7.heap.size := fun k hk => by
    have h5 := (hF.own i2).lt k
    rw [h2] at h5
    exact h5 hk
  have hDM := dk_ne hd
  have hnD : v.ownBlock ≠ some D := fun e => by have := hr D e; omega
  have hnM : v.ownBlock ≠ some M := fun e => by have := hr M e; omega
  have hd2 := hd.grown hgrow hnD hnM
  have hbD := hg8.block D (World.block_lt_of_cell? w2 ⟨D, 0, none⟩ hd2.c0) (fun e => hDM (Option.some.inj e))
  have hsz := hgrow.size
  have hs8 := hg8.size
  have hF2 : Fam B (fun j => if j = i2 then ⟨3, 1, v', l + 1, zs'⟩ else f j) w2 := by
    refine ⟨fun j => ?_, fun i j g hi hj => ?_⟩
    · show w2.ownsRow B (if j = i2 then (⟨3, 1, v', l + 1, zs'⟩ : Row) else f j).e _ _ _ _
      by_cases e : j = i2
      · simp only [if_pos e]; exact hown
      · simp only [if_neg e]
        refine (hF.own j).kept hgrow ?_
        cases hb : (f j).v.ownBlock with
        | none => exact .inl rfl
        | some g => exact .inr (fun e2 => e (hF.apart j i2 g hb (by rw [h2]; exact e2.symm)))
    · have lt : ∀ j g, (f j).v.ownBlock = some g → g < W7.heap.size := fun j g hj => ((hF.own j).lt g hj).2
      by_cases e : i = i2 <;> by_cases e2 : j = i2
      · rw [e, e2]
      · simp only [if_pos e] at hi
        simp only [if_neg e2] at hj
        rcases hat with h | ⟨h, _⟩
        · rw [h] at hi; cases hi; exact absurd (lt j _ hj) (by omega)
        · rw [h] at hi; exact absurd (hF.apart j i2 g hj (by rw [h2]; exact hi)) e2
      · simp only [if_neg e] at hi
        simp only [if_pos e2] at hj
        rcases hat with h | ⟨h, _⟩
        · rw [h] at hj; cases hj; exact absurd (lt i _ hi) (by omega)
        · rw [h] at hj; exact absurd (hF.apart i i2 g hi (by rw [h2]; exact hj)) e
      · simp only [if_neg e] at hi
        simp only [if_neg e2] at hj
        exact hF.apart i j g hi hj
  refine ⟨⟨(World.cell?_of_block (a := ⟨D, 0, none⟩) hbD).trans hd2.c0, fun n hn => (World.cell?_of_block (a := ⟨D, 1 + n, none⟩) hbD).trans (hd2.cr n hn), fun n hn => (World.cell?_of_block (a := ⟨D, 403 + n, none⟩) hbD).trans (hd2.co n hn), (World.cell?_of_block (a := ⟨D, 402, none⟩) hbD).trans hd2.cm, fun o => (World.frozen?_of_block (a := ⟨D, o, none⟩) hbD).trans (hd2.fz o), hM⟩, hF2.kept hg8 (fun i => ?_), ?_, by omega⟩
  · cases hv : (if i = i2 then (⟨3, 1, v', l + 1, zs'⟩ : Row) else f i).v.ownBlock with
    | none => exact .inl rfl
    | some g => exact .inr (fun e => by have := ((hF2.own i).lt g hv).1; cases e; omega)
  · exact (below_gr hgrow (by omega) (fun k hk => by have := hr k hk; omega)).trans (below_gr hg8 (by omega) (fun k hk => by cases hk; exact hM0))
set_option maxRecDepth 100000 in
set_option maxHeartbeats 4000000 in
theorem addk_new {ι : Type} [DecidableEq ι] (f : ι → Row) (i1 i2 : ι) (h12 : i1 ≠ i2) (B D M base : Nat) (hD0 : base ≤ D) (hM0 : base ≤ M) (last : Int) (R O : Nat → Value) (L : List Ent) (k : Int) (n : Nat) (t : ByteArray) (m : Nat) (xs : List Value) (W : World)
    (hd : Dk W D M last R O L) (hn : n ≤ 400) (hF : Fam B f W) (hB : B ≤ W.heap.size) (hDB : D < B) (hMB : M < B) (hDM : D ≠ M) (h1 : f i1 = ⟨242, 2, R n, m, xs⟩) (hm : m ≤ 1000000) (h2 : f i2 = ⟨3, 1, .slice none 0 0, 0, []⟩) (hi : idxL n t L = none) :
    Calls Tryz.prog 166 #[.pointer (some ⟨D, 0, none⟩), .int .i64 k, .agg #[.int .i64 (n : Int), .string t, .bool true]] W fun e w' => e = .returned (.tuple #[]) ∧ ∃ v1 v2,
      Dk w' D M (max last n) (fun j => if j = n then v1 else R j) O (updL n t v2 L) ∧
      Fam B (fun j => if j = i2 then ⟨3, 1, v2, 1, [.int .i64 k]⟩ else if j = i1 then ⟨242, 2, v1, m + 1, xs ++ [.int .i64 (n : Int), .string t]⟩ else f j) w' ∧ Below base W w' ∧ W.heap.size ≤ w'.heap.size := by
  have HD := Lib.hid hd
  have hix := Lib.hid hi
  have hDW : D < W.heap.size := by omega
  have HBs : Hid (B ≤ W.heap.size) := hB
  obtain ⟨c0, cr, -, hc402, fz, mp⟩ := hd
  have cn := cr n hn
  have f0 := fz 0
  have fn := fz (1 + n)
  have HF := Lib.hid hF
  have HMP := Lib.hid mp
  clear cr fz mp hF hi
  go_enter Tryz.func166, Tryz.ntmps166
  go_wp2_with fail
  have hD1 : D ≠ W.heap.size := by omega
  have hD2 : W.heap.size ≠ D := by omega
  have hk1 : ∀ v, ((W.setCell ⟨D, 0, none⟩ v).alloc (.cells #[.int .i64 (n : Int), .string t, .bool true] 224)).drew.cell? ⟨W.heap.size, 0, none⟩ = some (.int .i64 (n : Int)) := fun v => new_set W _ v _ _ 0 _ rfl
  rw [show Op.load 3 (Operand.tmp 10) = id (Op.load 3 (Operand.tmp 10)) from rfl]
  go_region_held3 (fun w' => w'.cell? ⟨W.heap.size, 0, none⟩ = some (.int .i64 (n : Int))) (first | exact hk1 _ | go_keep) (fail)
  clear hk1
  go_wp2_with fail
  obtain ⟨W5, hW5, hs5, hg5, hd5, d1, d2, d3⟩ := ak_w5 W D M last (max last (n : Int)) R O L n t HD.out
  rw [hW5]
  have HD5 := Lib.hid hd5
  have HG5 := Lib.hid hg5
  have HS5 := Lib.hid hs5
  have D1 := Lib.hid d1
  have D2 := Lib.hid d2
  have D3 := Lib.hid d3
  have e1 : W5.cell? ⟨D, 402, none⟩ = some (.map (some M)) := hd5.cm
  have hlk : ∀ m, Sem.run Tryz.prog (Instr.lookup 208 (.map (some M)) (keyV n t) false) (W5.drewN m) = .ok (.slice none 0 0) (W5.drewN m) := by
    intro m
    have := run_look (W := W5.drewN m) (M := M) (L := L) hd5.mp n t
    rwa [show lookL n t L = .slice none 0 0 by unfold lookL; rw [hix.out]] at this
  clear hW5 hg5 hs5 hd5 c0 hc402 cn f0 fn
  have hnil := nil85
  go_quiet (fail)
  clear hlk hnil e1 d1 d2 d3
  go_wp2_with fail
  obtain ⟨W6, hW6⟩ : ∃ W6, W5.drewN nq = W6 := ⟨_, rfl⟩
  have g6 : W5.grownBy W6 none := by rw [← hW6]; exact ⟨rfl, rfl, rfl, Nat.le_refl _, fun _ _ _ => rfl⟩
  rw [hW6]
  have hD6 := HD5.out.grown g6 (by simp) (by simp)
  have hF6 : Fam B f W6 := (HF.out.kept HG5.out (fun i => by
    cases hb : (f i).v.ownBlock with
    | none => exact .inl rfl
    | some g => exact .inr (fun e => by have := ((HF.out.own i).lt g hb).1; cases e; omega))).kept g6 (fun i => by cases (f i).v.ownBlock <;> simp)
  have hs6 : W6.heap.size = W.heap.size + 2 := by rw [← hW6]; exact HS5.out
  have d1 := g6.cell D1.out (by simp)
  have d2 := g6.cell D2.out (by simp)
  have d3 := g6.cell D3.out (by simp)
  have cR := hD6.cr n hn
  have fR := hD6.fz (1 + n)
  have hO := hF6.own i1
  rw [h1] at hO
  have HF6 := Lib.hid hF6
  have HD6 := Lib.hid hD6
  have H1 := Lib.hid h1
  have H2 := Lib.hid h2
  have hn0 : (0 : Int) ≤ (n : Int) := by omega
  have hn4 : (n : Int) < 401 := by omega
  have HS6 := Lib.hid hs6
  have hlt6 : W.heap.size + 1 < W6.heap.size := by omega
  have ao : ∀ g, (R n).ownBlock = some g → B ≤ g ∧ g < W6.heap.size := fun g hg => hO.lt g hg
  have aw : (R n).ownBlock ≠ some W.heap.size := fun e => by
    have h5 := (HF.out.own i1).lt W.heap.size (by rw [H1.out]; exact e)
    omega
  have aw1 : (R n).ownBlock ≠ some (W.heap.size + 1) := fun e => by
    have h5 := (HF.out.own i1).lt (W.heap.size + 1) (by rw [H1.out]; exact e)
    omega
  have cR2 : (W6.alloc (.cells #[.int .i64 (n : Int), .string t] 242)).cell? ⟨D, 1 + n, none⟩ = some (R n) := cell_al cR _
  have hD3 : D ≠ W.heap.size + 1 := by omega
  have aD : some D ≠ (R n).ownBlock := fun e => by have h5 := ao D e.symm; omega
  have hD6s : D < (W6.alloc (.cells #[.int .i64 (n : Int), .string t] 242)).drew.heap.size := by show D < (W6.alloc _).heap.size; rw [World.size_alloc]; omega
  have fD6 : (W6.alloc (.cells #[.int .i64 (n : Int), .string t] 242)).drew.frozen? ⟨D, 1 + n, none⟩ = false := (World.frozen?_of_block (a := ⟨D, 1 + n, none⟩) ((grown_al W6 _).block D (by omega) (by simp))).trans fR
  have hD4 : W.heap.size + 1 ≠ D := by omega
  obtain ⟨i0, hi, hz0, hz1, hz2⟩ := info_parts inf242
  have HLm : Hid (m + 1 ≤ maxLen) := by unfold Hid maxLen; omega
  have HLb : Hid ((m + 1) * 24 ≤ 140737488355328) := by unfold Hid; omega
  have HB6 : Hid (B ≤ W6.heap.size) := by unfold Hid; omega
  have HG6 := Lib.hid g6
  clear hW6 g6 hD6 hF6 h1 h2 hs6 hB
  rw [show Op.load 206 (Operand.tmp 59) = id (Op.load 206 (Operand.tmp 59)) from rfl]
  go_region_held3 (fun w' => w'.cell? ⟨W.heap.size, 0, none⟩ = some (.int .i64 (n : Int)) ∧ w'.cell? ⟨W.heap.size + 1, 0, none⟩ = some (.int .i64 (n : Int)) ∧ w'.cell? ⟨W.heap.size + 1, 1, none⟩ = some (.string t))
    (first
      | go_keep
      | (go_split_ands
         refine ⟨?_, ?_, ?_⟩
         · (rw [hgrow.cell_far _ (by simp; omega) (Ne.symm aw)]; assumption)
         · (rw [hgrow.cell_far _ (by simp; omega) (Ne.symm aw1)]; assumption)
         · (rw [hgrow.cell_far _ (by simp; omega) (Ne.symm aw1)]; assumption)))
    ((refine step_append_lies _ (by rfl) _ _ _ (by rfl) B 242 i0 _ 2 24 Tryz.underlying206 hi hz0 hz1 hz2 rfl (by omega) (R n) m xs (by rfl) ((hO.alloc _).drew)
        ⟨W6.heap.size, 0, none⟩ 1 1 [.int .i64 (n : Int), .string t] (by rfl) (by rfl) (World.news_of_block (cs := #[.int .i64 (n : Int), .string t]) (t := 242) (fr := (0, 0)) (heap_alloc_new W6 _)) (by simp [Value.oneCell'])
        (by omega) HLm.out HLb.out (by have h5 := HB6.out; simp; omega) (W6.heap.size + 1) (by simp) ?_; intro gg cap w1 hown1 hgrow hat hlt; have hc9 : w1.cell? ⟨D, 1 + n, none⟩ = some (R n) := hgrow.cell (cell_al cR _) aD; have hf9 : w1.frozen? ⟨D, 1 + n, none⟩ = false := (World.frozen?_of_block (a := ⟨D, 1 + n, none⟩) (hgrow.block D hD6s aD)).trans fD6))
  all_goals
    clear hc9 hf9 cR cR2 fR fD6 d1 d2 d3
    have hHe : (w1.setCell ⟨D, 1 + n, none⟩ (.slice (some ⟨gg, 0, none⟩) (m + 1) cap)).cell? ⟨W.heap.size + 1, 0, none⟩ = some (.int .i64 (n : Int)) ∧ (w1.setCell ⟨D, 1 + n, none⟩ (.slice (some ⟨gg, 0, none⟩) (m + 1) cap)).cell? ⟨W.heap.size + 1, 1, none⟩ = some (.string t) := by
      rename_i hh
      exact ⟨hh.2.1, hh.2.2⟩
    obtain ⟨W7, hW7, hd7, hF7, hb7, hs7⟩ := ak_w7 (base := base) HD6.out hn HF6.out hDB hMB HB6.out hD0 H1.out hown1 hgrow hat
    obtain ⟨q2, q3⟩ := hHe
    rw [hW7] at q2 q3 ⊢
    have e7 : W7.cell? ⟨D, 402, none⟩ = some (.map (some M)) := hd7.cm
    have hlk7 : Sem.run Tryz.prog (Instr.lookup 208 (.map (some M)) (keyV n t) false) W7.drew = .ok (.slice none 0 0) W7.drew := by
      have := run_look (W := W7.drew) (M := M) (L := L) hd7.mp n t
      rwa [show lookL n t L = .slice none 0 0 by unfold lookL; rw [hix.out]] at this
    have HD7 := Lib.hid hd7
    have hDMs : some D ≠ some M := fun e => dk_ne hd7 (Option.some.inj e)
    have hMWs : some (W.heap.size + 1) ≠ some M := fun e => by cases e; have h5 := HBs.out; omega
    have HF7 := Lib.hid hF7
    have HB7 := Lib.hid hb7
    have HS7 := Lib.hid hs7
    have hBW7 : Hid (B ≤ W7.heap.size) := by have h5 := HB6.out; unfold Hid; omega
    clear hW7 hd7 hF7 hb7 hs7 hown1 hgrow hat hlt aD hD6s aw aw1 ao HLm HLb hz0 hz1 hz2 hi hn0 hn4
    go_wp2_with fail
    go_region_held3 (fun w' => w'.cell? ⟨D, 402, none⟩ = some (.map (some M)) ∧ w'.cell? ⟨W.heap.size + 1, 0, none⟩ = some (.int .i64 (n : Int)) ∧ w'.cell? ⟨W.heap.size + 1, 1, none⟩ = some (.string t))
      (first
        | go_keep
        | (go_split_ands
           refine ⟨?_, ?_, ?_⟩
           · (first | exact g7.out.cell (by assumption) (by simp [Value.ownBlock]) | exact G8.out.cell (by assumption) hDMs)
           · (first | exact g7.out.cell (by assumption) (by simp [Value.ownBlock]) | exact G8.out.cell (by assumption) hMWs)
           · (first | exact g7.out.cell (by assumption) (by simp [Value.ownBlock]) | exact G8.out.cell (by assumption) hMWs)))
      ((go_at_call 184; refine (withLast_new (.slice none 0 0) [] k B _ (World.ownsRow_nil _ _ _ _) (by simp) (by simp) (by exact hBW7.out)).mono ?_; rintro e w2 ⟨v2, rfl, hO7, hg7, hw7, hs27⟩; have g7 := Lib.hid hg7; have hm2 := MapIs.grown (W := W7.drew) HD7.out.mp hg7 (by simp [Value.ownBlock]); obtain ⟨W8, hr8, hm8, hg8⟩ := run_upd hm2 (n : Int) t v2; have G8 := Lib.hid hg8; have M8 := Lib.hid hm8; clear hg8 hm8 hm2 hg7))
    have gd : W7.grownBy W7.drew none := grown_dr W7
    have hd7' := HD7.out.grown gd (by simp) (by simp)
    have hF7' := HF7.out.kept gd (fun i => by cases ((if i = i1 then (⟨242, 2, .slice (some ⟨gg, 0, none⟩) (m + 1) cap, m + 1, xs ++ [.int .i64 (n : Int), .string t]⟩ : Row) else f i)).v.ownBlock <;> simp)
    obtain ⟨za, zb, zc, zd⟩ := ak_w9 (v := .slice none 0 0) (l := 0) (zs := []) (zs' := [.int .i64 k]) (i2 := i2) (base := base) hd7' hF7' hDB hMB hBW7.out hM0 hD0 (by rw [if_neg (fun e => h12 e.symm)]; exact H2.out) hO7 g7.out hw7 M8.out G8.out
    have zz : Hid (∃ v1 v2, Dk W8 D M (max last n) (fun j => if j = n then v1 else R j) O (updL n t v2 L) ∧
      Fam B (fun j => if j = i2 then ⟨3, 1, v2, 1, [.int .i64 k]⟩ else if j = i1 then ⟨242, 2, v1, m + 1, xs ++ [.int .i64 (n : Int), .string t]⟩ else f j) W8 ∧ Below base W W8 ∧ W.heap.size ≤ W8.heap.size) := by
      have hsd : W7.drew.heap.size = W7.heap.size := rfl
      have h5 := HS5.out
      have h6 := HS6.out
      have h7 := HS7.out
      exact ⟨_, _, za, zb, ((((below_gr HG5.out (by omega) (fun k hk => by cases hk; exact hD0)).trans (below_gr HG6.out (by omega) (by simp))).trans HB7.out).trans (below_gr gd (by omega) (by simp))).trans zc, by omega⟩
    clear za zb zc zd hd7' hF7' gd
    go_wp2_with fail

    exact ⟨rfl, _, by simp [results, Tryz.results166, go_sem], rfl, zz.out⟩
set_option maxRecDepth 100000 in
set_option maxHeartbeats 4000000 in
theorem addk_old {ι : Type} [DecidableEq ι] (f : ι → Row) (i2 : ι) (B D M base : Nat) (hD0 : base ≤ D) (hM0 : base ≤ M) (last : Int) (R O : Nat → Value) (L : List Ent) (k : Int) (n : Nat) (t : ByteArray) (a0 : Addr) (l0 c0 : Nat) (zs : List Int) (W : World)
    (hd : Dk W D M last R O L) (hn : n ≤ 400) (hF : Fam B f W) (hB : B ≤ W.heap.size) (hDB : D < B) (hMB : M < B) (h2 : f i2 = ⟨3, 1, .slice (some a0) l0 c0, zs.length, cellsI zs⟩) (hzk : zs.getLast? ≠ some k) (hzl : zs.length ≤ 1000000) (hi : lookL n t L = .slice (some a0) l0 c0) :
    Calls Tryz.prog 166 #[.pointer (some ⟨D, 0, none⟩), .int .i64 k, .agg #[.int .i64 (n : Int), .string t, .bool true]] W fun e w' => e = .returned (.tuple #[]) ∧ ∃ v2,
      Dk w' D M (max last n) R O (updL n t v2 L) ∧
      Fam B (fun j => if j = i2 then ⟨3, 1, v2, zs.length + 1, cellsI (zs ++ [k])⟩ else f j) w' ∧ Below base W w' ∧ W.heap.size ≤ w'.heap.size := by
  have HD := Lib.hid hd
  have hix := Lib.hid hi
  have hDW : D < W.heap.size := by omega
  have HBs : Hid (B ≤ W.heap.size) := hB
  obtain ⟨hc0, cr, -, hc402, fz, mp⟩ := hd
  have cn := cr n hn
  have f0 := fz 0
  have fn := fz (1 + n)
  have HF := Lib.hid hF
  have HMP := Lib.hid mp
  clear cr fz mp hF hi
  go_enter Tryz.func166, Tryz.ntmps166
  go_wp2_with fail
  have hD1 : D ≠ W.heap.size := by omega
  have hD2 : W.heap.size ≠ D := by omega
  have hk1 : ∀ v, ((W.setCell ⟨D, 0, none⟩ v).alloc (.cells #[.int .i64 (n : Int), .string t, .bool true] 224)).drew.cell? ⟨W.heap.size, 0, none⟩ = some (.int .i64 (n : Int)) := fun v => new_set W _ v _ _ 0 _ rfl
  rw [show Op.load 3 (Operand.tmp 10) = id (Op.load 3 (Operand.tmp 10)) from rfl]
  go_region_held3 (fun w' => w'.cell? ⟨W.heap.size, 0, none⟩ = some (.int .i64 (n : Int))) (first | exact hk1 _ | go_keep) (fail)
  clear hk1
  go_wp2_with fail
  obtain ⟨W5, hW5, hs5, hg5, hd5, d1, d2, d3⟩ := ak_w5 W D M last (max last (n : Int)) R O L n t HD.out
  rw [hW5]
  have HD5 := Lib.hid hd5
  have HG5 := Lib.hid hg5
  have HS5 := Lib.hid hs5
  have D1 := Lib.hid d1
  have D2 := Lib.hid d2
  have D3 := Lib.hid d3
  have e1 : W5.cell? ⟨D, 402, none⟩ = some (.map (some M)) := hd5.cm
  have hlk : ∀ m, Sem.run Tryz.prog (Instr.lookup 208 (.map (some M)) (keyV n t) false) (W5.drewN m) = .ok (.slice (some a0) l0 c0) (W5.drewN m) := by
    intro m
    have := run_look (W := W5.drewN m) (M := M) (L := L) hd5.mp n t
    rwa [hix.out] at this
  clear hW5 hg5 hs5 hd5 hc0 hc402 cn f0 fn
  have hnil := some85 a0 l0 c0
  go_quiet (fail)
  clear hlk hnil e1 d1 d2 d3
  go_wp2_with fail
  obtain ⟨W6, hW6⟩ : ∃ W6, W5.drewN nq = W6 := ⟨_, rfl⟩
  have g6 : W5.grownBy W6 none := by rw [← hW6]; exact ⟨rfl, rfl, rfl, Nat.le_refl _, fun _ _ _ => rfl⟩
  rw [hW6]
  have hD6 := HD5.out.grown g6 (by simp) (by simp)
  have hF6 : Fam B f W6 := (HF.out.kept HG5.out (fun i => by
    cases hb : (f i).v.ownBlock with
    | none => exact .inl rfl
    | some g => exact .inr (fun e => by have := ((HF.out.own i).lt g hb).1; cases e; omega))).kept g6 (fun i => by cases (f i).v.ownBlock <;> simp)
  have hs6 : W6.heap.size = W.heap.size + 2 := by rw [← hW6]; exact HS5.out
  have q2 := g6.cell D2.out (by simp)
  have q3 := g6.cell D3.out (by simp)
  have e7 : W6.cell? ⟨D, 402, none⟩ = some (.map (some M)) := hD6.cm
  have hlk7 : Sem.run Tryz.prog (Instr.lookup 208 (.map (some M)) (keyV n t) false) W6.drew = .ok (.slice (some a0) l0 c0) W6.drew := by
    have := run_look (W := W6.drew) (M := M) (L := L) hD6.mp n t
    rwa [hix.out] at this
  have HD7 := Lib.hid hD6
  have H2 := Lib.hid h2
  have HZK := Lib.hid hzk
  have HZL := Lib.hid hzl
  have hO2 := hF6.own i2
  rw [h2] at hO2
  have gd : W6.grownBy W6.drew none := grown_dr W6
  have HO2 := Lib.hid (hO2.kept gd (Classical.em _))
  have hDM0 : D ≠ M := dk_ne hD6
  have hMs : some D ≠ some M := fun e => hDM0 (Option.some.inj e)
  have hMWs : some (W.heap.size + 1) ≠ some M := fun e => by cases e; have h5 := HBs.out; omega
  have hvD : some D ≠ (Value.slice (some a0) l0 c0).ownBlock := fun e => by have h5 := (hO2.lt D e.symm).1; omega
  have hvM : (Value.slice (some a0) l0 c0).ownBlock ≠ some M := fun e => by have h5 := (hO2.lt M e).1; omega
  have hvW : some (W.heap.size + 1) ≠ (Value.slice (some a0) l0 c0).ownBlock := fun e => by
    have h5 := (HF.out.own i2).lt (W.heap.size + 1) (by rw [H2.out]; exact e.symm)
    omega
  have HF7 := Lib.hid hF6
  have HG6 := Lib.hid g6
  have HS6 := Lib.hid hs6
  have hBW7 : Hid (B ≤ W6.heap.size) := by unfold Hid; omega
  clear hW6 hD6 hF6 g6 hs6 h2 hzk hzl hO2 hB gd hDM0
  go_region_held3 (fun w' => w'.cell? ⟨D, 402, none⟩ = some (.map (some M)) ∧ w'.cell? ⟨W.heap.size + 1, 0, none⟩ = some (.int .i64 (n : Int)) ∧ w'.cell? ⟨W.heap.size + 1, 1, none⟩ = some (.string t))
      (first
        | go_keep
        | (go_split_ands
           refine ⟨?_, ?_, ?_⟩
           · (first | exact g7.out.cell (by assumption) hvD | exact G8.out.cell (by assumption) hMs)
           · (first | exact g7.out.cell (by assumption) hvW | exact G8.out.cell (by assumption) hMWs)
           · (first | exact g7.out.cell (by assumption) hvW | exact G8.out.cell (by assumption) hMWs)))
      ((go_at_call 184; refine (withLast_new (.slice (some a0) l0 c0) zs k B _ HO2.out HZK.out (by have h5 := HZL.out; omega) (by exact hBW7.out)).mono ?_; rintro e w2 ⟨v2, rfl, hO7, hg7, hw7, hs27⟩; have g7 := Lib.hid hg7; have hm2 := MapIs.grown (W := W6.drew) HD7.out.mp hg7 hvM; obtain ⟨W8, hr8, hm8, hg8⟩ := run_upd hm2 (n : Int) t v2; have G8 := Lib.hid hg8; have M8 := Lib.hid hm8; clear hg8 hm8 hm2 hg7))
  have gd : W6.grownBy W6.drew none := grown_dr W6
  have hd7' := HD7.out.grown gd (by simp) (by simp)
  have hF7' := HF7.out.kept gd (fun i => by cases (f i).v.ownBlock <;> simp)
  obtain ⟨za, zb, zc, zd⟩ := ak_w9 (v := .slice (some a0) l0 c0) (l := zs.length) (zs := cellsI zs) (zs' := cellsI (zs ++ [k])) (i2 := i2) (base := base) hd7' hF7' hDB hMB hBW7.out hM0 hD0 H2.out hO7 g7.out hw7 M8.out G8.out
  have zz : Hid (∃ v2, Dk W8 D M (max last n) R O (updL n t v2 L) ∧
      Fam B (fun j => if j = i2 then ⟨3, 1, v2, zs.length + 1, cellsI (zs ++ [k])⟩ else f j) W8 ∧ Below base W W8 ∧ W.heap.size ≤ W8.heap.size) := by
    have hsd : W6.drew.heap.size = W6.heap.size := rfl
    have h5 := HS5.out
    have h6 := HS6.out
    exact ⟨_, za, zb, (((below_gr HG5.out (by omega) (fun k hk => by cases hk; exact hD0)).trans (below_gr HG6.out (by omega) (by simp))).trans (below_gr gd (by omega) (by simp))).trans zc, by omega⟩
  clear za zb zc zd hd7' hF7' gd
  go_wp2_with fail
  exact ⟨rfl, _, by simp [results, Tryz.results166, go_sem], rfl, zz.out⟩
theorem Dk.other {W : World} {D M : Nat} {last : Int} {R O : Nat → Value} {L : List Ent} (h : Dk W D M last R O L) (n : Nat) (hn : n ≤ 400) (v : Value) : Dk (W.setCell ⟨D, 403 + n, none⟩ v) D M last R (fun j => if j = n then v else O j) L := by
  refine ⟨?_, fun m hm => ?_, fun m hm => ?_, ?_, fun o => ?_, h.mp.grown (grownBy_setCellAt W D (403 + n) v) (fun e => dk_ne h (Option.some.inj e))⟩
  · rw [World.cell?_setCell_other _ _ _ _ (addr_ne (by omega))]; exact h.c0
  · rw [World.cell?_setCell_other _ _ _ _ (addr_ne (by omega))]; exact h.cr m hm
  · by_cases e : m = n
    · subst e
      simp only [if_true]
      exact World.cell?_setCell_same _ _ _ (h.co m hm)
    · rw [World.cell?_setCell_other _ _ _ _ (addr_ne (by omega)), if_neg e]; exact h.co m hm
  · rw [World.cell?_setCell_other _ _ _ _ (addr_ne (by omega))]; exact h.cm
  · rw [World.frozen?_setCell]; exact h.fz o

end Go.Proofs.YtmfhpddeclggfaaGreatDoor
