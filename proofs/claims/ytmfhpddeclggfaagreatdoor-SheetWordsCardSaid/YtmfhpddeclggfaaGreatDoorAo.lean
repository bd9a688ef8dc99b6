import Derived.Test.YtmfhpddeclggfaaGreatDoorAd
import Derived.Test.YtmfhpddeclggfaaGreatDoorD7
import Derived.Test.YtmfhpddeclggfaaGreatDoorFam
import Derived.Laws.StructEq
import Derived.MapKept
import Derived.WideKeyRuns
import Derived.Maps.Own
import Derived.WalkKit
import Derived.LoopTactic
import Derived.WalkSpells
import Derived.WalkLawsBesides
import Derived.Lib.Hide
import Derived.BigQuiet
import Derived.IntWalk
import Derived.Deep.DeepMust
import Derived.WalkSmall
import Derived.StillTailTactics
import Derived.Deep.RegionLaw
import Derived.Deep.QuietTactic
import Derived.Deep.RegionHeld3
import Derived.Deep.AppendLies
namespace Go.Proofs.YtmfhpddeclggfaaGreatDoor
open Go.RowKit
set_option maxRecDepth 100000 in
set_option maxHeartbeats 4000000 in
theorem add_old {ι : Type} [DecidableEq ι] (f : ι → Row) (i2 : ι) (B D M base : Nat) (hD0 : base ≤ D) (hM0 : base ≤ M) (last : Int) (R : Nat → Value) (L : List Ent) (k : Int) (n : Nat) (t : ByteArray) (a0 : Addr) (l0 c0 : Nat) (zs : List Int) (W : World)
    (hd : Desk W D M last R L) (hn : n ≤ 400) (hF : Fam B f W) (hB : B ≤ W.heap.size) (hDB : D < B) (hMB : M < B) (h2 : f i2 = ⟨3, 1, .slice (some a0) l0 c0, zs.length, cellsI zs⟩) (hzk : zs.getLast? ≠ some k) (hzl : zs.length ≤ 1000) (hi : lookL n t L = .slice (some a0) l0 c0) :
    Calls Tryz.prog 166 #[.pointer (some ⟨D, 0, none⟩), .int .i64 k, .agg #[.int .i64 (n : Int), .string t, .bool true]] W fun e w' => e = .returned (.tuple #[]) ∧ ∃ v2,
      Desk w' D M (max last n) R (updL n t v2 L) ∧
      Fam B (fun j => if j = i2 then ⟨3, 1, v2, zs.length + 1, cellsI (zs ++ [k])⟩ else f j) w' ∧ Below base W w' ∧ W.heap.size ≤ w'.heap.size := by
  have HD := Lib.hid hd
  have hix := Lib.hid hi
  have hDW : D < W.heap.size := by omega
  have HBs : Hid (B ≤ W.heap.size) := hB
  obtain ⟨hc0, cr, hc402, fz, mp⟩ := hd
  have cn := cr n hn
  have f0 := fz 0
  have fn := fz (1 + n)
  have HF := Lib.hid hF
  have HMP := Lib.hid mp
  clear cr fz mp hF hi
  go_enter Tryz.func166, Tryz.ntmps166
  go_wp2_with fail
  have hD1 : D ≠ W.heap.size := by omega
  have hD2 : W.heap.size ≠ D := by omega
  have hk1 : ∀ v, ((W.setCell ⟨D, 0, none⟩ v).alloc (.cells #[.int .i64 (n : Int), .string t, .bool true] 224)).drew.cell? ⟨W.heap.size, 0, none⟩ = some (.int .i64 (n : Int)) := fun v => new_set W _ v _ _ 0 _ rfl
  rw [show Op.load 3 (Operand.tmp 10) = id (Op.load 3 (Operand.tmp 10)) from rfl]
  go_region_held3 (fun w' => w'.cell? ⟨W.heap.size, 0, none⟩ = some (.int .i64 (n : Int))) (first | exact hk1 _ | go_keep) (fail)
  clear hk1
  go_wp2_with fail
  obtain ⟨W5, hW5, hs5, hg5, hd5, d1, d2, d3⟩ := ad_w5 W D M last (max last (n : Int)) R L n t HD.out
  rw [hW5]
  have HD5 := Lib.hid hd5
  have HG5 := Lib.hid hg5
  have HS5 := Lib.hid hs5
  have D1 := Lib.hid d1
  have D2 := Lib.hid d2
  have D3 := Lib.hid d3
  have e1 : W5.cell? ⟨D, 402, none⟩ = some (.map (some M)) := hd5.cm
  have hlk : ∀ m, Sem.run Tryz.prog (Instr.lookup 208 (.map (some M)) (keyV n t) false) (W5.drewN m) = .ok (.slice (some a0) l0 c0) (W5.drewN m) := by
    intro m
    have := run_look (W := W5.drewN m) (M := M) (L := L) hd5.mp n t
    rwa [hix.out] at this
  clear hW5 hg5 hs5 hd5 hc0 hc402 cn f0 fn
  have hnil := some85 a0 l0 c0
  go_quiet (fail)
  clear hlk hnil e1 d1 d2 d3
  go_wp2_with fail
  obtain ⟨W6, hW6⟩ : ∃ W6, W5.drewN nq = W6 := ⟨_, rfl⟩
  have g6 : W5.grownBy W6 none := by rw [← hW6]; exact ⟨rfl, rfl, rfl, Nat.le_refl _, fun _ _ _ => rfl⟩
  rw [hW6]
  have hD6 := HD5.out.grown g6 (by simp) (by simp)
  have hF6 : Fam B f W6 := (HF.out.kept HG5.out (fun i => by
    cases hb : (f i).v.ownBlock with
    | none => exact .inl rfl
    | some g => exact .inr (fun e => by have := ((HF.out.own i).lt g hb).1; cases e; omega))).kept g6 (fun i => by cases (f i).v.ownBlock <;> simp)
  have hs6 : W6.heap.size = W.heap.size + 2 := by rw [← hW6]; exact HS5.out
  have q2 := g6.cell D2.out (by simp)
  have q3 := g6.cell D3.out (by simp)
  have e7 : W6.cell? ⟨D, 402, none⟩ = some (.map (some M)) := hD6.cm
  have hlk7 : Sem.run Tryz.prog (Instr.lookup 208 (.map (some M)) (keyV n t) false) W6.drew = .ok (.slice (some a0) l0 c0) W6.drew := by
    have := run_look (W := W6.drew) (M := M) (L := L) hD6.mp n t
    rwa [hix.out] at this
  have HD7 := Lib.hid hD6
  have H2 := Lib.hid h2
  have HZK := Lib.hid hzk
  have HZL := Lib.hid hzl
  have hO2 := hF6.own i2
  rw [h2] at hO2
  have gd : W6.grownBy W6.drew none := grown_dr W6
  have HO2 := Lib.hid (hO2.kept gd (Classical.em _))
  have hDM0 : D ≠ M := desk_ne hD6
  have hMs : some D ≠ some M := fun e => hDM0 (Option.some.inj e)
  have hMWs : some (W.heap.size + 1) ≠ some M := fun e => by cases e; have h5 := HBs.out; omega
  have hvD : some D ≠ (Value.slice (some a0) l0 c0).ownBlock := fun e => by have h5 := (hO2.lt D e.symm).1; omega
  have hvM : (Value.slice (some a0) l0 c0).ownBlock ≠ some M := fun e => by have h5 := (hO2.lt M e).1; omega
  have hvW : some (W.heap.size + 1) ≠ (Value.slice (some a0) l0 c0).ownBlock := fun e => by
    have h5 := (HF.out.own i2).lt (W.heap.size + 1) (by rw [H2.out]; exact e.symm)
    omega
  have HF7 := Lib.hid hF6
  have HG6 := Lib.hid g6
  have HS6 := Lib.hid hs6
  have hBW7 : Hid (B ≤ W6.heap.size) := by unfold Hid; omega
  clear hW6 hD6 hF6 g6 hs6 h2 hzk hzl hO2 hB gd hDM0
  go_region_held3 (fun w' => w'.cell? ⟨D, 402, none⟩ = some (.map (some M)) ∧ w'.cell? ⟨W.heap.size + 1, 0, none⟩ = some (.int .i64 (n : Int)) ∧ w'.cell? ⟨W.heap.size + 1, 1, none⟩ = some (.string t))
      (first
        | go_keep
        | (go_split_ands
           refine ⟨?_, ?_, ?_⟩
           · (first | exact g7.out.cell (by assumption) hvD | exact G8.out.cell (by assumption) hMs)
           · (first | exact g7.out.cell (by assumption) hvW | exact G8.out.cell (by assumption) hMWs)
           · (first | exact g7.out.cell (by assumption) hvW | exact G8.out.cell (by assumption) hMWs)))
      ((go_at_call 184; refine (withLast_new (.slice (some a0) l0 c0) zs k B _ HO2.out HZK.out (by have h5 := HZL.out; omega) (by exact hBW7.out)).mono ?_; rintro e w2 ⟨v2, rfl, hO7, hg7, hw7, hs27⟩; have g7 := Lib.hid hg7; have hm2 := MapIs.grown (W := W6.drew) HD7.out.mp hg7 hvM; obtain ⟨W8, hr8, hm8, hg8⟩ := run_upd hm2 (n : Int) t v2; have G8 := Lib.hid hg8; have M8 := Lib.hid hm8; clear hg8 hm8 hm2 hg7))
  have gd : W6.grownBy W6.drew none := grown_dr W6
  have hd7' := HD7.out.grown gd (by simp) (by simp)
  have hF7' := HF7.out.kept gd (fun i => by cases (f i).v.ownBlock <;> simp)
  obtain ⟨za, zb, zc, zd⟩ := ad_w9 (v := .slice (some a0) l0 c0) (l := zs.length) (zs := cellsI zs) (zs' := cellsI (zs ++ [k])) (i2 := i2) (base := base) hd7' hF7' hDB hMB hBW7.out hM0 hD0 H2.out hO7 g7.out hw7 M8.out G8.out
  have zz : Hid (∃ v2, Desk W8 D M (max last n) R (updL n t v2 L) ∧
      Fam B (fun j => if j = i2 then ⟨3, 1, v2, zs.length + 1, cellsI (zs ++ [k])⟩ else f j) W8 ∧ Below base W W8 ∧ W.heap.size ≤ W8.heap.size) := by
    have hsd : W6.drew.heap.size = W6.heap.size := rfl
    have h5 := HS5.out
    have h6 := HS6.out
    exact ⟨_, za, zb, (((below_gr HG5.out (by omega) (fun k hk => by cases hk; exact hD0)).trans (below_gr HG6.out (by omega) (by simp))).trans (below_gr gd (by omega) (by simp))).trans zc, by omega⟩
  clear za zb zc zd hd7' hF7' gd
  go_wp2_with fail
  exact ⟨rfl, _, by simp [results, Tryz.results166, go_sem], rfl, zz.out⟩
end Go.Proofs.YtmfhpddeclggfaaGreatDoor
