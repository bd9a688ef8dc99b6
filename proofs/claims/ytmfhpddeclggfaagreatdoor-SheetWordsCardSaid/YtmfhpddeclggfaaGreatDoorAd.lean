import Derived.Test.YtmfhpddeclggfaaGreatDoorD7
import Derived.Test.YtmfhpddeclggfaaGreatDoorFam
import Derived.Laws.StructEq
import Derived.MapKept
import Derived.WideKeyRuns
import Derived.Maps.Own
import Derived.WalkKit
import Derived.LoopTactic
import Derived.WalkSpells
import Derived.WalkLawsBesides
import Derived.Lib.Hide
import Derived.BigQuiet
import Derived.IntWalk
import Derived.Deep.DeepMust
import Derived.WalkSmall
import Derived.StillTailTactics
import Derived.Deep.RegionLaw
import Derived.Deep.QuietTactic
import Derived.Deep.RegionHeld3
import Derived.Deep.AppendLies
namespace Go.Proofs.YtmfhpddeclggfaaGreatDoor
open Go.RowKit
theorem nil85 (w : World) : Sem.run Tryz.prog (binOp .eql 85 (.slice none 0 0) (.slice none 0 0)) w = .ok (.bool true) w := by kernel_rfl
theorem some85 (a : Addr) (n c : Nat) (w : World) : Sem.run Tryz.prog (binOp .eql 85 (.slice (some a) n c) (.slice none 0 0)) w = .ok (.bool false) w := by kernel_rfl
theorem inf242 : (Tryz.prog.info? 242).map (fun i => (i.zero, i.size, i.bytes)) = some (some (.agg #[.int .i64 0, .string ⟨#[]⟩]), 2, 24) := by kernel_rfl
set_option maxRecDepth 100000 in
set_option maxHeartbeats 4000000 in
theorem add_new {ι : Type} [DecidableEq ι] (f : ι → Row) (i1 i2 : ι) (h12 : i1 ≠ i2) (B D M base : Nat) (hD0 : base ≤ D) (hM0 : base ≤ M) (last : Int) (R : Nat → Value) (L : List Ent) (k : Int) (n : Nat) (t : ByteArray) (m : Nat) (xs : List Value) (W : World)
    (hd : Desk W D M last R L) (hn : n ≤ 400) (hF : Fam B f W) (hB : B ≤ W.heap.size) (hDB : D < B) (hMB : M < B) (hDM : D ≠ M) (h1 : f i1 = ⟨242, 2, R n, m, xs⟩) (hm : m ≤ 1000) (h2 : f i2 = ⟨3, 1, .slice none 0 0, 0, []⟩) (hi : idxL n t L = none) :
    Calls Tryz.prog 166 #[.pointer (some ⟨D, 0, none⟩), .int .i64 k, .agg #[.int .i64 (n : Int), .string t, .bool true]] W fun e w' => e = .returned (.tuple #[]) ∧ ∃ v1 v2,
      Desk w' D M (max last n) (fun j => if j = n then v1 else R j) (updL n t v2 L) ∧
      Fam B (fun j => if j = i2 then ⟨3, 1, v2, 1, [.int .i64 k]⟩ else if j = i1 then ⟨242, 2, v1, m + 1, xs ++ [.int .i64 (n : Int), .string t]⟩ else f j) w' ∧ Below base W w' ∧ W.heap.size ≤ w'.heap.size := by
  have HD := Lib.hid hd
  have hix := Lib.hid hi
  have hDW : D < W.heap.size := by omega
  have HBs : Hid (B ≤ W.heap.size) := hB
  obtain ⟨c0, cr, hc402, fz, mp⟩ := hd
  have cn := cr n hn
  have f0 := fz 0
  have fn := fz (1 + n)
  have HF := Lib.hid hF
  have HMP := Lib.hid mp
  clear cr fz mp hF hi
  go_enter Tryz.func166, Tryz.ntmps166
  go_wp2_with fail
  have hD1 : D ≠ W.heap.size := by omega
  have hD2 : W.heap.size ≠ D := by omega
  have hk1 : ∀ v, ((W.setCell ⟨D, 0, none⟩ v).alloc (.cells #[.int .i64 (n : Int), .string t, .bool true] 224)).drew.cell? ⟨W.heap.size, 0, none⟩ = some (.int .i64 (n : Int)) := fun v => new_set W _ v _ _ 0 _ rfl
  rw [show Op.load 3 (Operand.tmp 10) = id (Op.load 3 (Operand.tmp 10)) from rfl]
  go_region_held3 (fun w' => w'.cell? ⟨W.heap.size, 0, none⟩ = some (.int .i64 (n : Int))) (first | exact hk1 _ | go_keep) (fail)
  clear hk1
  go_wp2_with fail
  obtain ⟨W5, hW5, hs5, hg5, hd5, d1, d2, d3⟩ := ad_w5 W D M last (max last (n : Int)) R L n t HD.out
  rw [hW5]
  have HD5 := Lib.hid hd5
  have HG5 := Lib.hid hg5
  have HS5 := Lib.hid hs5
  have D1 := Lib.hid d1
  have D2 := Lib.hid d2
  have D3 := Lib.hid d3
  have e1 : W5.cell? ⟨D, 402, none⟩ = some (.map (some M)) := hd5.cm
  have hlk : ∀ m, Sem.run Tryz.prog (Instr.lookup 208 (.map (some M)) (keyV n t) false) (W5.drewN m) = .ok (.slice none 0 0) (W5.drewN m) := by
    intro m
    have := run_look (W := W5.drewN m) (M := M) (L := L) hd5.mp n t
    rwa [show lookL n t L = .slice none 0 0 by unfold lookL; rw [hix.out]] at this
  clear hW5 hg5 hs5 hd5 c0 hc402 cn f0 fn
  have hnil := nil85
  go_quiet (fail)
  clear hlk hnil e1 d1 d2 d3
  go_wp2_with fail
  obtain ⟨W6, hW6⟩ : ∃ W6, W5.drewN nq = W6 := ⟨_, rfl⟩
  have g6 : W5.grownBy W6 none := by rw [← hW6]; exact ⟨rfl, rfl, rfl, Nat.le_refl _, fun _ _ _ => rfl⟩
  rw [hW6]
  have hD6 := HD5.out.grown g6 (by simp) (by simp)
  have hF6 : Fam B f W6 := (HF.out.kept HG5.out (fun i => by
    cases hb : (f i).v.ownBlock with
    | none => exact .inl rfl
    | some g => exact .inr (fun e => by have := ((HF.out.own i).lt g hb).1; cases e; omega))).kept g6 (fun i => by cases (f i).v.ownBlock <;> simp)
  have hs6 : W6.heap.size = W.heap.size + 2 := by rw [← hW6]; exact HS5.out
  have d1 := g6.cell D1.out (by simp)
  have d2 := g6.cell D2.out (by simp)
  have d3 := g6.cell D3.out (by simp)
  have cR := hD6.cr n hn
  have fR := hD6.fz (1 + n)
  have hO := hF6.own i1
  rw [h1] at hO
  have HF6 := Lib.hid hF6
  have HD6 := Lib.hid hD6
  have H1 := Lib.hid h1
  have H2 := Lib.hid h2
  have hn0 : (0 : Int) ≤ (n : Int) := by omega
  have hn4 : (n : Int) < 401 := by omega
  have HS6 := Lib.hid hs6
  have hlt6 : W.heap.size + 1 < W6.heap.size := by omega
  have ao : ∀ g, (R n).ownBlock = some g → B ≤ g ∧ g < W6.heap.size := fun g hg => hO.lt g hg
  have aw : (R n).ownBlock ≠ some W.heap.size := fun e => by
    have h5 := (HF.out.own i1).lt W.heap.size (by rw [H1.out]; exact e)
    omega
  have aw1 : (R n).ownBlock ≠ some (W.heap.size + 1) := fun e => by
    have h5 := (HF.out.own i1).lt (W.heap.size + 1) (by rw [H1.out]; exact e)
    omega
  have cR2 : (W6.alloc (.cells #[.int .i64 (n : Int), .string t] 242)).cell? ⟨D, 1 + n, none⟩ = some (R n) := cell_al cR _
  have hD3 : D ≠ W.heap.size + 1 := by omega
  have aD : some D ≠ (R n).ownBlock := fun e => by have h5 := ao D e.symm; omega
  have hD6s : D < (W6.alloc (.cells #[.int .i64 (n : Int), .string t] 242)).drew.heap.size := by show D < (W6.alloc _).heap.size; rw [World.size_alloc]; omega
  have fD6 : (W6.alloc (.cells #[.int .i64 (n : Int), .string t] 242)).drew.frozen? ⟨D, 1 + n, none⟩ = false := (World.frozen?_of_block (a := ⟨D, 1 + n, none⟩) ((grown_al W6 _).block D (by omega) (by simp))).trans fR
  have hD4 : W.heap.size + 1 ≠ D := by omega
  obtain ⟨i0, hi, hz0, hz1, hz2⟩ := info_parts inf242
  have HLm : Hid (m + 1 ≤ maxLen) := by unfold Hid maxLen; omega
  have HLb : Hid ((m + 1) * 24 ≤ 140737488355328) := by unfold Hid; omega
  have HB6 : Hid (B ≤ W6.heap.size) := by unfold Hid; omega
  have HG6 := Lib.hid g6
  clear hW6 g6 hD6 hF6 h1 h2 hs6 hB
  rw [show Op.load 206 (Operand.tmp 59) = id (Op.load 206 (Operand.tmp 59)) from rfl]
  go_region_held3 (fun w' => w'.cell? ⟨W.heap.size, 0, none⟩ = some (.int .i64 (n : Int)) ∧ w'.cell? ⟨W.heap.size + 1, 0, none⟩ = some (.int .i64 (n : Int)) ∧ w'.cell? ⟨W.heap.size + 1, 1, none⟩ = some (.string t))
    (first
      | go_keep
      | (go_split_ands
         refine ⟨?_, ?_, ?_⟩
         · (rw [hgrow.cell_far _ (by simp; omega) (Ne.symm aw)]; assumption)
         · (rw [hgrow.cell_far _ (by simp; omega) (Ne.symm aw1)]; assumption)
         · (rw [hgrow.cell_far _ (by simp; omega) (Ne.symm aw1)]; assumption)))
    ((refine step_append_lies _ (by rfl) _ _ _ (by rfl) B 242 i0 _ 2 24 Tryz.underlying206 hi hz0 hz1 hz2 rfl (by omega) (R n) m xs (by rfl) ((hO.alloc _).drew)
        ⟨W6.heap.size, 0, none⟩ 1 1 [.int .i64 (n : Int), .string t] (by rfl) (by rfl) (World.news_of_block (cs := #[.int .i64 (n : Int), .string t]) (t := 242) (fr := (0, 0)) (heap_alloc_new W6 _)) (by simp [Value.oneCell'])
        (by omega) HLm.out HLb.out (by have h5 := HB6.out; simp; omega) (W6.heap.size + 1) (by simp) ?_; intro gg cap w1 hown1 hgrow hat hlt; have hc9 : w1.cell? ⟨D, 1 + n, none⟩ = some (R n) := hgrow.cell (cell_al cR _) aD; have hf9 : w1.frozen? ⟨D, 1 + n, none⟩ = false := (World.frozen?_of_block (a := ⟨D, 1 + n, none⟩) (hgrow.block D hD6s aD)).trans fD6))
  all_goals
    clear hc9 hf9 cR cR2 fR fD6 d1 d2 d3
    have hHe : (w1.setCell ⟨D, 1 + n, none⟩ (.slice (some ⟨gg, 0, none⟩) (m + 1) cap)).cell? ⟨W.heap.size + 1, 0, none⟩ = some (.int .i64 (n : Int)) ∧ (w1.setCell ⟨D, 1 + n, none⟩ (.slice (some ⟨gg, 0, none⟩) (m + 1) cap)).cell? ⟨W.heap.size + 1, 1, none⟩ = some (.string t) := by
      rename_i hh
      exact ⟨hh.2.1, hh.2.2⟩
    obtain ⟨W7, hW7, hd7, hF7, hb7, hs7⟩ := ad_w7 (base := base) HD6.out hn HF6.out hDB hMB HB6.out hD0 H1.out hown1 hgrow hat
    obtain ⟨q2, q3⟩ := hHe
    rw [hW7] at q2 q3 ⊢
    have e7 : W7.cell? ⟨D, 402, none⟩ = some (.map (some M)) := hd7.cm
    have hlk7 : Sem.run Tryz.prog (Instr.lookup 208 (.map (some M)) (keyV n t) false) W7.drew = .ok (.slice none 0 0) W7.drew := by
      have := run_look (W := W7.drew) (M := M) (L := L) hd7.mp n t
      rwa [show lookL n t L = .slice none 0 0 by unfold lookL; rw [hix.out]] at this
    have HD7 := Lib.hid hd7
    have hDMs : some D ≠ some M := fun e => desk_ne hd7 (Option.some.inj e)
    have hMWs : some (W.heap.size + 1) ≠ some M := fun e => by cases e; have h5 := HBs.out; omega
    have HF7 := Lib.hid hF7
    have HB7 := Lib.hid hb7
    have HS7 := Lib.hid hs7
    have hBW7 : Hid (B ≤ W7.heap.size) := by have h5 := HB6.out; unfold Hid; omega
    clear hW7 hd7 hF7 hb7 hs7 hown1 hgrow hat hlt aD hD6s aw aw1 ao HLm HLb hz0 hz1 hz2 hi hn0 hn4
    go_wp2_with fail
    go_region_held3 (fun w' => w'.cell? ⟨D, 402, none⟩ = some (.map (some M)) ∧ w'.cell? ⟨W.heap.size + 1, 0, none⟩ = some (.int .i64 (n : Int)) ∧ w'.cell? ⟨W.heap.size + 1, 1, none⟩ = some (.string t))
      (first
        | go_keep
        | (go_split_ands
           refine ⟨?_, ?_, ?_⟩
           · (first | exact g7.out.cell (by assumption) (by simp [Value.ownBlock]) | exact G8.out.cell (by assumption) hDMs)
           · (first | exact g7.out.cell (by assumption) (by simp [Value.ownBlock]) | exact G8.out.cell (by assumption) hMWs)
           · (first | exact g7.out.cell (by assumption) (by simp [Value.ownBlock]) | exact G8.out.cell (by assumption) hMWs)))
      ((go_at_call 184; refine (withLast_new (.slice none 0 0) [] k B _ (World.ownsRow_nil _ _ _ _) (by simp) (by simp) (by exact hBW7.out)).mono ?_; rintro e w2 ⟨v2, rfl, hO7, hg7, hw7, hs27⟩; have g7 := Lib.hid hg7; have hm2 := MapIs.grown (W := W7.drew) HD7.out.mp hg7 (by simp [Value.ownBlock]); obtain ⟨W8, hr8, hm8, hg8⟩ := run_upd hm2 (n : Int) t v2; have G8 := Lib.hid hg8; have M8 := Lib.hid hm8; clear hg8 hm8 hm2 hg7))
    have gd : W7.grownBy W7.drew none := grown_dr W7
    have hd7' := HD7.out.grown gd (by simp) (by simp)
    have hF7' := HF7.out.kept gd (fun i => by cases ((if i = i1 then (⟨242, 2, .slice (some ⟨gg, 0, none⟩) (m + 1) cap, m + 1, xs ++ [.int .i64 (n : Int), .string t]⟩ : Row) else f i)).v.ownBlock <;> simp)
    obtain ⟨za, zb, zc, zd⟩ := ad_w9 (v := .slice none 0 0) (l := 0) (zs := []) (zs' := [.int .i64 k]) (i2 := i2) (base := base) hd7' hF7' hDB hMB hBW7.out hM0 hD0 (by rw [if_neg (fun e => h12 e.symm)]; exact H2.out) hO7 g7.out hw7 M8.out G8.out
    have zz : Hid (∃ v1 v2, Desk W8 D M (max last n) (fun j => if j = n then v1 else R j) (updL n t v2 L) ∧
      Fam B (fun j => if j = i2 then ⟨3, 1, v2, 1, [.int .i64 k]⟩ else if j = i1 then ⟨242, 2, v1, m + 1, xs ++ [.int .i64 (n : Int), .string t]⟩ else f j) W8 ∧ Below base W W8 ∧ W.heap.size ≤ W8.heap.size) := by
      have hsd : W7.drew.heap.size = W7.heap.size := rfl
      have h5 := HS5.out
      have h6 := HS6.out
      have h7 := HS7.out
      exact ⟨_, _, za, zb, ((((below_gr HG5.out (by omega) (fun k hk => by cases hk; exact hD0)).trans (below_gr HG6.out (by omega) (by simp))).trans HB7.out).trans (below_gr gd (by omega) (by simp))).trans zc, by omega⟩
    clear za zb zc zd hd7' hF7' gd
    go_wp2_with fail

    exact ⟨rfl, _, by simp [results, Tryz.results166, go_sem], rfl, zz.out⟩
end Go.Proofs.YtmfhpddeclggfaaGreatDoor
