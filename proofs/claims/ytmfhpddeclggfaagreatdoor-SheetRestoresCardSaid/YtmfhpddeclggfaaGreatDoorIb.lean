import Derived.Test.YtmfhpddeclggfaaGreatDoorIa
import Derived.Laws.StructEq
import Derived.MapKept
import Derived.WideKeyRuns
import Derived.Maps.Own
import Derived.WalkKit
import Derived.LoopTactic
import Derived.WalkSpells
import Derived.WalkLawsBesides
import Derived.Lib.Hide
import Derived.BigQuiet
import Derived.IntWalk
import Derived.Deep.DeepMust
import Derived.WalkSmall
import Derived.StillTailTactics
import Derived.Deep.RegionLaw
import Derived.Deep.QuietTactic
import Derived.Deep.RegionHeld3
import Derived.Deep.AppendLies
import Derived.Carry
import Derived.Laws.Tables
namespace Go.Proofs.YtmfhpddeclggfaaGreatDoor
open Go.RowKit
/-! The desk: the same copy again, and other scraps. -/
set_option maxRecDepth 100000 in
set_option maxHeartbeats 1000000 in
theorem withLast_same (v : Value) (zs : List Int) (k : Int) (B : Nat) (w : World) (hO : w.ownsRow B 3 1 v zs.length (cellsI zs)) (hk : zs.getLast? = some k) (hl : zs.length ≤ 1000000) :
    Calls Tryz.prog 184 #[v, .int .i64 k] w fun e w' => e = .returned v ∧ w = w' := by
  have hz : zs ≠ [] := fun e => by rw [e] at hk; cases hk
  rcases hO.2 with ⟨rfl, h0⟩ | ⟨g, cap, cur, rfl, hg, hc, h3, h4, h5, h6⟩
  · exact absurd (List.length_eq_zero_iff.1 h0) hz
  · obtain ⟨m, hm⟩ : ∃ m, zs.length = m + 1 := ⟨zs.length - 1, by have := List.length_pos_iff.2 hz; omega⟩
    have hx : zs[m]? = some k := by rw [List.getLast?_eq_getElem?, hm] at hk; simpa using hk
    have c1 : w.cell? ⟨g, m, none⟩ = some (.int .i64 k) := by
      have g1 : (cellsI zs)[m]? = some (.int .i64 k) := by rw [cellsI, List.getElem?_map, hx]; rfl
      rw [← h6, List.getElem?_take_of_lt (by omega)] at g1
      simpa [World.cell?, hc] using g1
    rw [hm]
    have hml : m + 1 ≤ 1000000 := by omega
    have hw0 : IntKind.i64.wrap (((m : Int) + 1) - 1) = (m : Int) := by rw [show ((m : Int) + 1) - 1 = m from by omega, IntKind.wrap_i64]; unfold wrap64 at *; omega
    clear hk hg hc h3 h4 h5 h6 hx hz hO hm hl
    go_enter Tryz.func184, Tryz.ntmps184
    go_wp2_with fail
    go_ret
    exact ⟨rfl, rfl⟩
/-- The world behind the map's store of what is there already. -/
theorem ak_s9 {ι : Type} {f : ι → Row} {B D M base : Nat} {last : Int} {R O : Nat → Value} {L : List Ent} {n : Int} {t : ByteArray} {v : Value} {W7 W8 : World}
    (hd : Dk W7 D M last R O L) (hF : Fam B f W7) (hMB : M < B) (hB : B ≤ W7.heap.size) (hM0 : base ≤ M)
    (hM : MapIs W8 M (updL n t v L)) (hg8 : W7.grownBy W8 (some M)) :
    Dk W8 D M last R O (updL n t v L) ∧ Fam B f W8 ∧ Below base W7 W8 ∧ W7.heap.size ≤ W8.heap.size := by
  have hDM := dk_ne hd
  have hbD := hg8.block D (World.block_lt_of_cell? W7 ⟨D, 0, none⟩ hd.c0) (fun e => hDM (Option.some.inj e))
  have hs8 := hg8.size
  refine ⟨⟨(World.cell?_of_block (a := ⟨D, 0, none⟩) hbD).trans hd.c0, fun n hn => (World.cell?_of_block (a := ⟨D, 1 + n, none⟩) hbD).trans (hd.cr n hn), fun n hn => (World.cell?_of_block (a := ⟨D, 403 + n, none⟩) hbD).trans (hd.co n hn), (World.cell?_of_block (a := ⟨D, 402, none⟩) hbD).trans hd.cm, fun o => (World.frozen?_of_block (a := ⟨D, o, none⟩) hbD).trans (hd.fz o), hM⟩, hF.kept hg8 (fun i => ?_), below_gr hg8 (by omega) (fun k hk => by cases hk; exact hM0), by omega⟩
  cases hv : (f i).v.ownBlock with
  | none => exact .inl rfl
  | some g => exact .inr (fun e => by have := ((hF.own i).lt g hv).1; cases e; omega)
/-- The world behind the first steps of add. -/
theorem ak_o5 (W : World) (D M : Nat) (last x : Int) (R O : Nat → Value) (L : List Ent) (n : Int) (t : ByteArray) (hd : Dk W D M last R O L) :
    ∃ W5, ((W.setCell ⟨D, 0, none⟩ (.int .i64 x)).alloc (.cells #[.int .i64 n, .string t, .bool false] 224)).drew = W5 ∧ W5.heap.size = W.heap.size + 1 ∧ W.grownBy W5 (some D) ∧ Dk W5 D M x R O L ∧
      W5.cell? ⟨W.heap.size, 0, none⟩ = some (.int .i64 n) ∧ W5.cell? ⟨W.heap.size, 1, none⟩ = some (.string t) := by
  refine ⟨_, rfl, by show (World.alloc _ _).heap.size = _; simp, ?_, ?_, ?_, ?_⟩
  · exact grown_tr (grown_tr (grownBy_setCell' W D _) (grown_wk (grown_al _ _))) (grown_wk (grown_dr _))
  · exact ((hd.max x).grown (grown_al _ _) (by simp) (by simp)).grown (grown_dr _) (by simp) (by simp)
  · exact new_set W _ _ _ _ 0 _ rfl
  · exact new_set W _ _ _ _ 1 _ rfl
/-- The world behind the other scrap that is appended. -/
theorem ak_o7 {ι : Type} [DecidableEq ι] {f : ι → Row} {i1 : ι} {B D M base : Nat} {last : Int} {R O : Nat → Value} {L : List Ent} {n m : Nat} {k : Int} {t : ByteArray} {xs : List Value} {W6 w1 : World} {gg cap : Nat}
    (hd : Dk W6 D M last R O L) (hn : n ≤ 400) (hF : Fam B f W6) (hDB : D < B) (hMB : M < B) (hB : B ≤ W6.heap.size) (hD0 : base ≤ D) (h1 : f i1 = ⟨260, 2, O n, m, xs⟩)
    (hown : w1.ownsRow B 260 2 (.slice (some ⟨gg, 0, none⟩) (m + 1) cap) (m + 1) (xs ++ [.int .i64 k, .string t]))
    (hgrow : (W6.alloc (.cells #[.int .i64 k, .string t] 260)).drew.grownBy w1 (O n).ownBlock) (hat : (O n).ownBlock = some gg ∨ gg = W6.heap.size + 1) :
    ∃ W7, w1.setCell ⟨D, 403 + n, none⟩ (.slice (some ⟨gg, 0, none⟩) (m + 1) cap) = W7 ∧ Dk W7 D M last R (fun j => if j = n then .slice (some ⟨gg, 0, none⟩) (m + 1) cap else O j) L ∧
      Fam B (fun j => if j = i1 then ⟨260, 2, .slice (some ⟨gg, 0, none⟩) (m + 1) cap, m + 1, xs ++ [.int .i64 k, .string t]⟩ else f j) W7 ∧ Below base W6 W7 ∧ W6.heap.size ≤ W7.heap.size := by
  have hr : ∀ q, (O n).ownBlock = some q → B ≤ q ∧ q < W6.heap.size := fun q hk => by
    have h5 := (hF.own i1).lt q
    rw [h1] at h5
    exact h5 hk
  have hnD : (O n).ownBlock ≠ some D := fun e => by have := hr D e; omega
  have hnM : (O n).ownBlock ≠ some M := fun e => by have := hr M e; omega
  have hga : W6.grownBy (W6.alloc (.cells #[.int .i64 k, .string t] 260)).drew none := grown_tr (grown_al _ _) (grown_dr _)
  have hd1 := (hd.grown hga (by simp) (by simp)).grown hgrow hnD hnM
  have hFa := hF.kept hga (fun i => by cases (f i).v.ownBlock <;> simp)
  have hs6 : (W6.alloc (.cells #[.int .i64 k, .string t] 260)).drew.heap.size = W6.heap.size + 1 := by show (W6.alloc _).heap.size = _; simp
  have hF1 := hFa.grown i1 ⟨260, 2, .slice (some ⟨gg, 0, none⟩) (m + 1) cap, m + 1, xs ++ [.int .i64 k, .string t]⟩ (W' := w1) (by rw [h1]; exact hgrow) hown (by
    rw [h1, hs6]
    rcases hat with h | h
    · exact .inr ⟨by rw [h]; rfl, by rw [h]; simp⟩
    · exact .inl (by rw [h]; rfl))
  have hsz := hgrow.size
  rw [hs6] at hsz
  refine ⟨_, rfl, hd1.other n hn _, hF1.kept (grownBy_setCellAt w1 D (403 + n) _) (fun i => ?_), ?_, ?_⟩
  · cases hv : (if i = i1 then (⟨260, 2, .slice (some ⟨gg, 0, none⟩) (m + 1) cap, m + 1, xs ++ [.int .i64 k, .string t]⟩ : Row) else f i).v.ownBlock with
    | none => exact .inl rfl
    | some g => exact .inr (fun e => by have := ((hF1.own i).lt g hv).1; cases e; omega)
  · exact ((below_gr hga (by omega) (by simp)).trans (below_gr hgrow (by omega) (fun q hk => by have := hr q hk; omega))).trans (below_gr (grownBy_setCellAt w1 D (403 + n) _) (by omega) (fun q hk => by cases hk; exact hD0))
  · simp only [World.size_setCell]; omega

theorem inf260 : (Tryz.prog.info? 260).map (fun i => (i.zero, i.size, i.bytes)) = some (some (.agg #[.int .i64 0, .string ⟨#[]⟩]), 2, 24) := by kernel_rfl
set_option maxRecDepth 100000 in
set_option maxHeartbeats 4000000 in
theorem addk_same {ι : Type} [DecidableEq ι] (f : ι → Row) (i2 : ι) (B D M base : Nat) (hD0 : base ≤ D) (hM0 : base ≤ M) (last : Int) (R O : Nat → Value) (L : List Ent) (k : Int) (n : Nat) (t : ByteArray) (a0 : Addr) (l0 c0 : Nat) (zs : List Int) (W : World)
    (hd : Dk W D M last R O L) (hn : n ≤ 400) (hF : Fam B f W) (hB : B ≤ W.heap.size) (hDB : D < B) (hMB : M < B) (h2 : f i2 = ⟨3, 1, .slice (some a0) l0 c0, zs.length, cellsI zs⟩) (hzk : zs.getLast? = some k) (hzl : zs.length ≤ 1000000) (hi : lookL n t L = .slice (some a0) l0 c0) :
    Calls Tryz.prog 166 #[.pointer (some ⟨D, 0, none⟩), .int .i64 k, .agg #[.int .i64 (n : Int), .string t, .bool true]] W fun e w' => e = .returned (.tuple #[]) ∧ Dk w' D M (max last n) R O (updL n t (.slice (some a0) l0 c0) L) ∧ Fam B f w' ∧ Below base W w' ∧ W.heap.size ≤ w'.heap.size := by
  have HD := Lib.hid hd
  have hix := Lib.hid hi
  have hDW : D < W.heap.size := by omega
  have HBs : Hid (B ≤ W.heap.size) := hB
  obtain ⟨hc0, cr, -, hc402, fz, mp⟩ := hd
  have cn := cr n hn
  have f0 := fz 0
  have fn := fz (1 + n)
  have HF := Lib.hid hF
  have HMP := Lib.hid mp
  clear cr fz mp hF hi
  go_enter Tryz.func166, Tryz.ntmps166
  go_wp2_with fail
  have hD1 : D ≠ W.heap.size := by omega
  have hD2 : W.heap.size ≠ D := by omega
  have hk1 : ∀ v, ((W.setCell ⟨D, 0, none⟩ v).alloc (.cells #[.int .i64 (n : Int), .string t, .bool true] 224)).drew.cell? ⟨W.heap.size, 0, none⟩ = some (.int .i64 (n : Int)) := fun v => new_set W _ v _ _ 0 _ rfl
  rw [show Op.load 3 (Operand.tmp 10) = id (Op.load 3 (Operand.tmp 10)) from rfl]
  go_region_held3 (fun w' => w'.cell? ⟨W.heap.size, 0, none⟩ = some (.int .i64 (n : Int))) (first | exact hk1 _ | go_keep) (fail)
  clear hk1
  go_wp2_with fail
  obtain ⟨W5, hW5, hs5, hg5, hd5, d1, d2, d3⟩ := ak_w5 W D M last (max last (n : Int)) R O L n t HD.out
  rw [hW5]
  have HD5 := Lib.hid hd5
  have HG5 := Lib.hid hg5
  have HS5 := Lib.hid hs5
  have D1 := Lib.hid d1
  have D2 := Lib.hid d2
  have D3 := Lib.hid d3
  have e1 : W5.cell? ⟨D, 402, none⟩ = some (.map (some M)) := hd5.cm
  have hlk : ∀ m, Sem.run Tryz.prog (Instr.lookup 208 (.map (some M)) (keyV n t) false) (W5.drewN m) = .ok (.slice (some a0) l0 c0) (W5.drewN m) := by
    intro m
    have := run_look (W := W5.drewN m) (M := M) (L := L) hd5.mp n t
    rwa [hix.out] at this
  clear hW5 hg5 hs5 hd5 hc0 hc402 cn f0 fn
  have hnil := some85 a0 l0 c0
  go_quiet (fail)
  clear hlk hnil e1 d1 d2 d3
  go_wp2_with fail
  obtain ⟨W6, hW6⟩ : ∃ W6, W5.drewN nq = W6 := ⟨_, rfl⟩
  have g6 : W5.grownBy W6 none := by rw [← hW6]; exact ⟨rfl, rfl, rfl, Nat.le_refl _, fun _ _ _ => rfl⟩
  rw [hW6]
  have hD6 := HD5.out.grown g6 (by simp) (by simp)
  have hF6 : Fam B f W6 := (HF.out.kept HG5.out (fun i => by
    cases hb : (f i).v.ownBlock with
    | none => exact .inl rfl
    | some g => exact .inr (fun e => by have := ((HF.out.own i).lt g hb).1; cases e; omega))).kept g6 (fun i => by cases (f i).v.ownBlock <;> simp)
  have hs6 : W6.heap.size = W.heap.size + 2 := by rw [← hW6]; exact HS5.out
  have q2 := g6.cell D2.out (by simp)
  have q3 := g6.cell D3.out (by simp)
  have e7 : W6.cell? ⟨D, 402, none⟩ = some (.map (some M)) := hD6.cm
  have hlk7 : Sem.run Tryz.prog (Instr.lookup 208 (.map (some M)) (keyV n t) false) W6.drew = .ok (.slice (some a0) l0 c0) W6.drew := by
    have := run_look (W := W6.drew) (M := M) (L := L) hD6.mp n t
    rwa [hix.out] at this
  have HD7 := Lib.hid hD6
  have H2 := Lib.hid h2
  have HZK := Lib.hid hzk
  have HZL := Lib.hid hzl
  have hO2 := hF6.own i2
  rw [h2] at hO2
  have gd : W6.grownBy W6.drew none := grown_dr W6
  have HO2 := Lib.hid (hO2.kept gd (Classical.em _))
  have hDM0 : D ≠ M := dk_ne hD6
  have hMs : some D ≠ some M := fun e => hDM0 (Option.some.inj e)
  have hMWs : some (W.heap.size + 1) ≠ some M := fun e => by cases e; have h5 := HBs.out; omega
  have hvD : some D ≠ (Value.slice (some a0) l0 c0).ownBlock := fun e => by have h5 := (hO2.lt D e.symm).1; omega
  have hvM : (Value.slice (some a0) l0 c0).ownBlock ≠ some M := fun e => by have h5 := (hO2.lt M e).1; omega
  have hvW : some (W.heap.size + 1) ≠ (Value.slice (some a0) l0 c0).ownBlock := fun e => by
    have h5 := (HF.out.own i2).lt (W.heap.size + 1) (by rw [H2.out]; exact e.symm)
    omega
  have HF7 := Lib.hid hF6
  have HG6 := Lib.hid g6
  have HS6 := Lib.hid hs6
  have hBW7 : Hid (B ≤ W6.heap.size) := by unfold Hid; omega
  clear hW6 hD6 hF6 g6 hs6 h2 hzk hzl hO2 hB gd hDM0
  go_region_held3 (fun w' => w'.cell? ⟨D, 402, none⟩ = some (.map (some M)) ∧ w'.cell? ⟨W.heap.size + 1, 0, none⟩ = some (.int .i64 (n : Int)) ∧ w'.cell? ⟨W.heap.size + 1, 1, none⟩ = some (.string t))
      (first
        | go_keep
        | (go_split_ands
           refine ⟨?_, ?_, ?_⟩
           · (first | exact G8.out.cell (by assumption) hMs)
           · (first | exact G8.out.cell (by assumption) hMWs)
           · (first | exact G8.out.cell (by assumption) hMWs)))
      ((go_at_call 184; refine (withLast_same (.slice (some a0) l0 c0) zs k B _ HO2.out HZK.out (by have h5 := HZL.out; omega)).mono ?_; rintro e w2 ⟨rfl, rfl⟩; have hm2 := MapIs.grown (W := W6) HD7.out.mp (grown_dr W6) (by simp); obtain ⟨W8, hr8, hm8, hg8⟩ := run_upd hm2 (n : Int) t (.slice (some a0) l0 c0); have G8 := Lib.hid hg8; have M8 := Lib.hid hm8; clear hg8 hm8 hm2))
  have gd : W6.grownBy W6.drew none := grown_dr W6
  have hd7' := HD7.out.grown gd (by simp) (by simp)
  have hF7' := HF7.out.kept gd (fun i => by cases (f i).v.ownBlock <;> simp)
  obtain ⟨za, zb, zc, zd⟩ := ak_s9 (base := base) hd7' hF7' hMB hBW7.out hM0 M8.out G8.out
  have zz : Hid (Dk W8 D M (max last n) R O (updL n t (.slice (some a0) l0 c0) L) ∧ Fam B f W8 ∧ Below base W W8 ∧ W.heap.size ≤ W8.heap.size) := by
    have hsd : W6.drew.heap.size = W6.heap.size := rfl
    have h5 := HS5.out
    have h6 := HS6.out
    exact ⟨za, zb, (((below_gr HG5.out (by omega) (fun k hk => by cases hk; exact hD0)).trans (below_gr HG6.out (by omega) (by simp))).trans (below_gr gd (by omega) (by simp))).trans zc, by omega⟩
  clear za zb zc zd hd7' hF7' gd
  go_wp2_with fail
  exact ⟨rfl, _, by simp [results, Tryz.results166, go_sem], rfl, zz.out⟩

set_option maxRecDepth 100000 in
set_option maxHeartbeats 4000000 in
theorem addk_other {ι : Type} [DecidableEq ι] (f : ι → Row) (i1 : ι) (B D M base : Nat) (hD0 : base ≤ D) (last : Int) (R O : Nat → Value) (L : List Ent) (k : Int) (n : Nat) (t : ByteArray) (m : Nat) (xs : List Value) (W : World)
    (hd : Dk W D M last R O L) (hn : n ≤ 400) (hF : Fam B f W) (hB : B ≤ W.heap.size) (hDB : D < B) (hMB : M < B) (h1 : f i1 = ⟨260, 2, O n, m, xs⟩) (hm : m ≤ 1000000) :
    Calls Tryz.prog 166 #[.pointer (some ⟨D, 0, none⟩), .int .i64 k, .agg #[.int .i64 (n : Int), .string t, .bool false]] W fun e w' => e = .returned (.tuple #[]) ∧ ∃ v1,
      Dk w' D M (max last n) R (fun j => if j = n then v1 else O j) L ∧
      Fam B (fun j => if j = i1 then ⟨260, 2, v1, m + 1, xs ++ [.int .i64 k, .string t]⟩ else f j) w' ∧ Below base W w' ∧ W.heap.size ≤ w'.heap.size := by
  have HD := Lib.hid hd
  have hDW : D < W.heap.size := by omega
  have HBs : Hid (B ≤ W.heap.size) := hB
  obtain ⟨c0, cr, co, hc402, fz, mp⟩ := hd
  have cn := co n hn
  have f0 := fz 0
  have fn := fz (403 + n)
  have HF := Lib.hid hF
  have HMP := Lib.hid mp
  clear cr co fz mp hF
  go_enter Tryz.func166, Tryz.ntmps166
  go_wp2_with fail
  have hD1 : D ≠ W.heap.size := by omega
  have hD2 : W.heap.size ≠ D := by omega
  have hk1 : ∀ v, ((W.setCell ⟨D, 0, none⟩ v).alloc (.cells #[.int .i64 (n : Int), .string t, .bool false] 224)).drew.cell? ⟨W.heap.size, 0, none⟩ = some (.int .i64 (n : Int)) := fun v => new_set W _ v _ _ 0 _ rfl
  rw [show Op.load 3 (Operand.tmp 10) = id (Op.load 3 (Operand.tmp 10)) from rfl]
  go_region_held3 (fun w' => w'.cell? ⟨W.heap.size, 0, none⟩ = some (.int .i64 (n : Int))) (first | exact hk1 _ | go_keep) (fail)
  clear hk1
  obtain ⟨W6, hW6, hs6, g6, hD6, d1, d2⟩ := ak_o5 W D M last (max last (n : Int)) R O L n t HD.out
  have W6c : W6.cell? ⟨W.heap.size, 2, none⟩ = some (.bool false) := by rw [← hW6]; exact new_set W _ _ _ _ 2 _ rfl
  rw [hW6]
  clear hW6
  have cR := hD6.co n hn
  have fR := hD6.fz (403 + n)
  have hF6 : Fam B f W6 := HF.out.kept g6 (fun i => by
    cases hb : (f i).v.ownBlock with
    | none => exact .inl rfl
    | some g => exact .inr (fun e => by have := ((HF.out.own i).lt g hb).1; cases e; omega))
  have hO := hF6.own i1
  rw [h1] at hO
  have HF6 := Lib.hid hF6
  have HD6 := Lib.hid hD6
  have H1 := Lib.hid h1
  have hn0 : (0 : Int) ≤ (n : Int) := by omega
  have hn4 : (n : Int) < 401 := by omega
  have HS6 := Lib.hid hs6
  have hlt6 : W.heap.size < W6.heap.size := by omega
  have ao : ∀ g, (O n).ownBlock = some g → B ≤ g ∧ g < W6.heap.size := fun g hg => hO.lt g hg
  have aw : (O n).ownBlock ≠ some W.heap.size := fun e => by
    have h5 := (HF.out.own i1).lt W.heap.size (by rw [H1.out]; exact e)
    omega
  have cR2 : (W6.alloc (.cells #[.int .i64 k, .string t] 260)).cell? ⟨D, 403 + n, none⟩ = some (O n) := cell_al cR _
  have aD : some D ≠ (O n).ownBlock := fun e => by have h5 := ao D e.symm; omega
  have hD6s : D < (W6.alloc (.cells #[.int .i64 k, .string t] 260)).drew.heap.size := by show D < (W6.alloc _).heap.size; rw [World.size_alloc]; omega
  have fD6 : (W6.alloc (.cells #[.int .i64 k, .string t] 260)).drew.frozen? ⟨D, 403 + n, none⟩ = false := (World.frozen?_of_block (a := ⟨D, 403 + n, none⟩) ((grown_al W6 _).block D (by omega) (by simp))).trans fR
  obtain ⟨i0, hi, hz0, hz1, hz2⟩ := info_parts inf260
  have HLm : Hid (m + 1 ≤ maxLen) := by unfold Hid maxLen; omega
  have HLb : Hid ((m + 1) * 24 ≤ 140737488355328) := by unfold Hid; omega
  have HB6 : Hid (B ≤ W6.heap.size) := by unfold Hid; omega
  have HG6 := Lib.hid g6
  clear g6 hD6 hF6 h1 hs6 hB
  go_wp2_with fail
  rw [show Op.load 209 (Operand.tmp 28) = id (Op.load 209 (Operand.tmp 28)) from rfl]
  go_region_held3 (fun w' => w'.cell? ⟨W.heap.size, 0, none⟩ = some (.int .i64 (n : Int)) ∧ w'.cell? ⟨W.heap.size, 1, none⟩ = some (.string t))
    (first
      | go_keep
      | (go_split_ands
         refine ⟨?_, ?_⟩
         · (rw [hgrow.cell_far _ (by simp; omega) (Ne.symm aw)]; assumption)
         · (rw [hgrow.cell_far _ (by simp; omega) (Ne.symm aw)]; assumption)))
    ((refine step_append_lies _ (by rfl) _ _ _ (by rfl) B 260 i0 _ 2 24 Tryz.underlying209 hi hz0 hz1 hz2 rfl (by omega) (O n) m xs (by rfl) ((hO.alloc _).drew)
        ⟨W6.heap.size, 0, none⟩ 1 1 [.int .i64 k, .string t] (by rfl) (by rfl) (World.news_of_block (cs := #[.int .i64 k, .string t]) (t := 260) (fr := (0, 0)) (heap_alloc_new W6 _)) (by simp [Value.oneCell'])
        (by omega) HLm.out HLb.out (by have h5 := HB6.out; simp; omega) (W6.heap.size + 1) (by simp) ?_; intro gg cap w1 hown1 hgrow hat hlt; have hc9 : w1.cell? ⟨D, 403 + n, none⟩ = some (O n) := hgrow.cell (cell_al cR _) aD; have hf9 : w1.frozen? ⟨D, 403 + n, none⟩ = false := (World.frozen?_of_block (a := ⟨D, 403 + n, none⟩) (hgrow.block D hD6s aD)).trans fD6))
  all_goals
    clear hc9 hf9 cR cR2 fR fD6 d1 d2
    obtain ⟨W7, hW7, hd7, hF7, hb7, hs7⟩ := ak_o7 (base := base) HD6.out hn HF6.out hDB hMB HB6.out hD0 H1.out hown1 hgrow hat
    rw [hW7]
    have zz : Hid (∃ v1, Dk W7 D M (max last n) R (fun j => if j = n then v1 else O j) L ∧
      Fam B (fun j => if j = i1 then ⟨260, 2, v1, m + 1, xs ++ [.int .i64 k, .string t]⟩ else f j) W7 ∧ Below base W W7 ∧ W.heap.size ≤ W7.heap.size) := by
      have h6 := HS6.out
      exact ⟨_, hd7, hF7, (below_gr HG6.out (by omega) (fun k hk => by cases hk; exact hD0)).trans hb7, by omega⟩
    clear hW7 hd7 hF7 hb7 hs7 hown1 hgrow hat hlt
    go_wp2_with fail
    exact ⟨rfl, _, by simp [results, Tryz.results166, go_sem], rfl, zz.out⟩
end Go.Proofs.YtmfhpddeclggfaaGreatDoor
