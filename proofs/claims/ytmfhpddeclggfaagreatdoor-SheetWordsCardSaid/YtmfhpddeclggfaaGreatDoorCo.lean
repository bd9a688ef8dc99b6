import Derived.Test.YtmfhpddeclggfaaGreatDoorFd
import Derived.Test.YtmfhpddeclggfaaGreatDoorAl
import Derived.Test.YtmfhpddeclggfaaGreatDoorSanityOf
import Derived.Laws.StructEq
import Derived.MapKept
import Derived.WideKeyRuns
import Derived.Maps.Own
import Derived.WalkKit
import Derived.LoopTactic
import Derived.WalkSpells
import Derived.WalkLawsBesides
import Derived.Lib.Hide
import Derived.BigQuiet
import Derived.IntWalk
import Derived.Deep.DeepMust
import Derived.WalkSmall
import Derived.StillTailTactics
import Derived.Deep.RegionLaw
import Derived.Deep.QuietTactic
import Derived.Deep.RegionHeld3
import Derived.Deep.AppendLies
namespace Go.Proofs.YtmfhpddeclggfaaGreatDoor
open Go.RowKit
/-- The book that is made: its lines, in a row of their own; no gaps, no clashes. -/
structure Bk (W : World) (b B : Nat) (v : Value) (m : Nat) (xs : List Value) : Prop where
  c0 : W.cell? ⟨b, 0, none⟩ = some v
  c1 : W.cell? ⟨b, 1, none⟩ = some (.slice none 0 0)
  c2 : W.cell? ⟨b, 2, none⟩ = some (.slice none 0 0)
  fz : ∀ o, W.frozen? ⟨b, o, none⟩ = false
  own : W.ownsRow B 87 4 v m xs
  lt : b < B
  hb : B ≤ W.heap.size
theorem Bk.below {W W' : World} {b B : Nat} {v : Value} {m : Nat} {xs : List Value} (h : Bk W b B v m xs) (hb : Below W.heap.size W W') : Bk W' b B v m xs := by
  have hl : b < W.heap.size := Nat.lt_of_lt_of_le h.lt h.hb
  exact ⟨(hb.cell (p := ⟨b, 0, none⟩) hl).trans h.c0, (hb.cell (p := ⟨b, 1, none⟩) hl).trans h.c1, (hb.cell (p := ⟨b, 2, none⟩) hl).trans h.c2, fun o => (hb.frozen (p := ⟨b, o, none⟩) hl).trans (h.fz o), ownsRow_keep h.own hb, h.lt, Nat.le_trans h.hb hb.size⟩
/-- The world behind a line that is appended. -/
theorem bk_next {W w1 : World} {b B base : Nat} {v v' : Value} {m : Nat} {xs ys : List Value} {o : Obj} (h : Bk W b B v m xs) (hbase : base ≤ b)
    (hown : w1.ownsRow B 87 4 v' (m + 1) ys) (hg : (W.alloc o).drew.grownBy w1 v.ownBlock) :
    Bk (w1.setCell ⟨b, 0, none⟩ v') b B v' (m + 1) ys ∧ Below base W (w1.setCell ⟨b, 0, none⟩ v') := by
  have hr : ∀ k, v.ownBlock = some k → B ≤ k ∧ k < W.heap.size := fun k hk => h.own.lt k hk
  have hlt := h.lt
  have hle := h.hb
  have hga : W.grownBy (W.alloc o).drew none := grown_tr (grown_al _ _) (grown_dr _)
  have hs : (W.alloc o).drew.heap.size = W.heap.size + 1 := by show (W.alloc _).heap.size = _; simp
  have hsz := hg.size
  rw [hs] at hsz
  have hblk : w1.heap[b]? = W.heap[b]? := (hg.block b (by omega) (fun e => by have := hr b e.symm; omega)).trans (hga.block b (by omega) (by simp))
  have hc : ∀ o, w1.cell? ⟨b, o, none⟩ = W.cell? ⟨b, o, none⟩ := fun o => World.cell?_of_block (a := ⟨b, o, none⟩) hblk
  have hne : ∀ o, o ≠ 0 → (⟨b, 0, none⟩ : Addr) ≠ ⟨b, o, none⟩ := fun o ho e => ho (by have := congrArg Addr.off e; simpa using this.symm)
  refine ⟨⟨World.cell?_setCell_same _ _ _ ((hc 0).trans h.c0), ?_, ?_, fun o => ?_, ?_, hlt, ?_⟩, ?_⟩
  · rw [World.cell?_setCell_other _ _ _ _ (hne 1 (by decide))]; exact (hc 1).trans h.c1
  · rw [World.cell?_setCell_other _ _ _ _ (hne 2 (by decide))]; exact (hc 2).trans h.c2
  · rw [World.frozen?_setCell]; exact (World.frozen?_of_block (a := ⟨b, o, none⟩) hblk).trans (h.fz o)
  · refine hown.kept (grownBy_setCellAt w1 b 0 _) ?_
    cases hv : v'.ownBlock with
    | none => exact .inl rfl
    | some g => exact .inr (fun e => by have := (hown.lt g hv).1; cases e; omega)
  · simp only [World.size_setCell]; omega
  · exact ((below_gr hga (by omega) (by simp)).trans (below_gr hg (by omega) (fun k hk => by have := hr k hk; omega))).trans (below_gr (grownBy_setCellAt w1 b 0 _) (by omega) (fun k hk => by cases hk; exact hbase))
/-- What putting two lines together leaves. -/
def CoP (W : World) (e : Ending) (w' : World) : Prop := Below W.heap.size W w' ∧ ∃ (b c k1 k2 : Nat) (q1 q2 : Option Addr), e = .returned (.agg #[.slice (some ⟨b, 0, none⟩) 2 c, .slice none 0 0, .slice none 0 0]) ∧ b < w'.heap.size ∧ w'.cell? ⟨b, 2, none⟩ = some (.slice q1 1 k1) ∧ w'.cell? ⟨b, 6, none⟩ = some (.slice q2 2 k2)
theorem cop_mk {W w' : World} {b c k1 k2 : Nat} {q1 q2 : Option Addr} (h : Below W.heap.size W w') (hl : b < w'.heap.size) (h2 : w'.cell? ⟨b, 2, none⟩ = some (.slice q1 1 k1)) (h6 : w'.cell? ⟨b, 6, none⟩ = some (.slice q2 2 k2)) :
    CoP W (.returned (.agg #[.slice (some ⟨b, 0, none⟩) 2 c, .slice none 0 0, .slice none 0 0])) w' := ⟨h, b, c, k1, k2, q1, q2, rfl, hl, h2, h6⟩
set_option maxRecDepth 100000 in
set_option maxHeartbeats 4000000 in
theorem collate_san (t1 t2 : ByteArray) (sb : Nat) (p0 p1 : Option Addr) (c0 c1 B0 : Nat) (W : World) (he : Env W) (ht1 : t1.size ≤ 1000000) (ht2 : t2.size ≤ 1000000)
    (h0 : W.cell? ⟨sb, 0, none⟩ = some (.slice p0 2 c0)) (h1 : W.cell? ⟨sb, 1, none⟩ = some (.slice p1 1 c1)) (hs0 : ScAt B0 W p0 [⟨1, t1, true⟩, ⟨2, t2, true⟩]) (hs1 : ScAt B0 W p1 [⟨2, t2, true⟩]) :
    Calls Tryz.prog 108 #[.slice (some ⟨sb, 0, none⟩) 2 2] W (CoP W) := by
  have HE := Lib.hid he
  have LY := Lib.hid (lay_san t1 t2 sb p0 p1 c0 c1 B0 (W.alloc (.cells #[.slice none 0 0, .slice none 0 0, .slice none 0 0] 78)) (cell_al h0 _) (cell_al h1 _) (hs0.below (below_alloc1 _ _)) (hs1.below (below_alloc1 _ _)))
  have HT1 := Lib.hid ht1
  have HT2 := Lib.hid ht2
  have hr0 : ∀ V, Below (W.alloc (.cells #[.slice none 0 0, .slice none 0 0, .slice none 0 0] 78)).heap.size (W.alloc (.cells #[.slice none 0 0, .slice none 0 0, .slice none 0 0] 78)) V → V.cell? ⟨W.heap.size, 0, none⟩ = some (.slice none 0 0) ∧ V.cell? ⟨W.heap.size, 1, none⟩ = some (.slice none 0 0) ∧ V.cell? ⟨W.heap.size, 2, none⟩ = some (.slice none 0 0) ∧ ∀ o, V.frozen? ⟨W.heap.size, o, none⟩ = false := fun V hb =>
    ⟨(hb.cell (p := ⟨W.heap.size, 0, none⟩) (by simp)).trans (nw_at W _ 78 0 _ rfl), (hb.cell (p := ⟨W.heap.size, 1, none⟩) (by simp)).trans (nw_at W _ 78 1 _ rfl), (hb.cell (p := ⟨W.heap.size, 2, none⟩) (by simp)).trans (nw_at W _ 78 2 _ rfl), fun o => (hb.frozen (p := ⟨W.heap.size, o, none⟩) (by simp)).trans (frozen_new W _ _ o)⟩
  have HR0 := Lib.hid hr0
  clear he h0 h1 hs0 hs1 ht1 ht2 hr0
  go_enter Tryz.func108, Tryz.ntmps108
  go_wp2_with fail
  refine LY.out.mono ?_
  rintro e W1 ⟨D, M, rfl, hla, hb1⟩
  go_wp2_with fail
  have hsW : W.heap.size + 1 ≤ W1.heap.size := by have := hb1.size; simpa using this
  have HK0 : Hid (Bk (W1.alloc (.cells #[.slice none 0 0, .slice none 0 0, .slice none 0 0] 78)) W1.heap.size (W1.heap.size + 1) (.slice none 0 0) 0 []) :=
    ⟨nw_at W1 _ 78 0 _ rfl, nw_at W1 _ 78 1 _ rfl, nw_at W1 _ 78 2 _ rfl, fun o => frozen_new W1 _ _ o, World.ownsRow_nil _ _ _ _, Nat.lt_succ_self _, by simp⟩
  have hz : ∀ V, Below W1.heap.size W1 V → Below W.heap.size W V ∧ V.cell? ⟨D, 0, none⟩ = some (.int .i64 2) ∧ La 2 [0] [0, 1] t1 t2 D M V ∧ Env V ∧ Below (W.alloc (.cells #[.slice none 0 0, .slice none 0 0, .slice none 0 0] 78)).heap.size (W.alloc (.cells #[.slice none 0 0, .slice none 0 0, .slice none 0 0] 78)) V := fun V hb => by
    have b1 : Below W.heap.size W V := ((below_alloc1 W _).trans (hb1.mono (by simp))).trans (hb.mono (by omega))
    obtain ⟨R, L, hd, -⟩ := la_read (by simp) (by simp) (hla.below hb)
    exact ⟨b1, hd.c0, hla.below hb, HE.out.next b1, hb1.trans (hb.mono (by simpa using hsW))⟩
  have HZ := Lib.hid hz
  obtain ⟨W2, hW2⟩ : ∃ W2, W1.alloc (.cells #[.slice none 0 0, .slice none 0 0, .slice none 0 0] 78) = W2 := ⟨_, rfl⟩
  have HB2 : Hid (Below W1.heap.size W1 W2) := by rw [← hW2]; exact below_alloc1 _ _
  obtain ⟨bb, hbb⟩ : ∃ bb, W1.heap.size = bb := ⟨_, rfl⟩
  rw [hW2, hbb] at HK0
  rw [hbb] at HZ HB2 hsW ⊢
  rw [hW2]
  have HSW := Lib.hid hsW
  clear hla hb1 LY hW2 hbb hsW hz
  have HSZ : Hid (bb < W2.heap.size) := Nat.lt_of_lt_of_le HK0.out.lt HK0.out.hb
  obtain ⟨-, d0, hl0, e0, -⟩ := HZ.out _ HB2.out
  have F1 := Lib.hid (found_1 (by simp) (by simp) hl0 HT1.out e0)
  clear hl0 e0
  refine wp_loop_rounds 3 ?_
  rw [rounds_succ]
  go_wp2_with fail
  refine F1.out.mono ?_
  rintro e W3 ⟨g, cap, n', p, k, c, pc, cc, rfl, hg1, hg2, ⟨q0, q1, q2, q3⟩, hb⟩
  have HK1 := Lib.hid (HK0.out.below hb)
  have HB3 : Hid (Below bb W1 W3) := HB2.out.trans (hb.mono (Nat.le_of_lt HSZ.out))
  have c0 := HK1.out.c0
  clear F1 HK0 HB2 hb d0
  go_wp2_with fail
  have cx : (W3.alloc (.cells #[.int .i64 n', .slice p k c, .slice pc 1 cc, .bool false] 87)).cell? ⟨bb, 0, none⟩ = some (.slice none 0 0) := cell_al c0 _
  have fx : W3.frozen? ⟨bb, 0, none⟩ = false := HK1.out.fz 0
  have hbW : Hid (bb + 1 ≤ W3.heap.size) := HK1.out.hb
  have ao : ∀ x, Value.ownBlock (.slice none 0 0) = some x → bb + 1 ≤ x ∧ x < W3.heap.size := fun x hx => HK1.out.own.lt x hx
  have aD : some bb ≠ Value.ownBlock (.slice none 0 0) := fun e => by have h5 := ao bb e.symm; omega
  have ag : Value.ownBlock (.slice none 0 0) ≠ some g := by simp [Value.ownBlock]
  have HG2 := Lib.hid hg2
  have bs0 : bb < (W3.alloc (.cells #[.int .i64 n', .slice p k c, .slice pc 1 cc, .bool false] 87)).drew.heap.size := by show bb < (W3.alloc _).heap.size; rw [World.size_alloc]; have := hbW.out; omega
  have gs0 : g < (W3.alloc (.cells #[.int .i64 n', .slice p k c, .slice pc 1 cc, .bool false] 87)).drew.heap.size := by show g < (W3.alloc _).heap.size; rw [World.size_alloc]; omega
  have fa : (W3.alloc (.cells #[.int .i64 n', .slice p k c, .slice pc 1 cc, .bool false] 87)).drew.frozen? ⟨bb, 0, none⟩ = false := (World.frozen?_of_block (a := ⟨bb, 0, none⟩) ((grown_al W3 _).block bb (by have := hbW.out; omega) (by simp))).trans fx
  have gb1 : g ≠ bb := by have h5 := HSZ.out; omega
  have gb2 : bb ≠ g := fun e => gb1 e.symm
  clear hg1 hg2 ao
  obtain ⟨i0, hi, hz0, hz1, hz2⟩ := info_parts inf87
  rw [show Op.load 75 (Operand.tmp 36) = id (Op.load 75 (Operand.tmp 36)) from rfl]
  go_region_held3 (fun w' => w'.cell? ⟨g, 0, none⟩ = some (.int .i64 n') ∧ w'.cell? ⟨g, 1, none⟩ = some (.slice p k c) ∧ w'.cell? ⟨g, 2, none⟩ = some (.slice pc 1 cc) ∧ w'.cell? ⟨g, 3, none⟩ = some (.bool false))
    (first
      | go_keep
      | (go_split_ands
         refine ⟨?_, ?_, ?_, ?_⟩ <;> (rw [hgrow.cell_far _ gs0 (Ne.symm ag)]; assumption)))
    ((refine step_append_lies _ (by rfl) _ _ _ (by rfl) (bb + 1) 87 i0 _ 4 64 Tryz.underlying75 hi hz0 hz1 hz2 rfl (by omega) (.slice none 0 0) 0 ([]) (by rfl) ((HK1.out.own.alloc _).drew)
        ⟨W3.heap.size, 0, none⟩ 1 1 [.int .i64 n', .slice p k c, .slice pc 1 cc, .bool false] (by rfl) (by rfl) (World.news_of_block (cs := #[.int .i64 n', .slice p k c, .slice pc 1 cc, .bool false]) (t := 87) (fr := (0, 0)) (heap_alloc_new W3 _)) (by simp [Value.oneCell'])
        (by omega) (by unfold maxLen; omega) (by omega) (by have h5 := hbW.out; simp; omega) (W3.heap.size + 1) (by simp) ?_; intro gg cg w9 hown1 hgrow hat hlt; have hc9 : w9.cell? ⟨bb, 0, none⟩ = some (.slice none 0 0) := hgrow.cell (cell_al c0 _) aD; have hf9 : w9.frozen? ⟨bb, 0, none⟩ = false := (World.frozen?_of_block (a := ⟨bb, 0, none⟩) (hgrow.block bb bs0 aD)).trans fa))
  all_goals
    obtain ⟨zk, zb⟩ := bk_next (base := bb) (v' := .slice (some ⟨gg, 0, none⟩) 1 cg) HK1.out (Nat.le_refl _) hown1 hgrow
    obtain ⟨W4, hW4⟩ : ∃ W4, w9.setCell ⟨bb, 0, none⟩ (.slice (some ⟨gg, 0, none⟩) 1 cg) = W4 := ⟨_, rfl⟩
    rw [hW4] at zk zb ⊢
    have HB4 : Hid (Below bb W1 W4) := HB3.out.trans zb
    obtain ⟨xs1, hxs1⟩ : ∃ xs1, Hid (xs1 = [Value.int .i64 n', .slice p k c, .slice pc 1 cc, .bool false]) := ⟨_, rfl⟩
    have HX : Hid (Bk W4 bb (bb + 1) (.slice (some ⟨gg, 0, none⟩) 1 cg) 1 xs1) := by rw [hxs1.out]; exact zk
    clear zk zb hown1 hgrow hat hlt hc9 hf9 cx fx aD ag bs0 gs0 fa gb1 gb2 q0 q1 q2 q3 c0 hi hz0 hz1 hz2 HG2 HB3 HK1 hbW HSZ
    rename_i hh
    clear hh hW4
    obtain ⟨-, d0, hl0, e0, -⟩ := HZ.out _ HB4.out
    have HSZ4 : Hid (bb < W4.heap.size) := Nat.lt_of_lt_of_le HX.out.lt HX.out.hb
    have F1 := Lib.hid (found_2 (by simp) (by simp) hl0 HT2.out e0)
    clear hl0 e0
    go_wp2_with fail
    rw [rounds_succ]
    go_wp2_with fail
    refine F1.out.mono ?_
    rintro e W5 ⟨g, cap, n1, p, k, c, pc, cc, rfl, hg1, hg2, ⟨q0, q1, q2, q3⟩, hb⟩
    have HK5 := Lib.hid (HX.out.below hb)
    have HB5 : Hid (Below bb W1 W5) := HB4.out.trans (hb.mono (Nat.le_of_lt HSZ4.out))
    have hgne : gg ≠ g := by have := (HX.out.own.lt gg (by simp [Value.ownBlock])).2; omega
    have c0 := HK5.out.c0
    clear F1 HX HB4 hb d0
    go_wp2_with fail
    have cx : (W5.alloc (.cells #[.int .i64 n1, .slice p k c, .slice pc 2 cc, .bool false] 87)).cell? ⟨bb, 0, none⟩ = some (.slice (some ⟨gg, 0, none⟩) 1 cg) := cell_al c0 _
    have fx : W5.frozen? ⟨bb, 0, none⟩ = false := HK5.out.fz 0
    have hbW : Hid (bb + 1 ≤ W5.heap.size) := HK5.out.hb
    have ao : ∀ x, Value.ownBlock (.slice (some ⟨gg, 0, none⟩) 1 cg) = some x → bb + 1 ≤ x ∧ x < W5.heap.size := fun x hx => HK5.out.own.lt x hx
    have aD : some bb ≠ Value.ownBlock (.slice (some ⟨gg, 0, none⟩) 1 cg) := fun e => by have h5 := ao bb e.symm; omega
    have ag : Value.ownBlock (.slice (some ⟨gg, 0, none⟩) 1 cg) ≠ some g := by intro e; exact hgne (Option.some.inj e)
    have HG2 := Lib.hid hg2
    have bs0 : bb < (W5.alloc (.cells #[.int .i64 n1, .slice p k c, .slice pc 2 cc, .bool false] 87)).drew.heap.size := by show bb < (W5.alloc _).heap.size; rw [World.size_alloc]; have := hbW.out; omega
    have gs0 : g < (W5.alloc (.cells #[.int .i64 n1, .slice p k c, .slice pc 2 cc, .bool false] 87)).drew.heap.size := by show g < (W5.alloc _).heap.size; rw [World.size_alloc]; omega
    have fa : (W5.alloc (.cells #[.int .i64 n1, .slice p k c, .slice pc 2 cc, .bool false] 87)).drew.frozen? ⟨bb, 0, none⟩ = false := (World.frozen?_of_block (a := ⟨bb, 0, none⟩) ((grown_al W5 _).block bb (by have := hbW.out; omega) (by simp))).trans fx
    have gb1 : g ≠ bb := by have h5 := HSZ4.out; omega
    have gb2 : bb ≠ g := fun e => gb1 e.symm
    clear hg1 hg2 ao
    obtain ⟨i0, hi, hz0, hz1, hz2⟩ := info_parts inf87
    rw [show Op.load 75 (Operand.tmp 36) = id (Op.load 75 (Operand.tmp 36)) from rfl]
    go_region_held3 (fun w' => w'.cell? ⟨g, 0, none⟩ = some (.int .i64 n1) ∧ w'.cell? ⟨g, 1, none⟩ = some (.slice p k c) ∧ w'.cell? ⟨g, 2, none⟩ = some (.slice pc 2 cc) ∧ w'.cell? ⟨g, 3, none⟩ = some (.bool false))
      (first
        | go_keep
        | (go_split_ands
           refine ⟨?_, ?_, ?_, ?_⟩ <;> (rw [hgrow.cell_far _ gs0 (Ne.symm ag)]; assumption)))
      ((refine step_append_lies _ (by rfl) _ _ _ (by rfl) (bb + 1) 87 i0 _ 4 64 Tryz.underlying75 hi hz0 hz1 hz2 rfl (by omega) (.slice (some ⟨gg, 0, none⟩) 1 cg) 1 (xs1) (by rfl) ((HK5.out.own.alloc _).drew)
          ⟨W5.heap.size, 0, none⟩ 1 1 [.int .i64 n1, .slice p k c, .slice pc 2 cc, .bool false] (by rfl) (by rfl) (World.news_of_block (cs := #[.int .i64 n1, .slice p k c, .slice pc 2 cc, .bool false]) (t := 87) (fr := (0, 0)) (heap_alloc_new W5 _)) (by simp [Value.oneCell'])
          (by omega) (by unfold maxLen; omega) (by omega) (by have h5 := hbW.out; simp; omega) (W5.heap.size + 1) (by simp) ?_; intro g6 c6 w9 hown1 hgrow hat hlt; have hc9 : w9.cell? ⟨bb, 0, none⟩ = some (.slice (some ⟨gg, 0, none⟩) 1 cg) := hgrow.cell (cell_al c0 _) aD; have hf9 : w9.frozen? ⟨bb, 0, none⟩ = false := (World.frozen?_of_block (a := ⟨bb, 0, none⟩) (hgrow.block bb bs0 aD)).trans fa))
    all_goals
      obtain ⟨zk, zb⟩ := bk_next (base := bb) (v' := .slice (some ⟨g6, 0, none⟩) 2 c6) HK5.out (Nat.le_refl _) hown1 hgrow
      obtain ⟨W6, hW6⟩ : ∃ W6, w9.setCell ⟨bb, 0, none⟩ (.slice (some ⟨g6, 0, none⟩) 2 c6) = W6 := ⟨_, rfl⟩
      rw [hW6] at zk zb ⊢
      have HB6 : Hid (Below bb W1 W6) := HB5.out.trans zb
      obtain ⟨b1, d0, -, -, b2⟩ := HZ.out _ HB6.out
      obtain ⟨r0, r1, r2, r3⟩ := HR0.out _ b2
      have f0 := r3 0
      have f1 := r3 1
      have f2 := r3 2
      have k0 := zk.c0
      have k1 := zk.c1
      have k2 := zk.c2
      have hne1 : W.heap.size ≠ bb := by have := HSW.out; omega
      have HK6 := Lib.hid zk
      have HBW := Lib.hid b1
      rename_i hh
      clear hh hW6 zk zb hown1 hgrow hat hlt hc9 hf9 cx fx aD ag bs0 gs0 fa gb1 gb2 q0 q1 q2 q3 c0 hi hz0 hz1 hz2 HG2 HB5 HK5 hbW HSZ4 hgne b1 b2 r3
      go_wp2_with fail
      rw [rounds_succ]
      go_wp2_with fail

      refine bodyPost_ret (v := .agg #[.slice (some ⟨g6, 0, none⟩) 2 c6, .slice none 0 0, .slice none 0 0]) (by simp [results, Tryz.results108, go_sem, r0, r1, r2]) rfl ?_
      have own := HK6.out.own
      have lt6 := (own.lt g6 (by simp [Value.ownBlock]))
      have l1 := HSW.out
      obtain ⟨g', cap', e', -, hl, hcells⟩ := own_at own (by decide) (by rw [hxs1.out]; rfl)
      cases e'
      rw [hxs1.out] at hcells
      have u2 := hcells 2 _ rfl
      have u6 := hcells 6 _ rfl
      have nb : ∀ (o j : Nat), (⟨W.heap.size, o, none⟩ : Addr) ≠ ⟨g6, j, none⟩ := fun o j e => by have := congrArg Addr.block e; simp at this; omega
      exact cop_mk (((HBW.out.setCell (p := ⟨W.heap.size, 0, none⟩) (Nat.le_refl _) _).setCell (p := ⟨W.heap.size, 1, none⟩) (Nat.le_refl _) _).setCell (p := ⟨W.heap.size, 2, none⟩) (Nat.le_refl _) _)
        (by simp only [World.size_setCell]; exact lt6.2)
        ((World.cell?_setCell_other _ _ _ _ (nb _ _)).trans ((World.cell?_setCell_other _ _ _ _ (nb _ _)).trans ((World.cell?_setCell_other _ _ _ _ (nb _ _)).trans u2)))
        ((World.cell?_setCell_other _ _ _ _ (nb _ _)).trans ((World.cell?_setCell_other _ _ _ _ (nb _ _)).trans ((World.cell?_setCell_other _ _ _ _ (nb _ _)).trans u6)))
end Go.Proofs.YtmfhpddeclggfaaGreatDoor
