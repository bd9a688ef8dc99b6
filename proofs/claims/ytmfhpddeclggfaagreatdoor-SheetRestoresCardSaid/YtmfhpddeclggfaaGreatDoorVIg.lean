import Derived.Test.YtmfhpddeclggfaaGreatDoorVIfa
import Derived.Maps.Own
import Derived.Maps.OwnOps
import Derived.Maps.OwnSet
import Derived.Lib.SlKeysI
import Derived.RangeFuncNested
import Derived.RangeFuncBound
import Derived.RangeFuncCalls
import Derived.RangeFuncLeaves
import Derived.RangeFuncBox
import Derived.Shelf.Abstract
import Derived.Shelf.RegionOpen
import Derived.OwnWalkIn
import Derived.TacticsInMore
import Derived.LoopNIn
import Derived.LoopIn
import Derived.Maps.AppendAt
import Derived.Maps.OwnIn
import Derived.RegionIn
import Derived.BigRegionIn
import Derived.Stop.RegionWithIn
import Derived.WalkKit
import Derived.LoopTactic
import Derived.WalkSpells
import Derived.WalkLawsBesides
import Derived.Lib.Hide
import Derived.BigQuiet
import Derived.IntWalk
import Derived.Deep.DeepMust
import Derived.WalkSmall
import Derived.StillTailTactics
import Derived.Deep.RegionLaw
import Derived.Deep.QuietTactic
import Derived.Deep.Cut
import Derived.Deep.DeepCutAuto
import Derived.Deep.LoopGhost
import Derived.Laws.AppendOwn
import Derived.Deep.RegionHeld3
import Derived.Deep.AppendLies
import Derived.Test.YtmfhpddeclggfaaGreatDoorIfk
import Derived.Test.YtmfhpddeclggfaaGreatDoorVIfb
namespace Go.Proofs.YtmfhpddeclggfaaGreatDoor
open Go.RowKit
/-! The readings of a number on a desk. -/
/-- The readings of a number, as they are told. -/
def fdV (d : DS) (n : Nat) : List FV := if d.rs n = [] then rsD (d.os n) else (d.rs n).map fun t => (rdn t, rdw t, d.cp n t, false)
theorem cellsT_at (n : Nat) : ∀ (l : List ByteArray) (k : Nat), k < l.length → (cellsT n l)[k * 2]? = some (.int .i64 (n : Int)) ∧ (cellsT n l)[k * 2 + 1]? = some (.string (l.getD k ByteArray.empty))
  | [], _, h => absurd h (Nat.not_lt_zero _)
  | x :: l, 0, _ => ⟨rfl, rfl⟩
  | x :: l, k + 1, h => by
    have := cellsT_at n l k (Nat.lt_of_succ_lt_succ h)
    have e : (k + 1) * 2 = k * 2 + 1 + 1 := by omega
    rw [e]
    exact this
theorem cellsT_len (n : Nat) (l : List ByteArray) : (cellsT n l).length = l.length * 2 := by
  induction l with
  | nil => rfl
  | cons x l ih => rw [List.length_cons, Nat.succ_mul, ← ih]; simp [cellsT]
theorem rd_all {w w' : World} {s : ByteArray} {e : Ending} (h : RdP w (lineN s) (lineWs s) (readErr s) e w') : Below w.heap.size w w' ∧ ∃ p c, e = .returned (.tuple #[.agg #[.int .i64 (rdn s), .slice p (rdw s).length c], .int .i64 (readErr s)]) ∧ PFrom w.heap.size p ∧ StrsAt w' p (rdw s) := by
  obtain ⟨hb, ⟨he, rfl⟩ | ⟨he, p, c, rfl, h1, h2⟩⟩ := h
  · refine ⟨hb, none, 0, ?_, fun _ e => by (cases e), .inl ?_⟩
    · rw [rdn, rdw, if_neg he, if_neg he]; rfl
    · rw [rdw, if_neg he]
  · refine ⟨hb, p, c, ?_, h1, ?_⟩
    · rw [rdn, rdw, if_pos he, if_pos he, he]
    · rw [rdw, if_pos he]; exact h2
theorem fd_new2 (n : Int) (pw pc : Option Addr) (ws : List ByteArray) (zs : List Int) (cw cc L Z : Nat) (hL : ws.length = L) (hZ : zs.length = Z) : flatF [((⟨⟨n, pw, cw, ws⟩, pc, zs.length, cc, false⟩ : FL), zs)] = [.int .i64 n, .slice pw L cw, .slice pc Z cc, .bool false] := by
  subst hL; subst hZ; rfl
theorem RT.offD {w W W' : World} {vo : Value} {fs : List (FL × List Int)} {seen : List Int} {vs : Value} (h : RT w W vo vs fs seen) (hv : vs.ownBlock = none) {p : Option Addr} {zs : List Int} (hi : IntsAt w p zs) (hs : w.heap.size ≤ W'.heap.size) : zs = [] ∨ Off W' vo vs p := by
  rcases hi with h1 | ⟨b, o, h1, h2, -⟩
  · exact .inl h1
  · refine .inr (fun ad e => ?_)
    rw [e] at h1; cases h1
    exact ⟨Nat.lt_of_lt_of_le h2 hs, fun e => by have h9 : w.heap.size ≤ b := (h.ro.lt b e.symm).1; omega, fun e => by rw [hv] at e; cases e⟩
/-- Where the words and the copies of a reading that was found lie: new, or the copies where they lay in W0. -/
def FdW (W0 W : World) (f : FL × List Int) : Prop := PFrom W.heap.size f.1.g.p ∧ (PFrom W.heap.size f.1.cp ∨ IntsAt W0 f.1.cp f.2)
set_option maxRecDepth 100000 in
set_option maxHeartbeats 4000000 in
theorem found_none (W0 : World) (B D M : Nat) (d : DS) (n : Nat) (W : World) (hd : DeskAt W B D M d) (hn : n ≤ 400) (h0 : d.rs n = []) (ho : (d.os n).length ≤ 1000000) (hos : ∀ j, ((d.os n).getD j default).2.size ≤ 1000000) (he : Env W) :
    Calls Tryz.prog 141 #[.pointer (some ⟨D, 0, none⟩), .int .i64 n] W fun e w' => ∃ vo fs, e = .returned vo ∧ RT W w' vo (.slice none 0 0) fs [] ∧ fs.map kG = fdV d n ∧ ∀ f ∈ fs, FdW W0 W f := by
  obtain ⟨R, O, V, L, hk, hF, -, -, -, -, -⟩ := hd
  have cR := hk.cr n hn
  have cO := hk.co n hn
  have o1 := hF.own (.inl (.inl n))
  have o2 := hF.own (.inl (.inr n))
  obtain ⟨q, c, e1⟩ := own_slice2 o1
  obtain ⟨q2, c2, e2, hpl⟩ := pl_own (v := O n) (l := d.os n) o2
  have e1' : R n = .slice q 0 c := by rw [show R n = .slice q (d.rs n).length c from e1, h0]; rfl
  rw [e1'] at cR
  rw [e2] at cO
  have RS := Lib.hid (sRestored q2 c2 (d.os n) W ho hos hpl he)
  have HV : Hid (fdV d n = rsD (d.os n)) := by unfold Hid fdV; rw [if_pos h0]
  obtain ⟨m, hm⟩ : ∃ m, Hid ((d.os n).length = m) := ⟨_, rfl⟩
  rw [hm.out] at cO RS
  have hn0 : (0 : Int) ≤ (n : Int) := by omega
  have hn4 : (n : Int) < 401 := by omega
  clear hk hF o1 o2 e1 e2 e1' hpl he hos ho h0
  go_enter Tryz.func141, Tryz.ntmps141
  go_wp2_with fail
  refine RS.out.mono ?_
  rintro e w' ⟨vo, fs, rfl, hR, hf, hP⟩
  have HP : Hid (∀ f ∈ fs, FdW W0 W f) := fun f h => ⟨(hP f h).1, .inl (hP f h).2⟩
  have HR := Lib.hid hR
  have HF : Hid (fs.map kG = fdV d n) := hf.trans HV.out.symm
  clear hR hf RS hP
  go_wp2_with fail
  go_ret
  first | exact ⟨_, fs, rfl, HR.out, HF.out, HP.out⟩ | exact ⟨_, rfl, fs, HR.out, HF.out, fun a b h => HP.out (a, b) h⟩
set_option maxRecDepth 100000 in
set_option maxHeartbeats 4000000 in
theorem found_some (W0 : World) (B D M : Nat) (d : DS) (n : Nat) (W : World) (hd0 : DeskAt W0 B D M d) (hb0 : Below W0.heap.size W0 W) (hn : n ≤ 400) (h0 : d.rs n ≠ []) (hr : (d.rs n).length ≤ 1000000) (hrs : ∀ j, ((d.rs n).getD j ByteArray.empty).size ≤ 1000000) (he : Env W) :
    Calls Tryz.prog 141 #[.pointer (some ⟨D, 0, none⟩), .int .i64 n] W fun e w' => ∃ vo fs, e = .returned vo ∧ RT W w' vo (.slice none 0 0) fs [] ∧ fs.map kG = fdV d n ∧ ∀ f ∈ fs, FdW W0 W f := by
  have HE := Lib.hid he
  have HRS := Lib.hid hrs
  obtain ⟨R, O, V, L, hk0, hF0, -, -, -, hVL, -⟩ := hd0
  have hg0 : W0.grownBy W none := ⟨hb0.os, hb0.tape, hb0.output, hb0.size, fun i hi _ => hb0.block i hi⟩
  have hk := hk0.grown hg0 (by simp) (by simp)
  have hF : Fam B (famD d R O V) W := ⟨fun i => ownsRow_keep (hF0.own i) hb0, hF0.apart⟩
  have HB0 := Lib.hid hb0
  have HK := Lib.hid hk
  have HVL := Lib.hid hVL
  have HI : Hid (∀ t, ∃ q c, V n t = .slice q (d.cp n t).length c ∧ IntsAt W0 q (d.cp n t)) := fun t => ints_own (hF0.own (.inr (n, t)))
  have HDW : Hid (D < W.heap.size) := World.block_lt_of_cell? W ⟨D, 0, none⟩ hk.c0
  have cR := hk.cr n hn
  have cM := hk.cm
  obtain ⟨g, cap, e1, -, hgl, hcell⟩ := own_at (v := R n) (n := (d.rs n).length) (xs := cellsT n (d.rs n)) (hF.own (.inl (.inl n))) (List.length_pos_iff.2 h0) (cellsT_len n (d.rs n))
  rw [e1] at cR
  have HV : Hid (fdV d n = (d.rs n).map fun t => (rdn t, rdw t, d.cp n t, false)) := by unfold Hid fdV; rw [if_neg h0]
  have HC : Hid (∀ j, j < (d.rs n).length → W.cell? ⟨g, j * 2, none⟩ = some (.int .i64 (n : Int)) ∧ W.cell? ⟨g, j * 2 + 1, none⟩ = some (.string ((d.rs n).getD j ByteArray.empty))) := fun j hj => ⟨hcell _ _ (cellsT_at n _ j hj).1, hcell _ _ (cellsT_at n _ j hj).2⟩
  have HGL := Lib.hid hgl
  obtain ⟨ts, hts⟩ : ∃ ts, Hid (d.rs n = ts) := ⟨_, rfl⟩
  rw [hts.out] at HC HV HRS cR hr h0
  obtain ⟨m, hm⟩ : ∃ m, Hid (ts.length = m) := ⟨_, rfl⟩
  rw [hm.out] at cR hr
  have hm1 : ((m : Int) == 0) = false := by
    rw [beq_eq_false_iff_ne]
    have := List.length_pos_iff.2 h0
    have := hm.out
    omega
  have hn0 : (0 : Int) ≤ (n : Int) := by omega
  have hn4 : (n : Int) < 401 := by omega
  have R0 := Lib.hid (RT.mk0 W)
  clear hk hF hVL hcell he hrs h0 e1 hgl hk0 hF0 hg0 hb0
  go_enter Tryz.func141, Tryz.ntmps141
  go_wp2_with fail
  go_loopw [5, 32] (fun vo i wr => ∃ (j : Nat) (fs : List (FL × List Int)), j ≤ m ∧ i = .int .i64 j ∧ Hid (RT W wr vo (.slice none 0 0) fs []) ∧ Hid (fs.map kG = (ts.take j).map fun t => (rdn t, rdw t, d.cp n t, false)) ∧ Hid (∀ f ∈ fs, FdW W0 W f)) (fun _ i _ => m - (nOf i).toNat)
  case atStart => exact ⟨0, [], Nat.zero_le _, rfl, R0, by rw [List.take_zero]; exact rfl, fun _ h => by cases h⟩
  case round =>
    clear R0
    obtain ⟨j, fs, hj, rfl, RR, RK1, RP⟩ := hrel
    by_cases hlt : j < m
    · have hjl : j < ts.length := by rw [hm.out]; exact hlt
      obtain ⟨g0, g1⟩ := HC.out j hjl
      have c0 := (RR.out.bel.cell (p := ⟨g, j * 2, none⟩) HGL.out).trans g0
      have c1 := (RR.out.bel.cell (p := ⟨g, j * 2 + 1, none⟩) HGL.out).trans g1
      have hsz := HRS.out j
      have HT : Hid (ts.take (j + 1) = ts.take j ++ [ts.getD j ByteArray.empty]) := by unfold Hid; rw [List.take_succ_eq_append_getElem hjl, List.getD, List.getElem?_eq_getElem hjl]; rfl
      obtain ⟨t, ht⟩ : ∃ t, ts.getD j ByteArray.empty = t := ⟨_, rfl⟩
      rw [ht] at c1 hsz HT
      have hbw : Below W.heap.size W (wr.alloc (.cells #[.int .i64 n, .string t] 242)) := RR.out.bel.alloc RR.out.bel.size _
      have RDS := Lib.hid (sRead t (wr.alloc (.cells #[.int .i64 n, .string t] 242)) hsz (HE.out.next hbw))
      have HFL : Hid (fs.length ≤ 1000000) := by
        have h1 := congrArg List.length RK1.out
        rw [List.length_map, List.length_map, List.length_take] at h1
        unfold Hid; omega
      obtain ⟨q6, c6, rfl⟩ := own_slice2 RR.out.ro
      have hlt' : (j : Int) < (m : Int) := by omega
      have hj0 : (0 : Int) ≤ (j : Int) := by omega
      clear ht g0 g1 hbw
      go_wp2_with fail
      refine RDS.out.mono ?_
      rintro e w2 hrd
      obtain ⟨hb, p, c, rfl, hp, hs⟩ := rd_all hrd
      obtain ⟨pc, cc, hVn, hint⟩ := HI.out t
      obtain ⟨n', hn'⟩ : ∃ n', Hid (rdn t = n') := ⟨_, rfl⟩
      obtain ⟨ws, hws⟩ : ∃ ws, Hid (rdw t = ws) := ⟨_, rfl⟩
      obtain ⟨zs, hzs⟩ : ∃ zs, Hid (d.cp n t = zs) := ⟨_, rfl⟩
      obtain ⟨er, her⟩ : ∃ er, readErr t = er := ⟨_, rfl⟩
      rw [hn'.out, hws.out, her]
      rw [hws.out] at hs
      rw [hzs.out] at hVn hint
      obtain ⟨L1, hL⟩ : ∃ L1, Hid (ws.length = L1) := ⟨_, rfl⟩
      obtain ⟨Z, hZ⟩ : ∃ Z, Hid (zs.length = Z) := ⟨_, rfl⟩
      rw [hL.out]
      rw [hZ.out] at hVn
      have hb2 : Below wr.heap.size wr (w2.alloc (.cells #[.int .i64 n', .slice p L1 c] 39)) := ((below_alloc1 wr _).trans (hb.mono (by simp))).alloc (by have := hb.size; simp at this; omega) _
      have HB2 := Lib.hid hb2
      have q0 : (w2.alloc (.cells #[.int .i64 n', .slice p L1 c] 39)).cell? ⟨wr.heap.size, 0, none⟩ = some (.int .i64 (n : Int)) := cell_al ((hb.cell (p := ⟨wr.heap.size, 0, none⟩) (by simp)).trans (nw_at wr _ 242 0 _ rfl)) _
      have q1 : (w2.alloc (.cells #[.int .i64 n', .slice p L1 c] 39)).cell? ⟨wr.heap.size, 1, none⟩ = some (.string t) := cell_al ((hb.cell (p := ⟨wr.heap.size, 1, none⟩) (by simp)).trans (nw_at wr _ 242 1 _ rfl)) _
      have q2 : (w2.alloc (.cells #[.int .i64 n', .slice p L1 c] 39)).cell? ⟨w2.heap.size, 0, none⟩ = some (.int .i64 n') := nw_at w2 _ 39 0 _ rfl
      have q3 : (w2.alloc (.cells #[.int .i64 n', .slice p L1 c] 39)).cell? ⟨w2.heap.size, 1, none⟩ = some (.slice p L1 c) := nw_at w2 _ 39 1 _ rfl
      have hs3 : StrsAt (w2.alloc (.cells #[.int .i64 n', .slice p L1 c] 39)) p ws := StrsAt.below hs (below_alloc1 _ _)
      have RR3 := Lib.hid (RR.out.next hb2)
      have hp2 : PFrom wr.heap.size p := fun ad e => by have := hp ad e; simp at this; omega
      have HSZ2 : Hid (wr.heap.size < w2.heap.size) := by have := hb.size; simp at this; unfold Hid; omega
      obtain ⟨w3, hw3⟩ : ∃ w3, Hid (w2.alloc (.cells #[.int .i64 n', .slice p L1 c] 39) = w3) := ⟨_, rfl⟩
      have HSZ3 : Hid (w3.heap.size = w2.heap.size + 1) := by rw [← hw3.out]; unfold Hid; simp
      rw [hw3.out] at q0 q1 q2 q3 hs3 RR3 HB2
      have hk3 : Dk w3 D M d.last R O L := HK.out.grown (row := none) ⟨RR3.out.bel.os, RR3.out.bel.tape, RR3.out.bel.output, RR3.out.bel.size, fun i hi _ => RR3.out.bel.block i hi⟩ (by simp) (by simp)
      have q4 := hk3.cm
      have hlk7 : Sem.run Tryz.prog (Instr.lookup 208 (.map (some M)) (keyV n t) false) w3.drew = .ok (.slice pc Z cc) w3.drew := by
        have := run_look (W := w3.drew) (M := M) (L := L) (hk3.mp.grown (grown_dr w3) (by simp)) n t
        rwa [HVL.out, hVn] at this
      clear hb hb2 hp hs hVn her RDS c0 c1 hk3
      go_wp2_with fail
      rw [hw3.out]
      obtain ⟨i0, hi, hz0, hz1, hz2⟩ := info_parts inf87
      have HFm : Hid (fs.length + 1 ≤ maxLen) := by have := HFL.out; unfold Hid maxLen; omega
      have HFb : Hid ((fs.length + 1) * 64 ≤ 140737488355328) := by have := HFL.out; unfold Hid; omega
      have HW3 : Hid (W.heap.size ≤ w3.heap.size) := RR3.out.bel.size
      have hO := RR3.out.ro
      have aw : ∀ b, b < W.heap.size → (Value.slice q6 fs.length c6).ownBlock ≠ some b := fun b h e => by have := (hO.lt _ e).1; omega
      have aw2 : (Value.slice q6 fs.length c6).ownBlock ≠ some wr.heap.size := fun e => by have := (RR.out.ro.lt _ e).2; omega
      have aw3 : (Value.slice q6 fs.length c6).ownBlock ≠ some w2.heap.size := fun e => by have := (RR.out.ro.lt _ e).2; have := HSZ2.out; omega
      have awD := aw D HDW.out
      have hs31 : w2.heap.size < w3.heap.size := by have := HSZ3.out; omega
      have hs21 := HSZ2.out
      have hDW := HDW.out
      have hW31 := HW3.out
      go_region_held3 (fun w' => w'.cell? ⟨wr.heap.size, 0, none⟩ = some (.int .i64 (n : Int)) ∧ w'.cell? ⟨wr.heap.size, 1, none⟩ = some (.string t) ∧ w'.cell? ⟨D, 402, none⟩ = some (.map (some M)) ∧ w'.cell? ⟨w2.heap.size, 0, none⟩ = some (.int .i64 n') ∧ w'.cell? ⟨w2.heap.size, 1, none⟩ = some (.slice p L1 c))
        (first
          | go_keep
          | (go_split_ands
             refine ⟨?_, ?_, ?_, ?_, ?_⟩
             · (rw [hgrow.cell_far _ (by simp; omega) (Ne.symm aw2)]; assumption)
             · (rw [hgrow.cell_far _ (by simp; omega) (Ne.symm aw2)]; assumption)
             · (rw [hgrow.cell_far _ (by simp; omega) (Ne.symm awD)]; assumption)
             · (rw [hgrow.cell_far _ (by simp; omega) (Ne.symm aw3)]; assumption)
             · (rw [hgrow.cell_far _ (by simp; omega) (Ne.symm aw3)]; assumption)))
        ((refine step_append_lies _ (by rfl) _ _ _ (by rfl) W.heap.size 87 i0 _ 4 64 Tryz.underlying75 hi hz0 hz1 hz2 rfl (by omega) (.slice q6 fs.length c6) fs.length (flatF fs) (by rfl) ((hO.alloc _).drew)
            ⟨w3.heap.size, 0, none⟩ 1 1 [.int .i64 n', .slice p L1 c, .slice pc Z cc, .bool false] (by rfl) (by rfl) (World.news_of_block (cs := #[.int .i64 n', .slice p L1 c, .slice pc Z cc, .bool false]) (t := 87) (fr := (0, 0)) (heap_alloc_new w3 _)) (by simp [Value.oneCell'])
            (by omega) HFm.out HFb.out (by have h5 := HW3.out; simp; omega) (w3.heap.size + 1) (by simp) ?_; intro gg cap w9 hown1 hgrow hat hlt9))
      all_goals
        have hbk : Below w3.heap.size w3 (w3.alloc (.cells #[.int .i64 n', .slice p L1 c, .slice pc Z cc, .bool false] 87)).drew := (below_alloc1 w3 _).drew
        have RR4 := RR3.out.next hbk
        have hs4 := StrsAt.below hs3 hbk
        have hi4 : IntsAt (w3.alloc (.cells #[.int .i64 n', .slice p L1 c, .slice pc Z cc, .bool false] 87)).drew pc zs := ((hint.below HB0.out).below RR3.out.bel).below hbk
        have RR5 := Lib.hid (RT.out (v' := .slice (some ⟨gg, 0, none⟩) (fs.length + 1) cap) (f := ⟨⟨n', p, c, ws⟩, pc, zs.length, cc, false⟩) RR4 hs4 (RR.out.offS hs4 hp2) hi4 (RR4.offD rfl (hint.below HB0.out) (by show W.heap.size ≤ (World.alloc _ _).heap.size; simp; omega)) rfl (by rw [fd_new2 n' p pc ws zs c cc L1 Z hL.out hZ.out]; exact hown1) hgrow (hat.elim (fun h => .inl h.symm) (fun h => .inr (by rw [h]; show some _ = some (World.alloc _ _).heap.size; rw [World.size_alloc]))))
        have HK2 : Hid ((fs ++ [((⟨⟨n', p, c, ws⟩, pc, zs.length, cc, false⟩ : FL), zs)]).map kG = (ts.take (j + 1)).map fun t => (rdn t, rdw t, d.cp n t, false)) := by
          unfold Hid
          rw [HT.out, List.map_append, List.map_append, RK1.out]
          simp [kG, hn'.out, hws.out, hzs.out]
        have RP2 : Hid (∀ f ∈ fs ++ [((⟨⟨n', p, c, ws⟩, pc, zs.length, cc, false⟩ : FL), zs)], FdW W0 W f) := fun f hf => by
          rcases List.mem_append.1 hf with hf | hf
          · exact RP.out f hf
          · rw [List.mem_singleton] at hf
            subst hf
            exact ⟨fun ad e => Nat.le_trans RR.out.bel.size (hp2 ad e), .inr hint⟩
        clear hown1 hgrow hat hlt9 hbk RR4 hs4 hi4 hO aw aw2 aw3 awD
        go_wp2_with fail
        exact ⟨⟨j + 1, _, by omega, by go_num, RR5, HK2, RP2⟩, by simp [nOf]; omega⟩
    · obtain rfl : j = m := by omega
      have HT : Hid (ts.take j = ts) := List.take_of_length_le (by rw [hm.out]; exact Nat.le_refl _)
      rw [HT.out, ← HV.out] at RK1
      go_wp2_with fail
      go_ret
      first | exact ⟨_, fs, rfl, RR.out, RK1.out, RP.out⟩ | exact ⟨_, rfl, fs, RR.out, RK1.out, fun a b h => RP.out (a, b) h⟩
/-- found. -/
theorem sFound (W0 : World) (B D M : Nat) (d : DS) (n : Nat) (W : World) (hd0 : DeskAt W0 B D M d) (hb0 : Below W0.heap.size W0 W) (hn : n ≤ 400) (hz : SzD d 1000000) (hrs : ∀ j, ((d.rs n).getD j ByteArray.empty).size ≤ 1000000) (hos : ∀ j, ((d.os n).getD j default).2.size ≤ 1000000) (he : Env W) :
    Calls Tryz.prog 141 #[.pointer (some ⟨D, 0, none⟩), .int .i64 n] W fun e w' => ∃ vo fs, e = .returned vo ∧ RT W w' vo (.slice none 0 0) fs [] ∧ fs.map kG = fdV d n ∧ ∀ f ∈ fs, FdW W0 W f := by
  by_cases h0 : d.rs n = []
  · exact found_none W0 B D M d n W (hd0.below hb0) hn h0 (hz.fo n) hos he
  · exact found_some W0 B D M d n W hd0 hb0 hn h0 (hz.fr n) hrs he
end Go.Proofs.YtmfhpddeclggfaaGreatDoor
