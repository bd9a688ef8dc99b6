import Derived.RangeFuncNested
import Derived.RangeFuncBound
import Derived.RangeFuncCalls
import Derived.RangeFuncLeaves
import Derived.Test.YtmfhpddeclggfaaGreatDoorGb
import Derived.RangeFuncBox
import Derived.Shelf.Abstract
import Derived.Shelf.RegionOpen
import Derived.OwnWalkIn
import Derived.TacticsInMore
import Derived.LoopNIn
import Derived.LoopIn
import Derived.Maps.AppendAt
import Derived.Maps.OwnIn
import Derived.RegionIn
import Derived.BigRegionIn
import Derived.Stop.RegionWithIn
import Derived.WalkKit
import Derived.LoopTactic
import Derived.WalkSpells
import Derived.WalkLawsBesides
import Derived.Lib.Hide
import Derived.BigQuiet
import Derived.IntWalk
import Derived.Deep.DeepMust
import Derived.WalkSmall
import Derived.StillTailTactics
import Derived.Deep.RegionLaw
import Derived.Deep.QuietTactic
import Derived.Deep.Cut
import Derived.Deep.DeepCutAuto
import Derived.Deep.LoopGhost
import Derived.Laws.AppendOwn
namespace Go.Proofs.YtmfhpddeclggfaaGreatDoor
open Go.RowKit
open Go.Shelf
attribute [local go_sem] Oper.semAt_some
/-- The cells that the iterator of strings.SplitAfterSeq has captured. -/
structure SpA (W : World) (b1 b2 b3 : Nat) (s : ByteArray) : Prop where
  c1 : W.cell? ⟨b1, 0, none⟩ = some (.string ⟨#[10]⟩)
  c2 : W.cell? ⟨b2, 0, none⟩ = some (.string s)
  f2 : W.frozen? ⟨b2, 0, none⟩ = false
  c3 : W.cell? ⟨b3, 0, none⟩ = some (.int .i64 1)
theorem SpA.stay {W W' : World} {Q : Nat → Prop} {b1 b2 b3 : Nat} {s : ByteArray} (h : SpA W b1 b2 b3 s) (hk : Stay (Ev Q) W W') (q1 : Q b1) (q2 : Q b2) (q3 : Q b3) : SpA W' b1 b2 b3 s :=
  ⟨(World.cell?_of_block (a := ⟨b1, 0, none⟩) (hk b1 (.inr q1))).trans h.c1, (World.cell?_of_block (a := ⟨b2, 0, none⟩) (hk b2 (.inr q2))).trans h.c2, (World.frozen?_of_block (a := ⟨b2, 0, none⟩) (hk b2 (.inr q2))).trans h.f2, (World.cell?_of_block (a := ⟨b3, 0, none⟩) (hk b3 (.inr q3))).trans h.c3⟩
set_option maxRecDepth 100000 in
set_option maxHeartbeats 4000000 in
theorem splitSeqA (n : Nat) (hn : 1 ≤ n) (Q : Nat → Prop) (b1 b2 b3 : Nat) (q1 : Q b1) (q2 : Q b2) (q3 : Q b3) (h12 : b1 ≠ b2) (h32 : b3 ≠ b2) (hb2 : 8 ≤ b2) (s : ByteArray) (hs : s.size ≤ 1000000) (W0 : World) (he : Env W0) (hc : SpA W0 b1 b2 b3 s) :
    Hands Fence.wide n Tryz.prog 182 #[.pointer (some ⟨b1, 0, none⟩), .pointer (some ⟨b2, 0, none⟩), .pointer (some ⟨b3, 0, none⟩)] Value.string Q (seqA s) W0 := by
  intro l J Jx hJ hJx hY h0
  have hJ' := Lib.hid hJ
  have hJx' := Lib.hid hJx
  have hY' := Lib.hid hY
  clear hJ hJx hY
  refine callsIn_of_wp Tryz.func182 rfl trivial ?_ rfl
  simp only [Tryz.ntmps182, List.size_toArray, List.length_cons, List.length_nil, Nat.reduceAdd, Nat.reduceSub, Array.replicate_succ, Array.replicate_zero, List.push_toArray, List.append_toArray, List.nil_append, List.cons_append]
  have HC := Lib.hid hc
  have HE := Lib.hid he
  obtain ⟨c1, c2, f2, c3⟩ := hc
  clear he
  gi_wp2
  gi_loopw [7, 8] (fun _ _ wr => ∃ (pre : List ByteArray) (k : Nat) (rest : ByteArray), Hid (seqA s = pre ++ Lib.splitB ⟨#[10]⟩ 1 k rest) ∧ rest.size ≤ k ∧ rest.size ≤ 1000000 ∧ J pre wr ∧ SpA wr b1 b2 b3 rest ∧ Env wr) (fun _ _ wr => leftS b2 wr)
  case atStart => exact ⟨[], s.size, s, rfl, Nat.le_refl _, hs, h0, HC.out, HE.out⟩
  case round =>
    clear c1 c2 f2 c3 HC HE h0
    obtain ⟨pre, k, rest, HP, hk, hr, hJ, hc, he⟩ := hrel
    have HJ := Lib.hid hJ
    have HC := Lib.hid hc
    have HE := Lib.hid he
    obtain ⟨c1, c2, f2, c3⟩ := hc
    obtain ⟨m, hm⟩ := he.mx
    have CI := Tryz.strings_Index rest ⟨#[10]⟩ m wr (by omega) hm
    clear hJ hm he
    rcases Lib.indexB_cases rest ⟨#[10]⟩ with hi | ⟨i, hi, hil⟩
    · have hpt : Hid (seqA s = pre ++ [rest]) := by unfold Hid; rw [HP.out, Lib.splitB_miss _ _ _ _ hi]
      rw [show Lib.index rest.data.toList (ByteArray.mk #[10]).data.toList = -1 from hi] at CI
      obtain ⟨fn, tmps, assign, body, hy, hR⟩ := hY'.out pre rest wr HJ.out (by rw [hpt.out]; exact List.prefix_refl _)
      have HR := Lib.hid hR
      clear hR hi hY' HP
      gi_wp2_with (refine ⟨trivial, ?_⟩; gi_at_call 123; refine (callsIn_wide.2 CI).mono ?_; rintro e w' ⟨rfl, rfl⟩)
      refine HR.out.mono ?_
      rintro e W3 (⟨rfl, hJ3, hk3⟩ | ⟨rfl, hJ3, -⟩)
      · have H3 := Lib.hid hJ3
        clear hJ3 hk3 c1 c2 f2 c3
        gi_wp2
        go_end0
        exact ⟨⟨_, rfl⟩, .inl (by rw [hpt.out]; exact H3.out)⟩
      · have H3 := Lib.hid hJ3
        clear hJ3 c1 c2 f2 c3
        gi_wp2
        go_end0
        exact ⟨⟨_, rfl⟩, .inr ⟨pre ++ [rest], by rw [hpt.out]; exact List.prefix_refl _, H3.out⟩⟩
    · have hil' : i + 1 ≤ rest.size := hil
      obtain ⟨k', rfl⟩ : ∃ k', k = k' + 1 := ⟨k - 1, by omega⟩
      have hpt : Hid (seqA s = (pre ++ [rest.extract 0 (i + 1)]) ++ Lib.splitB ⟨#[10]⟩ 1 k' (rest.extract (i + 1) rest.size)) := by
        unfold Hid; rw [HP.out, Lib.splitB_hit _ _ _ _ _ hi]; simp; rfl
      rw [show Lib.index rest.data.toList (ByteArray.mk #[10]).data.toList = (i : Int) from hi] at CI
      obtain ⟨fn, tmps, assign, body, hy, hR⟩ := hY'.out pre (rest.extract 0 (i + 1)) wr HJ.out (by rw [hpt.out]; exact List.prefix_append _ _)
      have HR := Lib.hid hR
      have hes : (rest.extract (i + 1) rest.size).size = rest.size - (i + 1) := by rw [ByteArray.size_extract]; omega
      have HES := Lib.hid hes
      clear hR hi HP hes hil
      gi_wp2_with (refine ⟨trivial, ?_⟩; gi_at_call 123; refine (callsIn_wide.2 CI).mono ?_; rintro e w' ⟨rfl, rfl⟩)
      refine HR.out.mono ?_
      rintro e W3 (⟨rfl, hJ3, hk3⟩ | ⟨rfl, hJ3, -⟩)
      · have H3 := Lib.hid hJ3
        have HC3 := Lib.hid (HC.out.stay hk3 q1 q2 q3)
        have HE3 := Lib.hid (HE.out.stay hk3)
        have hc3 := HC3.out
        obtain ⟨d1, d2, df, d3⟩ := hc3
        have HD2 := Lib.hid d2
        have HC2 := Lib.hid c2
        clear hJ3 hk3 c1 c2 f2 c3
        gi_wp2
        have hsame := World.cell?_setCell_same' W3 ⟨b2, 0, none⟩ (Value.string (rest.extract (i + 1) rest.size)) (by rw [HD2.out]; rfl)
        refine ⟨⟨_, k', _, hpt, by rw [HES.out]; omega, by rw [HES.out]; omega, hJ'.out _ _ _ (some b2) H3.out (grownBy_setCell' W3 b2 _) (fun r e => by cases e; exact q2), ⟨?_, hsame, by rw [World.frozen?_setCell]; exact df, ?_⟩, ?_⟩, ?_⟩
        · rw [World.cell?_setCell_other _ _ _ _ (fun e => h12 (congrArg Addr.block e).symm)]; exact d1
        · rw [World.cell?_setCell_other _ _ _ _ (fun e => h32 (congrArg Addr.block e).symm)]; exact d3
        · refine HE3.out.stay (Q := fun _ => False) (fun k hk => ?_)
          rcases hk with hk | hk
          · exact (grownBy_setCell' W3 b2 _).block k (by have := HE3.out.size; omega) (fun e => by cases e; omega)
          · exact hk.elim
        · rw [leftS_eq hsame, leftS_eq HC2.out, HES.out]; omega
      · have H3 := Lib.hid hJ3
        clear hJ3 c1 c2 f2 c3
        gi_wp2
        refine bodyPost_ret (results_none rfl _ _ _) rfl ?_
        exact ⟨⟨_, rfl⟩, .inr ⟨pre ++ [rest.extract 0 (i + 1)], by rw [hpt.out]; exact List.prefix_append _ _, H3.out⟩⟩

set_option maxHeartbeats 400000 in
theorem splitSeqA0 (s sep : ByteArray) (w : World) : Calls Tryz.prog 165 #[.string s, .string sep, .int .i64 1] w fun e w' =>
    e = .returned (.func (.func 182) #[] #[.pointer (some ⟨w.heap.size + 1, 0, none⟩), .pointer (some ⟨w.heap.size, 0, none⟩), .pointer (some ⟨w.heap.size + 2, 0, none⟩)]) ∧ w' = ((w.alloc (.cells #[.string s] 9)).alloc (.cells #[.string sep] 9)).alloc (.cells #[.int .i64 1] 3) := by
  go_enter Tryz.func165, Tryz.ntmps165
  go_wp2_with fail
  go_ret
  exact ⟨rfl, rfl⟩
set_option maxHeartbeats 400000 in
theorem SplitAfterSeq0 (s : ByteArray) (w : World) : Calls Tryz.prog 136 #[.string s, .string ⟨#[10]⟩] w fun e w' =>
    e = .returned (.func (.func 182) #[] #[.pointer (some ⟨w.heap.size + 1, 0, none⟩), .pointer (some ⟨w.heap.size, 0, none⟩), .pointer (some ⟨w.heap.size + 2, 0, none⟩)]) ∧ w' = ((w.alloc (.cells #[.string s] 9)).alloc (.cells #[.string ⟨#[10]⟩] 9)).alloc (.cells #[.int .i64 1] 3) := by
  have e1 : (⟨#[10]⟩ : ByteArray).size = 1 := rfl
  go_enter Tryz.func136, Tryz.ntmps136
  go_wp2_with (go_at_call 165; refine (splitSeqA0 _ _ _).mono ?_; rintro e w' ⟨rfl, rfl⟩)
  go_ret
  exact ⟨rfl, rfl⟩
end Go.Proofs.YtmfhpddeclggfaaGreatDoor
