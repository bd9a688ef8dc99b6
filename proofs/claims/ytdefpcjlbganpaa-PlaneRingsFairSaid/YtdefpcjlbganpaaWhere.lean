import Derived.Test.YtdefpcjlbganpaaSimple
import Derived.WalkKit
import Derived.LoopTactic
import Derived.WalkSpells
import Derived.WalkLawsBesides
import Derived.Lib.Hide
import Derived.BigQuiet
import Derived.IntWalk
import Derived.Deep.DeepMust
import Derived.WalkSmall
import Derived.StillTailTactics
import Derived.Deep.RegionLaw
import Derived.Deep.RegionHeld3
import Derived.Deep.QuietTactic
namespace Go.Proofs.Ytdefpcjlbganpaa
open Go.RowKit Go.BigFrame
/-- Where a point lies of a simple polygon. -/
def whr (l : List Pt) (p : Pt) : Int := if (egs l).any (oeB p) then 0 else if wnr p (egs l) = 0 then -1 else 1
set_option maxHeartbeats 1000000 in
theorem where_any (q : Option Addr) (cap : Nat) (l : List Pt) (p : Pt) (w : World) (hl : l.length ≤ 1000) (h0 : 0 < l.length) (hp : PtsAt w q l) :
    Calls Try.prog 99 #[.slice q l.length cap, p.v] w fun e w' => e = .returned (.int .i64 (whr l p)) ∧ Below w.heap.size w w' := by
  have S := Lib.hid ((St.nil w).boxP p 23 _ rfl)
  have C1 := fun W h => Lib.hid (onEdge_any q cap l p W hl h0 h)
  have C2 := fun W h => Lib.hid (winding_any q cap l p W hl h0 h)
  have HP := Lib.hid hp
  obtain ⟨v, hv⟩ : ∃ v, (egs l).any (oeB p) = v := ⟨_, rfl⟩
  obtain ⟨n, hn⟩ : ∃ v, wnr p (egs l) = v := ⟨_, rfl⟩
  have HR : Hid (whr l p = if v then 0 else if n = 0 then -1 else 1) := by unfold Hid whr; rw [hv, hn]
  obtain ⟨R, hR⟩ : ∃ R, whr l p = R := ⟨_, rfl⟩
  rw [hR] at HR ⊢
  rw [hv] at C1
  rw [hn] at C2
  clear hp hv hn hR
  go_enter Try.func99, Try.ntmps99
  go_wp2_with fail
  refine (C1 _ (HP.out.keep (below_al' _ _))).out.mono ?_
  rintro e w1 ⟨rfl, hb1⟩
  have S1 := Lib.hid (S.out.next hb1)
  obtain ⟨_, ⟨_, p1⟩, ⟨_, p2⟩, _⟩ := S1.out
  clear hb1 S
  cases v
  · have HR2 : Hid (R = if n = 0 then -1 else 1) := by unfold Hid; rw [HR.out]; simp
    clear HR
    go_wp2_with fail
    refine (C2 _ (HP.out.keep S1.out.b)).out.mono ?_
    rintro e w2 ⟨rfl, hb2⟩
    have S2 := Lib.hid (S1.out.next hb2)
    clear p1 p2 hb2 S1
    by_cases h : n = 0
    · have hM : R = -1 := by rw [HR2.out, if_pos h]
      subst hM
      subst h
      clear HR2
      go_wp2_with fail
      go_ret
      exact ⟨rfl, S2.out.b⟩
    · have hM : R = 1 := by rw [HR2.out, if_neg h]
      subst hM
      clear HR2
      go_wp2_with fail
      go_ret
      exact ⟨rfl, S2.out.b⟩
  · have hM : R = 0 := by rw [HR.out]; simp
    subst hM
    clear HR
    go_wp2_with fail
    go_ret
    exact ⟨rfl, S1.out.b⟩
/-- What Simple returns. -/
def smRes (l : List Pt) : Value := if ck 3 l = 0 then .tuple #[.bool (smp l), .int .i64 0] else .tuple #[.bool false, .int .i64 (ck 3 l)]
set_option maxHeartbeats 1000000 in
theorem Simple_any (q : Option Addr) (cap : Nat) (l : List Pt) (w : World) (hl : l.length ≤ 140737488355327) (hp : PtsAt w q l) :
    Calls Try.prog 32 #[.slice q l.length cap] w fun e w' => e = .returned (smRes l) ∧ Below w.heap.size w w' := by
  obtain ⟨c, hc⟩ : ∃ c, ck 3 l = c := ⟨_, rfl⟩
  have CP := Lib.hid (checkPolygon_any q cap l w hl hp)
  rw [hc] at CP
  by_cases h0 : c = 0
  · subst h0
    obtain ⟨h3, h200, _⟩ := ck_len hc
    have CS := fun W h => Lib.hid (simple_any q cap l W (by omega) (by omega) h)
    have HP := Lib.hid hp
    obtain ⟨v, hv⟩ : ∃ v, smp l = v := ⟨_, rfl⟩
    have hR : smRes l = .tuple #[.bool v, .int .i64 0] := by unfold smRes; rw [if_pos hc, hv]
    rw [hR]
    rw [hv] at CS
    clear hR hc hp hv
    go_enter Try.func32, Try.ntmps32
    go_wp2_with fail
    refine CP.out.mono ?_
    rintro e w1 ⟨rfl, hb1⟩
    have HB := Lib.hid hb1
    clear hb1
    go_wp2_with fail
    refine (CS _ (HP.out.keep HB.out)).out.mono ?_
    rintro e w2 ⟨rfl, hb2⟩
    have HB2 : Hid (Below w.heap.size w w2) := HB.out.trans (hb2.mono HB.out.size)
    go_wp2_with fail
    go_ret2
    exact ⟨rfl, HB2.out⟩
  · have hR : smRes l = .tuple #[.bool false, .int .i64 c] := by unfold smRes; rw [if_neg (by rw [hc]; exact h0), hc]
    rw [hR]
    clear hR hc hp
    go_enter Try.func32, Try.ntmps32
    go_wp2_with fail
    refine CP.out.mono ?_
    rintro e w1 ⟨rfl, hb1⟩
    have HB := Lib.hid hb1
    clear hb1
    go_wp2_with fail
    go_ret2
    exact ⟨rfl, HB.out⟩
/-- What Where returns. -/
def whRes (l : List Pt) (p : Pt) : Value :=
  if ck 3 l = 0 then (if okP p then (if smp l then .tuple #[.int .i64 (whr l p), .int .i64 0] else .tuple #[.int .i64 0, .int .i64 4]) else .tuple #[.int .i64 0, .int .i64 1]) else .tuple #[.int .i64 0, .int .i64 (ck 3 l)]
set_option maxHeartbeats 1000000 in
theorem Where_any (q : Option Addr) (cap : Nat) (l : List Pt) (p : Pt) (w : World) (hl : l.length ≤ 140737488355327) (hp : PtsAt w q l) :
    Calls Try.prog 36 #[.slice q l.length cap, p.v] w fun e w' => e = .returned (whRes l p) ∧ Below w.heap.size w w' := by
  have S := Lib.hid ((St.nil w).boxP p 23 _ rfl)
  obtain ⟨c, hc⟩ : ∃ c, ck 3 l = c := ⟨_, rfl⟩
  have CP := fun W h => Lib.hid (checkPolygon_any q cap l W hl h)
  rw [hc] at CP
  have HP := Lib.hid hp
  by_cases h0 : c = 0
  · subst h0
    obtain ⟨h3, h200, _⟩ := ck_len hc
    have CV := fun W => Lib.hid (Valid_any p W)
    have CS := fun W h => Lib.hid (simple_any q cap l W (by omega) (by omega) h)
    have CW := fun W h => Lib.hid (where_any q cap l p W (by omega) (by omega) h)
    obtain ⟨u, hu⟩ : ∃ v, okP p = v := ⟨_, rfl⟩
    obtain ⟨v, hv⟩ : ∃ v, smp l = v := ⟨_, rfl⟩
    obtain ⟨n, hn⟩ : ∃ v, whr l p = v := ⟨_, rfl⟩
    have hR : Hid (whRes l p = if u then (if v then .tuple #[.int .i64 n, .int .i64 0] else .tuple #[.int .i64 0, .int .i64 4]) else .tuple #[.int .i64 0, .int .i64 1]) := by unfold Hid whRes; rw [if_pos hc, hu, hv, hn]
    obtain ⟨R, hRR⟩ : ∃ R, whRes l p = R := ⟨_, rfl⟩
    rw [hRR] at hR ⊢
    rw [hu] at CV
    rw [hv] at CS
    rw [hn] at CW
    clear hc hp hu hv hn hRR
    go_enter Try.func36, Try.ntmps36
    go_wp2_with fail
    refine (CP _ (HP.out.keep (below_al' _ _))).out.mono ?_
    rintro e w1 ⟨rfl, hb1⟩
    have S1 := Lib.hid (S.out.next hb1)
    obtain ⟨_, ⟨_, p1⟩, ⟨_, p2⟩, _⟩ := S1.out
    clear hb1 S
    go_wp2_with fail
    refine (CV _).out.mono ?_
    rintro e w2 ⟨rfl, hb2⟩
    have S2 := Lib.hid (S1.out.next hb2)
    clear p1 p2 hb2 S1
    cases u
    · have hR1 : R = .tuple #[.int .i64 0, .int .i64 1] := by rw [hR.out]; simp
      subst hR1
      clear hR
      go_wp2_with fail
      go_ret2
      exact ⟨rfl, S2.out.b⟩
    · go_wp2_with fail
      refine (CS _ (HP.out.keep S2.out.b)).out.mono ?_
      rintro e w3 ⟨rfl, hb3⟩
      have S3 := Lib.hid (S2.out.next hb3)
      clear hb3 S2
      obtain ⟨_, ⟨_, p1⟩, ⟨_, p2⟩, _⟩ := S3.out
      cases v
      · have hR1 : R = .tuple #[.int .i64 0, .int .i64 4] := by rw [hR.out]; simp
        subst hR1
        clear hR
        go_wp2_with fail
        go_ret2
        exact ⟨rfl, S3.out.b⟩
      · have hR1 : R = .tuple #[.int .i64 n, .int .i64 0] := by rw [hR.out]; simp
        subst hR1
        clear hR
        go_wp2_with fail
        refine (CW _ (HP.out.keep S3.out.b)).out.mono ?_
        rintro e w4 ⟨rfl, hb4⟩
        have S4 := Lib.hid (S3.out.next hb4)
        go_wp2_with fail
        go_ret2
        exact ⟨rfl, S4.out.b⟩
  · have hR : whRes l p = .tuple #[.int .i64 0, .int .i64 c] := by unfold whRes; rw [if_neg (by rw [hc]; exact h0), hc]
    rw [hR]
    clear hR hc hp
    go_enter Try.func36, Try.ntmps36
    go_wp2_with fail
    refine (CP _ (HP.out.keep (below_al' _ _))).out.mono ?_
    rintro e w1 ⟨rfl, hb1⟩
    have S1 := Lib.hid (S.out.next hb1)
    clear hb1 S
    go_wp2_with fail
    go_ret2
    exact ⟨rfl, S1.out.b⟩
end Go.Proofs.Ytdefpcjlbganpaa
