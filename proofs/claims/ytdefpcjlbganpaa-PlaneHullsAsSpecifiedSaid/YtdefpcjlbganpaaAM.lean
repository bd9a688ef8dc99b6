import Derived.RangeFuncNested
import Derived.RangeFuncBox
import Derived.RangeFuncBound
import Derived.RangeFuncCalls
import Derived.RangeFuncLeaves
import Derived.Shelf.Abstract
import Derived.Shelf.RegionOpen
import Derived.BigRegionIn
import Derived.Stop.RegionWithIn
import Derived.WalkKit
import Derived.OwnWalkIn
import Derived.TacticsInMore
import Derived.LoopNIn
import Derived.LoopIn
import Derived.Lib.Hide
import Derived.IntWalk
import Derived.Deep.QuietTactic
import Derived.Deep.RegionHeld3
import Derived.Deep.RegionLaw
import Derived.StillTailTactics
import Derived.WalkSmall
import Derived.Deep.DeepMust
import Derived.BigQuiet
import Derived.WalkLawsBesides
import Derived.WalkSpells
import Derived.LoopTactic
import Derived.Test.YtdefpcjlbganpaaHU
import Derived.Test.YtdefpcjlbganpaaMEx
import Derived.Test.YtdefpcjlbganpaaMBxs
import Derived.Test.YtdefpcjlbganpaaMCut
import Derived.Test.YtdefpcjlbganpaaMDist
import Derived.Lib.SliceRun
import Derived.Lib.SlicesCompact
import Derived.Deep.LoopGhost
import Derived.Deep.DeepCutAuto
import Derived.Deep.CutBlock
namespace Go.Proofs.Ytdefpcjlbganpaa
open Go.RowKit Go.Shelf Go.BigFrame Go.Sort
attribute [local go_sem] Oper.semAt_some
attribute [local go_sem] World.cell?_alloc_some
open HM
theorem cx_lt2 {e1 e2 f1 f2 g1 g2 : Int} (he : LP e1 e2) (hf : LP f1 f2) (hg : LP g1 g2) (h1 : 0 < cx f1 f2 e1 e2) (h2 : 0 ≤ cx e1 e2 g1 g2) : 0 < cx f1 f2 g1 g2 := by
  have h := lp_comb h2 h1 hf hg
  obtain ⟨i1, i2⟩ := cx_id e1 e2 f1 f2 g1 g2
  rw [Int.add_comm, ← i1, Int.add_comm, ← i2] at h
  exact lp_scal h he
/-- What lies between two points, seen from a third one. -/
theorem half_pos {o p : Pt} (h : hlf o p = 0) : LP (p.y - o.y) (p.x - o.x) := by
  unfold hlf at h
  split at h
  · rename_i h'; unfold LP; omega
  · cases h
theorem half_neg {o p : Pt} (hne : p ≠ o) (h : hlf o p = 1) : LP (o.y - p.y) (o.x - p.x) := by
  unfold hlf at h
  split at h
  · cases h
  · rename_i h'
    have : ¬ (p.x = o.x ∧ p.y = o.y) := fun e => hne (by obtain ⟨a, b⟩ := p; obtain ⟨c, d⟩ := o; rw [Pt.mk.injEq]; exact e)
    unfold LP; omega
theorem half_01 (o p : Pt) : hlf o p = 0 ∨ hlf o p = 1 := by unfold hlf; split <;> simp
theorem ar_cx1 (o p q : Pt) : ar o p q = cx (q.y - o.y) (q.x - o.x) (p.y - o.y) (p.x - o.x) := by unfold ar cx; grind
theorem ar_cx2 (o p q : Pt) : ar o p q = cx (o.y - q.y) (o.x - q.x) (o.y - p.y) (o.x - p.x) := by unfold ar cx; grind
/-- Turns within a half turn are transitive. -/
theorem seen_tr {o p q r : Pt} (hp : p ≠ o) (hq : q ≠ o) (hr : r ≠ o) (h1 : hlf o p = hlf o q) (h2 : hlf o q = hlf o r) :
    (0 < ar o p q → 0 ≤ ar o q r → 0 < ar o p r) ∧ (0 ≤ ar o p q → 0 < ar o q r → 0 < ar o p r) ∧ (0 ≤ ar o p q → 0 ≤ ar o q r → 0 ≤ ar o p r) := by
  rcases half_01 o q with h | h
  · have kp := half_pos (h1.trans h)
    have kq := half_pos h
    have kr := half_pos (h2.symm.trans h)
    rw [ar_cx1 o p q, ar_cx1 o q r, ar_cx1 o p r]
    exact ⟨fun a b => cx_lt kq kr kp b a, fun a b => cx_lt2 kq kr kp b a, fun a b => cx_le kq kr kp b a⟩
  · have kp := half_neg hp (h1.trans h)
    have kq := half_neg hq h
    have kr := half_neg hr (h2.symm.trans h)
    rw [ar_cx2 o p q, ar_cx2 o q r, ar_cx2 o p r]
    exact ⟨fun a b => cx_lt kq kr kp b a, fun a b => cx_lt2 kq kr kp b a, fun a b => cx_le kq kr kp b a⟩
/-- A point is seen ahead of another one, or of two that are seen alike the one that is told first. -/
def before (o : Pt) (l : List Pt) (i j : Nat) : Prop :=
  hlf o (pt l i) < hlf o (pt l j) ∨ hlf o (pt l i) = hlf o (pt l j) ∧ (0 < ar o (pt l i) (pt l j) ∨ ar o (pt l i) (pt l j) = 0 ∧ (dq o (pt l i) < dq o (pt l j) ∨ dq o (pt l i) = dq o (pt l j) ∧ i < j))
theorem before_is (o : Pt) (l : List Pt) (i j : Nat) (ho : okP o = true) (hi : okP (pt l i) = true) (hj : okP (pt l j) = true) : cmpA o l i j < 0 ↔ before o l i j := by
  unfold cmpA before
  rw [trn_ok ho hi hj, show dst o (pt l i) = dq o (pt l i) from by simp [dst, ho, hi], show dst o (pt l j) = dq o (pt l j) from by simp [dst, ho, hj]]
  generalize hlf o (pt l i) = a
  generalize hlf o (pt l j) = b
  generalize ar o (pt l i) (pt l j) = t
  generalize dq o (pt l i) = c
  generalize dq o (pt l j) = d
  unfold orI
  by_cases h1 : cm a b = 0
  · have h1' := (cm_zero a b).1 h1
    rw [if_pos h1]
    unfold orI
    by_cases h2 : -sg t = 0
    · have h2' : t = 0 := by unfold sg at h2; split at h2 <;> (try split at h2) <;> omega
      rw [if_pos h2]
      unfold orI
      by_cases h3 : cm c d = 0
      · have h3' := (cm_zero c d).1 h3
        rw [if_pos h3]
        unfold orI
        by_cases h4 : cm (i : Int) (j : Int) = 0
        · have h4' := (cm_zero _ _).1 h4
          rw [if_pos h4]
          unfold orI
          omega
        · rw [if_neg h4, cm_lt]
          have h4' : ¬ (i : Int) = j := fun e => h4 ((cm_zero _ _).2 e)
          omega
      · rw [if_neg h3, cm_lt]
        have h3' : ¬ c = d := fun e => h3 ((cm_zero _ _).2 e)
        omega
    · rw [if_neg h2]
      have h2' : ¬ t = 0 := fun e => h2 (by rw [e]; decide)
      have : (-sg t < 0) ↔ 0 < t := by unfold sg; split <;> (try split) <;> omega
      rw [this]
      omega
  · rw [if_neg h1, cm_lt]
    have h1' : ¬ a = b := fun e => h1 ((cm_zero _ _).2 e)
    omega
theorem before_tr {o : Pt} {l : List Pt} {i j k : Nat} (hi : pt l i ≠ o) (hj : pt l j ≠ o) (hk : pt l k ≠ o) (h1 : before o l i j) (h2 : before o l j k) : before o l i k := by
  unfold before at *
  by_cases e1 : hlf o (pt l i) = hlf o (pt l j)
  · by_cases e2 : hlf o (pt l j) = hlf o (pt l k)
    · obtain ⟨s1, s2, s3⟩ := seen_tr hi hj hk e1 e2
      have e3 := e1.trans e2
      have r1 : ar o (pt l j) (pt l i) = -ar o (pt l i) (pt l j) := by unfold ar; grind
      have r2 : ar o (pt l k) (pt l j) = -ar o (pt l j) (pt l k) := by unfold ar; grind
      have r3 : ar o (pt l k) (pt l i) = -ar o (pt l i) (pt l k) := by unfold ar; grind
      obtain ⟨_, _, u3⟩ := seen_tr hk hj hi e2.symm e1.symm
      rw [r1, r2, r3] at u3
      have d1 : ¬ hlf o (pt l i) < hlf o (pt l j) := by omega
      have d2 : ¬ hlf o (pt l j) < hlf o (pt l k) := by omega
      rcases h1 with h1 | ⟨_, h1⟩
      · exact absurd h1 d1
      rcases h2 with h2 | ⟨_, h2⟩
      · exact absurd h2 d2
      refine .inr ⟨e3, ?_⟩
      rcases h1 with h1 | ⟨z1, h1⟩
      · exact .inl (s1 h1 (by omega))
      · rcases h2 with h2 | ⟨z2, h2⟩
        · exact .inl (s2 (by omega) h2)
        · have a1 := s3 (by omega) (by omega)
          have a2 := u3 (by omega) (by omega)
          exact .inr ⟨by omega, by omega⟩
    · left; omega
  · left
    rcases h1 with h1 | h1
    · rcases h2 with h2 | h2 <;> omega
    · exact absurd h1.1 e1
theorem before_tot {o : Pt} {l : List Pt} {i j : Nat} (h1 : ¬ before o l i j) (h2 : ¬ before o l j i) : i = j := by
  unfold before at *
  have r1 : ar o (pt l j) (pt l i) = -ar o (pt l i) (pt l j) := by unfold ar; grind
  rw [r1] at h2
  omega
theorem before_irr {o : Pt} {l : List Pt} {i : Nat} : ¬ before o l i i := by
  unfold before
  have : ar o (pt l i) (pt l i) = 0 := by unfold ar; grind
  rw [this]
  omega
theorem pt_mem {l : List Pt} {i : Nat} (h : i < l.length) : pt l i ∈ l := by
  unfold pt
  rw [List.getD_eq_getElem?_getD, List.getElem?_eq_getElem h]
  exact List.getElem_mem h
/-- The order in which points are seen is total. -/
theorem seen_total (o : Pt) (l : List Pt) (ho : okP o = true) (hok : ∀ q ∈ l, okP q = true) (hno : o ∉ l) :
    SWO (ltOf (fun i j : Fin l.length => cmpA o l i j)) ∧ ∀ x y, ltOf (fun i j : Fin l.length => cmpA o l i j) x y = false → ltOf (fun i j : Fin l.length => cmpA o l i j) y x = false → x = y := by
  have is : ∀ x y : Fin l.length, ltOf (fun i j : Fin l.length => cmpA o l i j) x y = true ↔ before o l x y := fun x y => by
    unfold ltOf
    rw [decide_eq_true_iff]
    exact before_is o l x y ho (hok _ (pt_mem x.isLt)) (hok _ (pt_mem y.isLt))
  have isn : ∀ x y : Fin l.length, ltOf (fun i j : Fin l.length => cmpA o l i j) x y = false ↔ ¬ before o l x y := fun x y => by rw [← is, Bool.not_eq_true]
  have ne : ∀ x : Fin l.length, pt l x ≠ o := fun x e => hno (by rw [← e]; exact pt_mem x.isLt)
  have tot : ∀ x y : Fin l.length, ¬ before o l x y → ¬ before o l y x → x = y := fun x y h k => Fin.ext (before_tot h k)
  refine ⟨⟨fun x => (isn x x).2 before_irr, fun x y z h k => ?_, fun x y z h k => ?_⟩, fun x y h k => tot x y ((isn x y).1 h) ((isn y x).1 k)⟩
  · rw [is] at *
    exact before_tr (ne x) (ne y) (ne z) h k
  · rw [isn] at *
    intro hxz
    by_cases h1 : before o l y x
    · exact k (before_tr (ne y) (ne x) (ne z) h1 hxz)
    · have := tot x y h h1
      subst this
      exact k hxz
end Go.Proofs.Ytdefpcjlbganpaa
namespace Go.Proofs.Ytdefpcjlbganpaa
open Go.RowKit Go.Shelf Go.BigFrame Go.Sort
attribute [local go_sem] Oper.semAt_some
attribute [local go_sem] World.cell?_alloc_some
def arE (o : Pt) (l : List Pt) : Int := if ck 0 l = 0 then (if okP o && !decide (o ∈ l) then 0 else 1) else ck 0 l
def arL (o : Pt) (l : List Pt) : List Int := if arE o l = 0 then arOrd o l else []
theorem arL_len (o : Pt) (l : List Pt) : (arOrd o l).length = l.length := by unfold arOrd; simp
def ArPost (w : World) (n : Int) (m : List Int) (e : Ending) (w' : World) : Prop := ∃ a c, e = .returned (.tuple #[.slice a m.length c, .int .i64 n]) ∧ IntsAt w' a m ∧ Below w.heap.size w w'
set_option maxRecDepth 100000 in
set_option maxHeartbeats 8000000 in
theorem Around_all (o : Pt) (q : Option Addr) (cap : Nat) (l : List Pt) (w : World) (hl : l.length ≤ 140737488355327) (hp : PtsAt w q l) :
    Calls Try.prog 41 #[o.v, .slice q l.length cap] w (ArPost w (arE o l) (arL o l)) := by
  have HP := Lib.hid hp
  by_cases hck : ck 0 l = 0
  · obtain ⟨_, h200, hall⟩ := ck_len hck
    by_cases hgo : (okP o && !decide (o ∈ l)) = true
    · have hE : arE o l = 0 := by unfold arE; rw [if_pos hck, if_pos hgo]
      have hL : arL o l = arOrd o l := by unfold arL; rw [if_pos hE]
      simp only [Bool.and_eq_true, Bool.not_eq_true', decide_eq_false_iff_not] at hgo
      rw [hE, hL]
      by_cases hnil : l = []
      · subst hnil
        have hO0 : arOrd o [] = [] := List.eq_nil_of_length_eq_zero (by rw [arL_len]; rfl)
        rw [hO0]
        show Calls Try.prog 41 #[o.v, .slice q 0 cap] w _
        have C0 : ∀ W, Below w.heap.size w W → Calls Try.prog 102 #[.slice q 0 cap, .int .i64 0, .int .i64 200] W fun e w' => e = .returned (.int .i64 0) ∧ Below W.heap.size W w' := fun W hb => by
          have h := checkPoints_any 0 q cap [] W (by simp) (Or.inl rfl)
          rw [hck] at h
          exact h
        have C1 := fun W => Valid_any o W
        rw [hgo.1] at C1
        have C2 : ∀ W, Below w.heap.size w W → Calls Try.prog 111 #[.slice q 0 cap, o.v] W fun e w' => e = .returned (.bool false) ∧ Below W.heap.size W w' := fun W hb => hasP_any q cap [] o W (by simp) (Or.inl rfl)
        have mk : ∀ W, (Instr.makeSlice 49 (.int .i64 0) (.int .i64 0)).run Try.prog W = .ok (.slice (some ⟨W.heap.size, 0, none⟩) 0 0) (W.alloc (.cells (madeCells #[.int .i64 0] 0) 3)) := fun W => make3 W 0 (by omega)
        clear hck hall hgo hE hL hp h200 hO0
        go_enter Try.func41, Try.ntmps41
        go_wp2_with fail
        obtain ⟨W0, hW0⟩ : ∃ W0, ((w).alloc (.cells #[.int .i64 o.x, .int .i64 o.y] 23)).alloc (.cells #[.slice q 0 cap] 35) = W0 := ⟨_, rfl⟩
        have S0 : St w W0 [(w.heap.size + 1, 0, .slice q 0 cap), (w.heap.size, 0, .int .i64 o.x), (w.heap.size, 1, .int .i64 o.y)] := by rw [← hW0]; exact (((St.nil w)).box #[.int .i64 o.x, .int .i64 o.y] 23 (w.heap.size) (by simp)).box #[.slice q 0 cap] 35 (w.heap.size + 1) (by simp)
        rw [hW0]
        clear hW0
        obtain ⟨C, hC0, HC, LC, BC, hne⟩ := cls S0
        haveI := hne
        obtain ⟨c0, rfl⟩ : ∃ n : Wd C, W0 = n.w := ⟨⟨_, hC0⟩, rfl⟩
        have fC0 : ∀ n : Wd C, n.w.cell? ⟨w.heap.size + 1, 0, none⟩ = some (.slice q 0 cap) := fun n => (LC.out n).1.2.1
        have fC1 : ∀ n : Wd C, n.w.cell? ⟨w.heap.size, 0, none⟩ = some (.int .i64 o.x) := fun n => (LC.out n).2.1.2.1
        have fC2 : ∀ n : Wd C, n.w.cell? ⟨w.heap.size, 1, none⟩ = some (.int .i64 o.y) := fun n => (LC.out n).2.2.1.2.1
        clear S0 hC0
        have D0 := cinL HC BC C0
        have D1 := cin HC C1
        have D2 := cinL HC BC C2
        clear C0 C1 C2
        go_wp2_with (first | (go_at_call 102; with_reducible refine (D0 _).out.mono ?_; rintro e w' ⟨rfl, n, rfl⟩) | (go_at_call 17; with_reducible refine (D1 _).out.mono ?_; rintro e w' ⟨rfl, n, rfl⟩) | (go_at_call 111; with_reducible refine (D2 _).out.mono ?_; rintro e w' ⟨rfl, n, rfl⟩))
        obtain ⟨W1, hW1⟩ : ∃ W1, n.w.alloc (.cells (madeCells #[.int .i64 0] 0) 3) = W1 := ⟨_, rfl⟩
        have HBW : Hid (Below w.heap.size w W1) := by unfold Hid; rw [← hW1]; exact (BC.out n).alloc (BC.out n).size _
        rw [hW1]
        clear hW1 mk D0 D1 D2
        go_loopw [27] (fun i wr => i = .int .i64 0 ∧ wr = W1) (fun i wr => 0)
        case atStart => exact ⟨rfl, rfl⟩
        case round =>
          obtain ⟨rfl, rfl⟩ := hrel
          go_wp2_with fail
          go_at_call 112
          refine (AnyF.slices_SortFunc_none { Try.sortI with } _ 0 _ _).mono ?_
          rintro e w' ⟨rfl, rfl⟩
          go_wp2_with fail
          go_ret2
          exact ⟨_, 0, rfl, Or.inl rfl, HBW.out⟩
      · rcases hp with h | ⟨b, off, rfl, hbl, hc⟩
        · exact absurd h hnil
        · obtain ⟨hO, hT⟩ := seen_total o l hgo.1 (List.all_eq_true.1 hall) hgo.2
          refine (Around_any o b off cap l w (by cases l; exact absurd rfl hnil; simp) h200 hall hgo.1 hgo.2 HP.out hO hT).mono ?_
          rintro e w' ⟨g, rfl, hi, hb⟩
          exact ⟨some ⟨g, 0, none⟩, l.length, by rw [arL_len], hi, hb⟩
    · have hE : arE o l = 1 := by unfold arE; rw [if_pos hck, if_neg hgo]
      have hL : arL o l = [] := by unfold arL; rw [if_neg (by rw [hE]; decide)]
      rw [hE, hL]
      have C0 : ∀ W, Below w.heap.size w W → Calls Try.prog 102 #[.slice q l.length cap, .int .i64 0, .int .i64 200] W fun e w' => e = .returned (.int .i64 0) ∧ Below W.heap.size W w' := fun W hb => by
        have h := checkPoints_any 0 q cap l W (by omega) (hp.keep hb)
        rw [hck] at h
        exact h
      have C1 := fun W => Valid_any o W
      have C2 := fun W (hb : Below w.heap.size w W) => hasP_any q cap l o W (by omega) (hp.keep hb)
      obtain ⟨z1, hz1⟩ : ∃ z, okP o = z := ⟨_, rfl⟩
      obtain ⟨z2, hz2⟩ : ∃ z, decide (o ∈ l) = z := ⟨_, rfl⟩
      simp only [hz1] at C1 hgo
      simp only [hz2] at C2 hgo
      have HGO := Lib.hid hgo
      clear hck hall hgo hE hL hp h200 hz1 hz2
      go_enter Try.func41, Try.ntmps41
      go_wp2_with fail
      obtain ⟨W0, hW0⟩ : ∃ W0, ((w).alloc (.cells #[.int .i64 o.x, .int .i64 o.y] 23)).alloc (.cells #[.slice q l.length cap] 35) = W0 := ⟨_, rfl⟩
      have S0 : St w W0 [(w.heap.size + 1, 0, .slice q l.length cap), (w.heap.size, 0, .int .i64 o.x), (w.heap.size, 1, .int .i64 o.y)] := by rw [← hW0]; exact (((St.nil w)).box #[.int .i64 o.x, .int .i64 o.y] 23 (w.heap.size) (by simp)).box #[.slice q l.length cap] 35 (w.heap.size + 1) (by simp)
      rw [hW0]
      clear hW0
      obtain ⟨C, hC0, HC, LC, BC, hne⟩ := cls S0
      haveI := hne
      obtain ⟨c0, rfl⟩ : ∃ n : Wd C, W0 = n.w := ⟨⟨_, hC0⟩, rfl⟩
      have fC0 : ∀ n : Wd C, n.w.cell? ⟨w.heap.size + 1, 0, none⟩ = some (.slice q l.length cap) := fun n => (LC.out n).1.2.1
      have fC1 : ∀ n : Wd C, n.w.cell? ⟨w.heap.size, 0, none⟩ = some (.int .i64 o.x) := fun n => (LC.out n).2.1.2.1
      have fC2 : ∀ n : Wd C, n.w.cell? ⟨w.heap.size, 1, none⟩ = some (.int .i64 o.y) := fun n => (LC.out n).2.2.1.2.1
      clear S0 hC0
      have D0 := cinL HC BC C0
      have D1 := cin HC C1
      have D2 := cinL HC BC C2
      clear C0 C1 C2
      cases z1 <;> cases z2
      all_goals first
      | (exfalso; exact HGO.out rfl)
      | (go_wp2_with (first | (go_at_call 102; with_reducible refine (D0 _).out.mono ?_; rintro e w' ⟨rfl, n, rfl⟩) | (go_at_call 17; with_reducible refine (D1 _).out.mono ?_; rintro e w' ⟨rfl, n, rfl⟩) | (go_at_call 111; with_reducible refine (D2 _).out.mono ?_; rintro e w' ⟨rfl, n, rfl⟩))
         go_ret2
         exact ⟨none, 0, rfl, Or.inl rfl, BC.out _⟩)
  · have hE : arE o l = ck 0 l := by unfold arE; rw [if_neg hck]
    have hL : arL o l = [] := by unfold arL; rw [hE, if_neg hck]
    rw [hE, hL]
    have C0 : ∀ W, Below w.heap.size w W → Calls Try.prog 102 #[.slice q l.length cap, .int .i64 0, .int .i64 200] W fun e w' => e = .returned (.int .i64 (ck 0 l)) ∧ Below W.heap.size W w' := fun W hb => checkPoints_any 0 q cap l W hl (hp.keep hb)
    obtain ⟨c, hc⟩ : ∃ c, ck 0 l = c := ⟨_, rfl⟩
    simp only [hc] at C0 hck ⊢
    have he' : (c == 0) = false := by simpa using hck
    have he2 : (c != 0) = true := by simpa using hck
    clear hc hp hE hL
    go_enter Try.func41, Try.ntmps41
    go_wp2_with fail
    obtain ⟨W0, hW0⟩ : ∃ W0, ((w).alloc (.cells #[.int .i64 o.x, .int .i64 o.y] 23)).alloc (.cells #[.slice q l.length cap] 35) = W0 := ⟨_, rfl⟩
    have S0 : St w W0 [(w.heap.size + 1, 0, .slice q l.length cap), (w.heap.size, 0, .int .i64 o.x), (w.heap.size, 1, .int .i64 o.y)] := by rw [← hW0]; exact (((St.nil w)).box #[.int .i64 o.x, .int .i64 o.y] 23 (w.heap.size) (by simp)).box #[.slice q l.length cap] 35 (w.heap.size + 1) (by simp)
    rw [hW0]
    clear hW0
    obtain ⟨C, hC0, HC, LC, BC, hne⟩ := cls S0
    haveI := hne
    obtain ⟨c0, rfl⟩ : ∃ n : Wd C, W0 = n.w := ⟨⟨_, hC0⟩, rfl⟩
    have fC0 : ∀ n : Wd C, n.w.cell? ⟨w.heap.size + 1, 0, none⟩ = some (.slice q l.length cap) := fun n => (LC.out n).1.2.1
    have fC1 : ∀ n : Wd C, n.w.cell? ⟨w.heap.size, 0, none⟩ = some (.int .i64 o.x) := fun n => (LC.out n).2.1.2.1
    have fC2 : ∀ n : Wd C, n.w.cell? ⟨w.heap.size, 1, none⟩ = some (.int .i64 o.y) := fun n => (LC.out n).2.2.1.2.1
    clear S0 hC0
    have D0 := cinL HC BC C0
    clear C0
    go_wp2_with (first | (go_at_call 102; with_reducible refine (D0 _).out.mono ?_; rintro e w' ⟨rfl, n, rfl⟩))
    go_ret2
    exact ⟨none, 0, rfl, Or.inl rfl, BC.out _⟩
end Go.Proofs.Ytdefpcjlbganpaa
namespace Go.Proofs.Ytdefpcjlbganpaa
open Go.RowKit Go.Shelf Go.BigFrame Go.Sort
attribute [local go_sem] Oper.semAt_some
attribute [local go_sem] World.cell?_alloc_some
open HM
/-- The least point so far. -/
def mnK (l : List Pt) : Nat → Pt
  | 0 => pt l 0
  | k + 1 => if (pt l (k + 1)).x < (mnK l k).x ∨ ((pt l (k + 1)).x = (mnK l k).x ∧ (pt l (k + 1)).y < (mnK l k).y) then pt l (k + 1) else mnK l k
theorem mnK_le (l : List Pt) : ∀ k j, j ≤ k → leP (mnK l k) (pt l j)
  | 0, j, h => by obtain rfl : j = 0 := by omega
                  exact leP_rf _
  | k + 1, j, h => by
    unfold mnK
    by_cases hj : j ≤ k
    · have := mnK_le l k j hj
      split
      · rename_i h1; unfold leP at *; omega
      · exact this
    · obtain rfl : j = k + 1 := by omega
      split
      · exact leP_rf _
      · rename_i h1; unfold leP; omega
theorem mnK_mem (l : List Pt) : ∀ k, k < l.length → mnK l k ∈ l
  | 0, h => pt_mem h
  | k + 1, h => by
    unfold mnK
    split
    · exact pt_mem h
    · exact mnK_mem l k (by omega)
/-- The next corner, by going through the points. -/
def nxK (v : Pt) (l : List Pt) : Nat → Pt
  | 0 => v
  | k + 1 => if pt l k = v then nxK v l k else if nxK v l k = v ∨ ar v (nxK v l k) (pt l k) < 0 ∨ ar v (nxK v l k) (pt l k) = 0 ∧ dq v (nxK v l k) < dq v (pt l k) then pt l k else nxK v l k
theorem nxK_mem (v : Pt) (l : List Pt) : ∀ k, k ≤ l.length → nxK v l k = v ∨ nxK v l k ∈ l ∧ nxK v l k ≠ v
  | 0, _ => .inl rfl
  | k + 1, h => by
    unfold nxK
    split
    · exact nxK_mem v l k (by omega)
    · rename_i h1
      split
      · exact .inr ⟨pt_mem (by omega), h1⟩
      · exact nxK_mem v l k (by omega)
theorem sq_le {a b : Int} (h : 0 ≤ a ∧ a ≤ b ∨ b ≤ a ∧ a ≤ 0) : a * a ≤ b * b ∧ (a * a = b * b → a = b) := by
  rcases h with ⟨h1, h2⟩ | ⟨h1, h2⟩
  · have e1 : (b - a) * (b + a) = b * b - a * a := by grind
    have e2 := Int.mul_nonneg (show 0 ≤ b - a by omega) (show 0 ≤ b + a by omega)
    refine ⟨by omega, fun e => ?_⟩
    have e3 : (b - a) * (b + a) = 0 := by omega
    rcases Int.mul_eq_zero.1 e3 with e | e <;> omega
  · have e1 : (b - a) * (b + a) = b * b - a * a := by grind
    have e2 : 0 ≤ (b - a) * (b + a) := by
      have := Int.mul_nonneg (show 0 ≤ a - b by omega) (show 0 ≤ -(b + a) by omega)
      have e : (a - b) * -(b + a) = (b - a) * (b + a) := by grind
      omega
    refine ⟨by omega, fun e => ?_⟩
    have e3 : (b - a) * (b + a) = 0 := by omega
    rcases Int.mul_eq_zero.1 e3 with e | e <;> omega
theorem far_edge {v b q : Pt} (hv : okP v = true) (hb : okP b = true) (hq : okP q = true) (hvb : v ≠ b) (h0 : ar v b q = 0) (h : Btw v b q) : dq v q ≤ dq v b ∧ (dq v q = dq v b → q = b) := by
  have hs := onS_of hv hb hq hvb h0 h
  unfold onS at hs
  simp only [Bool.and_eq_true] at hs
  obtain ⟨_, hx, hy⟩ := hds_iff.1 hs.2.1
  simp only [bxOf] at hx hy
  unfold dq
  have s1 := sq_le (a := q.x - v.x) (b := b.x - v.x) (by omega)
  have s2 := sq_le (a := q.y - v.y) (b := b.y - v.y) (by omega)
  refine ⟨by omega, fun e => ?_⟩
  have e1 := s1.2 (by omega)
  have e2 := s2.2 (by omega)
  obtain ⟨q1, q2⟩ := q
  obtain ⟨b1, b2⟩ := b
  simp only at e1 e2
  rw [Pt.mk.injEq]
  omega
theorem nxK_edge {l : List Pt} (hok : ∀ q ∈ l, okP q = true) {v b : Pt} (hE : HM.Edge l v b) : ∀ k, k ≤ l.length → (∃ j, j < k ∧ pt l j = b) → nxK v l k = b
  | 0, _, ⟨j, hj, _⟩ => absurd hj (by omega)
  | k + 1, hk, ⟨j, hj, ej⟩ => by
    have hvb := hE.2.2.1
    have hv := hok _ hE.1
    have hb := hok _ hE.2.1
    have hp : pt l k ∈ l := pt_mem (by omega)
    have ep := hE.2.2.2 _ hp
    by_cases hbf : ∃ j, j < k ∧ pt l j = b
    · have ih := nxK_edge hok hE k (by omega) hbf
      unfold nxK
      rw [ih]
      split
      · rfl
      · rw [if_neg]
        rintro (e | e | ⟨e1, e2⟩)
        · exact hvb e.symm
        · omega
        · have := (far_edge hv hb (hok _ hp) hvb e1 (ep.2 e1)).1
          omega
    · have hjk : pt l k = b := by
        by_cases e : j < k
        · exact absurd ⟨j, e, ej⟩ hbf
        · obtain rfl : j = k := by omega
          exact ej
      unfold nxK
      rw [hjk, if_neg (Ne.symm hvb)]
      by_cases hc : nxK v l k = v ∨ ar v (nxK v l k) b < 0 ∨ ar v (nxK v l k) b = 0 ∧ dq v (nxK v l k) < dq v b
      · rw [if_pos hc]
      · rw [if_neg hc]
        rcases nxK_mem v l k (by omega) with e | ⟨e1, e2⟩
        · exact absurd (.inl e) hc
        · have ec := hE.2.2.2 _ e1
          have sw : ar v (nxK v l k) b = -ar v b (nxK v l k) := by unfold ar; grind
          have z : ar v b (nxK v l k) = 0 := by
            rcases Int.lt_or_le 0 (ar v b (nxK v l k)) with h | h
            · exact absurd (.inr (.inl (by omega))) hc
            · omega
          obtain ⟨f1, f2⟩ := far_edge hv hb (hok _ e1) hvb z (ec.2 z)
          refine f2 ?_
          rcases Int.lt_or_le (dq v (nxK v l k)) (dq v b) with h | h
          · exact absurd (.inr (.inr ⟨by omega, h⟩)) hc
          · omega
theorem nxK_same {l : List Pt} {v : Pt} (h : ∀ q ∈ l, q = v) : ∀ k, k ≤ l.length → nxK v l k = v
  | 0, _ => rfl
  | k + 1, hk => by
    unfold nxK
    rw [if_pos (h _ (pt_mem (by omega)))]
    exact nxK_same h k (by omega)
theorem nodup_len {α : Type} [DecidableEq α] : ∀ (l m : List α), l.Nodup → (∀ x ∈ l, x ∈ m) → l.length ≤ m.length
  | [], _, _, _ => by simp
  | x :: l, m, h, hs => by
    rw [List.nodup_cons] at h
    have hx := hs x (by simp)
    have := nodup_len l (m.erase x) h.2 (fun y hy => (List.mem_erase_of_ne (fun e => h.1 (by rw [← e]; exact hy))).2 (hs y (List.mem_cons_of_mem _ hy)))
    rw [List.length_erase_of_mem hx] at this
    have := List.length_pos_of_mem hx
    simp only [List.length_cons]
    omega
/-- The corners of a closed way are different. -/
theorem way_nodup {S : List Pt} {a : Pt} {t : List Pt} (h : Ch (HM.Edge S) (a :: (t ++ [a]))) (ht : a ∉ t) : (a :: t).Nodup := by
  have gt : ∀ k, k < t.length + 1 → ∃ x, (a :: t)[k]? = some x := fun k hk => ⟨_, List.getElem?_eq_getElem (by simpa using hk)⟩
  have gm : ∀ k, ∃ x, (a :: t)[k % (t.length + 1)]? = some x := fun k => gt _ (Nat.mod_lt _ (by omega))
  rw [List.nodup_iff_pairwise_ne, List.pairwise_iff_getElem]
  intro i j hi hj hij e
  have hi' : i < t.length + 1 := by simpa using hi
  have hj' : j < t.length + 1 := by simpa using hj
  have al : ∀ k x y, (a :: t)[(i + k) % (t.length + 1)]? = some x → (a :: t)[(j + k) % (t.length + 1)]? = some y → x = y := by
    intro k
    induction k with
    | zero =>
      intro x y hx hy
      rw [Nat.add_zero, Nat.mod_eq_of_lt hi', List.getElem?_eq_getElem hi] at hx
      rw [Nat.add_zero, Nat.mod_eq_of_lt hj', List.getElem?_eq_getElem hj] at hy
      injection hx with hx
      injection hy with hy
      rw [← hx, ← hy, e]
    | succ k ih =>
      intro x y hx hy
      obtain ⟨x0, hx0⟩ := gm (i + k)
      obtain ⟨y0, hy0⟩ := gm (j + k)
      have e0 := ih x0 y0 hx0 hy0
      have g1 := way_edge h _ x0 x (Nat.mod_lt _ (by omega)) hx0 (by rw [Nat.mod_add_mod]; exact hx)
      have g2 := way_edge h _ y0 y (Nat.mod_lt _ (by omega)) hy0 (by rw [Nat.mod_add_mod]; exact hy)
      rw [e0] at g1
      exact g1.uniq g2
  obtain ⟨z, hz⟩ := gm (i + (t.length + 1 - j))
  have := al (t.length + 1 - j) z a hz (by rw [show j + (t.length + 1 - j) = t.length + 1 by omega, Nat.mod_self]; rfl)
  subst this
  rw [Nat.mod_eq_of_lt (by omega)] at hz
  obtain ⟨m, hm⟩ : ∃ m, i + (t.length + 1 - j) = m + 1 := ⟨i + (t.length - j), by omega⟩
  rw [hm] at hz
  exact ht (List.mem_of_getElem? (i := m) (by simpa using hz))
/-- The corners of the hull, as the words of the specification find them. -/
theorem hull_gw (l : List Pt) (h : 1 ≤ l.length) (hok : ∀ q ∈ l, okP q = true) : (hullC l).length ≤ l.length ∧ 1 ≤ (hullC l).length ∧ (hullC l)[0]? = some (mnK l (l.length - 1)) ∧
    ∀ (k : Nat) (v : Pt), (hullC l)[k]? = some v → okP v = true ∧ (∀ j, j ≤ l.length → okP (nxK v l j) = true) ∧ (k + 1 < (hullC l).length → (hullC l)[k + 1]? = some (nxK v l l.length) ∧ nxK v l l.length ≠ v ∧ nxK v l l.length ≠ mnK l (l.length - 1)) ∧ (k + 1 = (hullC l).length → nxK v l l.length = mnK l (l.length - 1)) := by
  have hmin := mnK_le l (l.length - 1)
  have hmem := mnK_mem l (l.length - 1) (by omega)
  have oks : ∀ v, okP v = true → ∀ j, j ≤ l.length → okP (nxK v l j) = true := fun v hv j hj => by
    rcases nxK_mem v l j hj with e | e
    · rw [e]; exact hv
    · exact hok _ e.1
  have inl : ∀ q ∈ l, ∃ j, j < l.length ∧ pt l j = q := fun q hq => by
    obtain ⟨j, hj⟩ := List.getElem?_of_mem hq
    exact ⟨j, (List.getElem?_eq_some_iff.1 hj).1, by simp [pt, hj]⟩
  rcases hullC_facts l h hok with ⟨a, e, hq⟩ | ⟨a, t, e, n, ht, hch, hsub, hle⟩
  · have ha : mnK l (l.length - 1) = a := (hq _).1 hmem
    rw [e, ha]
    refine ⟨by simpa using h, by simp, rfl, fun k v hv => ?_⟩
    have hk : k = 0 := by have := (List.getElem?_eq_some_iff.1 hv).1; simpa using this
    subst hk
    obtain rfl : a = v := by simpa using hv
    have hv' := hok _ ((hq a).2 rfl)
    exact ⟨hv', oks a hv', fun h => by simp at h, fun _ => nxK_same (fun q hq' => (hq q).1 hq') _ (Nat.le_refl _)⟩
  · have ha : mnK l (l.length - 1) = a := by
      refine leP_anti ?_ (hle _ hmem)
      obtain ⟨j, hj, ej⟩ := inl a (hsub a (by rw [e]; simp))
      rw [← ej]
      exact hmin j (by omega)
    have hlen : (hullC l).length = t.length + 1 := by rw [e]; rfl
    rw [ha]
    refine ⟨nodup_len _ _ (by rw [e]; exact way_nodup hch n) hsub, by rw [hlen]; omega, by rw [e]; rfl, fun k v hv => ?_⟩
    have hk : k < t.length + 1 := by rw [← hlen]; exact (List.getElem?_eq_some_iff.1 hv).1
    have hvl := hsub v (List.mem_of_getElem? hv)
    obtain ⟨b, hb⟩ : ∃ b, (a :: t)[(k + 1) % (t.length + 1)]? = some b := ⟨_, List.getElem?_eq_getElem (by simpa using Nat.mod_lt (k + 1) (by omega))⟩
    rw [e] at hv
    have hE := way_edge hch k v b hk hv hb
    have hn := nxK_edge hok hE l.length (Nat.le_refl _) (inl b hE.2.1)
    rw [hn]
    refine ⟨hok v hvl, oks v (hok v hvl), fun hlt => ?_, fun heq => ?_⟩
    · rw [hlen] at hlt
      rw [Nat.mod_eq_of_lt hlt] at hb
      refine ⟨by rw [e]; exact hb, Ne.symm hE.2.2.1, fun eb => n ?_⟩
      rw [← eb]
      exact List.mem_of_getElem? (i := k) (by simpa using hb)
    · rw [hlen] at heq
      rw [heq, Nat.mod_self] at hb
      exact ((by simpa using hb : a = b)).symm
end Go.Proofs.Ytdefpcjlbganpaa
namespace Go.Proofs.Ytdefpcjlbganpaa
open Go.RowKit Go.Shelf Go.BigFrame Go.Sort
attribute [local go_sem] Oper.semAt_some
attribute [local go_sem] World.cell?_alloc_some
def lw (o p : Pt) : Int := if p.y < o.y ∨ (p.y = o.y ∧ p.x < o.x) then 1 else 0
set_option maxHeartbeats 2000000 in
theorem low_any (p o : Pt) (w : World) : Calls Try.prog 142 #[p.v, o.v] w fun e w' => e = .returned (.int .i64 (lw o p)) ∧ Below w.heap.size w w' := by
  obtain ⟨R, hR⟩ : ∃ R, Hid (lw o p = R) := ⟨_, rfl⟩
  rw [hR.out]
  go_enter Try.func142, Try.ntmps142
  go_wp2_with fail
  all_goals
    go_ret
    have e := hR.out
    unfold lw at e
    refine ⟨?_, (((St.nil w).al _).al _).b⟩
    rw [← e]
    first
    | (rw [if_pos (by omega)]; rfl)
    | (rw [if_neg (by omega)]; rfl)
/-- Is a point seen ahead of another one? -/
def ahB (o p q : Pt) : Bool := if lw o p = lw o q then (if ar o p q = 0 then decide (dq o p < dq o q) else decide (0 < ar o p q)) else decide (lw o p < lw o q)
set_option maxRecDepth 100000 in
set_option maxHeartbeats 4000000 in
theorem ahead_any (o p q : Pt) (w : World) (ho : okP o = true) (hp : okP p = true) (hq : okP q = true) : Calls Try.prog 115 #[o.v, p.v, q.v] w fun e w' => e = .returned (.bool (ahB o p q)) ∧ Below w.heap.size w w' := by
  have C1 := fun W => low_any p o W
  have C2 := fun W => low_any q o W
  have C3 := fun W => twice_any o p q W ho hp hq
  have C4 := fun W => square_any o p W ho hp
  have C5 := fun W => square_any o q W ho hq
  have HA : Hid (ahB o p q = if lw o p = lw o q then (if ar o p q = 0 then decide (dq o p < dq o q) else decide (0 < ar o p q)) else decide (lw o p < lw o q)) := rfl
  obtain ⟨R, hR⟩ : ∃ R, ahB o p q = R := ⟨_, rfl⟩
  obtain ⟨a, ha⟩ : ∃ R, lw o p = R := ⟨_, rfl⟩
  obtain ⟨b, hb⟩ : ∃ R, lw o q = R := ⟨_, rfl⟩
  obtain ⟨t, ht⟩ : ∃ R, ar o p q = R := ⟨_, rfl⟩
  obtain ⟨c, hc⟩ : ∃ R, dq o p = R := ⟨_, rfl⟩
  obtain ⟨d, hd⟩ : ∃ R, dq o q = R := ⟨_, rfl⟩
  rw [hR, ha, hb, ht, hc, hd] at HA
  rw [hR]
  simp only [ha] at C1
  simp only [hb] at C2
  simp only [ht] at C3
  simp only [hc] at C4
  simp only [hd] at C5
  clear hR ha hb ht hc hd ho hp hq
  go_enter Try.func115, Try.ntmps115
  go_wp2_with fail
  obtain ⟨W0, hW0⟩ : ∃ W0, (((w).alloc (.cells #[.int .i64 o.x, .int .i64 o.y] 23)).alloc (.cells #[.int .i64 p.x, .int .i64 p.y] 23)).alloc (.cells #[.int .i64 q.x, .int .i64 q.y] 23) = W0 := ⟨_, rfl⟩
  have S0 : St w W0 [(w.heap.size + 1 + 1, 0, .int .i64 q.x), (w.heap.size + 1 + 1, 1, .int .i64 q.y), (w.heap.size + 1, 0, .int .i64 p.x), (w.heap.size + 1, 1, .int .i64 p.y), (w.heap.size, 0, .int .i64 o.x), (w.heap.size, 1, .int .i64 o.y)] := by rw [← hW0]; exact ((((St.nil w)).box #[.int .i64 o.x, .int .i64 o.y] 23 (w.heap.size) (by simp)).box #[.int .i64 p.x, .int .i64 p.y] 23 (w.heap.size + 1) (by simp)).box #[.int .i64 q.x, .int .i64 q.y] 23 (w.heap.size + 1 + 1) (by simp)
  rw [hW0]
  clear hW0
  obtain ⟨C, hC0, HC, LC, BC, hne⟩ := cls S0
  haveI := hne
  obtain ⟨c0, rfl⟩ : ∃ n : Wd C, W0 = n.w := ⟨⟨_, hC0⟩, rfl⟩
  have fC0 : ∀ n : Wd C, n.w.cell? ⟨w.heap.size + 1 + 1, 0, none⟩ = some (.int .i64 q.x) := fun n => (LC.out n).1.2.1
  have fC1 : ∀ n : Wd C, n.w.cell? ⟨w.heap.size + 1 + 1, 1, none⟩ = some (.int .i64 q.y) := fun n => (LC.out n).2.1.2.1
  have fC2 : ∀ n : Wd C, n.w.cell? ⟨w.heap.size + 1, 0, none⟩ = some (.int .i64 p.x) := fun n => (LC.out n).2.2.1.2.1
  have fC3 : ∀ n : Wd C, n.w.cell? ⟨w.heap.size + 1, 1, none⟩ = some (.int .i64 p.y) := fun n => (LC.out n).2.2.2.1.2.1
  have fC4 : ∀ n : Wd C, n.w.cell? ⟨w.heap.size, 0, none⟩ = some (.int .i64 o.x) := fun n => (LC.out n).2.2.2.2.1.2.1
  have fC5 : ∀ n : Wd C, n.w.cell? ⟨w.heap.size, 1, none⟩ = some (.int .i64 o.y) := fun n => (LC.out n).2.2.2.2.2.1.2.1
  clear S0 hC0
  have D1 := cin HC C1
  have D2 := cin HC C2
  have D3 := cin HC C3
  have D4 := cin HC C4
  have D5 := cin HC C5
  clear C1 C2 C3 C4 C5
  by_cases h1 : a = b
  · have h1' : (a == b) = true := by simpa using h1
    subst h1
    by_cases h2 : t = 0
    · subst h2
      go_wp2_with (first | (go_at_call 142; with_reducible refine (D1 _).out.mono ?_; rintro e w' ⟨rfl, n, rfl⟩) | (go_at_call 142; with_reducible refine (D2 _).out.mono ?_; rintro e w' ⟨rfl, n, rfl⟩) | (go_at_call 82; with_reducible refine (D3 _).out.mono ?_; rintro e w' ⟨rfl, n, rfl⟩))
      refine wp_region_in C (HC.out _ _ (Wd.h _) (below_dr _)) (by kernel_rfl) (by kernel_rfl) ?_
      repeat (go_big_quiet_step (first | with_reducible exact (D4 _).out | with_reducible exact (D5 _).out))
      refine wpQuiet_nil ?_
      intro wx hwx
      obtain ⟨n, rfl⟩ : ∃ n : Wd C, wx = n.w := ⟨⟨wx, hwx⟩, rfl⟩
      clear hwx
      go_wp2_with fail
      go_ret
      exact ⟨ret_bool (by rw [HA.out]; simp), BC.out _⟩
    · have h2' : (t == 0) = false := by simpa using h2
      have h2'' : (t != 0) = true := by simpa using h2
      go_wp2_with (first | (go_at_call 142; with_reducible refine (D1 _).out.mono ?_; rintro e w' ⟨rfl, n, rfl⟩) | (go_at_call 142; with_reducible refine (D2 _).out.mono ?_; rintro e w' ⟨rfl, n, rfl⟩) | (go_at_call 82; with_reducible refine (D3 _).out.mono ?_; rintro e w' ⟨rfl, n, rfl⟩))
      go_ret
      exact ⟨ret_bool (by rw [HA.out]; simp [h2]), BC.out _⟩
  · have h1' : (a == b) = false := by simpa using h1
    have h1'' : (a != b) = true := by simpa using h1
    go_wp2_with (first | (go_at_call 142; with_reducible refine (D1 _).out.mono ?_; rintro e w' ⟨rfl, n, rfl⟩) | (go_at_call 142; with_reducible refine (D2 _).out.mono ?_; rintro e w' ⟨rfl, n, rfl⟩))
    go_ret
    exact ⟨ret_bool (by rw [HA.out]; simp [h1]), BC.out _⟩

open HM in
theorem lw_hlf {o p : Pt} (h : p ≠ o) : lw o p = hlf o p := by
  have : ¬ (p.x = o.x ∧ p.y = o.y) := fun e => h (by obtain ⟨a, b⟩ := p; obtain ⟨c, d⟩ := o; rw [Pt.mk.injEq]; exact e)
  unfold lw hlf
  split <;> split <;> omega
/-- Where a new index comes: behind the last one that it is not ahead of. -/
def atK (o : Pt) (l : List Pt) (i : Nat) (m : List Nat) : Nat → Nat
  | 0 => 0
  | a + 1 => if ahB o (pt l i) (pt l (m.getD a 0)) then atK o l i m a else a + 1
theorem atK_le (o : Pt) (l : List Pt) (i : Nat) (m : List Nat) : ∀ a, atK o l i m a ≤ a
  | 0 => Nat.le_refl _
  | a + 1 => by unfold atK; split <;> have := atK_le o l i m a <;> omega
theorem atK_hi (o : Pt) (l : List Pt) (i : Nat) (m : List Nat) : ∀ a j, atK o l i m a ≤ j → j < a → ahB o (pt l i) (pt l (m.getD j 0)) = true
  | 0, j, _, h => absurd h (by omega)
  | a + 1, j, h1, h2 => by
    unfold atK at h1
    split at h1
    · rename_i h
      rcases Nat.lt_or_ge j a with h3 | h3
      · exact atK_hi o l i m a j h1 h3
      · obtain rfl : j = a := by omega
        exact h
    · omega
theorem atK_lo (o : Pt) (l : List Pt) (i : Nat) (m : List Nat) : ∀ a, 0 < atK o l i m a → ahB o (pt l i) (pt l (m.getD (atK o l i m a - 1) 0)) = false
  | 0, h => absurd h (by simp [atK])
  | a + 1, h => by
    unfold atK at h ⊢
    split
    · rename_i h1; rw [if_pos h1] at h; exact atK_lo o l i m a h
    · rename_i h1; simpa using h1
/-- The order that the words of the specification make. -/
def insK (o : Pt) (l : List Pt) : Nat → List Nat
  | 0 => []
  | i + 1 => (insK o l i).take (atK o l i (insK o l i) i) ++ i :: (insK o l i).drop (atK o l i (insK o l i) i)
theorem insK_perm (o : Pt) (l : List Pt) : ∀ i, (insK o l i).Perm (List.range i)
  | 0 => List.Perm.refl _
  | i + 1 => by
    unfold insK
    refine List.perm_middle.trans ?_
    rw [List.take_append_drop, List.range_succ]
    exact ((insK_perm o l i).cons i).trans (List.perm_append_comm (l₁ := [i]) (l₂ := List.range i))
theorem insK_len (o : Pt) (l : List Pt) (i : Nat) : (insK o l i).length = i := by rw [(insK_perm o l i).length_eq, List.length_range]
theorem insK_lt (o : Pt) (l : List Pt) (i x : Nat) (h : x ∈ insK o l i) : x < i := List.mem_range.1 ((insK_perm o l i).mem_iff.1 h)
theorem ahB_before {o : Pt} {l : List Pt} {i j : Nat} (hi : pt l i ≠ o) (hj : pt l j ≠ o) : (ahB o (pt l i) (pt l j) = true → before o l i j) ∧ (ahB o (pt l i) (pt l j) = false → j < i → before o l j i) := by
  unfold ahB before
  rw [lw_hlf hi, lw_hlf hj]
  have r1 : ar o (pt l j) (pt l i) = -ar o (pt l i) (pt l j) := by unfold ar; grind
  rw [r1]
  generalize hlf o (pt l i) = a
  generalize hlf o (pt l j) = b
  generalize ar o (pt l i) (pt l j) = t
  generalize dq o (pt l i) = c
  generalize dq o (pt l j) = d
  constructor
  · intro h
    split at h
    · split at h
      · have := of_decide_eq_true h; omega
      · have := of_decide_eq_true h; omega
    · have := of_decide_eq_true h; omega
  · intro h hji
    split at h
    · split at h
      · have := of_decide_eq_false h; omega
      · have := of_decide_eq_false h; omega
    · have := of_decide_eq_false h; omega
theorem insK_sorted {o : Pt} {l : List Pt} (hno : ∀ i, i < l.length → pt l i ≠ o) : ∀ i, i ≤ l.length → (insK o l i).Pairwise (before o l)
  | 0, _ => List.Pairwise.nil
  | i + 1, hi => by
    have ih := insK_sorted hno i (by omega)
    have hlen := insK_len o l i
    have hlt := insK_lt o l i
    unfold insK
    obtain ⟨m, hm⟩ : ∃ m, insK o l i = m := ⟨_, rfl⟩
    rw [hm] at ih hlen hlt ⊢
    obtain ⟨a, ha⟩ : ∃ a, atK o l i m i = a := ⟨_, rfl⟩
    have hle := atK_le o l i m i
    have hhi := atK_hi o l i m i
    have hlo := atK_lo o l i m i
    rw [ha] at hle hhi hlo ⊢
    have gm : ∀ j, j < m.length → m[j]? = some (m.getD j 0) := fun j hj => by simp [hj]
    have after : ∀ x ∈ m.drop a, before o l i x := fun x hx => by
      obtain ⟨j, hj⟩ := List.getElem?_of_mem hx
      rw [List.getElem?_drop] at hj
      have hjl := (List.getElem?_eq_some_iff.1 hj).1
      have hxm := List.mem_of_getElem? hj
      rw [gm _ hjl] at hj
      injection hj with hj
      have := hhi (a + j) (by omega) (by omega)
      rw [hj] at this
      exact (ahB_before (hno i (by omega)) (hno x (by have := hlt x hxm; omega))).1 this
    have ahead' : ∀ x ∈ m.take a, before o l x i := fun x hx => by
      obtain ⟨j, hj⟩ := List.getElem?_of_mem hx
      have hja : j < a := by have := (List.getElem?_eq_some_iff.1 hj).1; rw [List.length_take] at this; omega
      rw [List.getElem?_take_of_lt hja] at hj
      have hxm := List.mem_of_getElem? hj
      have hl := hlo (by omega)
      have hzl : a - 1 < m.length := by omega
      have hz := gm _ hzl
      obtain ⟨z, hze⟩ : ∃ z, m.getD (a - 1) 0 = z := ⟨_, rfl⟩
      rw [hze] at hz hl
      have hzm := List.mem_of_getElem? hz
      have bz := (ahB_before (hno i (by omega)) (hno z (by have := hlt z hzm; omega))).2 hl (hlt z hzm)
      by_cases e : j = a - 1
      · rw [e, hz] at hj
        injection hj with hj
        rw [← hj]; exact bz
      · have hpw := List.pairwise_iff_getElem.1 ih j (a - 1) (by omega) hzl (by omega)
        rw [(List.getElem?_eq_some_iff.1 hj).2, (List.getElem?_eq_some_iff.1 hz).2] at hpw
        exact before_tr (hno x (by have := hlt x hxm; omega)) (hno z (by have := hlt z hzm; omega)) (hno i (by omega)) hpw bz
    rw [List.pairwise_append, List.pairwise_cons]
    refine ⟨ih.sublist (List.take_sublist _ _), ⟨after, ih.sublist (List.drop_sublist _ _)⟩, fun x hx y hy => ?_⟩
    rcases List.mem_cons.1 hy with rfl | hy
    · exact ahead' x hx
    · have hxm := List.mem_of_mem_take hx
      have hym := List.mem_of_mem_drop hy
      exact before_tr (hno x (by have := hlt x hxm; omega)) (hno i (by omega)) (hno y (by have := hlt y hym; omega)) (ahead' x hx) (after y hy)
theorem arOrd_ins {o : Pt} {l : List Pt} (ho : okP o = true) (hok : ∀ q ∈ l, okP q = true) (hno : o ∉ l) : arOrd o l = (insK o l l.length).map fun (i : Nat) => (i : Int) := by
  have hne : ∀ i, i < l.length → pt l i ≠ o := fun i hi e => hno (by rw [← e]; exact pt_mem hi)
  obtain ⟨hO, hT⟩ := seen_total o l ho hok hno
  have hs := insK_sorted hne l.length (Nat.le_refl _)
  have hp := insK_perm o l l.length
  have hlt := insK_lt o l l.length
  have e : ((insK o l l.length).pmap Fin.mk hlt : List (Fin l.length)).map (fun i => i.val) = insK o l l.length := by rw [List.map_pmap]; simp
  have hperm : ((insK o l l.length).pmap Fin.mk hlt : List (Fin l.length)).Perm (List.finRange l.length) := by
    rw [List.perm_iff_count]
    intro x
    have h1 := List.perm_iff_count.1 hp x.val
    have c1 : ∀ (L : List (Fin l.length)), L.count x = (L.map (fun i => i.val)).count x.val := fun L => by
      rw [List.count_eq_countP, List.count_eq_countP, List.countP_map]
      congr 1
      funext y
      rw [Bool.eq_iff_iff]
      simp [Fin.ext_iff]
    have hr : (List.finRange l.length).map (fun i => i.val) = List.range l.length := List.ext_getElem (by simp) (fun i h1 h2 => by simp)
    rw [c1, c1, e, h1, hr]
  have := sort_is (ltOf (fun i j : Fin l.length => cmpA o l i j)) hO hT (List.finRange l.length) _ hperm (by
    rw [List.pairwise_pmap]
    refine hs.imp_of_mem ?_
    intro a b _ _ hab h1 h2
    unfold ltOf
    rw [decide_eq_false_iff_not, before_is o l _ _ ho (hok _ (pt_mem h2)) (hok _ (pt_mem h1))]
    intro hba
    exact before_irr (before_tr (hne a h1) (hne b h2) (hne a h1) hab hba))
  unfold arOrd
  rw [this, List.map_pmap]
  simp
end Go.Proofs.Ytdefpcjlbganpaa
