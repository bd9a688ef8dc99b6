import Derived.Test.YtdefpcjlbganpaaAlong
import Derived.WalkKit
import Derived.LoopTactic
import Derived.WalkSpells
import Derived.WalkLawsBesides
import Derived.Lib.Hide
import Derived.BigQuiet
import Derived.IntWalk
import Derived.Deep.DeepMust
import Derived.WalkSmall
import Derived.StillTailTactics
import Derived.Deep.RegionLaw
import Derived.Deep.RegionHeld3
import Derived.Deep.QuietTactic
namespace Go.Proofs.Ytdefpcjlbganpaa
open Go.RowKit Go.BigFrame
theorem sg_cases (n : Int) : sg n = 1 ∨ sg n = -1 ∨ sg n = 0 := by
  unfold sg
  split
  · exact Or.inl rfl
  · split
    · exact Or.inr (Or.inl rfl)
    · exact Or.inr (Or.inr rfl)
theorem trn_cases (a b c : Pt) : trn a b c = 1 ∨ trn a b c = -1 ∨ trn a b c = 0 := by
  unfold trn
  split
  · exact sg_cases _
  · exact Or.inr (Or.inr rfl)
theorem trn_mul {a b c d e f : Pt} {x y : Int} (hx : trn a b c = x) (hy : trn d e f = y) : wrap64 (x * y) = x * y := by
  rcases trn_cases a b c with h | h | h <;> rcases trn_cases d e f with k | k | k <;> rw [hx] at h <;> rw [hy] at k <;> subst h <;> subst k <;> exact w64 (by decide)
/-- How two segments meet. -/
def mtg (s t : Sg) : Int :=
  if okG s && okG t then
    if trn t.a t.b s.a = 0 ∧ trn t.a t.b s.b = 0 then mtAlong s t
    else if trn t.a t.b s.a * trn t.a t.b s.b < 0 ∧ trn s.a s.b t.a * trn s.a s.b t.b < 0 then 2
    else if onS s t.a || (onS s t.b || (onS t s.a || onS t s.b)) then 1 else 0
  else 0
abbrev GG (w : World) (s t : Sg) (W : World) : Prop :=
  W.cell? ⟨w.heap.size, 0, none⟩ = some (.int .i64 s.a.x) ∧ W.cell? ⟨w.heap.size, 1, none⟩ = some (.int .i64 s.a.y) ∧ W.cell? ⟨w.heap.size, 2, none⟩ = some (.int .i64 s.b.x) ∧ W.cell? ⟨w.heap.size, 3, none⟩ = some (.int .i64 s.b.y) ∧
      W.cell? ⟨w.heap.size + 1, 0, none⟩ = some (.int .i64 t.a.x) ∧ W.cell? ⟨w.heap.size + 1, 1, none⟩ = some (.int .i64 t.a.y) ∧ W.cell? ⟨w.heap.size + 1, 2, none⟩ = some (.int .i64 t.b.x) ∧ W.cell? ⟨w.heap.size + 1, 3, none⟩ = some (.int .i64 t.b.y) ∧ w.heap.size + 1 < W.heap.size ∧ Below w.heap.size w W
theorem Calls.quietB {P : Program} {f : FuncId} {args : Array Value} {C : World → Prop} {w : World} {v : Value} (hC : C w) (hk : ∀ W, Below w.heap.size w W → C W) (h : Calls P f args w fun e w' => e = .returned v ∧ Below w.heap.size w w') :
    Calls P f args w fun e w'' => e = .returned v ∧ ∃ n : Wd C, w'' = n.w :=
  have _ := hC
  Calls.quiet_in (h.mono fun _ w' ⟨he, hb⟩ => ⟨he, hk w' hb⟩)
set_option maxRecDepth 100000 in
set_option maxHeartbeats 4000000 in
theorem Meeting_any (s t : Sg) (w : World) :
   Calls Try.prog 27 #[s.v, t.v] w fun e w' => e = .returned (.int .i64 (mtg s t)) ∧ Below w.heap.size w w' := by
  have S : Hid (GG w s t _) := Lib.hid (startGG (((St.nil w).boxG s 31 _ rfl).boxG t 31 (w.heap.size + 1) (by simp)))
  have KN := fun W W' => Lib.hid (@keepGG w s t W W')
  have P1 := fun W => Lib.hid (properSegment_any s W)
  have P2 := fun W => Lib.hid (properSegment_any t W)
  have T1 := fun W => Lib.hid (Turn_any t.a t.b s.a W)
  have T2 := fun W => Lib.hid (Turn_any t.a t.b s.b W)
  have T3 := fun W => Lib.hid (Turn_any s.a s.b t.a W)
  have T4 := fun W => Lib.hid (Turn_any s.a s.b t.b W)
  have AL := fun W => Lib.hid (meetingAlong_any s t W)
  have O1 := fun W => Lib.hid (On_any s t.a W)
  have O2 := fun W => Lib.hid (On_any s t.b W)
  have O3 := fun W => Lib.hid (On_any t s.a W)
  have O4 := fun W => Lib.hid (On_any t s.b W)
  obtain ⟨z1, h1⟩ : ∃ x, okG s = x := ⟨_, rfl⟩
  obtain ⟨z2, h2⟩ : ∃ x, okG t = x := ⟨_, rfl⟩
  obtain ⟨a, ha⟩ : ∃ x, trn t.a t.b s.a = x := ⟨_, rfl⟩
  obtain ⟨b, hb⟩ : ∃ x, trn t.a t.b s.b = x := ⟨_, rfl⟩
  obtain ⟨c, hc⟩ : ∃ x, trn s.a s.b t.a = x := ⟨_, rfl⟩
  obtain ⟨d, hd⟩ : ∃ x, trn s.a s.b t.b = x := ⟨_, rfl⟩
  obtain ⟨al, hal⟩ : ∃ x, mtAlong s t = x := ⟨_, rfl⟩
  obtain ⟨o1, ho1⟩ : ∃ x, onS s t.a = x := ⟨_, rfl⟩
  obtain ⟨o2, ho2⟩ : ∃ x, onS s t.b = x := ⟨_, rfl⟩
  obtain ⟨o3, ho3⟩ : ∃ x, onS t s.a = x := ⟨_, rfl⟩
  obtain ⟨o4, ho4⟩ : ∃ x, onS t s.b = x := ⟨_, rfl⟩
  have w1 : wrap64 (a * b) = a * b := trn_mul ha hb
  have w2 : wrap64 (c * d) = c * d := trn_mul hc hd
  obtain ⟨M, hM⟩ : ∃ M, mtg s t = M := ⟨_, rfl⟩
  have HM : Hid (M = if z1 && z2 then (if a = 0 ∧ b = 0 then al else if a * b < 0 ∧ c * d < 0 then 2 else if o1 || (o2 || (o3 || o4)) then 1 else 0) else 0) := by
    unfold Hid; rw [← hM, mtg, h1, h2, ha, hb, hc, hd, hal, ho1, ho2, ho3, ho4]
  rw [hM]
  rw [h1] at P1
  rw [h2] at P2
  rw [ha] at T1
  rw [hb] at T2
  rw [hc] at T3
  rw [hd] at T4
  rw [hal] at AL
  rw [ho1] at O1
  rw [ho2] at O2
  rw [ho3] at O3
  rw [ho4] at O4
  clear h1 h2 ha hb hc hd hal ho1 ho2 ho3 ho4 hM
  go_enter Try.func27, Try.ntmps27
  go_wp2_with fail
  refine (P1 _).out.mono ?_
  rintro e v1 ⟨rfl, hb1⟩
  have S1 : Hid (GG w s t v1) := (KN _ _).out hb1 S.out
  obtain ⟨q1, q2, q3, q4, q5, q6, q7, q8, _, _⟩ := S1.out
  clear hb1 S
  cases z1
  · have hM1 : M = 0 := by rw [HM.out]; simp
    subst hM1
    clear HM
    go_wp2_with fail
    go_ret
    exact ⟨rfl, S1.out.2.2.2.2.2.2.2.2.2⟩
  · go_wp2_with fail
    refine (P2 _).out.mono ?_
    rintro e v2 ⟨rfl, hb2⟩
    clear q1 q2 q3 q4 q5 q6 q7 q8
    have S2 : Hid (GG w s t v2) := (KN _ _).out hb2 S1.out
    clear hb2 S1
    cases z2
    · have hM1 : M = 0 := by rw [HM.out]; simp
      subst hM1
      clear HM
      go_wp2_with fail
      go_ret
      exact ⟨rfl, S2.out.2.2.2.2.2.2.2.2.2⟩
    · have HM2 : Hid (M = if a = 0 ∧ b = 0 then al else if a * b < 0 ∧ c * d < 0 then 2 else if o1 || (o2 || (o3 || o4)) then 1 else 0) := by unfold Hid; rw [HM.out]; simp
      clear HM
      have S2d : Hid (GG w s t v2.drew) := (KN _ _).out (below_dr v2) S2.out
      have f1 : ∀ n : Wd (GG w s t), n.w.cell? ⟨w.heap.size, 0, none⟩ = some (.int .i64 s.a.x) := fun n => n.h.1
      have f2 : ∀ n : Wd (GG w s t), n.w.cell? ⟨w.heap.size, 1, none⟩ = some (.int .i64 s.a.y) := fun n => n.h.2.1
      have f3 : ∀ n : Wd (GG w s t), n.w.cell? ⟨w.heap.size, 2, none⟩ = some (.int .i64 s.b.x) := fun n => n.h.2.2.1
      have f4 : ∀ n : Wd (GG w s t), n.w.cell? ⟨w.heap.size, 3, none⟩ = some (.int .i64 s.b.y) := fun n => n.h.2.2.2.1
      have f5 : ∀ n : Wd (GG w s t), n.w.cell? ⟨w.heap.size + 1, 0, none⟩ = some (.int .i64 t.a.x) := fun n => n.h.2.2.2.2.1
      have f6 : ∀ n : Wd (GG w s t), n.w.cell? ⟨w.heap.size + 1, 1, none⟩ = some (.int .i64 t.a.y) := fun n => n.h.2.2.2.2.2.1
      have f7 : ∀ n : Wd (GG w s t), n.w.cell? ⟨w.heap.size + 1, 2, none⟩ = some (.int .i64 t.b.x) := fun n => n.h.2.2.2.2.2.2.1
      have f8 : ∀ n : Wd (GG w s t), n.w.cell? ⟨w.heap.size + 1, 3, none⟩ = some (.int .i64 t.b.y) := fun n => n.h.2.2.2.2.2.2.2.1
      have D1 := fun n : Wd (GG w s t) => Lib.hid (Calls.quietB n.h (fun W hb => (KN _ _).out hb n.h) (T1 n.w).out)
      have D2 := fun n : Wd (GG w s t) => Lib.hid (Calls.quietB n.h (fun W hb => (KN _ _).out hb n.h) (T2 n.w).out)
      have D3 := fun n : Wd (GG w s t) => Lib.hid (Calls.quietB n.h (fun W hb => (KN _ _).out hb n.h) (T3 n.w).out)
      have D4 := fun n : Wd (GG w s t) => Lib.hid (Calls.quietB n.h (fun W hb => (KN _ _).out hb n.h) (T4 n.w).out)
      haveI : Nonempty (Wd (GG w s t)) := ⟨⟨_, S2.out⟩⟩
      go_wp2_with fail
      refine wp_region_in (GG w s t) S2d.out (by kernel_rfl) (by kernel_rfl) ?_
      repeat (go_big_quiet_step (first | with_reducible exact (D1 _).out | with_reducible exact (D2 _).out))
      refine wpQuiet_nil ?_
      intro v3 hv3
      have S3 : Hid (GG w s t v3) := hv3
      have S3d : Hid (GG w s t v3.drew) := (KN _ _).out (below_dr v3) hv3
      clear hv3 S2 S2d
      go_wp2_with fail
      refine wp_region_in (GG w s t) S3d.out (by kernel_rfl) (by kernel_rfl) ?_
      repeat (go_big_quiet_step (first | with_reducible exact (D3 _).out | with_reducible exact (D4 _).out))
      refine wpQuiet_nil ?_
      intro v4 hv4
      have S4 : Hid (GG w s t v4) := hv4
      clear hv4 S3 S3d f1 f2 f3 f4 f5 f6 f7 f8 D1 D2 D3 D4 this T1 T2 T3 T4 P1 P2
      obtain ⟨q1, q2, q3, q4, q5, q6, q7, q8, _, _⟩ := S4.out
      by_cases h1 : a = 0 ∧ b = 0
      · have hM1 : M = al := by rw [HM2.out, if_pos h1]
        obtain ⟨rfl, rfl⟩ := h1
        subst hM1
        clear HM2 w1 w2
        go_wp2_with fail
        refine (AL _).out.mono ?_
        rintro e v5 ⟨rfl, hb5⟩
        have S5 : Hid (GG w s t v5) := (KN _ _).out hb5 S4.out
        go_wp2_with fail
        go_ret
        exact ⟨rfl, S5.out.2.2.2.2.2.2.2.2.2⟩
      · by_cases h2 : a * b < 0 ∧ c * d < 0
        · have hM1 : M = 2 := by rw [HM2.out, if_neg h1, if_pos h2]
          subst hM1
          have h3 : ¬ a = 0 := fun e => by subst e; simp at h2
          have h4 := h2.1
          have h5 := h2.2
          clear HM2 h1 h2
          go_wp2_with fail
          go_ret
          exact ⟨rfl, S4.out.2.2.2.2.2.2.2.2.2⟩
        · have hM1 : M = if o1 || (o2 || (o3 || o4)) then 1 else 0 := by rw [HM2.out, if_neg h1, if_neg h2]
          have HM3 := Lib.hid hM1
          clear HM2 hM1
          have tri : (a = 0 ∧ ¬ b = 0) ∨ (¬ a = 0 ∧ a * b < 0 ∧ ¬ c * d < 0) ∨ (¬ a = 0 ∧ ¬ a * b < 0) := by
            by_cases e1 : a = 0
            · exact Or.inl ⟨e1, fun e2 => h1 ⟨e1, e2⟩⟩
            · by_cases e2 : a * b < 0
              · exact Or.inr (Or.inl ⟨e1, e2, fun e3 => h2 ⟨e2, e3⟩⟩)
              · exact Or.inr (Or.inr ⟨e1, e2⟩)
          clear h1 h2
          rcases tri with ⟨rfl, e2⟩ | ⟨e1, e2, e3⟩ | ⟨e1, e2⟩
          · go_wp2_with fail
            refine (O1 _).out.mono ?_
            rintro e v5 ⟨rfl, hb5⟩
            have S5 : Hid (GG w s t v5) := (KN _ _).out hb5 S4.out
            clear q1 q2 q3 q4 q5 q6 q7 q8 hb5 S4
            obtain ⟨q1, q2, q3, q4, q5, q6, q7, q8, _, _⟩ := S5.out
            cases o1
            · go_wp2_with fail
              refine (O2 _).out.mono ?_
              rintro e v6 ⟨rfl, hb6⟩
              have S6 : Hid (GG w s t v6) := (KN _ _).out hb6 S5.out
              clear q1 q2 q3 q4 q5 q6 q7 q8 hb6 S5
              obtain ⟨q1, q2, q3, q4, q5, q6, q7, q8, _, _⟩ := S6.out
              cases o2
              · go_wp2_with fail
                refine (O3 _).out.mono ?_
                rintro e v7 ⟨rfl, hb7⟩
                have S7 : Hid (GG w s t v7) := (KN _ _).out hb7 S6.out
                clear q1 q2 q3 q4 q5 q6 q7 q8 hb7 S6
                obtain ⟨q1, q2, q3, q4, q5, q6, q7, q8, _, _⟩ := S7.out
                cases o3
                · go_wp2_with fail
                  refine (O4 _).out.mono ?_
                  rintro e v8 ⟨rfl, hb8⟩
                  have S8 : Hid (GG w s t v8) := (KN _ _).out hb8 S7.out
                  clear q1 q2 q3 q4 q5 q6 q7 q8 hb8 S7
                  obtain ⟨q1, q2, q3, q4, q5, q6, q7, q8, _, _⟩ := S8.out
                  cases o4
                  · have hM4 : M = 0 := by rw [HM3.out]; simp
                    subst hM4
                    clear HM3
                    go_wp2_with fail
                    go_ret
                    exact ⟨rfl, S8.out.2.2.2.2.2.2.2.2.2⟩
                  · have hM4 : M = 1 := by rw [HM3.out]; simp
                    subst hM4
                    clear HM3
                    go_wp2_with fail
                    go_ret
                    exact ⟨rfl, S8.out.2.2.2.2.2.2.2.2.2⟩
                · have hM4 : M = 1 := by rw [HM3.out]; simp
                  subst hM4
                  clear HM3
                  go_wp2_with fail
                  go_ret
                  exact ⟨rfl, S7.out.2.2.2.2.2.2.2.2.2⟩
              · have hM4 : M = 1 := by rw [HM3.out]; simp
                subst hM4
                clear HM3
                go_wp2_with fail
                go_ret
                exact ⟨rfl, S6.out.2.2.2.2.2.2.2.2.2⟩
            · have hM4 : M = 1 := by rw [HM3.out]; simp
              subst hM4
              clear HM3
              go_wp2_with fail
              go_ret
              exact ⟨rfl, S5.out.2.2.2.2.2.2.2.2.2⟩
          · go_wp2_with fail
            refine (O1 _).out.mono ?_
            rintro e v5 ⟨rfl, hb5⟩
            have S5 : Hid (GG w s t v5) := (KN _ _).out hb5 S4.out
            clear q1 q2 q3 q4 q5 q6 q7 q8 hb5 S4
            obtain ⟨q1, q2, q3, q4, q5, q6, q7, q8, _, _⟩ := S5.out
            cases o1
            · go_wp2_with fail
              refine (O2 _).out.mono ?_
              rintro e v6 ⟨rfl, hb6⟩
              have S6 : Hid (GG w s t v6) := (KN _ _).out hb6 S5.out
              clear q1 q2 q3 q4 q5 q6 q7 q8 hb6 S5
              obtain ⟨q1, q2, q3, q4, q5, q6, q7, q8, _, _⟩ := S6.out
              cases o2
              · go_wp2_with fail
                refine (O3 _).out.mono ?_
                rintro e v7 ⟨rfl, hb7⟩
                have S7 : Hid (GG w s t v7) := (KN _ _).out hb7 S6.out
                clear q1 q2 q3 q4 q5 q6 q7 q8 hb7 S6
                obtain ⟨q1, q2, q3, q4, q5, q6, q7, q8, _, _⟩ := S7.out
                cases o3
                · go_wp2_with fail
                  refine (O4 _).out.mono ?_
                  rintro e v8 ⟨rfl, hb8⟩
                  have S8 : Hid (GG w s t v8) := (KN _ _).out hb8 S7.out
                  clear q1 q2 q3 q4 q5 q6 q7 q8 hb8 S7
                  obtain ⟨q1, q2, q3, q4, q5, q6, q7, q8, _, _⟩ := S8.out
                  cases o4
                  · have hM4 : M = 0 := by rw [HM3.out]; simp
                    subst hM4
                    clear HM3
                    go_wp2_with fail
                    go_ret
                    exact ⟨rfl, S8.out.2.2.2.2.2.2.2.2.2⟩
                  · have hM4 : M = 1 := by rw [HM3.out]; simp
                    subst hM4
                    clear HM3
                    go_wp2_with fail
                    go_ret
                    exact ⟨rfl, S8.out.2.2.2.2.2.2.2.2.2⟩
                · have hM4 : M = 1 := by rw [HM3.out]; simp
                  subst hM4
                  clear HM3
                  go_wp2_with fail
                  go_ret
                  exact ⟨rfl, S7.out.2.2.2.2.2.2.2.2.2⟩
              · have hM4 : M = 1 := by rw [HM3.out]; simp
                subst hM4
                clear HM3
                go_wp2_with fail
                go_ret
                exact ⟨rfl, S6.out.2.2.2.2.2.2.2.2.2⟩
            · have hM4 : M = 1 := by rw [HM3.out]; simp
              subst hM4
              clear HM3
              go_wp2_with fail
              go_ret
              exact ⟨rfl, S5.out.2.2.2.2.2.2.2.2.2⟩
          · go_wp2_with fail
            refine (O1 _).out.mono ?_
            rintro e v5 ⟨rfl, hb5⟩
            have S5 : Hid (GG w s t v5) := (KN _ _).out hb5 S4.out
            clear q1 q2 q3 q4 q5 q6 q7 q8 hb5 S4
            obtain ⟨q1, q2, q3, q4, q5, q6, q7, q8, _, _⟩ := S5.out
            cases o1
            · go_wp2_with fail
              refine (O2 _).out.mono ?_
              rintro e v6 ⟨rfl, hb6⟩
              have S6 : Hid (GG w s t v6) := (KN _ _).out hb6 S5.out
              clear q1 q2 q3 q4 q5 q6 q7 q8 hb6 S5
              obtain ⟨q1, q2, q3, q4, q5, q6, q7, q8, _, _⟩ := S6.out
              cases o2
              · go_wp2_with fail
                refine (O3 _).out.mono ?_
                rintro e v7 ⟨rfl, hb7⟩
                have S7 : Hid (GG w s t v7) := (KN _ _).out hb7 S6.out
                clear q1 q2 q3 q4 q5 q6 q7 q8 hb7 S6
                obtain ⟨q1, q2, q3, q4, q5, q6, q7, q8, _, _⟩ := S7.out
                cases o3
                · go_wp2_with fail
                  refine (O4 _).out.mono ?_
                  rintro e v8 ⟨rfl, hb8⟩
                  have S8 : Hid (GG w s t v8) := (KN _ _).out hb8 S7.out
                  clear q1 q2 q3 q4 q5 q6 q7 q8 hb8 S7
                  obtain ⟨q1, q2, q3, q4, q5, q6, q7, q8, _, _⟩ := S8.out
                  cases o4
                  · have hM4 : M = 0 := by rw [HM3.out]; simp
                    subst hM4
                    clear HM3
                    go_wp2_with fail
                    go_ret
                    exact ⟨rfl, S8.out.2.2.2.2.2.2.2.2.2⟩
                  · have hM4 : M = 1 := by rw [HM3.out]; simp
                    subst hM4
                    clear HM3
                    go_wp2_with fail
                    go_ret
                    exact ⟨rfl, S8.out.2.2.2.2.2.2.2.2.2⟩
                · have hM4 : M = 1 := by rw [HM3.out]; simp
                  subst hM4
                  clear HM3
                  go_wp2_with fail
                  go_ret
                  exact ⟨rfl, S7.out.2.2.2.2.2.2.2.2.2⟩
              · have hM4 : M = 1 := by rw [HM3.out]; simp
                subst hM4
                clear HM3
                go_wp2_with fail
                go_ret
                exact ⟨rfl, S6.out.2.2.2.2.2.2.2.2.2⟩
            · have hM4 : M = 1 := by rw [HM3.out]; simp
              subst hM4
              clear HM3
              go_wp2_with fail
              go_ret
              exact ⟨rfl, S5.out.2.2.2.2.2.2.2.2.2⟩
end Go.Proofs.Ytdefpcjlbganpaa
