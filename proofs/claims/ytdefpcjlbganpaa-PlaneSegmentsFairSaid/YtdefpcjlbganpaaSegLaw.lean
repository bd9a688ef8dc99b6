import Derived.Test.YtdefpcjlbganpaaSegMath
import Derived.WalkKit
import Derived.LoopTactic
import Derived.WalkSpells
import Derived.WalkLawsBesides
import Derived.Lib.Hide
import Derived.BigQuiet
import Derived.IntWalk
import Derived.Deep.DeepMust
import Derived.WalkSmall
import Derived.StillTailTactics
import Derived.Deep.RegionLaw
import Derived.Deep.RegionHeld3
import Derived.Deep.QuietTactic
namespace Go.Proofs.Ytdefpcjlbganpaa
open Go.RowKit Go.BigFrame
attribute [local go_sem] World.cell?_alloc_some
set_option maxRecDepth 100000 in
set_option maxHeartbeats 16000000 in
/-- The law of fair segments answers true. -/
theorem segLaw (s t : Sg) (w : World) :
   Calls Try.prog 11 #[s.v, t.v] w fun e w' => e = .returned (.bool true) ∧ Below w.heap.size w w' := by
  obtain ⟨M, hM⟩ : ∃ M, mtg s t = M := ⟨_, rfl⟩
  obtain ⟨z1, hz1⟩ : ∃ x, okG s = x := ⟨_, rfl⟩
  obtain ⟨z2, hz2⟩ : ∃ x, okG t = x := ⟨_, rfl⟩
  obtain ⟨o1, ho1⟩ : ∃ x, onS s t.a = x := ⟨_, rfl⟩
  obtain ⟨o2, ho2⟩ : ∃ x, onS s t.b = x := ⟨_, rfl⟩
  obtain ⟨o3, ho3⟩ : ∃ x, onS t s.a = x := ⟨_, rfl⟩
  obtain ⟨o4, ho4⟩ : ∃ x, onS t s.b = x := ⟨_, rfl⟩
  obtain ⟨x1, hx1⟩ : ∃ x, trn s.a s.b t.a = x := ⟨_, rfl⟩
  obtain ⟨x2, hx2⟩ : ∃ x, trn s.a s.b t.b = x := ⟨_, rfl⟩
  obtain ⟨y1, hy1⟩ : ∃ x, trn t.a t.b s.a = x := ⟨_, rfl⟩
  obtain ⟨y2, hy2⟩ : ∃ x, trn t.a t.b s.b = x := ⟨_, rfl⟩
  have M1 : ∀ W, Calls Try.prog 27 #[s.v, t.v] W fun e w' => e = .returned (.int .i64 M) ∧ Below W.heap.size W w' := fun W => by rw [← hM]; exact Meeting_any s t W
  have M2 : ∀ W, Calls Try.prog 27 #[t.v, s.v] W fun e w' => e = .returned (.int .i64 M) ∧ Below W.heap.size W w' := fun W => by rw [← hM, mtg_comm]; exact Meeting_any t s W
  have M3 : ∀ W, Calls Try.prog 27 #[(⟨s.b, s.a⟩ : Sg).v, t.v] W fun e w' => e = .returned (.int .i64 M) ∧ Below W.heap.size W w' := fun W => by rw [← hM, ← mtg_bk]; exact Meeting_any (bk s) t W
  have Z1 : ∀ W, Calls Try.prog 25 #[s.v, s.a.v] W fun e w' => e = .returned (.bool z1) ∧ Below W.heap.size W w' := fun W => by rw [← hz1, ← onS_a]; exact On_any s s.a W
  have Z2 : ∀ W, Calls Try.prog 25 #[t.v, t.a.v] W fun e w' => e = .returned (.bool z2) ∧ Below W.heap.size W w' := fun W => by rw [← hz2, ← onS_a]; exact On_any t t.a W
  have O1 : ∀ W, Calls Try.prog 25 #[s.v, t.a.v] W fun e w' => e = .returned (.bool o1) ∧ Below W.heap.size W w' := fun W => by rw [← ho1]; exact On_any s t.a W
  have O2 : ∀ W, Calls Try.prog 25 #[s.v, t.b.v] W fun e w' => e = .returned (.bool o2) ∧ Below W.heap.size W w' := fun W => by rw [← ho2]; exact On_any s t.b W
  have O3 : ∀ W, Calls Try.prog 25 #[t.v, s.a.v] W fun e w' => e = .returned (.bool o3) ∧ Below W.heap.size W w' := fun W => by rw [← ho3]; exact On_any t s.a W
  have O4 : ∀ W, Calls Try.prog 25 #[t.v, s.b.v] W fun e w' => e = .returned (.bool o4) ∧ Below W.heap.size W w' := fun W => by rw [← ho4]; exact On_any t s.b W
  have X1 : ∀ W, Calls Try.prog 19 #[s.a.v, s.b.v, t.a.v] W fun e w' => e = .returned (.int .i64 x1) ∧ Below W.heap.size W w' := fun W => by rw [← hx1]; exact Turn_any _ _ _ W
  have X2 : ∀ W, Calls Try.prog 19 #[s.a.v, s.b.v, t.b.v] W fun e w' => e = .returned (.int .i64 x2) ∧ Below W.heap.size W w' := fun W => by rw [← hx2]; exact Turn_any _ _ _ W
  have Y1 : ∀ W, Calls Try.prog 19 #[t.a.v, t.b.v, s.a.v] W fun e w' => e = .returned (.int .i64 y1) ∧ Below W.heap.size W w' := fun W => by rw [← hy1]; exact Turn_any _ _ _ W
  have Y2 : ∀ W, Calls Try.prog 19 #[t.a.v, t.b.v, s.b.v] W fun e w' => e = .returned (.int .i64 y2) ∧ Below W.heap.size W w' := fun W => by rw [← hy2]; exact Turn_any _ _ _ W
  have HA : Hid (z1 = false ∨ z2 = false → M = 0) := fun h => by rw [← hM]; rw [← hz1, ← hz2] at h; exact mtg_off h
  have HE : Hid (z1 = true → z2 = true → (o1 || (o2 || (o3 || o4))) = (decide (M = 1) || decide (M = 3))) := fun h1 h2 => by
    rw [← ho1, ← ho2, ← ho3, ← ho4, ← hM]; exact ends_onS (hz1.trans h1) (hz2.trans h2)
  have HR : Hid (0 ≤ M ∧ M ≤ 3) := by rw [← hM]; exact mtg_range s t
  have HS : Hid (M ≠ 0 → x1 * x2 ≤ 0 ∧ y1 * y2 ≤ 0) := fun h => by rw [← hM] at h; rw [← hx1, ← hx2, ← hy1, ← hy2]; exact mtg_sides h
  have HW : Hid (wrap64 (x1 * x2) = x1 * x2 ∧ wrap64 (y1 * y2) = y1 * y2) := ⟨trn_mul hx1 hx2, trn_mul hy1 hy2⟩
  clear hM hz1 hz2 ho1 ho2 ho3 ho4 hx1 hx2 hy1 hy2
  go_enter Try.func11, Try.ntmps11
  go_wp2_with fail
  obtain ⟨W0, hW0⟩ : ∃ W0, ((w).alloc (.cells #[.int .i64 s.a.x, .int .i64 s.a.y, .int .i64 s.b.x, .int .i64 s.b.y] 31)).alloc (.cells #[.int .i64 t.a.x, .int .i64 t.a.y, .int .i64 t.b.x, .int .i64 t.b.y] 31) = W0 := ⟨_, rfl⟩
  have S0 : St w W0 [(w.heap.size + 1, 0, .int .i64 t.a.x), (w.heap.size + 1, 1, .int .i64 t.a.y), (w.heap.size + 1, 2, .int .i64 t.b.x), (w.heap.size + 1, 3, .int .i64 t.b.y), (w.heap.size, 0, .int .i64 s.a.x), (w.heap.size, 1, .int .i64 s.a.y), (w.heap.size, 2, .int .i64 s.b.x), (w.heap.size, 3, .int .i64 s.b.y)] := by rw [← hW0]; exact (((St.nil w)).box #[.int .i64 s.a.x, .int .i64 s.a.y, .int .i64 s.b.x, .int .i64 s.b.y] 31 (w.heap.size) (by simp)).box #[.int .i64 t.a.x, .int .i64 t.a.y, .int .i64 t.b.x, .int .i64 t.b.y] 31 (w.heap.size + 1) (by simp)
  rw [hW0]
  clear hW0
  obtain ⟨C, hC0, HC, LC, BC, hne⟩ := cls S0
  haveI := hne
  obtain ⟨c0, rfl⟩ : ∃ n : Wd C, W0 = n.w := ⟨⟨_, hC0⟩, rfl⟩
  have fC0 : ∀ n : Wd C, n.w.cell? ⟨w.heap.size + 1, 0, none⟩ = some (.int .i64 t.a.x) := fun n => (LC.out n).1.2.1
  have fC1 : ∀ n : Wd C, n.w.cell? ⟨w.heap.size + 1, 1, none⟩ = some (.int .i64 t.a.y) := fun n => (LC.out n).2.1.2.1
  have fC2 : ∀ n : Wd C, n.w.cell? ⟨w.heap.size + 1, 2, none⟩ = some (.int .i64 t.b.x) := fun n => (LC.out n).2.2.1.2.1
  have fC3 : ∀ n : Wd C, n.w.cell? ⟨w.heap.size + 1, 3, none⟩ = some (.int .i64 t.b.y) := fun n => (LC.out n).2.2.2.1.2.1
  have fC4 : ∀ n : Wd C, n.w.cell? ⟨w.heap.size, 0, none⟩ = some (.int .i64 s.a.x) := fun n => (LC.out n).2.2.2.2.1.2.1
  have fC5 : ∀ n : Wd C, n.w.cell? ⟨w.heap.size, 1, none⟩ = some (.int .i64 s.a.y) := fun n => (LC.out n).2.2.2.2.2.1.2.1
  have fC6 : ∀ n : Wd C, n.w.cell? ⟨w.heap.size, 2, none⟩ = some (.int .i64 s.b.x) := fun n => (LC.out n).2.2.2.2.2.2.1.2.1
  have fC7 : ∀ n : Wd C, n.w.cell? ⟨w.heap.size, 3, none⟩ = some (.int .i64 s.b.y) := fun n => (LC.out n).2.2.2.2.2.2.2.1.2.1
  clear S0 hC0
  have D1 := cin HC M1
  go_wp2_with (first | (go_at_call 27; with_reducible refine (D1 _).out.mono ?_; rintro e w' ⟨rfl, n, rfl⟩))
  obtain ⟨W0, hW0⟩ : ∃ W0, (n.w).alloc (.cells #[.int .i64 (s.b.x), .int .i64 (s.b.y), .int .i64 (s.a.x), .int .i64 (s.a.y)] 31) = W0 := ⟨_, rfl⟩
  have S0 : St w W0 [(n.w.heap.size, 0, .int .i64 (s.b.x)), (n.w.heap.size, 1, .int .i64 (s.b.y)), (n.w.heap.size, 2, .int .i64 (s.a.x)), (n.w.heap.size, 3, .int .i64 (s.a.y)), (w.heap.size + 1, 0, .int .i64 t.a.x), (w.heap.size + 1, 1, .int .i64 t.a.y), (w.heap.size + 1, 2, .int .i64 t.b.x), (w.heap.size + 1, 3, .int .i64 t.b.y), (w.heap.size, 0, .int .i64 s.a.x), (w.heap.size, 1, .int .i64 s.a.y), (w.heap.size, 2, .int .i64 s.b.x), (w.heap.size, 3, .int .i64 s.b.y)] := by rw [← hW0]; exact ((⟨BC.out n, LC.out n⟩ : St w n.w _)).box #[.int .i64 (s.b.x), .int .i64 (s.b.y), .int .i64 (s.a.x), .int .i64 (s.a.y)] 31 (n.w.heap.size) (by simp)
  rw [hW0]
  clear hW0
  obtain ⟨kD, hkk⟩ : ∃ k, n.w.heap.size = k := ⟨_, rfl⟩
  rw [hkk] at S0 ⊢
  clear hkk
  obtain ⟨D, hC0, HD, LD, BD, hne⟩ := cls S0
  haveI := hne
  obtain ⟨d0, rfl⟩ : ∃ n : Wd D, W0 = n.w := ⟨⟨_, hC0⟩, rfl⟩
  have fD0 : ∀ n : Wd D, n.w.cell? ⟨kD, 0, none⟩ = some (.int .i64 (s.b.x)) := fun n => (LD.out n).1.2.1
  have fD1 : ∀ n : Wd D, n.w.cell? ⟨kD, 1, none⟩ = some (.int .i64 (s.b.y)) := fun n => (LD.out n).2.1.2.1
  have fD2 : ∀ n : Wd D, n.w.cell? ⟨kD, 2, none⟩ = some (.int .i64 (s.a.x)) := fun n => (LD.out n).2.2.1.2.1
  have fD3 : ∀ n : Wd D, n.w.cell? ⟨kD, 3, none⟩ = some (.int .i64 (s.a.y)) := fun n => (LD.out n).2.2.2.1.2.1
  have fD4 : ∀ n : Wd D, n.w.cell? ⟨w.heap.size + 1, 0, none⟩ = some (.int .i64 t.a.x) := fun n => (LD.out n).2.2.2.2.1.2.1
  have fD5 : ∀ n : Wd D, n.w.cell? ⟨w.heap.size + 1, 1, none⟩ = some (.int .i64 t.a.y) := fun n => (LD.out n).2.2.2.2.2.1.2.1
  have fD6 : ∀ n : Wd D, n.w.cell? ⟨w.heap.size + 1, 2, none⟩ = some (.int .i64 t.b.x) := fun n => (LD.out n).2.2.2.2.2.2.1.2.1
  have fD7 : ∀ n : Wd D, n.w.cell? ⟨w.heap.size + 1, 3, none⟩ = some (.int .i64 t.b.y) := fun n => (LD.out n).2.2.2.2.2.2.2.1.2.1
  have fD8 : ∀ n : Wd D, n.w.cell? ⟨w.heap.size, 0, none⟩ = some (.int .i64 s.a.x) := fun n => (LD.out n).2.2.2.2.2.2.2.2.1.2.1
  have fD9 : ∀ n : Wd D, n.w.cell? ⟨w.heap.size, 1, none⟩ = some (.int .i64 s.a.y) := fun n => (LD.out n).2.2.2.2.2.2.2.2.2.1.2.1
  have fD10 : ∀ n : Wd D, n.w.cell? ⟨w.heap.size, 2, none⟩ = some (.int .i64 s.b.x) := fun n => (LD.out n).2.2.2.2.2.2.2.2.2.2.1.2.1
  have fD11 : ∀ n : Wd D, n.w.cell? ⟨w.heap.size, 3, none⟩ = some (.int .i64 s.b.y) := fun n => (LD.out n).2.2.2.2.2.2.2.2.2.2.2.1.2.1
  clear S0 hC0
  clear D1
  have E2 := cin HD M2
  have E3 := cin HD M3
  have EZ1 := cin HD Z1
  have EZ2 := cin HD Z2
  have EO1 := cin HD O1
  have EO2 := cin HD O2
  have EO3 := cin HD O3
  have EO4 := cin HD O4
  have EX1 := cin HD X1
  have EX2 := cin HD X2
  have EY1 := cin HD Y1
  have EY2 := cin HD Y2
  have DS := cin HD sanity_any
  clear M1 M2 M3 Z1 Z2 O1 O2 O3 O4 X1 X2 Y1 Y2
  go_wp2_with (first | (go_at_call 27; with_reducible refine (E2 _).out.mono ?_; rintro e w' ⟨rfl, n, rfl⟩) | (go_at_call 27; with_reducible refine (E3 _).out.mono ?_; rintro e w' ⟨rfl, n, rfl⟩))
  clear E2 E3
  by_cases hM0 : M = 0
  · subst hM0
    clear HS HR HA HW
    refine wp_region_in D (HD.out _ _ (Wd.h _) (below_dr _)) (by kernel_rfl) (by kernel_rfl) ?_
    repeat (go_big_quiet_step (first | with_reducible exact (EX1 _).out))
    refine wpQuiet_nil ?_
    intro wx hwx
    obtain ⟨n1, rfl⟩ : ∃ n : Wd D, wx = n.w := ⟨⟨wx, hwx⟩, rfl⟩
    clear hwx
    clear EX1 EX2 EY1 EY2
    cases z1
    · go_wp2_with (first | (go_at_call 25; with_reducible refine (EZ1 _).out.mono ?_; rintro e w' ⟨rfl, n, rfl⟩) | (go_at_call 25; with_reducible refine (EZ2 _).out.mono ?_; rintro e w' ⟨rfl, n, rfl⟩) | (go_at_call 25; with_reducible refine (EO1 _).out.mono ?_; rintro e w' ⟨rfl, n, rfl⟩) | (go_at_call 25; with_reducible refine (EO2 _).out.mono ?_; rintro e w' ⟨rfl, n, rfl⟩) | (go_at_call 25; with_reducible refine (EO3 _).out.mono ?_; rintro e w' ⟨rfl, n, rfl⟩) | (go_at_call 25; with_reducible refine (EO4 _).out.mono ?_; rintro e w' ⟨rfl, n, rfl⟩) | (go_at_call 16; with_reducible refine (DS _).out.mono ?_; rintro e w' ⟨rfl, n, rfl⟩))
      all_goals (go_ret; exact ⟨rfl, BD.out _⟩)
    · cases z2
      · go_wp2_with (first | (go_at_call 25; with_reducible refine (EZ1 _).out.mono ?_; rintro e w' ⟨rfl, n, rfl⟩) | (go_at_call 25; with_reducible refine (EZ2 _).out.mono ?_; rintro e w' ⟨rfl, n, rfl⟩) | (go_at_call 25; with_reducible refine (EO1 _).out.mono ?_; rintro e w' ⟨rfl, n, rfl⟩) | (go_at_call 25; with_reducible refine (EO2 _).out.mono ?_; rintro e w' ⟨rfl, n, rfl⟩) | (go_at_call 25; with_reducible refine (EO3 _).out.mono ?_; rintro e w' ⟨rfl, n, rfl⟩) | (go_at_call 25; with_reducible refine (EO4 _).out.mono ?_; rintro e w' ⟨rfl, n, rfl⟩) | (go_at_call 16; with_reducible refine (DS _).out.mono ?_; rintro e w' ⟨rfl, n, rfl⟩))
        all_goals (go_ret; exact ⟨rfl, BD.out _⟩)
      · have ho : o1 = false ∧ o2 = false ∧ o3 = false ∧ o4 = false := by simpa using HE.out rfl rfl
        obtain ⟨rfl, rfl, rfl, rfl⟩ := ho
        go_wp2_with (first | (go_at_call 25; with_reducible refine (EZ1 _).out.mono ?_; rintro e w' ⟨rfl, n, rfl⟩) | (go_at_call 25; with_reducible refine (EZ2 _).out.mono ?_; rintro e w' ⟨rfl, n, rfl⟩) | (go_at_call 25; with_reducible refine (EO1 _).out.mono ?_; rintro e w' ⟨rfl, n, rfl⟩) | (go_at_call 25; with_reducible refine (EO2 _).out.mono ?_; rintro e w' ⟨rfl, n, rfl⟩) | (go_at_call 25; with_reducible refine (EO3 _).out.mono ?_; rintro e w' ⟨rfl, n, rfl⟩) | (go_at_call 25; with_reducible refine (EO4 _).out.mono ?_; rintro e w' ⟨rfl, n, rfl⟩) | (go_at_call 16; with_reducible refine (DS _).out.mono ?_; rintro e w' ⟨rfl, n, rfl⟩))
        all_goals (go_ret; exact ⟨rfl, BD.out _⟩)
  · have hz1 : z1 = true := by
      cases z1
      · exact absurd (HA.out (.inl rfl)) hM0
      · rfl
    have hz2 : z2 = true := by
      cases z2
      · exact absurd (HA.out (.inr rfl)) hM0
      · rfl
    subst hz1 hz2
    obtain ⟨hw1, hw2⟩ := HW.out
    obtain ⟨hs1, hs2⟩ := HS.out hM0
    have hM123 : M = 1 ∨ M = 2 ∨ M = 3 := by have := HR.out; omega
    have HE2 := Lib.hid (HE.out rfl rfl)
    have hb : (M != 0) = true := by simpa using hM0
    have hd1 : decide (0 < x1 * x2) = false := by simp; omega
    have hd2 : decide (0 < y1 * y2) = false := by simp; omega
    clear HS HR HA HW HE
    refine wp_region_in D (HD.out _ _ (Wd.h _) (below_dr _)) (by kernel_rfl) (by kernel_rfl) ?_
    repeat (go_big_quiet_step (first | with_reducible exact (EX1 _).out | with_reducible exact (EX2 _).out | with_reducible exact (EY1 _).out | with_reducible exact (EY2 _).out))
    refine wpQuiet_nil ?_
    intro wx hwx
    obtain ⟨n1, rfl⟩ : ∃ n : Wd D, wx = n.w := ⟨⟨wx, hwx⟩, rfl⟩
    clear hwx
    clear EX1 EX2 EY1 EY2 hs1 hs2 hw1 hw2 hM0 hb hd1 hd2
    rcases hM123 with rfl | rfl | rfl
    · have ho : o1 = true ∨ (o1 = false ∧ o2 = true) ∨ (o1 = false ∧ o2 = false ∧ o3 = true) ∨ (o1 = false ∧ o2 = false ∧ o3 = false ∧ o4 = true) := by
        have := HE2.out
        cases o1 <;> cases o2 <;> cases o3 <;> cases o4 <;> simp_all
      clear HE2
      rcases ho with rfl | ⟨rfl, rfl⟩ | ⟨rfl, rfl, rfl⟩ | ⟨rfl, rfl, rfl, rfl⟩
      all_goals
        go_wp2_with (first | (go_at_call 25; with_reducible refine (EZ1 _).out.mono ?_; rintro e w' ⟨rfl, n, rfl⟩) | (go_at_call 25; with_reducible refine (EZ2 _).out.mono ?_; rintro e w' ⟨rfl, n, rfl⟩) | (go_at_call 25; with_reducible refine (EO1 _).out.mono ?_; rintro e w' ⟨rfl, n, rfl⟩) | (go_at_call 25; with_reducible refine (EO2 _).out.mono ?_; rintro e w' ⟨rfl, n, rfl⟩) | (go_at_call 25; with_reducible refine (EO3 _).out.mono ?_; rintro e w' ⟨rfl, n, rfl⟩) | (go_at_call 25; with_reducible refine (EO4 _).out.mono ?_; rintro e w' ⟨rfl, n, rfl⟩) | (go_at_call 16; with_reducible refine (DS _).out.mono ?_; rintro e w' ⟨rfl, n, rfl⟩))
        all_goals (go_ret; exact ⟨rfl, BD.out _⟩)
    · have ho : o1 = false ∧ o2 = false ∧ o3 = false ∧ o4 = false := by
        have := HE2.out
        cases o1 <;> cases o2 <;> cases o3 <;> cases o4 <;> simp_all
      clear HE2
      obtain ⟨rfl, rfl, rfl, rfl⟩ := ho
      go_wp2_with (first | (go_at_call 25; with_reducible refine (EZ1 _).out.mono ?_; rintro e w' ⟨rfl, n, rfl⟩) | (go_at_call 25; with_reducible refine (EZ2 _).out.mono ?_; rintro e w' ⟨rfl, n, rfl⟩) | (go_at_call 25; with_reducible refine (EO1 _).out.mono ?_; rintro e w' ⟨rfl, n, rfl⟩) | (go_at_call 25; with_reducible refine (EO2 _).out.mono ?_; rintro e w' ⟨rfl, n, rfl⟩) | (go_at_call 25; with_reducible refine (EO3 _).out.mono ?_; rintro e w' ⟨rfl, n, rfl⟩) | (go_at_call 25; with_reducible refine (EO4 _).out.mono ?_; rintro e w' ⟨rfl, n, rfl⟩) | (go_at_call 16; with_reducible refine (DS _).out.mono ?_; rintro e w' ⟨rfl, n, rfl⟩))
      all_goals (go_ret; exact ⟨rfl, BD.out _⟩)
    · have ho : o1 = true ∨ (o1 = false ∧ o2 = true) ∨ (o1 = false ∧ o2 = false ∧ o3 = true) ∨ (o1 = false ∧ o2 = false ∧ o3 = false ∧ o4 = true) := by
        have := HE2.out
        cases o1 <;> cases o2 <;> cases o3 <;> cases o4 <;> simp_all
      clear HE2
      rcases ho with rfl | ⟨rfl, rfl⟩ | ⟨rfl, rfl, rfl⟩ | ⟨rfl, rfl, rfl, rfl⟩
      all_goals
        go_wp2_with (first | (go_at_call 25; with_reducible refine (EZ1 _).out.mono ?_; rintro e w' ⟨rfl, n, rfl⟩) | (go_at_call 25; with_reducible refine (EZ2 _).out.mono ?_; rintro e w' ⟨rfl, n, rfl⟩) | (go_at_call 25; with_reducible refine (EO1 _).out.mono ?_; rintro e w' ⟨rfl, n, rfl⟩) | (go_at_call 25; with_reducible refine (EO2 _).out.mono ?_; rintro e w' ⟨rfl, n, rfl⟩) | (go_at_call 25; with_reducible refine (EO3 _).out.mono ?_; rintro e w' ⟨rfl, n, rfl⟩) | (go_at_call 25; with_reducible refine (EO4 _).out.mono ?_; rintro e w' ⟨rfl, n, rfl⟩) | (go_at_call 16; with_reducible refine (DS _).out.mono ?_; rintro e w' ⟨rfl, n, rfl⟩))
        all_goals (go_ret; exact ⟨rfl, BD.out _⟩)
end Go.Proofs.Ytdefpcjlbganpaa
