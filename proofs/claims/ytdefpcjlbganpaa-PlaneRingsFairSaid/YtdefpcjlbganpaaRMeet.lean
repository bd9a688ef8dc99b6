import Derived.Test.YtdefpcjlbganpaaOwn
import Derived.Test.YtdefpcjlbganpaaSegMath2
import Derived.WalkKit
import Derived.LoopTactic
import Derived.WalkSpells
import Derived.WalkLawsBesides
import Derived.Lib.Hide
import Derived.BigQuiet
import Derived.IntWalk
import Derived.Deep.DeepMust
import Derived.WalkSmall
import Derived.StillTailTactics
import Derived.Deep.RegionLaw
import Derived.Deep.RegionHeld3
import Derived.Deep.QuietTactic
import Derived.Deep.DeepCutAuto
import Derived.Laws.AppendOwn
import Derived.Deep.CutBlock
namespace Go.Proofs.Ytdefpcjlbganpaa
open Go.RowKit Go.BigFrame
attribute [local go_sem] World.cell?_alloc_some
set_option maxHeartbeats 1000000 in
theorem between_any (a b p : Pt) (w : World) :
   Calls Try.prog 135 #[a.v, b.v, p.v] w fun e w' => e = .returned (.bool ((decide (min a.x b.x ≤ p.x) && decide (p.x ≤ max a.x b.x)) && (decide (min a.y b.y ≤ p.y) && decide (p.y ≤ max a.y b.y)))) ∧ Below w.heap.size w w' := by
  obtain ⟨r, hr⟩ : ∃ r, Hid (((decide (min a.x b.x ≤ p.x) && decide (p.x ≤ max a.x b.x)) && (decide (min a.y b.y ≤ p.y) && decide (p.y ≤ max a.y b.y))) = r) := ⟨_, rfl⟩
  rw [hr.out]
  go_enter Try.func135, Try.ntmps135
  go_wp2_with (go_at_call 77; refine (rwithin_any _ _ _ _).mono ?_; rintro e w' ⟨rfl, rfl⟩)
  all_goals
    go_ret
    refine ⟨ret_bool ?_, ((((St.nil w).al _).al _).al _).b⟩
    rw [← hr.out, Bool.eq_iff_iff]
    simp at *
    omega
set_option maxRecDepth 100000 in
set_option maxHeartbeats 1000000 in
theorem ron_any (a b p : Pt) (w : World) (ha : okP a = true) (hb : okP b = true) (hp : okP p = true) :
   Calls Try.prog 88 #[a.v, b.v, p.v] w fun e w' => e = .returned (.bool (onR a b p)) ∧ Below w.heap.size w w' := by
  have C1 := fun W => between_any a b p W
  have C2 := fun W => twice_any a b p W ha hb hp
  unfold onR
  obtain ⟨u, hu⟩ : ∃ x, ((decide (min a.x b.x ≤ p.x) && decide (p.x ≤ max a.x b.x)) && (decide (min a.y b.y ≤ p.y) && decide (p.y ≤ max a.y b.y))) = x := ⟨_, rfl⟩
  obtain ⟨t, ht⟩ : ∃ x, ar a b p = x := ⟨_, rfl⟩
  simp only [hu] at C1 ⊢
  simp only [ht] at C2 ⊢
  clear hu ht
  go_enter Try.func88, Try.ntmps88
  go_wp2_with fail
  obtain ⟨W0, hW0⟩ : ∃ W0, (((w).alloc (.cells #[.int .i64 a.x, .int .i64 a.y] 23)).alloc (.cells #[.int .i64 b.x, .int .i64 b.y] 23)).alloc (.cells #[.int .i64 p.x, .int .i64 p.y] 23) = W0 := ⟨_, rfl⟩
  have S0 : St w W0 [(w.heap.size + 1 + 1, 0, .int .i64 p.x), (w.heap.size + 1 + 1, 1, .int .i64 p.y), (w.heap.size + 1, 0, .int .i64 b.x), (w.heap.size + 1, 1, .int .i64 b.y), (w.heap.size, 0, .int .i64 a.x), (w.heap.size, 1, .int .i64 a.y)] := by rw [← hW0]; exact ((((St.nil w)).box #[.int .i64 a.x, .int .i64 a.y] 23 (w.heap.size) (by simp)).box #[.int .i64 b.x, .int .i64 b.y] 23 (w.heap.size + 1) (by simp)).box #[.int .i64 p.x, .int .i64 p.y] 23 (w.heap.size + 1 + 1) (by simp)
  rw [hW0]
  clear hW0
  obtain ⟨C, hC0, HC, LC, BC, hne⟩ := cls S0
  haveI := hne
  obtain ⟨c0, rfl⟩ : ∃ n : Wd C, W0 = n.w := ⟨⟨_, hC0⟩, rfl⟩
  have fC0 : ∀ n : Wd C, n.w.cell? ⟨w.heap.size + 1 + 1, 0, none⟩ = some (.int .i64 p.x) := fun n => (LC.out n).1.2.1
  have fC1 : ∀ n : Wd C, n.w.cell? ⟨w.heap.size + 1 + 1, 1, none⟩ = some (.int .i64 p.y) := fun n => (LC.out n).2.1.2.1
  have fC2 : ∀ n : Wd C, n.w.cell? ⟨w.heap.size + 1, 0, none⟩ = some (.int .i64 b.x) := fun n => (LC.out n).2.2.1.2.1
  have fC3 : ∀ n : Wd C, n.w.cell? ⟨w.heap.size + 1, 1, none⟩ = some (.int .i64 b.y) := fun n => (LC.out n).2.2.2.1.2.1
  have fC4 : ∀ n : Wd C, n.w.cell? ⟨w.heap.size, 0, none⟩ = some (.int .i64 a.x) := fun n => (LC.out n).2.2.2.2.1.2.1
  have fC5 : ∀ n : Wd C, n.w.cell? ⟨w.heap.size, 1, none⟩ = some (.int .i64 a.y) := fun n => (LC.out n).2.2.2.2.2.1.2.1
  clear S0 hC0
  have D1 := cin HC C1
  have D2 := cin HC C2
  clear C1 C2
  cases u
  all_goals
    go_wp2_with (first | (go_at_call 135; with_reducible refine (D1 _).out.mono ?_; rintro e w' ⟨rfl, n, rfl⟩) | (go_at_call 82; with_reducible refine (D2 _).out.mono ?_; rintro e w' ⟨rfl, n, rfl⟩))
    go_ret
    exact ⟨ret_bool (by first | rfl | (rw [Bool.eq_iff_iff]; simp)), BC.out _⟩
set_option maxRecDepth 100000 in
set_option maxHeartbeats 1000000 in
theorem rproper_any (s : Sg) (w : World) :
   Calls Try.prog 87 #[s.v] w fun e w' => e = .returned (.bool (okG s)) ∧ Below w.heap.size w w' := by
  have CV := fun p cap W h => Lib.hid (valid_any p cap [s.a, s.b] W (by simp) h)
  obtain ⟨v, hv⟩ : ∃ v, Hid ([s.a, s.b].all okP = v) := ⟨_, rfl⟩
  rw [hv.out] at CV
  have HV : Hid (okG s = (v && decide (s.a ≠ s.b))) := by unfold Hid; rw [← hv.out]; simp [okG, Bool.and_assoc]
  clear hv
  go_enter Try.func87, Try.ntmps87
  go_wp2_with fail
  refine (CV _ _ _ (pts2 _ _ (by simp) s.a s.b 23)).out.mono ?_
  rintro e w1 ⟨rfl, hb1⟩
  have S1 := Lib.hid ((((St.nil w).boxG s 31 _ rfl).al _).next hb1)
  obtain ⟨_, ⟨_, p1, _⟩, ⟨_, p2, _⟩, ⟨_, p3, _⟩, ⟨_, p4, _⟩, _⟩ := S1.out
  clear hb1 CV
  cases v
  · go_wp2_with fail
    go_ret
    exact ⟨ret_bool (by rw [HV.out]; rfl), S1.out.b⟩
  · go_wp2_with fail
    all_goals (go_ret; refine ⟨ret_bool ?_, S1.out.b⟩; rw [HV.out, pt_bne]; simp [*])
set_option maxRecDepth 100000 in
set_option maxHeartbeats 1000000 in
theorem rOn_any (s : Sg) (p : Pt) (w : World) :
   Calls Try.prog 26 #[s.v, p.v] w fun e w' => e = .returned (.bool (onS s p)) ∧ Below w.heap.size w w' := by
  have C1 := fun W => rproper_any s W
  have C2 := fun W => rValid_any p W
  by_cases hs : okG s = true
  · by_cases hp : okP p = true
    · obtain ⟨h1, h2, _⟩ := okG_iff.1 hs
      have C3 := fun W => ron_any s.a s.b p W h1 h2 hp
      have e : onS s p = onR s.a s.b p := by
        rw [Bool.eq_iff_iff, onS_iff]
        exact ⟨fun h => onR_iff.2 h.2, fun h => ⟨hs, onR_iff.1 h⟩⟩
      rw [e]
      obtain ⟨r, hr⟩ : ∃ r, onR s.a s.b p = r := ⟨_, rfl⟩
      simp only [hr, hs, hp] at C1 C2 C3 ⊢
      clear hr hs hp h1 h2 e
      go_enter Try.func26, Try.ntmps26
      go_wp2_with fail
      obtain ⟨W0, hW0⟩ : ∃ W0, ((w).alloc (.cells #[.int .i64 s.a.x, .int .i64 s.a.y, .int .i64 s.b.x, .int .i64 s.b.y] 31)).alloc (.cells #[.int .i64 p.x, .int .i64 p.y] 23) = W0 := ⟨_, rfl⟩
      have S0 : St w W0 [(w.heap.size + 1, 0, .int .i64 p.x), (w.heap.size + 1, 1, .int .i64 p.y), (w.heap.size, 0, .int .i64 s.a.x), (w.heap.size, 1, .int .i64 s.a.y), (w.heap.size, 2, .int .i64 s.b.x), (w.heap.size, 3, .int .i64 s.b.y)] := by rw [← hW0]; exact (((St.nil w)).box #[.int .i64 s.a.x, .int .i64 s.a.y, .int .i64 s.b.x, .int .i64 s.b.y] 31 (w.heap.size) (by simp)).box #[.int .i64 p.x, .int .i64 p.y] 23 (w.heap.size + 1) (by simp)
      rw [hW0]
      clear hW0
      obtain ⟨C, hC0, HC, LC, BC, hne⟩ := cls S0
      haveI := hne
      obtain ⟨c0, rfl⟩ : ∃ n : Wd C, W0 = n.w := ⟨⟨_, hC0⟩, rfl⟩
      have fC0 : ∀ n : Wd C, n.w.cell? ⟨w.heap.size + 1, 0, none⟩ = some (.int .i64 p.x) := fun n => (LC.out n).1.2.1
      have fC1 : ∀ n : Wd C, n.w.cell? ⟨w.heap.size + 1, 1, none⟩ = some (.int .i64 p.y) := fun n => (LC.out n).2.1.2.1
      have fC2 : ∀ n : Wd C, n.w.cell? ⟨w.heap.size, 0, none⟩ = some (.int .i64 s.a.x) := fun n => (LC.out n).2.2.1.2.1
      have fC3 : ∀ n : Wd C, n.w.cell? ⟨w.heap.size, 1, none⟩ = some (.int .i64 s.a.y) := fun n => (LC.out n).2.2.2.1.2.1
      have fC4 : ∀ n : Wd C, n.w.cell? ⟨w.heap.size, 2, none⟩ = some (.int .i64 s.b.x) := fun n => (LC.out n).2.2.2.2.1.2.1
      have fC5 : ∀ n : Wd C, n.w.cell? ⟨w.heap.size, 3, none⟩ = some (.int .i64 s.b.y) := fun n => (LC.out n).2.2.2.2.2.1.2.1
      clear S0 hC0
      have D1 := cin HC C1
      have D2 := cin HC C2
      have D3 := cin HC C3
      clear C1 C2 C3
      go_wp2_with (first | (go_at_call 87; with_reducible refine (D1 _).out.mono ?_; rintro e w' ⟨rfl, n, rfl⟩) | (go_at_call 18; with_reducible refine (D2 _).out.mono ?_; rintro e w' ⟨rfl, n, rfl⟩) | (go_at_call 88; with_reducible refine (D3 _).out.mono ?_; rintro e w' ⟨rfl, n, rfl⟩))
      go_ret
      exact ⟨ret_bool rfl, BC.out _⟩
    · have hp : okP p = false := by simpa using hp
      have e : onS s p = false := by
        cases h : onS s p
        · rfl
        · obtain ⟨hg, hl⟩ := onS_iff.1 h
          obtain ⟨h1, h2, _⟩ := okG_iff.1 hg
          rw [onL_ok hl h1 h2] at hp; cases hp
      rw [e]
      simp only [hp, hs] at C1 C2
      clear hp hs e
      go_enter Try.func26, Try.ntmps26
      go_wp2_with fail
      obtain ⟨W0, hW0⟩ : ∃ W0, ((w).alloc (.cells #[.int .i64 s.a.x, .int .i64 s.a.y, .int .i64 s.b.x, .int .i64 s.b.y] 31)).alloc (.cells #[.int .i64 p.x, .int .i64 p.y] 23) = W0 := ⟨_, rfl⟩
      have S0 : St w W0 [(w.heap.size + 1, 0, .int .i64 p.x), (w.heap.size + 1, 1, .int .i64 p.y), (w.heap.size, 0, .int .i64 s.a.x), (w.heap.size, 1, .int .i64 s.a.y), (w.heap.size, 2, .int .i64 s.b.x), (w.heap.size, 3, .int .i64 s.b.y)] := by rw [← hW0]; exact (((St.nil w)).box #[.int .i64 s.a.x, .int .i64 s.a.y, .int .i64 s.b.x, .int .i64 s.b.y] 31 (w.heap.size) (by simp)).box #[.int .i64 p.x, .int .i64 p.y] 23 (w.heap.size + 1) (by simp)
      rw [hW0]
      clear hW0
      obtain ⟨C, hC0, HC, LC, BC, hne⟩ := cls S0
      haveI := hne
      obtain ⟨c0, rfl⟩ : ∃ n : Wd C, W0 = n.w := ⟨⟨_, hC0⟩, rfl⟩
      have fC0 : ∀ n : Wd C, n.w.cell? ⟨w.heap.size + 1, 0, none⟩ = some (.int .i64 p.x) := fun n => (LC.out n).1.2.1
      have fC1 : ∀ n : Wd C, n.w.cell? ⟨w.heap.size + 1, 1, none⟩ = some (.int .i64 p.y) := fun n => (LC.out n).2.1.2.1
      have fC2 : ∀ n : Wd C, n.w.cell? ⟨w.heap.size, 0, none⟩ = some (.int .i64 s.a.x) := fun n => (LC.out n).2.2.1.2.1
      have fC3 : ∀ n : Wd C, n.w.cell? ⟨w.heap.size, 1, none⟩ = some (.int .i64 s.a.y) := fun n => (LC.out n).2.2.2.1.2.1
      have fC4 : ∀ n : Wd C, n.w.cell? ⟨w.heap.size, 2, none⟩ = some (.int .i64 s.b.x) := fun n => (LC.out n).2.2.2.2.1.2.1
      have fC5 : ∀ n : Wd C, n.w.cell? ⟨w.heap.size, 3, none⟩ = some (.int .i64 s.b.y) := fun n => (LC.out n).2.2.2.2.2.1.2.1
      clear S0 hC0
      have D1 := cin HC C1
      have D2 := cin HC C2
      clear C1 C2
      go_wp2_with (first | (go_at_call 87; with_reducible refine (D1 _).out.mono ?_; rintro e w' ⟨rfl, n, rfl⟩) | (go_at_call 18; with_reducible refine (D2 _).out.mono ?_; rintro e w' ⟨rfl, n, rfl⟩))
      go_ret
      exact ⟨ret_bool rfl, BC.out _⟩
  · have hs : okG s = false := by simpa using hs
    have e : onS s p = false := by unfold onS; rw [hs]; rfl
    rw [e]
    obtain ⟨r, hr⟩ : ∃ r, okP p = r := ⟨_, rfl⟩
    simp only [hs, hr] at C1 C2
    clear hs e hr
    go_enter Try.func26, Try.ntmps26
    go_wp2_with fail
    obtain ⟨W0, hW0⟩ : ∃ W0, ((w).alloc (.cells #[.int .i64 s.a.x, .int .i64 s.a.y, .int .i64 s.b.x, .int .i64 s.b.y] 31)).alloc (.cells #[.int .i64 p.x, .int .i64 p.y] 23) = W0 := ⟨_, rfl⟩
    have S0 : St w W0 [(w.heap.size + 1, 0, .int .i64 p.x), (w.heap.size + 1, 1, .int .i64 p.y), (w.heap.size, 0, .int .i64 s.a.x), (w.heap.size, 1, .int .i64 s.a.y), (w.heap.size, 2, .int .i64 s.b.x), (w.heap.size, 3, .int .i64 s.b.y)] := by rw [← hW0]; exact (((St.nil w)).box #[.int .i64 s.a.x, .int .i64 s.a.y, .int .i64 s.b.x, .int .i64 s.b.y] 31 (w.heap.size) (by simp)).box #[.int .i64 p.x, .int .i64 p.y] 23 (w.heap.size + 1) (by simp)
    rw [hW0]
    clear hW0
    obtain ⟨C, hC0, HC, LC, BC, hne⟩ := cls S0
    haveI := hne
    obtain ⟨c0, rfl⟩ : ∃ n : Wd C, W0 = n.w := ⟨⟨_, hC0⟩, rfl⟩
    have fC0 : ∀ n : Wd C, n.w.cell? ⟨w.heap.size + 1, 0, none⟩ = some (.int .i64 p.x) := fun n => (LC.out n).1.2.1
    have fC1 : ∀ n : Wd C, n.w.cell? ⟨w.heap.size + 1, 1, none⟩ = some (.int .i64 p.y) := fun n => (LC.out n).2.1.2.1
    have fC2 : ∀ n : Wd C, n.w.cell? ⟨w.heap.size, 0, none⟩ = some (.int .i64 s.a.x) := fun n => (LC.out n).2.2.1.2.1
    have fC3 : ∀ n : Wd C, n.w.cell? ⟨w.heap.size, 1, none⟩ = some (.int .i64 s.a.y) := fun n => (LC.out n).2.2.2.1.2.1
    have fC4 : ∀ n : Wd C, n.w.cell? ⟨w.heap.size, 2, none⟩ = some (.int .i64 s.b.x) := fun n => (LC.out n).2.2.2.2.1.2.1
    have fC5 : ∀ n : Wd C, n.w.cell? ⟨w.heap.size, 3, none⟩ = some (.int .i64 s.b.y) := fun n => (LC.out n).2.2.2.2.2.1.2.1
    clear S0 hC0
    have D1 := cin HC C1
    have D2 := cin HC C2
    clear C1 C2
    go_wp2_with (first | (go_at_call 87; with_reducible refine (D1 _).out.mono ?_; rintro e w' ⟨rfl, n, rfl⟩) | (go_at_call 18; with_reducible refine (D2 _).out.mono ?_; rintro e w' ⟨rfl, n, rfl⟩))
    go_ret
    exact ⟨ret_bool rfl, BC.out _⟩
/-- The ends of two segments that are common points, in the order in which they are tried. -/
def endsR (s t : Sg) : List Pt := (((if onR t.a t.b s.a then [s.a] else []) ++ (if onR t.a t.b s.b then [s.b] else [])) ++ (if onR s.a s.b t.a then [t.a] else [])) ++ (if onR s.a s.b t.b then [t.b] else [])
set_option maxRecDepth 100000 in
set_option maxHeartbeats 16000000 in
theorem rMeeting_any (s t : Sg) (w : World) :
   Calls Try.prog 28 #[s.v, t.v] w fun e w' => e = .returned (.int .i64 (mtg s t)) ∧ Below w.heap.size w w' := by
  by_cases hs : okG s = true
  · by_cases ht : okG t = true
    · obtain ⟨a1, a2, a3⟩ := okG_iff.1 hs
      obtain ⟨b1, b2, b3⟩ := okG_iff.1 ht
      have P1 : ∀ W, Calls Try.prog 87 #[s.v] W fun e w' => e = .returned (.bool true) ∧ Below W.heap.size W w' := fun W => by rw [← hs]; exact rproper_any s W
      have P2 : ∀ W, Calls Try.prog 87 #[t.v] W fun e w' => e = .returned (.bool true) ∧ Below W.heap.size W w' := fun W => by rw [← ht]; exact rproper_any t W
      have E1 := fun W => ron_any t.a t.b s.a W b1 b2 a1
      have E2 := fun W => ron_any t.a t.b s.b W b1 b2 a2
      have E3 := fun W => ron_any s.a s.b t.a W a1 a2 b1
      have E4 := fun W => ron_any s.a s.b t.b W a1 a2 b2
      have A1 := fun W => twice_any s.a s.b t.a W a1 a2 b1
      have A2 := fun W => twice_any s.a s.b t.b W a1 a2 b2
      have A3 := fun W => twice_any t.a t.b s.a W b1 b2 a1
      have A4 := fun W => twice_any t.a t.b s.b W b1 b2 a2
      obtain ⟨e1, h1⟩ : ∃ x, onR t.a t.b s.a = x := ⟨_, rfl⟩
      obtain ⟨e2, h2⟩ : ∃ x, onR t.a t.b s.b = x := ⟨_, rfl⟩
      obtain ⟨e3, h3⟩ : ∃ x, onR s.a s.b t.a = x := ⟨_, rfl⟩
      obtain ⟨e4, h4⟩ : ∃ x, onR s.a s.b t.b = x := ⟨_, rfl⟩
      obtain ⟨x1, k1⟩ : ∃ x, ar s.a s.b t.a = x := ⟨_, rfl⟩
      obtain ⟨x2, k2⟩ : ∃ x, ar s.a s.b t.b = x := ⟨_, rfl⟩
      obtain ⟨x3, k3⟩ : ∃ x, ar t.a t.b s.a = x := ⟨_, rfl⟩
      obtain ⟨x4, k4⟩ : ∃ x, ar t.a t.b s.b = x := ⟨_, rfl⟩
      rw [h1] at E1
      rw [h2] at E2
      rw [h3] at E3
      rw [h4] at E4
      rw [k1] at A1
      rw [k2] at A2
      rw [k3] at A3
      rw [k4] at A4
      obtain ⟨R, hR⟩ : ∃ R, mtg s t = R := ⟨_, rfl⟩
      obtain ⟨l1, hl1⟩ : ∃ l, (if e1 then [s.a] else []) = l := ⟨_, rfl⟩
      obtain ⟨l2, hl2⟩ : ∃ l, l1 ++ (if e2 then [s.b] else []) = l := ⟨_, rfl⟩
      obtain ⟨l3, hl3⟩ : ∃ l, l2 ++ (if e3 then [t.a] else []) = l := ⟨_, rfl⟩
      obtain ⟨l4, hl4⟩ : ∃ l, l3 ++ (if e4 then [t.b] else []) = l := ⟨_, rfl⟩
      rw [hR]
      have HL := Lib.hid (And.intro hl1 (And.intro hl2 (And.intro hl3 hl4)))
      have H0 := Lib.hid (And.intro (And.intro hs ht) (And.intro h1 (And.intro h2 (And.intro h3 (And.intro h4 (And.intro k1 (And.intro k2 (And.intro k3 (And.intro k4 hR)))))))))
      clear hl1 hl2 hl3 hl4 hs ht h1 h2 h3 h4 k1 k2 k3 k4 hR
      go_enter Try.func28, Try.ntmps28
      go_wp2_with fail
      obtain ⟨W0, hW0⟩ : ∃ W0, ((w).alloc (.cells #[.int .i64 s.a.x, .int .i64 s.a.y, .int .i64 s.b.x, .int .i64 s.b.y] 31)).alloc (.cells #[.int .i64 t.a.x, .int .i64 t.a.y, .int .i64 t.b.x, .int .i64 t.b.y] 31) = W0 := ⟨_, rfl⟩
      have S0 : St w W0 [(w.heap.size + 1, 0, .int .i64 t.a.x), (w.heap.size + 1, 1, .int .i64 t.a.y), (w.heap.size + 1, 2, .int .i64 t.b.x), (w.heap.size + 1, 3, .int .i64 t.b.y), (w.heap.size, 0, .int .i64 s.a.x), (w.heap.size, 1, .int .i64 s.a.y), (w.heap.size, 2, .int .i64 s.b.x), (w.heap.size, 3, .int .i64 s.b.y)] := by rw [← hW0]; exact (((St.nil w)).box #[.int .i64 s.a.x, .int .i64 s.a.y, .int .i64 s.b.x, .int .i64 s.b.y] 31 (w.heap.size) (by simp)).box #[.int .i64 t.a.x, .int .i64 t.a.y, .int .i64 t.b.x, .int .i64 t.b.y] 31 (w.heap.size + 1) (by simp)
      rw [hW0]
      clear hW0
      obtain ⟨C, hC0, HC, LC, BC, hne⟩ := cls S0
      haveI := hne
      obtain ⟨c0, rfl⟩ : ∃ n : Wd C, W0 = n.w := ⟨⟨_, hC0⟩, rfl⟩
      have fC0 : ∀ n : Wd C, n.w.cell? ⟨w.heap.size + 1, 0, none⟩ = some (.int .i64 t.a.x) := fun n => (LC.out n).1.2.1
      have fC1 : ∀ n : Wd C, n.w.cell? ⟨w.heap.size + 1, 1, none⟩ = some (.int .i64 t.a.y) := fun n => (LC.out n).2.1.2.1
      have fC2 : ∀ n : Wd C, n.w.cell? ⟨w.heap.size + 1, 2, none⟩ = some (.int .i64 t.b.x) := fun n => (LC.out n).2.2.1.2.1
      have fC3 : ∀ n : Wd C, n.w.cell? ⟨w.heap.size + 1, 3, none⟩ = some (.int .i64 t.b.y) := fun n => (LC.out n).2.2.2.1.2.1
      have fC4 : ∀ n : Wd C, n.w.cell? ⟨w.heap.size, 0, none⟩ = some (.int .i64 s.a.x) := fun n => (LC.out n).2.2.2.2.1.2.1
      have fC5 : ∀ n : Wd C, n.w.cell? ⟨w.heap.size, 1, none⟩ = some (.int .i64 s.a.y) := fun n => (LC.out n).2.2.2.2.2.1.2.1
      have fC6 : ∀ n : Wd C, n.w.cell? ⟨w.heap.size, 2, none⟩ = some (.int .i64 s.b.x) := fun n => (LC.out n).2.2.2.2.2.2.1.2.1
      have fC7 : ∀ n : Wd C, n.w.cell? ⟨w.heap.size, 3, none⟩ = some (.int .i64 s.b.y) := fun n => (LC.out n).2.2.2.2.2.2.2.1.2.1
      clear S0 hC0
      have D1 := cin HC P1
      have D2 := cin HC P2
      clear P1 P2
      go_wp2_with (first | (go_at_call 87; with_reducible refine (D1 _).out.mono ?_; rintro e w' ⟨rfl, n, rfl⟩) | (go_at_call 87; with_reducible refine (D2 _).out.mono ?_; rintro e w' ⟨rfl, n, rfl⟩))
      obtain ⟨W0, hW0⟩ : ∃ W0, n.w.alloc (.cells #[] 23) = W0 := ⟨_, rfl⟩
      have S0 : PO w n.w.heap.size [(w.heap.size + 1, 0, .int .i64 t.a.x), (w.heap.size + 1, 1, .int .i64 t.a.y), (w.heap.size + 1, 2, .int .i64 t.b.x), (w.heap.size + 1, 3, .int .i64 t.b.y), (w.heap.size, 0, .int .i64 s.a.x), (w.heap.size, 1, .int .i64 s.a.y), (w.heap.size, 2, .int .i64 s.b.x), (w.heap.size, 3, .int .i64 s.b.y)] (.slice (some ⟨n.w.heap.size, 0, none⟩) 0 0) [] W0 := by rw [← hW0]; exact PO.made (⟨BC.out n, LC.out n⟩ : St w n.w _) (LC.out n).lt rfl
      rw [hW0]
      clear hW0
      obtain ⟨E, hC0, HE, LE, BE, hne, PE⟩ := clsP S0
      haveI := hne
      obtain ⟨e0, rfl⟩ : ∃ n : Wd E, W0 = n.w := ⟨⟨_, hC0⟩, rfl⟩
      have fE0 : ∀ n : Wd E, n.w.cell? ⟨w.heap.size + 1, 0, none⟩ = some (.int .i64 t.a.x) := fun n => (LE.out n).1.2.1
      have fE1 : ∀ n : Wd E, n.w.cell? ⟨w.heap.size + 1, 1, none⟩ = some (.int .i64 t.a.y) := fun n => (LE.out n).2.1.2.1
      have fE2 : ∀ n : Wd E, n.w.cell? ⟨w.heap.size + 1, 2, none⟩ = some (.int .i64 t.b.x) := fun n => (LE.out n).2.2.1.2.1
      have fE3 : ∀ n : Wd E, n.w.cell? ⟨w.heap.size + 1, 3, none⟩ = some (.int .i64 t.b.y) := fun n => (LE.out n).2.2.2.1.2.1
      have fE4 : ∀ n : Wd E, n.w.cell? ⟨w.heap.size, 0, none⟩ = some (.int .i64 s.a.x) := fun n => (LE.out n).2.2.2.2.1.2.1
      have fE5 : ∀ n : Wd E, n.w.cell? ⟨w.heap.size, 1, none⟩ = some (.int .i64 s.a.y) := fun n => (LE.out n).2.2.2.2.2.1.2.1
      have fE6 : ∀ n : Wd E, n.w.cell? ⟨w.heap.size, 2, none⟩ = some (.int .i64 s.b.x) := fun n => (LE.out n).2.2.2.2.2.2.1.2.1
      have fE7 : ∀ n : Wd E, n.w.cell? ⟨w.heap.size, 3, none⟩ = some (.int .i64 s.b.y) := fun n => (LE.out n).2.2.2.2.2.2.2.1.2.1
      clear S0 hC0
      obtain ⟨B0, hB0⟩ : ∃ b, n.w.heap.size = b := ⟨_, rfl⟩
      rw [hB0] at PE ⊢
      clear hB0
      have F1 := cin HE E1
      go_upto_if 28 with (first | (go_at_call 88; with_reducible refine (F1 _).out.mono ?_; rintro e w' ⟨rfl, n, rfl⟩))
      clear F1
      go_cut [7] (fun v wx => PO w B0 [(w.heap.size + 1, 0, .int .i64 t.a.x), (w.heap.size + 1, 1, .int .i64 t.a.y), (w.heap.size + 1, 2, .int .i64 t.b.x), (w.heap.size + 1, 3, .int .i64 t.b.y), (w.heap.size, 0, .int .i64 s.a.x), (w.heap.size, 1, .int .i64 s.a.y), (w.heap.size, 2, .int .i64 s.b.x), (w.heap.size, 3, .int .i64 s.b.y)] v l1 wx)
      case first =>
        have hl := HL.out.1
        cases e1
        · have hl' : l1 = [] := by rw [← hl]; simp
          have HH := Lib.hid hl'
          clear hl hl'
          go_wp2_with fail
          go_meet
          rw [HH.out]
          exact PE.out _
        · have hl' : l1 = [] ++ [s.a] := by rw [← hl]; simp
          have HH := Lib.hid hl'
          have hlen : ([] : List Pt).length ≤ 1000000 := by simp
          have HLn := Lib.hid hlen
          clear hl hl' hlen
          go_wp2_with (at_builtin; refine app1 (PE.out n) s.a HLn.out rfl _ _ rfl rfl rfl ?_; intro v' w' hPO)
          go_meet
          rw [HH.out]
          exact hPO
      case rest =>
      have Hlen1 : Hid (l1.length ≤ 1) := by
        have hl := HL.out.1
        unfold Hid
        rw [← hl]
        cases e1 <;> simp
      obtain ⟨W0, hW0⟩ : ∃ W0, wc = W0 := ⟨_, rfl⟩
      have S0 : PO w B0 [(w.heap.size + 1, 0, .int .i64 t.a.x), (w.heap.size + 1, 1, .int .i64 t.a.y), (w.heap.size + 1, 2, .int .i64 t.b.x), (w.heap.size + 1, 3, .int .i64 t.b.y), (w.heap.size, 0, .int .i64 s.a.x), (w.heap.size, 1, .int .i64 s.a.y), (w.heap.size, 2, .int .i64 s.b.x), (w.heap.size, 3, .int .i64 s.b.y)] (u7) l1 W0 := by rw [← hW0]; exact hcut
      rw [hW0]
      clear hW0
      obtain ⟨F, hC0, HF, LF, BF, hne, PF⟩ := clsP S0
      haveI := hne
      obtain ⟨f0, rfl⟩ : ∃ n : Wd F, W0 = n.w := ⟨⟨_, hC0⟩, rfl⟩
      have fF0 : ∀ n : Wd F, n.w.cell? ⟨w.heap.size + 1, 0, none⟩ = some (.int .i64 t.a.x) := fun n => (LF.out n).1.2.1
      have fF1 : ∀ n : Wd F, n.w.cell? ⟨w.heap.size + 1, 1, none⟩ = some (.int .i64 t.a.y) := fun n => (LF.out n).2.1.2.1
      have fF2 : ∀ n : Wd F, n.w.cell? ⟨w.heap.size + 1, 2, none⟩ = some (.int .i64 t.b.x) := fun n => (LF.out n).2.2.1.2.1
      have fF3 : ∀ n : Wd F, n.w.cell? ⟨w.heap.size + 1, 3, none⟩ = some (.int .i64 t.b.y) := fun n => (LF.out n).2.2.2.1.2.1
      have fF4 : ∀ n : Wd F, n.w.cell? ⟨w.heap.size, 0, none⟩ = some (.int .i64 s.a.x) := fun n => (LF.out n).2.2.2.2.1.2.1
      have fF5 : ∀ n : Wd F, n.w.cell? ⟨w.heap.size, 1, none⟩ = some (.int .i64 s.a.y) := fun n => (LF.out n).2.2.2.2.2.1.2.1
      have fF6 : ∀ n : Wd F, n.w.cell? ⟨w.heap.size, 2, none⟩ = some (.int .i64 s.b.x) := fun n => (LF.out n).2.2.2.2.2.2.1.2.1
      have fF7 : ∀ n : Wd F, n.w.cell? ⟨w.heap.size, 3, none⟩ = some (.int .i64 s.b.y) := fun n => (LF.out n).2.2.2.2.2.2.2.1.2.1
      clear S0 hC0
      clear hcut
      have F1 := cin HF E2
      go_upto_if 40 with (first | (go_at_call 88; with_reducible refine (F1 _).out.mono ?_; rintro e w' ⟨rfl, n, rfl⟩))
      clear F1
      go_cut [7] (fun v wx => PO w B0 [(w.heap.size + 1, 0, .int .i64 t.a.x), (w.heap.size + 1, 1, .int .i64 t.a.y), (w.heap.size + 1, 2, .int .i64 t.b.x), (w.heap.size + 1, 3, .int .i64 t.b.y), (w.heap.size, 0, .int .i64 s.a.x), (w.heap.size, 1, .int .i64 s.a.y), (w.heap.size, 2, .int .i64 s.b.x), (w.heap.size, 3, .int .i64 s.b.y)] v l2 wx)
      case first =>
        have hl := HL.out.2.1
        cases e2
        · have hl' : l2 = l1 := by rw [← hl]; simp
          have HH := Lib.hid hl'
          clear hl hl'
          go_wp2_with fail
          go_meet
          rw [HH.out]
          exact PF.out _
        · have hl' : l2 = l1 ++ [s.b] := by rw [← hl]; simp
          have HH := Lib.hid hl'
          have hlen : l1.length ≤ 1000000 := by have := Hlen1.out; omega
          have HLn := Lib.hid hlen
          clear hl hl' hlen
          go_wp2_with (at_builtin; refine app1 (PF.out n) s.b HLn.out rfl _ _ rfl rfl rfl ?_; intro v' w' hPO)
          go_meet
          rw [HH.out]
          exact hPO
      case rest =>
      have Hlen2 : Hid (l2.length ≤ 2) := by
        have hl := HL.out.2.1
        unfold Hid
        rw [← hl]
        have := Hlen1.out; cases e2 <;> simp <;> omega
      obtain ⟨W0, hW0⟩ : ∃ W0, wc = W0 := ⟨_, rfl⟩
      have S0 : PO w B0 [(w.heap.size + 1, 0, .int .i64 t.a.x), (w.heap.size + 1, 1, .int .i64 t.a.y), (w.heap.size + 1, 2, .int .i64 t.b.x), (w.heap.size + 1, 3, .int .i64 t.b.y), (w.heap.size, 0, .int .i64 s.a.x), (w.heap.size, 1, .int .i64 s.a.y), (w.heap.size, 2, .int .i64 s.b.x), (w.heap.size, 3, .int .i64 s.b.y)] (u7) l2 W0 := by rw [← hW0]; exact hcut
      rw [hW0]
      clear hW0
      obtain ⟨G, hC0, HG, LG, BG, hne, PG⟩ := clsP S0
      haveI := hne
      obtain ⟨g0, rfl⟩ : ∃ n : Wd G, W0 = n.w := ⟨⟨_, hC0⟩, rfl⟩
      have fG0 : ∀ n : Wd G, n.w.cell? ⟨w.heap.size + 1, 0, none⟩ = some (.int .i64 t.a.x) := fun n => (LG.out n).1.2.1
      have fG1 : ∀ n : Wd G, n.w.cell? ⟨w.heap.size + 1, 1, none⟩ = some (.int .i64 t.a.y) := fun n => (LG.out n).2.1.2.1
      have fG2 : ∀ n : Wd G, n.w.cell? ⟨w.heap.size + 1, 2, none⟩ = some (.int .i64 t.b.x) := fun n => (LG.out n).2.2.1.2.1
      have fG3 : ∀ n : Wd G, n.w.cell? ⟨w.heap.size + 1, 3, none⟩ = some (.int .i64 t.b.y) := fun n => (LG.out n).2.2.2.1.2.1
      have fG4 : ∀ n : Wd G, n.w.cell? ⟨w.heap.size, 0, none⟩ = some (.int .i64 s.a.x) := fun n => (LG.out n).2.2.2.2.1.2.1
      have fG5 : ∀ n : Wd G, n.w.cell? ⟨w.heap.size, 1, none⟩ = some (.int .i64 s.a.y) := fun n => (LG.out n).2.2.2.2.2.1.2.1
      have fG6 : ∀ n : Wd G, n.w.cell? ⟨w.heap.size, 2, none⟩ = some (.int .i64 s.b.x) := fun n => (LG.out n).2.2.2.2.2.2.1.2.1
      have fG7 : ∀ n : Wd G, n.w.cell? ⟨w.heap.size, 3, none⟩ = some (.int .i64 s.b.y) := fun n => (LG.out n).2.2.2.2.2.2.2.1.2.1
      clear S0 hC0
      clear hcut
      have F1 := cin HG E3
      go_upto_if 52 with (first | (go_at_call 88; with_reducible refine (F1 _).out.mono ?_; rintro e w' ⟨rfl, n, rfl⟩))
      clear F1
      go_cut [7] (fun v wx => PO w B0 [(w.heap.size + 1, 0, .int .i64 t.a.x), (w.heap.size + 1, 1, .int .i64 t.a.y), (w.heap.size + 1, 2, .int .i64 t.b.x), (w.heap.size + 1, 3, .int .i64 t.b.y), (w.heap.size, 0, .int .i64 s.a.x), (w.heap.size, 1, .int .i64 s.a.y), (w.heap.size, 2, .int .i64 s.b.x), (w.heap.size, 3, .int .i64 s.b.y)] v l3 wx)
      case first =>
        have hl := HL.out.2.2.1
        cases e3
        · have hl' : l3 = l2 := by rw [← hl]; simp
          have HH := Lib.hid hl'
          clear hl hl'
          go_wp2_with fail
          go_meet
          rw [HH.out]
          exact PG.out _
        · have hl' : l3 = l2 ++ [t.a] := by rw [← hl]; simp
          have HH := Lib.hid hl'
          have hlen : l2.length ≤ 1000000 := by have := Hlen2.out; omega
          have HLn := Lib.hid hlen
          clear hl hl' hlen
          go_wp2_with (at_builtin; refine app1 (PG.out n) t.a HLn.out rfl _ _ rfl rfl rfl ?_; intro v' w' hPO)
          go_meet
          rw [HH.out]
          exact hPO
      case rest =>
      have Hlen3 : Hid (l3.length ≤ 3) := by
        have hl := HL.out.2.2.1
        unfold Hid
        rw [← hl]
        have := Hlen2.out; cases e3 <;> simp <;> omega
      obtain ⟨W0, hW0⟩ : ∃ W0, wc = W0 := ⟨_, rfl⟩
      have S0 : PO w B0 [(w.heap.size + 1, 0, .int .i64 t.a.x), (w.heap.size + 1, 1, .int .i64 t.a.y), (w.heap.size + 1, 2, .int .i64 t.b.x), (w.heap.size + 1, 3, .int .i64 t.b.y), (w.heap.size, 0, .int .i64 s.a.x), (w.heap.size, 1, .int .i64 s.a.y), (w.heap.size, 2, .int .i64 s.b.x), (w.heap.size, 3, .int .i64 s.b.y)] (u7) l3 W0 := by rw [← hW0]; exact hcut
      rw [hW0]
      clear hW0
      obtain ⟨I, hC0, HI, LI, BI, hne, PI⟩ := clsP S0
      haveI := hne
      obtain ⟨i0, rfl⟩ : ∃ n : Wd I, W0 = n.w := ⟨⟨_, hC0⟩, rfl⟩
      have fI0 : ∀ n : Wd I, n.w.cell? ⟨w.heap.size + 1, 0, none⟩ = some (.int .i64 t.a.x) := fun n => (LI.out n).1.2.1
      have fI1 : ∀ n : Wd I, n.w.cell? ⟨w.heap.size + 1, 1, none⟩ = some (.int .i64 t.a.y) := fun n => (LI.out n).2.1.2.1
      have fI2 : ∀ n : Wd I, n.w.cell? ⟨w.heap.size + 1, 2, none⟩ = some (.int .i64 t.b.x) := fun n => (LI.out n).2.2.1.2.1
      have fI3 : ∀ n : Wd I, n.w.cell? ⟨w.heap.size + 1, 3, none⟩ = some (.int .i64 t.b.y) := fun n => (LI.out n).2.2.2.1.2.1
      have fI4 : ∀ n : Wd I, n.w.cell? ⟨w.heap.size, 0, none⟩ = some (.int .i64 s.a.x) := fun n => (LI.out n).2.2.2.2.1.2.1
      have fI5 : ∀ n : Wd I, n.w.cell? ⟨w.heap.size, 1, none⟩ = some (.int .i64 s.a.y) := fun n => (LI.out n).2.2.2.2.2.1.2.1
      have fI6 : ∀ n : Wd I, n.w.cell? ⟨w.heap.size, 2, none⟩ = some (.int .i64 s.b.x) := fun n => (LI.out n).2.2.2.2.2.2.1.2.1
      have fI7 : ∀ n : Wd I, n.w.cell? ⟨w.heap.size, 3, none⟩ = some (.int .i64 s.b.y) := fun n => (LI.out n).2.2.2.2.2.2.2.1.2.1
      clear S0 hC0
      clear hcut
      have F1 := cin HI E4
      go_upto_if 64 with (first | (go_at_call 88; with_reducible refine (F1 _).out.mono ?_; rintro e w' ⟨rfl, n, rfl⟩))
      clear F1
      go_cut [7] (fun v wx => PO w B0 [(w.heap.size + 1, 0, .int .i64 t.a.x), (w.heap.size + 1, 1, .int .i64 t.a.y), (w.heap.size + 1, 2, .int .i64 t.b.x), (w.heap.size + 1, 3, .int .i64 t.b.y), (w.heap.size, 0, .int .i64 s.a.x), (w.heap.size, 1, .int .i64 s.a.y), (w.heap.size, 2, .int .i64 s.b.x), (w.heap.size, 3, .int .i64 s.b.y)] v l4 wx)
      case first =>
        have hl := HL.out.2.2.2
        cases e4
        · have hl' : l4 = l3 := by rw [← hl]; simp
          have HH := Lib.hid hl'
          clear hl hl'
          go_wp2_with fail
          go_meet
          rw [HH.out]
          exact PI.out _
        · have hl' : l4 = l3 ++ [t.b] := by rw [← hl]; simp
          have HH := Lib.hid hl'
          have hlen : l3.length ≤ 1000000 := by have := Hlen3.out; omega
          have HLn := Lib.hid hlen
          clear hl hl' hlen
          go_wp2_with (at_builtin; refine app1 (PI.out n) t.b HLn.out rfl _ _ rfl rfl rfl ?_; intro v' w' hPO)
          go_meet
          rw [HH.out]
          exact hPO
      case rest =>
      have Hlen4 : Hid (l4.length ≤ 4) := by
        have hl := HL.out.2.2.2
        unfold Hid
        rw [← hl]
        have := Hlen3.out; cases e4 <;> simp <;> omega
      obtain ⟨W0, hW0⟩ : ∃ W0, wc = W0 := ⟨_, rfl⟩
      have S0 : PO w B0 [(w.heap.size + 1, 0, .int .i64 t.a.x), (w.heap.size + 1, 1, .int .i64 t.a.y), (w.heap.size + 1, 2, .int .i64 t.b.x), (w.heap.size + 1, 3, .int .i64 t.b.y), (w.heap.size, 0, .int .i64 s.a.x), (w.heap.size, 1, .int .i64 s.a.y), (w.heap.size, 2, .int .i64 s.b.x), (w.heap.size, 3, .int .i64 s.b.y)] (u7) l4 W0 := by rw [← hW0]; exact hcut
      rw [hW0]
      clear hW0
      obtain ⟨J, hC0, HJ, LJ, BJ, hne, PJ⟩ := clsP S0
      haveI := hne
      obtain ⟨j0, rfl⟩ : ∃ n : Wd J, W0 = n.w := ⟨⟨_, hC0⟩, rfl⟩
      have fJ0 : ∀ n : Wd J, n.w.cell? ⟨w.heap.size + 1, 0, none⟩ = some (.int .i64 t.a.x) := fun n => (LJ.out n).1.2.1
      have fJ1 : ∀ n : Wd J, n.w.cell? ⟨w.heap.size + 1, 1, none⟩ = some (.int .i64 t.a.y) := fun n => (LJ.out n).2.1.2.1
      have fJ2 : ∀ n : Wd J, n.w.cell? ⟨w.heap.size + 1, 2, none⟩ = some (.int .i64 t.b.x) := fun n => (LJ.out n).2.2.1.2.1
      have fJ3 : ∀ n : Wd J, n.w.cell? ⟨w.heap.size + 1, 3, none⟩ = some (.int .i64 t.b.y) := fun n => (LJ.out n).2.2.2.1.2.1
      have fJ4 : ∀ n : Wd J, n.w.cell? ⟨w.heap.size, 0, none⟩ = some (.int .i64 s.a.x) := fun n => (LJ.out n).2.2.2.2.1.2.1
      have fJ5 : ∀ n : Wd J, n.w.cell? ⟨w.heap.size, 1, none⟩ = some (.int .i64 s.a.y) := fun n => (LJ.out n).2.2.2.2.2.1.2.1
      have fJ6 : ∀ n : Wd J, n.w.cell? ⟨w.heap.size, 2, none⟩ = some (.int .i64 s.b.x) := fun n => (LJ.out n).2.2.2.2.2.2.1.2.1
      have fJ7 : ∀ n : Wd J, n.w.cell? ⟨w.heap.size, 3, none⟩ = some (.int .i64 s.b.y) := fun n => (LJ.out n).2.2.2.2.2.2.2.1.2.1
      clear S0 hC0
      clear hcut
      have HK : Hid ((∀ (k : Nat) (q q0 : Pt), l4[k]? = some q → l4[0]? = some q0 → q ≠ q0 → R = 3) ∧ (∀ q0 : Pt, l4[0]? = some q0 → (∀ (k : Nat) (q : Pt), l4[k]? = some q → q = q0) → R = 1) ∧ (l4 = [] → (sg x1 * sg x2 < 0 ∧ sg x3 * sg x4 < 0 → R = 2) ∧ (¬ (sg x1 * sg x2 < 0 ∧ sg x3 * sg x4 < 0) → R = 0))) := by
        obtain ⟨⟨hs, ht⟩, g1, g2, g3, g4, k1, k2, k3, k4, hR⟩ := H0.out
        have hm : ∀ p, p ∈ l4 ↔ IsEnd s t p := fun p => by
          obtain ⟨w1, w2, w3, w4⟩ := HL.out
          rw [← w4, ← w3, ← w2, ← w1, ← g1, ← g2, ← g3, ← g4]
          exact memR
        rw [← hR]
        refine ⟨fun k q q0 hq hq0 hne => r3 hs ht ((hm q).1 (List.mem_of_getElem? hq)) ((hm q0).1 (List.mem_of_getElem? hq0)) hne, fun q0 hq0 hall => r1 hs ht ((hm q0).1 (List.mem_of_getElem? hq0)) (fun q hq => ?_), fun hl => ?_⟩
        · obtain ⟨k, hk⟩ := List.getElem?_of_mem ((hm q).2 hq)
          exact hall k q hk
        · have hn : ∀ q, ¬ IsEnd s t q := fun q hq => by have := (hm q).2 hq; rw [hl] at this; simp at this
          have := r0 hs ht hn
          rw [← k1, ← k2, ← k3, ← k4]
          exact ⟨fun h => this.1 ⟨h.2, h.1⟩, fun h => this.2 (fun g => h ⟨g.2, g.1⟩)⟩
      obtain ⟨a4, cap4, hv4, _⟩ := (PJ.out j0).pts
      subst hv4
      have HP : Hid (∀ n : Wd J, PtsAt n.w a4 l4) := fun n => by
        obtain ⟨a5, cap5, e5, h5⟩ := (PJ.out n).pts
        injection e5 with e6 e7 e8
        subst e6
        exact h5
      have hlen4 : l4.length ≤ 4 := Hlen4.out
      have B1 := cin HJ A1
      have B2 := cin HJ A2
      have B3 := cin HJ A3
      have B4 := cin HJ A4
      have B5 := csame (C := J) (fun W => sign_any x1 W)
      have B6 := csame (C := J) (fun W => sign_any x2 W)
      have B7 := csame (C := J) (fun W => sign_any x3 W)
      have B8 := csame (C := J) (fun W => sign_any x4 W)
      clear A1 A2 A3 A4 E1 E2 E3 E4 D1 D2
      have HWW : Hid (wrap64 (sg x1 * sg x2) = sg x1 * sg x2 ∧ wrap64 (sg x3 * sg x4) = sg x3 * sg x4) := by
        refine ⟨w64 ?_, w64 ?_⟩
        · rcases sg_cases x1 with h | h | h <;> rcases sg_cases x2 with k | k | k <;> rw [h, k] <;> decide
        · rcases sg_cases x3 with h | h | h <;> rcases sg_cases x4 with k | k | k <;> rw [h, k] <;> decide
      clear Hlen1 Hlen2 Hlen3 Hlen4 H0 HL
      clear fC0 fC1 fC2 fC3 fC4 fC5 fC6 fC7 fE0 fE1 fE2 fE3 fE4 fE5 fE6 fE7 fF0 fF1 fF2 fF3 fF4 fF5 fF6 fF7 fG0 fG1 fG2 fG3 fG4 fG5 fG6 fG7 fI0 fI1 fI2 fI3 fI4 fI5 fI6 fI7
      go_wp2_with fail
      go_loopw [8] (fun i wr => ∃ (k : Nat) (n : Wd J), wr = n.w ∧ i = .int .i64 (k : Int) ∧ 1 ≤ k ∧ k ≤ 5 ∧ (∀ (j : Nat) (q q0 : Pt), j < k → l4[j]? = some q → l4[0]? = some q0 → q = q0)) (fun i wr => 5 - (intOf i).toNat)
      case atStart => exact ⟨1, _, rfl, rfl, by omega, by omega, fun j q q0 hj hq hq0 => by
        obtain rfl : j = 0 := by omega
        rw [hq] at hq0; exact Option.some.inj hq0⟩
      case round =>
        obtain ⟨k, n1, rfl, rfl, hk1, hk2, hall⟩ := hrel
        have HA := Lib.hid hall
        clear hall
        by_cases hlt : k < l4.length
        · obtain ⟨q, hq⟩ : ∃ q, l4[k]? = some q := ⟨_, List.getElem?_eq_getElem hlt⟩
          obtain ⟨q0, hq0⟩ : ∃ q, l4[0]? = some q := ⟨_, List.getElem?_eq_getElem (by omega)⟩
          rcases HP.out n1 with hl | ⟨b, o, rfl, _, _⟩
          · rw [hl] at hlt; simp at hlt
          · have HC : Hid (∀ n : Wd J, (n.w.cell? ⟨b, o + k * 2, none⟩ = some (.int .i64 q.x) ∧ n.w.cell? ⟨b, o + k * 2 + 1, none⟩ = some (.int .i64 q.y)) ∧ n.w.cell? ⟨b, o, none⟩ = some (.int .i64 q0.x) ∧ n.w.cell? ⟨b, o + 1, none⟩ = some (.int .i64 q0.y)) := fun n => by
              rcases HP.out n with hl | ⟨b', o', e, _, hc⟩
              · rw [hl] at hlt; simp at hlt
              · obtain ⟨rfl, rfl⟩ : b = b' ∧ o = o' := by injection e with e; injection e with e1 e2; exact ⟨e1, e2⟩
                exact ⟨hc k q hq, by simpa using hc 0 q0 hq0⟩
            have g1 : ∀ n : Wd J, n.w.cell? ⟨b, o + k * 2, none⟩ = some (.int .i64 q.x) := fun n => (HC.out n).1.1
            have g2 : ∀ n : Wd J, n.w.cell? ⟨b, o + k * 2 + 1, none⟩ = some (.int .i64 q.y) := fun n => (HC.out n).1.2
            have g3 : ∀ n : Wd J, n.w.cell? ⟨b, o, none⟩ = some (.int .i64 q0.x) := fun n => (HC.out n).2.1
            have g4 : ∀ n : Wd J, n.w.cell? ⟨b, o + 1, none⟩ = some (.int .i64 q0.y) := fun n => (HC.out n).2.2
            have ke := fun W => neP_run q q0 W
            obtain ⟨z, hz⟩ : ∃ z, ptE q q0 = z := ⟨_, rfl⟩
            rw [hz] at ke
            have HZ := Lib.hid (And.intro hz (And.intro hq hq0))
            clear hz hq hq0
            have hpos : 0 < l4.length := by omega
            go_wp2_with fail
            refine wp_region_in J (HJ.out _ _ (Wd.h _) (below_dr _)) (by kernel_rfl) (by kernel_rfl) ?_
            repeat (go_big_quiet_step (first | fail))
            refine wpQuiet_nil ?_
            intro wx hwx
            obtain ⟨n2, rfl⟩ : ∃ n : Wd J, wx = n.w := ⟨⟨wx, hwx⟩, rfl⟩
            clear hwx
            cases z
            · go_wp2_with fail
              go_ret
              refine ⟨ret_int ?_, BJ.out _⟩
              obtain ⟨hz, hq, hq0⟩ := HZ.out
              exact (HK.out.1 k q q0 hq hq0 (fun e => by rw [e] at hz; simp [ptE] at hz)).symm
            · go_wp2_with fail
              go_roundw
              case rel =>
                refine ⟨k + 1, _, rfl, rfl, by omega, by omega, fun j u u0 hj hu hu0 => ?_⟩
                obtain ⟨hz, hq, hq0⟩ := HZ.out
                by_cases hjk : j = k
                · subst hjk
                  rw [hq] at hu
                  rw [hq0] at hu0
                  rw [← Option.some.inj hu, ← Option.some.inj hu0]
                  exact of_decide_eq_true hz
                · exact HA.out j u u0 (by omega) hu hu0
              case measure => simp [intOf]; omega
        · by_cases hpos : 0 < l4.length
          · obtain ⟨q0, hq0⟩ : ∃ q, l4[0]? = some q := ⟨_, List.getElem?_eq_getElem (by omega)⟩
            have HR : Hid (R = 1) := HK.out.2.1 q0 hq0 (fun j q hq => HA.out j q q0 (by have := (List.getElem?_eq_some_iff.1 hq).1; omega) hq hq0)
            clear hq0
            go_wp2_with fail
            go_ret
            exact ⟨ret_int HR.out.symm, BJ.out _⟩
          · have hnil : l4.length = 0 := by omega
            have HR := Lib.hid (HK.out.2.2 (List.length_eq_zero_iff.1 hnil))
            clear hnil
            go_wp2_with fail
            refine wp_region_in J (HJ.out _ _ (Wd.h _) (below_dr _)) (by kernel_rfl) (by kernel_rfl) ?_
            repeat (go_big_quiet_step (first | with_reducible exact (B1 _).out | with_reducible exact (B2 _).out | with_reducible exact (B3 _).out | with_reducible exact (B4 _).out | with_reducible exact (B5 _).out | with_reducible exact (B6 _).out | with_reducible exact (B7 _).out | with_reducible exact (B8 _).out))
            refine wpQuiet_nil ?_
            intro wx hwx
            obtain ⟨n2, rfl⟩ : ∃ n : Wd J, wx = n.w := ⟨⟨wx, hwx⟩, rfl⟩
            clear hwx
            go_wp2_with fail
            refine wp_region_in J (HJ.out _ _ (Wd.h _) (below_dr _)) (by kernel_rfl) (by kernel_rfl) ?_
            repeat (go_big_quiet_step (first | with_reducible exact (B1 _).out | with_reducible exact (B2 _).out | with_reducible exact (B3 _).out | with_reducible exact (B4 _).out | with_reducible exact (B5 _).out | with_reducible exact (B6 _).out | with_reducible exact (B7 _).out | with_reducible exact (B8 _).out))
            refine wpQuiet_nil ?_
            intro wx hwx
            obtain ⟨n3, rfl⟩ : ∃ n : Wd J, wx = n.w := ⟨⟨wx, hwx⟩, rfl⟩
            clear hwx
            clear B1 B2 B3 B4 B5 B6 B7 B8
            by_cases hx : sg x1 * sg x2 < 0 ∧ sg x3 * sg x4 < 0
            · have HR2 := Lib.hid (HR.out.1 hx)
              have hx1 : wrap64 (sg x1 * sg x2) < 0 := by rw [HWW.out.1]; exact hx.1
              have hx2 : wrap64 (sg x3 * sg x4) < 0 := by rw [HWW.out.2]; exact hx.2
              clear hx
              go_wp2_with fail
              go_ret
              exact ⟨ret_int HR2.out.symm, BJ.out _⟩
            · have HR2 := Lib.hid (HR.out.2 hx)
              have HX : Hid (¬ (wrap64 (sg x1 * sg x2) < 0 ∧ wrap64 (sg x3 * sg x4) < 0)) := fun g => hx ⟨by rw [← HWW.out.1]; exact g.1, by rw [← HWW.out.2]; exact g.2⟩
              clear hx
              go_wp2_with fail
              all_goals first | (exfalso; exact HX.out ⟨by assumption, by assumption⟩) | (go_ret; exact ⟨ret_int HR2.out.symm, BJ.out _⟩)
    · have ht : okG t = false := by simpa using ht
      rw [mtg_off (.inr ht)]
      have P1 : ∀ W, Calls Try.prog 87 #[s.v] W fun e w' => e = .returned (.bool true) ∧ Below W.heap.size W w' := fun W => by rw [← hs]; exact rproper_any s W
      have P2 : ∀ W, Calls Try.prog 87 #[t.v] W fun e w' => e = .returned (.bool false) ∧ Below W.heap.size W w' := fun W => by rw [← ht]; exact rproper_any t W
      clear hs ht
      go_enter Try.func28, Try.ntmps28
      go_wp2_with fail
      obtain ⟨W0, hW0⟩ : ∃ W0, ((w).alloc (.cells #[.int .i64 s.a.x, .int .i64 s.a.y, .int .i64 s.b.x, .int .i64 s.b.y] 31)).alloc (.cells #[.int .i64 t.a.x, .int .i64 t.a.y, .int .i64 t.b.x, .int .i64 t.b.y] 31) = W0 := ⟨_, rfl⟩
      have S0 : St w W0 [(w.heap.size + 1, 0, .int .i64 t.a.x), (w.heap.size + 1, 1, .int .i64 t.a.y), (w.heap.size + 1, 2, .int .i64 t.b.x), (w.heap.size + 1, 3, .int .i64 t.b.y), (w.heap.size, 0, .int .i64 s.a.x), (w.heap.size, 1, .int .i64 s.a.y), (w.heap.size, 2, .int .i64 s.b.x), (w.heap.size, 3, .int .i64 s.b.y)] := by rw [← hW0]; exact (((St.nil w)).box #[.int .i64 s.a.x, .int .i64 s.a.y, .int .i64 s.b.x, .int .i64 s.b.y] 31 (w.heap.size) (by simp)).box #[.int .i64 t.a.x, .int .i64 t.a.y, .int .i64 t.b.x, .int .i64 t.b.y] 31 (w.heap.size + 1) (by simp)
      rw [hW0]
      clear hW0
      obtain ⟨C, hC0, HC, LC, BC, hne⟩ := cls S0
      haveI := hne
      obtain ⟨c0, rfl⟩ : ∃ n : Wd C, W0 = n.w := ⟨⟨_, hC0⟩, rfl⟩
      have fC0 : ∀ n : Wd C, n.w.cell? ⟨w.heap.size + 1, 0, none⟩ = some (.int .i64 t.a.x) := fun n => (LC.out n).1.2.1
      have fC1 : ∀ n : Wd C, n.w.cell? ⟨w.heap.size + 1, 1, none⟩ = some (.int .i64 t.a.y) := fun n => (LC.out n).2.1.2.1
      have fC2 : ∀ n : Wd C, n.w.cell? ⟨w.heap.size + 1, 2, none⟩ = some (.int .i64 t.b.x) := fun n => (LC.out n).2.2.1.2.1
      have fC3 : ∀ n : Wd C, n.w.cell? ⟨w.heap.size + 1, 3, none⟩ = some (.int .i64 t.b.y) := fun n => (LC.out n).2.2.2.1.2.1
      have fC4 : ∀ n : Wd C, n.w.cell? ⟨w.heap.size, 0, none⟩ = some (.int .i64 s.a.x) := fun n => (LC.out n).2.2.2.2.1.2.1
      have fC5 : ∀ n : Wd C, n.w.cell? ⟨w.heap.size, 1, none⟩ = some (.int .i64 s.a.y) := fun n => (LC.out n).2.2.2.2.2.1.2.1
      have fC6 : ∀ n : Wd C, n.w.cell? ⟨w.heap.size, 2, none⟩ = some (.int .i64 s.b.x) := fun n => (LC.out n).2.2.2.2.2.2.1.2.1
      have fC7 : ∀ n : Wd C, n.w.cell? ⟨w.heap.size, 3, none⟩ = some (.int .i64 s.b.y) := fun n => (LC.out n).2.2.2.2.2.2.2.1.2.1
      clear S0 hC0
      have D1 := cin HC P1
      have D2 := cin HC P2
      clear P1 P2
      go_wp2_with (first | (go_at_call 87; with_reducible refine (D1 _).out.mono ?_; rintro e w' ⟨rfl, n, rfl⟩) | (go_at_call 87; with_reducible refine (D2 _).out.mono ?_; rintro e w' ⟨rfl, n, rfl⟩))
      go_ret
      exact ⟨rfl, BC.out _⟩
  · have hs : okG s = false := by simpa using hs
    rw [mtg_off (.inl hs)]
    obtain ⟨z, hz⟩ : ∃ z, okG t = z := ⟨_, rfl⟩
    have P1 : ∀ W, Calls Try.prog 87 #[s.v] W fun e w' => e = .returned (.bool false) ∧ Below W.heap.size W w' := fun W => by rw [← hs]; exact rproper_any s W
    have P2 : ∀ W, Calls Try.prog 87 #[t.v] W fun e w' => e = .returned (.bool z) ∧ Below W.heap.size W w' := fun W => by rw [← hz]; exact rproper_any t W
    clear hs hz
    go_enter Try.func28, Try.ntmps28
    go_wp2_with fail
    obtain ⟨W0, hW0⟩ : ∃ W0, ((w).alloc (.cells #[.int .i64 s.a.x, .int .i64 s.a.y, .int .i64 s.b.x, .int .i64 s.b.y] 31)).alloc (.cells #[.int .i64 t.a.x, .int .i64 t.a.y, .int .i64 t.b.x, .int .i64 t.b.y] 31) = W0 := ⟨_, rfl⟩
    have S0 : St w W0 [(w.heap.size + 1, 0, .int .i64 t.a.x), (w.heap.size + 1, 1, .int .i64 t.a.y), (w.heap.size + 1, 2, .int .i64 t.b.x), (w.heap.size + 1, 3, .int .i64 t.b.y), (w.heap.size, 0, .int .i64 s.a.x), (w.heap.size, 1, .int .i64 s.a.y), (w.heap.size, 2, .int .i64 s.b.x), (w.heap.size, 3, .int .i64 s.b.y)] := by rw [← hW0]; exact (((St.nil w)).box #[.int .i64 s.a.x, .int .i64 s.a.y, .int .i64 s.b.x, .int .i64 s.b.y] 31 (w.heap.size) (by simp)).box #[.int .i64 t.a.x, .int .i64 t.a.y, .int .i64 t.b.x, .int .i64 t.b.y] 31 (w.heap.size + 1) (by simp)
    rw [hW0]
    clear hW0
    obtain ⟨C, hC0, HC, LC, BC, hne⟩ := cls S0
    haveI := hne
    obtain ⟨c0, rfl⟩ : ∃ n : Wd C, W0 = n.w := ⟨⟨_, hC0⟩, rfl⟩
    have fC0 : ∀ n : Wd C, n.w.cell? ⟨w.heap.size + 1, 0, none⟩ = some (.int .i64 t.a.x) := fun n => (LC.out n).1.2.1
    have fC1 : ∀ n : Wd C, n.w.cell? ⟨w.heap.size + 1, 1, none⟩ = some (.int .i64 t.a.y) := fun n => (LC.out n).2.1.2.1
    have fC2 : ∀ n : Wd C, n.w.cell? ⟨w.heap.size + 1, 2, none⟩ = some (.int .i64 t.b.x) := fun n => (LC.out n).2.2.1.2.1
    have fC3 : ∀ n : Wd C, n.w.cell? ⟨w.heap.size + 1, 3, none⟩ = some (.int .i64 t.b.y) := fun n => (LC.out n).2.2.2.1.2.1
    have fC4 : ∀ n : Wd C, n.w.cell? ⟨w.heap.size, 0, none⟩ = some (.int .i64 s.a.x) := fun n => (LC.out n).2.2.2.2.1.2.1
    have fC5 : ∀ n : Wd C, n.w.cell? ⟨w.heap.size, 1, none⟩ = some (.int .i64 s.a.y) := fun n => (LC.out n).2.2.2.2.2.1.2.1
    have fC6 : ∀ n : Wd C, n.w.cell? ⟨w.heap.size, 2, none⟩ = some (.int .i64 s.b.x) := fun n => (LC.out n).2.2.2.2.2.2.1.2.1
    have fC7 : ∀ n : Wd C, n.w.cell? ⟨w.heap.size, 3, none⟩ = some (.int .i64 s.b.y) := fun n => (LC.out n).2.2.2.2.2.2.2.1.2.1
    clear S0 hC0
    have D1 := cin HC P1
    have D2 := cin HC P2
    clear P1 P2
    go_wp2_with (first | (go_at_call 87; with_reducible refine (D1 _).out.mono ?_; rintro e w' ⟨rfl, n, rfl⟩) | (go_at_call 87; with_reducible refine (D2 _).out.mono ?_; rintro e w' ⟨rfl, n, rfl⟩))
    go_ret
    exact ⟨rfl, BC.out _⟩
end Go.Proofs.Ytdefpcjlbganpaa
