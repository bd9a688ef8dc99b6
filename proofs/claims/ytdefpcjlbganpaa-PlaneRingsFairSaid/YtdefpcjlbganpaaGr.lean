import Derived.Test.YtdefpcjlbganpaaCompact
import Derived.WalkKit
import Derived.LoopTactic
import Derived.WalkSpells
import Derived.WalkLawsBesides
import Derived.Lib.Hide
import Derived.BigQuiet
import Derived.IntWalk
import Derived.Deep.DeepMust
import Derived.WalkSmall
import Derived.StillTailTactics
import Derived.Deep.RegionLaw
import Derived.Deep.RegionHeld3
import Derived.Deep.QuietTactic
import Derived.Deep.DeepCutAuto
import Derived.Sort.Grow
import Derived.Laws.AppendOwn
import Derived.Deep.CutBlock
namespace Go.Proofs.Ytdefpcjlbganpaa
open Go.RowKit Go.BigFrame Go.Sort
attribute [local go_sem] World.cell?_alloc_some
/-- Draws, and blocks behind. -/
def Gr (W W' : World) : Prop := ∃ k os, W' = grow (W.drewN k) os
theorem Gr.refl (W : World) : Gr W W := ⟨0, #[], by rw [grow_empty]; rfl⟩
theorem Gr.trans {A B C : World} (h : Gr A B) (k : Gr B C) : Gr A C := by
  obtain ⟨n, os, rfl⟩ := h
  obtain ⟨m, os', rfl⟩ := k
  refine ⟨n + m, os ++ os', ?_⟩
  show grow (grow ((A.drewN n).drewN m) os) os' = _
  rw [grow_grow, World.drewN_drewN]
theorem Gr.al (W : World) (o : Obj) : Gr W (W.alloc o) := ⟨0, #[o], by rw [alloc_eq_grow]; rfl⟩
theorem Gr.dr (W : World) : Gr W W.drew := ⟨1, #[], by rw [grow_empty]; rfl⟩
theorem Gr.below {W W' : World} (h : Gr W W') : Below W.heap.size W W' := by
  obtain ⟨n, os, rfl⟩ := h
  refine ⟨rfl, rfl, rfl, ?_, fun k hk => ?_⟩
  · simp [grow, World.drewN]
  · simp [grow, World.drewN, Array.getElem?_append, hk]
structure StG (w W : World) (l : List (Nat × Nat × Value)) : Prop where
  b : Gr w W
  c : Cs W l
theorem StG.nil (w : World) : StG w w [] := ⟨Gr.refl _, trivial⟩
theorem StG.next {w W W' : World} {l} (h : StG w W l) (hb : Gr W W') : StG w W' l := ⟨h.b.trans hb, h.c.keep hb.below⟩
theorem StG.box {w W : World} {l} (h : StG w W l) (cs : Array Value) (e : TypeId) (b : Nat) (hb : W.heap.size = b) : StG w (W.alloc (.cells cs e)) (blk b 0 cs.toList ++ l) := by
  subst hb
  exact ⟨h.b.trans (Gr.al _ _), Cs.app (h.next (Gr.al _ _)).c (cs_blk W cs e _ 0 rfl)⟩
theorem clsG {w W0 : World} {L : List (Nat × Nat × Value)} (S : StG w W0 L) : ∃ C : World → Prop, C W0 ∧ Hid (∀ W W', C W → Gr W W' → C W') ∧ Hid (∀ n : Wd C, Cs n.w L) ∧ Hid (∀ n : Wd C, Gr w n.w) ∧ Nonempty (Wd C) :=
  ⟨fun W => StG w W L, S, fun _ _ h hb => h.next hb, fun n => n.h.c, fun n => n.h.b, ⟨⟨W0, S⟩⟩⟩
theorem cinG {C : World → Prop} (H : Hid (∀ W W', C W → Gr W W' → C W')) {f : FuncId} {args : Array Value} {v : Value} (h : ∀ W, Calls Try.prog f args W fun e w' => e = .returned v ∧ Gr W w') (n : Wd C) :
    Hid (Calls Try.prog f args n.w fun e w'' => e = .returned v ∧ ∃ m : Wd C, w'' = m.w) :=
  Calls.quiet_in (C := C) ((h n.w).mono fun _ _ h => ⟨h.1, H.out _ _ n.h h.2⟩)
set_option maxHeartbeats 1000000 in
theorem Valid_gr (p : Pt) (w : World) : Calls Try.prog 17 #[p.v] w fun e w' => e = .returned (.bool (okP p)) ∧ Gr w w' := by
  have C1 := fun W => validCoord_any p.x W
  have C2 := fun W => validCoord_any p.y W
  obtain ⟨a, ha⟩ : ∃ a, okC p.x = a := ⟨_, rfl⟩
  obtain ⟨b, hb⟩ : ∃ a, okC p.y = a := ⟨_, rfl⟩
  rw [show okP p = (a && b) from by rw [okP, ha, hb]]
  simp only [ha] at C1
  simp only [hb] at C2
  clear ha hb
  go_enter Try.func17, Try.ntmps17
  go_wp2_with fail
  obtain ⟨W0, hW0⟩ : ∃ W0, (w).alloc (.cells #[.int .i64 p.x, .int .i64 p.y] 23) = W0 := ⟨_, rfl⟩
  have S0 : StG w W0 [(w.heap.size, 0, .int .i64 p.x), (w.heap.size, 1, .int .i64 p.y)] := by rw [← hW0]; exact ((StG.nil w)).box #[.int .i64 p.x, .int .i64 p.y] 23 (w.heap.size) (by simp)
  rw [hW0]
  clear hW0
  obtain ⟨C, hC0, HC, LC, BC, hne⟩ := clsG S0
  haveI := hne
  obtain ⟨c0, rfl⟩ : ∃ n : Wd C, W0 = n.w := ⟨⟨_, hC0⟩, rfl⟩
  have fC0 : ∀ n : Wd C, n.w.cell? ⟨w.heap.size, 0, none⟩ = some (.int .i64 p.x) := fun n => (LC.out n).1.2.1
  have fC1 : ∀ n : Wd C, n.w.cell? ⟨w.heap.size, 1, none⟩ = some (.int .i64 p.y) := fun n => (LC.out n).2.1.2.1
  clear S0 hC0
  have D1 := csame (C := C) C1
  have D2 := csame (C := C) C2
  clear C1 C2
  cases a
  all_goals
    go_wp2_with (first | (go_at_call 76; with_reducible refine (D1 _).out.mono ?_; rintro e w' ⟨rfl, n, rfl⟩) | (go_at_call 76; with_reducible refine (D2 _).out.mono ?_; rintro e w' ⟨rfl, n, rfl⟩))
    go_ret
    exact ⟨ret_bool (by simp), BC.out _⟩
set_option maxHeartbeats 1000000 in
theorem twiceArea_gr (a b c : Pt) (w : World) (ha : okP a = true) (hb : okP b = true) (hc : okP c = true) :
   Calls Try.prog 79 #[a.v, b.v, c.v] w fun e w' => e = .returned (.int .i64 (ar a b c)) ∧ Gr w w' := by
  have H := Lib.hid (ar_wrap a b c ha hb hc)
  clear ha hb hc
  go_enter Try.func79, Try.ntmps79
  go_wp2_with fail
  go_ret
  exact ⟨ret_int H.out, ((Gr.al _ _).trans (Gr.al _ _)).trans (Gr.al _ _)⟩
set_option maxHeartbeats 2000000 in
theorem Turn_gr (a b c : Pt) (w : World) : Calls Try.prog 19 #[a.v, b.v, c.v] w fun e w' => e = .returned (.int .i64 (trn a b c)) ∧ Gr w w' := by
  have V1 := fun W => Valid_gr a W
  have V2 := fun W => Valid_gr b W
  have V3 := fun W => Valid_gr c W
  obtain ⟨R, hR⟩ : ∃ R, trn a b c = R := ⟨_, rfl⟩
  rw [hR]
  cases h1 : okP a
  · have hz : R = 0 := by rw [← hR, trn, h1]; rfl
    subst hz
    simp only [h1] at V1
    clear h1 hR V2 V3
    go_enter Try.func19, Try.ntmps19
    go_wp2_with fail
    obtain ⟨W0, hW0⟩ : ∃ W0, (((w).alloc (.cells #[.int .i64 a.x, .int .i64 a.y] 23)).alloc (.cells #[.int .i64 b.x, .int .i64 b.y] 23)).alloc (.cells #[.int .i64 c.x, .int .i64 c.y] 23) = W0 := ⟨_, rfl⟩
    have S0 : StG w W0 [(w.heap.size + 1 + 1, 0, .int .i64 c.x), (w.heap.size + 1 + 1, 1, .int .i64 c.y), (w.heap.size + 1, 0, .int .i64 b.x), (w.heap.size + 1, 1, .int .i64 b.y), (w.heap.size, 0, .int .i64 a.x), (w.heap.size, 1, .int .i64 a.y)] := by rw [← hW0]; exact ((((StG.nil w)).box #[.int .i64 a.x, .int .i64 a.y] 23 (w.heap.size) (by simp)).box #[.int .i64 b.x, .int .i64 b.y] 23 (w.heap.size + 1) (by simp)).box #[.int .i64 c.x, .int .i64 c.y] 23 (w.heap.size + 1 + 1) (by simp)
    rw [hW0]
    clear hW0
    obtain ⟨C, hC0, HC, LC, BC, hne⟩ := clsG S0
    haveI := hne
    obtain ⟨c0, rfl⟩ : ∃ n : Wd C, W0 = n.w := ⟨⟨_, hC0⟩, rfl⟩
    have fC0 : ∀ n : Wd C, n.w.cell? ⟨w.heap.size + 1 + 1, 0, none⟩ = some (.int .i64 c.x) := fun n => (LC.out n).1.2.1
    have fC1 : ∀ n : Wd C, n.w.cell? ⟨w.heap.size + 1 + 1, 1, none⟩ = some (.int .i64 c.y) := fun n => (LC.out n).2.1.2.1
    have fC2 : ∀ n : Wd C, n.w.cell? ⟨w.heap.size + 1, 0, none⟩ = some (.int .i64 b.x) := fun n => (LC.out n).2.2.1.2.1
    have fC3 : ∀ n : Wd C, n.w.cell? ⟨w.heap.size + 1, 1, none⟩ = some (.int .i64 b.y) := fun n => (LC.out n).2.2.2.1.2.1
    have fC4 : ∀ n : Wd C, n.w.cell? ⟨w.heap.size, 0, none⟩ = some (.int .i64 a.x) := fun n => (LC.out n).2.2.2.2.1.2.1
    have fC5 : ∀ n : Wd C, n.w.cell? ⟨w.heap.size, 1, none⟩ = some (.int .i64 a.y) := fun n => (LC.out n).2.2.2.2.2.1.2.1
    clear S0 hC0
    have D1 := cinG HC V1
    clear V1
    go_wp2_with (first | (go_at_call 17; with_reducible refine (D1 _).out.mono ?_; rintro e w' ⟨rfl, n, rfl⟩))
    go_ret
    exact ⟨rfl, BC.out _⟩
  · cases h2 : okP b
    · have hz : R = 0 := by rw [← hR, trn, h2, Bool.and_false]; rfl
      subst hz
      simp only [h1] at V1
      simp only [h2] at V2
      clear h1 h2 hR V3
      go_enter Try.func19, Try.ntmps19
      go_wp2_with fail
      obtain ⟨W0, hW0⟩ : ∃ W0, (((w).alloc (.cells #[.int .i64 a.x, .int .i64 a.y] 23)).alloc (.cells #[.int .i64 b.x, .int .i64 b.y] 23)).alloc (.cells #[.int .i64 c.x, .int .i64 c.y] 23) = W0 := ⟨_, rfl⟩
      have S0 : StG w W0 [(w.heap.size + 1 + 1, 0, .int .i64 c.x), (w.heap.size + 1 + 1, 1, .int .i64 c.y), (w.heap.size + 1, 0, .int .i64 b.x), (w.heap.size + 1, 1, .int .i64 b.y), (w.heap.size, 0, .int .i64 a.x), (w.heap.size, 1, .int .i64 a.y)] := by rw [← hW0]; exact ((((StG.nil w)).box #[.int .i64 a.x, .int .i64 a.y] 23 (w.heap.size) (by simp)).box #[.int .i64 b.x, .int .i64 b.y] 23 (w.heap.size + 1) (by simp)).box #[.int .i64 c.x, .int .i64 c.y] 23 (w.heap.size + 1 + 1) (by simp)
      rw [hW0]
      clear hW0
      obtain ⟨C, hC0, HC, LC, BC, hne⟩ := clsG S0
      haveI := hne
      obtain ⟨c0, rfl⟩ : ∃ n : Wd C, W0 = n.w := ⟨⟨_, hC0⟩, rfl⟩
      have fC0 : ∀ n : Wd C, n.w.cell? ⟨w.heap.size + 1 + 1, 0, none⟩ = some (.int .i64 c.x) := fun n => (LC.out n).1.2.1
      have fC1 : ∀ n : Wd C, n.w.cell? ⟨w.heap.size + 1 + 1, 1, none⟩ = some (.int .i64 c.y) := fun n => (LC.out n).2.1.2.1
      have fC2 : ∀ n : Wd C, n.w.cell? ⟨w.heap.size + 1, 0, none⟩ = some (.int .i64 b.x) := fun n => (LC.out n).2.2.1.2.1
      have fC3 : ∀ n : Wd C, n.w.cell? ⟨w.heap.size + 1, 1, none⟩ = some (.int .i64 b.y) := fun n => (LC.out n).2.2.2.1.2.1
      have fC4 : ∀ n : Wd C, n.w.cell? ⟨w.heap.size, 0, none⟩ = some (.int .i64 a.x) := fun n => (LC.out n).2.2.2.2.1.2.1
      have fC5 : ∀ n : Wd C, n.w.cell? ⟨w.heap.size, 1, none⟩ = some (.int .i64 a.y) := fun n => (LC.out n).2.2.2.2.2.1.2.1
      clear S0 hC0
      have D1 := cinG HC V1
      have D2 := cinG HC V2
      clear V1 V2
      go_wp2_with (first | (go_at_call 17; with_reducible refine (D1 _).out.mono ?_; rintro e w' ⟨rfl, n, rfl⟩) | (go_at_call 17; with_reducible refine (D2 _).out.mono ?_; rintro e w' ⟨rfl, n, rfl⟩))
      go_ret
      exact ⟨rfl, BC.out _⟩
    · cases h3 : okP c
      · have hz : R = 0 := by rw [← hR, trn, h3, Bool.and_false]; rfl
        subst hz
        simp only [h1] at V1
        simp only [h2] at V2
        simp only [h3] at V3
        clear h1 h2 h3 hR
        go_enter Try.func19, Try.ntmps19
        go_wp2_with fail
        obtain ⟨W0, hW0⟩ : ∃ W0, (((w).alloc (.cells #[.int .i64 a.x, .int .i64 a.y] 23)).alloc (.cells #[.int .i64 b.x, .int .i64 b.y] 23)).alloc (.cells #[.int .i64 c.x, .int .i64 c.y] 23) = W0 := ⟨_, rfl⟩
        have S0 : StG w W0 [(w.heap.size + 1 + 1, 0, .int .i64 c.x), (w.heap.size + 1 + 1, 1, .int .i64 c.y), (w.heap.size + 1, 0, .int .i64 b.x), (w.heap.size + 1, 1, .int .i64 b.y), (w.heap.size, 0, .int .i64 a.x), (w.heap.size, 1, .int .i64 a.y)] := by rw [← hW0]; exact ((((StG.nil w)).box #[.int .i64 a.x, .int .i64 a.y] 23 (w.heap.size) (by simp)).box #[.int .i64 b.x, .int .i64 b.y] 23 (w.heap.size + 1) (by simp)).box #[.int .i64 c.x, .int .i64 c.y] 23 (w.heap.size + 1 + 1) (by simp)
        rw [hW0]
        clear hW0
        obtain ⟨C, hC0, HC, LC, BC, hne⟩ := clsG S0
        haveI := hne
        obtain ⟨c0, rfl⟩ : ∃ n : Wd C, W0 = n.w := ⟨⟨_, hC0⟩, rfl⟩
        have fC0 : ∀ n : Wd C, n.w.cell? ⟨w.heap.size + 1 + 1, 0, none⟩ = some (.int .i64 c.x) := fun n => (LC.out n).1.2.1
        have fC1 : ∀ n : Wd C, n.w.cell? ⟨w.heap.size + 1 + 1, 1, none⟩ = some (.int .i64 c.y) := fun n => (LC.out n).2.1.2.1
        have fC2 : ∀ n : Wd C, n.w.cell? ⟨w.heap.size + 1, 0, none⟩ = some (.int .i64 b.x) := fun n => (LC.out n).2.2.1.2.1
        have fC3 : ∀ n : Wd C, n.w.cell? ⟨w.heap.size + 1, 1, none⟩ = some (.int .i64 b.y) := fun n => (LC.out n).2.2.2.1.2.1
        have fC4 : ∀ n : Wd C, n.w.cell? ⟨w.heap.size, 0, none⟩ = some (.int .i64 a.x) := fun n => (LC.out n).2.2.2.2.1.2.1
        have fC5 : ∀ n : Wd C, n.w.cell? ⟨w.heap.size, 1, none⟩ = some (.int .i64 a.y) := fun n => (LC.out n).2.2.2.2.2.1.2.1
        clear S0 hC0
        have D1 := cinG HC V1
        have D2 := cinG HC V2
        have D3 := cinG HC V3
        clear V1 V2 V3
        go_wp2_with (first | (go_at_call 17; with_reducible refine (D1 _).out.mono ?_; rintro e w' ⟨rfl, n, rfl⟩) | (go_at_call 17; with_reducible refine (D2 _).out.mono ?_; rintro e w' ⟨rfl, n, rfl⟩) | (go_at_call 17; with_reducible refine (D3 _).out.mono ?_; rintro e w' ⟨rfl, n, rfl⟩))
        go_ret
        exact ⟨rfl, BC.out _⟩
      · have A := fun W => twiceArea_gr a b c W h1 h2 h3
        have hz : R = cm (ar a b c) 0 := by rw [← hR, trn_ok h1 h2 h3, cm_sg]
        obtain ⟨t, ht⟩ : ∃ t, ar a b c = t := ⟨_, rfl⟩
        rw [ht] at hz
        simp only [ht] at A
        have K := fun W => compare_any t 0 W
        rw [← hz] at K
        simp only [h1] at V1
        simp only [h2] at V2
        simp only [h3] at V3
        clear h1 h2 h3 hR hz ht
        go_enter Try.func19, Try.ntmps19
        go_wp2_with fail
        obtain ⟨W0, hW0⟩ : ∃ W0, (((w).alloc (.cells #[.int .i64 a.x, .int .i64 a.y] 23)).alloc (.cells #[.int .i64 b.x, .int .i64 b.y] 23)).alloc (.cells #[.int .i64 c.x, .int .i64 c.y] 23) = W0 := ⟨_, rfl⟩
        have S0 : StG w W0 [(w.heap.size + 1 + 1, 0, .int .i64 c.x), (w.heap.size + 1 + 1, 1, .int .i64 c.y), (w.heap.size + 1, 0, .int .i64 b.x), (w.heap.size + 1, 1, .int .i64 b.y), (w.heap.size, 0, .int .i64 a.x), (w.heap.size, 1, .int .i64 a.y)] := by rw [← hW0]; exact ((((StG.nil w)).box #[.int .i64 a.x, .int .i64 a.y] 23 (w.heap.size) (by simp)).box #[.int .i64 b.x, .int .i64 b.y] 23 (w.heap.size + 1) (by simp)).box #[.int .i64 c.x, .int .i64 c.y] 23 (w.heap.size + 1 + 1) (by simp)
        rw [hW0]
        clear hW0
        obtain ⟨C, hC0, HC, LC, BC, hne⟩ := clsG S0
        haveI := hne
        obtain ⟨c0, rfl⟩ : ∃ n : Wd C, W0 = n.w := ⟨⟨_, hC0⟩, rfl⟩
        have fC0 : ∀ n : Wd C, n.w.cell? ⟨w.heap.size + 1 + 1, 0, none⟩ = some (.int .i64 c.x) := fun n => (LC.out n).1.2.1
        have fC1 : ∀ n : Wd C, n.w.cell? ⟨w.heap.size + 1 + 1, 1, none⟩ = some (.int .i64 c.y) := fun n => (LC.out n).2.1.2.1
        have fC2 : ∀ n : Wd C, n.w.cell? ⟨w.heap.size + 1, 0, none⟩ = some (.int .i64 b.x) := fun n => (LC.out n).2.2.1.2.1
        have fC3 : ∀ n : Wd C, n.w.cell? ⟨w.heap.size + 1, 1, none⟩ = some (.int .i64 b.y) := fun n => (LC.out n).2.2.2.1.2.1
        have fC4 : ∀ n : Wd C, n.w.cell? ⟨w.heap.size, 0, none⟩ = some (.int .i64 a.x) := fun n => (LC.out n).2.2.2.2.1.2.1
        have fC5 : ∀ n : Wd C, n.w.cell? ⟨w.heap.size, 1, none⟩ = some (.int .i64 a.y) := fun n => (LC.out n).2.2.2.2.2.1.2.1
        clear S0 hC0
        have D1 := cinG HC V1
        have D2 := cinG HC V2
        have D3 := cinG HC V3
        have D4 := cinG HC A
        have D5 := csame (C := C) K
        clear V1 V2 V3 A K
        go_wp2_with (first | (go_at_call 17; with_reducible refine (D1 _).out.mono ?_; rintro e w' ⟨rfl, n, rfl⟩) | (go_at_call 17; with_reducible refine (D2 _).out.mono ?_; rintro e w' ⟨rfl, n, rfl⟩) | (go_at_call 17; with_reducible refine (D3 _).out.mono ?_; rintro e w' ⟨rfl, n, rfl⟩) | (go_at_call 79; with_reducible refine (D4 _).out.mono ?_; rintro e w' ⟨rfl, n, rfl⟩) | (go_at_call 78; with_reducible refine (D5 _).out.mono ?_; rintro e w' ⟨rfl, n, rfl⟩))
        go_ret
        exact ⟨rfl, BC.out _⟩
set_option maxHeartbeats 2000000 in
theorem Dist_gr (a b : Pt) (w : World) : Calls Try.prog 21 #[a.v, b.v] w fun e w' => e = .returned (.int .i64 (dst a b)) ∧ Gr w w' := by
  have V1 := fun W => Valid_gr a W
  have V2 := fun W => Valid_gr b W
  obtain ⟨R, hR⟩ : ∃ R, dst a b = R := ⟨_, rfl⟩
  rw [hR]
  cases h1 : okP a
  · have hz : R = -1 := by rw [← hR, dst, h1]; rfl
    subst hz
    simp only [h1] at V1
    clear h1 hR V2
    go_enter Try.func21, Try.ntmps21
    go_wp2_with fail
    obtain ⟨W0, hW0⟩ : ∃ W0, ((w).alloc (.cells #[.int .i64 a.x, .int .i64 a.y] 23)).alloc (.cells #[.int .i64 b.x, .int .i64 b.y] 23) = W0 := ⟨_, rfl⟩
    have S0 : StG w W0 [(w.heap.size + 1, 0, .int .i64 b.x), (w.heap.size + 1, 1, .int .i64 b.y), (w.heap.size, 0, .int .i64 a.x), (w.heap.size, 1, .int .i64 a.y)] := by rw [← hW0]; exact (((StG.nil w)).box #[.int .i64 a.x, .int .i64 a.y] 23 (w.heap.size) (by simp)).box #[.int .i64 b.x, .int .i64 b.y] 23 (w.heap.size + 1) (by simp)
    rw [hW0]
    clear hW0
    obtain ⟨C, hC0, HC, LC, BC, hne⟩ := clsG S0
    haveI := hne
    obtain ⟨c0, rfl⟩ : ∃ n : Wd C, W0 = n.w := ⟨⟨_, hC0⟩, rfl⟩
    have fC0 : ∀ n : Wd C, n.w.cell? ⟨w.heap.size + 1, 0, none⟩ = some (.int .i64 b.x) := fun n => (LC.out n).1.2.1
    have fC1 : ∀ n : Wd C, n.w.cell? ⟨w.heap.size + 1, 1, none⟩ = some (.int .i64 b.y) := fun n => (LC.out n).2.1.2.1
    have fC2 : ∀ n : Wd C, n.w.cell? ⟨w.heap.size, 0, none⟩ = some (.int .i64 a.x) := fun n => (LC.out n).2.2.1.2.1
    have fC3 : ∀ n : Wd C, n.w.cell? ⟨w.heap.size, 1, none⟩ = some (.int .i64 a.y) := fun n => (LC.out n).2.2.2.1.2.1
    clear S0 hC0
    have D1 := cinG HC V1
    clear V1
    go_wp2_with (first | (go_at_call 17; with_reducible refine (D1 _).out.mono ?_; rintro e w' ⟨rfl, n, rfl⟩))
    go_ret
    exact ⟨rfl, BC.out _⟩
  · cases h2 : okP b
    · have hz : R = -1 := by rw [← hR, dst, h2, Bool.and_false]; rfl
      subst hz
      simp only [h1] at V1
      simp only [h2] at V2
      clear h1 h2 hR
      go_enter Try.func21, Try.ntmps21
      go_wp2_with fail
      obtain ⟨W0, hW0⟩ : ∃ W0, ((w).alloc (.cells #[.int .i64 a.x, .int .i64 a.y] 23)).alloc (.cells #[.int .i64 b.x, .int .i64 b.y] 23) = W0 := ⟨_, rfl⟩
      have S0 : StG w W0 [(w.heap.size + 1, 0, .int .i64 b.x), (w.heap.size + 1, 1, .int .i64 b.y), (w.heap.size, 0, .int .i64 a.x), (w.heap.size, 1, .int .i64 a.y)] := by rw [← hW0]; exact (((StG.nil w)).box #[.int .i64 a.x, .int .i64 a.y] 23 (w.heap.size) (by simp)).box #[.int .i64 b.x, .int .i64 b.y] 23 (w.heap.size + 1) (by simp)
      rw [hW0]
      clear hW0
      obtain ⟨C, hC0, HC, LC, BC, hne⟩ := clsG S0
      haveI := hne
      obtain ⟨c0, rfl⟩ : ∃ n : Wd C, W0 = n.w := ⟨⟨_, hC0⟩, rfl⟩
      have fC0 : ∀ n : Wd C, n.w.cell? ⟨w.heap.size + 1, 0, none⟩ = some (.int .i64 b.x) := fun n => (LC.out n).1.2.1
      have fC1 : ∀ n : Wd C, n.w.cell? ⟨w.heap.size + 1, 1, none⟩ = some (.int .i64 b.y) := fun n => (LC.out n).2.1.2.1
      have fC2 : ∀ n : Wd C, n.w.cell? ⟨w.heap.size, 0, none⟩ = some (.int .i64 a.x) := fun n => (LC.out n).2.2.1.2.1
      have fC3 : ∀ n : Wd C, n.w.cell? ⟨w.heap.size, 1, none⟩ = some (.int .i64 a.y) := fun n => (LC.out n).2.2.2.1.2.1
      clear S0 hC0
      have D1 := cinG HC V1
      have D2 := cinG HC V2
      clear V1 V2
      go_wp2_with (first | (go_at_call 17; with_reducible refine (D1 _).out.mono ?_; rintro e w' ⟨rfl, n, rfl⟩) | (go_at_call 17; with_reducible refine (D2 _).out.mono ?_; rintro e w' ⟨rfl, n, rfl⟩))
      go_ret
      exact ⟨rfl, BC.out _⟩
    · obtain ⟨a1, a2⟩ := okP_iff.1 h1
      obtain ⟨b1, b2⟩ := okP_iff.1 h2
      have A := fun W => squares_any (b.x - a.x) (b.y - a.y) W (by omega) (by omega)
      have hz : (b.x - a.x) * (b.x - a.x) + (b.y - a.y) * (b.y - a.y) = R := by rw [← hR, dst, h1, h2]; rfl
      have hw1 : wrap64 (b.x - a.x) = b.x - a.x := w64 (by omega)
      have hw2 : wrap64 (b.y - a.y) = b.y - a.y := w64 (by omega)
      rw [hz, ← hw1, ← hw2] at A
      simp only [h1] at V1
      simp only [h2] at V2
      clear h1 h2 hR hz hw1 hw2 a1 a2 b1 b2
      go_enter Try.func21, Try.ntmps21
      go_wp2_with fail
      obtain ⟨W0, hW0⟩ : ∃ W0, ((w).alloc (.cells #[.int .i64 a.x, .int .i64 a.y] 23)).alloc (.cells #[.int .i64 b.x, .int .i64 b.y] 23) = W0 := ⟨_, rfl⟩
      have S0 : StG w W0 [(w.heap.size + 1, 0, .int .i64 b.x), (w.heap.size + 1, 1, .int .i64 b.y), (w.heap.size, 0, .int .i64 a.x), (w.heap.size, 1, .int .i64 a.y)] := by rw [← hW0]; exact (((StG.nil w)).box #[.int .i64 a.x, .int .i64 a.y] 23 (w.heap.size) (by simp)).box #[.int .i64 b.x, .int .i64 b.y] 23 (w.heap.size + 1) (by simp)
      rw [hW0]
      clear hW0
      obtain ⟨C, hC0, HC, LC, BC, hne⟩ := clsG S0
      haveI := hne
      obtain ⟨c0, rfl⟩ : ∃ n : Wd C, W0 = n.w := ⟨⟨_, hC0⟩, rfl⟩
      have fC0 : ∀ n : Wd C, n.w.cell? ⟨w.heap.size + 1, 0, none⟩ = some (.int .i64 b.x) := fun n => (LC.out n).1.2.1
      have fC1 : ∀ n : Wd C, n.w.cell? ⟨w.heap.size + 1, 1, none⟩ = some (.int .i64 b.y) := fun n => (LC.out n).2.1.2.1
      have fC2 : ∀ n : Wd C, n.w.cell? ⟨w.heap.size, 0, none⟩ = some (.int .i64 a.x) := fun n => (LC.out n).2.2.1.2.1
      have fC3 : ∀ n : Wd C, n.w.cell? ⟨w.heap.size, 1, none⟩ = some (.int .i64 a.y) := fun n => (LC.out n).2.2.2.1.2.1
      clear S0 hC0
      have D1 := cinG HC V1
      have D2 := cinG HC V2
      have D3 := csame (C := C) A
      clear V1 V2 A
      go_wp2_with (first | (go_at_call 17; with_reducible refine (D1 _).out.mono ?_; rintro e w' ⟨rfl, n, rfl⟩) | (go_at_call 17; with_reducible refine (D2 _).out.mono ?_; rintro e w' ⟨rfl, n, rfl⟩) | (go_at_call 83; with_reducible refine (D3 _).out.mono ?_; rintro e w' ⟨rfl, n, rfl⟩))
      go_ret
      exact ⟨rfl, BC.out _⟩
/-- How many half turns lead to a point. -/
def hlf (o p : Pt) : Int := if o.y < p.y ∨ (p.y = o.y ∧ o.x < p.x) then 0 else 1
set_option maxHeartbeats 2000000 in
theorem halfTurns_gr (o p : Pt) (w : World) : Calls Try.prog 114 #[o.v, p.v] w fun e w' => e = .returned (.int .i64 (hlf o p)) ∧ Gr w w' := by
  obtain ⟨R, hR⟩ : ∃ R, Hid (hlf o p = R) := ⟨_, rfl⟩
  rw [hR.out]
  go_enter Try.func114, Try.ntmps114
  go_wp2_with fail
  all_goals
    go_ret
    refine ⟨ret_int ?_, (Gr.al _ _).trans (Gr.al _ _)⟩
    rw [← hR.out]
    unfold hlf
    split <;> omega
end Go.Proofs.Ytdefpcjlbganpaa
