import Derived.Test.YtdefpcjlbganpaaCls
import Derived.WalkKit
import Derived.LoopTactic
import Derived.WalkSpells
import Derived.WalkLawsBesides
import Derived.Lib.Hide
import Derived.BigQuiet
import Derived.IntWalk
import Derived.Deep.DeepMust
import Derived.WalkSmall
import Derived.StillTailTactics
import Derived.Deep.RegionLaw
import Derived.Deep.RegionHeld3
import Derived.Deep.QuietTactic
namespace Go.Proofs.Ytdefpcjlbganpaa
open Go.RowKit Go.BigFrame
attribute [local go_sem] World.cell?_alloc_some
theorem ar_cyc (a b c : Pt) : ar b c a = ar a b c := by unfold ar; grind
theorem ar_swap1 (a b c : Pt) : ar b a c = -ar a b c := by unfold ar; grind
theorem ar_swap2 (a b c : Pt) : ar a c b = -ar a b c := by unfold ar; grind
theorem dq_sym (a b : Pt) : dq a b = dq b a := by unfold dq; grind
theorem ar_mv (a b c : Pt) (x y : Int) : ar ⟨a.x + x, a.y + y⟩ ⟨b.x + x, b.y + y⟩ ⟨c.x + x, c.y + y⟩ = ar a b c := by unfold ar; grind
theorem dq_mv (a b : Pt) (x y : Int) : dq ⟨a.x + x, a.y + y⟩ ⟨b.x + x, b.y + y⟩ = dq a b := by unfold dq; grind
theorem sg_neg (n : Int) : sg (-n) = -sg n := by unfold sg; split <;> split <;> (try split) <;> (try split) <;> omega
theorem trn_cyc (a b c : Pt) : trn b c a = trn a b c := by
  unfold trn; rw [ar_cyc]
  cases okP a <;> cases okP b <;> cases okP c <;> rfl
theorem trn_swap1 (a b c : Pt) : trn b a c = -trn a b c := by
  unfold trn; rw [ar_swap1, sg_neg]
  cases okP a <;> cases okP b <;> cases okP c <;> rfl
theorem trn_swap2 (a b c : Pt) : trn a c b = -trn a b c := by
  unfold trn; rw [ar_swap2, sg_neg]
  cases okP a <;> cases okP b <;> cases okP c <;> rfl
theorem dst_sym (a b : Pt) : dst a b = dst b a := by
  unfold dst; rw [dq_sym]
  cases okP a <;> cases okP b <;> rfl
theorem sq_nn (x : Int) : 0 ≤ x * x := by
  rcases Int.le_total 0 x with h | h
  · exact Int.mul_nonneg h h
  · have := Int.mul_nonneg (show 0 ≤ -x by omega) (show 0 ≤ -x by omega); rwa [Int.neg_mul_neg] at this
theorem dq_zero (a b : Pt) : dq a b = 0 ↔ a = b := by
  constructor
  · intro h
    unfold dq at h
    have h1 := sq_nn (b.x - a.x)
    have h2 := sq_nn (b.y - a.y)
    have e1 : (b.x - a.x) * (b.x - a.x) = 0 := by omega
    have e2 : (b.y - a.y) * (b.y - a.y) = 0 := by omega
    have f1 : b.x - a.x = 0 := by rcases Int.mul_eq_zero.1 e1 with h | h <;> exact h
    have f2 : b.y - a.y = 0 := by rcases Int.mul_eq_zero.1 e2 with h | h <;> exact h
    obtain ⟨a1, a2⟩ := a
    obtain ⟨b1, b2⟩ := b
    simp only at f1 f2
    rw [Pt.mk.injEq]; omega
  · rintro rfl; unfold dq; simp
theorem rt_spec (n : Int) (hn : 0 ≤ n) : ∀ (k : Nat) (r : Int), 0 ≤ r → r * r ≤ n → n < (r + 2 ^ k) * (r + 2 ^ k) → 0 ≤ rt n k r ∧ rt n k r * rt n k r ≤ n ∧ n < (rt n k r + 1) * (rt n k r + 1)
  | 0, r, h0, h1, h2 => by simpa [rt] using ⟨h0, h1, h2⟩
  | k + 1, r, h0, h1, h2 => by
    have hp0 : (0 : Int) < 2 ^ k := Int.pow_pos (by decide)
    have hp : (2 : Int) ^ (k + 1) = 2 ^ k + 2 ^ k := by rw [Int.pow_succ]; omega
    rw [hp] at h2
    unfold rt
    split
    · rename_i h
      exact rt_spec n hn k _ (by omega) h (by rw [show r + 2 ^ k + 2 ^ k = r + (2 ^ k + 2 ^ k) from by omega]; exact h2)
    · rename_i h
      exact rt_spec n hn k r h0 h1 (by omega)
set_option maxHeartbeats 400000 in
theorem moved_any (p : Pt) (x y : Int) (w : World) :
   Calls Try.prog 67 #[p.v, .int .i64 x, .int .i64 y] w fun e w' => e = .returned (Pt.v ⟨wrap64 (p.x + x), wrap64 (p.y + y)⟩) ∧ Below w.heap.size w w' := by
  go_enter Try.func67, Try.ntmps67
  go_wp2_with fail
  refine bodyPost_ret (v := Pt.v ⟨wrap64 (p.x + x), wrap64 (p.y + y)⟩) (by simp [results, Try.results67, go_sem]) rfl ⟨rfl, ?_⟩
  exact (((St.nil w).al _).al _).b
theorem okP_small {p : Pt} (h : okP p = true) : (-1048576 ≤ p.x ∧ p.x ≤ 1048576) ∧ (-1048576 ≤ p.y ∧ p.y ≤ 1048576) := okP_iff.1 h
theorem rt_small {n r : Int} (hn : n ≤ 4294967295) (h0 : 0 ≤ r) (h1 : r * r ≤ n) : r ≤ 65535 := by
  rcases Int.lt_or_le r 65536 with h | h
  · omega
  · have := Int.mul_le_mul h h (by omega) h0
    omega
theorem trn_w (a b c : Pt) : wrap64 (trn a b c) = trn a b c := by
  rcases trn_cases a b c with h | h | h <;> rw [h] <;> exact w64 (by decide)
set_option maxRecDepth 100000 in
set_option maxHeartbeats 16000000 in
theorem fairLaw (a b c : Pt) (x y m : Int) (w : World) (hx : -9223372036854775808 ≤ x ∧ x ≤ 9223372036854775807) (hy : -9223372036854775808 ≤ y ∧ y ≤ 9223372036854775807) (hn : 0 ≤ m ∧ m ≤ 4294967295) :
   Calls Try.prog 10 #[a.v, b.v, c.v, .int .i64 x, .int .i64 y, .int .u32 m] w fun e w' => e = .returned (.bool true) ∧ Below w.heap.size w w' := by
  obtain ⟨r, hr⟩ : ∃ r, rt m 32 0 = r := ⟨_, rfl⟩
  have hsp := rt_spec m hn.1 32 0 (by decide) (by simpa using hn.1) (by rw [show (2 : Int) ^ 32 = 4294967296 from by decide]; omega)
  have CR := fun W => Root_any m W (by omega)
  rw [hr] at hsp
  simp only [hr] at CR
  obtain ⟨r0, r1, r2⟩ := hsp
  have rs := rt_small hn.2 r0 r1
  have e1 : wrap64 (r + 1) = r + 1 := w64 (by omega)
  have e2 : wrap64 (r * r) = r * r := w64 (by have := Int.mul_nonneg r0 r0; omega)
  have e3 : wrap64 ((r + 1) * (r + 1)) = (r + 1) * (r + 1) := w64 (by
    have h1 := Int.mul_nonneg (show 0 ≤ r + 1 by omega) (show 0 ≤ r + 1 by omega)
    have h2 := Int.mul_le_mul (show r + 1 ≤ 65536 by omega) (show r + 1 ≤ 65536 by omega) (by omega) (by omega)
    omega)
  obtain ⟨t, ht⟩ : ∃ t, trn a b c = t := ⟨_, rfl⟩
  have hwt : wrap64 t = t := w64 (by rcases trn_cases a b c with h | h | h <;> rw [ht] at h <;> omega)
  obtain ⟨d, hd⟩ : ∃ d, dst a b = d := ⟨_, rfl⟩
  have T0 : ∀ W, Calls Try.prog 19 #[a.v, b.v, c.v] W fun e w' => e = .returned (.int .i64 t) ∧ Below W.heap.size W w' := fun W => by rw [← ht]; exact Turn_any a b c W
  have T1 : ∀ W, Calls Try.prog 19 #[b.v, c.v, a.v] W fun e w' => e = .returned (.int .i64 t) ∧ Below W.heap.size W w' := fun W => by rw [← ht, ← trn_cyc]; exact Turn_any b c a W
  have T2 : ∀ W, Calls Try.prog 19 #[b.v, a.v, c.v] W fun e w' => e = .returned (.int .i64 (-t)) ∧ Below W.heap.size W w' := fun W => by rw [← ht, ← trn_swap1]; exact Turn_any b a c W
  have T3 : ∀ W, Calls Try.prog 19 #[a.v, c.v, b.v] W fun e w' => e = .returned (.int .i64 (-t)) ∧ Below W.heap.size W w' := fun W => by rw [← ht, ← trn_swap2]; exact Turn_any a c b W
  have Q1 : ∀ W, Calls Try.prog 21 #[a.v, b.v] W fun e w' => e = .returned (.int .i64 d) ∧ Below W.heap.size W w' := fun W => by rw [← hd]; exact Dist_any a b W
  have Q2 : ∀ W, Calls Try.prog 21 #[b.v, a.v] W fun e w' => e = .returned (.int .i64 d) ∧ Below W.heap.size W w' := fun W => by rw [← hd, dst_sym]; exact Dist_any b a W
  obtain ⟨va, hva⟩ : ∃ v, okP a = v := ⟨_, rfl⟩
  obtain ⟨vb, hvb⟩ : ∃ v, okP b = v := ⟨_, rfl⟩
  obtain ⟨vc, hvc⟩ : ∃ v, okP c = v := ⟨_, rfl⟩
  have Va : ∀ W, Calls Try.prog 17 #[a.v] W fun e w' => e = .returned (.bool va) ∧ Below W.heap.size W w' := fun W => by rw [← hva]; exact Valid_any a W
  have Vb : ∀ W, Calls Try.prog 17 #[b.v] W fun e w' => e = .returned (.bool vb) ∧ Below W.heap.size W w' := fun W => by rw [← hvb]; exact Valid_any b W
  have Vc : ∀ W, Calls Try.prog 17 #[c.v] W fun e w' => e = .returned (.bool vc) ∧ Below W.heap.size W w' := fun W => by rw [← hvc]; exact Valid_any c W
  have HV := Lib.hid (And.intro ht (And.intro hd (And.intro hva (And.intro hvb hvc))))
  clear ht hd hva hvb hvc hr
  go_enter Try.func10, Try.ntmps10
  go_wp2_with fail
  obtain ⟨W0, hW0⟩ : ∃ W0, (((w).alloc (.cells #[.int .i64 a.x, .int .i64 a.y] 23)).alloc (.cells #[.int .i64 b.x, .int .i64 b.y] 23)).alloc (.cells #[.int .i64 c.x, .int .i64 c.y] 23) = W0 := ⟨_, rfl⟩
  have S0 : St w W0 [(w.heap.size + 1 + 1, 0, .int .i64 c.x), (w.heap.size + 1 + 1, 1, .int .i64 c.y), (w.heap.size + 1, 0, .int .i64 b.x), (w.heap.size + 1, 1, .int .i64 b.y), (w.heap.size, 0, .int .i64 a.x), (w.heap.size, 1, .int .i64 a.y)] := by rw [← hW0]; exact ((((St.nil w)).box #[.int .i64 a.x, .int .i64 a.y] 23 (w.heap.size) (by simp)).box #[.int .i64 b.x, .int .i64 b.y] 23 (w.heap.size + 1) (by simp)).box #[.int .i64 c.x, .int .i64 c.y] 23 (w.heap.size + 1 + 1) (by simp)
  rw [hW0]
  clear hW0
  obtain ⟨C, hC0, HC, LC, BC, hne⟩ := cls S0
  haveI := hne
  obtain ⟨c0, rfl⟩ : ∃ n : Wd C, W0 = n.w := ⟨⟨_, hC0⟩, rfl⟩
  have fC0 : ∀ n : Wd C, n.w.cell? ⟨w.heap.size + 1 + 1, 0, none⟩ = some (.int .i64 c.x) := fun n => (LC.out n).1.2.1
  have fC1 : ∀ n : Wd C, n.w.cell? ⟨w.heap.size + 1 + 1, 1, none⟩ = some (.int .i64 c.y) := fun n => (LC.out n).2.1.2.1
  have fC2 : ∀ n : Wd C, n.w.cell? ⟨w.heap.size + 1, 0, none⟩ = some (.int .i64 b.x) := fun n => (LC.out n).2.2.1.2.1
  have fC3 : ∀ n : Wd C, n.w.cell? ⟨w.heap.size + 1, 1, none⟩ = some (.int .i64 b.y) := fun n => (LC.out n).2.2.2.1.2.1
  have fC4 : ∀ n : Wd C, n.w.cell? ⟨w.heap.size, 0, none⟩ = some (.int .i64 a.x) := fun n => (LC.out n).2.2.2.2.1.2.1
  have fC5 : ∀ n : Wd C, n.w.cell? ⟨w.heap.size, 1, none⟩ = some (.int .i64 a.y) := fun n => (LC.out n).2.2.2.2.2.1.2.1
  clear S0 hC0
  have D0 := cin HC T0
  have D1 := cin HC T1
  have D2 := cin HC T2
  have D3 := cin HC T3
  have D4 := cin HC Q1
  have D5 := cin HC Q2
  have D6 := csame (C := C) CR
  have DA := cin HC Va
  have DB := cin HC Vb
  have DC := cin HC Vc
  have DS := cin HC sanity_any
  clear T0 T1 T2 T3 Q1 Q2 Va Vb Vc CR
  go_wp2_with (first | (go_at_call 19; with_reducible refine (D0 _).out.mono ?_; rintro e w' ⟨rfl, n, rfl⟩))
  refine wp_region_in C (HC.out _ _ (Wd.h _) (below_dr _)) (by kernel_rfl) (by kernel_rfl) ?_
  repeat (go_big_quiet_step (first | with_reducible exact (D1 _).out | with_reducible exact (D2 _).out | with_reducible exact (D3 _).out | with_reducible exact (D4 _).out | with_reducible exact (D5 _).out))
  refine wpQuiet_nil ?_
  intro wx hwx
  obtain ⟨n1, rfl⟩ : ∃ n : Wd C, wx = n.w := ⟨⟨wx, hwx⟩, rfl⟩
  clear hwx
  clear D0 D1 D2 D3 D5
  go_wp2_with (first | (go_at_call 23; with_reducible refine (D6 _).out.mono ?_; rintro e w' ⟨rfl, n, rfl⟩))
  clear D6
  cases va
  · go_wp2_with (first | (go_at_call 17; with_reducible refine (DA _).out.mono ?_; rintro e w' ⟨rfl, n, rfl⟩) | (go_at_call 16; with_reducible refine (DS _).out.mono ?_; rintro e w' ⟨rfl, n, rfl⟩))
    go_ret
    exact ⟨rfl, BC.out _⟩
  · cases vb
    · go_wp2_with (first | (go_at_call 17; with_reducible refine (DA _).out.mono ?_; rintro e w' ⟨rfl, n, rfl⟩) | (go_at_call 17; with_reducible refine (DB _).out.mono ?_; rintro e w' ⟨rfl, n, rfl⟩) | (go_at_call 16; with_reducible refine (DS _).out.mono ?_; rintro e w' ⟨rfl, n, rfl⟩))
      go_ret
      exact ⟨rfl, BC.out _⟩
    · cases vc
      · go_wp2_with (first | (go_at_call 17; with_reducible refine (DA _).out.mono ?_; rintro e w' ⟨rfl, n, rfl⟩) | (go_at_call 17; with_reducible refine (DB _).out.mono ?_; rintro e w' ⟨rfl, n, rfl⟩) | (go_at_call 17; with_reducible refine (DC _).out.mono ?_; rintro e w' ⟨rfl, n, rfl⟩) | (go_at_call 16; with_reducible refine (DS _).out.mono ?_; rintro e w' ⟨rfl, n, rfl⟩))
        go_ret
        exact ⟨rfl, BC.out _⟩
      · by_cases hx1 : -1000 ≤ x ∧ x ≤ 1000 ∧ -1000 ≤ y ∧ y ≤ 1000
        · obtain ⟨x1, x2, y1, y2⟩ := hx1
          go_wp2_with (first | (go_at_call 17; with_reducible refine (DA _).out.mono ?_; rintro e w' ⟨rfl, n, rfl⟩) | (go_at_call 17; with_reducible refine (DB _).out.mono ?_; rintro e w' ⟨rfl, n, rfl⟩) | (go_at_call 17; with_reducible refine (DC _).out.mono ?_; rintro e w' ⟨rfl, n, rfl⟩) | (go_at_call 16; with_reducible refine (DS _).out.mono ?_; rintro e w' ⟨rfl, n, rfl⟩))
          have ke := fun W => eqP_run a b W
          have hpe : ptE a b = (d == 0) := by
            obtain ⟨_, hd, ha, hb, _⟩ := HV.out
            rw [← hd, dst, ha, hb]
            unfold ptE
            have := dq_zero a b
            by_cases h : a = b <;> simp_all
          rw [hpe] at ke
          obtain ⟨z, hz⟩ : ∃ z, (d == 0) = z := ⟨_, rfl⟩
          rw [hz] at ke
          clear hpe
          refine wp_region_in C (HC.out _ _ (Wd.h _) (below_dr _)) (by kernel_rfl) (by kernel_rfl) ?_
          repeat (go_big_quiet_step (first | with_reducible exact (D4 _).out))
          refine wpQuiet_nil ?_
          intro wx hwx
          obtain ⟨n2, rfl⟩ : ∃ n : Wd C, wx = n.w := ⟨⟨wx, hwx⟩, rfl⟩
          clear hwx
          have hzz : (z != z) = false := by simp
          have HM : Hid ((wrap64 (a.x + x) = a.x + x ∧ wrap64 (a.y + y) = a.y + y) ∧ (wrap64 (b.x + x) = b.x + x ∧ wrap64 (b.y + y) = b.y + y) ∧ (wrap64 (c.x + x) = c.x + x ∧ wrap64 (c.y + y) = c.y + y)) := by
            obtain ⟨_, _, ha, hb, hc⟩ := HV.out
            obtain ⟨a1, a2⟩ := okP_iff.1 ha
            obtain ⟨b1, b2⟩ := okP_iff.1 hb
            obtain ⟨c1, c2⟩ := okP_iff.1 hc
            exact ⟨⟨w64 (by omega), w64 (by omega)⟩, ⟨w64 (by omega), w64 (by omega)⟩, w64 (by omega), w64 (by omega)⟩
          have MA := cin HC (fun W => moved_any a x y W)
          rw [HM.out.1.1, HM.out.1.2] at MA
          go_wp2_with (first | (go_at_call 67; with_reducible refine (MA _).out.mono ?_; rintro e w' ⟨rfl, n, rfl⟩))
          obtain ⟨W0, hW0⟩ : ∃ W0, (n.w).alloc (.cells #[.int .i64 (a.x + x), .int .i64 (a.y + y)] 23) = W0 := ⟨_, rfl⟩
          have S0 : St w W0 [(n.w.heap.size, 0, .int .i64 (a.x + x)), (n.w.heap.size, 1, .int .i64 (a.y + y)), (w.heap.size + 1 + 1, 0, .int .i64 c.x), (w.heap.size + 1 + 1, 1, .int .i64 c.y), (w.heap.size + 1, 0, .int .i64 b.x), (w.heap.size + 1, 1, .int .i64 b.y), (w.heap.size, 0, .int .i64 a.x), (w.heap.size, 1, .int .i64 a.y)] := by rw [← hW0]; exact ((⟨BC.out n, LC.out n⟩ : St w n.w _)).box #[.int .i64 (a.x + x), .int .i64 (a.y + y)] 23 (n.w.heap.size) (by simp)
          rw [hW0]
          clear hW0
          obtain ⟨kD, hkk⟩ : ∃ k, n.w.heap.size = k := ⟨_, rfl⟩
          rw [hkk] at S0 ⊢
          clear hkk
          obtain ⟨D, hC0, HD, LD, BD, hne⟩ := cls S0
          haveI := hne
          obtain ⟨d0, rfl⟩ : ∃ n : Wd D, W0 = n.w := ⟨⟨_, hC0⟩, rfl⟩
          have fD0 : ∀ n : Wd D, n.w.cell? ⟨kD, 0, none⟩ = some (.int .i64 (a.x + x)) := fun n => (LD.out n).1.2.1
          have fD1 : ∀ n : Wd D, n.w.cell? ⟨kD, 1, none⟩ = some (.int .i64 (a.y + y)) := fun n => (LD.out n).2.1.2.1
          have fD2 : ∀ n : Wd D, n.w.cell? ⟨w.heap.size + 1 + 1, 0, none⟩ = some (.int .i64 c.x) := fun n => (LD.out n).2.2.1.2.1
          have fD3 : ∀ n : Wd D, n.w.cell? ⟨w.heap.size + 1 + 1, 1, none⟩ = some (.int .i64 c.y) := fun n => (LD.out n).2.2.2.1.2.1
          have fD4 : ∀ n : Wd D, n.w.cell? ⟨w.heap.size + 1, 0, none⟩ = some (.int .i64 b.x) := fun n => (LD.out n).2.2.2.2.1.2.1
          have fD5 : ∀ n : Wd D, n.w.cell? ⟨w.heap.size + 1, 1, none⟩ = some (.int .i64 b.y) := fun n => (LD.out n).2.2.2.2.2.1.2.1
          have fD6 : ∀ n : Wd D, n.w.cell? ⟨w.heap.size, 0, none⟩ = some (.int .i64 a.x) := fun n => (LD.out n).2.2.2.2.2.2.1.2.1
          have fD7 : ∀ n : Wd D, n.w.cell? ⟨w.heap.size, 1, none⟩ = some (.int .i64 a.y) := fun n => (LD.out n).2.2.2.2.2.2.2.1.2.1
          clear S0 hC0
          have MB := cin HD (fun W => moved_any b x y W)
          rw [HM.out.2.1.1, HM.out.2.1.2] at MB
          go_wp2_with (first | (go_at_call 67; with_reducible refine (MB _).out.mono ?_; rintro e w' ⟨rfl, n, rfl⟩))
          obtain ⟨W0, hW0⟩ : ∃ W0, (n.w).alloc (.cells #[.int .i64 (b.x + x), .int .i64 (b.y + y)] 23) = W0 := ⟨_, rfl⟩
          have S0 : St w W0 [(n.w.heap.size, 0, .int .i64 (b.x + x)), (n.w.heap.size, 1, .int .i64 (b.y + y)), (kD, 0, .int .i64 (a.x + x)), (kD, 1, .int .i64 (a.y + y)), (w.heap.size + 1 + 1, 0, .int .i64 c.x), (w.heap.size + 1 + 1, 1, .int .i64 c.y), (w.heap.size + 1, 0, .int .i64 b.x), (w.heap.size + 1, 1, .int .i64 b.y), (w.heap.size, 0, .int .i64 a.x), (w.heap.size, 1, .int .i64 a.y)] := by rw [← hW0]; exact ((⟨BD.out n, LD.out n⟩ : St w n.w _)).box #[.int .i64 (b.x + x), .int .i64 (b.y + y)] 23 (n.w.heap.size) (by simp)
          rw [hW0]
          clear hW0
          obtain ⟨kE, hkk⟩ : ∃ k, n.w.heap.size = k := ⟨_, rfl⟩
          rw [hkk] at S0 ⊢
          clear hkk
          obtain ⟨E, hC0, HE, LE, BE, hne⟩ := cls S0
          haveI := hne
          obtain ⟨e0, rfl⟩ : ∃ n : Wd E, W0 = n.w := ⟨⟨_, hC0⟩, rfl⟩
          have fE0 : ∀ n : Wd E, n.w.cell? ⟨kE, 0, none⟩ = some (.int .i64 (b.x + x)) := fun n => (LE.out n).1.2.1
          have fE1 : ∀ n : Wd E, n.w.cell? ⟨kE, 1, none⟩ = some (.int .i64 (b.y + y)) := fun n => (LE.out n).2.1.2.1
          have fE2 : ∀ n : Wd E, n.w.cell? ⟨kD, 0, none⟩ = some (.int .i64 (a.x + x)) := fun n => (LE.out n).2.2.1.2.1
          have fE3 : ∀ n : Wd E, n.w.cell? ⟨kD, 1, none⟩ = some (.int .i64 (a.y + y)) := fun n => (LE.out n).2.2.2.1.2.1
          have fE4 : ∀ n : Wd E, n.w.cell? ⟨w.heap.size + 1 + 1, 0, none⟩ = some (.int .i64 c.x) := fun n => (LE.out n).2.2.2.2.1.2.1
          have fE5 : ∀ n : Wd E, n.w.cell? ⟨w.heap.size + 1 + 1, 1, none⟩ = some (.int .i64 c.y) := fun n => (LE.out n).2.2.2.2.2.1.2.1
          have fE6 : ∀ n : Wd E, n.w.cell? ⟨w.heap.size + 1, 0, none⟩ = some (.int .i64 b.x) := fun n => (LE.out n).2.2.2.2.2.2.1.2.1
          have fE7 : ∀ n : Wd E, n.w.cell? ⟨w.heap.size + 1, 1, none⟩ = some (.int .i64 b.y) := fun n => (LE.out n).2.2.2.2.2.2.2.1.2.1
          have fE8 : ∀ n : Wd E, n.w.cell? ⟨w.heap.size, 0, none⟩ = some (.int .i64 a.x) := fun n => (LE.out n).2.2.2.2.2.2.2.2.1.2.1
          have fE9 : ∀ n : Wd E, n.w.cell? ⟨w.heap.size, 1, none⟩ = some (.int .i64 a.y) := fun n => (LE.out n).2.2.2.2.2.2.2.2.2.1.2.1
          clear S0 hC0
          have MC := cin HE (fun W => moved_any c x y W)
          rw [HM.out.2.2.1, HM.out.2.2.2] at MC
          go_wp2_with (first | (go_at_call 67; with_reducible refine (MC _).out.mono ?_; rintro e w' ⟨rfl, n, rfl⟩))
          obtain ⟨W0, hW0⟩ : ∃ W0, (n.w).alloc (.cells #[.int .i64 (c.x + x), .int .i64 (c.y + y)] 23) = W0 := ⟨_, rfl⟩
          have S0 : St w W0 [(n.w.heap.size, 0, .int .i64 (c.x + x)), (n.w.heap.size, 1, .int .i64 (c.y + y)), (kE, 0, .int .i64 (b.x + x)), (kE, 1, .int .i64 (b.y + y)), (kD, 0, .int .i64 (a.x + x)), (kD, 1, .int .i64 (a.y + y)), (w.heap.size + 1 + 1, 0, .int .i64 c.x), (w.heap.size + 1 + 1, 1, .int .i64 c.y), (w.heap.size + 1, 0, .int .i64 b.x), (w.heap.size + 1, 1, .int .i64 b.y), (w.heap.size, 0, .int .i64 a.x), (w.heap.size, 1, .int .i64 a.y)] := by rw [← hW0]; exact ((⟨BE.out n, LE.out n⟩ : St w n.w _)).box #[.int .i64 (c.x + x), .int .i64 (c.y + y)] 23 (n.w.heap.size) (by simp)
          rw [hW0]
          clear hW0
          obtain ⟨kF, hkk⟩ : ∃ k, n.w.heap.size = k := ⟨_, rfl⟩
          rw [hkk] at S0 ⊢
          clear hkk
          obtain ⟨F, hC0, HF, LF, BF, hne⟩ := cls S0
          haveI := hne
          obtain ⟨f0, rfl⟩ : ∃ n : Wd F, W0 = n.w := ⟨⟨_, hC0⟩, rfl⟩
          have fF0 : ∀ n : Wd F, n.w.cell? ⟨kF, 0, none⟩ = some (.int .i64 (c.x + x)) := fun n => (LF.out n).1.2.1
          have fF1 : ∀ n : Wd F, n.w.cell? ⟨kF, 1, none⟩ = some (.int .i64 (c.y + y)) := fun n => (LF.out n).2.1.2.1
          have fF2 : ∀ n : Wd F, n.w.cell? ⟨kE, 0, none⟩ = some (.int .i64 (b.x + x)) := fun n => (LF.out n).2.2.1.2.1
          have fF3 : ∀ n : Wd F, n.w.cell? ⟨kE, 1, none⟩ = some (.int .i64 (b.y + y)) := fun n => (LF.out n).2.2.2.1.2.1
          have fF4 : ∀ n : Wd F, n.w.cell? ⟨kD, 0, none⟩ = some (.int .i64 (a.x + x)) := fun n => (LF.out n).2.2.2.2.1.2.1
          have fF5 : ∀ n : Wd F, n.w.cell? ⟨kD, 1, none⟩ = some (.int .i64 (a.y + y)) := fun n => (LF.out n).2.2.2.2.2.1.2.1
          have fF6 : ∀ n : Wd F, n.w.cell? ⟨w.heap.size + 1 + 1, 0, none⟩ = some (.int .i64 c.x) := fun n => (LF.out n).2.2.2.2.2.2.1.2.1
          have fF7 : ∀ n : Wd F, n.w.cell? ⟨w.heap.size + 1 + 1, 1, none⟩ = some (.int .i64 c.y) := fun n => (LF.out n).2.2.2.2.2.2.2.1.2.1
          have fF8 : ∀ n : Wd F, n.w.cell? ⟨w.heap.size + 1, 0, none⟩ = some (.int .i64 b.x) := fun n => (LF.out n).2.2.2.2.2.2.2.2.1.2.1
          have fF9 : ∀ n : Wd F, n.w.cell? ⟨w.heap.size + 1, 1, none⟩ = some (.int .i64 b.y) := fun n => (LF.out n).2.2.2.2.2.2.2.2.2.1.2.1
          have fF10 : ∀ n : Wd F, n.w.cell? ⟨w.heap.size, 0, none⟩ = some (.int .i64 a.x) := fun n => (LF.out n).2.2.2.2.2.2.2.2.2.2.1.2.1
          have fF11 : ∀ n : Wd F, n.w.cell? ⟨w.heap.size, 1, none⟩ = some (.int .i64 a.y) := fun n => (LF.out n).2.2.2.2.2.2.2.2.2.2.2.1.2.1
          clear S0 hC0
          have DS := cin HF sanity_any
          obtain ⟨vp, hvp⟩ : ∃ v, okP ⟨a.x + x, a.y + y⟩ = v := ⟨_, rfl⟩
          obtain ⟨vq, hvq⟩ : ∃ v, okP ⟨b.x + x, b.y + y⟩ = v := ⟨_, rfl⟩
          obtain ⟨vs, hvs⟩ : ∃ v, okP ⟨c.x + x, c.y + y⟩ = v := ⟨_, rfl⟩
          have VP := cin HF (fun W => Valid_any ⟨a.x + x, a.y + y⟩ W)
          have VQ := cin HF (fun W => Valid_any ⟨b.x + x, b.y + y⟩ W)
          have VS := cin HF (fun W => Valid_any ⟨c.x + x, c.y + y⟩ W)
          rw [hvp] at VP
          rw [hvq] at VQ
          rw [hvs] at VS
          have HV2 := Lib.hid (And.intro hvp (And.intro hvq hvs))
          clear hvp hvq hvs
          cases vp
          · go_wp2_with (first | (go_at_call 17; with_reducible refine (VP _).out.mono ?_; rintro e w' ⟨rfl, n, rfl⟩) | (go_at_call 16; with_reducible refine (DS _).out.mono ?_; rintro e w' ⟨rfl, n, rfl⟩))
            go_ret
            exact ⟨rfl, BF.out _⟩
          · cases vq
            · go_wp2_with (first | (go_at_call 17; with_reducible refine (VP _).out.mono ?_; rintro e w' ⟨rfl, n, rfl⟩) | (go_at_call 17; with_reducible refine (VQ _).out.mono ?_; rintro e w' ⟨rfl, n, rfl⟩) | (go_at_call 16; with_reducible refine (DS _).out.mono ?_; rintro e w' ⟨rfl, n, rfl⟩))
              go_ret
              exact ⟨rfl, BF.out _⟩
            · cases vs
              · go_wp2_with (first | (go_at_call 17; with_reducible refine (VP _).out.mono ?_; rintro e w' ⟨rfl, n, rfl⟩) | (go_at_call 17; with_reducible refine (VQ _).out.mono ?_; rintro e w' ⟨rfl, n, rfl⟩) | (go_at_call 17; with_reducible refine (VS _).out.mono ?_; rintro e w' ⟨rfl, n, rfl⟩) | (go_at_call 16; with_reducible refine (DS _).out.mono ?_; rintro e w' ⟨rfl, n, rfl⟩))
                go_ret
                exact ⟨rfl, BF.out _⟩
              · have T9 : ∀ W, Calls Try.prog 19 #[Pt.v ⟨a.x + x, a.y + y⟩, Pt.v ⟨b.x + x, b.y + y⟩, Pt.v ⟨c.x + x, c.y + y⟩] W fun e w' => e = .returned (.int .i64 t) ∧ Below W.heap.size W w' := fun W => by
                  obtain ⟨h1, h2, h3, h4, h5⟩ := HV.out
                  obtain ⟨h6, h7, h8⟩ := HV2.out
                  have e : trn ⟨a.x + x, a.y + y⟩ ⟨b.x + x, b.y + y⟩ ⟨c.x + x, c.y + y⟩ = t := by rw [← h1]; unfold trn; rw [h3, h4, h5, h6, h7, h8, ar_mv]
                  rw [← e]; exact Turn_any _ _ _ W
                have Q8 : ∀ W, Calls Try.prog 21 #[a.v, b.v] W fun e w' => e = .returned (.int .i64 d) ∧ Below W.heap.size W w' := fun W => by rw [← HV.out.2.1]; exact Dist_any a b W
                have Q9 : ∀ W, Calls Try.prog 21 #[Pt.v ⟨a.x + x, a.y + y⟩, Pt.v ⟨b.x + x, b.y + y⟩] W fun e w' => e = .returned (.int .i64 d) ∧ Below W.heap.size W w' := fun W => by
                  obtain ⟨h1, h2, h3, h4, h5⟩ := HV.out
                  obtain ⟨h6, h7, h8⟩ := HV2.out
                  have e : dst ⟨a.x + x, a.y + y⟩ ⟨b.x + x, b.y + y⟩ = d := by rw [← h2]; unfold dst; rw [h3, h4, h6, h7, dq_mv]
                  rw [← e]; exact Dist_any _ _ W
                have D1 := cin HF T9
                have D2 := cin HF Q8
                have D3 := cin HF Q9
                clear T9 Q8 Q9
                go_wp2_with (first | (go_at_call 17; with_reducible refine (VP _).out.mono ?_; rintro e w' ⟨rfl, n, rfl⟩) | (go_at_call 17; with_reducible refine (VQ _).out.mono ?_; rintro e w' ⟨rfl, n, rfl⟩) | (go_at_call 17; with_reducible refine (VS _).out.mono ?_; rintro e w' ⟨rfl, n, rfl⟩))
                refine wp_region_in F (HF.out _ _ (Wd.h _) (below_dr _)) (by kernel_rfl) (by kernel_rfl) ?_
                repeat (go_big_quiet_step (first | with_reducible exact (D1 _).out | with_reducible exact (D2 _).out | with_reducible exact (D3 _).out | with_reducible exact (DS _).out))
                refine wpQuiet_nil ?_
                intro wx hwx
                obtain ⟨n9, rfl⟩ : ∃ n : Wd F, wx = n.w := ⟨⟨wx, hwx⟩, rfl⟩
                clear hwx
                go_wp2_with fail
                go_ret
                exact ⟨rfl, BF.out _⟩
        · go_wp2_with (first | (go_at_call 17; with_reducible refine (DA _).out.mono ?_; rintro e w' ⟨rfl, n, rfl⟩) | (go_at_call 17; with_reducible refine (DB _).out.mono ?_; rintro e w' ⟨rfl, n, rfl⟩) | (go_at_call 17; with_reducible refine (DC _).out.mono ?_; rintro e w' ⟨rfl, n, rfl⟩) | (go_at_call 16; with_reducible refine (DS _).out.mono ?_; rintro e w' ⟨rfl, n, rfl⟩))
          all_goals (first | (exfalso; omega) | (go_ret; exact ⟨rfl, BC.out _⟩))
end Go.Proofs.Ytdefpcjlbganpaa
