import Derived.RangeFuncNested
import Derived.RangeFuncBox
import Derived.RangeFuncBound
import Derived.RangeFuncCalls
import Derived.RangeFuncLeaves
import Derived.Shelf.Abstract
import Derived.Shelf.RegionOpen
import Derived.BigRegionIn
import Derived.Stop.RegionWithIn
import Derived.WalkKit
import Derived.OwnWalkIn
import Derived.TacticsInMore
import Derived.LoopNIn
import Derived.LoopIn
import Derived.Lib.Hide
import Derived.IntWalk
import Derived.Deep.QuietTactic
import Derived.Deep.RegionHeld3
import Derived.Deep.RegionLaw
import Derived.StillTailTactics
import Derived.WalkSmall
import Derived.Deep.DeepMust
import Derived.BigQuiet
import Derived.LoopTactic
import Derived.Test.YtdefpcjlbganpaaMDist
import Derived.Test.YtdefpcjlbganpaaMRef
import Derived.Lib.MinMax
import Derived.Deep.DeepCutAuto
import Derived.Deep.CutBlock
namespace Go.Proofs.Ytdefpcjlbganpaa
open Go.RowKit Go.Shelf Go.BigFrame
attribute [local go_sem] Oper.semAt_some
attribute [local go_sem] World.cell?_alloc_some
/-- One fold over all corners. -/
def spF (p q r : Nat → Pt) (s : Sp) : Nat → Sp
  | 0 => s
  | k + 1 => acc (spF p q r s k) (ar (p (k / 16)) (q (k / 4 % 4)) (r (k % 4)))
theorem spF_K (p q r : Nat → Pt) (s : Sp) (i j : Nat) (hj : j < 4) : ∀ k, k ≤ 4 → spF p q r s (16 * i + 4 * j + k) = spK (p i) (q j) r (spF p q r s (16 * i + 4 * j)) k
  | 0, _ => rfl
  | k + 1, hk => by
    have e : 16 * i + 4 * j + (k + 1) = (16 * i + 4 * j + k) + 1 := by omega
    rw [e, spF, spF_K p q r s i j hj k (by omega), spK]
    have h1 : (16 * i + 4 * j + k) / 16 = i := by omega
    have h2 : (16 * i + 4 * j + k) / 4 % 4 = j := by omega
    have h3 : (16 * i + 4 * j + k) % 4 = k := by omega
    rw [h1, h2, h3]
theorem spF_J (p q r : Nat → Pt) (s : Sp) (i : Nat) : ∀ j, j ≤ 4 → spF p q r s (16 * i + 4 * j) = spJ (p i) q r (spF p q r s (16 * i)) j
  | 0, _ => rfl
  | j + 1, hj => by
    have e : 16 * i + 4 * (j + 1) = 16 * i + 4 * j + 4 := by omega
    rw [e, spF_K p q r s i j (by omega) 4 (by omega), spF_J p q r s i j (by omega), spJ]
theorem spF_I (p q r : Nat → Pt) (s : Sp) : ∀ i, spF p q r s (16 * i) = spI p q r s i
  | 0 => rfl
  | i + 1 => by
    have e : 16 * (i + 1) = 16 * i + 4 * 4 := by omega
    rw [e, spF_J p q r s i 4 (by omega), spF_I p q r s i, spI]
theorem sprd_F (p q r : Nat → Pt) : sprd p q r = spF p q r ⟨ar (p 0) (q 0) (r 0), ar (p 0) (q 0) (r 0)⟩ 64 := (spF_I p q r _ 4).symm
theorem spF_le (p q r : Nat → Pt) (s : Sp) : ∀ n k, k < n → (spF p q r s n).lo ≤ ar (p (k / 16)) (q (k / 4 % 4)) (r (k % 4)) ∧ ar (p (k / 16)) (q (k / 4 % 4)) (r (k % 4)) ≤ (spF p q r s n).hi
  | 0, k, h => absurd h (by omega)
  | n + 1, k, h => by
    rw [spF, acc, cvS]
    rcases Nat.lt_or_ge k n with h' | h'
    · have := spF_le p q r s n k h'
      simp only; omega
    · obtain rfl : k = n := by omega
      simp only; omega
theorem spF_at (p q r : Nat → Pt) (s : Sp) : ∀ n, ((spF p q r s n).lo = s.lo ∨ ∃ k, k < n ∧ (spF p q r s n).lo = ar (p (k / 16)) (q (k / 4 % 4)) (r (k % 4))) ∧ ((spF p q r s n).hi = s.hi ∨ ∃ k, k < n ∧ (spF p q r s n).hi = ar (p (k / 16)) (q (k / 4 % 4)) (r (k % 4)))
  | 0 => ⟨.inl rfl, .inl rfl⟩
  | n + 1 => by
    obtain ⟨h1, h2⟩ := spF_at p q r s n
    rw [spF, acc, cvS]
    obtain ⟨v, hv⟩ : ∃ v, ar (p (n / 16)) (q (n / 4 % 4)) (r (n % 4)) = v := ⟨_, rfl⟩
    rw [hv]
    constructor
    · by_cases h : (spF p q r s n).lo ≤ v
      · rw [show min (spF p q r s n).lo v = (spF p q r s n).lo by omega]
        rcases h1 with h1 | ⟨k, hk, e⟩
        · exact .inl h1
        · exact .inr ⟨k, by omega, e⟩
      · exact .inr ⟨n, by omega, by rw [hv]; simp only; omega⟩
    · by_cases h : v ≤ (spF p q r s n).hi
      · rw [show max (spF p q r s n).hi v = (spF p q r s n).hi by omega]
        rcases h2 with h2 | ⟨k, hk, e⟩
        · exact .inl h2
        · exact .inr ⟨k, by omega, e⟩
      · exact .inr ⟨n, by omega, by rw [hv]; simp only; omega⟩
/-- Corners bound. -/
theorem sprd_le (p q r : Nat → Pt) (i j k : Nat) (hi : i < 4) (hj : j < 4) (hk : k < 4) : (sprd p q r).lo ≤ ar (p i) (q j) (r k) ∧ ar (p i) (q j) (r k) ≤ (sprd p q r).hi := by
  rw [sprd_F]
  have := spF_le p q r ⟨ar (p 0) (q 0) (r 0), ar (p 0) (q 0) (r 0)⟩ 64 (16 * i + 4 * j + k) (by omega)
  rw [show (16 * i + 4 * j + k) / 16 = i by omega, show (16 * i + 4 * j + k) / 4 % 4 = j by omega, show (16 * i + 4 * j + k) % 4 = k by omega] at this
  exact this
/-- Corners attain. -/
theorem sprd_at (p q r : Nat → Pt) : (∃ k, k < 64 ∧ (sprd p q r).lo = ar (p (k / 16)) (q (k / 4 % 4)) (r (k % 4))) ∧ (∃ k, k < 64 ∧ (sprd p q r).hi = ar (p (k / 16)) (q (k / 4 % 4)) (r (k % 4))) := by
  rw [sprd_F]
  obtain ⟨h1, h2⟩ := spF_at p q r ⟨ar (p 0) (q 0) (r 0), ar (p 0) (q 0) (r 0)⟩ 64
  exact ⟨h1.elim (fun h => ⟨0, by omega, h⟩) id, h2.elim (fun h => ⟨0, by omega, h⟩) id⟩
theorem cells4 {W : World} {k : Nat} {f : Nat → Pt} (h0 : W.cell? ⟨k, 0, none⟩ = some (.int .i64 (f 0).x)) (h1 : W.cell? ⟨k, 1, none⟩ = some (.int .i64 (f 0).y)) (h2 : W.cell? ⟨k, 2, none⟩ = some (.int .i64 (f 1).x)) (h3 : W.cell? ⟨k, 3, none⟩ = some (.int .i64 (f 1).y)) (h4 : W.cell? ⟨k, 4, none⟩ = some (.int .i64 (f 2).x)) (h5 : W.cell? ⟨k, 5, none⟩ = some (.int .i64 (f 2).y)) (h6 : W.cell? ⟨k, 6, none⟩ = some (.int .i64 (f 3).x)) (h7 : W.cell? ⟨k, 7, none⟩ = some (.int .i64 (f 3).y)) (m : Nat) (hm : m < 4) :
    W.cell? ⟨k, m * 2, none⟩ = some (.int .i64 (f m).x) ∧ W.cell? ⟨k, m * 2 + 1, none⟩ = some (.int .i64 (f m).y) := by
  match m, hm with
  | 0, _ => exact ⟨h0, h1⟩
  | 1, _ => exact ⟨h2, h3⟩
  | 2, _ => exact ⟨h4, h5⟩
  | 3, _ => exact ⟨h6, h7⟩
set_option maxRecDepth 100000 in
set_option maxHeartbeats 16000000 in
theorem rSpread_any (a b c : Bx) (w : World) : Calls Try.prog 60 #[a.v, b.v, c.v] w fun e w' => e = .returned (spRes (sprO a b c)) ∧ Below w.heap.size w w' := by
  have C1 := fun W => rProper_any a W
  have C2 := fun W => rProper_any b W
  have C3 := fun W => rProper_any c W
  have K1 := fun W => rCorners_any a W
  have K2 := fun W => rCorners_any b W
  have K3 := fun W => rCorners_any c W
  obtain ⟨za, hza⟩ : ∃ z, okB a = z := ⟨_, rfl⟩
  obtain ⟨zb, hzb⟩ : ∃ z, okB b = z := ⟨_, rfl⟩
  obtain ⟨zc, hzc⟩ : ∃ z, okB c = z := ⟨_, rfl⟩
  have TA : Hid (za = true → zb = true → zc = true → ∀ i j k W, Calls Try.prog 82 #[(cr a i).v, (cr b j).v, (cr c k).v] W fun e w' => e = .returned (.int .i64 (ar (cr a i) (cr b j) (cr c k))) ∧ Below W.heap.size W w') := by
    intro h1 h2 h3 i j k W
    exact twice_any _ _ _ W (cr_ok (by rw [hza, h1]) i) (cr_ok (by rw [hzb, h2]) j) (cr_ok (by rw [hzc, h3]) k)
  obtain ⟨R, hR⟩ : ∃ R, sprO a b c = R := ⟨_, rfl⟩
  have HR : Hid (R = if za && (zb && zc) then some (spF (cr a) (cr b) (cr c) ⟨ar (cr a 0) (cr b 0) (cr c 0), ar (cr a 0) (cr b 0) (cr c 0)⟩ 64) else none) := by
    rw [← hR, ← hza, ← hzb, ← hzc]
    unfold Hid sprO
    rw [sprd_F]
  rw [hR]
  simp only [hza] at C1
  simp only [hzb] at C2
  simp only [hzc] at C3
  clear hza hzb hzc hR
  obtain ⟨f, hf⟩ : ∃ f, cr a = f := ⟨_, rfl⟩
  obtain ⟨g, hg⟩ : ∃ f, cr b = f := ⟨_, rfl⟩
  obtain ⟨h, hh⟩ : ∃ f, cr c = f := ⟨_, rfl⟩
  simp only [hf] at K1 TA HR
  simp only [hg] at K2 TA HR
  simp only [hh] at K3 TA HR
  clear hf hg hh
  go_enter Try.func60, Try.ntmps60
  go_wp2_with fail
  obtain ⟨W0, hW0⟩ : ∃ W0, ((((w).alloc (.cells #[.int .i64 a.x.lo, .int .i64 a.x.hi, .int .i64 a.y.lo, .int .i64 a.y.hi] 60)).alloc (.cells #[.int .i64 b.x.lo, .int .i64 b.x.hi, .int .i64 b.y.lo, .int .i64 b.y.hi] 60)).alloc (.cells #[.int .i64 c.x.lo, .int .i64 c.x.hi, .int .i64 c.y.lo, .int .i64 c.y.hi] 60)).alloc (.cells #[.int .i64 (0), .int .i64 (0)] 58) = W0 := ⟨_, rfl⟩
  have S0 : St w W0 [(w.heap.size + 1 + 1 + 1, 0, .int .i64 (0)), (w.heap.size + 1 + 1 + 1, 1, .int .i64 (0)), (w.heap.size + 1 + 1, 0, .int .i64 c.x.lo), (w.heap.size + 1 + 1, 1, .int .i64 c.x.hi), (w.heap.size + 1 + 1, 2, .int .i64 c.y.lo), (w.heap.size + 1 + 1, 3, .int .i64 c.y.hi), (w.heap.size + 1, 0, .int .i64 b.x.lo), (w.heap.size + 1, 1, .int .i64 b.x.hi), (w.heap.size + 1, 2, .int .i64 b.y.lo), (w.heap.size + 1, 3, .int .i64 b.y.hi), (w.heap.size, 0, .int .i64 a.x.lo), (w.heap.size, 1, .int .i64 a.x.hi), (w.heap.size, 2, .int .i64 a.y.lo), (w.heap.size, 3, .int .i64 a.y.hi)] := by rw [← hW0]; exact (((((St.nil w)).box #[.int .i64 a.x.lo, .int .i64 a.x.hi, .int .i64 a.y.lo, .int .i64 a.y.hi] 60 (w.heap.size) (by simp)).box #[.int .i64 b.x.lo, .int .i64 b.x.hi, .int .i64 b.y.lo, .int .i64 b.y.hi] 60 (w.heap.size + 1) (by simp)).box #[.int .i64 c.x.lo, .int .i64 c.x.hi, .int .i64 c.y.lo, .int .i64 c.y.hi] 60 (w.heap.size + 1 + 1) (by simp)).box #[.int .i64 (0), .int .i64 (0)] 58 (w.heap.size + 1 + 1 + 1) (by simp)
  rw [hW0]
  clear hW0
  obtain ⟨C, hC0, HC, LC, BC, hne⟩ := cls S0
  haveI := hne
  obtain ⟨c0, rfl⟩ : ∃ n : Wd C, W0 = n.w := ⟨⟨_, hC0⟩, rfl⟩
  have fC0 : ∀ n : Wd C, n.w.cell? ⟨w.heap.size + 1 + 1 + 1, 0, none⟩ = some (.int .i64 (0)) := fun n => (LC.out n).1.2.1
  have zC0 : ∀ n : Wd C, n.w.frozen? ⟨w.heap.size + 1 + 1 + 1, 0, none⟩ = false := fun n => (LC.out n).1.2.2
  have fC1 : ∀ n : Wd C, n.w.cell? ⟨w.heap.size + 1 + 1 + 1, 1, none⟩ = some (.int .i64 (0)) := fun n => (LC.out n).2.1.2.1
  have zC1 : ∀ n : Wd C, n.w.frozen? ⟨w.heap.size + 1 + 1 + 1, 1, none⟩ = false := fun n => (LC.out n).2.1.2.2
  have fC2 : ∀ n : Wd C, n.w.cell? ⟨w.heap.size + 1 + 1, 0, none⟩ = some (.int .i64 c.x.lo) := fun n => (LC.out n).2.2.1.2.1
  have zC2 : ∀ n : Wd C, n.w.frozen? ⟨w.heap.size + 1 + 1, 0, none⟩ = false := fun n => (LC.out n).2.2.1.2.2
  have fC3 : ∀ n : Wd C, n.w.cell? ⟨w.heap.size + 1 + 1, 1, none⟩ = some (.int .i64 c.x.hi) := fun n => (LC.out n).2.2.2.1.2.1
  have zC3 : ∀ n : Wd C, n.w.frozen? ⟨w.heap.size + 1 + 1, 1, none⟩ = false := fun n => (LC.out n).2.2.2.1.2.2
  have fC4 : ∀ n : Wd C, n.w.cell? ⟨w.heap.size + 1 + 1, 2, none⟩ = some (.int .i64 c.y.lo) := fun n => (LC.out n).2.2.2.2.1.2.1
  have zC4 : ∀ n : Wd C, n.w.frozen? ⟨w.heap.size + 1 + 1, 2, none⟩ = false := fun n => (LC.out n).2.2.2.2.1.2.2
  have fC5 : ∀ n : Wd C, n.w.cell? ⟨w.heap.size + 1 + 1, 3, none⟩ = some (.int .i64 c.y.hi) := fun n => (LC.out n).2.2.2.2.2.1.2.1
  have zC5 : ∀ n : Wd C, n.w.frozen? ⟨w.heap.size + 1 + 1, 3, none⟩ = false := fun n => (LC.out n).2.2.2.2.2.1.2.2
  have fC6 : ∀ n : Wd C, n.w.cell? ⟨w.heap.size + 1, 0, none⟩ = some (.int .i64 b.x.lo) := fun n => (LC.out n).2.2.2.2.2.2.1.2.1
  have zC6 : ∀ n : Wd C, n.w.frozen? ⟨w.heap.size + 1, 0, none⟩ = false := fun n => (LC.out n).2.2.2.2.2.2.1.2.2
  have fC7 : ∀ n : Wd C, n.w.cell? ⟨w.heap.size + 1, 1, none⟩ = some (.int .i64 b.x.hi) := fun n => (LC.out n).2.2.2.2.2.2.2.1.2.1
  have zC7 : ∀ n : Wd C, n.w.frozen? ⟨w.heap.size + 1, 1, none⟩ = false := fun n => (LC.out n).2.2.2.2.2.2.2.1.2.2
  have fC8 : ∀ n : Wd C, n.w.cell? ⟨w.heap.size + 1, 2, none⟩ = some (.int .i64 b.y.lo) := fun n => (LC.out n).2.2.2.2.2.2.2.2.1.2.1
  have zC8 : ∀ n : Wd C, n.w.frozen? ⟨w.heap.size + 1, 2, none⟩ = false := fun n => (LC.out n).2.2.2.2.2.2.2.2.1.2.2
  have fC9 : ∀ n : Wd C, n.w.cell? ⟨w.heap.size + 1, 3, none⟩ = some (.int .i64 b.y.hi) := fun n => (LC.out n).2.2.2.2.2.2.2.2.2.1.2.1
  have zC9 : ∀ n : Wd C, n.w.frozen? ⟨w.heap.size + 1, 3, none⟩ = false := fun n => (LC.out n).2.2.2.2.2.2.2.2.2.1.2.2
  have fC10 : ∀ n : Wd C, n.w.cell? ⟨w.heap.size, 0, none⟩ = some (.int .i64 a.x.lo) := fun n => (LC.out n).2.2.2.2.2.2.2.2.2.2.1.2.1
  have zC10 : ∀ n : Wd C, n.w.frozen? ⟨w.heap.size, 0, none⟩ = false := fun n => (LC.out n).2.2.2.2.2.2.2.2.2.2.1.2.2
  have fC11 : ∀ n : Wd C, n.w.cell? ⟨w.heap.size, 1, none⟩ = some (.int .i64 a.x.hi) := fun n => (LC.out n).2.2.2.2.2.2.2.2.2.2.2.1.2.1
  have zC11 : ∀ n : Wd C, n.w.frozen? ⟨w.heap.size, 1, none⟩ = false := fun n => (LC.out n).2.2.2.2.2.2.2.2.2.2.2.1.2.2
  have fC12 : ∀ n : Wd C, n.w.cell? ⟨w.heap.size, 2, none⟩ = some (.int .i64 a.y.lo) := fun n => (LC.out n).2.2.2.2.2.2.2.2.2.2.2.2.1.2.1
  have zC12 : ∀ n : Wd C, n.w.frozen? ⟨w.heap.size, 2, none⟩ = false := fun n => (LC.out n).2.2.2.2.2.2.2.2.2.2.2.2.1.2.2
  have fC13 : ∀ n : Wd C, n.w.cell? ⟨w.heap.size, 3, none⟩ = some (.int .i64 a.y.hi) := fun n => (LC.out n).2.2.2.2.2.2.2.2.2.2.2.2.2.1.2.1
  have zC13 : ∀ n : Wd C, n.w.frozen? ⟨w.heap.size, 3, none⟩ = false := fun n => (LC.out n).2.2.2.2.2.2.2.2.2.2.2.2.2.1.2.2
  clear S0 hC0
  have D1 := cin HC C1
  have D2 := cin HC C2
  have D3 := cin HC C3
  have D4 := cin HC K1
  clear C1 C2 C3 K1
  by_cases hz : za = true ∧ zb = true ∧ zc = true
  · obtain ⟨rfl, rfl, rfl⟩ := hz
    have TB := Lib.hid (TA.out rfl rfl rfl)
    have hRR : Hid (R = some (spF f g h ⟨ar (f 0) (g 0) (h 0), ar (f 0) (g 0) (h 0)⟩ 64)) := HR.out
    clear TA HR
    go_wp2_with (first | (go_at_call 54; with_reducible refine (D1 _).out.mono ?_; rintro e w' ⟨rfl, n, rfl⟩) | (go_at_call 54; with_reducible refine (D2 _).out.mono ?_; rintro e w' ⟨rfl, n, rfl⟩) | (go_at_call 54; with_reducible refine (D3 _).out.mono ?_; rintro e w' ⟨rfl, n, rfl⟩) | (go_at_call 58; with_reducible refine (D4 _).out.mono ?_; rintro e w' ⟨rfl, n, rfl⟩))
    obtain ⟨W0, hW0⟩ : ∃ W0, (n.w).alloc (.cells #[.int .i64 (f 0).x, .int .i64 (f 0).y, .int .i64 (f 1).x, .int .i64 (f 1).y, .int .i64 (f 2).x, .int .i64 (f 2).y, .int .i64 (f 3).x, .int .i64 (f 3).y] 68) = W0 := ⟨_, rfl⟩
    have S0 : St w W0 [(n.w.heap.size, 0, .int .i64 (f 0).x), (n.w.heap.size, 1, .int .i64 (f 0).y), (n.w.heap.size, 2, .int .i64 (f 1).x), (n.w.heap.size, 3, .int .i64 (f 1).y), (n.w.heap.size, 4, .int .i64 (f 2).x), (n.w.heap.size, 5, .int .i64 (f 2).y), (n.w.heap.size, 6, .int .i64 (f 3).x), (n.w.heap.size, 7, .int .i64 (f 3).y), (w.heap.size + 1 + 1 + 1, 0, .int .i64 (0)), (w.heap.size + 1 + 1 + 1, 1, .int .i64 (0)), (w.heap.size + 1 + 1, 0, .int .i64 c.x.lo), (w.heap.size + 1 + 1, 1, .int .i64 c.x.hi), (w.heap.size + 1 + 1, 2, .int .i64 c.y.lo), (w.heap.size + 1 + 1, 3, .int .i64 c.y.hi), (w.heap.size + 1, 0, .int .i64 b.x.lo), (w.heap.size + 1, 1, .int .i64 b.x.hi), (w.heap.size + 1, 2, .int .i64 b.y.lo), (w.heap.size + 1, 3, .int .i64 b.y.hi), (w.heap.size, 0, .int .i64 a.x.lo), (w.heap.size, 1, .int .i64 a.x.hi), (w.heap.size, 2, .int .i64 a.y.lo), (w.heap.size, 3, .int .i64 a.y.hi)] := by rw [← hW0]; exact ((⟨BC.out n, LC.out n⟩ : St w n.w _)).box #[.int .i64 (f 0).x, .int .i64 (f 0).y, .int .i64 (f 1).x, .int .i64 (f 1).y, .int .i64 (f 2).x, .int .i64 (f 2).y, .int .i64 (f 3).x, .int .i64 (f 3).y] 68 (n.w.heap.size) (by simp)
    rw [hW0]
    clear hW0
    obtain ⟨kD, hkk⟩ : ∃ k, n.w.heap.size = k := ⟨_, rfl⟩
    have gkD : w.heap.size ≤ kD := by rw [← hkk]; exact (BC.out n).size
    rw [hkk] at S0 ⊢
    have eD1 : kD ≠ w.heap.size + 1 + 1 + 1 := by have h := (LC.out n).1.1; omega
    have dD1 : w.heap.size + 1 + 1 + 1 ≠ kD := Ne.symm eD1
    have eD2 : kD ≠ w.heap.size + 1 + 1 := by have h := (LC.out n).2.2.1.1; omega
    have dD2 : w.heap.size + 1 + 1 ≠ kD := Ne.symm eD2
    have eD3 : kD ≠ w.heap.size + 1 := by have h := (LC.out n).2.2.2.2.2.2.1.1; omega
    have dD3 : w.heap.size + 1 ≠ kD := Ne.symm eD3
    have eD4 : kD ≠ w.heap.size := by have h := (LC.out n).2.2.2.2.2.2.2.2.2.2.1.1; omega
    have dD4 : w.heap.size ≠ kD := Ne.symm eD4
    clear hkk
    obtain ⟨D, hC0, HD, LD, BD, hne⟩ := cls S0
    haveI := hne
    obtain ⟨d0, rfl⟩ : ∃ n : Wd D, W0 = n.w := ⟨⟨_, hC0⟩, rfl⟩
    have fD0 : ∀ n : Wd D, n.w.cell? ⟨kD, 0, none⟩ = some (.int .i64 (f 0).x) := fun n => (LD.out n).1.2.1
    have zD0 : ∀ n : Wd D, n.w.frozen? ⟨kD, 0, none⟩ = false := fun n => (LD.out n).1.2.2
    have fD1 : ∀ n : Wd D, n.w.cell? ⟨kD, 1, none⟩ = some (.int .i64 (f 0).y) := fun n => (LD.out n).2.1.2.1
    have zD1 : ∀ n : Wd D, n.w.frozen? ⟨kD, 1, none⟩ = false := fun n => (LD.out n).2.1.2.2
    have fD2 : ∀ n : Wd D, n.w.cell? ⟨kD, 2, none⟩ = some (.int .i64 (f 1).x) := fun n => (LD.out n).2.2.1.2.1
    have zD2 : ∀ n : Wd D, n.w.frozen? ⟨kD, 2, none⟩ = false := fun n => (LD.out n).2.2.1.2.2
    have fD3 : ∀ n : Wd D, n.w.cell? ⟨kD, 3, none⟩ = some (.int .i64 (f 1).y) := fun n => (LD.out n).2.2.2.1.2.1
    have zD3 : ∀ n : Wd D, n.w.frozen? ⟨kD, 3, none⟩ = false := fun n => (LD.out n).2.2.2.1.2.2
    have fD4 : ∀ n : Wd D, n.w.cell? ⟨kD, 4, none⟩ = some (.int .i64 (f 2).x) := fun n => (LD.out n).2.2.2.2.1.2.1
    have zD4 : ∀ n : Wd D, n.w.frozen? ⟨kD, 4, none⟩ = false := fun n => (LD.out n).2.2.2.2.1.2.2
    have fD5 : ∀ n : Wd D, n.w.cell? ⟨kD, 5, none⟩ = some (.int .i64 (f 2).y) := fun n => (LD.out n).2.2.2.2.2.1.2.1
    have zD5 : ∀ n : Wd D, n.w.frozen? ⟨kD, 5, none⟩ = false := fun n => (LD.out n).2.2.2.2.2.1.2.2
    have fD6 : ∀ n : Wd D, n.w.cell? ⟨kD, 6, none⟩ = some (.int .i64 (f 3).x) := fun n => (LD.out n).2.2.2.2.2.2.1.2.1
    have zD6 : ∀ n : Wd D, n.w.frozen? ⟨kD, 6, none⟩ = false := fun n => (LD.out n).2.2.2.2.2.2.1.2.2
    have fD7 : ∀ n : Wd D, n.w.cell? ⟨kD, 7, none⟩ = some (.int .i64 (f 3).y) := fun n => (LD.out n).2.2.2.2.2.2.2.1.2.1
    have zD7 : ∀ n : Wd D, n.w.frozen? ⟨kD, 7, none⟩ = false := fun n => (LD.out n).2.2.2.2.2.2.2.1.2.2
    have fD8 : ∀ n : Wd D, n.w.cell? ⟨w.heap.size + 1 + 1 + 1, 0, none⟩ = some (.int .i64 (0)) := fun n => (LD.out n).2.2.2.2.2.2.2.2.1.2.1
    have zD8 : ∀ n : Wd D, n.w.frozen? ⟨w.heap.size + 1 + 1 + 1, 0, none⟩ = false := fun n => (LD.out n).2.2.2.2.2.2.2.2.1.2.2
    have fD9 : ∀ n : Wd D, n.w.cell? ⟨w.heap.size + 1 + 1 + 1, 1, none⟩ = some (.int .i64 (0)) := fun n => (LD.out n).2.2.2.2.2.2.2.2.2.1.2.1
    have zD9 : ∀ n : Wd D, n.w.frozen? ⟨w.heap.size + 1 + 1 + 1, 1, none⟩ = false := fun n => (LD.out n).2.2.2.2.2.2.2.2.2.1.2.2
    have fD10 : ∀ n : Wd D, n.w.cell? ⟨w.heap.size + 1 + 1, 0, none⟩ = some (.int .i64 c.x.lo) := fun n => (LD.out n).2.2.2.2.2.2.2.2.2.2.1.2.1
    have zD10 : ∀ n : Wd D, n.w.frozen? ⟨w.heap.size + 1 + 1, 0, none⟩ = false := fun n => (LD.out n).2.2.2.2.2.2.2.2.2.2.1.2.2
    have fD11 : ∀ n : Wd D, n.w.cell? ⟨w.heap.size + 1 + 1, 1, none⟩ = some (.int .i64 c.x.hi) := fun n => (LD.out n).2.2.2.2.2.2.2.2.2.2.2.1.2.1
    have zD11 : ∀ n : Wd D, n.w.frozen? ⟨w.heap.size + 1 + 1, 1, none⟩ = false := fun n => (LD.out n).2.2.2.2.2.2.2.2.2.2.2.1.2.2
    have fD12 : ∀ n : Wd D, n.w.cell? ⟨w.heap.size + 1 + 1, 2, none⟩ = some (.int .i64 c.y.lo) := fun n => (LD.out n).2.2.2.2.2.2.2.2.2.2.2.2.1.2.1
    have zD12 : ∀ n : Wd D, n.w.frozen? ⟨w.heap.size + 1 + 1, 2, none⟩ = false := fun n => (LD.out n).2.2.2.2.2.2.2.2.2.2.2.2.1.2.2
    have fD13 : ∀ n : Wd D, n.w.cell? ⟨w.heap.size + 1 + 1, 3, none⟩ = some (.int .i64 c.y.hi) := fun n => (LD.out n).2.2.2.2.2.2.2.2.2.2.2.2.2.1.2.1
    have zD13 : ∀ n : Wd D, n.w.frozen? ⟨w.heap.size + 1 + 1, 3, none⟩ = false := fun n => (LD.out n).2.2.2.2.2.2.2.2.2.2.2.2.2.1.2.2
    have fD14 : ∀ n : Wd D, n.w.cell? ⟨w.heap.size + 1, 0, none⟩ = some (.int .i64 b.x.lo) := fun n => (LD.out n).2.2.2.2.2.2.2.2.2.2.2.2.2.2.1.2.1
    have zD14 : ∀ n : Wd D, n.w.frozen? ⟨w.heap.size + 1, 0, none⟩ = false := fun n => (LD.out n).2.2.2.2.2.2.2.2.2.2.2.2.2.2.1.2.2
    have fD15 : ∀ n : Wd D, n.w.cell? ⟨w.heap.size + 1, 1, none⟩ = some (.int .i64 b.x.hi) := fun n => (LD.out n).2.2.2.2.2.2.2.2.2.2.2.2.2.2.2.1.2.1
    have zD15 : ∀ n : Wd D, n.w.frozen? ⟨w.heap.size + 1, 1, none⟩ = false := fun n => (LD.out n).2.2.2.2.2.2.2.2.2.2.2.2.2.2.2.1.2.2
    have fD16 : ∀ n : Wd D, n.w.cell? ⟨w.heap.size + 1, 2, none⟩ = some (.int .i64 b.y.lo) := fun n => (LD.out n).2.2.2.2.2.2.2.2.2.2.2.2.2.2.2.2.1.2.1
    have zD16 : ∀ n : Wd D, n.w.frozen? ⟨w.heap.size + 1, 2, none⟩ = false := fun n => (LD.out n).2.2.2.2.2.2.2.2.2.2.2.2.2.2.2.2.1.2.2
    have fD17 : ∀ n : Wd D, n.w.cell? ⟨w.heap.size + 1, 3, none⟩ = some (.int .i64 b.y.hi) := fun n => (LD.out n).2.2.2.2.2.2.2.2.2.2.2.2.2.2.2.2.2.1.2.1
    have zD17 : ∀ n : Wd D, n.w.frozen? ⟨w.heap.size + 1, 3, none⟩ = false := fun n => (LD.out n).2.2.2.2.2.2.2.2.2.2.2.2.2.2.2.2.2.1.2.2
    have fD18 : ∀ n : Wd D, n.w.cell? ⟨w.heap.size, 0, none⟩ = some (.int .i64 a.x.lo) := fun n => (LD.out n).2.2.2.2.2.2.2.2.2.2.2.2.2.2.2.2.2.2.1.2.1
    have zD18 : ∀ n : Wd D, n.w.frozen? ⟨w.heap.size, 0, none⟩ = false := fun n => (LD.out n).2.2.2.2.2.2.2.2.2.2.2.2.2.2.2.2.2.2.1.2.2
    have fD19 : ∀ n : Wd D, n.w.cell? ⟨w.heap.size, 1, none⟩ = some (.int .i64 a.x.hi) := fun n => (LD.out n).2.2.2.2.2.2.2.2.2.2.2.2.2.2.2.2.2.2.2.1.2.1
    have zD19 : ∀ n : Wd D, n.w.frozen? ⟨w.heap.size, 1, none⟩ = false := fun n => (LD.out n).2.2.2.2.2.2.2.2.2.2.2.2.2.2.2.2.2.2.2.1.2.2
    have fD20 : ∀ n : Wd D, n.w.cell? ⟨w.heap.size, 2, none⟩ = some (.int .i64 a.y.lo) := fun n => (LD.out n).2.2.2.2.2.2.2.2.2.2.2.2.2.2.2.2.2.2.2.2.1.2.1
    have zD20 : ∀ n : Wd D, n.w.frozen? ⟨w.heap.size, 2, none⟩ = false := fun n => (LD.out n).2.2.2.2.2.2.2.2.2.2.2.2.2.2.2.2.2.2.2.2.1.2.2
    have fD21 : ∀ n : Wd D, n.w.cell? ⟨w.heap.size, 3, none⟩ = some (.int .i64 a.y.hi) := fun n => (LD.out n).2.2.2.2.2.2.2.2.2.2.2.2.2.2.2.2.2.2.2.2.2.1.2.1
    have zD21 : ∀ n : Wd D, n.w.frozen? ⟨w.heap.size, 3, none⟩ = false := fun n => (LD.out n).2.2.2.2.2.2.2.2.2.2.2.2.2.2.2.2.2.2.2.2.2.1.2.2
    clear S0 hC0
    have D5 := cin HD K2
    clear D1 D2 D3 D4 K2
    go_wp2_with (first | (go_at_call 58; with_reducible refine (D5 _).out.mono ?_; rintro e w' ⟨rfl, n, rfl⟩))
    obtain ⟨W0, hW0⟩ : ∃ W0, (n.w).alloc (.cells #[.int .i64 (g 0).x, .int .i64 (g 0).y, .int .i64 (g 1).x, .int .i64 (g 1).y, .int .i64 (g 2).x, .int .i64 (g 2).y, .int .i64 (g 3).x, .int .i64 (g 3).y] 68) = W0 := ⟨_, rfl⟩
    have S0 : St w W0 [(n.w.heap.size, 0, .int .i64 (g 0).x), (n.w.heap.size, 1, .int .i64 (g 0).y), (n.w.heap.size, 2, .int .i64 (g 1).x), (n.w.heap.size, 3, .int .i64 (g 1).y), (n.w.heap.size, 4, .int .i64 (g 2).x), (n.w.heap.size, 5, .int .i64 (g 2).y), (n.w.heap.size, 6, .int .i64 (g 3).x), (n.w.heap.size, 7, .int .i64 (g 3).y), (kD, 0, .int .i64 (f 0).x), (kD, 1, .int .i64 (f 0).y), (kD, 2, .int .i64 (f 1).x), (kD, 3, .int .i64 (f 1).y), (kD, 4, .int .i64 (f 2).x), (kD, 5, .int .i64 (f 2).y), (kD, 6, .int .i64 (f 3).x), (kD, 7, .int .i64 (f 3).y), (w.heap.size + 1 + 1 + 1, 0, .int .i64 (0)), (w.heap.size + 1 + 1 + 1, 1, .int .i64 (0)), (w.heap.size + 1 + 1, 0, .int .i64 c.x.lo), (w.heap.size + 1 + 1, 1, .int .i64 c.x.hi), (w.heap.size + 1 + 1, 2, .int .i64 c.y.lo), (w.heap.size + 1 + 1, 3, .int .i64 c.y.hi), (w.heap.size + 1, 0, .int .i64 b.x.lo), (w.heap.size + 1, 1, .int .i64 b.x.hi), (w.heap.size + 1, 2, .int .i64 b.y.lo), (w.heap.size + 1, 3, .int .i64 b.y.hi), (w.heap.size, 0, .int .i64 a.x.lo), (w.heap.size, 1, .int .i64 a.x.hi), (w.heap.size, 2, .int .i64 a.y.lo), (w.heap.size, 3, .int .i64 a.y.hi)] := by rw [← hW0]; exact ((⟨BD.out n, LD.out n⟩ : St w n.w _)).box #[.int .i64 (g 0).x, .int .i64 (g 0).y, .int .i64 (g 1).x, .int .i64 (g 1).y, .int .i64 (g 2).x, .int .i64 (g 2).y, .int .i64 (g 3).x, .int .i64 (g 3).y] 68 (n.w.heap.size) (by simp)
    rw [hW0]
    clear hW0
    obtain ⟨kE, hkk⟩ : ∃ k, n.w.heap.size = k := ⟨_, rfl⟩
    have gkE : w.heap.size ≤ kE := by rw [← hkk]; exact (BD.out n).size
    rw [hkk] at S0 ⊢
    have eE1 : kE ≠ kD := by have h := (LD.out n).1.1; omega
    have dE1 : kD ≠ kE := Ne.symm eE1
    have eE2 : kE ≠ w.heap.size + 1 + 1 + 1 := by have h := (LD.out n).2.2.2.2.2.2.2.2.1.1; omega
    have dE2 : w.heap.size + 1 + 1 + 1 ≠ kE := Ne.symm eE2
    have eE3 : kE ≠ w.heap.size + 1 + 1 := by have h := (LD.out n).2.2.2.2.2.2.2.2.2.2.1.1; omega
    have dE3 : w.heap.size + 1 + 1 ≠ kE := Ne.symm eE3
    have eE4 : kE ≠ w.heap.size + 1 := by have h := (LD.out n).2.2.2.2.2.2.2.2.2.2.2.2.2.2.1.1; omega
    have dE4 : w.heap.size + 1 ≠ kE := Ne.symm eE4
    have eE5 : kE ≠ w.heap.size := by have h := (LD.out n).2.2.2.2.2.2.2.2.2.2.2.2.2.2.2.2.2.2.1.1; omega
    have dE5 : w.heap.size ≠ kE := Ne.symm eE5
    clear hkk
    obtain ⟨E, hC0, HE, LE, BE, hne⟩ := cls S0
    haveI := hne
    obtain ⟨e0, rfl⟩ : ∃ n : Wd E, W0 = n.w := ⟨⟨_, hC0⟩, rfl⟩
    have fE0 : ∀ n : Wd E, n.w.cell? ⟨kE, 0, none⟩ = some (.int .i64 (g 0).x) := fun n => (LE.out n).1.2.1
    have zE0 : ∀ n : Wd E, n.w.frozen? ⟨kE, 0, none⟩ = false := fun n => (LE.out n).1.2.2
    have fE1 : ∀ n : Wd E, n.w.cell? ⟨kE, 1, none⟩ = some (.int .i64 (g 0).y) := fun n => (LE.out n).2.1.2.1
    have zE1 : ∀ n : Wd E, n.w.frozen? ⟨kE, 1, none⟩ = false := fun n => (LE.out n).2.1.2.2
    have fE2 : ∀ n : Wd E, n.w.cell? ⟨kE, 2, none⟩ = some (.int .i64 (g 1).x) := fun n => (LE.out n).2.2.1.2.1
    have zE2 : ∀ n : Wd E, n.w.frozen? ⟨kE, 2, none⟩ = false := fun n => (LE.out n).2.2.1.2.2
    have fE3 : ∀ n : Wd E, n.w.cell? ⟨kE, 3, none⟩ = some (.int .i64 (g 1).y) := fun n => (LE.out n).2.2.2.1.2.1
    have zE3 : ∀ n : Wd E, n.w.frozen? ⟨kE, 3, none⟩ = false := fun n => (LE.out n).2.2.2.1.2.2
    have fE4 : ∀ n : Wd E, n.w.cell? ⟨kE, 4, none⟩ = some (.int .i64 (g 2).x) := fun n => (LE.out n).2.2.2.2.1.2.1
    have zE4 : ∀ n : Wd E, n.w.frozen? ⟨kE, 4, none⟩ = false := fun n => (LE.out n).2.2.2.2.1.2.2
    have fE5 : ∀ n : Wd E, n.w.cell? ⟨kE, 5, none⟩ = some (.int .i64 (g 2).y) := fun n => (LE.out n).2.2.2.2.2.1.2.1
    have zE5 : ∀ n : Wd E, n.w.frozen? ⟨kE, 5, none⟩ = false := fun n => (LE.out n).2.2.2.2.2.1.2.2
    have fE6 : ∀ n : Wd E, n.w.cell? ⟨kE, 6, none⟩ = some (.int .i64 (g 3).x) := fun n => (LE.out n).2.2.2.2.2.2.1.2.1
    have zE6 : ∀ n : Wd E, n.w.frozen? ⟨kE, 6, none⟩ = false := fun n => (LE.out n).2.2.2.2.2.2.1.2.2
    have fE7 : ∀ n : Wd E, n.w.cell? ⟨kE, 7, none⟩ = some (.int .i64 (g 3).y) := fun n => (LE.out n).2.2.2.2.2.2.2.1.2.1
    have zE7 : ∀ n : Wd E, n.w.frozen? ⟨kE, 7, none⟩ = false := fun n => (LE.out n).2.2.2.2.2.2.2.1.2.2
    have fE8 : ∀ n : Wd E, n.w.cell? ⟨kD, 0, none⟩ = some (.int .i64 (f 0).x) := fun n => (LE.out n).2.2.2.2.2.2.2.2.1.2.1
    have zE8 : ∀ n : Wd E, n.w.frozen? ⟨kD, 0, none⟩ = false := fun n => (LE.out n).2.2.2.2.2.2.2.2.1.2.2
    have fE9 : ∀ n : Wd E, n.w.cell? ⟨kD, 1, none⟩ = some (.int .i64 (f 0).y) := fun n => (LE.out n).2.2.2.2.2.2.2.2.2.1.2.1
    have zE9 : ∀ n : Wd E, n.w.frozen? ⟨kD, 1, none⟩ = false := fun n => (LE.out n).2.2.2.2.2.2.2.2.2.1.2.2
    have fE10 : ∀ n : Wd E, n.w.cell? ⟨kD, 2, none⟩ = some (.int .i64 (f 1).x) := fun n => (LE.out n).2.2.2.2.2.2.2.2.2.2.1.2.1
    have zE10 : ∀ n : Wd E, n.w.frozen? ⟨kD, 2, none⟩ = false := fun n => (LE.out n).2.2.2.2.2.2.2.2.2.2.1.2.2
    have fE11 : ∀ n : Wd E, n.w.cell? ⟨kD, 3, none⟩ = some (.int .i64 (f 1).y) := fun n => (LE.out n).2.2.2.2.2.2.2.2.2.2.2.1.2.1
    have zE11 : ∀ n : Wd E, n.w.frozen? ⟨kD, 3, none⟩ = false := fun n => (LE.out n).2.2.2.2.2.2.2.2.2.2.2.1.2.2
    have fE12 : ∀ n : Wd E, n.w.cell? ⟨kD, 4, none⟩ = some (.int .i64 (f 2).x) := fun n => (LE.out n).2.2.2.2.2.2.2.2.2.2.2.2.1.2.1
    have zE12 : ∀ n : Wd E, n.w.frozen? ⟨kD, 4, none⟩ = false := fun n => (LE.out n).2.2.2.2.2.2.2.2.2.2.2.2.1.2.2
    have fE13 : ∀ n : Wd E, n.w.cell? ⟨kD, 5, none⟩ = some (.int .i64 (f 2).y) := fun n => (LE.out n).2.2.2.2.2.2.2.2.2.2.2.2.2.1.2.1
    have zE13 : ∀ n : Wd E, n.w.frozen? ⟨kD, 5, none⟩ = false := fun n => (LE.out n).2.2.2.2.2.2.2.2.2.2.2.2.2.1.2.2
    have fE14 : ∀ n : Wd E, n.w.cell? ⟨kD, 6, none⟩ = some (.int .i64 (f 3).x) := fun n => (LE.out n).2.2.2.2.2.2.2.2.2.2.2.2.2.2.1.2.1
    have zE14 : ∀ n : Wd E, n.w.frozen? ⟨kD, 6, none⟩ = false := fun n => (LE.out n).2.2.2.2.2.2.2.2.2.2.2.2.2.2.1.2.2
    have fE15 : ∀ n : Wd E, n.w.cell? ⟨kD, 7, none⟩ = some (.int .i64 (f 3).y) := fun n => (LE.out n).2.2.2.2.2.2.2.2.2.2.2.2.2.2.2.1.2.1
    have zE15 : ∀ n : Wd E, n.w.frozen? ⟨kD, 7, none⟩ = false := fun n => (LE.out n).2.2.2.2.2.2.2.2.2.2.2.2.2.2.2.1.2.2
    have fE16 : ∀ n : Wd E, n.w.cell? ⟨w.heap.size + 1 + 1 + 1, 0, none⟩ = some (.int .i64 (0)) := fun n => (LE.out n).2.2.2.2.2.2.2.2.2.2.2.2.2.2.2.2.1.2.1
    have zE16 : ∀ n : Wd E, n.w.frozen? ⟨w.heap.size + 1 + 1 + 1, 0, none⟩ = false := fun n => (LE.out n).2.2.2.2.2.2.2.2.2.2.2.2.2.2.2.2.1.2.2
    have fE17 : ∀ n : Wd E, n.w.cell? ⟨w.heap.size + 1 + 1 + 1, 1, none⟩ = some (.int .i64 (0)) := fun n => (LE.out n).2.2.2.2.2.2.2.2.2.2.2.2.2.2.2.2.2.1.2.1
    have zE17 : ∀ n : Wd E, n.w.frozen? ⟨w.heap.size + 1 + 1 + 1, 1, none⟩ = false := fun n => (LE.out n).2.2.2.2.2.2.2.2.2.2.2.2.2.2.2.2.2.1.2.2
    have fE18 : ∀ n : Wd E, n.w.cell? ⟨w.heap.size + 1 + 1, 0, none⟩ = some (.int .i64 c.x.lo) := fun n => (LE.out n).2.2.2.2.2.2.2.2.2.2.2.2.2.2.2.2.2.2.1.2.1
    have zE18 : ∀ n : Wd E, n.w.frozen? ⟨w.heap.size + 1 + 1, 0, none⟩ = false := fun n => (LE.out n).2.2.2.2.2.2.2.2.2.2.2.2.2.2.2.2.2.2.1.2.2
    have fE19 : ∀ n : Wd E, n.w.cell? ⟨w.heap.size + 1 + 1, 1, none⟩ = some (.int .i64 c.x.hi) := fun n => (LE.out n).2.2.2.2.2.2.2.2.2.2.2.2.2.2.2.2.2.2.2.1.2.1
    have zE19 : ∀ n : Wd E, n.w.frozen? ⟨w.heap.size + 1 + 1, 1, none⟩ = false := fun n => (LE.out n).2.2.2.2.2.2.2.2.2.2.2.2.2.2.2.2.2.2.2.1.2.2
    have fE20 : ∀ n : Wd E, n.w.cell? ⟨w.heap.size + 1 + 1, 2, none⟩ = some (.int .i64 c.y.lo) := fun n => (LE.out n).2.2.2.2.2.2.2.2.2.2.2.2.2.2.2.2.2.2.2.2.1.2.1
    have zE20 : ∀ n : Wd E, n.w.frozen? ⟨w.heap.size + 1 + 1, 2, none⟩ = false := fun n => (LE.out n).2.2.2.2.2.2.2.2.2.2.2.2.2.2.2.2.2.2.2.2.1.2.2
    have fE21 : ∀ n : Wd E, n.w.cell? ⟨w.heap.size + 1 + 1, 3, none⟩ = some (.int .i64 c.y.hi) := fun n => (LE.out n).2.2.2.2.2.2.2.2.2.2.2.2.2.2.2.2.2.2.2.2.2.1.2.1
    have zE21 : ∀ n : Wd E, n.w.frozen? ⟨w.heap.size + 1 + 1, 3, none⟩ = false := fun n => (LE.out n).2.2.2.2.2.2.2.2.2.2.2.2.2.2.2.2.2.2.2.2.2.1.2.2
    have fE22 : ∀ n : Wd E, n.w.cell? ⟨w.heap.size + 1, 0, none⟩ = some (.int .i64 b.x.lo) := fun n => (LE.out n).2.2.2.2.2.2.2.2.2.2.2.2.2.2.2.2.2.2.2.2.2.2.1.2.1
    have zE22 : ∀ n : Wd E, n.w.frozen? ⟨w.heap.size + 1, 0, none⟩ = false := fun n => (LE.out n).2.2.2.2.2.2.2.2.2.2.2.2.2.2.2.2.2.2.2.2.2.2.1.2.2
    have fE23 : ∀ n : Wd E, n.w.cell? ⟨w.heap.size + 1, 1, none⟩ = some (.int .i64 b.x.hi) := fun n => (LE.out n).2.2.2.2.2.2.2.2.2.2.2.2.2.2.2.2.2.2.2.2.2.2.2.1.2.1
    have zE23 : ∀ n : Wd E, n.w.frozen? ⟨w.heap.size + 1, 1, none⟩ = false := fun n => (LE.out n).2.2.2.2.2.2.2.2.2.2.2.2.2.2.2.2.2.2.2.2.2.2.2.1.2.2
    have fE24 : ∀ n : Wd E, n.w.cell? ⟨w.heap.size + 1, 2, none⟩ = some (.int .i64 b.y.lo) := fun n => (LE.out n).2.2.2.2.2.2.2.2.2.2.2.2.2.2.2.2.2.2.2.2.2.2.2.2.1.2.1
    have zE24 : ∀ n : Wd E, n.w.frozen? ⟨w.heap.size + 1, 2, none⟩ = false := fun n => (LE.out n).2.2.2.2.2.2.2.2.2.2.2.2.2.2.2.2.2.2.2.2.2.2.2.2.1.2.2
    have fE25 : ∀ n : Wd E, n.w.cell? ⟨w.heap.size + 1, 3, none⟩ = some (.int .i64 b.y.hi) := fun n => (LE.out n).2.2.2.2.2.2.2.2.2.2.2.2.2.2.2.2.2.2.2.2.2.2.2.2.2.1.2.1
    have zE25 : ∀ n : Wd E, n.w.frozen? ⟨w.heap.size + 1, 3, none⟩ = false := fun n => (LE.out n).2.2.2.2.2.2.2.2.2.2.2.2.2.2.2.2.2.2.2.2.2.2.2.2.2.1.2.2
    have fE26 : ∀ n : Wd E, n.w.cell? ⟨w.heap.size, 0, none⟩ = some (.int .i64 a.x.lo) := fun n => (LE.out n).2.2.2.2.2.2.2.2.2.2.2.2.2.2.2.2.2.2.2.2.2.2.2.2.2.2.1.2.1
    have zE26 : ∀ n : Wd E, n.w.frozen? ⟨w.heap.size, 0, none⟩ = false := fun n => (LE.out n).2.2.2.2.2.2.2.2.2.2.2.2.2.2.2.2.2.2.2.2.2.2.2.2.2.2.1.2.2
    have fE27 : ∀ n : Wd E, n.w.cell? ⟨w.heap.size, 1, none⟩ = some (.int .i64 a.x.hi) := fun n => (LE.out n).2.2.2.2.2.2.2.2.2.2.2.2.2.2.2.2.2.2.2.2.2.2.2.2.2.2.2.1.2.1
    have zE27 : ∀ n : Wd E, n.w.frozen? ⟨w.heap.size, 1, none⟩ = false := fun n => (LE.out n).2.2.2.2.2.2.2.2.2.2.2.2.2.2.2.2.2.2.2.2.2.2.2.2.2.2.2.1.2.2
    have fE28 : ∀ n : Wd E, n.w.cell? ⟨w.heap.size, 2, none⟩ = some (.int .i64 a.y.lo) := fun n => (LE.out n).2.2.2.2.2.2.2.2.2.2.2.2.2.2.2.2.2.2.2.2.2.2.2.2.2.2.2.2.1.2.1
    have zE28 : ∀ n : Wd E, n.w.frozen? ⟨w.heap.size, 2, none⟩ = false := fun n => (LE.out n).2.2.2.2.2.2.2.2.2.2.2.2.2.2.2.2.2.2.2.2.2.2.2.2.2.2.2.2.1.2.2
    have fE29 : ∀ n : Wd E, n.w.cell? ⟨w.heap.size, 3, none⟩ = some (.int .i64 a.y.hi) := fun n => (LE.out n).2.2.2.2.2.2.2.2.2.2.2.2.2.2.2.2.2.2.2.2.2.2.2.2.2.2.2.2.2.1.2.1
    have zE29 : ∀ n : Wd E, n.w.frozen? ⟨w.heap.size, 3, none⟩ = false := fun n => (LE.out n).2.2.2.2.2.2.2.2.2.2.2.2.2.2.2.2.2.2.2.2.2.2.2.2.2.2.2.2.2.1.2.2
    clear S0 hC0
    have D6 := cin HE K3
    clear K3 D5
    go_wp2_with (first | (go_at_call 58; with_reducible refine (D6 _).out.mono ?_; rintro e w' ⟨rfl, n, rfl⟩))
    obtain ⟨W0, hW0⟩ : ∃ W0, (n.w).alloc (.cells #[.int .i64 (h 0).x, .int .i64 (h 0).y, .int .i64 (h 1).x, .int .i64 (h 1).y, .int .i64 (h 2).x, .int .i64 (h 2).y, .int .i64 (h 3).x, .int .i64 (h 3).y] 68) = W0 := ⟨_, rfl⟩
    have S0 : St w W0 [(n.w.heap.size, 0, .int .i64 (h 0).x), (n.w.heap.size, 1, .int .i64 (h 0).y), (n.w.heap.size, 2, .int .i64 (h 1).x), (n.w.heap.size, 3, .int .i64 (h 1).y), (n.w.heap.size, 4, .int .i64 (h 2).x), (n.w.heap.size, 5, .int .i64 (h 2).y), (n.w.heap.size, 6, .int .i64 (h 3).x), (n.w.heap.size, 7, .int .i64 (h 3).y), (kE, 0, .int .i64 (g 0).x), (kE, 1, .int .i64 (g 0).y), (kE, 2, .int .i64 (g 1).x), (kE, 3, .int .i64 (g 1).y), (kE, 4, .int .i64 (g 2).x), (kE, 5, .int .i64 (g 2).y), (kE, 6, .int .i64 (g 3).x), (kE, 7, .int .i64 (g 3).y), (kD, 0, .int .i64 (f 0).x), (kD, 1, .int .i64 (f 0).y), (kD, 2, .int .i64 (f 1).x), (kD, 3, .int .i64 (f 1).y), (kD, 4, .int .i64 (f 2).x), (kD, 5, .int .i64 (f 2).y), (kD, 6, .int .i64 (f 3).x), (kD, 7, .int .i64 (f 3).y), (w.heap.size + 1 + 1 + 1, 0, .int .i64 (0)), (w.heap.size + 1 + 1 + 1, 1, .int .i64 (0)), (w.heap.size + 1 + 1, 0, .int .i64 c.x.lo), (w.heap.size + 1 + 1, 1, .int .i64 c.x.hi), (w.heap.size + 1 + 1, 2, .int .i64 c.y.lo), (w.heap.size + 1 + 1, 3, .int .i64 c.y.hi), (w.heap.size + 1, 0, .int .i64 b.x.lo), (w.heap.size + 1, 1, .int .i64 b.x.hi), (w.heap.size + 1, 2, .int .i64 b.y.lo), (w.heap.size + 1, 3, .int .i64 b.y.hi), (w.heap.size, 0, .int .i64 a.x.lo), (w.heap.size, 1, .int .i64 a.x.hi), (w.heap.size, 2, .int .i64 a.y.lo), (w.heap.size, 3, .int .i64 a.y.hi)] := by rw [← hW0]; exact ((⟨BE.out n, LE.out n⟩ : St w n.w _)).box #[.int .i64 (h 0).x, .int .i64 (h 0).y, .int .i64 (h 1).x, .int .i64 (h 1).y, .int .i64 (h 2).x, .int .i64 (h 2).y, .int .i64 (h 3).x, .int .i64 (h 3).y] 68 (n.w.heap.size) (by simp)
    rw [hW0]
    clear hW0
    obtain ⟨kF, hkk⟩ : ∃ k, n.w.heap.size = k := ⟨_, rfl⟩
    have gkF : w.heap.size ≤ kF := by rw [← hkk]; exact (BE.out n).size
    rw [hkk] at S0 ⊢
    have eF1 : kF ≠ kE := by have h := (LE.out n).1.1; omega
    have dF1 : kE ≠ kF := Ne.symm eF1
    have eF2 : kF ≠ kD := by have h := (LE.out n).2.2.2.2.2.2.2.2.1.1; omega
    have dF2 : kD ≠ kF := Ne.symm eF2
    have eF3 : kF ≠ w.heap.size + 1 + 1 + 1 := by have h := (LE.out n).2.2.2.2.2.2.2.2.2.2.2.2.2.2.2.2.1.1; omega
    have dF3 : w.heap.size + 1 + 1 + 1 ≠ kF := Ne.symm eF3
    have eF4 : kF ≠ w.heap.size + 1 + 1 := by have h := (LE.out n).2.2.2.2.2.2.2.2.2.2.2.2.2.2.2.2.2.2.1.1; omega
    have dF4 : w.heap.size + 1 + 1 ≠ kF := Ne.symm eF4
    have eF5 : kF ≠ w.heap.size + 1 := by have h := (LE.out n).2.2.2.2.2.2.2.2.2.2.2.2.2.2.2.2.2.2.2.2.2.2.1.1; omega
    have dF5 : w.heap.size + 1 ≠ kF := Ne.symm eF5
    have eF6 : kF ≠ w.heap.size := by have h := (LE.out n).2.2.2.2.2.2.2.2.2.2.2.2.2.2.2.2.2.2.2.2.2.2.2.2.2.2.1.1; omega
    have dF6 : w.heap.size ≠ kF := Ne.symm eF6
    clear hkk
    obtain ⟨F, hC0, HF, LF, BF, hne⟩ := cls S0
    haveI := hne
    obtain ⟨f0, rfl⟩ : ∃ n : Wd F, W0 = n.w := ⟨⟨_, hC0⟩, rfl⟩
    have fF0 : ∀ n : Wd F, n.w.cell? ⟨kF, 0, none⟩ = some (.int .i64 (h 0).x) := fun n => (LF.out n).1.2.1
    have zF0 : ∀ n : Wd F, n.w.frozen? ⟨kF, 0, none⟩ = false := fun n => (LF.out n).1.2.2
    have fF1 : ∀ n : Wd F, n.w.cell? ⟨kF, 1, none⟩ = some (.int .i64 (h 0).y) := fun n => (LF.out n).2.1.2.1
    have zF1 : ∀ n : Wd F, n.w.frozen? ⟨kF, 1, none⟩ = false := fun n => (LF.out n).2.1.2.2
    have fF2 : ∀ n : Wd F, n.w.cell? ⟨kF, 2, none⟩ = some (.int .i64 (h 1).x) := fun n => (LF.out n).2.2.1.2.1
    have zF2 : ∀ n : Wd F, n.w.frozen? ⟨kF, 2, none⟩ = false := fun n => (LF.out n).2.2.1.2.2
    have fF3 : ∀ n : Wd F, n.w.cell? ⟨kF, 3, none⟩ = some (.int .i64 (h 1).y) := fun n => (LF.out n).2.2.2.1.2.1
    have zF3 : ∀ n : Wd F, n.w.frozen? ⟨kF, 3, none⟩ = false := fun n => (LF.out n).2.2.2.1.2.2
    have fF4 : ∀ n : Wd F, n.w.cell? ⟨kF, 4, none⟩ = some (.int .i64 (h 2).x) := fun n => (LF.out n).2.2.2.2.1.2.1
    have zF4 : ∀ n : Wd F, n.w.frozen? ⟨kF, 4, none⟩ = false := fun n => (LF.out n).2.2.2.2.1.2.2
    have fF5 : ∀ n : Wd F, n.w.cell? ⟨kF, 5, none⟩ = some (.int .i64 (h 2).y) := fun n => (LF.out n).2.2.2.2.2.1.2.1
    have zF5 : ∀ n : Wd F, n.w.frozen? ⟨kF, 5, none⟩ = false := fun n => (LF.out n).2.2.2.2.2.1.2.2
    have fF6 : ∀ n : Wd F, n.w.cell? ⟨kF, 6, none⟩ = some (.int .i64 (h 3).x) := fun n => (LF.out n).2.2.2.2.2.2.1.2.1
    have zF6 : ∀ n : Wd F, n.w.frozen? ⟨kF, 6, none⟩ = false := fun n => (LF.out n).2.2.2.2.2.2.1.2.2
    have fF7 : ∀ n : Wd F, n.w.cell? ⟨kF, 7, none⟩ = some (.int .i64 (h 3).y) := fun n => (LF.out n).2.2.2.2.2.2.2.1.2.1
    have zF7 : ∀ n : Wd F, n.w.frozen? ⟨kF, 7, none⟩ = false := fun n => (LF.out n).2.2.2.2.2.2.2.1.2.2
    have fF8 : ∀ n : Wd F, n.w.cell? ⟨kE, 0, none⟩ = some (.int .i64 (g 0).x) := fun n => (LF.out n).2.2.2.2.2.2.2.2.1.2.1
    have zF8 : ∀ n : Wd F, n.w.frozen? ⟨kE, 0, none⟩ = false := fun n => (LF.out n).2.2.2.2.2.2.2.2.1.2.2
    have fF9 : ∀ n : Wd F, n.w.cell? ⟨kE, 1, none⟩ = some (.int .i64 (g 0).y) := fun n => (LF.out n).2.2.2.2.2.2.2.2.2.1.2.1
    have zF9 : ∀ n : Wd F, n.w.frozen? ⟨kE, 1, none⟩ = false := fun n => (LF.out n).2.2.2.2.2.2.2.2.2.1.2.2
    have fF10 : ∀ n : Wd F, n.w.cell? ⟨kE, 2, none⟩ = some (.int .i64 (g 1).x) := fun n => (LF.out n).2.2.2.2.2.2.2.2.2.2.1.2.1
    have zF10 : ∀ n : Wd F, n.w.frozen? ⟨kE, 2, none⟩ = false := fun n => (LF.out n).2.2.2.2.2.2.2.2.2.2.1.2.2
    have fF11 : ∀ n : Wd F, n.w.cell? ⟨kE, 3, none⟩ = some (.int .i64 (g 1).y) := fun n => (LF.out n).2.2.2.2.2.2.2.2.2.2.2.1.2.1
    have zF11 : ∀ n : Wd F, n.w.frozen? ⟨kE, 3, none⟩ = false := fun n => (LF.out n).2.2.2.2.2.2.2.2.2.2.2.1.2.2
    have fF12 : ∀ n : Wd F, n.w.cell? ⟨kE, 4, none⟩ = some (.int .i64 (g 2).x) := fun n => (LF.out n).2.2.2.2.2.2.2.2.2.2.2.2.1.2.1
    have zF12 : ∀ n : Wd F, n.w.frozen? ⟨kE, 4, none⟩ = false := fun n => (LF.out n).2.2.2.2.2.2.2.2.2.2.2.2.1.2.2
    have fF13 : ∀ n : Wd F, n.w.cell? ⟨kE, 5, none⟩ = some (.int .i64 (g 2).y) := fun n => (LF.out n).2.2.2.2.2.2.2.2.2.2.2.2.2.1.2.1
    have zF13 : ∀ n : Wd F, n.w.frozen? ⟨kE, 5, none⟩ = false := fun n => (LF.out n).2.2.2.2.2.2.2.2.2.2.2.2.2.1.2.2
    have fF14 : ∀ n : Wd F, n.w.cell? ⟨kE, 6, none⟩ = some (.int .i64 (g 3).x) := fun n => (LF.out n).2.2.2.2.2.2.2.2.2.2.2.2.2.2.1.2.1
    have zF14 : ∀ n : Wd F, n.w.frozen? ⟨kE, 6, none⟩ = false := fun n => (LF.out n).2.2.2.2.2.2.2.2.2.2.2.2.2.2.1.2.2
    have fF15 : ∀ n : Wd F, n.w.cell? ⟨kE, 7, none⟩ = some (.int .i64 (g 3).y) := fun n => (LF.out n).2.2.2.2.2.2.2.2.2.2.2.2.2.2.2.1.2.1
    have zF15 : ∀ n : Wd F, n.w.frozen? ⟨kE, 7, none⟩ = false := fun n => (LF.out n).2.2.2.2.2.2.2.2.2.2.2.2.2.2.2.1.2.2
    have fF16 : ∀ n : Wd F, n.w.cell? ⟨kD, 0, none⟩ = some (.int .i64 (f 0).x) := fun n => (LF.out n).2.2.2.2.2.2.2.2.2.2.2.2.2.2.2.2.1.2.1
    have zF16 : ∀ n : Wd F, n.w.frozen? ⟨kD, 0, none⟩ = false := fun n => (LF.out n).2.2.2.2.2.2.2.2.2.2.2.2.2.2.2.2.1.2.2
    have fF17 : ∀ n : Wd F, n.w.cell? ⟨kD, 1, none⟩ = some (.int .i64 (f 0).y) := fun n => (LF.out n).2.2.2.2.2.2.2.2.2.2.2.2.2.2.2.2.2.1.2.1
    have zF17 : ∀ n : Wd F, n.w.frozen? ⟨kD, 1, none⟩ = false := fun n => (LF.out n).2.2.2.2.2.2.2.2.2.2.2.2.2.2.2.2.2.1.2.2
    have fF18 : ∀ n : Wd F, n.w.cell? ⟨kD, 2, none⟩ = some (.int .i64 (f 1).x) := fun n => (LF.out n).2.2.2.2.2.2.2.2.2.2.2.2.2.2.2.2.2.2.1.2.1
    have zF18 : ∀ n : Wd F, n.w.frozen? ⟨kD, 2, none⟩ = false := fun n => (LF.out n).2.2.2.2.2.2.2.2.2.2.2.2.2.2.2.2.2.2.1.2.2
    have fF19 : ∀ n : Wd F, n.w.cell? ⟨kD, 3, none⟩ = some (.int .i64 (f 1).y) := fun n => (LF.out n).2.2.2.2.2.2.2.2.2.2.2.2.2.2.2.2.2.2.2.1.2.1
    have zF19 : ∀ n : Wd F, n.w.frozen? ⟨kD, 3, none⟩ = false := fun n => (LF.out n).2.2.2.2.2.2.2.2.2.2.2.2.2.2.2.2.2.2.2.1.2.2
    have fF20 : ∀ n : Wd F, n.w.cell? ⟨kD, 4, none⟩ = some (.int .i64 (f 2).x) := fun n => (LF.out n).2.2.2.2.2.2.2.2.2.2.2.2.2.2.2.2.2.2.2.2.1.2.1
    have zF20 : ∀ n : Wd F, n.w.frozen? ⟨kD, 4, none⟩ = false := fun n => (LF.out n).2.2.2.2.2.2.2.2.2.2.2.2.2.2.2.2.2.2.2.2.1.2.2
    have fF21 : ∀ n : Wd F, n.w.cell? ⟨kD, 5, none⟩ = some (.int .i64 (f 2).y) := fun n => (LF.out n).2.2.2.2.2.2.2.2.2.2.2.2.2.2.2.2.2.2.2.2.2.1.2.1
    have zF21 : ∀ n : Wd F, n.w.frozen? ⟨kD, 5, none⟩ = false := fun n => (LF.out n).2.2.2.2.2.2.2.2.2.2.2.2.2.2.2.2.2.2.2.2.2.1.2.2
    have fF22 : ∀ n : Wd F, n.w.cell? ⟨kD, 6, none⟩ = some (.int .i64 (f 3).x) := fun n => (LF.out n).2.2.2.2.2.2.2.2.2.2.2.2.2.2.2.2.2.2.2.2.2.2.1.2.1
    have zF22 : ∀ n : Wd F, n.w.frozen? ⟨kD, 6, none⟩ = false := fun n => (LF.out n).2.2.2.2.2.2.2.2.2.2.2.2.2.2.2.2.2.2.2.2.2.2.1.2.2
    have fF23 : ∀ n : Wd F, n.w.cell? ⟨kD, 7, none⟩ = some (.int .i64 (f 3).y) := fun n => (LF.out n).2.2.2.2.2.2.2.2.2.2.2.2.2.2.2.2.2.2.2.2.2.2.2.1.2.1
    have zF23 : ∀ n : Wd F, n.w.frozen? ⟨kD, 7, none⟩ = false := fun n => (LF.out n).2.2.2.2.2.2.2.2.2.2.2.2.2.2.2.2.2.2.2.2.2.2.2.1.2.2
    have fF24 : ∀ n : Wd F, n.w.cell? ⟨w.heap.size + 1 + 1 + 1, 0, none⟩ = some (.int .i64 (0)) := fun n => (LF.out n).2.2.2.2.2.2.2.2.2.2.2.2.2.2.2.2.2.2.2.2.2.2.2.2.1.2.1
    have zF24 : ∀ n : Wd F, n.w.frozen? ⟨w.heap.size + 1 + 1 + 1, 0, none⟩ = false := fun n => (LF.out n).2.2.2.2.2.2.2.2.2.2.2.2.2.2.2.2.2.2.2.2.2.2.2.2.1.2.2
    have fF25 : ∀ n : Wd F, n.w.cell? ⟨w.heap.size + 1 + 1 + 1, 1, none⟩ = some (.int .i64 (0)) := fun n => (LF.out n).2.2.2.2.2.2.2.2.2.2.2.2.2.2.2.2.2.2.2.2.2.2.2.2.2.1.2.1
    have zF25 : ∀ n : Wd F, n.w.frozen? ⟨w.heap.size + 1 + 1 + 1, 1, none⟩ = false := fun n => (LF.out n).2.2.2.2.2.2.2.2.2.2.2.2.2.2.2.2.2.2.2.2.2.2.2.2.2.1.2.2
    have fF26 : ∀ n : Wd F, n.w.cell? ⟨w.heap.size + 1 + 1, 0, none⟩ = some (.int .i64 c.x.lo) := fun n => (LF.out n).2.2.2.2.2.2.2.2.2.2.2.2.2.2.2.2.2.2.2.2.2.2.2.2.2.2.1.2.1
    have zF26 : ∀ n : Wd F, n.w.frozen? ⟨w.heap.size + 1 + 1, 0, none⟩ = false := fun n => (LF.out n).2.2.2.2.2.2.2.2.2.2.2.2.2.2.2.2.2.2.2.2.2.2.2.2.2.2.1.2.2
    have fF27 : ∀ n : Wd F, n.w.cell? ⟨w.heap.size + 1 + 1, 1, none⟩ = some (.int .i64 c.x.hi) := fun n => (LF.out n).2.2.2.2.2.2.2.2.2.2.2.2.2.2.2.2.2.2.2.2.2.2.2.2.2.2.2.1.2.1
    have zF27 : ∀ n : Wd F, n.w.frozen? ⟨w.heap.size + 1 + 1, 1, none⟩ = false := fun n => (LF.out n).2.2.2.2.2.2.2.2.2.2.2.2.2.2.2.2.2.2.2.2.2.2.2.2.2.2.2.1.2.2
    have fF28 : ∀ n : Wd F, n.w.cell? ⟨w.heap.size + 1 + 1, 2, none⟩ = some (.int .i64 c.y.lo) := fun n => (LF.out n).2.2.2.2.2.2.2.2.2.2.2.2.2.2.2.2.2.2.2.2.2.2.2.2.2.2.2.2.1.2.1
    have zF28 : ∀ n : Wd F, n.w.frozen? ⟨w.heap.size + 1 + 1, 2, none⟩ = false := fun n => (LF.out n).2.2.2.2.2.2.2.2.2.2.2.2.2.2.2.2.2.2.2.2.2.2.2.2.2.2.2.2.1.2.2
    have fF29 : ∀ n : Wd F, n.w.cell? ⟨w.heap.size + 1 + 1, 3, none⟩ = some (.int .i64 c.y.hi) := fun n => (LF.out n).2.2.2.2.2.2.2.2.2.2.2.2.2.2.2.2.2.2.2.2.2.2.2.2.2.2.2.2.2.1.2.1
    have zF29 : ∀ n : Wd F, n.w.frozen? ⟨w.heap.size + 1 + 1, 3, none⟩ = false := fun n => (LF.out n).2.2.2.2.2.2.2.2.2.2.2.2.2.2.2.2.2.2.2.2.2.2.2.2.2.2.2.2.2.1.2.2
    have fF30 : ∀ n : Wd F, n.w.cell? ⟨w.heap.size + 1, 0, none⟩ = some (.int .i64 b.x.lo) := fun n => (LF.out n).2.2.2.2.2.2.2.2.2.2.2.2.2.2.2.2.2.2.2.2.2.2.2.2.2.2.2.2.2.2.1.2.1
    have zF30 : ∀ n : Wd F, n.w.frozen? ⟨w.heap.size + 1, 0, none⟩ = false := fun n => (LF.out n).2.2.2.2.2.2.2.2.2.2.2.2.2.2.2.2.2.2.2.2.2.2.2.2.2.2.2.2.2.2.1.2.2
    have fF31 : ∀ n : Wd F, n.w.cell? ⟨w.heap.size + 1, 1, none⟩ = some (.int .i64 b.x.hi) := fun n => (LF.out n).2.2.2.2.2.2.2.2.2.2.2.2.2.2.2.2.2.2.2.2.2.2.2.2.2.2.2.2.2.2.2.1.2.1
    have zF31 : ∀ n : Wd F, n.w.frozen? ⟨w.heap.size + 1, 1, none⟩ = false := fun n => (LF.out n).2.2.2.2.2.2.2.2.2.2.2.2.2.2.2.2.2.2.2.2.2.2.2.2.2.2.2.2.2.2.2.1.2.2
    have fF32 : ∀ n : Wd F, n.w.cell? ⟨w.heap.size + 1, 2, none⟩ = some (.int .i64 b.y.lo) := fun n => (LF.out n).2.2.2.2.2.2.2.2.2.2.2.2.2.2.2.2.2.2.2.2.2.2.2.2.2.2.2.2.2.2.2.2.1.2.1
    have zF32 : ∀ n : Wd F, n.w.frozen? ⟨w.heap.size + 1, 2, none⟩ = false := fun n => (LF.out n).2.2.2.2.2.2.2.2.2.2.2.2.2.2.2.2.2.2.2.2.2.2.2.2.2.2.2.2.2.2.2.2.1.2.2
    have fF33 : ∀ n : Wd F, n.w.cell? ⟨w.heap.size + 1, 3, none⟩ = some (.int .i64 b.y.hi) := fun n => (LF.out n).2.2.2.2.2.2.2.2.2.2.2.2.2.2.2.2.2.2.2.2.2.2.2.2.2.2.2.2.2.2.2.2.2.1.2.1
    have zF33 : ∀ n : Wd F, n.w.frozen? ⟨w.heap.size + 1, 3, none⟩ = false := fun n => (LF.out n).2.2.2.2.2.2.2.2.2.2.2.2.2.2.2.2.2.2.2.2.2.2.2.2.2.2.2.2.2.2.2.2.2.1.2.2
    have fF34 : ∀ n : Wd F, n.w.cell? ⟨w.heap.size, 0, none⟩ = some (.int .i64 a.x.lo) := fun n => (LF.out n).2.2.2.2.2.2.2.2.2.2.2.2.2.2.2.2.2.2.2.2.2.2.2.2.2.2.2.2.2.2.2.2.2.2.1.2.1
    have zF34 : ∀ n : Wd F, n.w.frozen? ⟨w.heap.size, 0, none⟩ = false := fun n => (LF.out n).2.2.2.2.2.2.2.2.2.2.2.2.2.2.2.2.2.2.2.2.2.2.2.2.2.2.2.2.2.2.2.2.2.2.1.2.2
    have fF35 : ∀ n : Wd F, n.w.cell? ⟨w.heap.size, 1, none⟩ = some (.int .i64 a.x.hi) := fun n => (LF.out n).2.2.2.2.2.2.2.2.2.2.2.2.2.2.2.2.2.2.2.2.2.2.2.2.2.2.2.2.2.2.2.2.2.2.2.1.2.1
    have zF35 : ∀ n : Wd F, n.w.frozen? ⟨w.heap.size, 1, none⟩ = false := fun n => (LF.out n).2.2.2.2.2.2.2.2.2.2.2.2.2.2.2.2.2.2.2.2.2.2.2.2.2.2.2.2.2.2.2.2.2.2.2.1.2.2
    have fF36 : ∀ n : Wd F, n.w.cell? ⟨w.heap.size, 2, none⟩ = some (.int .i64 a.y.lo) := fun n => (LF.out n).2.2.2.2.2.2.2.2.2.2.2.2.2.2.2.2.2.2.2.2.2.2.2.2.2.2.2.2.2.2.2.2.2.2.2.2.1.2.1
    have zF36 : ∀ n : Wd F, n.w.frozen? ⟨w.heap.size, 2, none⟩ = false := fun n => (LF.out n).2.2.2.2.2.2.2.2.2.2.2.2.2.2.2.2.2.2.2.2.2.2.2.2.2.2.2.2.2.2.2.2.2.2.2.2.1.2.2
    have fF37 : ∀ n : Wd F, n.w.cell? ⟨w.heap.size, 3, none⟩ = some (.int .i64 a.y.hi) := fun n => (LF.out n).2.2.2.2.2.2.2.2.2.2.2.2.2.2.2.2.2.2.2.2.2.2.2.2.2.2.2.2.2.2.2.2.2.2.2.2.2.1.2.1
    have zF37 : ∀ n : Wd F, n.w.frozen? ⟨w.heap.size, 3, none⟩ = false := fun n => (LF.out n).2.2.2.2.2.2.2.2.2.2.2.2.2.2.2.2.2.2.2.2.2.2.2.2.2.2.2.2.2.2.2.2.2.2.2.2.2.1.2.2
    clear S0 hC0
    have D7 := cin HF (fun W => TB.out 0 0 0 W)
    clear D6 HC LC BC HD LD BD HE LE BE
    go_upto_region 11 with (first | (go_at_call 82; with_reducible refine (D7 _).out.mono ?_; rintro e w' ⟨rfl, n, rfl⟩))
    obtain ⟨t0, ht0⟩ : ∃ t, ar (f 0) (g 0) (h 0) = t := ⟨_, rfl⟩
    simp only [ht0] at hRR ⊢
    clear ht0 D7
    obtain ⟨W0, hW0⟩ : ∃ W0, (n.w).alloc (.cells #[.int .i64 (t0), .int .i64 (t0)] 58) = W0 := ⟨_, rfl⟩
    have S0 : St w W0 [(n.w.heap.size, 0, .int .i64 (t0)), (n.w.heap.size, 1, .int .i64 (t0)), (kF, 0, .int .i64 (h 0).x), (kF, 1, .int .i64 (h 0).y), (kF, 2, .int .i64 (h 1).x), (kF, 3, .int .i64 (h 1).y), (kF, 4, .int .i64 (h 2).x), (kF, 5, .int .i64 (h 2).y), (kF, 6, .int .i64 (h 3).x), (kF, 7, .int .i64 (h 3).y), (kE, 0, .int .i64 (g 0).x), (kE, 1, .int .i64 (g 0).y), (kE, 2, .int .i64 (g 1).x), (kE, 3, .int .i64 (g 1).y), (kE, 4, .int .i64 (g 2).x), (kE, 5, .int .i64 (g 2).y), (kE, 6, .int .i64 (g 3).x), (kE, 7, .int .i64 (g 3).y), (kD, 0, .int .i64 (f 0).x), (kD, 1, .int .i64 (f 0).y), (kD, 2, .int .i64 (f 1).x), (kD, 3, .int .i64 (f 1).y), (kD, 4, .int .i64 (f 2).x), (kD, 5, .int .i64 (f 2).y), (kD, 6, .int .i64 (f 3).x), (kD, 7, .int .i64 (f 3).y), (w.heap.size + 1 + 1 + 1, 0, .int .i64 (0)), (w.heap.size + 1 + 1 + 1, 1, .int .i64 (0)), (w.heap.size + 1 + 1, 0, .int .i64 c.x.lo), (w.heap.size + 1 + 1, 1, .int .i64 c.x.hi), (w.heap.size + 1 + 1, 2, .int .i64 c.y.lo), (w.heap.size + 1 + 1, 3, .int .i64 c.y.hi), (w.heap.size + 1, 0, .int .i64 b.x.lo), (w.heap.size + 1, 1, .int .i64 b.x.hi), (w.heap.size + 1, 2, .int .i64 b.y.lo), (w.heap.size + 1, 3, .int .i64 b.y.hi), (w.heap.size, 0, .int .i64 a.x.lo), (w.heap.size, 1, .int .i64 a.x.hi), (w.heap.size, 2, .int .i64 a.y.lo), (w.heap.size, 3, .int .i64 a.y.hi)] := by rw [← hW0]; exact ((⟨BF.out n, LF.out n⟩ : St w n.w _)).box #[.int .i64 (t0), .int .i64 (t0)] 58 (n.w.heap.size) (by simp)
    rw [hW0]
    clear hW0
    obtain ⟨kG, hkk⟩ : ∃ k, n.w.heap.size = k := ⟨_, rfl⟩
    have gkG : w.heap.size ≤ kG := by rw [← hkk]; exact (BF.out n).size
    rw [hkk] at S0 ⊢
    have eG1 : kG ≠ kF := by have h := (LF.out n).1.1; omega
    have dG1 : kF ≠ kG := Ne.symm eG1
    have eG2 : kG ≠ kE := by have h := (LF.out n).2.2.2.2.2.2.2.2.1.1; omega
    have dG2 : kE ≠ kG := Ne.symm eG2
    have eG3 : kG ≠ kD := by have h := (LF.out n).2.2.2.2.2.2.2.2.2.2.2.2.2.2.2.2.1.1; omega
    have dG3 : kD ≠ kG := Ne.symm eG3
    have eG4 : kG ≠ w.heap.size + 1 + 1 + 1 := by have h := (LF.out n).2.2.2.2.2.2.2.2.2.2.2.2.2.2.2.2.2.2.2.2.2.2.2.2.1.1; omega
    have dG4 : w.heap.size + 1 + 1 + 1 ≠ kG := Ne.symm eG4
    have eG5 : kG ≠ w.heap.size + 1 + 1 := by have h := (LF.out n).2.2.2.2.2.2.2.2.2.2.2.2.2.2.2.2.2.2.2.2.2.2.2.2.2.2.1.1; omega
    have dG5 : w.heap.size + 1 + 1 ≠ kG := Ne.symm eG5
    have eG6 : kG ≠ w.heap.size + 1 := by have h := (LF.out n).2.2.2.2.2.2.2.2.2.2.2.2.2.2.2.2.2.2.2.2.2.2.2.2.2.2.2.2.2.2.1.1; omega
    have dG6 : w.heap.size + 1 ≠ kG := Ne.symm eG6
    have eG7 : kG ≠ w.heap.size := by have h := (LF.out n).2.2.2.2.2.2.2.2.2.2.2.2.2.2.2.2.2.2.2.2.2.2.2.2.2.2.2.2.2.2.2.2.2.2.1.1; omega
    have dG7 : w.heap.size ≠ kG := Ne.symm eG7
    clear hkk
    obtain ⟨G, hC0, HG, LG, BG, hne⟩ := cls S0
    haveI := hne
    obtain ⟨g0, rfl⟩ : ∃ n : Wd G, W0 = n.w := ⟨⟨_, hC0⟩, rfl⟩
    have fG0 : ∀ n : Wd G, n.w.cell? ⟨kG, 0, none⟩ = some (.int .i64 (t0)) := fun n => (LG.out n).1.2.1
    have zG0 : ∀ n : Wd G, n.w.frozen? ⟨kG, 0, none⟩ = false := fun n => (LG.out n).1.2.2
    have fG1 : ∀ n : Wd G, n.w.cell? ⟨kG, 1, none⟩ = some (.int .i64 (t0)) := fun n => (LG.out n).2.1.2.1
    have zG1 : ∀ n : Wd G, n.w.frozen? ⟨kG, 1, none⟩ = false := fun n => (LG.out n).2.1.2.2
    have fG2 : ∀ n : Wd G, n.w.cell? ⟨kF, 0, none⟩ = some (.int .i64 (h 0).x) := fun n => (LG.out n).2.2.1.2.1
    have zG2 : ∀ n : Wd G, n.w.frozen? ⟨kF, 0, none⟩ = false := fun n => (LG.out n).2.2.1.2.2
    have fG3 : ∀ n : Wd G, n.w.cell? ⟨kF, 1, none⟩ = some (.int .i64 (h 0).y) := fun n => (LG.out n).2.2.2.1.2.1
    have zG3 : ∀ n : Wd G, n.w.frozen? ⟨kF, 1, none⟩ = false := fun n => (LG.out n).2.2.2.1.2.2
    have fG4 : ∀ n : Wd G, n.w.cell? ⟨kF, 2, none⟩ = some (.int .i64 (h 1).x) := fun n => (LG.out n).2.2.2.2.1.2.1
    have zG4 : ∀ n : Wd G, n.w.frozen? ⟨kF, 2, none⟩ = false := fun n => (LG.out n).2.2.2.2.1.2.2
    have fG5 : ∀ n : Wd G, n.w.cell? ⟨kF, 3, none⟩ = some (.int .i64 (h 1).y) := fun n => (LG.out n).2.2.2.2.2.1.2.1
    have zG5 : ∀ n : Wd G, n.w.frozen? ⟨kF, 3, none⟩ = false := fun n => (LG.out n).2.2.2.2.2.1.2.2
    have fG6 : ∀ n : Wd G, n.w.cell? ⟨kF, 4, none⟩ = some (.int .i64 (h 2).x) := fun n => (LG.out n).2.2.2.2.2.2.1.2.1
    have zG6 : ∀ n : Wd G, n.w.frozen? ⟨kF, 4, none⟩ = false := fun n => (LG.out n).2.2.2.2.2.2.1.2.2
    have fG7 : ∀ n : Wd G, n.w.cell? ⟨kF, 5, none⟩ = some (.int .i64 (h 2).y) := fun n => (LG.out n).2.2.2.2.2.2.2.1.2.1
    have zG7 : ∀ n : Wd G, n.w.frozen? ⟨kF, 5, none⟩ = false := fun n => (LG.out n).2.2.2.2.2.2.2.1.2.2
    have fG8 : ∀ n : Wd G, n.w.cell? ⟨kF, 6, none⟩ = some (.int .i64 (h 3).x) := fun n => (LG.out n).2.2.2.2.2.2.2.2.1.2.1
    have zG8 : ∀ n : Wd G, n.w.frozen? ⟨kF, 6, none⟩ = false := fun n => (LG.out n).2.2.2.2.2.2.2.2.1.2.2
    have fG9 : ∀ n : Wd G, n.w.cell? ⟨kF, 7, none⟩ = some (.int .i64 (h 3).y) := fun n => (LG.out n).2.2.2.2.2.2.2.2.2.1.2.1
    have zG9 : ∀ n : Wd G, n.w.frozen? ⟨kF, 7, none⟩ = false := fun n => (LG.out n).2.2.2.2.2.2.2.2.2.1.2.2
    have fG10 : ∀ n : Wd G, n.w.cell? ⟨kE, 0, none⟩ = some (.int .i64 (g 0).x) := fun n => (LG.out n).2.2.2.2.2.2.2.2.2.2.1.2.1
    have zG10 : ∀ n : Wd G, n.w.frozen? ⟨kE, 0, none⟩ = false := fun n => (LG.out n).2.2.2.2.2.2.2.2.2.2.1.2.2
    have fG11 : ∀ n : Wd G, n.w.cell? ⟨kE, 1, none⟩ = some (.int .i64 (g 0).y) := fun n => (LG.out n).2.2.2.2.2.2.2.2.2.2.2.1.2.1
    have zG11 : ∀ n : Wd G, n.w.frozen? ⟨kE, 1, none⟩ = false := fun n => (LG.out n).2.2.2.2.2.2.2.2.2.2.2.1.2.2
    have fG12 : ∀ n : Wd G, n.w.cell? ⟨kE, 2, none⟩ = some (.int .i64 (g 1).x) := fun n => (LG.out n).2.2.2.2.2.2.2.2.2.2.2.2.1.2.1
    have zG12 : ∀ n : Wd G, n.w.frozen? ⟨kE, 2, none⟩ = false := fun n => (LG.out n).2.2.2.2.2.2.2.2.2.2.2.2.1.2.2
    have fG13 : ∀ n : Wd G, n.w.cell? ⟨kE, 3, none⟩ = some (.int .i64 (g 1).y) := fun n => (LG.out n).2.2.2.2.2.2.2.2.2.2.2.2.2.1.2.1
    have zG13 : ∀ n : Wd G, n.w.frozen? ⟨kE, 3, none⟩ = false := fun n => (LG.out n).2.2.2.2.2.2.2.2.2.2.2.2.2.1.2.2
    have fG14 : ∀ n : Wd G, n.w.cell? ⟨kE, 4, none⟩ = some (.int .i64 (g 2).x) := fun n => (LG.out n).2.2.2.2.2.2.2.2.2.2.2.2.2.2.1.2.1
    have zG14 : ∀ n : Wd G, n.w.frozen? ⟨kE, 4, none⟩ = false := fun n => (LG.out n).2.2.2.2.2.2.2.2.2.2.2.2.2.2.1.2.2
    have fG15 : ∀ n : Wd G, n.w.cell? ⟨kE, 5, none⟩ = some (.int .i64 (g 2).y) := fun n => (LG.out n).2.2.2.2.2.2.2.2.2.2.2.2.2.2.2.1.2.1
    have zG15 : ∀ n : Wd G, n.w.frozen? ⟨kE, 5, none⟩ = false := fun n => (LG.out n).2.2.2.2.2.2.2.2.2.2.2.2.2.2.2.1.2.2
    have fG16 : ∀ n : Wd G, n.w.cell? ⟨kE, 6, none⟩ = some (.int .i64 (g 3).x) := fun n => (LG.out n).2.2.2.2.2.2.2.2.2.2.2.2.2.2.2.2.1.2.1
    have zG16 : ∀ n : Wd G, n.w.frozen? ⟨kE, 6, none⟩ = false := fun n => (LG.out n).2.2.2.2.2.2.2.2.2.2.2.2.2.2.2.2.1.2.2
    have fG17 : ∀ n : Wd G, n.w.cell? ⟨kE, 7, none⟩ = some (.int .i64 (g 3).y) := fun n => (LG.out n).2.2.2.2.2.2.2.2.2.2.2.2.2.2.2.2.2.1.2.1
    have zG17 : ∀ n : Wd G, n.w.frozen? ⟨kE, 7, none⟩ = false := fun n => (LG.out n).2.2.2.2.2.2.2.2.2.2.2.2.2.2.2.2.2.1.2.2
    have fG18 : ∀ n : Wd G, n.w.cell? ⟨kD, 0, none⟩ = some (.int .i64 (f 0).x) := fun n => (LG.out n).2.2.2.2.2.2.2.2.2.2.2.2.2.2.2.2.2.2.1.2.1
    have zG18 : ∀ n : Wd G, n.w.frozen? ⟨kD, 0, none⟩ = false := fun n => (LG.out n).2.2.2.2.2.2.2.2.2.2.2.2.2.2.2.2.2.2.1.2.2
    have fG19 : ∀ n : Wd G, n.w.cell? ⟨kD, 1, none⟩ = some (.int .i64 (f 0).y) := fun n => (LG.out n).2.2.2.2.2.2.2.2.2.2.2.2.2.2.2.2.2.2.2.1.2.1
    have zG19 : ∀ n : Wd G, n.w.frozen? ⟨kD, 1, none⟩ = false := fun n => (LG.out n).2.2.2.2.2.2.2.2.2.2.2.2.2.2.2.2.2.2.2.1.2.2
    have fG20 : ∀ n : Wd G, n.w.cell? ⟨kD, 2, none⟩ = some (.int .i64 (f 1).x) := fun n => (LG.out n).2.2.2.2.2.2.2.2.2.2.2.2.2.2.2.2.2.2.2.2.1.2.1
    have zG20 : ∀ n : Wd G, n.w.frozen? ⟨kD, 2, none⟩ = false := fun n => (LG.out n).2.2.2.2.2.2.2.2.2.2.2.2.2.2.2.2.2.2.2.2.1.2.2
    have fG21 : ∀ n : Wd G, n.w.cell? ⟨kD, 3, none⟩ = some (.int .i64 (f 1).y) := fun n => (LG.out n).2.2.2.2.2.2.2.2.2.2.2.2.2.2.2.2.2.2.2.2.2.1.2.1
    have zG21 : ∀ n : Wd G, n.w.frozen? ⟨kD, 3, none⟩ = false := fun n => (LG.out n).2.2.2.2.2.2.2.2.2.2.2.2.2.2.2.2.2.2.2.2.2.1.2.2
    have fG22 : ∀ n : Wd G, n.w.cell? ⟨kD, 4, none⟩ = some (.int .i64 (f 2).x) := fun n => (LG.out n).2.2.2.2.2.2.2.2.2.2.2.2.2.2.2.2.2.2.2.2.2.2.1.2.1
    have zG22 : ∀ n : Wd G, n.w.frozen? ⟨kD, 4, none⟩ = false := fun n => (LG.out n).2.2.2.2.2.2.2.2.2.2.2.2.2.2.2.2.2.2.2.2.2.2.1.2.2
    have fG23 : ∀ n : Wd G, n.w.cell? ⟨kD, 5, none⟩ = some (.int .i64 (f 2).y) := fun n => (LG.out n).2.2.2.2.2.2.2.2.2.2.2.2.2.2.2.2.2.2.2.2.2.2.2.1.2.1
    have zG23 : ∀ n : Wd G, n.w.frozen? ⟨kD, 5, none⟩ = false := fun n => (LG.out n).2.2.2.2.2.2.2.2.2.2.2.2.2.2.2.2.2.2.2.2.2.2.2.1.2.2
    have fG24 : ∀ n : Wd G, n.w.cell? ⟨kD, 6, none⟩ = some (.int .i64 (f 3).x) := fun n => (LG.out n).2.2.2.2.2.2.2.2.2.2.2.2.2.2.2.2.2.2.2.2.2.2.2.2.1.2.1
    have zG24 : ∀ n : Wd G, n.w.frozen? ⟨kD, 6, none⟩ = false := fun n => (LG.out n).2.2.2.2.2.2.2.2.2.2.2.2.2.2.2.2.2.2.2.2.2.2.2.2.1.2.2
    have fG25 : ∀ n : Wd G, n.w.cell? ⟨kD, 7, none⟩ = some (.int .i64 (f 3).y) := fun n => (LG.out n).2.2.2.2.2.2.2.2.2.2.2.2.2.2.2.2.2.2.2.2.2.2.2.2.2.1.2.1
    have zG25 : ∀ n : Wd G, n.w.frozen? ⟨kD, 7, none⟩ = false := fun n => (LG.out n).2.2.2.2.2.2.2.2.2.2.2.2.2.2.2.2.2.2.2.2.2.2.2.2.2.1.2.2
    have fG26 : ∀ n : Wd G, n.w.cell? ⟨w.heap.size + 1 + 1 + 1, 0, none⟩ = some (.int .i64 (0)) := fun n => (LG.out n).2.2.2.2.2.2.2.2.2.2.2.2.2.2.2.2.2.2.2.2.2.2.2.2.2.2.1.2.1
    have zG26 : ∀ n : Wd G, n.w.frozen? ⟨w.heap.size + 1 + 1 + 1, 0, none⟩ = false := fun n => (LG.out n).2.2.2.2.2.2.2.2.2.2.2.2.2.2.2.2.2.2.2.2.2.2.2.2.2.2.1.2.2
    have fG27 : ∀ n : Wd G, n.w.cell? ⟨w.heap.size + 1 + 1 + 1, 1, none⟩ = some (.int .i64 (0)) := fun n => (LG.out n).2.2.2.2.2.2.2.2.2.2.2.2.2.2.2.2.2.2.2.2.2.2.2.2.2.2.2.1.2.1
    have zG27 : ∀ n : Wd G, n.w.frozen? ⟨w.heap.size + 1 + 1 + 1, 1, none⟩ = false := fun n => (LG.out n).2.2.2.2.2.2.2.2.2.2.2.2.2.2.2.2.2.2.2.2.2.2.2.2.2.2.2.1.2.2
    have fG28 : ∀ n : Wd G, n.w.cell? ⟨w.heap.size + 1 + 1, 0, none⟩ = some (.int .i64 c.x.lo) := fun n => (LG.out n).2.2.2.2.2.2.2.2.2.2.2.2.2.2.2.2.2.2.2.2.2.2.2.2.2.2.2.2.1.2.1
    have zG28 : ∀ n : Wd G, n.w.frozen? ⟨w.heap.size + 1 + 1, 0, none⟩ = false := fun n => (LG.out n).2.2.2.2.2.2.2.2.2.2.2.2.2.2.2.2.2.2.2.2.2.2.2.2.2.2.2.2.1.2.2
    have fG29 : ∀ n : Wd G, n.w.cell? ⟨w.heap.size + 1 + 1, 1, none⟩ = some (.int .i64 c.x.hi) := fun n => (LG.out n).2.2.2.2.2.2.2.2.2.2.2.2.2.2.2.2.2.2.2.2.2.2.2.2.2.2.2.2.2.1.2.1
    have zG29 : ∀ n : Wd G, n.w.frozen? ⟨w.heap.size + 1 + 1, 1, none⟩ = false := fun n => (LG.out n).2.2.2.2.2.2.2.2.2.2.2.2.2.2.2.2.2.2.2.2.2.2.2.2.2.2.2.2.2.1.2.2
    have fG30 : ∀ n : Wd G, n.w.cell? ⟨w.heap.size + 1 + 1, 2, none⟩ = some (.int .i64 c.y.lo) := fun n => (LG.out n).2.2.2.2.2.2.2.2.2.2.2.2.2.2.2.2.2.2.2.2.2.2.2.2.2.2.2.2.2.2.1.2.1
    have zG30 : ∀ n : Wd G, n.w.frozen? ⟨w.heap.size + 1 + 1, 2, none⟩ = false := fun n => (LG.out n).2.2.2.2.2.2.2.2.2.2.2.2.2.2.2.2.2.2.2.2.2.2.2.2.2.2.2.2.2.2.1.2.2
    have fG31 : ∀ n : Wd G, n.w.cell? ⟨w.heap.size + 1 + 1, 3, none⟩ = some (.int .i64 c.y.hi) := fun n => (LG.out n).2.2.2.2.2.2.2.2.2.2.2.2.2.2.2.2.2.2.2.2.2.2.2.2.2.2.2.2.2.2.2.1.2.1
    have zG31 : ∀ n : Wd G, n.w.frozen? ⟨w.heap.size + 1 + 1, 3, none⟩ = false := fun n => (LG.out n).2.2.2.2.2.2.2.2.2.2.2.2.2.2.2.2.2.2.2.2.2.2.2.2.2.2.2.2.2.2.2.1.2.2
    have fG32 : ∀ n : Wd G, n.w.cell? ⟨w.heap.size + 1, 0, none⟩ = some (.int .i64 b.x.lo) := fun n => (LG.out n).2.2.2.2.2.2.2.2.2.2.2.2.2.2.2.2.2.2.2.2.2.2.2.2.2.2.2.2.2.2.2.2.1.2.1
    have zG32 : ∀ n : Wd G, n.w.frozen? ⟨w.heap.size + 1, 0, none⟩ = false := fun n => (LG.out n).2.2.2.2.2.2.2.2.2.2.2.2.2.2.2.2.2.2.2.2.2.2.2.2.2.2.2.2.2.2.2.2.1.2.2
    have fG33 : ∀ n : Wd G, n.w.cell? ⟨w.heap.size + 1, 1, none⟩ = some (.int .i64 b.x.hi) := fun n => (LG.out n).2.2.2.2.2.2.2.2.2.2.2.2.2.2.2.2.2.2.2.2.2.2.2.2.2.2.2.2.2.2.2.2.2.1.2.1
    have zG33 : ∀ n : Wd G, n.w.frozen? ⟨w.heap.size + 1, 1, none⟩ = false := fun n => (LG.out n).2.2.2.2.2.2.2.2.2.2.2.2.2.2.2.2.2.2.2.2.2.2.2.2.2.2.2.2.2.2.2.2.2.1.2.2
    have fG34 : ∀ n : Wd G, n.w.cell? ⟨w.heap.size + 1, 2, none⟩ = some (.int .i64 b.y.lo) := fun n => (LG.out n).2.2.2.2.2.2.2.2.2.2.2.2.2.2.2.2.2.2.2.2.2.2.2.2.2.2.2.2.2.2.2.2.2.2.1.2.1
    have zG34 : ∀ n : Wd G, n.w.frozen? ⟨w.heap.size + 1, 2, none⟩ = false := fun n => (LG.out n).2.2.2.2.2.2.2.2.2.2.2.2.2.2.2.2.2.2.2.2.2.2.2.2.2.2.2.2.2.2.2.2.2.2.1.2.2
    have fG35 : ∀ n : Wd G, n.w.cell? ⟨w.heap.size + 1, 3, none⟩ = some (.int .i64 b.y.hi) := fun n => (LG.out n).2.2.2.2.2.2.2.2.2.2.2.2.2.2.2.2.2.2.2.2.2.2.2.2.2.2.2.2.2.2.2.2.2.2.2.1.2.1
    have zG35 : ∀ n : Wd G, n.w.frozen? ⟨w.heap.size + 1, 3, none⟩ = false := fun n => (LG.out n).2.2.2.2.2.2.2.2.2.2.2.2.2.2.2.2.2.2.2.2.2.2.2.2.2.2.2.2.2.2.2.2.2.2.2.1.2.2
    have fG36 : ∀ n : Wd G, n.w.cell? ⟨w.heap.size, 0, none⟩ = some (.int .i64 a.x.lo) := fun n => (LG.out n).2.2.2.2.2.2.2.2.2.2.2.2.2.2.2.2.2.2.2.2.2.2.2.2.2.2.2.2.2.2.2.2.2.2.2.2.1.2.1
    have zG36 : ∀ n : Wd G, n.w.frozen? ⟨w.heap.size, 0, none⟩ = false := fun n => (LG.out n).2.2.2.2.2.2.2.2.2.2.2.2.2.2.2.2.2.2.2.2.2.2.2.2.2.2.2.2.2.2.2.2.2.2.2.2.1.2.2
    have fG37 : ∀ n : Wd G, n.w.cell? ⟨w.heap.size, 1, none⟩ = some (.int .i64 a.x.hi) := fun n => (LG.out n).2.2.2.2.2.2.2.2.2.2.2.2.2.2.2.2.2.2.2.2.2.2.2.2.2.2.2.2.2.2.2.2.2.2.2.2.2.1.2.1
    have zG37 : ∀ n : Wd G, n.w.frozen? ⟨w.heap.size, 1, none⟩ = false := fun n => (LG.out n).2.2.2.2.2.2.2.2.2.2.2.2.2.2.2.2.2.2.2.2.2.2.2.2.2.2.2.2.2.2.2.2.2.2.2.2.2.1.2.2
    have fG38 : ∀ n : Wd G, n.w.cell? ⟨w.heap.size, 2, none⟩ = some (.int .i64 a.y.lo) := fun n => (LG.out n).2.2.2.2.2.2.2.2.2.2.2.2.2.2.2.2.2.2.2.2.2.2.2.2.2.2.2.2.2.2.2.2.2.2.2.2.2.2.1.2.1
    have zG38 : ∀ n : Wd G, n.w.frozen? ⟨w.heap.size, 2, none⟩ = false := fun n => (LG.out n).2.2.2.2.2.2.2.2.2.2.2.2.2.2.2.2.2.2.2.2.2.2.2.2.2.2.2.2.2.2.2.2.2.2.2.2.2.2.1.2.2
    have fG39 : ∀ n : Wd G, n.w.cell? ⟨w.heap.size, 3, none⟩ = some (.int .i64 a.y.hi) := fun n => (LG.out n).2.2.2.2.2.2.2.2.2.2.2.2.2.2.2.2.2.2.2.2.2.2.2.2.2.2.2.2.2.2.2.2.2.2.2.2.2.2.2.1.2.1
    have zG39 : ∀ n : Wd G, n.w.frozen? ⟨w.heap.size, 3, none⟩ = false := fun n => (LG.out n).2.2.2.2.2.2.2.2.2.2.2.2.2.2.2.2.2.2.2.2.2.2.2.2.2.2.2.2.2.2.2.2.2.2.2.2.2.2.2.1.2.2
    clear S0 hC0
    have hS0 : St w g0.w ((kG, 0, .int .i64 t0) :: (kG, 1, .int .i64 t0) :: [(kF, 0, .int .i64 (h 0).x), (kF, 1, .int .i64 (h 0).y), (kF, 2, .int .i64 (h 1).x), (kF, 3, .int .i64 (h 1).y), (kF, 4, .int .i64 (h 2).x), (kF, 5, .int .i64 (h 2).y), (kF, 6, .int .i64 (h 3).x), (kF, 7, .int .i64 (h 3).y), (kE, 0, .int .i64 (g 0).x), (kE, 1, .int .i64 (g 0).y), (kE, 2, .int .i64 (g 1).x), (kE, 3, .int .i64 (g 1).y), (kE, 4, .int .i64 (g 2).x), (kE, 5, .int .i64 (g 2).y), (kE, 6, .int .i64 (g 3).x), (kE, 7, .int .i64 (g 3).y), (kD, 0, .int .i64 (f 0).x), (kD, 1, .int .i64 (f 0).y), (kD, 2, .int .i64 (f 1).x), (kD, 3, .int .i64 (f 1).y), (kD, 4, .int .i64 (f 2).x), (kD, 5, .int .i64 (f 2).y), (kD, 6, .int .i64 (f 3).x), (kD, 7, .int .i64 (f 3).y), (w.heap.size + 1 + 1 + 1, 0, .int .i64 (0)), (w.heap.size + 1 + 1 + 1, 1, .int .i64 (0)), (w.heap.size + 1 + 1, 0, .int .i64 c.x.lo), (w.heap.size + 1 + 1, 1, .int .i64 c.x.hi), (w.heap.size + 1 + 1, 2, .int .i64 c.y.lo), (w.heap.size + 1 + 1, 3, .int .i64 c.y.hi), (w.heap.size + 1, 0, .int .i64 b.x.lo), (w.heap.size + 1, 1, .int .i64 b.x.hi), (w.heap.size + 1, 2, .int .i64 b.y.lo), (w.heap.size + 1, 3, .int .i64 b.y.hi), (w.heap.size, 0, .int .i64 a.x.lo), (w.heap.size, 1, .int .i64 a.x.hi), (w.heap.size, 2, .int .i64 a.y.lo), (w.heap.size, 3, .int .i64 a.y.hi)]) := ⟨BG.out g0, LG.out g0⟩
    have hL := Lib.hid (show ∀ x ∈ ([(kF, 0, .int .i64 (h 0).x), (kF, 1, .int .i64 (h 0).y), (kF, 2, .int .i64 (h 1).x), (kF, 3, .int .i64 (h 1).y), (kF, 4, .int .i64 (h 2).x), (kF, 5, .int .i64 (h 2).y), (kF, 6, .int .i64 (h 3).x), (kF, 7, .int .i64 (h 3).y), (kE, 0, .int .i64 (g 0).x), (kE, 1, .int .i64 (g 0).y), (kE, 2, .int .i64 (g 1).x), (kE, 3, .int .i64 (g 1).y), (kE, 4, .int .i64 (g 2).x), (kE, 5, .int .i64 (g 2).y), (kE, 6, .int .i64 (g 3).x), (kE, 7, .int .i64 (g 3).y), (kD, 0, .int .i64 (f 0).x), (kD, 1, .int .i64 (f 0).y), (kD, 2, .int .i64 (f 1).x), (kD, 3, .int .i64 (f 1).y), (kD, 4, .int .i64 (f 2).x), (kD, 5, .int .i64 (f 2).y), (kD, 6, .int .i64 (f 3).x), (kD, 7, .int .i64 (f 3).y), (w.heap.size + 1 + 1 + 1, 0, .int .i64 (0)), (w.heap.size + 1 + 1 + 1, 1, .int .i64 (0)), (w.heap.size + 1 + 1, 0, .int .i64 c.x.lo), (w.heap.size + 1 + 1, 1, .int .i64 c.x.hi), (w.heap.size + 1 + 1, 2, .int .i64 c.y.lo), (w.heap.size + 1 + 1, 3, .int .i64 c.y.hi), (w.heap.size + 1, 0, .int .i64 b.x.lo), (w.heap.size + 1, 1, .int .i64 b.x.hi), (w.heap.size + 1, 2, .int .i64 b.y.lo), (w.heap.size + 1, 3, .int .i64 b.y.hi), (w.heap.size, 0, .int .i64 a.x.lo), (w.heap.size, 1, .int .i64 a.x.hi), (w.heap.size, 2, .int .i64 a.y.lo), (w.heap.size, 3, .int .i64 a.y.hi)] : List (Nat × Nat × Value)), x.1 ≠ kG from by simp only [List.forall_mem_cons, List.not_mem_nil, false_implies, implies_true, and_true]; omega)
    have hgk := Lib.hid gkG
    go_wp2_with fail
    go_loopw [16] (fun i wr => ∃ k : Nat, i = .int .i64 (k : Int) ∧ k ≤ 64 ∧ St w wr ((kG, 0, .int .i64 (spF f g h ⟨t0, t0⟩ k).lo) :: (kG, 1, .int .i64 (spF f g h ⟨t0, t0⟩ k).hi) :: [(kF, 0, .int .i64 (h 0).x), (kF, 1, .int .i64 (h 0).y), (kF, 2, .int .i64 (h 1).x), (kF, 3, .int .i64 (h 1).y), (kF, 4, .int .i64 (h 2).x), (kF, 5, .int .i64 (h 2).y), (kF, 6, .int .i64 (h 3).x), (kF, 7, .int .i64 (h 3).y), (kE, 0, .int .i64 (g 0).x), (kE, 1, .int .i64 (g 0).y), (kE, 2, .int .i64 (g 1).x), (kE, 3, .int .i64 (g 1).y), (kE, 4, .int .i64 (g 2).x), (kE, 5, .int .i64 (g 2).y), (kE, 6, .int .i64 (g 3).x), (kE, 7, .int .i64 (g 3).y), (kD, 0, .int .i64 (f 0).x), (kD, 1, .int .i64 (f 0).y), (kD, 2, .int .i64 (f 1).x), (kD, 3, .int .i64 (f 1).y), (kD, 4, .int .i64 (f 2).x), (kD, 5, .int .i64 (f 2).y), (kD, 6, .int .i64 (f 3).x), (kD, 7, .int .i64 (f 3).y), (w.heap.size + 1 + 1 + 1, 0, .int .i64 (0)), (w.heap.size + 1 + 1 + 1, 1, .int .i64 (0)), (w.heap.size + 1 + 1, 0, .int .i64 c.x.lo), (w.heap.size + 1 + 1, 1, .int .i64 c.x.hi), (w.heap.size + 1 + 1, 2, .int .i64 c.y.lo), (w.heap.size + 1 + 1, 3, .int .i64 c.y.hi), (w.heap.size + 1, 0, .int .i64 b.x.lo), (w.heap.size + 1, 1, .int .i64 b.x.hi), (w.heap.size + 1, 2, .int .i64 b.y.lo), (w.heap.size + 1, 3, .int .i64 b.y.hi), (w.heap.size, 0, .int .i64 a.x.lo), (w.heap.size, 1, .int .i64 a.x.hi), (w.heap.size, 2, .int .i64 a.y.lo), (w.heap.size, 3, .int .i64 a.y.hi)])) (fun i wr => 64 - (intOf i).toNat)
    case atStart => exact ⟨0, rfl, by omega, hS0⟩
    case round =>
      obtain ⟨k, rfl, hk, hS⟩ := hrel
      clear hS0
      by_cases hlt : k < 64
      · obtain ⟨s, hs⟩ : ∃ s, spF f g h ⟨t0, t0⟩ k = s := ⟨_, rfl⟩
        rw [hs] at hS
        obtain ⟨m1, hm1⟩ : ∃ m, k / 16 = m := ⟨_, rfl⟩
        obtain ⟨m2, hm2⟩ : ∃ m, k / 4 % 4 = m := ⟨_, rfl⟩
        obtain ⟨m3, hm3⟩ : ∃ m, k % 4 = m := ⟨_, rfl⟩
        have l1 : m1 < 4 := by omega
        have l2 : m2 < 4 := by omega
        have l3 : m3 < 4 := by omega
        have q1 : (k : Int).tdiv 16 = (m1 : Int) := by rw [Int.tdiv_eq_ediv_of_nonneg (by omega)]; omega
        have q2 : ((k : Int).tdiv 4).tmod 4 = (m2 : Int) := by rw [Int.tdiv_eq_ediv_of_nonneg (by omega), Int.tmod_eq_emod_of_nonneg (by omega)]; omega
        have q3 : (k : Int).tmod 4 = (m3 : Int) := by rw [Int.tmod_eq_emod_of_nonneg (by omega)]; omega
        have HN : Hid (spF f g h ⟨t0, t0⟩ (k + 1) = ⟨min s.lo (ar (f m1) (g m2) (h m3)), max s.hi (ar (f m1) (g m2) (h m3))⟩) := by
          unfold Hid; rw [spF, hs, hm1, hm2, hm3]; rfl
        obtain ⟨J, hC0, HJ, LJ, BJ, hne⟩ := cls hS
        haveI := hne
        obtain ⟨j0, rfl⟩ : ∃ n : Wd J, wr = n.w := ⟨⟨_, hC0⟩, rfl⟩
        have fJ0 : ∀ n : Wd J, n.w.cell? ⟨kG, 0, none⟩ = some (.int .i64 s.lo) := fun n => (LJ.out n).1.2.1
        have fJ1 : ∀ n : Wd J, n.w.cell? ⟨kG, 1, none⟩ = some (.int .i64 s.hi) := fun n => (LJ.out n).2.1.2.1
        have fJ2 : ∀ n : Wd J, n.w.cell? ⟨kF, 0, none⟩ = some (.int .i64 (h 0).x) := fun n => (LJ.out n).2.2.1.2.1
        have zJ2 : ∀ n : Wd J, n.w.frozen? ⟨kF, 0, none⟩ = false := fun n => (LJ.out n).2.2.1.2.2
        have fJ3 : ∀ n : Wd J, n.w.cell? ⟨kF, 1, none⟩ = some (.int .i64 (h 0).y) := fun n => (LJ.out n).2.2.2.1.2.1
        have zJ3 : ∀ n : Wd J, n.w.frozen? ⟨kF, 1, none⟩ = false := fun n => (LJ.out n).2.2.2.1.2.2
        have fJ4 : ∀ n : Wd J, n.w.cell? ⟨kF, 2, none⟩ = some (.int .i64 (h 1).x) := fun n => (LJ.out n).2.2.2.2.1.2.1
        have zJ4 : ∀ n : Wd J, n.w.frozen? ⟨kF, 2, none⟩ = false := fun n => (LJ.out n).2.2.2.2.1.2.2
        have fJ5 : ∀ n : Wd J, n.w.cell? ⟨kF, 3, none⟩ = some (.int .i64 (h 1).y) := fun n => (LJ.out n).2.2.2.2.2.1.2.1
        have zJ5 : ∀ n : Wd J, n.w.frozen? ⟨kF, 3, none⟩ = false := fun n => (LJ.out n).2.2.2.2.2.1.2.2
        have fJ6 : ∀ n : Wd J, n.w.cell? ⟨kF, 4, none⟩ = some (.int .i64 (h 2).x) := fun n => (LJ.out n).2.2.2.2.2.2.1.2.1
        have zJ6 : ∀ n : Wd J, n.w.frozen? ⟨kF, 4, none⟩ = false := fun n => (LJ.out n).2.2.2.2.2.2.1.2.2
        have fJ7 : ∀ n : Wd J, n.w.cell? ⟨kF, 5, none⟩ = some (.int .i64 (h 2).y) := fun n => (LJ.out n).2.2.2.2.2.2.2.1.2.1
        have zJ7 : ∀ n : Wd J, n.w.frozen? ⟨kF, 5, none⟩ = false := fun n => (LJ.out n).2.2.2.2.2.2.2.1.2.2
        have fJ8 : ∀ n : Wd J, n.w.cell? ⟨kF, 6, none⟩ = some (.int .i64 (h 3).x) := fun n => (LJ.out n).2.2.2.2.2.2.2.2.1.2.1
        have zJ8 : ∀ n : Wd J, n.w.frozen? ⟨kF, 6, none⟩ = false := fun n => (LJ.out n).2.2.2.2.2.2.2.2.1.2.2
        have fJ9 : ∀ n : Wd J, n.w.cell? ⟨kF, 7, none⟩ = some (.int .i64 (h 3).y) := fun n => (LJ.out n).2.2.2.2.2.2.2.2.2.1.2.1
        have zJ9 : ∀ n : Wd J, n.w.frozen? ⟨kF, 7, none⟩ = false := fun n => (LJ.out n).2.2.2.2.2.2.2.2.2.1.2.2
        have fJ10 : ∀ n : Wd J, n.w.cell? ⟨kE, 0, none⟩ = some (.int .i64 (g 0).x) := fun n => (LJ.out n).2.2.2.2.2.2.2.2.2.2.1.2.1
        have zJ10 : ∀ n : Wd J, n.w.frozen? ⟨kE, 0, none⟩ = false := fun n => (LJ.out n).2.2.2.2.2.2.2.2.2.2.1.2.2
        have fJ11 : ∀ n : Wd J, n.w.cell? ⟨kE, 1, none⟩ = some (.int .i64 (g 0).y) := fun n => (LJ.out n).2.2.2.2.2.2.2.2.2.2.2.1.2.1
        have zJ11 : ∀ n : Wd J, n.w.frozen? ⟨kE, 1, none⟩ = false := fun n => (LJ.out n).2.2.2.2.2.2.2.2.2.2.2.1.2.2
        have fJ12 : ∀ n : Wd J, n.w.cell? ⟨kE, 2, none⟩ = some (.int .i64 (g 1).x) := fun n => (LJ.out n).2.2.2.2.2.2.2.2.2.2.2.2.1.2.1
        have zJ12 : ∀ n : Wd J, n.w.frozen? ⟨kE, 2, none⟩ = false := fun n => (LJ.out n).2.2.2.2.2.2.2.2.2.2.2.2.1.2.2
        have fJ13 : ∀ n : Wd J, n.w.cell? ⟨kE, 3, none⟩ = some (.int .i64 (g 1).y) := fun n => (LJ.out n).2.2.2.2.2.2.2.2.2.2.2.2.2.1.2.1
        have zJ13 : ∀ n : Wd J, n.w.frozen? ⟨kE, 3, none⟩ = false := fun n => (LJ.out n).2.2.2.2.2.2.2.2.2.2.2.2.2.1.2.2
        have fJ14 : ∀ n : Wd J, n.w.cell? ⟨kE, 4, none⟩ = some (.int .i64 (g 2).x) := fun n => (LJ.out n).2.2.2.2.2.2.2.2.2.2.2.2.2.2.1.2.1
        have zJ14 : ∀ n : Wd J, n.w.frozen? ⟨kE, 4, none⟩ = false := fun n => (LJ.out n).2.2.2.2.2.2.2.2.2.2.2.2.2.2.1.2.2
        have fJ15 : ∀ n : Wd J, n.w.cell? ⟨kE, 5, none⟩ = some (.int .i64 (g 2).y) := fun n => (LJ.out n).2.2.2.2.2.2.2.2.2.2.2.2.2.2.2.1.2.1
        have zJ15 : ∀ n : Wd J, n.w.frozen? ⟨kE, 5, none⟩ = false := fun n => (LJ.out n).2.2.2.2.2.2.2.2.2.2.2.2.2.2.2.1.2.2
        have fJ16 : ∀ n : Wd J, n.w.cell? ⟨kE, 6, none⟩ = some (.int .i64 (g 3).x) := fun n => (LJ.out n).2.2.2.2.2.2.2.2.2.2.2.2.2.2.2.2.1.2.1
        have zJ16 : ∀ n : Wd J, n.w.frozen? ⟨kE, 6, none⟩ = false := fun n => (LJ.out n).2.2.2.2.2.2.2.2.2.2.2.2.2.2.2.2.1.2.2
        have fJ17 : ∀ n : Wd J, n.w.cell? ⟨kE, 7, none⟩ = some (.int .i64 (g 3).y) := fun n => (LJ.out n).2.2.2.2.2.2.2.2.2.2.2.2.2.2.2.2.2.1.2.1
        have zJ17 : ∀ n : Wd J, n.w.frozen? ⟨kE, 7, none⟩ = false := fun n => (LJ.out n).2.2.2.2.2.2.2.2.2.2.2.2.2.2.2.2.2.1.2.2
        have fJ18 : ∀ n : Wd J, n.w.cell? ⟨kD, 0, none⟩ = some (.int .i64 (f 0).x) := fun n => (LJ.out n).2.2.2.2.2.2.2.2.2.2.2.2.2.2.2.2.2.2.1.2.1
        have zJ18 : ∀ n : Wd J, n.w.frozen? ⟨kD, 0, none⟩ = false := fun n => (LJ.out n).2.2.2.2.2.2.2.2.2.2.2.2.2.2.2.2.2.2.1.2.2
        have fJ19 : ∀ n : Wd J, n.w.cell? ⟨kD, 1, none⟩ = some (.int .i64 (f 0).y) := fun n => (LJ.out n).2.2.2.2.2.2.2.2.2.2.2.2.2.2.2.2.2.2.2.1.2.1
        have zJ19 : ∀ n : Wd J, n.w.frozen? ⟨kD, 1, none⟩ = false := fun n => (LJ.out n).2.2.2.2.2.2.2.2.2.2.2.2.2.2.2.2.2.2.2.1.2.2
        have fJ20 : ∀ n : Wd J, n.w.cell? ⟨kD, 2, none⟩ = some (.int .i64 (f 1).x) := fun n => (LJ.out n).2.2.2.2.2.2.2.2.2.2.2.2.2.2.2.2.2.2.2.2.1.2.1
        have zJ20 : ∀ n : Wd J, n.w.frozen? ⟨kD, 2, none⟩ = false := fun n => (LJ.out n).2.2.2.2.2.2.2.2.2.2.2.2.2.2.2.2.2.2.2.2.1.2.2
        have fJ21 : ∀ n : Wd J, n.w.cell? ⟨kD, 3, none⟩ = some (.int .i64 (f 1).y) := fun n => (LJ.out n).2.2.2.2.2.2.2.2.2.2.2.2.2.2.2.2.2.2.2.2.2.1.2.1
        have zJ21 : ∀ n : Wd J, n.w.frozen? ⟨kD, 3, none⟩ = false := fun n => (LJ.out n).2.2.2.2.2.2.2.2.2.2.2.2.2.2.2.2.2.2.2.2.2.1.2.2
        have fJ22 : ∀ n : Wd J, n.w.cell? ⟨kD, 4, none⟩ = some (.int .i64 (f 2).x) := fun n => (LJ.out n).2.2.2.2.2.2.2.2.2.2.2.2.2.2.2.2.2.2.2.2.2.2.1.2.1
        have zJ22 : ∀ n : Wd J, n.w.frozen? ⟨kD, 4, none⟩ = false := fun n => (LJ.out n).2.2.2.2.2.2.2.2.2.2.2.2.2.2.2.2.2.2.2.2.2.2.1.2.2
        have fJ23 : ∀ n : Wd J, n.w.cell? ⟨kD, 5, none⟩ = some (.int .i64 (f 2).y) := fun n => (LJ.out n).2.2.2.2.2.2.2.2.2.2.2.2.2.2.2.2.2.2.2.2.2.2.2.1.2.1
        have zJ23 : ∀ n : Wd J, n.w.frozen? ⟨kD, 5, none⟩ = false := fun n => (LJ.out n).2.2.2.2.2.2.2.2.2.2.2.2.2.2.2.2.2.2.2.2.2.2.2.1.2.2
        have fJ24 : ∀ n : Wd J, n.w.cell? ⟨kD, 6, none⟩ = some (.int .i64 (f 3).x) := fun n => (LJ.out n).2.2.2.2.2.2.2.2.2.2.2.2.2.2.2.2.2.2.2.2.2.2.2.2.1.2.1
        have zJ24 : ∀ n : Wd J, n.w.frozen? ⟨kD, 6, none⟩ = false := fun n => (LJ.out n).2.2.2.2.2.2.2.2.2.2.2.2.2.2.2.2.2.2.2.2.2.2.2.2.1.2.2
        have fJ25 : ∀ n : Wd J, n.w.cell? ⟨kD, 7, none⟩ = some (.int .i64 (f 3).y) := fun n => (LJ.out n).2.2.2.2.2.2.2.2.2.2.2.2.2.2.2.2.2.2.2.2.2.2.2.2.2.1.2.1
        have zJ25 : ∀ n : Wd J, n.w.frozen? ⟨kD, 7, none⟩ = false := fun n => (LJ.out n).2.2.2.2.2.2.2.2.2.2.2.2.2.2.2.2.2.2.2.2.2.2.2.2.2.1.2.2
        have fJ26 : ∀ n : Wd J, n.w.cell? ⟨w.heap.size + 1 + 1 + 1, 0, none⟩ = some (.int .i64 (0)) := fun n => (LJ.out n).2.2.2.2.2.2.2.2.2.2.2.2.2.2.2.2.2.2.2.2.2.2.2.2.2.2.1.2.1
        have zJ26 : ∀ n : Wd J, n.w.frozen? ⟨w.heap.size + 1 + 1 + 1, 0, none⟩ = false := fun n => (LJ.out n).2.2.2.2.2.2.2.2.2.2.2.2.2.2.2.2.2.2.2.2.2.2.2.2.2.2.1.2.2
        have fJ27 : ∀ n : Wd J, n.w.cell? ⟨w.heap.size + 1 + 1 + 1, 1, none⟩ = some (.int .i64 (0)) := fun n => (LJ.out n).2.2.2.2.2.2.2.2.2.2.2.2.2.2.2.2.2.2.2.2.2.2.2.2.2.2.2.1.2.1
        have zJ27 : ∀ n : Wd J, n.w.frozen? ⟨w.heap.size + 1 + 1 + 1, 1, none⟩ = false := fun n => (LJ.out n).2.2.2.2.2.2.2.2.2.2.2.2.2.2.2.2.2.2.2.2.2.2.2.2.2.2.2.1.2.2
        have fJ28 : ∀ n : Wd J, n.w.cell? ⟨w.heap.size + 1 + 1, 0, none⟩ = some (.int .i64 c.x.lo) := fun n => (LJ.out n).2.2.2.2.2.2.2.2.2.2.2.2.2.2.2.2.2.2.2.2.2.2.2.2.2.2.2.2.1.2.1
        have zJ28 : ∀ n : Wd J, n.w.frozen? ⟨w.heap.size + 1 + 1, 0, none⟩ = false := fun n => (LJ.out n).2.2.2.2.2.2.2.2.2.2.2.2.2.2.2.2.2.2.2.2.2.2.2.2.2.2.2.2.1.2.2
        have fJ29 : ∀ n : Wd J, n.w.cell? ⟨w.heap.size + 1 + 1, 1, none⟩ = some (.int .i64 c.x.hi) := fun n => (LJ.out n).2.2.2.2.2.2.2.2.2.2.2.2.2.2.2.2.2.2.2.2.2.2.2.2.2.2.2.2.2.1.2.1
        have zJ29 : ∀ n : Wd J, n.w.frozen? ⟨w.heap.size + 1 + 1, 1, none⟩ = false := fun n => (LJ.out n).2.2.2.2.2.2.2.2.2.2.2.2.2.2.2.2.2.2.2.2.2.2.2.2.2.2.2.2.2.1.2.2
        have fJ30 : ∀ n : Wd J, n.w.cell? ⟨w.heap.size + 1 + 1, 2, none⟩ = some (.int .i64 c.y.lo) := fun n => (LJ.out n).2.2.2.2.2.2.2.2.2.2.2.2.2.2.2.2.2.2.2.2.2.2.2.2.2.2.2.2.2.2.1.2.1
        have zJ30 : ∀ n : Wd J, n.w.frozen? ⟨w.heap.size + 1 + 1, 2, none⟩ = false := fun n => (LJ.out n).2.2.2.2.2.2.2.2.2.2.2.2.2.2.2.2.2.2.2.2.2.2.2.2.2.2.2.2.2.2.1.2.2
        have fJ31 : ∀ n : Wd J, n.w.cell? ⟨w.heap.size + 1 + 1, 3, none⟩ = some (.int .i64 c.y.hi) := fun n => (LJ.out n).2.2.2.2.2.2.2.2.2.2.2.2.2.2.2.2.2.2.2.2.2.2.2.2.2.2.2.2.2.2.2.1.2.1
        have zJ31 : ∀ n : Wd J, n.w.frozen? ⟨w.heap.size + 1 + 1, 3, none⟩ = false := fun n => (LJ.out n).2.2.2.2.2.2.2.2.2.2.2.2.2.2.2.2.2.2.2.2.2.2.2.2.2.2.2.2.2.2.2.1.2.2
        have fJ32 : ∀ n : Wd J, n.w.cell? ⟨w.heap.size + 1, 0, none⟩ = some (.int .i64 b.x.lo) := fun n => (LJ.out n).2.2.2.2.2.2.2.2.2.2.2.2.2.2.2.2.2.2.2.2.2.2.2.2.2.2.2.2.2.2.2.2.1.2.1
        have zJ32 : ∀ n : Wd J, n.w.frozen? ⟨w.heap.size + 1, 0, none⟩ = false := fun n => (LJ.out n).2.2.2.2.2.2.2.2.2.2.2.2.2.2.2.2.2.2.2.2.2.2.2.2.2.2.2.2.2.2.2.2.1.2.2
        have fJ33 : ∀ n : Wd J, n.w.cell? ⟨w.heap.size + 1, 1, none⟩ = some (.int .i64 b.x.hi) := fun n => (LJ.out n).2.2.2.2.2.2.2.2.2.2.2.2.2.2.2.2.2.2.2.2.2.2.2.2.2.2.2.2.2.2.2.2.2.1.2.1
        have zJ33 : ∀ n : Wd J, n.w.frozen? ⟨w.heap.size + 1, 1, none⟩ = false := fun n => (LJ.out n).2.2.2.2.2.2.2.2.2.2.2.2.2.2.2.2.2.2.2.2.2.2.2.2.2.2.2.2.2.2.2.2.2.1.2.2
        have fJ34 : ∀ n : Wd J, n.w.cell? ⟨w.heap.size + 1, 2, none⟩ = some (.int .i64 b.y.lo) := fun n => (LJ.out n).2.2.2.2.2.2.2.2.2.2.2.2.2.2.2.2.2.2.2.2.2.2.2.2.2.2.2.2.2.2.2.2.2.2.1.2.1
        have zJ34 : ∀ n : Wd J, n.w.frozen? ⟨w.heap.size + 1, 2, none⟩ = false := fun n => (LJ.out n).2.2.2.2.2.2.2.2.2.2.2.2.2.2.2.2.2.2.2.2.2.2.2.2.2.2.2.2.2.2.2.2.2.2.1.2.2
        have fJ35 : ∀ n : Wd J, n.w.cell? ⟨w.heap.size + 1, 3, none⟩ = some (.int .i64 b.y.hi) := fun n => (LJ.out n).2.2.2.2.2.2.2.2.2.2.2.2.2.2.2.2.2.2.2.2.2.2.2.2.2.2.2.2.2.2.2.2.2.2.2.1.2.1
        have zJ35 : ∀ n : Wd J, n.w.frozen? ⟨w.heap.size + 1, 3, none⟩ = false := fun n => (LJ.out n).2.2.2.2.2.2.2.2.2.2.2.2.2.2.2.2.2.2.2.2.2.2.2.2.2.2.2.2.2.2.2.2.2.2.2.1.2.2
        have fJ36 : ∀ n : Wd J, n.w.cell? ⟨w.heap.size, 0, none⟩ = some (.int .i64 a.x.lo) := fun n => (LJ.out n).2.2.2.2.2.2.2.2.2.2.2.2.2.2.2.2.2.2.2.2.2.2.2.2.2.2.2.2.2.2.2.2.2.2.2.2.1.2.1
        have zJ36 : ∀ n : Wd J, n.w.frozen? ⟨w.heap.size, 0, none⟩ = false := fun n => (LJ.out n).2.2.2.2.2.2.2.2.2.2.2.2.2.2.2.2.2.2.2.2.2.2.2.2.2.2.2.2.2.2.2.2.2.2.2.2.1.2.2
        have fJ37 : ∀ n : Wd J, n.w.cell? ⟨w.heap.size, 1, none⟩ = some (.int .i64 a.x.hi) := fun n => (LJ.out n).2.2.2.2.2.2.2.2.2.2.2.2.2.2.2.2.2.2.2.2.2.2.2.2.2.2.2.2.2.2.2.2.2.2.2.2.2.1.2.1
        have zJ37 : ∀ n : Wd J, n.w.frozen? ⟨w.heap.size, 1, none⟩ = false := fun n => (LJ.out n).2.2.2.2.2.2.2.2.2.2.2.2.2.2.2.2.2.2.2.2.2.2.2.2.2.2.2.2.2.2.2.2.2.2.2.2.2.1.2.2
        have fJ38 : ∀ n : Wd J, n.w.cell? ⟨w.heap.size, 2, none⟩ = some (.int .i64 a.y.lo) := fun n => (LJ.out n).2.2.2.2.2.2.2.2.2.2.2.2.2.2.2.2.2.2.2.2.2.2.2.2.2.2.2.2.2.2.2.2.2.2.2.2.2.2.1.2.1
        have zJ38 : ∀ n : Wd J, n.w.frozen? ⟨w.heap.size, 2, none⟩ = false := fun n => (LJ.out n).2.2.2.2.2.2.2.2.2.2.2.2.2.2.2.2.2.2.2.2.2.2.2.2.2.2.2.2.2.2.2.2.2.2.2.2.2.2.1.2.2
        have fJ39 : ∀ n : Wd J, n.w.cell? ⟨w.heap.size, 3, none⟩ = some (.int .i64 a.y.hi) := fun n => (LJ.out n).2.2.2.2.2.2.2.2.2.2.2.2.2.2.2.2.2.2.2.2.2.2.2.2.2.2.2.2.2.2.2.2.2.2.2.2.2.2.2.1.2.1
        have zJ39 : ∀ n : Wd J, n.w.frozen? ⟨w.heap.size, 3, none⟩ = false := fun n => (LJ.out n).2.2.2.2.2.2.2.2.2.2.2.2.2.2.2.2.2.2.2.2.2.2.2.2.2.2.2.2.2.2.2.2.2.2.2.2.2.2.2.1.2.2
        clear hS hC0
        have z0 : ∀ n : Wd J, n.w.frozen? ⟨kG, 0, none⟩ = false := fun n => (LJ.out n).1.2.2
        have z1 : ∀ n : Wd J, n.w.frozen? ⟨kG, 1, none⟩ = false := fun n => (LJ.out n).2.1.2.2
        have A1 : ∀ n : Wd J, n.w.cell? ⟨kD, m1 * 2, none⟩ = some (.int .i64 (f m1).x) ∧ n.w.cell? ⟨kD, m1 * 2 + 1, none⟩ = some (.int .i64 (f m1).y) := fun n => cells4 (fJ18 n) (fJ19 n) (fJ20 n) (fJ21 n) (fJ22 n) (fJ23 n) (fJ24 n) (fJ25 n) m1 l1
        have A2 : ∀ n : Wd J, n.w.cell? ⟨kE, m2 * 2, none⟩ = some (.int .i64 (g m2).x) ∧ n.w.cell? ⟨kE, m2 * 2 + 1, none⟩ = some (.int .i64 (g m2).y) := fun n => cells4 (fJ10 n) (fJ11 n) (fJ12 n) (fJ13 n) (fJ14 n) (fJ15 n) (fJ16 n) (fJ17 n) m2 l2
        have A3 : ∀ n : Wd J, n.w.cell? ⟨kF, m3 * 2, none⟩ = some (.int .i64 (h m3).x) ∧ n.w.cell? ⟨kF, m3 * 2 + 1, none⟩ = some (.int .i64 (h m3).y) := fun n => cells4 (fJ2 n) (fJ3 n) (fJ4 n) (fJ5 n) (fJ6 n) (fJ7 n) (fJ8 n) (fJ9 n) m3 l3
        have A1x := fun n => (A1 n).1
        have A1y := fun n => (A1 n).2
        have A2x := fun n => (A2 n).1
        have A2y := fun n => (A2 n).2
        have A3x := fun n => (A3 n).1
        have A3y := fun n => (A3 n).2
        have D7 := cin HJ (fun W => TB.out m1 m2 m3 W)
        clear A1 A2 A3 fJ2 fJ3 fJ4 fJ5 fJ6 fJ7 fJ8 fJ9 fJ10 fJ11 fJ12 fJ13 fJ14 fJ15 fJ16 fJ17 fJ18 fJ19 fJ20 fJ21 fJ22 fJ23 fJ24 fJ25
        have l1' : (m1 : Int) < 4 := by omega
        have l2' : (m2 : Int) < 4 := by omega
        have l3' : (m3 : Int) < 4 := by omega
        have hw0 : IntKind.i64.wrap ((k : Int) + 1) = (k : Int) + 1 := (wrapEq _).trans (w64 (by omega))
        have q2' : (k : Int) / 4 % 4 = (m2 : Int) := by omega
        clear hs
        go_wp2_with fail
        refine wp_region_in J (HJ.out _ _ (Wd.h _) (below_dr _)) (by kernel_rfl) (by kernel_rfl) ?_
        repeat (go_big_quiet_step (first | with_reducible exact (D7 _).out))
        refine wpQuiet_nil ?_
        intro wx hwx
        obtain ⟨n, rfl⟩ : ∃ n : Wd J, wx = n.w := ⟨⟨wx, hwx⟩, rfl⟩
        clear hwx
        clear D7 A1x A1y A2x A2y A3x A3y
        go_wp2_with fail
        go_roundw
        case rel =>
          refine ⟨k + 1, by simp, by omega, ?_⟩
          rw [HN.out]
          exact St.set2 ⟨BJ.out n, LJ.out n⟩ hgk.out hL.out _ _
        case measure => simp [intOf]; omega
      · obtain rfl : k = 64 := by omega
        obtain ⟨s, hs⟩ : ∃ s, spF f g h ⟨t0, t0⟩ 64 = s := ⟨_, rfl⟩
        have hR2 : R = some s := by rw [hRR.out, hs]
        rw [hs] at hS
        clear hRR hs
        subst hR2
        obtain ⟨J, hC0, HJ, LJ, BJ, hne⟩ := cls hS
        haveI := hne
        obtain ⟨j0, rfl⟩ : ∃ n : Wd J, wr = n.w := ⟨⟨_, hC0⟩, rfl⟩
        have fJ0 : ∀ n : Wd J, n.w.cell? ⟨kG, 0, none⟩ = some (.int .i64 s.lo) := fun n => (LJ.out n).1.2.1
        have fJ1 : ∀ n : Wd J, n.w.cell? ⟨kG, 1, none⟩ = some (.int .i64 s.hi) := fun n => (LJ.out n).2.1.2.1
        have fJ2 : ∀ n : Wd J, n.w.cell? ⟨kF, 0, none⟩ = some (.int .i64 (h 0).x) := fun n => (LJ.out n).2.2.1.2.1
        have zJ2 : ∀ n : Wd J, n.w.frozen? ⟨kF, 0, none⟩ = false := fun n => (LJ.out n).2.2.1.2.2
        have fJ3 : ∀ n : Wd J, n.w.cell? ⟨kF, 1, none⟩ = some (.int .i64 (h 0).y) := fun n => (LJ.out n).2.2.2.1.2.1
        have zJ3 : ∀ n : Wd J, n.w.frozen? ⟨kF, 1, none⟩ = false := fun n => (LJ.out n).2.2.2.1.2.2
        have fJ4 : ∀ n : Wd J, n.w.cell? ⟨kF, 2, none⟩ = some (.int .i64 (h 1).x) := fun n => (LJ.out n).2.2.2.2.1.2.1
        have zJ4 : ∀ n : Wd J, n.w.frozen? ⟨kF, 2, none⟩ = false := fun n => (LJ.out n).2.2.2.2.1.2.2
        have fJ5 : ∀ n : Wd J, n.w.cell? ⟨kF, 3, none⟩ = some (.int .i64 (h 1).y) := fun n => (LJ.out n).2.2.2.2.2.1.2.1
        have zJ5 : ∀ n : Wd J, n.w.frozen? ⟨kF, 3, none⟩ = false := fun n => (LJ.out n).2.2.2.2.2.1.2.2
        have fJ6 : ∀ n : Wd J, n.w.cell? ⟨kF, 4, none⟩ = some (.int .i64 (h 2).x) := fun n => (LJ.out n).2.2.2.2.2.2.1.2.1
        have zJ6 : ∀ n : Wd J, n.w.frozen? ⟨kF, 4, none⟩ = false := fun n => (LJ.out n).2.2.2.2.2.2.1.2.2
        have fJ7 : ∀ n : Wd J, n.w.cell? ⟨kF, 5, none⟩ = some (.int .i64 (h 2).y) := fun n => (LJ.out n).2.2.2.2.2.2.2.1.2.1
        have zJ7 : ∀ n : Wd J, n.w.frozen? ⟨kF, 5, none⟩ = false := fun n => (LJ.out n).2.2.2.2.2.2.2.1.2.2
        have fJ8 : ∀ n : Wd J, n.w.cell? ⟨kF, 6, none⟩ = some (.int .i64 (h 3).x) := fun n => (LJ.out n).2.2.2.2.2.2.2.2.1.2.1
        have zJ8 : ∀ n : Wd J, n.w.frozen? ⟨kF, 6, none⟩ = false := fun n => (LJ.out n).2.2.2.2.2.2.2.2.1.2.2
        have fJ9 : ∀ n : Wd J, n.w.cell? ⟨kF, 7, none⟩ = some (.int .i64 (h 3).y) := fun n => (LJ.out n).2.2.2.2.2.2.2.2.2.1.2.1
        have zJ9 : ∀ n : Wd J, n.w.frozen? ⟨kF, 7, none⟩ = false := fun n => (LJ.out n).2.2.2.2.2.2.2.2.2.1.2.2
        have fJ10 : ∀ n : Wd J, n.w.cell? ⟨kE, 0, none⟩ = some (.int .i64 (g 0).x) := fun n => (LJ.out n).2.2.2.2.2.2.2.2.2.2.1.2.1
        have zJ10 : ∀ n : Wd J, n.w.frozen? ⟨kE, 0, none⟩ = false := fun n => (LJ.out n).2.2.2.2.2.2.2.2.2.2.1.2.2
        have fJ11 : ∀ n : Wd J, n.w.cell? ⟨kE, 1, none⟩ = some (.int .i64 (g 0).y) := fun n => (LJ.out n).2.2.2.2.2.2.2.2.2.2.2.1.2.1
        have zJ11 : ∀ n : Wd J, n.w.frozen? ⟨kE, 1, none⟩ = false := fun n => (LJ.out n).2.2.2.2.2.2.2.2.2.2.2.1.2.2
        have fJ12 : ∀ n : Wd J, n.w.cell? ⟨kE, 2, none⟩ = some (.int .i64 (g 1).x) := fun n => (LJ.out n).2.2.2.2.2.2.2.2.2.2.2.2.1.2.1
        have zJ12 : ∀ n : Wd J, n.w.frozen? ⟨kE, 2, none⟩ = false := fun n => (LJ.out n).2.2.2.2.2.2.2.2.2.2.2.2.1.2.2
        have fJ13 : ∀ n : Wd J, n.w.cell? ⟨kE, 3, none⟩ = some (.int .i64 (g 1).y) := fun n => (LJ.out n).2.2.2.2.2.2.2.2.2.2.2.2.2.1.2.1
        have zJ13 : ∀ n : Wd J, n.w.frozen? ⟨kE, 3, none⟩ = false := fun n => (LJ.out n).2.2.2.2.2.2.2.2.2.2.2.2.2.1.2.2
        have fJ14 : ∀ n : Wd J, n.w.cell? ⟨kE, 4, none⟩ = some (.int .i64 (g 2).x) := fun n => (LJ.out n).2.2.2.2.2.2.2.2.2.2.2.2.2.2.1.2.1
        have zJ14 : ∀ n : Wd J, n.w.frozen? ⟨kE, 4, none⟩ = false := fun n => (LJ.out n).2.2.2.2.2.2.2.2.2.2.2.2.2.2.1.2.2
        have fJ15 : ∀ n : Wd J, n.w.cell? ⟨kE, 5, none⟩ = some (.int .i64 (g 2).y) := fun n => (LJ.out n).2.2.2.2.2.2.2.2.2.2.2.2.2.2.2.1.2.1
        have zJ15 : ∀ n : Wd J, n.w.frozen? ⟨kE, 5, none⟩ = false := fun n => (LJ.out n).2.2.2.2.2.2.2.2.2.2.2.2.2.2.2.1.2.2
        have fJ16 : ∀ n : Wd J, n.w.cell? ⟨kE, 6, none⟩ = some (.int .i64 (g 3).x) := fun n => (LJ.out n).2.2.2.2.2.2.2.2.2.2.2.2.2.2.2.2.1.2.1
        have zJ16 : ∀ n : Wd J, n.w.frozen? ⟨kE, 6, none⟩ = false := fun n => (LJ.out n).2.2.2.2.2.2.2.2.2.2.2.2.2.2.2.2.1.2.2
        have fJ17 : ∀ n : Wd J, n.w.cell? ⟨kE, 7, none⟩ = some (.int .i64 (g 3).y) := fun n => (LJ.out n).2.2.2.2.2.2.2.2.2.2.2.2.2.2.2.2.2.1.2.1
        have zJ17 : ∀ n : Wd J, n.w.frozen? ⟨kE, 7, none⟩ = false := fun n => (LJ.out n).2.2.2.2.2.2.2.2.2.2.2.2.2.2.2.2.2.1.2.2
        have fJ18 : ∀ n : Wd J, n.w.cell? ⟨kD, 0, none⟩ = some (.int .i64 (f 0).x) := fun n => (LJ.out n).2.2.2.2.2.2.2.2.2.2.2.2.2.2.2.2.2.2.1.2.1
        have zJ18 : ∀ n : Wd J, n.w.frozen? ⟨kD, 0, none⟩ = false := fun n => (LJ.out n).2.2.2.2.2.2.2.2.2.2.2.2.2.2.2.2.2.2.1.2.2
        have fJ19 : ∀ n : Wd J, n.w.cell? ⟨kD, 1, none⟩ = some (.int .i64 (f 0).y) := fun n => (LJ.out n).2.2.2.2.2.2.2.2.2.2.2.2.2.2.2.2.2.2.2.1.2.1
        have zJ19 : ∀ n : Wd J, n.w.frozen? ⟨kD, 1, none⟩ = false := fun n => (LJ.out n).2.2.2.2.2.2.2.2.2.2.2.2.2.2.2.2.2.2.2.1.2.2
        have fJ20 : ∀ n : Wd J, n.w.cell? ⟨kD, 2, none⟩ = some (.int .i64 (f 1).x) := fun n => (LJ.out n).2.2.2.2.2.2.2.2.2.2.2.2.2.2.2.2.2.2.2.2.1.2.1
        have zJ20 : ∀ n : Wd J, n.w.frozen? ⟨kD, 2, none⟩ = false := fun n => (LJ.out n).2.2.2.2.2.2.2.2.2.2.2.2.2.2.2.2.2.2.2.2.1.2.2
        have fJ21 : ∀ n : Wd J, n.w.cell? ⟨kD, 3, none⟩ = some (.int .i64 (f 1).y) := fun n => (LJ.out n).2.2.2.2.2.2.2.2.2.2.2.2.2.2.2.2.2.2.2.2.2.1.2.1
        have zJ21 : ∀ n : Wd J, n.w.frozen? ⟨kD, 3, none⟩ = false := fun n => (LJ.out n).2.2.2.2.2.2.2.2.2.2.2.2.2.2.2.2.2.2.2.2.2.1.2.2
        have fJ22 : ∀ n : Wd J, n.w.cell? ⟨kD, 4, none⟩ = some (.int .i64 (f 2).x) := fun n => (LJ.out n).2.2.2.2.2.2.2.2.2.2.2.2.2.2.2.2.2.2.2.2.2.2.1.2.1
        have zJ22 : ∀ n : Wd J, n.w.frozen? ⟨kD, 4, none⟩ = false := fun n => (LJ.out n).2.2.2.2.2.2.2.2.2.2.2.2.2.2.2.2.2.2.2.2.2.2.1.2.2
        have fJ23 : ∀ n : Wd J, n.w.cell? ⟨kD, 5, none⟩ = some (.int .i64 (f 2).y) := fun n => (LJ.out n).2.2.2.2.2.2.2.2.2.2.2.2.2.2.2.2.2.2.2.2.2.2.2.1.2.1
        have zJ23 : ∀ n : Wd J, n.w.frozen? ⟨kD, 5, none⟩ = false := fun n => (LJ.out n).2.2.2.2.2.2.2.2.2.2.2.2.2.2.2.2.2.2.2.2.2.2.2.1.2.2
        have fJ24 : ∀ n : Wd J, n.w.cell? ⟨kD, 6, none⟩ = some (.int .i64 (f 3).x) := fun n => (LJ.out n).2.2.2.2.2.2.2.2.2.2.2.2.2.2.2.2.2.2.2.2.2.2.2.2.1.2.1
        have zJ24 : ∀ n : Wd J, n.w.frozen? ⟨kD, 6, none⟩ = false := fun n => (LJ.out n).2.2.2.2.2.2.2.2.2.2.2.2.2.2.2.2.2.2.2.2.2.2.2.2.1.2.2
        have fJ25 : ∀ n : Wd J, n.w.cell? ⟨kD, 7, none⟩ = some (.int .i64 (f 3).y) := fun n => (LJ.out n).2.2.2.2.2.2.2.2.2.2.2.2.2.2.2.2.2.2.2.2.2.2.2.2.2.1.2.1
        have zJ25 : ∀ n : Wd J, n.w.frozen? ⟨kD, 7, none⟩ = false := fun n => (LJ.out n).2.2.2.2.2.2.2.2.2.2.2.2.2.2.2.2.2.2.2.2.2.2.2.2.2.1.2.2
        have fJ26 : ∀ n : Wd J, n.w.cell? ⟨w.heap.size + 1 + 1 + 1, 0, none⟩ = some (.int .i64 (0)) := fun n => (LJ.out n).2.2.2.2.2.2.2.2.2.2.2.2.2.2.2.2.2.2.2.2.2.2.2.2.2.2.1.2.1
        have zJ26 : ∀ n : Wd J, n.w.frozen? ⟨w.heap.size + 1 + 1 + 1, 0, none⟩ = false := fun n => (LJ.out n).2.2.2.2.2.2.2.2.2.2.2.2.2.2.2.2.2.2.2.2.2.2.2.2.2.2.1.2.2
        have fJ27 : ∀ n : Wd J, n.w.cell? ⟨w.heap.size + 1 + 1 + 1, 1, none⟩ = some (.int .i64 (0)) := fun n => (LJ.out n).2.2.2.2.2.2.2.2.2.2.2.2.2.2.2.2.2.2.2.2.2.2.2.2.2.2.2.1.2.1
        have zJ27 : ∀ n : Wd J, n.w.frozen? ⟨w.heap.size + 1 + 1 + 1, 1, none⟩ = false := fun n => (LJ.out n).2.2.2.2.2.2.2.2.2.2.2.2.2.2.2.2.2.2.2.2.2.2.2.2.2.2.2.1.2.2
        have fJ28 : ∀ n : Wd J, n.w.cell? ⟨w.heap.size + 1 + 1, 0, none⟩ = some (.int .i64 c.x.lo) := fun n => (LJ.out n).2.2.2.2.2.2.2.2.2.2.2.2.2.2.2.2.2.2.2.2.2.2.2.2.2.2.2.2.1.2.1
        have zJ28 : ∀ n : Wd J, n.w.frozen? ⟨w.heap.size + 1 + 1, 0, none⟩ = false := fun n => (LJ.out n).2.2.2.2.2.2.2.2.2.2.2.2.2.2.2.2.2.2.2.2.2.2.2.2.2.2.2.2.1.2.2
        have fJ29 : ∀ n : Wd J, n.w.cell? ⟨w.heap.size + 1 + 1, 1, none⟩ = some (.int .i64 c.x.hi) := fun n => (LJ.out n).2.2.2.2.2.2.2.2.2.2.2.2.2.2.2.2.2.2.2.2.2.2.2.2.2.2.2.2.2.1.2.1
        have zJ29 : ∀ n : Wd J, n.w.frozen? ⟨w.heap.size + 1 + 1, 1, none⟩ = false := fun n => (LJ.out n).2.2.2.2.2.2.2.2.2.2.2.2.2.2.2.2.2.2.2.2.2.2.2.2.2.2.2.2.2.1.2.2
        have fJ30 : ∀ n : Wd J, n.w.cell? ⟨w.heap.size + 1 + 1, 2, none⟩ = some (.int .i64 c.y.lo) := fun n => (LJ.out n).2.2.2.2.2.2.2.2.2.2.2.2.2.2.2.2.2.2.2.2.2.2.2.2.2.2.2.2.2.2.1.2.1
        have zJ30 : ∀ n : Wd J, n.w.frozen? ⟨w.heap.size + 1 + 1, 2, none⟩ = false := fun n => (LJ.out n).2.2.2.2.2.2.2.2.2.2.2.2.2.2.2.2.2.2.2.2.2.2.2.2.2.2.2.2.2.2.1.2.2
        have fJ31 : ∀ n : Wd J, n.w.cell? ⟨w.heap.size + 1 + 1, 3, none⟩ = some (.int .i64 c.y.hi) := fun n => (LJ.out n).2.2.2.2.2.2.2.2.2.2.2.2.2.2.2.2.2.2.2.2.2.2.2.2.2.2.2.2.2.2.2.1.2.1
        have zJ31 : ∀ n : Wd J, n.w.frozen? ⟨w.heap.size + 1 + 1, 3, none⟩ = false := fun n => (LJ.out n).2.2.2.2.2.2.2.2.2.2.2.2.2.2.2.2.2.2.2.2.2.2.2.2.2.2.2.2.2.2.2.1.2.2
        have fJ32 : ∀ n : Wd J, n.w.cell? ⟨w.heap.size + 1, 0, none⟩ = some (.int .i64 b.x.lo) := fun n => (LJ.out n).2.2.2.2.2.2.2.2.2.2.2.2.2.2.2.2.2.2.2.2.2.2.2.2.2.2.2.2.2.2.2.2.1.2.1
        have zJ32 : ∀ n : Wd J, n.w.frozen? ⟨w.heap.size + 1, 0, none⟩ = false := fun n => (LJ.out n).2.2.2.2.2.2.2.2.2.2.2.2.2.2.2.2.2.2.2.2.2.2.2.2.2.2.2.2.2.2.2.2.1.2.2
        have fJ33 : ∀ n : Wd J, n.w.cell? ⟨w.heap.size + 1, 1, none⟩ = some (.int .i64 b.x.hi) := fun n => (LJ.out n).2.2.2.2.2.2.2.2.2.2.2.2.2.2.2.2.2.2.2.2.2.2.2.2.2.2.2.2.2.2.2.2.2.1.2.1
        have zJ33 : ∀ n : Wd J, n.w.frozen? ⟨w.heap.size + 1, 1, none⟩ = false := fun n => (LJ.out n).2.2.2.2.2.2.2.2.2.2.2.2.2.2.2.2.2.2.2.2.2.2.2.2.2.2.2.2.2.2.2.2.2.1.2.2
        have fJ34 : ∀ n : Wd J, n.w.cell? ⟨w.heap.size + 1, 2, none⟩ = some (.int .i64 b.y.lo) := fun n => (LJ.out n).2.2.2.2.2.2.2.2.2.2.2.2.2.2.2.2.2.2.2.2.2.2.2.2.2.2.2.2.2.2.2.2.2.2.1.2.1
        have zJ34 : ∀ n : Wd J, n.w.frozen? ⟨w.heap.size + 1, 2, none⟩ = false := fun n => (LJ.out n).2.2.2.2.2.2.2.2.2.2.2.2.2.2.2.2.2.2.2.2.2.2.2.2.2.2.2.2.2.2.2.2.2.2.1.2.2
        have fJ35 : ∀ n : Wd J, n.w.cell? ⟨w.heap.size + 1, 3, none⟩ = some (.int .i64 b.y.hi) := fun n => (LJ.out n).2.2.2.2.2.2.2.2.2.2.2.2.2.2.2.2.2.2.2.2.2.2.2.2.2.2.2.2.2.2.2.2.2.2.2.1.2.1
        have zJ35 : ∀ n : Wd J, n.w.frozen? ⟨w.heap.size + 1, 3, none⟩ = false := fun n => (LJ.out n).2.2.2.2.2.2.2.2.2.2.2.2.2.2.2.2.2.2.2.2.2.2.2.2.2.2.2.2.2.2.2.2.2.2.2.1.2.2
        have fJ36 : ∀ n : Wd J, n.w.cell? ⟨w.heap.size, 0, none⟩ = some (.int .i64 a.x.lo) := fun n => (LJ.out n).2.2.2.2.2.2.2.2.2.2.2.2.2.2.2.2.2.2.2.2.2.2.2.2.2.2.2.2.2.2.2.2.2.2.2.2.1.2.1
        have zJ36 : ∀ n : Wd J, n.w.frozen? ⟨w.heap.size, 0, none⟩ = false := fun n => (LJ.out n).2.2.2.2.2.2.2.2.2.2.2.2.2.2.2.2.2.2.2.2.2.2.2.2.2.2.2.2.2.2.2.2.2.2.2.2.1.2.2
        have fJ37 : ∀ n : Wd J, n.w.cell? ⟨w.heap.size, 1, none⟩ = some (.int .i64 a.x.hi) := fun n => (LJ.out n).2.2.2.2.2.2.2.2.2.2.2.2.2.2.2.2.2.2.2.2.2.2.2.2.2.2.2.2.2.2.2.2.2.2.2.2.2.1.2.1
        have zJ37 : ∀ n : Wd J, n.w.frozen? ⟨w.heap.size, 1, none⟩ = false := fun n => (LJ.out n).2.2.2.2.2.2.2.2.2.2.2.2.2.2.2.2.2.2.2.2.2.2.2.2.2.2.2.2.2.2.2.2.2.2.2.2.2.1.2.2
        have fJ38 : ∀ n : Wd J, n.w.cell? ⟨w.heap.size, 2, none⟩ = some (.int .i64 a.y.lo) := fun n => (LJ.out n).2.2.2.2.2.2.2.2.2.2.2.2.2.2.2.2.2.2.2.2.2.2.2.2.2.2.2.2.2.2.2.2.2.2.2.2.2.2.1.2.1
        have zJ38 : ∀ n : Wd J, n.w.frozen? ⟨w.heap.size, 2, none⟩ = false := fun n => (LJ.out n).2.2.2.2.2.2.2.2.2.2.2.2.2.2.2.2.2.2.2.2.2.2.2.2.2.2.2.2.2.2.2.2.2.2.2.2.2.2.1.2.2
        have fJ39 : ∀ n : Wd J, n.w.cell? ⟨w.heap.size, 3, none⟩ = some (.int .i64 a.y.hi) := fun n => (LJ.out n).2.2.2.2.2.2.2.2.2.2.2.2.2.2.2.2.2.2.2.2.2.2.2.2.2.2.2.2.2.2.2.2.2.2.2.2.2.2.2.1.2.1
        have zJ39 : ∀ n : Wd J, n.w.frozen? ⟨w.heap.size, 3, none⟩ = false := fun n => (LJ.out n).2.2.2.2.2.2.2.2.2.2.2.2.2.2.2.2.2.2.2.2.2.2.2.2.2.2.2.2.2.2.2.2.2.2.2.2.2.2.2.1.2.2
        clear hS hC0
        go_wp2_with fail
        refine bodyPost_ret (v := spRes (some s)) (by simp [results, Try.results60, go_sem, spRes, fJ26, fJ27]) rfl ⟨rfl, ?_⟩
        exact below_set (below_set (BJ.out _) _ _ _ (by omega)) _ _ _ (by omega)
  · have hRR : R = none := by rw [HR.out, if_neg]; revert hz; cases za <;> cases zb <;> cases zc <;> simp
    subst hRR
    clear HR TA
    cases za <;> cases zb <;> cases zc
    all_goals first
    | (exfalso; exact hz ⟨rfl, rfl, rfl⟩)
    | (go_wp2_with (first | (go_at_call 54; with_reducible refine (D1 _).out.mono ?_; rintro e w' ⟨rfl, n, rfl⟩) | (go_at_call 54; with_reducible refine (D2 _).out.mono ?_; rintro e w' ⟨rfl, n, rfl⟩) | (go_at_call 54; with_reducible refine (D3 _).out.mono ?_; rintro e w' ⟨rfl, n, rfl⟩))
       refine bodyPost_ret (v := spRes none) (by simp [results, Try.results60, go_sem, spRes, fC0, fC1]) rfl ⟨rfl, ?_⟩
       exact below_set (below_set (BC.out _) _ _ _ (by omega)) _ _ _ (by omega))
end Go.Proofs.Ytdefpcjlbganpaa
