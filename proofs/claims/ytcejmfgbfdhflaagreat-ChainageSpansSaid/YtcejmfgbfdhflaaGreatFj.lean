import Derived.Test.YtcejmfgbfdhflaaGreatFi
import Derived.Test.YtcejmfgbfdhflaaGreatEh
import Derived.Test.YtcejmfgbfdhflaaGreatFd
import Derived.WalkKit
import Derived.LoopTactic
import Derived.WalkSpells
import Derived.WalkLawsBesides
import Derived.Lib.Hide
import Derived.BigQuiet
import Derived.IntWalk
import Derived.Deep.DeepMust
import Derived.WalkSmall
import Derived.StillTailTactics
import Derived.Deep.RegionLaw
import Derived.Deep.RegionHeld3
import Derived.Deep.QuietTactic
namespace Go.Proofs.YtcejmfgbfdhflaaGreat
open Go.RowKit Go.BigFrame Go.Sort Go.Shelf
attribute [local go_sem] World.cell?_alloc_some
theorem st_put {w W : World} {L1 L2 : List (Nat × Nat × Value)} {b o : Nat} {u : Value} (v : Value) (h : St w W (L1 ++ (b, o, u) :: L2)) (hb : w.heap.size ≤ b) (h1 : ∀ x ∈ L1 ++ L2, x.1 = b → x.2.1 ≠ o) : St w (W.setCell ⟨b, o, none⟩ v) (L1 ++ (b, o, v) :: L2) := by
  obtain ⟨h2, h3⟩ := Cs.mid h.c
  exact ⟨h.b.setCell (p := ⟨b, o, none⟩) hb v, Cs.mid_mk (Cs.setO h1 h2) (Cs.setS h3)⟩
theorem set4' {n b : Nat} {w W : World} (h : Below n w W) (hb : n ≤ b) (v0 v1 v2 v3 : Value) : Below n w ((((W.setCell ⟨b, 0, none⟩ v0).setCell ⟨b, 1, none⟩ v1).setCell ⟨b, 2, none⟩ v2).setCell ⟨b, 3, none⟩ v3) :=
  (set3 h hb v0 v1 v2).setCell (p := ⟨b, 3, none⟩) hb v3
/-- What the reference's Shortest and Longest find. -/
structure WnRes (E ch lo : Int) (l : List Int) (B : Nat) (W : World) (v : Value) : Prop where
  no : E ≠ 0 → v = .agg #[.int .i64 0, .int .i64 0, .slice none 0 0, .int .i64 E]
  ok : E = 0 → ∃ u, v = .agg #[.int .i64 ch, .int .i64 lo, u, .int .i64 0] ∧ OI W B u l
set_option maxRecDepth 100000 in
set_option maxHeartbeats 6400000 in
theorem wornfalse_any (x : WA) (ch lo hi : Int) (w : World) (h : x.At w) :
    Calls Tryz.prog 124 #[x.v, .int .i64 ch, spv lo hi, .bool false] w fun e w' => (∃ v, e = .returned v ∧ WnRes (alE x ch lo hi) ch lo (lnL lowS x (chOr x.cs ch) lo hi) w.heap.size w' v) ∧ Below w.heap.size w w' := by
  have K1 := fun W (hb : Below w.heap.size w W) => years_any x ch lo hi W (h.keep hb)
  have K2 := fun y W (hb : Below w.heap.size w W) => known_any x ch y W (h.keep hb)
  obtain ⟨a1, h1⟩ : ∃ f : Int → Int, (fun y => lgLo x ch y) = f := ⟨_, rfl⟩
  obtain ⟨a2, h2⟩ : ∃ f : Int → Int, (fun y => lgHi x ch y) = f := ⟨_, rfl⟩
  obtain ⟨a3, h3⟩ : ∃ f : Int → Int, (fun y => rsLo x ch y) = f := ⟨_, rfl⟩
  obtain ⟨a4, h4⟩ : ∃ f : Int → Int, (fun y => rsHi x ch y) = f := ⟨_, rfl⟩
  obtain ⟨a5, h5⟩ : ∃ f : Int → Int, (fun y => agE x ch y) = f := ⟨_, rfl⟩
  have g1 : ∀ y, lgLo x ch y = a1 y := fun y => by rw [← h1]
  have g2 : ∀ y, lgHi x ch y = a2 y := fun y => by rw [← h2]
  have g3 : ∀ y, rsLo x ch y = a3 y := fun y => by rw [← h3]
  have g4 : ∀ y, rsHi x ch y = a4 y := fun y => by rw [← h4]
  have g5 : ∀ y, agE x ch y = a5 y := fun y => by rw [← h5]
  simp only [g1, g2, g3, g4, g5] at K2
  obtain ⟨E, hE⟩ : ∃ E, alE x ch lo hi = E := ⟨_, rfl⟩
  obtain ⟨S, hS⟩ : ∃ S : Int → Spl, spO x (chOr x.cs ch) = S := ⟨_, rfl⟩
  obtain ⟨yr, hyr⟩ : ∃ E, yrE x ch lo hi = E := ⟨_, rfl⟩
  simp only [hyr] at K1
  have HYR : Hid (yr ≠ 0 → E = yr) := fun e => by rw [← hyr] at e; rw [← hE, alE_yrE e, hyr]
  have HR : Hid (yr = 0 → lo ≤ hi ∧ hi ≤ 4000 ∧ 0 ≤ lo) := fun e => by
    obtain ⟨-, -, ⟨y1, y2, y3, y4, y5⟩, -⟩ := yrE_zero (hyr.trans e)
    exact ⟨y2, y3, y4⟩
  have HAT : Hid (yr = 0 → ∀ y, lo ≤ y → y ≤ hi → (a5 y = 0 ∧ a1 y = lowS (S y) y ∧ a2 y = highS (S y) y) ∨ (a5 y ≠ 0 ∧ a5 y = E)) := fun e y u v => by
    have := (wornF (hyr.trans e)).at_ y u v
    rw [g1, g2, g5, hE, hS] at this
    exact this
  have HALL : Hid (yr = 0 → (∀ y, lo ≤ y → y ≤ hi → a5 y = 0) → E = 0) := fun e H => by
    rw [← hE]
    exact (wornF (hyr.trans e)).all (fun y u v => by rw [g5]; exact H y u v)
  obtain ⟨N, hN⟩ : ∃ N, (hi - lo + 1).toNat = N := ⟨_, rfl⟩
  rw [show lnL lowS x (chOr x.cs ch) lo hi = (yrs lo N).map (fun y => lowS (S y) y) from by rw [← hS, ← hN]; rfl]
  rw [hE]
  have HN := Lib.hid hN
  have HK2 := Lib.hid K2
  clear h h1 h2 h3 h4 h5 g1 g2 g3 g4 g5 hE hS hyr hN K2
  obtain ⟨cs, ps, rs, q1, q2, q3, c1, c2, c3⟩ := x
  simp only [WA.v] at *
  go_enter Tryz.func124, Tryz.ntmps124
  go_upto_region 1 with fail
  obtain ⟨W0, hW0⟩ : ∃ W0, (((w).alloc (.cells #[.slice q1 cs.length c1, .slice q2 ps.length c2, .slice q3 rs.length c3] 26)).alloc (.cells #[.int .i64 lo, .int .i64 hi] 30)).alloc (.cells #[.int .i64 0, .int .i64 0, .slice none 0 0, .int .i64 0] 65) = W0 := ⟨_, rfl⟩
  have S0 : St w W0 [(w.heap.size + 1 + 1, 0, .int .i64 0), (w.heap.size + 1 + 1, 1, .int .i64 0), (w.heap.size + 1 + 1, 2, .slice none 0 0), (w.heap.size + 1 + 1, 3, .int .i64 0), (w.heap.size + 1, 0, .int .i64 lo), (w.heap.size + 1, 1, .int .i64 hi), (w.heap.size, 0, .slice q1 cs.length c1), (w.heap.size, 1, .slice q2 ps.length c2), (w.heap.size, 2, .slice q3 rs.length c3)] := by rw [← hW0]; exact ((((St.nil w)).box #[.slice q1 cs.length c1, .slice q2 ps.length c2, .slice q3 rs.length c3] 26 (w.heap.size) (by simp)).box #[.int .i64 lo, .int .i64 hi] 30 (w.heap.size + 1) (by simp)).box #[.int .i64 0, .int .i64 0, .slice none 0 0, .int .i64 0] 65 (w.heap.size + 1 + 1) (by simp)
  rw [hW0]
  clear hW0
  obtain ⟨C, hC0, HC, LC, BC, hne⟩ := cls S0
  haveI := hne
  obtain ⟨c0, rfl⟩ : ∃ n : Wd C, W0 = n.w := ⟨⟨_, hC0⟩, rfl⟩
  have fC0 : ∀ n : Wd C, n.w.cell? ⟨w.heap.size + 1 + 1, 0, none⟩ = some (.int .i64 0) := fun n => (LC.out n).1.2.1
  have zC0 : ∀ n : Wd C, n.w.frozen? ⟨w.heap.size + 1 + 1, 0, none⟩ = false := fun n => (LC.out n).1.2.2
  have fC1 : ∀ n : Wd C, n.w.cell? ⟨w.heap.size + 1 + 1, 1, none⟩ = some (.int .i64 0) := fun n => (LC.out n).2.1.2.1
  have zC1 : ∀ n : Wd C, n.w.frozen? ⟨w.heap.size + 1 + 1, 1, none⟩ = false := fun n => (LC.out n).2.1.2.2
  have fC2 : ∀ n : Wd C, n.w.cell? ⟨w.heap.size + 1 + 1, 2, none⟩ = some (.slice none 0 0) := fun n => (LC.out n).2.2.1.2.1
  have zC2 : ∀ n : Wd C, n.w.frozen? ⟨w.heap.size + 1 + 1, 2, none⟩ = false := fun n => (LC.out n).2.2.1.2.2
  have fC3 : ∀ n : Wd C, n.w.cell? ⟨w.heap.size + 1 + 1, 3, none⟩ = some (.int .i64 0) := fun n => (LC.out n).2.2.2.1.2.1
  have zC3 : ∀ n : Wd C, n.w.frozen? ⟨w.heap.size + 1 + 1, 3, none⟩ = false := fun n => (LC.out n).2.2.2.1.2.2
  have fC4 : ∀ n : Wd C, n.w.cell? ⟨w.heap.size + 1, 0, none⟩ = some (.int .i64 lo) := fun n => (LC.out n).2.2.2.2.1.2.1
  have fC5 : ∀ n : Wd C, n.w.cell? ⟨w.heap.size + 1, 1, none⟩ = some (.int .i64 hi) := fun n => (LC.out n).2.2.2.2.2.1.2.1
  have fC6 : ∀ n : Wd C, n.w.cell? ⟨w.heap.size, 0, none⟩ = some (.slice q1 cs.length c1) := fun n => (LC.out n).2.2.2.2.2.2.1.2.1
  have fC7 : ∀ n : Wd C, n.w.cell? ⟨w.heap.size, 1, none⟩ = some (.slice q2 ps.length c2) := fun n => (LC.out n).2.2.2.2.2.2.2.1.2.1
  have fC8 : ∀ n : Wd C, n.w.cell? ⟨w.heap.size, 2, none⟩ = some (.slice q3 rs.length c3) := fun n => (LC.out n).2.2.2.2.2.2.2.2.1.2.1
  clear S0 hC0
  have D1 := cinL HC BC K1
  clear K1
  by_cases hy0 : yr = 0
  · subst hy0
    obtain ⟨y1, y2, y3⟩ := HR.out rfl
    have HHI : Hid (hi = lo + (N : Int) - 1) := by have := HN.out; unfold Hid; omega
    go_upto_region 4 with (first | first | (go_at_call 181; with_reducible refine (D1 _).out.mono ?_; rintro e w' ⟨rfl, n, rfl⟩))
    go_upto_region 5 with fail
    obtain ⟨W0, hW0⟩ : ∃ W0, (n.w).alloc (.cells #[.int .i64 ch, .int .i64 lo, .slice none 0 (0)] 58) = W0 := ⟨_, rfl⟩
    have S0 : St w W0 [(n.w.heap.size, 0, .int .i64 ch), (n.w.heap.size, 1, .int .i64 lo), (n.w.heap.size, 2, .slice none 0 (0)), (w.heap.size + 1 + 1, 0, .int .i64 0), (w.heap.size + 1 + 1, 1, .int .i64 0), (w.heap.size + 1 + 1, 2, .slice none 0 0), (w.heap.size + 1 + 1, 3, .int .i64 0), (w.heap.size + 1, 0, .int .i64 lo), (w.heap.size + 1, 1, .int .i64 hi), (w.heap.size, 0, .slice q1 cs.length c1), (w.heap.size, 1, .slice q2 ps.length c2), (w.heap.size, 2, .slice q3 rs.length c3)] := by rw [← hW0]; exact ((⟨BC.out n, LC.out n⟩ : St w n.w _)).box #[.int .i64 ch, .int .i64 lo, .slice none 0 (0)] 58 (n.w.heap.size) (by simp)
    rw [hW0]
    clear hW0
    obtain ⟨kD, hkk⟩ : ∃ k, n.w.heap.size = k := ⟨_, rfl⟩
    have gkD : w.heap.size ≤ kD := by rw [← hkk]; exact (BC.out n).size
    rw [hkk] at S0 ⊢
    have eD1 : kD ≠ w.heap.size + 1 + 1 := by have h := (LC.out n).1.1; omega
    have dD1 : w.heap.size + 1 + 1 ≠ kD := Ne.symm eD1
    have HKD := Lib.hid hkk
    clear hkk
    obtain ⟨D, hC0, HD, LD, BD, hne⟩ := cls S0
    haveI := hne
    obtain ⟨d0, rfl⟩ : ∃ n : Wd D, W0 = n.w := ⟨⟨_, hC0⟩, rfl⟩
    have fD0 : ∀ n : Wd D, n.w.cell? ⟨kD, 0, none⟩ = some (.int .i64 ch) := fun n => (LD.out n).1.2.1
    have zD0 : ∀ n : Wd D, n.w.frozen? ⟨kD, 0, none⟩ = false := fun n => (LD.out n).1.2.2
    have fD1 : ∀ n : Wd D, n.w.cell? ⟨kD, 1, none⟩ = some (.int .i64 lo) := fun n => (LD.out n).2.1.2.1
    have zD1 : ∀ n : Wd D, n.w.frozen? ⟨kD, 1, none⟩ = false := fun n => (LD.out n).2.1.2.2
    have fD2 : ∀ n : Wd D, n.w.cell? ⟨kD, 2, none⟩ = some (.slice none 0 (0)) := fun n => (LD.out n).2.2.1.2.1
    have zD2 : ∀ n : Wd D, n.w.frozen? ⟨kD, 2, none⟩ = false := fun n => (LD.out n).2.2.1.2.2
    have fD3 : ∀ n : Wd D, n.w.cell? ⟨w.heap.size + 1 + 1, 0, none⟩ = some (.int .i64 0) := fun n => (LD.out n).2.2.2.1.2.1
    have zD3 : ∀ n : Wd D, n.w.frozen? ⟨w.heap.size + 1 + 1, 0, none⟩ = false := fun n => (LD.out n).2.2.2.1.2.2
    have fD4 : ∀ n : Wd D, n.w.cell? ⟨w.heap.size + 1 + 1, 1, none⟩ = some (.int .i64 0) := fun n => (LD.out n).2.2.2.2.1.2.1
    have zD4 : ∀ n : Wd D, n.w.frozen? ⟨w.heap.size + 1 + 1, 1, none⟩ = false := fun n => (LD.out n).2.2.2.2.1.2.2
    have fD5 : ∀ n : Wd D, n.w.cell? ⟨w.heap.size + 1 + 1, 2, none⟩ = some (.slice none 0 0) := fun n => (LD.out n).2.2.2.2.2.1.2.1
    have zD5 : ∀ n : Wd D, n.w.frozen? ⟨w.heap.size + 1 + 1, 2, none⟩ = false := fun n => (LD.out n).2.2.2.2.2.1.2.2
    have fD6 : ∀ n : Wd D, n.w.cell? ⟨w.heap.size + 1 + 1, 3, none⟩ = some (.int .i64 0) := fun n => (LD.out n).2.2.2.2.2.2.1.2.1
    have zD6 : ∀ n : Wd D, n.w.frozen? ⟨w.heap.size + 1 + 1, 3, none⟩ = false := fun n => (LD.out n).2.2.2.2.2.2.1.2.2
    have fD7 : ∀ n : Wd D, n.w.cell? ⟨w.heap.size + 1, 0, none⟩ = some (.int .i64 lo) := fun n => (LD.out n).2.2.2.2.2.2.2.1.2.1
    have fD8 : ∀ n : Wd D, n.w.cell? ⟨w.heap.size + 1, 1, none⟩ = some (.int .i64 hi) := fun n => (LD.out n).2.2.2.2.2.2.2.2.1.2.1
    have fD9 : ∀ n : Wd D, n.w.cell? ⟨w.heap.size, 0, none⟩ = some (.slice q1 cs.length c1) := fun n => (LD.out n).2.2.2.2.2.2.2.2.2.1.2.1
    have fD10 : ∀ n : Wd D, n.w.cell? ⟨w.heap.size, 1, none⟩ = some (.slice q2 ps.length c2) := fun n => (LD.out n).2.2.2.2.2.2.2.2.2.2.1.2.1
    have fD11 : ∀ n : Wd D, n.w.cell? ⟨w.heap.size, 2, none⟩ = some (.slice q3 rs.length c3) := fun n => (LD.out n).2.2.2.2.2.2.2.2.2.2.2.1.2.1
    clear S0 hC0
    have hkD : w.heap.size + 1 + 1 < kD := by have h1 := (LC.out n).1.1; have h2 := HKD.out; omega
    have HKE := Lib.hid hkD
    have HS0 : Hid (St w d0.w [(kD, 0, .int .i64 ch), (kD, 1, .int .i64 lo), (kD, 2, .slice none 0 0), (w.heap.size + 1 + 1, 0, .int .i64 0), (w.heap.size + 1 + 1, 1, .int .i64 0), (w.heap.size + 1 + 1, 2, .slice none 0 0), (w.heap.size + 1 + 1, 3, .int .i64 0), (w.heap.size + 1, 0, .int .i64 lo), (w.heap.size + 1, 1, .int .i64 hi), (w.heap.size, 0, .slice q1 cs.length c1), (w.heap.size, 1, .slice q2 ps.length c2), (w.heap.size, 2, .slice q3 rs.length c3)]) := ⟨BD.out d0, LD.out d0⟩
    have hkz : kD < d0.w.heap.size := (LD.out d0).1.1
    have HKZ := Lib.hid hkz
    clear fC0 fC1 fC2 fC3 fC4 fC5 fC6 fC7 fC8 zC0 zC1 zC2 zC3 D1 hkD hkz
    go_wp2_with fail
    go_loopw [11] (fun i wr => ∃ (k : Nat) (u : Value), St w wr [(kD, 0, .int .i64 ch), (kD, 1, .int .i64 lo), (kD, 2, u), (w.heap.size + 1 + 1, 0, .int .i64 0), (w.heap.size + 1 + 1, 1, .int .i64 0), (w.heap.size + 1 + 1, 2, .slice none 0 0), (w.heap.size + 1 + 1, 3, .int .i64 0), (w.heap.size + 1, 0, .int .i64 lo), (w.heap.size + 1, 1, .int .i64 hi), (w.heap.size, 0, .slice q1 cs.length c1), (w.heap.size, 1, .slice q2 ps.length c2), (w.heap.size, 2, .slice q3 rs.length c3)] ∧ i = .int .i64 (lo + (k : Int)) ∧ k ≤ N ∧ OI wr (kD + 1) u ((yrs lo k).map fun y => lowS (S y) y) ∧ ∀ j : Nat, j < k → a5 (lo + (j : Int)) = 0) (fun i wr => N - (intOf i - lo).toNat)
    case atStart => exact ⟨0, _, HS0.out, by simp, Nat.zero_le _, World.ownsRow_nil _ _ _ _, fun j h => absurd h (by omega)⟩
    case round =>
      obtain ⟨k, u, hS, rfl, hk, hO, hz⟩ := hrel
      have HS := Lib.hid hS
      have HO := Lib.hid hO
      have HZ := Lib.hid hz
      clear hO hz fD0 fD1 fD2 fD3 fD4 fD5 fD6 fD7 fD8 fD9 fD10 fD11 zD0 zD1 zD2 zD3 zD4 zD5 zD6
      by_cases hlt : k < N
      · obtain ⟨y, hy⟩ : ∃ y, lo + (k : Int) = y := ⟨_, rfl⟩
        have hle : y ≤ hi := by have := HHI.out; omega
        have hyk : lo ≤ y := by omega
        have hw0 : wrap64 (y + 1) = y + 1 := w64 (by omega)
        have KK := HK2.out y
        have hat := HAT.out (by first | rfl | trivial) y hyk hle
        obtain ⟨b1, e1⟩ : ∃ b, a1 y = b := ⟨_, rfl⟩
        obtain ⟨b2, e2⟩ : ∃ b, a2 y = b := ⟨_, rfl⟩
        obtain ⟨b3, e3⟩ : ∃ b, a3 y = b := ⟨_, rfl⟩
        obtain ⟨b4, e4⟩ : ∃ b, a4 y = b := ⟨_, rfl⟩
        obtain ⟨b5, e5⟩ : ∃ b, a5 y = b := ⟨_, rfl⟩
        simp only [e1, e2, e3, e4, e5] at KK
        rw [e1, e2, e5] at hat
        have HA5 := Lib.hid e5
        have HATY := Lib.hid hat
        obtain ⟨-, -, -, -, -, -, -, ⟨-, f7, -⟩, ⟨-, f8, -⟩, ⟨-, f9, -⟩, ⟨-, f10, -⟩, ⟨-, f11, -⟩, -⟩ := hS.c
        have HB := Lib.hid hS.b
        have HKK := Lib.hid KK
        simp only [hy]
        have HYY := Lib.hid hy
        clear hS KK hat e1 e2 e3 e4 e5 hy
        go_upto_region 9 with (go_at_call 101; refine (HKK.out _ HB.out).mono ?_; rintro e w1 ⟨rfl, hb1⟩; have HB1 := Lib.hid hb1; clear hb1 f7 f8 f9 f10 f11)
        clear HKK
        have S1 : St w1 w1 [(kD, 0, .int .i64 ch), (kD, 1, .int .i64 lo), (kD, 2, u), (w.heap.size + 1 + 1, 0, .int .i64 0), (w.heap.size + 1 + 1, 1, .int .i64 0), (w.heap.size + 1 + 1, 2, .slice none 0 0), (w.heap.size + 1 + 1, 3, .int .i64 0), (w.heap.size + 1, 0, .int .i64 lo), (w.heap.size + 1, 1, .int .i64 hi), (w.heap.size, 0, .slice q1 cs.length c1), (w.heap.size, 1, .slice q2 ps.length c2), (w.heap.size, 2, .slice q3 rs.length c3)] := ⟨Below.refl _ _, (HS.out.next HB1.out).c⟩
        obtain ⟨K, hC0, HK, LK, BK, hne⟩ := cls S1
        haveI := hne
        obtain ⟨k0, rfl⟩ : ∃ n : Wd K, w1 = n.w := ⟨⟨_, hC0⟩, rfl⟩
        have fK0 : ∀ n : Wd K, n.w.cell? ⟨kD, 0, none⟩ = some (.int .i64 ch) := fun n => (LK.out n).1.2.1
        have fK1 : ∀ n : Wd K, n.w.cell? ⟨kD, 1, none⟩ = some (.int .i64 lo) := fun n => (LK.out n).2.1.2.1
        have fK2 : ∀ n : Wd K, n.w.cell? ⟨kD, 2, none⟩ = some (u) := fun n => (LK.out n).2.2.1.2.1
        have fK3 : ∀ n : Wd K, n.w.cell? ⟨w.heap.size + 1 + 1, 0, none⟩ = some (.int .i64 0) := fun n => (LK.out n).2.2.2.1.2.1
        have fK4 : ∀ n : Wd K, n.w.cell? ⟨w.heap.size + 1 + 1, 1, none⟩ = some (.int .i64 0) := fun n => (LK.out n).2.2.2.2.1.2.1
        have fK5 : ∀ n : Wd K, n.w.cell? ⟨w.heap.size + 1 + 1, 2, none⟩ = some (.slice none 0 0) := fun n => (LK.out n).2.2.2.2.2.1.2.1
        have fK6 : ∀ n : Wd K, n.w.cell? ⟨w.heap.size + 1 + 1, 3, none⟩ = some (.int .i64 0) := fun n => (LK.out n).2.2.2.2.2.2.1.2.1
        have fK7 : ∀ n : Wd K, n.w.cell? ⟨w.heap.size + 1, 0, none⟩ = some (.int .i64 lo) := fun n => (LK.out n).2.2.2.2.2.2.2.1.2.1
        have fK8 : ∀ n : Wd K, n.w.cell? ⟨w.heap.size + 1, 1, none⟩ = some (.int .i64 hi) := fun n => (LK.out n).2.2.2.2.2.2.2.2.1.2.1
        have fK9 : ∀ n : Wd K, n.w.cell? ⟨w.heap.size, 0, none⟩ = some (.slice q1 cs.length c1) := fun n => (LK.out n).2.2.2.2.2.2.2.2.2.1.2.1
        have fK10 : ∀ n : Wd K, n.w.cell? ⟨w.heap.size, 1, none⟩ = some (.slice q2 ps.length c2) := fun n => (LK.out n).2.2.2.2.2.2.2.2.2.2.1.2.1
        have fK11 : ∀ n : Wd K, n.w.cell? ⟨w.heap.size, 2, none⟩ = some (.slice q3 rs.length c3) := fun n => (LK.out n).2.2.2.2.2.2.2.2.2.2.2.1.2.1
        have zK0 : ∀ n : Wd K, n.w.frozen? ⟨kD, 0, none⟩ = false := fun n => (LK.out n).1.2.2
        have zK1 : ∀ n : Wd K, n.w.frozen? ⟨kD, 1, none⟩ = false := fun n => (LK.out n).2.1.2.2
        have zK2 : ∀ n : Wd K, n.w.frozen? ⟨kD, 2, none⟩ = false := fun n => (LK.out n).2.2.1.2.2
        have zK3 : ∀ n : Wd K, n.w.frozen? ⟨w.heap.size + 1 + 1, 0, none⟩ = false := fun n => (LK.out n).2.2.2.1.2.2
        have zK4 : ∀ n : Wd K, n.w.frozen? ⟨w.heap.size + 1 + 1, 1, none⟩ = false := fun n => (LK.out n).2.2.2.2.1.2.2
        have zK5 : ∀ n : Wd K, n.w.frozen? ⟨w.heap.size + 1 + 1, 2, none⟩ = false := fun n => (LK.out n).2.2.2.2.2.1.2.2
        have zK6 : ∀ n : Wd K, n.w.frozen? ⟨w.heap.size + 1 + 1, 3, none⟩ = false := fun n => (LK.out n).2.2.2.2.2.2.1.2.2
        clear S1 hC0
        obtain ⟨W0, hW0⟩ : ∃ W0, (k0.w).alloc (.cells #[.int .i64 b1, .int .i64 b2, .int .i64 b3, .int .i64 b4, .int .i64 b5] 144) = W0 := ⟨_, rfl⟩
        have S0 : St k0.w W0 [(k0.w.heap.size, 0, .int .i64 b1), (k0.w.heap.size, 1, .int .i64 b2), (k0.w.heap.size, 2, .int .i64 b3), (k0.w.heap.size, 3, .int .i64 b4), (k0.w.heap.size, 4, .int .i64 b5), (kD, 0, .int .i64 ch), (kD, 1, .int .i64 lo), (kD, 2, u), (w.heap.size + 1 + 1, 0, .int .i64 0), (w.heap.size + 1 + 1, 1, .int .i64 0), (w.heap.size + 1 + 1, 2, .slice none 0 0), (w.heap.size + 1 + 1, 3, .int .i64 0), (w.heap.size + 1, 0, .int .i64 lo), (w.heap.size + 1, 1, .int .i64 hi), (w.heap.size, 0, .slice q1 cs.length c1), (w.heap.size, 1, .slice q2 ps.length c2), (w.heap.size, 2, .slice q3 rs.length c3)] := by rw [← hW0]; exact ((⟨BK.out k0, LK.out k0⟩ : St k0.w k0.w _)).box #[.int .i64 b1, .int .i64 b2, .int .i64 b3, .int .i64 b4, .int .i64 b5] 144 (k0.w.heap.size) (by simp)
        rw [hW0]
        clear hW0
        obtain ⟨kY, hkk⟩ : ∃ k, k0.w.heap.size = k := ⟨_, rfl⟩
        have gkY : k0.w.heap.size ≤ kY := by rw [← hkk]; exact (BK.out k0).size
        rw [hkk] at S0 ⊢
        have eY1 : kY ≠ kD := by have h := (LK.out k0).1.1; omega
        have dY1 : kD ≠ kY := Ne.symm eY1
        have eY2 : kY ≠ w.heap.size + 1 + 1 := by have h := (LK.out k0).2.2.2.1.1; omega
        have dY2 : w.heap.size + 1 + 1 ≠ kY := Ne.symm eY2
        clear hkk
        obtain ⟨Y, hC0, HY, LY, BY, hne⟩ := cls S0
        haveI := hne
        obtain ⟨y0, rfl⟩ : ∃ n : Wd Y, W0 = n.w := ⟨⟨_, hC0⟩, rfl⟩
        have fY0 : ∀ n : Wd Y, n.w.cell? ⟨kY, 0, none⟩ = some (.int .i64 b1) := fun n => (LY.out n).1.2.1
        have fY1 : ∀ n : Wd Y, n.w.cell? ⟨kY, 1, none⟩ = some (.int .i64 b2) := fun n => (LY.out n).2.1.2.1
        have fY2 : ∀ n : Wd Y, n.w.cell? ⟨kY, 2, none⟩ = some (.int .i64 b3) := fun n => (LY.out n).2.2.1.2.1
        have fY3 : ∀ n : Wd Y, n.w.cell? ⟨kY, 3, none⟩ = some (.int .i64 b4) := fun n => (LY.out n).2.2.2.1.2.1
        have fY4 : ∀ n : Wd Y, n.w.cell? ⟨kY, 4, none⟩ = some (.int .i64 b5) := fun n => (LY.out n).2.2.2.2.1.2.1
        have fY5 : ∀ n : Wd Y, n.w.cell? ⟨kD, 0, none⟩ = some (.int .i64 ch) := fun n => (LY.out n).2.2.2.2.2.1.2.1
        have zY5 : ∀ n : Wd Y, n.w.frozen? ⟨kD, 0, none⟩ = false := fun n => (LY.out n).2.2.2.2.2.1.2.2
        have fY6 : ∀ n : Wd Y, n.w.cell? ⟨kD, 1, none⟩ = some (.int .i64 lo) := fun n => (LY.out n).2.2.2.2.2.2.1.2.1
        have zY6 : ∀ n : Wd Y, n.w.frozen? ⟨kD, 1, none⟩ = false := fun n => (LY.out n).2.2.2.2.2.2.1.2.2
        have fY7 : ∀ n : Wd Y, n.w.cell? ⟨kD, 2, none⟩ = some (u) := fun n => (LY.out n).2.2.2.2.2.2.2.1.2.1
        have zY7 : ∀ n : Wd Y, n.w.frozen? ⟨kD, 2, none⟩ = false := fun n => (LY.out n).2.2.2.2.2.2.2.1.2.2
        have fY8 : ∀ n : Wd Y, n.w.cell? ⟨w.heap.size + 1 + 1, 0, none⟩ = some (.int .i64 0) := fun n => (LY.out n).2.2.2.2.2.2.2.2.1.2.1
        have zY8 : ∀ n : Wd Y, n.w.frozen? ⟨w.heap.size + 1 + 1, 0, none⟩ = false := fun n => (LY.out n).2.2.2.2.2.2.2.2.1.2.2
        have fY9 : ∀ n : Wd Y, n.w.cell? ⟨w.heap.size + 1 + 1, 1, none⟩ = some (.int .i64 0) := fun n => (LY.out n).2.2.2.2.2.2.2.2.2.1.2.1
        have zY9 : ∀ n : Wd Y, n.w.frozen? ⟨w.heap.size + 1 + 1, 1, none⟩ = false := fun n => (LY.out n).2.2.2.2.2.2.2.2.2.1.2.2
        have fY10 : ∀ n : Wd Y, n.w.cell? ⟨w.heap.size + 1 + 1, 2, none⟩ = some (.slice none 0 0) := fun n => (LY.out n).2.2.2.2.2.2.2.2.2.2.1.2.1
        have zY10 : ∀ n : Wd Y, n.w.frozen? ⟨w.heap.size + 1 + 1, 2, none⟩ = false := fun n => (LY.out n).2.2.2.2.2.2.2.2.2.2.1.2.2
        have fY11 : ∀ n : Wd Y, n.w.cell? ⟨w.heap.size + 1 + 1, 3, none⟩ = some (.int .i64 0) := fun n => (LY.out n).2.2.2.2.2.2.2.2.2.2.2.1.2.1
        have zY11 : ∀ n : Wd Y, n.w.frozen? ⟨w.heap.size + 1 + 1, 3, none⟩ = false := fun n => (LY.out n).2.2.2.2.2.2.2.2.2.2.2.1.2.2
        have fY12 : ∀ n : Wd Y, n.w.cell? ⟨w.heap.size + 1, 0, none⟩ = some (.int .i64 lo) := fun n => (LY.out n).2.2.2.2.2.2.2.2.2.2.2.2.1.2.1
        have fY13 : ∀ n : Wd Y, n.w.cell? ⟨w.heap.size + 1, 1, none⟩ = some (.int .i64 hi) := fun n => (LY.out n).2.2.2.2.2.2.2.2.2.2.2.2.2.1.2.1
        have fY14 : ∀ n : Wd Y, n.w.cell? ⟨w.heap.size, 0, none⟩ = some (.slice q1 cs.length c1) := fun n => (LY.out n).2.2.2.2.2.2.2.2.2.2.2.2.2.2.1.2.1
        have fY15 : ∀ n : Wd Y, n.w.cell? ⟨w.heap.size, 1, none⟩ = some (.slice q2 ps.length c2) := fun n => (LY.out n).2.2.2.2.2.2.2.2.2.2.2.2.2.2.2.1.2.1
        have fY16 : ∀ n : Wd Y, n.w.cell? ⟨w.heap.size, 2, none⟩ = some (.slice q3 rs.length c3) := fun n => (LY.out n).2.2.2.2.2.2.2.2.2.2.2.2.2.2.2.2.1.2.1
        clear S0 hC0
        have HW2 : Hid (Below wr.heap.size wr y0.w) := HB1.out.trans ((BY.out y0).mono HB1.out.size)
        have HO2 := Lib.hid (ownsRow_keep HO.out HW2.out)
        by_cases hb5 : b5 = 0
        · subst hb5
          have HV : Hid (lowS (S y) y = b1) := by
            rcases HATY.out with ⟨-, h1, h2⟩ | ⟨h1, -⟩
            · first | exact h1.symm | exact h2.symm
            · exact absurd rfl h1
          have HLn : Hid (((yrs lo k).map fun y => lowS (S y) y).length ≤ 1000000) := by
            have := HHI.out
            unfold Hid; simp [yrs]; omega
          have HSZ : Hid (kD + 1 ≤ y0.w.heap.size) := (LY.out y0).2.2.2.2.2.1.1
          have HS2 := Lib.hid (HS.out.next HW2.out)
          clear HATY
          go_upto_region 7 with (at_builtin; refine appI HO2.out HSZ.out b1 HLn.out rfl _ _ rfl rfl rfl ?_; intro v' w2 hO4 hg4; obtain ⟨qv, cv, rfl, -, -⟩ := OI.ints hO4; have HO4 := Lib.hid hO4; have HG4 := Lib.hid hg4; have HS4 := Lib.hid (HS2.out.grown HO2.out hg4 (by have := HKE.out; omega) (by have := HKE.out; simp only [List.forall_mem_cons, List.not_mem_nil, false_implies, implies_true, and_true]; omega)); obtain ⟨-, -, ⟨-, i1, i2⟩, -⟩ := HS4.out.c; clear hO4 hg4)
          go_wp2_with fail
          go_roundw
          case rel =>
            have hyy := HYY.out
            refine ⟨k + 1, _, st_put (L1 := [(kD, 0, .int .i64 ch), (kD, 1, .int .i64 lo)]) (L2 := [(w.heap.size + 1 + 1, 0, .int .i64 0), (w.heap.size + 1 + 1, 1, .int .i64 0), (w.heap.size + 1 + 1, 2, .slice none 0 0), (w.heap.size + 1 + 1, 3, .int .i64 0), (w.heap.size + 1, 0, .int .i64 lo), (w.heap.size + 1, 1, .int .i64 hi), (w.heap.size, 0, .slice q1 cs.length c1), (w.heap.size, 1, .slice q2 ps.length c2), (w.heap.size, 2, .slice q3 rs.length c3)]) _ HS4.out (by have := HKE.out; omega) (by have := HKE.out; intro x hx e1; simp at hx; rcases hx with rfl | rfl | rfl | rfl | rfl | rfl | rfl | rfl | rfl | rfl | rfl <;> simp at e1 ⊢ <;> omega), by rw [← hyy]; congr 1; push_cast; omega, hlt, ?_, ?_⟩
            · have e : (yrs lo (k + 1)).map (fun y => lowS (S y) y) = (yrs lo k).map (fun y => lowS (S y) y) ++ [b1] := by
                rw [show yrs lo (k + 1) = yrs lo k ++ [lo + (k : Int)] from by simp [yrs, List.range_succ], List.map_append, List.map_cons, List.map_nil, hyy, HV.out]
              rw [e, show (yrs lo k).length + 1 = ((yrs lo k).map (fun y => lowS (S y) y) ++ [b1]).length from by simp]
              exact row_set (b := kD) (o := 2) HO4.out (by omega) _
            · intro j hj
              rcases Nat.lt_or_ge j k with h | h
              · exact HZ.out j h
              · obtain rfl : j = k := by omega
                rw [hyy]; exact HA5.out
          case measure => have hyy := HYY.out; simp [intOf]; omega
        · have hbb : (b5 != 0) = true := by simpa using hb5
          have hE5 : b5 = E := by
            rcases HATY.out with ⟨h1, -⟩ | ⟨-, h1⟩
            · exact absurd h1 hb5
            · exact h1
          subst hE5
          have HB5 := Lib.hid hb5
          have HBW : Hid (Below w.heap.size w y0.w) := HS.out.b.trans (HW2.out.mono HS.out.b.size)
          clear HATY hb5
          go_wp2_with fail
          refine bodyPost_ret (v := .agg #[.int .i64 0, .int .i64 0, .slice none 0 0, .int .i64 b5]) (by simp [results, Tryz.results124, go_sem, fY8, fY9, fY10, fY11]) rfl ?_
          exact ⟨⟨_, rfl, ⟨fun _ => rfl, fun e => absurd e HB5.out⟩⟩, set4' HBW.out (by omega) _ _ _ _⟩
      · obtain rfl : k = N := by omega
        have hE0 : E = 0 := HALL.out (by first | rfl | trivial) (fun y u v => by
          have := HHI.out
          have e := HZ.out (y - lo).toNat (by omega)
          rwa [show lo + ((y - lo).toNat : Int) = y from by omega] at e)
        subst hE0
        obtain ⟨qv, cv, rfl, -, -⟩ := OI.ints HO.out
        obtain ⟨⟨-, f0, -⟩, ⟨-, f1, -⟩, ⟨-, f2, -⟩, ⟨-, f3, i3⟩, ⟨-, f4, i4⟩, ⟨-, f5, i5⟩, ⟨-, f6, i6⟩, ⟨-, f7, -⟩, ⟨-, f8, -⟩, -⟩ := hS.c
        have hle : ¬ lo + (k : Int) ≤ hi := by have := HHI.out; omega
        clear hS
        go_wp2_with fail
        have hk1 := HKE.out
        refine bodyPost_ret (v := .agg #[.int .i64 ch, .int .i64 lo, .slice qv (((yrs lo k).map fun y => lowS (S y) y).length) cv, .int .i64 0]) (by simp [results, Tryz.results124, go_sem, f3, f4, f5, f6]) rfl ?_
        refine ⟨⟨_, rfl, ⟨fun e => absurd rfl e, fun _ => ⟨_, rfl, ?_⟩⟩⟩, set4' HS.out.b (by omega) _ _ _ _⟩
        exact row_mono (row_set (b := w.heap.size + 1 + 1) (o := 3) (row_set (b := w.heap.size + 1 + 1) (o := 2) (row_set (b := w.heap.size + 1 + 1) (o := 1) (row_set (b := w.heap.size + 1 + 1) (o := 0) HO.out (by omega) _) (by omega) _) (by omega) _) (by omega) _) (by omega)
  · have hb : (yr != 0) = true := by simpa using hy0
    obtain rfl := HYR.out hy0
    have HE := Lib.hid hy0
    clear hy0
    go_wp2_with (first | first | (go_at_call 181; with_reducible refine (D1 _).out.mono ?_; rintro e w' ⟨rfl, n, rfl⟩))
    refine bodyPost_ret (v := .agg #[.int .i64 0, .int .i64 0, .slice none 0 0, .int .i64 E]) (by simp [results, Tryz.results124, go_sem, fC0, fC1, fC2, fC3]) rfl ?_
    exact ⟨⟨_, rfl, ⟨fun _ => rfl, fun e => absurd e HE.out⟩⟩, set4' (BC.out _) (by omega) _ _ _ _⟩
set_option maxRecDepth 100000 in
set_option maxHeartbeats 6400000 in
theorem worntrue_any (x : WA) (ch lo hi : Int) (w : World) (h : x.At w) :
    Calls Tryz.prog 124 #[x.v, .int .i64 ch, spv lo hi, .bool true] w fun e w' => (∃ v, e = .returned v ∧ WnRes (alE x ch lo hi) ch lo (lnL highS x (chOr x.cs ch) lo hi) w.heap.size w' v) ∧ Below w.heap.size w w' := by
  have K1 := fun W (hb : Below w.heap.size w W) => years_any x ch lo hi W (h.keep hb)
  have K2 := fun y W (hb : Below w.heap.size w W) => known_any x ch y W (h.keep hb)
  obtain ⟨a1, h1⟩ : ∃ f : Int → Int, (fun y => lgLo x ch y) = f := ⟨_, rfl⟩
  obtain ⟨a2, h2⟩ : ∃ f : Int → Int, (fun y => lgHi x ch y) = f := ⟨_, rfl⟩
  obtain ⟨a3, h3⟩ : ∃ f : Int → Int, (fun y => rsLo x ch y) = f := ⟨_, rfl⟩
  obtain ⟨a4, h4⟩ : ∃ f : Int → Int, (fun y => rsHi x ch y) = f := ⟨_, rfl⟩
  obtain ⟨a5, h5⟩ : ∃ f : Int → Int, (fun y => agE x ch y) = f := ⟨_, rfl⟩
  have g1 : ∀ y, lgLo x ch y = a1 y := fun y => by rw [← h1]
  have g2 : ∀ y, lgHi x ch y = a2 y := fun y => by rw [← h2]
  have g3 : ∀ y, rsLo x ch y = a3 y := fun y => by rw [← h3]
  have g4 : ∀ y, rsHi x ch y = a4 y := fun y => by rw [← h4]
  have g5 : ∀ y, agE x ch y = a5 y := fun y => by rw [← h5]
  simp only [g1, g2, g3, g4, g5] at K2
  obtain ⟨E, hE⟩ : ∃ E, alE x ch lo hi = E := ⟨_, rfl⟩
  obtain ⟨S, hS⟩ : ∃ S : Int → Spl, spO x (chOr x.cs ch) = S := ⟨_, rfl⟩
  obtain ⟨yr, hyr⟩ : ∃ E, yrE x ch lo hi = E := ⟨_, rfl⟩
  simp only [hyr] at K1
  have HYR : Hid (yr ≠ 0 → E = yr) := fun e => by rw [← hyr] at e; rw [← hE, alE_yrE e, hyr]
  have HR : Hid (yr = 0 → lo ≤ hi ∧ hi ≤ 4000 ∧ 0 ≤ lo) := fun e => by
    obtain ⟨-, -, ⟨y1, y2, y3, y4, y5⟩, -⟩ := yrE_zero (hyr.trans e)
    exact ⟨y2, y3, y4⟩
  have HAT : Hid (yr = 0 → ∀ y, lo ≤ y → y ≤ hi → (a5 y = 0 ∧ a1 y = lowS (S y) y ∧ a2 y = highS (S y) y) ∨ (a5 y ≠ 0 ∧ a5 y = E)) := fun e y u v => by
    have := (wornF (hyr.trans e)).at_ y u v
    rw [g1, g2, g5, hE, hS] at this
    exact this
  have HALL : Hid (yr = 0 → (∀ y, lo ≤ y → y ≤ hi → a5 y = 0) → E = 0) := fun e H => by
    rw [← hE]
    exact (wornF (hyr.trans e)).all (fun y u v => by rw [g5]; exact H y u v)
  obtain ⟨N, hN⟩ : ∃ N, (hi - lo + 1).toNat = N := ⟨_, rfl⟩
  rw [show lnL highS x (chOr x.cs ch) lo hi = (yrs lo N).map (fun y => highS (S y) y) from by rw [← hS, ← hN]; rfl]
  rw [hE]
  have HN := Lib.hid hN
  have HK2 := Lib.hid K2
  clear h h1 h2 h3 h4 h5 g1 g2 g3 g4 g5 hE hS hyr hN K2
  obtain ⟨cs, ps, rs, q1, q2, q3, c1, c2, c3⟩ := x
  simp only [WA.v] at *
  go_enter Tryz.func124, Tryz.ntmps124
  go_upto_region 1 with fail
  obtain ⟨W0, hW0⟩ : ∃ W0, (((w).alloc (.cells #[.slice q1 cs.length c1, .slice q2 ps.length c2, .slice q3 rs.length c3] 26)).alloc (.cells #[.int .i64 lo, .int .i64 hi] 30)).alloc (.cells #[.int .i64 0, .int .i64 0, .slice none 0 0, .int .i64 0] 65) = W0 := ⟨_, rfl⟩
  have S0 : St w W0 [(w.heap.size + 1 + 1, 0, .int .i64 0), (w.heap.size + 1 + 1, 1, .int .i64 0), (w.heap.size + 1 + 1, 2, .slice none 0 0), (w.heap.size + 1 + 1, 3, .int .i64 0), (w.heap.size + 1, 0, .int .i64 lo), (w.heap.size + 1, 1, .int .i64 hi), (w.heap.size, 0, .slice q1 cs.length c1), (w.heap.size, 1, .slice q2 ps.length c2), (w.heap.size, 2, .slice q3 rs.length c3)] := by rw [← hW0]; exact ((((St.nil w)).box #[.slice q1 cs.length c1, .slice q2 ps.length c2, .slice q3 rs.length c3] 26 (w.heap.size) (by simp)).box #[.int .i64 lo, .int .i64 hi] 30 (w.heap.size + 1) (by simp)).box #[.int .i64 0, .int .i64 0, .slice none 0 0, .int .i64 0] 65 (w.heap.size + 1 + 1) (by simp)
  rw [hW0]
  clear hW0
  obtain ⟨C, hC0, HC, LC, BC, hne⟩ := cls S0
  haveI := hne
  obtain ⟨c0, rfl⟩ : ∃ n : Wd C, W0 = n.w := ⟨⟨_, hC0⟩, rfl⟩
  have fC0 : ∀ n : Wd C, n.w.cell? ⟨w.heap.size + 1 + 1, 0, none⟩ = some (.int .i64 0) := fun n => (LC.out n).1.2.1
  have zC0 : ∀ n : Wd C, n.w.frozen? ⟨w.heap.size + 1 + 1, 0, none⟩ = false := fun n => (LC.out n).1.2.2
  have fC1 : ∀ n : Wd C, n.w.cell? ⟨w.heap.size + 1 + 1, 1, none⟩ = some (.int .i64 0) := fun n => (LC.out n).2.1.2.1
  have zC1 : ∀ n : Wd C, n.w.frozen? ⟨w.heap.size + 1 + 1, 1, none⟩ = false := fun n => (LC.out n).2.1.2.2
  have fC2 : ∀ n : Wd C, n.w.cell? ⟨w.heap.size + 1 + 1, 2, none⟩ = some (.slice none 0 0) := fun n => (LC.out n).2.2.1.2.1
  have zC2 : ∀ n : Wd C, n.w.frozen? ⟨w.heap.size + 1 + 1, 2, none⟩ = false := fun n => (LC.out n).2.2.1.2.2
  have fC3 : ∀ n : Wd C, n.w.cell? ⟨w.heap.size + 1 + 1, 3, none⟩ = some (.int .i64 0) := fun n => (LC.out n).2.2.2.1.2.1
  have zC3 : ∀ n : Wd C, n.w.frozen? ⟨w.heap.size + 1 + 1, 3, none⟩ = false := fun n => (LC.out n).2.2.2.1.2.2
  have fC4 : ∀ n : Wd C, n.w.cell? ⟨w.heap.size + 1, 0, none⟩ = some (.int .i64 lo) := fun n => (LC.out n).2.2.2.2.1.2.1
  have fC5 : ∀ n : Wd C, n.w.cell? ⟨w.heap.size + 1, 1, none⟩ = some (.int .i64 hi) := fun n => (LC.out n).2.2.2.2.2.1.2.1
  have fC6 : ∀ n : Wd C, n.w.cell? ⟨w.heap.size, 0, none⟩ = some (.slice q1 cs.length c1) := fun n => (LC.out n).2.2.2.2.2.2.1.2.1
  have fC7 : ∀ n : Wd C, n.w.cell? ⟨w.heap.size, 1, none⟩ = some (.slice q2 ps.length c2) := fun n => (LC.out n).2.2.2.2.2.2.2.1.2.1
  have fC8 : ∀ n : Wd C, n.w.cell? ⟨w.heap.size, 2, none⟩ = some (.slice q3 rs.length c3) := fun n => (LC.out n).2.2.2.2.2.2.2.2.1.2.1
  clear S0 hC0
  have D1 := cinL HC BC K1
  clear K1
  by_cases hy0 : yr = 0
  · subst hy0
    obtain ⟨y1, y2, y3⟩ := HR.out rfl
    have HHI : Hid (hi = lo + (N : Int) - 1) := by have := HN.out; unfold Hid; omega
    go_upto_region 4 with (first | first | (go_at_call 181; with_reducible refine (D1 _).out.mono ?_; rintro e w' ⟨rfl, n, rfl⟩))
    go_upto_region 5 with fail
    obtain ⟨W0, hW0⟩ : ∃ W0, (n.w).alloc (.cells #[.int .i64 ch, .int .i64 lo, .slice none 0 (0)] 58) = W0 := ⟨_, rfl⟩
    have S0 : St w W0 [(n.w.heap.size, 0, .int .i64 ch), (n.w.heap.size, 1, .int .i64 lo), (n.w.heap.size, 2, .slice none 0 (0)), (w.heap.size + 1 + 1, 0, .int .i64 0), (w.heap.size + 1 + 1, 1, .int .i64 0), (w.heap.size + 1 + 1, 2, .slice none 0 0), (w.heap.size + 1 + 1, 3, .int .i64 0), (w.heap.size + 1, 0, .int .i64 lo), (w.heap.size + 1, 1, .int .i64 hi), (w.heap.size, 0, .slice q1 cs.length c1), (w.heap.size, 1, .slice q2 ps.length c2), (w.heap.size, 2, .slice q3 rs.length c3)] := by rw [← hW0]; exact ((⟨BC.out n, LC.out n⟩ : St w n.w _)).box #[.int .i64 ch, .int .i64 lo, .slice none 0 (0)] 58 (n.w.heap.size) (by simp)
    rw [hW0]
    clear hW0
    obtain ⟨kD, hkk⟩ : ∃ k, n.w.heap.size = k := ⟨_, rfl⟩
    have gkD : w.heap.size ≤ kD := by rw [← hkk]; exact (BC.out n).size
    rw [hkk] at S0 ⊢
    have eD1 : kD ≠ w.heap.size + 1 + 1 := by have h := (LC.out n).1.1; omega
    have dD1 : w.heap.size + 1 + 1 ≠ kD := Ne.symm eD1
    have HKD := Lib.hid hkk
    clear hkk
    obtain ⟨D, hC0, HD, LD, BD, hne⟩ := cls S0
    haveI := hne
    obtain ⟨d0, rfl⟩ : ∃ n : Wd D, W0 = n.w := ⟨⟨_, hC0⟩, rfl⟩
    have fD0 : ∀ n : Wd D, n.w.cell? ⟨kD, 0, none⟩ = some (.int .i64 ch) := fun n => (LD.out n).1.2.1
    have zD0 : ∀ n : Wd D, n.w.frozen? ⟨kD, 0, none⟩ = false := fun n => (LD.out n).1.2.2
    have fD1 : ∀ n : Wd D, n.w.cell? ⟨kD, 1, none⟩ = some (.int .i64 lo) := fun n => (LD.out n).2.1.2.1
    have zD1 : ∀ n : Wd D, n.w.frozen? ⟨kD, 1, none⟩ = false := fun n => (LD.out n).2.1.2.2
    have fD2 : ∀ n : Wd D, n.w.cell? ⟨kD, 2, none⟩ = some (.slice none 0 (0)) := fun n => (LD.out n).2.2.1.2.1
    have zD2 : ∀ n : Wd D, n.w.frozen? ⟨kD, 2, none⟩ = false := fun n => (LD.out n).2.2.1.2.2
    have fD3 : ∀ n : Wd D, n.w.cell? ⟨w.heap.size + 1 + 1, 0, none⟩ = some (.int .i64 0) := fun n => (LD.out n).2.2.2.1.2.1
    have zD3 : ∀ n : Wd D, n.w.frozen? ⟨w.heap.size + 1 + 1, 0, none⟩ = false := fun n => (LD.out n).2.2.2.1.2.2
    have fD4 : ∀ n : Wd D, n.w.cell? ⟨w.heap.size + 1 + 1, 1, none⟩ = some (.int .i64 0) := fun n => (LD.out n).2.2.2.2.1.2.1
    have zD4 : ∀ n : Wd D, n.w.frozen? ⟨w.heap.size + 1 + 1, 1, none⟩ = false := fun n => (LD.out n).2.2.2.2.1.2.2
    have fD5 : ∀ n : Wd D, n.w.cell? ⟨w.heap.size + 1 + 1, 2, none⟩ = some (.slice none 0 0) := fun n => (LD.out n).2.2.2.2.2.1.2.1
    have zD5 : ∀ n : Wd D, n.w.frozen? ⟨w.heap.size + 1 + 1, 2, none⟩ = false := fun n => (LD.out n).2.2.2.2.2.1.2.2
    have fD6 : ∀ n : Wd D, n.w.cell? ⟨w.heap.size + 1 + 1, 3, none⟩ = some (.int .i64 0) := fun n => (LD.out n).2.2.2.2.2.2.1.2.1
    have zD6 : ∀ n : Wd D, n.w.frozen? ⟨w.heap.size + 1 + 1, 3, none⟩ = false := fun n => (LD.out n).2.2.2.2.2.2.1.2.2
    have fD7 : ∀ n : Wd D, n.w.cell? ⟨w.heap.size + 1, 0, none⟩ = some (.int .i64 lo) := fun n => (LD.out n).2.2.2.2.2.2.2.1.2.1
    have fD8 : ∀ n : Wd D, n.w.cell? ⟨w.heap.size + 1, 1, none⟩ = some (.int .i64 hi) := fun n => (LD.out n).2.2.2.2.2.2.2.2.1.2.1
    have fD9 : ∀ n : Wd D, n.w.cell? ⟨w.heap.size, 0, none⟩ = some (.slice q1 cs.length c1) := fun n => (LD.out n).2.2.2.2.2.2.2.2.2.1.2.1
    have fD10 : ∀ n : Wd D, n.w.cell? ⟨w.heap.size, 1, none⟩ = some (.slice q2 ps.length c2) := fun n => (LD.out n).2.2.2.2.2.2.2.2.2.2.1.2.1
    have fD11 : ∀ n : Wd D, n.w.cell? ⟨w.heap.size, 2, none⟩ = some (.slice q3 rs.length c3) := fun n => (LD.out n).2.2.2.2.2.2.2.2.2.2.2.1.2.1
    clear S0 hC0
    have hkD : w.heap.size + 1 + 1 < kD := by have h1 := (LC.out n).1.1; have h2 := HKD.out; omega
    have HKE := Lib.hid hkD
    have HS0 : Hid (St w d0.w [(kD, 0, .int .i64 ch), (kD, 1, .int .i64 lo), (kD, 2, .slice none 0 0), (w.heap.size + 1 + 1, 0, .int .i64 0), (w.heap.size + 1 + 1, 1, .int .i64 0), (w.heap.size + 1 + 1, 2, .slice none 0 0), (w.heap.size + 1 + 1, 3, .int .i64 0), (w.heap.size + 1, 0, .int .i64 lo), (w.heap.size + 1, 1, .int .i64 hi), (w.heap.size, 0, .slice q1 cs.length c1), (w.heap.size, 1, .slice q2 ps.length c2), (w.heap.size, 2, .slice q3 rs.length c3)]) := ⟨BD.out d0, LD.out d0⟩
    have hkz : kD < d0.w.heap.size := (LD.out d0).1.1
    have HKZ := Lib.hid hkz
    clear fC0 fC1 fC2 fC3 fC4 fC5 fC6 fC7 fC8 zC0 zC1 zC2 zC3 D1 hkD hkz
    go_wp2_with fail
    go_loopw [11] (fun i wr => ∃ (k : Nat) (u : Value), St w wr [(kD, 0, .int .i64 ch), (kD, 1, .int .i64 lo), (kD, 2, u), (w.heap.size + 1 + 1, 0, .int .i64 0), (w.heap.size + 1 + 1, 1, .int .i64 0), (w.heap.size + 1 + 1, 2, .slice none 0 0), (w.heap.size + 1 + 1, 3, .int .i64 0), (w.heap.size + 1, 0, .int .i64 lo), (w.heap.size + 1, 1, .int .i64 hi), (w.heap.size, 0, .slice q1 cs.length c1), (w.heap.size, 1, .slice q2 ps.length c2), (w.heap.size, 2, .slice q3 rs.length c3)] ∧ i = .int .i64 (lo + (k : Int)) ∧ k ≤ N ∧ OI wr (kD + 1) u ((yrs lo k).map fun y => highS (S y) y) ∧ ∀ j : Nat, j < k → a5 (lo + (j : Int)) = 0) (fun i wr => N - (intOf i - lo).toNat)
    case atStart => exact ⟨0, _, HS0.out, by simp, Nat.zero_le _, World.ownsRow_nil _ _ _ _, fun j h => absurd h (by omega)⟩
    case round =>
      obtain ⟨k, u, hS, rfl, hk, hO, hz⟩ := hrel
      have HS := Lib.hid hS
      have HO := Lib.hid hO
      have HZ := Lib.hid hz
      clear hO hz fD0 fD1 fD2 fD3 fD4 fD5 fD6 fD7 fD8 fD9 fD10 fD11 zD0 zD1 zD2 zD3 zD4 zD5 zD6
      by_cases hlt : k < N
      · obtain ⟨y, hy⟩ : ∃ y, lo + (k : Int) = y := ⟨_, rfl⟩
        have hle : y ≤ hi := by have := HHI.out; omega
        have hyk : lo ≤ y := by omega
        have hw0 : wrap64 (y + 1) = y + 1 := w64 (by omega)
        have KK := HK2.out y
        have hat := HAT.out (by first | rfl | trivial) y hyk hle
        obtain ⟨b1, e1⟩ : ∃ b, a1 y = b := ⟨_, rfl⟩
        obtain ⟨b2, e2⟩ : ∃ b, a2 y = b := ⟨_, rfl⟩
        obtain ⟨b3, e3⟩ : ∃ b, a3 y = b := ⟨_, rfl⟩
        obtain ⟨b4, e4⟩ : ∃ b, a4 y = b := ⟨_, rfl⟩
        obtain ⟨b5, e5⟩ : ∃ b, a5 y = b := ⟨_, rfl⟩
        simp only [e1, e2, e3, e4, e5] at KK
        rw [e1, e2, e5] at hat
        have HA5 := Lib.hid e5
        have HATY := Lib.hid hat
        obtain ⟨-, -, -, -, -, -, -, ⟨-, f7, -⟩, ⟨-, f8, -⟩, ⟨-, f9, -⟩, ⟨-, f10, -⟩, ⟨-, f11, -⟩, -⟩ := hS.c
        have HB := Lib.hid hS.b
        have HKK := Lib.hid KK
        simp only [hy]
        have HYY := Lib.hid hy
        clear hS KK hat e1 e2 e3 e4 e5 hy
        go_upto_region 9 with (go_at_call 101; refine (HKK.out _ HB.out).mono ?_; rintro e w1 ⟨rfl, hb1⟩; have HB1 := Lib.hid hb1; clear hb1 f7 f8 f9 f10 f11)
        clear HKK
        have S1 : St w1 w1 [(kD, 0, .int .i64 ch), (kD, 1, .int .i64 lo), (kD, 2, u), (w.heap.size + 1 + 1, 0, .int .i64 0), (w.heap.size + 1 + 1, 1, .int .i64 0), (w.heap.size + 1 + 1, 2, .slice none 0 0), (w.heap.size + 1 + 1, 3, .int .i64 0), (w.heap.size + 1, 0, .int .i64 lo), (w.heap.size + 1, 1, .int .i64 hi), (w.heap.size, 0, .slice q1 cs.length c1), (w.heap.size, 1, .slice q2 ps.length c2), (w.heap.size, 2, .slice q3 rs.length c3)] := ⟨Below.refl _ _, (HS.out.next HB1.out).c⟩
        obtain ⟨K, hC0, HK, LK, BK, hne⟩ := cls S1
        haveI := hne
        obtain ⟨k0, rfl⟩ : ∃ n : Wd K, w1 = n.w := ⟨⟨_, hC0⟩, rfl⟩
        have fK0 : ∀ n : Wd K, n.w.cell? ⟨kD, 0, none⟩ = some (.int .i64 ch) := fun n => (LK.out n).1.2.1
        have fK1 : ∀ n : Wd K, n.w.cell? ⟨kD, 1, none⟩ = some (.int .i64 lo) := fun n => (LK.out n).2.1.2.1
        have fK2 : ∀ n : Wd K, n.w.cell? ⟨kD, 2, none⟩ = some (u) := fun n => (LK.out n).2.2.1.2.1
        have fK3 : ∀ n : Wd K, n.w.cell? ⟨w.heap.size + 1 + 1, 0, none⟩ = some (.int .i64 0) := fun n => (LK.out n).2.2.2.1.2.1
        have fK4 : ∀ n : Wd K, n.w.cell? ⟨w.heap.size + 1 + 1, 1, none⟩ = some (.int .i64 0) := fun n => (LK.out n).2.2.2.2.1.2.1
        have fK5 : ∀ n : Wd K, n.w.cell? ⟨w.heap.size + 1 + 1, 2, none⟩ = some (.slice none 0 0) := fun n => (LK.out n).2.2.2.2.2.1.2.1
        have fK6 : ∀ n : Wd K, n.w.cell? ⟨w.heap.size + 1 + 1, 3, none⟩ = some (.int .i64 0) := fun n => (LK.out n).2.2.2.2.2.2.1.2.1
        have fK7 : ∀ n : Wd K, n.w.cell? ⟨w.heap.size + 1, 0, none⟩ = some (.int .i64 lo) := fun n => (LK.out n).2.2.2.2.2.2.2.1.2.1
        have fK8 : ∀ n : Wd K, n.w.cell? ⟨w.heap.size + 1, 1, none⟩ = some (.int .i64 hi) := fun n => (LK.out n).2.2.2.2.2.2.2.2.1.2.1
        have fK9 : ∀ n : Wd K, n.w.cell? ⟨w.heap.size, 0, none⟩ = some (.slice q1 cs.length c1) := fun n => (LK.out n).2.2.2.2.2.2.2.2.2.1.2.1
        have fK10 : ∀ n : Wd K, n.w.cell? ⟨w.heap.size, 1, none⟩ = some (.slice q2 ps.length c2) := fun n => (LK.out n).2.2.2.2.2.2.2.2.2.2.1.2.1
        have fK11 : ∀ n : Wd K, n.w.cell? ⟨w.heap.size, 2, none⟩ = some (.slice q3 rs.length c3) := fun n => (LK.out n).2.2.2.2.2.2.2.2.2.2.2.1.2.1
        have zK0 : ∀ n : Wd K, n.w.frozen? ⟨kD, 0, none⟩ = false := fun n => (LK.out n).1.2.2
        have zK1 : ∀ n : Wd K, n.w.frozen? ⟨kD, 1, none⟩ = false := fun n => (LK.out n).2.1.2.2
        have zK2 : ∀ n : Wd K, n.w.frozen? ⟨kD, 2, none⟩ = false := fun n => (LK.out n).2.2.1.2.2
        have zK3 : ∀ n : Wd K, n.w.frozen? ⟨w.heap.size + 1 + 1, 0, none⟩ = false := fun n => (LK.out n).2.2.2.1.2.2
        have zK4 : ∀ n : Wd K, n.w.frozen? ⟨w.heap.size + 1 + 1, 1, none⟩ = false := fun n => (LK.out n).2.2.2.2.1.2.2
        have zK5 : ∀ n : Wd K, n.w.frozen? ⟨w.heap.size + 1 + 1, 2, none⟩ = false := fun n => (LK.out n).2.2.2.2.2.1.2.2
        have zK6 : ∀ n : Wd K, n.w.frozen? ⟨w.heap.size + 1 + 1, 3, none⟩ = false := fun n => (LK.out n).2.2.2.2.2.2.1.2.2
        clear S1 hC0
        obtain ⟨W0, hW0⟩ : ∃ W0, (k0.w).alloc (.cells #[.int .i64 b1, .int .i64 b2, .int .i64 b3, .int .i64 b4, .int .i64 b5] 144) = W0 := ⟨_, rfl⟩
        have S0 : St k0.w W0 [(k0.w.heap.size, 0, .int .i64 b1), (k0.w.heap.size, 1, .int .i64 b2), (k0.w.heap.size, 2, .int .i64 b3), (k0.w.heap.size, 3, .int .i64 b4), (k0.w.heap.size, 4, .int .i64 b5), (kD, 0, .int .i64 ch), (kD, 1, .int .i64 lo), (kD, 2, u), (w.heap.size + 1 + 1, 0, .int .i64 0), (w.heap.size + 1 + 1, 1, .int .i64 0), (w.heap.size + 1 + 1, 2, .slice none 0 0), (w.heap.size + 1 + 1, 3, .int .i64 0), (w.heap.size + 1, 0, .int .i64 lo), (w.heap.size + 1, 1, .int .i64 hi), (w.heap.size, 0, .slice q1 cs.length c1), (w.heap.size, 1, .slice q2 ps.length c2), (w.heap.size, 2, .slice q3 rs.length c3)] := by rw [← hW0]; exact ((⟨BK.out k0, LK.out k0⟩ : St k0.w k0.w _)).box #[.int .i64 b1, .int .i64 b2, .int .i64 b3, .int .i64 b4, .int .i64 b5] 144 (k0.w.heap.size) (by simp)
        rw [hW0]
        clear hW0
        obtain ⟨kY, hkk⟩ : ∃ k, k0.w.heap.size = k := ⟨_, rfl⟩
        have gkY : k0.w.heap.size ≤ kY := by rw [← hkk]; exact (BK.out k0).size
        rw [hkk] at S0 ⊢
        have eY1 : kY ≠ kD := by have h := (LK.out k0).1.1; omega
        have dY1 : kD ≠ kY := Ne.symm eY1
        have eY2 : kY ≠ w.heap.size + 1 + 1 := by have h := (LK.out k0).2.2.2.1.1; omega
        have dY2 : w.heap.size + 1 + 1 ≠ kY := Ne.symm eY2
        clear hkk
        obtain ⟨Y, hC0, HY, LY, BY, hne⟩ := cls S0
        haveI := hne
        obtain ⟨y0, rfl⟩ : ∃ n : Wd Y, W0 = n.w := ⟨⟨_, hC0⟩, rfl⟩
        have fY0 : ∀ n : Wd Y, n.w.cell? ⟨kY, 0, none⟩ = some (.int .i64 b1) := fun n => (LY.out n).1.2.1
        have fY1 : ∀ n : Wd Y, n.w.cell? ⟨kY, 1, none⟩ = some (.int .i64 b2) := fun n => (LY.out n).2.1.2.1
        have fY2 : ∀ n : Wd Y, n.w.cell? ⟨kY, 2, none⟩ = some (.int .i64 b3) := fun n => (LY.out n).2.2.1.2.1
        have fY3 : ∀ n : Wd Y, n.w.cell? ⟨kY, 3, none⟩ = some (.int .i64 b4) := fun n => (LY.out n).2.2.2.1.2.1
        have fY4 : ∀ n : Wd Y, n.w.cell? ⟨kY, 4, none⟩ = some (.int .i64 b5) := fun n => (LY.out n).2.2.2.2.1.2.1
        have fY5 : ∀ n : Wd Y, n.w.cell? ⟨kD, 0, none⟩ = some (.int .i64 ch) := fun n => (LY.out n).2.2.2.2.2.1.2.1
        have zY5 : ∀ n : Wd Y, n.w.frozen? ⟨kD, 0, none⟩ = false := fun n => (LY.out n).2.2.2.2.2.1.2.2
        have fY6 : ∀ n : Wd Y, n.w.cell? ⟨kD, 1, none⟩ = some (.int .i64 lo) := fun n => (LY.out n).2.2.2.2.2.2.1.2.1
        have zY6 : ∀ n : Wd Y, n.w.frozen? ⟨kD, 1, none⟩ = false := fun n => (LY.out n).2.2.2.2.2.2.1.2.2
        have fY7 : ∀ n : Wd Y, n.w.cell? ⟨kD, 2, none⟩ = some (u) := fun n => (LY.out n).2.2.2.2.2.2.2.1.2.1
        have zY7 : ∀ n : Wd Y, n.w.frozen? ⟨kD, 2, none⟩ = false := fun n => (LY.out n).2.2.2.2.2.2.2.1.2.2
        have fY8 : ∀ n : Wd Y, n.w.cell? ⟨w.heap.size + 1 + 1, 0, none⟩ = some (.int .i64 0) := fun n => (LY.out n).2.2.2.2.2.2.2.2.1.2.1
        have zY8 : ∀ n : Wd Y, n.w.frozen? ⟨w.heap.size + 1 + 1, 0, none⟩ = false := fun n => (LY.out n).2.2.2.2.2.2.2.2.1.2.2
        have fY9 : ∀ n : Wd Y, n.w.cell? ⟨w.heap.size + 1 + 1, 1, none⟩ = some (.int .i64 0) := fun n => (LY.out n).2.2.2.2.2.2.2.2.2.1.2.1
        have zY9 : ∀ n : Wd Y, n.w.frozen? ⟨w.heap.size + 1 + 1, 1, none⟩ = false := fun n => (LY.out n).2.2.2.2.2.2.2.2.2.1.2.2
        have fY10 : ∀ n : Wd Y, n.w.cell? ⟨w.heap.size + 1 + 1, 2, none⟩ = some (.slice none 0 0) := fun n => (LY.out n).2.2.2.2.2.2.2.2.2.2.1.2.1
        have zY10 : ∀ n : Wd Y, n.w.frozen? ⟨w.heap.size + 1 + 1, 2, none⟩ = false := fun n => (LY.out n).2.2.2.2.2.2.2.2.2.2.1.2.2
        have fY11 : ∀ n : Wd Y, n.w.cell? ⟨w.heap.size + 1 + 1, 3, none⟩ = some (.int .i64 0) := fun n => (LY.out n).2.2.2.2.2.2.2.2.2.2.2.1.2.1
        have zY11 : ∀ n : Wd Y, n.w.frozen? ⟨w.heap.size + 1 + 1, 3, none⟩ = false := fun n => (LY.out n).2.2.2.2.2.2.2.2.2.2.2.1.2.2
        have fY12 : ∀ n : Wd Y, n.w.cell? ⟨w.heap.size + 1, 0, none⟩ = some (.int .i64 lo) := fun n => (LY.out n).2.2.2.2.2.2.2.2.2.2.2.2.1.2.1
        have fY13 : ∀ n : Wd Y, n.w.cell? ⟨w.heap.size + 1, 1, none⟩ = some (.int .i64 hi) := fun n => (LY.out n).2.2.2.2.2.2.2.2.2.2.2.2.2.1.2.1
        have fY14 : ∀ n : Wd Y, n.w.cell? ⟨w.heap.size, 0, none⟩ = some (.slice q1 cs.length c1) := fun n => (LY.out n).2.2.2.2.2.2.2.2.2.2.2.2.2.2.1.2.1
        have fY15 : ∀ n : Wd Y, n.w.cell? ⟨w.heap.size, 1, none⟩ = some (.slice q2 ps.length c2) := fun n => (LY.out n).2.2.2.2.2.2.2.2.2.2.2.2.2.2.2.1.2.1
        have fY16 : ∀ n : Wd Y, n.w.cell? ⟨w.heap.size, 2, none⟩ = some (.slice q3 rs.length c3) := fun n => (LY.out n).2.2.2.2.2.2.2.2.2.2.2.2.2.2.2.2.1.2.1
        clear S0 hC0
        have HW2 : Hid (Below wr.heap.size wr y0.w) := HB1.out.trans ((BY.out y0).mono HB1.out.size)
        have HO2 := Lib.hid (ownsRow_keep HO.out HW2.out)
        by_cases hb5 : b5 = 0
        · subst hb5
          have HV : Hid (highS (S y) y = b2) := by
            rcases HATY.out with ⟨-, h1, h2⟩ | ⟨h1, -⟩
            · first | exact h1.symm | exact h2.symm
            · exact absurd rfl h1
          have HLn : Hid (((yrs lo k).map fun y => highS (S y) y).length ≤ 1000000) := by
            have := HHI.out
            unfold Hid; simp [yrs]; omega
          have HSZ : Hid (kD + 1 ≤ y0.w.heap.size) := (LY.out y0).2.2.2.2.2.1.1
          have HS2 := Lib.hid (HS.out.next HW2.out)
          clear HATY
          go_upto_region 7 with (at_builtin; refine appI HO2.out HSZ.out b2 HLn.out rfl _ _ rfl rfl rfl ?_; intro v' w2 hO4 hg4; obtain ⟨qv, cv, rfl, -, -⟩ := OI.ints hO4; have HO4 := Lib.hid hO4; have HG4 := Lib.hid hg4; have HS4 := Lib.hid (HS2.out.grown HO2.out hg4 (by have := HKE.out; omega) (by have := HKE.out; simp only [List.forall_mem_cons, List.not_mem_nil, false_implies, implies_true, and_true]; omega)); obtain ⟨-, -, ⟨-, i1, i2⟩, -⟩ := HS4.out.c; clear hO4 hg4)
          go_wp2_with fail
          go_roundw
          case rel =>
            have hyy := HYY.out
            refine ⟨k + 1, _, st_put (L1 := [(kD, 0, .int .i64 ch), (kD, 1, .int .i64 lo)]) (L2 := [(w.heap.size + 1 + 1, 0, .int .i64 0), (w.heap.size + 1 + 1, 1, .int .i64 0), (w.heap.size + 1 + 1, 2, .slice none 0 0), (w.heap.size + 1 + 1, 3, .int .i64 0), (w.heap.size + 1, 0, .int .i64 lo), (w.heap.size + 1, 1, .int .i64 hi), (w.heap.size, 0, .slice q1 cs.length c1), (w.heap.size, 1, .slice q2 ps.length c2), (w.heap.size, 2, .slice q3 rs.length c3)]) _ HS4.out (by have := HKE.out; omega) (by have := HKE.out; intro x hx e1; simp at hx; rcases hx with rfl | rfl | rfl | rfl | rfl | rfl | rfl | rfl | rfl | rfl | rfl <;> simp at e1 ⊢ <;> omega), by rw [← hyy]; congr 1; push_cast; omega, hlt, ?_, ?_⟩
            · have e : (yrs lo (k + 1)).map (fun y => highS (S y) y) = (yrs lo k).map (fun y => highS (S y) y) ++ [b2] := by
                rw [show yrs lo (k + 1) = yrs lo k ++ [lo + (k : Int)] from by simp [yrs, List.range_succ], List.map_append, List.map_cons, List.map_nil, hyy, HV.out]
              rw [e, show (yrs lo k).length + 1 = ((yrs lo k).map (fun y => highS (S y) y) ++ [b2]).length from by simp]
              exact row_set (b := kD) (o := 2) HO4.out (by omega) _
            · intro j hj
              rcases Nat.lt_or_ge j k with h | h
              · exact HZ.out j h
              · obtain rfl : j = k := by omega
                rw [hyy]; exact HA5.out
          case measure => have hyy := HYY.out; simp [intOf]; omega
        · have hbb : (b5 != 0) = true := by simpa using hb5
          have hE5 : b5 = E := by
            rcases HATY.out with ⟨h1, -⟩ | ⟨-, h1⟩
            · exact absurd h1 hb5
            · exact h1
          subst hE5
          have HB5 := Lib.hid hb5
          have HBW : Hid (Below w.heap.size w y0.w) := HS.out.b.trans (HW2.out.mono HS.out.b.size)
          clear HATY hb5
          go_wp2_with fail
          refine bodyPost_ret (v := .agg #[.int .i64 0, .int .i64 0, .slice none 0 0, .int .i64 b5]) (by simp [results, Tryz.results124, go_sem, fY8, fY9, fY10, fY11]) rfl ?_
          exact ⟨⟨_, rfl, ⟨fun _ => rfl, fun e => absurd e HB5.out⟩⟩, set4' HBW.out (by omega) _ _ _ _⟩
      · obtain rfl : k = N := by omega
        have hE0 : E = 0 := HALL.out (by first | rfl | trivial) (fun y u v => by
          have := HHI.out
          have e := HZ.out (y - lo).toNat (by omega)
          rwa [show lo + ((y - lo).toNat : Int) = y from by omega] at e)
        subst hE0
        obtain ⟨qv, cv, rfl, -, -⟩ := OI.ints HO.out
        obtain ⟨⟨-, f0, -⟩, ⟨-, f1, -⟩, ⟨-, f2, -⟩, ⟨-, f3, i3⟩, ⟨-, f4, i4⟩, ⟨-, f5, i5⟩, ⟨-, f6, i6⟩, ⟨-, f7, -⟩, ⟨-, f8, -⟩, -⟩ := hS.c
        have hle : ¬ lo + (k : Int) ≤ hi := by have := HHI.out; omega
        clear hS
        go_wp2_with fail
        have hk1 := HKE.out
        refine bodyPost_ret (v := .agg #[.int .i64 ch, .int .i64 lo, .slice qv (((yrs lo k).map fun y => highS (S y) y).length) cv, .int .i64 0]) (by simp [results, Tryz.results124, go_sem, f3, f4, f5, f6]) rfl ?_
        refine ⟨⟨_, rfl, ⟨fun e => absurd rfl e, fun _ => ⟨_, rfl, ?_⟩⟩⟩, set4' HS.out.b (by omega) _ _ _ _⟩
        exact row_mono (row_set (b := w.heap.size + 1 + 1) (o := 3) (row_set (b := w.heap.size + 1 + 1) (o := 2) (row_set (b := w.heap.size + 1 + 1) (o := 1) (row_set (b := w.heap.size + 1 + 1) (o := 0) HO.out (by omega) _) (by omega) _) (by omega) _) (by omega) _) (by omega)
  · have hb : (yr != 0) = true := by simpa using hy0
    obtain rfl := HYR.out hy0
    have HE := Lib.hid hy0
    clear hy0
    go_wp2_with (first | first | (go_at_call 181; with_reducible refine (D1 _).out.mono ?_; rintro e w' ⟨rfl, n, rfl⟩))
    refine bodyPost_ret (v := .agg #[.int .i64 0, .int .i64 0, .slice none 0 0, .int .i64 E]) (by simp [results, Tryz.results124, go_sem, fC0, fC1, fC2, fC3]) rfl ?_
    exact ⟨⟨_, rfl, ⟨fun _ => rfl, fun e => absurd e HE.out⟩⟩, set4' (BC.out _) (by omega) _ _ _ _⟩
end Go.Proofs.YtcejmfgbfdhflaaGreat
