import Derived.Test.YtcejmfgbfdhflaaGreatEg
import Derived.WalkKit
import Derived.LoopTactic
import Derived.WalkSpells
import Derived.WalkLawsBesides
import Derived.Lib.Hide
import Derived.BigQuiet
import Derived.IntWalk
import Derived.Deep.DeepMust
import Derived.WalkSmall
import Derived.StillTailTactics
import Derived.Deep.RegionLaw
import Derived.Deep.RegionHeld3
import Derived.Deep.QuietTactic
namespace Go.Proofs.YtcejmfgbfdhflaaGreat
open Go.RowKit Go.BigFrame Go.Sort
attribute [local go_sem] World.cell?_alloc_some
set_option maxRecDepth 100000 in
set_option maxHeartbeats 12800000 in
theorem known_any (x : WA) (ch y : Int) (w : World) (h : x.At w) :
    Calls Tryz.prog 101 #[x.v, .int .i64 ch, .int .i64 y] w fun e w' => e = .returned (.agg #[.int .i64 (lgLo x ch y), .int .i64 (lgHi x ch y), .int .i64 (rsLo x ch y), .int .i64 (rsHi x ch y), .int .i64 (agE x ch y)]) ∧ Below w.heap.size w w' := by
  have K1 := fun W (hb : Below w.heap.size w W) => rSpell_any x ch y W (h.keep hb)
  have K2 := fun W (hb : Below w.heap.size w W) => chainAtD_any x ch W (h.keep hb)
  have K3 := fun c lo hi W (hb : Below w.heap.size w W) => In_any x c lo hi W (h.keep hb)
  have HN : Hid (sE x ch y ≠ 0 → lgLo x ch y = 0 ∧ lgHi x ch y = 0 ∧ rsLo x ch y = 0 ∧ rsHi x ch y = 0 ∧ agE x ch y = sE x ch y) := fun e => by
    have e1 : agE x ch y = sE x ch y := by unfold agE; rw [if_pos e]
    have e2 : ¬ agE x ch y = 0 := by rw [e1]; exact e
    exact ⟨by unfold lgLo; rw [if_neg e2], by unfold lgHi; rw [if_neg e2], by unfold rsLo; rw [if_neg e2], by unfold rsHi; rw [if_neg e2], e1⟩
  have HY : Hid (sE x ch y = 0 → ∃ c, chF x.cs ch = some c ∧ slLo x ch y = (spO x c y).lo ∧ slHi x ch y = (spO x c y).hi ∧ Kno x c ch y (inL x c (spO x c y).lo (spO x c y).hi) (lgLo x ch y) (lgHi x ch y) (rsLo x ch y) (rsHi x ch y) (agE x ch y)) := fun e => by
    obtain ⟨-, ⟨c, hc, hcc⟩, -⟩ := sE_zero e
    exact ⟨c, hc, by unfold slLo; rw [if_pos e, hcc], by unfold slHi; rw [if_pos e, hcc], kno_of e hc⟩
  have H := Lib.hid h.cs
  have HAT : Hid (∀ c, chF x.cs ch = some c → ∃ k : Nat, ∃ h : k < x.cs.length, atI x.cs ch = (k : Int) ∧ x.cs[k] = c) := fun c hc => atI_some hc
  obtain ⟨A, hA⟩ : ∃ A, lgLo x ch y = A := ⟨_, rfl⟩
  obtain ⟨B1, hB1⟩ : ∃ B, lgHi x ch y = B := ⟨_, rfl⟩
  obtain ⟨LA, hLA⟩ : ∃ B, rsLo x ch y = B := ⟨_, rfl⟩
  obtain ⟨LB, hLB⟩ : ∃ B, rsHi x ch y = B := ⟨_, rfl⟩
  obtain ⟨E, hE⟩ : ∃ E, agE x ch y = E := ⟨_, rfl⟩
  obtain ⟨k, hk⟩ : ∃ E, sE x ch y = E := ⟨_, rfl⟩
  obtain ⟨sl, hsl⟩ : ∃ E, slLo x ch y = E := ⟨_, rfl⟩
  obtain ⟨sh, hsh⟩ : ∃ E, slHi x ch y = E := ⟨_, rfl⟩
  obtain ⟨m, hm⟩ : ∃ E, atI x.cs ch = E := ⟨_, rfl⟩
  rw [hA, hB1, hLA, hLB, hE, hk] at HN
  rw [hA, hB1, hLA, hLB, hE, hk, hsl, hsh] at HY
  rw [hm] at HAT
  simp only [hm] at K2
  simp only [hsl, hsh, hk] at K1
  rw [hA, hB1, hLA, hLB, hE]
  obtain ⟨X, hX⟩ : ∃ X, x = X := ⟨_, rfl⟩
  have HY2 : Hid (k = 0 → ∃ c, chF x.cs ch = some c ∧ sl = (spO X c y).lo ∧ sh = (spO X c y).hi ∧ Kno X c ch y (inL X c (spO X c y).lo (spO X c y).hi) A B1 LA LB E) := by rw [← hX]; exact HY
  have K32 : ∀ c lo hi W, Below w.heap.size w W → Calls Tryz.prog 120 #[x.v, c.v, spv lo hi] W fun e w' => (∃ v, e = .returned v ∧ OTh w' (W.heap.size + 1 + 1 + 1) v (inL X c lo hi)) ∧ Below W.heap.size W w' := by rw [← hX]; exact K3
  clear h hA hB1 hLA hLB hE hk hsl hsh hm HY K3 hX
  obtain ⟨cs, ps, rs, q1, q2, q3, c1, c2, c3⟩ := x
  simp only [WA.v] at *
  go_enter Tryz.func101, Tryz.ntmps101
  go_upto_region 1 with fail
  obtain ⟨W0, hW0⟩ : ∃ W0, ((w).alloc (.cells #[.slice q1 cs.length c1, .slice q2 ps.length c2, .slice q3 rs.length c3] 26)).alloc (.cells #[.int .i64 0, .int .i64 0, .int .i64 0, .int .i64 0, .int .i64 0] 144) = W0 := ⟨_, rfl⟩
  have S0 : St w W0 [(w.heap.size + 1, 0, .int .i64 0), (w.heap.size + 1, 1, .int .i64 0), (w.heap.size + 1, 2, .int .i64 0), (w.heap.size + 1, 3, .int .i64 0), (w.heap.size + 1, 4, .int .i64 0), (w.heap.size, 0, .slice q1 cs.length c1), (w.heap.size, 1, .slice q2 ps.length c2), (w.heap.size, 2, .slice q3 rs.length c3)] := by rw [← hW0]; exact (((St.nil w)).box #[.slice q1 cs.length c1, .slice q2 ps.length c2, .slice q3 rs.length c3] 26 (w.heap.size) (by simp)).box #[.int .i64 0, .int .i64 0, .int .i64 0, .int .i64 0, .int .i64 0] 144 (w.heap.size + 1) (by simp)
  rw [hW0]
  clear hW0
  obtain ⟨C, hC0, HC, LC, BC, hne⟩ := cls S0
  haveI := hne
  obtain ⟨c0, rfl⟩ : ∃ n : Wd C, W0 = n.w := ⟨⟨_, hC0⟩, rfl⟩
  have fC0 : ∀ n : Wd C, n.w.cell? ⟨w.heap.size + 1, 0, none⟩ = some (.int .i64 0) := fun n => (LC.out n).1.2.1
  have zC0 : ∀ n : Wd C, n.w.frozen? ⟨w.heap.size + 1, 0, none⟩ = false := fun n => (LC.out n).1.2.2
  have fC1 : ∀ n : Wd C, n.w.cell? ⟨w.heap.size + 1, 1, none⟩ = some (.int .i64 0) := fun n => (LC.out n).2.1.2.1
  have zC1 : ∀ n : Wd C, n.w.frozen? ⟨w.heap.size + 1, 1, none⟩ = false := fun n => (LC.out n).2.1.2.2
  have fC2 : ∀ n : Wd C, n.w.cell? ⟨w.heap.size + 1, 2, none⟩ = some (.int .i64 0) := fun n => (LC.out n).2.2.1.2.1
  have zC2 : ∀ n : Wd C, n.w.frozen? ⟨w.heap.size + 1, 2, none⟩ = false := fun n => (LC.out n).2.2.1.2.2
  have fC3 : ∀ n : Wd C, n.w.cell? ⟨w.heap.size + 1, 3, none⟩ = some (.int .i64 0) := fun n => (LC.out n).2.2.2.1.2.1
  have zC3 : ∀ n : Wd C, n.w.frozen? ⟨w.heap.size + 1, 3, none⟩ = false := fun n => (LC.out n).2.2.2.1.2.2
  have fC4 : ∀ n : Wd C, n.w.cell? ⟨w.heap.size + 1, 4, none⟩ = some (.int .i64 0) := fun n => (LC.out n).2.2.2.2.1.2.1
  have zC4 : ∀ n : Wd C, n.w.frozen? ⟨w.heap.size + 1, 4, none⟩ = false := fun n => (LC.out n).2.2.2.2.1.2.2
  have fC5 : ∀ n : Wd C, n.w.cell? ⟨w.heap.size, 0, none⟩ = some (.slice q1 cs.length c1) := fun n => (LC.out n).2.2.2.2.2.1.2.1
  have zC5 : ∀ n : Wd C, n.w.frozen? ⟨w.heap.size, 0, none⟩ = false := fun n => (LC.out n).2.2.2.2.2.1.2.2
  have fC6 : ∀ n : Wd C, n.w.cell? ⟨w.heap.size, 1, none⟩ = some (.slice q2 ps.length c2) := fun n => (LC.out n).2.2.2.2.2.2.1.2.1
  have zC6 : ∀ n : Wd C, n.w.frozen? ⟨w.heap.size, 1, none⟩ = false := fun n => (LC.out n).2.2.2.2.2.2.1.2.2
  have fC7 : ∀ n : Wd C, n.w.cell? ⟨w.heap.size, 2, none⟩ = some (.slice q3 rs.length c3) := fun n => (LC.out n).2.2.2.2.2.2.2.1.2.1
  have zC7 : ∀ n : Wd C, n.w.frozen? ⟨w.heap.size, 2, none⟩ = false := fun n => (LC.out n).2.2.2.2.2.2.2.1.2.2
  clear S0 hC0
  have D1 := cinL HC BC K1
  clear K1
  go_upto_region 2 with (first | first | (go_at_call 22; with_reducible refine (D1 _).out.mono ?_; rintro e w' ⟨rfl, n, rfl⟩))
  obtain ⟨W0, hW0⟩ : ∃ W0, (n.w).alloc (.cells #[.int .i64 sl, .int .i64 sh] 30) = W0 := ⟨_, rfl⟩
  have S0 : St w W0 [(n.w.heap.size, 0, .int .i64 sl), (n.w.heap.size, 1, .int .i64 sh), (w.heap.size + 1, 0, .int .i64 0), (w.heap.size + 1, 1, .int .i64 0), (w.heap.size + 1, 2, .int .i64 0), (w.heap.size + 1, 3, .int .i64 0), (w.heap.size + 1, 4, .int .i64 0), (w.heap.size, 0, .slice q1 cs.length c1), (w.heap.size, 1, .slice q2 ps.length c2), (w.heap.size, 2, .slice q3 rs.length c3)] := by rw [← hW0]; exact ((⟨BC.out n, LC.out n⟩ : St w n.w _)).box #[.int .i64 sl, .int .i64 sh] 30 (n.w.heap.size) (by simp)
  rw [hW0]
  clear hW0
  obtain ⟨kD, hkk⟩ : ∃ k, n.w.heap.size = k := ⟨_, rfl⟩
  have gkD : w.heap.size ≤ kD := by rw [← hkk]; exact (BC.out n).size
  rw [hkk] at S0 ⊢
  have eD1 : kD ≠ w.heap.size + 1 := by have h := (LC.out n).1.1; omega
  have dD1 : w.heap.size + 1 ≠ kD := Ne.symm eD1
  have eD2 : kD ≠ w.heap.size := by have h := (LC.out n).2.2.2.2.2.1.1; omega
  have dD2 : w.heap.size ≠ kD := Ne.symm eD2
  clear hkk
  obtain ⟨D, hC0, HD, LD, BD, hne⟩ := cls S0
  haveI := hne
  obtain ⟨d0, rfl⟩ : ∃ n : Wd D, W0 = n.w := ⟨⟨_, hC0⟩, rfl⟩
  have fD0 : ∀ n : Wd D, n.w.cell? ⟨kD, 0, none⟩ = some (.int .i64 sl) := fun n => (LD.out n).1.2.1
  have fD1 : ∀ n : Wd D, n.w.cell? ⟨kD, 1, none⟩ = some (.int .i64 sh) := fun n => (LD.out n).2.1.2.1
  have fD2 : ∀ n : Wd D, n.w.cell? ⟨w.heap.size + 1, 0, none⟩ = some (.int .i64 0) := fun n => (LD.out n).2.2.1.2.1
  have zD2 : ∀ n : Wd D, n.w.frozen? ⟨w.heap.size + 1, 0, none⟩ = false := fun n => (LD.out n).2.2.1.2.2
  have fD3 : ∀ n : Wd D, n.w.cell? ⟨w.heap.size + 1, 1, none⟩ = some (.int .i64 0) := fun n => (LD.out n).2.2.2.1.2.1
  have zD3 : ∀ n : Wd D, n.w.frozen? ⟨w.heap.size + 1, 1, none⟩ = false := fun n => (LD.out n).2.2.2.1.2.2
  have fD4 : ∀ n : Wd D, n.w.cell? ⟨w.heap.size + 1, 2, none⟩ = some (.int .i64 0) := fun n => (LD.out n).2.2.2.2.1.2.1
  have zD4 : ∀ n : Wd D, n.w.frozen? ⟨w.heap.size + 1, 2, none⟩ = false := fun n => (LD.out n).2.2.2.2.1.2.2
  have fD5 : ∀ n : Wd D, n.w.cell? ⟨w.heap.size + 1, 3, none⟩ = some (.int .i64 0) := fun n => (LD.out n).2.2.2.2.2.1.2.1
  have zD5 : ∀ n : Wd D, n.w.frozen? ⟨w.heap.size + 1, 3, none⟩ = false := fun n => (LD.out n).2.2.2.2.2.1.2.2
  have fD6 : ∀ n : Wd D, n.w.cell? ⟨w.heap.size + 1, 4, none⟩ = some (.int .i64 0) := fun n => (LD.out n).2.2.2.2.2.2.1.2.1
  have zD6 : ∀ n : Wd D, n.w.frozen? ⟨w.heap.size + 1, 4, none⟩ = false := fun n => (LD.out n).2.2.2.2.2.2.1.2.2
  have fD7 : ∀ n : Wd D, n.w.cell? ⟨w.heap.size, 0, none⟩ = some (.slice q1 cs.length c1) := fun n => (LD.out n).2.2.2.2.2.2.2.1.2.1
  have zD7 : ∀ n : Wd D, n.w.frozen? ⟨w.heap.size, 0, none⟩ = false := fun n => (LD.out n).2.2.2.2.2.2.2.1.2.2
  have fD8 : ∀ n : Wd D, n.w.cell? ⟨w.heap.size, 1, none⟩ = some (.slice q2 ps.length c2) := fun n => (LD.out n).2.2.2.2.2.2.2.2.1.2.1
  have zD8 : ∀ n : Wd D, n.w.frozen? ⟨w.heap.size, 1, none⟩ = false := fun n => (LD.out n).2.2.2.2.2.2.2.2.1.2.2
  have fD9 : ∀ n : Wd D, n.w.cell? ⟨w.heap.size, 2, none⟩ = some (.slice q3 rs.length c3) := fun n => (LD.out n).2.2.2.2.2.2.2.2.2.1.2.1
  have zD9 : ∀ n : Wd D, n.w.frozen? ⟨w.heap.size, 2, none⟩ = false := fun n => (LD.out n).2.2.2.2.2.2.2.2.2.1.2.2
  clear S0 hC0
  clear D1
  by_cases hk0 : k = 0
  · subst hk0
    obtain ⟨c, hc, hsl, hsh, HK⟩ := HY2.out rfl
    obtain ⟨j, hj, hmj, hcj⟩ := HAT.out c hc
    rw [← hsl, ← hsh] at HK
    obtain ⟨IL, hIL⟩ : ∃ IL, inL X c sl sh = IL := ⟨_, rfl⟩
    have K4 := K32 c sl sh
    rw [hIL] at HK K4
    rcases H.out with h0 | ⟨b, o, he, hb, hcc⟩
    · exact absurd hj (by simp [show cs = [] from h0])
    obtain rfl : q1 = some ⟨b, o, none⟩ := he
    obtain ⟨d1, d2, d3, d4, d5⟩ := hcc j cs[j] (List.getElem?_eq_getElem hj)
    simp only [show cs[j] = c from hcj] at d1 d2 d3 d4 d5
    obtain ⟨i1, i2, i3, i4, i5⟩ := c
    simp only at d1 d2 d3 d4 d5
    have fY0 : ∀ n : Wd D, n.w.cell? ⟨b, o + j * 5, none⟩ = some (.int .i64 i1) := fun n => ((BD.out n).cell (p := ⟨b, o + j * 5, none⟩) hb).trans d1
    have fY1 : ∀ n : Wd D, n.w.cell? ⟨b, o + j * 5 + 1, none⟩ = some (.int .i64 i2) := fun n => ((BD.out n).cell (p := ⟨b, o + j * 5 + 1, none⟩) hb).trans d2
    have fY2 : ∀ n : Wd D, n.w.cell? ⟨b, o + j * 5 + 2, none⟩ = some (.int .i64 i3) := fun n => ((BD.out n).cell (p := ⟨b, o + j * 5 + 2, none⟩) hb).trans d3
    have fY3 : ∀ n : Wd D, n.w.cell? ⟨b, o + j * 5 + 3, none⟩ = some (.int .i64 i4) := fun n => ((BD.out n).cell (p := ⟨b, o + j * 5 + 3, none⟩) hb).trans d4
    have fY4 : ∀ n : Wd D, n.w.cell? ⟨b, o + j * 5 + 4, none⟩ = some (.int .i64 i5) := fun n => ((BD.out n).cell (p := ⟨b, o + j * 5 + 4, none⟩) hb).trans d5
    have hj2 : (j : Int) < (cs.length : Int) := by omega
    have hmx : max (0 : Int) m = (j : Int) := by omega
    have hm0 : (0 : Int) ≤ m := by omega
    subst hmj
    have HK := Lib.hid HK
    have HSM := Lib.hid (by omega : (max 0 (j : Int)) = (j : Int))
    clear d1 d2 d3 d4 d5 hcc hb hcj hc hsl hsh hIL hmx HAT HN HY2
    go_upto_region 4 with fail
    refine wp_region_var1 8 D 9 (.cells #[.int .i64 0, .int .i64 0, .int .i64 0, .int .i64 0, .int .i64 0] 90) HD.out (HD.out _ _ (Wd.h _) (below_dr _)) (by kernel_rfl) (by kernel_rfl) ⟨_, rfl, rfl, rfl, fun a w => alloc90 a w _ rfl⟩ (by rfl) ?_
    apply Exists.intro
    apply And.intro
    · intro G hG hGD hneG
      have HG := Lib.hid hG
      have gG0 : ∀ n : Wd G, n.w.cell? ⟨kD, 0, none⟩ = some (.int .i64 sl) := fun n => (LD.out ⟨n.w, hGD _ n.h⟩).1.2.1
      have gG1 : ∀ n : Wd G, n.w.cell? ⟨kD, 1, none⟩ = some (.int .i64 sh) := fun n => (LD.out ⟨n.w, hGD _ n.h⟩).2.1.2.1
      have gG2 : ∀ n : Wd G, n.w.cell? ⟨w.heap.size + 1, 0, none⟩ = some (.int .i64 0) := fun n => (LD.out ⟨n.w, hGD _ n.h⟩).2.2.1.2.1
      have gG3 : ∀ n : Wd G, n.w.cell? ⟨w.heap.size + 1, 1, none⟩ = some (.int .i64 0) := fun n => (LD.out ⟨n.w, hGD _ n.h⟩).2.2.2.1.2.1
      have gG4 : ∀ n : Wd G, n.w.cell? ⟨w.heap.size + 1, 2, none⟩ = some (.int .i64 0) := fun n => (LD.out ⟨n.w, hGD _ n.h⟩).2.2.2.2.1.2.1
      have gG5 : ∀ n : Wd G, n.w.cell? ⟨w.heap.size + 1, 3, none⟩ = some (.int .i64 0) := fun n => (LD.out ⟨n.w, hGD _ n.h⟩).2.2.2.2.2.1.2.1
      have gG6 : ∀ n : Wd G, n.w.cell? ⟨w.heap.size + 1, 4, none⟩ = some (.int .i64 0) := fun n => (LD.out ⟨n.w, hGD _ n.h⟩).2.2.2.2.2.2.1.2.1
      have gG7 : ∀ n : Wd G, n.w.cell? ⟨w.heap.size, 0, none⟩ = some (.slice (some ⟨b, o, none⟩) cs.length c1) := fun n => (LD.out ⟨n.w, hGD _ n.h⟩).2.2.2.2.2.2.2.1.2.1
      have gG8 : ∀ n : Wd G, n.w.cell? ⟨w.heap.size, 1, none⟩ = some (.slice q2 ps.length c2) := fun n => (LD.out ⟨n.w, hGD _ n.h⟩).2.2.2.2.2.2.2.2.1.2.1
      have gG9 : ∀ n : Wd G, n.w.cell? ⟨w.heap.size, 2, none⟩ = some (.slice q3 rs.length c3) := fun n => (LD.out ⟨n.w, hGD _ n.h⟩).2.2.2.2.2.2.2.2.2.1.2.1
      have e0 : ∀ n : Wd G, n.w.cell? ⟨b, o + j * 5, none⟩ = some (.int .i64 i1) := fun n => fY0 ⟨n.w, hGD _ n.h⟩
      have e1 : ∀ n : Wd G, n.w.cell? ⟨b, o + j * 5 + 1, none⟩ = some (.int .i64 i2) := fun n => fY1 ⟨n.w, hGD _ n.h⟩
      have e2 : ∀ n : Wd G, n.w.cell? ⟨b, o + j * 5 + 2, none⟩ = some (.int .i64 i3) := fun n => fY2 ⟨n.w, hGD _ n.h⟩
      have e3 : ∀ n : Wd G, n.w.cell? ⟨b, o + j * 5 + 3, none⟩ = some (.int .i64 i4) := fun n => fY3 ⟨n.w, hGD _ n.h⟩
      have e4 : ∀ n : Wd G, n.w.cell? ⟨b, o + j * 5 + 4, none⟩ = some (.int .i64 i5) := fun n => fY4 ⟨n.w, hGD _ n.h⟩
      have HBG : Hid (∀ n : Wd G, Below w.heap.size w n.w) := fun n => BD.out ⟨n.w, hGD _ n.h⟩
      have DG := cinL HG HBG K2
      haveI := hneG
      simp only [List.take_succ_cons, List.take_zero]
      repeat (go_big_quiet_step (first | with_reducible exact (DG _).out))
      exact wpQuiet_nil rfl
    intro n0 k1 hk1 qk
    simp only [List.drop_succ_cons, List.drop_zero, Act.put]
    go_simp
    have kb : kD < d0.w.heap.size := (LD.out d0).1.1
    have kb1 : w.heap.size + 1 < d0.w.heap.size := (LD.out d0).2.2.1.1
    have hL1 : ∀ x ∈ ([(kD, 0, .int .i64 sl), (kD, 1, .int .i64 sh), (w.heap.size + 1, 0, .int .i64 0), (w.heap.size + 1, 1, .int .i64 0), (w.heap.size + 1, 2, .int .i64 0), (w.heap.size + 1, 3, .int .i64 0), (w.heap.size + 1, 4, .int .i64 0), (w.heap.size, 0, .slice (some ⟨b, o, none⟩) cs.length c1), (w.heap.size, 1, .slice q2 ps.length c2), (w.heap.size, 2, .slice q3 rs.length c3)] : List (Nat × Nat × Value)), x.1 ≠ k1 := by simp only [List.forall_mem_cons, List.not_mem_nil, false_implies, implies_true, and_true]; omega
    have S1 := St.put ⟨BD.out n0, LD.out n0⟩ k1 (by omega) hL1 _ 90 qk (fun c => ((((c.setIfInBounds 0 (.int .i64 i1)).setIfInBounds 1 (.int .i64 i2)).setIfInBounds 2 (.int .i64 i3)).setIfInBounds 3 (.int .i64 i4)).setIfInBounds 4 (.int .i64 i5)) #[.int .i64 i1, .int .i64 i2, .int .i64 i3, .int .i64 i4, .int .i64 i5] rfl
    obtain ⟨⟨_, r1, z1⟩, ⟨_, r2, z2⟩, ⟨_, r3, z3⟩, ⟨_, r4, z4⟩, ⟨_, r5, z5⟩, _⟩ := cs_heap n0.w k1 _ 90 qk _ 0 rfl
    have HS := Lib.hid S1
    have hwk : w.heap.size ≤ k1 := by have := (BD.out d0).size; omega
    have hk1B : w.heap.size + 1 ≠ k1 := by omega
    clear hL1 S1 kb kb1 hk1 qk
    go_upto_region 5 with fail
    obtain ⟨W1, hW1⟩ : ∃ W1, (((((n0.w.setCell { block := k1, off := 0 } (Value.int IntKind.i64 i1)).setCell { block := k1, off := 1 } (Value.int IntKind.i64 i2)).setCell { block := k1, off := 2 } (Value.int IntKind.i64 i3)).setCell { block := k1, off := 3 } (Value.int IntKind.i64 i4)).setCell { block := k1, off := 4 } (Value.int IntKind.i64 i5)) = W1 := ⟨_, rfl⟩
    have S3 : St w W1 ((k1, 0, .int .i64 i1) :: (k1, 1, .int .i64 i2) :: (k1, 2, .int .i64 i3) :: (k1, 3, .int .i64 i4) :: (k1, 4, .int .i64 i5) :: [(kD, 0, .int .i64 sl), (kD, 1, .int .i64 sh), (w.heap.size + 1, 0, .int .i64 0), (w.heap.size + 1, 1, .int .i64 0), (w.heap.size + 1, 2, .int .i64 0), (w.heap.size + 1, 3, .int .i64 0), (w.heap.size + 1, 4, .int .i64 0), (w.heap.size, 0, .slice (some ⟨b, o, none⟩) cs.length c1), (w.heap.size, 1, .slice q2 ps.length c2), (w.heap.size, 2, .slice q3 rs.length c3)]) := by
      rw [← hW1]
      simp only [Go.Sort.setCell_eq, Go.Sort.mapBlock_mapBlock]
      exact HS.out
    rw [hW1]
    clear hW1 HS r1 r2 r3 r4 r5 z1 z2 z3 z4 z5
    obtain ⟨M, hC0, HM, LM, BM, hne⟩ := cls S3
    haveI := hne
    obtain ⟨m0, rfl⟩ : ∃ n : Wd M, W1 = n.w := ⟨⟨_, hC0⟩, rfl⟩
    have fM0 : ∀ n : Wd M, n.w.cell? ⟨k1, 0, none⟩ = some (.int .i64 i1) := fun n => (LM.out n).1.2.1
    have fM1 : ∀ n : Wd M, n.w.cell? ⟨k1, 1, none⟩ = some (.int .i64 i2) := fun n => (LM.out n).2.1.2.1
    have fM2 : ∀ n : Wd M, n.w.cell? ⟨k1, 2, none⟩ = some (.int .i64 i3) := fun n => (LM.out n).2.2.1.2.1
    have fM3 : ∀ n : Wd M, n.w.cell? ⟨k1, 3, none⟩ = some (.int .i64 i4) := fun n => (LM.out n).2.2.2.1.2.1
    have fM4 : ∀ n : Wd M, n.w.cell? ⟨k1, 4, none⟩ = some (.int .i64 i5) := fun n => (LM.out n).2.2.2.2.1.2.1
    have fM5 : ∀ n : Wd M, n.w.cell? ⟨kD, 0, none⟩ = some (.int .i64 sl) := fun n => (LM.out n).2.2.2.2.2.1.2.1
    have fM6 : ∀ n : Wd M, n.w.cell? ⟨kD, 1, none⟩ = some (.int .i64 sh) := fun n => (LM.out n).2.2.2.2.2.2.1.2.1
    have fM7 : ∀ n : Wd M, n.w.cell? ⟨w.heap.size + 1, 0, none⟩ = some (.int .i64 0) := fun n => (LM.out n).2.2.2.2.2.2.2.1.2.1
    have zM7 : ∀ n : Wd M, n.w.frozen? ⟨w.heap.size + 1, 0, none⟩ = false := fun n => (LM.out n).2.2.2.2.2.2.2.1.2.2
    have fM8 : ∀ n : Wd M, n.w.cell? ⟨w.heap.size + 1, 1, none⟩ = some (.int .i64 0) := fun n => (LM.out n).2.2.2.2.2.2.2.2.1.2.1
    have zM8 : ∀ n : Wd M, n.w.frozen? ⟨w.heap.size + 1, 1, none⟩ = false := fun n => (LM.out n).2.2.2.2.2.2.2.2.1.2.2
    have fM9 : ∀ n : Wd M, n.w.cell? ⟨w.heap.size + 1, 2, none⟩ = some (.int .i64 0) := fun n => (LM.out n).2.2.2.2.2.2.2.2.2.1.2.1
    have zM9 : ∀ n : Wd M, n.w.frozen? ⟨w.heap.size + 1, 2, none⟩ = false := fun n => (LM.out n).2.2.2.2.2.2.2.2.2.1.2.2
    have fM10 : ∀ n : Wd M, n.w.cell? ⟨w.heap.size + 1, 3, none⟩ = some (.int .i64 0) := fun n => (LM.out n).2.2.2.2.2.2.2.2.2.2.1.2.1
    have zM10 : ∀ n : Wd M, n.w.frozen? ⟨w.heap.size + 1, 3, none⟩ = false := fun n => (LM.out n).2.2.2.2.2.2.2.2.2.2.1.2.2
    have fM11 : ∀ n : Wd M, n.w.cell? ⟨w.heap.size + 1, 4, none⟩ = some (.int .i64 0) := fun n => (LM.out n).2.2.2.2.2.2.2.2.2.2.2.1.2.1
    have zM11 : ∀ n : Wd M, n.w.frozen? ⟨w.heap.size + 1, 4, none⟩ = false := fun n => (LM.out n).2.2.2.2.2.2.2.2.2.2.2.1.2.2
    have fM12 : ∀ n : Wd M, n.w.cell? ⟨w.heap.size, 0, none⟩ = some (.slice (some ⟨b, o, none⟩) cs.length c1) := fun n => (LM.out n).2.2.2.2.2.2.2.2.2.2.2.2.1.2.1
    have zM12 : ∀ n : Wd M, n.w.frozen? ⟨w.heap.size, 0, none⟩ = false := fun n => (LM.out n).2.2.2.2.2.2.2.2.2.2.2.2.1.2.2
    have fM13 : ∀ n : Wd M, n.w.cell? ⟨w.heap.size, 1, none⟩ = some (.slice q2 ps.length c2) := fun n => (LM.out n).2.2.2.2.2.2.2.2.2.2.2.2.2.1.2.1
    have zM13 : ∀ n : Wd M, n.w.frozen? ⟨w.heap.size, 1, none⟩ = false := fun n => (LM.out n).2.2.2.2.2.2.2.2.2.2.2.2.2.1.2.2
    have fM14 : ∀ n : Wd M, n.w.cell? ⟨w.heap.size, 2, none⟩ = some (.slice q3 rs.length c3) := fun n => (LM.out n).2.2.2.2.2.2.2.2.2.2.2.2.2.2.1.2.1
    have zM14 : ∀ n : Wd M, n.w.frozen? ⟨w.heap.size, 2, none⟩ = false := fun n => (LM.out n).2.2.2.2.2.2.2.2.2.2.2.2.2.2.1.2.2
    clear S3 hC0
    go_wp2_with fail
    refine (K4 _ (BM.out _)).mono ?_
    rintro e w3 ⟨⟨v, rfl, hO⟩, hb3⟩
    have S4 : St w3 w3 [(k1, 0, .int .i64 i1), (k1, 1, .int .i64 i2), (k1, 2, .int .i64 i3), (k1, 3, .int .i64 i4), (k1, 4, .int .i64 i5), (kD, 0, .int .i64 sl), (kD, 1, .int .i64 sh), (w.heap.size + 1, 0, .int .i64 0), (w.heap.size + 1, 1, .int .i64 0), (w.heap.size + 1, 2, .int .i64 0), (w.heap.size + 1, 3, .int .i64 0), (w.heap.size + 1, 4, .int .i64 0), (w.heap.size, 0, .slice (some ⟨b, o, none⟩) cs.length c1), (w.heap.size, 1, .slice q2 ps.length c2), (w.heap.size, 2, .slice q3 rs.length c3)] := ⟨Below.refl _ _, (LM.out _).keep hb3⟩
    have HW : Hid (Below w.heap.size w w3) := (BM.out _).trans (hb3.mono (BM.out _).size)
    obtain ⟨qt, ct, rfl, hT⟩ := OTh.shape hO
    have HT := Lib.hid hT
    clear hO hb3 hT K4 K2
    obtain ⟨N, hC0, HN, LN, BN, hne⟩ := cls S4
    haveI := hne
    obtain ⟨n0, rfl⟩ : ∃ n : Wd N, w3 = n.w := ⟨⟨_, hC0⟩, rfl⟩
    have fN0 : ∀ n : Wd N, n.w.cell? ⟨k1, 0, none⟩ = some (.int .i64 i1) := fun n => (LN.out n).1.2.1
    have fN1 : ∀ n : Wd N, n.w.cell? ⟨k1, 1, none⟩ = some (.int .i64 i2) := fun n => (LN.out n).2.1.2.1
    have fN2 : ∀ n : Wd N, n.w.cell? ⟨k1, 2, none⟩ = some (.int .i64 i3) := fun n => (LN.out n).2.2.1.2.1
    have fN3 : ∀ n : Wd N, n.w.cell? ⟨k1, 3, none⟩ = some (.int .i64 i4) := fun n => (LN.out n).2.2.2.1.2.1
    have fN4 : ∀ n : Wd N, n.w.cell? ⟨k1, 4, none⟩ = some (.int .i64 i5) := fun n => (LN.out n).2.2.2.2.1.2.1
    have fN5 : ∀ n : Wd N, n.w.cell? ⟨kD, 0, none⟩ = some (.int .i64 sl) := fun n => (LN.out n).2.2.2.2.2.1.2.1
    have fN6 : ∀ n : Wd N, n.w.cell? ⟨kD, 1, none⟩ = some (.int .i64 sh) := fun n => (LN.out n).2.2.2.2.2.2.1.2.1
    have fN7 : ∀ n : Wd N, n.w.cell? ⟨w.heap.size + 1, 0, none⟩ = some (.int .i64 0) := fun n => (LN.out n).2.2.2.2.2.2.2.1.2.1
    have fN8 : ∀ n : Wd N, n.w.cell? ⟨w.heap.size + 1, 1, none⟩ = some (.int .i64 0) := fun n => (LN.out n).2.2.2.2.2.2.2.2.1.2.1
    have fN9 : ∀ n : Wd N, n.w.cell? ⟨w.heap.size + 1, 2, none⟩ = some (.int .i64 0) := fun n => (LN.out n).2.2.2.2.2.2.2.2.2.1.2.1
    have fN10 : ∀ n : Wd N, n.w.cell? ⟨w.heap.size + 1, 3, none⟩ = some (.int .i64 0) := fun n => (LN.out n).2.2.2.2.2.2.2.2.2.2.1.2.1
    have fN11 : ∀ n : Wd N, n.w.cell? ⟨w.heap.size + 1, 4, none⟩ = some (.int .i64 0) := fun n => (LN.out n).2.2.2.2.2.2.2.2.2.2.2.1.2.1
    have fN12 : ∀ n : Wd N, n.w.cell? ⟨w.heap.size, 0, none⟩ = some (.slice (some ⟨b, o, none⟩) cs.length c1) := fun n => (LN.out n).2.2.2.2.2.2.2.2.2.2.2.2.1.2.1
    have fN13 : ∀ n : Wd N, n.w.cell? ⟨w.heap.size, 1, none⟩ = some (.slice q2 ps.length c2) := fun n => (LN.out n).2.2.2.2.2.2.2.2.2.2.2.2.2.1.2.1
    have fN14 : ∀ n : Wd N, n.w.cell? ⟨w.heap.size, 2, none⟩ = some (.slice q3 rs.length c3) := fun n => (LN.out n).2.2.2.2.2.2.2.2.2.2.2.2.2.2.1.2.1
    have zN7 : ∀ n : Wd N, n.w.frozen? ⟨w.heap.size + 1, 0, none⟩ = false := fun n => (LN.out n).2.2.2.2.2.2.2.1.2.2
    have zN8 : ∀ n : Wd N, n.w.frozen? ⟨w.heap.size + 1, 1, none⟩ = false := fun n => (LN.out n).2.2.2.2.2.2.2.2.1.2.2
    have zN9 : ∀ n : Wd N, n.w.frozen? ⟨w.heap.size + 1, 2, none⟩ = false := fun n => (LN.out n).2.2.2.2.2.2.2.2.2.1.2.2
    have zN10 : ∀ n : Wd N, n.w.frozen? ⟨w.heap.size + 1, 3, none⟩ = false := fun n => (LN.out n).2.2.2.2.2.2.2.2.2.2.1.2.2
    have zN11 : ∀ n : Wd N, n.w.frozen? ⟨w.heap.size + 1, 4, none⟩ = false := fun n => (LN.out n).2.2.2.2.2.2.2.2.2.2.2.1.2.2
    have zN12 : ∀ n : Wd N, n.w.frozen? ⟨w.heap.size, 0, none⟩ = false := fun n => (LN.out n).2.2.2.2.2.2.2.2.2.2.2.2.1.2.2
    have zN13 : ∀ n : Wd N, n.w.frozen? ⟨w.heap.size, 1, none⟩ = false := fun n => (LN.out n).2.2.2.2.2.2.2.2.2.2.2.2.2.1.2.2
    have zN14 : ∀ n : Wd N, n.w.frozen? ⟨w.heap.size, 2, none⟩ = false := fun n => (LN.out n).2.2.2.2.2.2.2.2.2.2.2.2.2.2.1.2.2
    clear S4 hC0
    have zz0 : ∀ n : Wd N, n.w.frozen? ⟨w.heap.size + 1, 0, none⟩ = false := fun n => (LN.out n).2.2.2.2.2.2.2.1.2.2
    have zz1 : ∀ n : Wd N, n.w.frozen? ⟨w.heap.size + 1, 1, none⟩ = false := fun n => (LN.out n).2.2.2.2.2.2.2.2.1.2.2
    have zz2 : ∀ n : Wd N, n.w.frozen? ⟨w.heap.size + 1, 2, none⟩ = false := fun n => (LN.out n).2.2.2.2.2.2.2.2.2.1.2.2
    have zz3 : ∀ n : Wd N, n.w.frozen? ⟨w.heap.size + 1, 3, none⟩ = false := fun n => (LN.out n).2.2.2.2.2.2.2.2.2.2.1.2.2
    have zz4 : ∀ n : Wd N, n.w.frozen? ⟨w.heap.size + 1, 4, none⟩ = false := fun n => (LN.out n).2.2.2.2.2.2.2.2.2.2.2.1.2.2
    have hsz : ∀ n : Wd N, w.heap.size + 1 < n.w.heap.size := fun n => (LN.out n).2.2.2.2.2.2.2.1.1
    have HWN : Hid (∀ n : Wd N, Below w.heap.size w n.w) := fun n => HW.out.trans ((BN.out n).mono HW.out.size)
    have KC : Hid (∀ n : Wd N, Calls Tryz.prog 119 #[.slice qt IL.length ct, .int .i64 i5] n.w fun e w' => (∃ F, e = .returned (.bool F) ∧ (F = true ↔ AnyCl i5 IL)) ∧ Below n.w.heap.size n.w w') := fun n => rclashes_any qt ct IL i5 n.w (by have := HK.out.len; omega) HK.out.ok HK.out.wr (HT.out.keep (BN.out n))
    have KL : Hid (∀ n : Wd N, Calls Tryz.prog 162 #[.slice qt IL.length ct, .int .i64 i5, .int .i64 y] n.w fun e w' => e = .returned (.agg #[.int .i64 (limA i5 y IL).1, .int .i64 (limB i5 y IL).1, .int .i64 (limA i5 y IL).2, .int .i64 (limB i5 y IL).2]) ∧ Below n.w.heap.size n.w w') := fun n => rlimits_any qt ct IL i5 y n.w (by have := HK.out.len; omega) HK.out.ok HK.out.wr HK.out.yr (HT.out.keep (BN.out n))
    go_wp2_with fail
    refine (KC.out _).mono ?_
    rintro e w4 ⟨⟨Fc, rfl, hF⟩, hb4⟩
    obtain ⟨n4, rfl⟩ : ∃ n : Wd N, w4 = n.w := ⟨⟨_, HN.out _ _ (Wd.h _) hb4⟩, rfl⟩
    have hs4 := hsz n4
    clear hb4 KC
    cases Fc
    · obtain ⟨hE0, hA0, hB0⟩ := HK.out.no (fun h => by have := hF.2 h; cases this)
      have hA0 : limA i5 y IL = (A, LA) := hA0
      have hB0 : limB i5 y IL = (B1, LB) := hB0
      simp only [hA0, hB0] at KL
      obtain rfl := hE0
      clear hA0 hB0 hF
      go_wp2_with fail
      refine (KL.out _).mono ?_
      rintro e w5 ⟨rfl, hb5⟩
      obtain ⟨n5, rfl⟩ : ∃ n : Wd N, w5 = n.w := ⟨⟨_, HN.out _ _ (Wd.h _) hb5⟩, rfl⟩
      have hs5 := hsz n5
      clear hb5 KL
      go_wp2_with fail
      refine bodyPost_ret (v := .agg #[.int .i64 A, .int .i64 B1, .int .i64 LA, .int .i64 LB, .int .i64 0]) (by simp [results, Tryz.results101, go_sem, fN7, fN8, fN9, fN10, fN11]) rfl ⟨rfl, ?_⟩
      exact below_grownB (HWN.out n5) (Nat.le_succ _) (grown_trans (grown_trans (grown_trans (grown_trans (set_grown _ _ _ _) (set_grown _ _ _ _)) (set_grown _ _ _ _)) (set_grown _ _ _ _)) (set_grown _ _ _ _))
    · obtain ⟨rfl, rfl, rfl, rfl, rfl⟩ := HK.out.yes (hF.1 rfl)
      clear hF KL
      go_wp2_with fail
      refine bodyPost_ret (v := .agg #[.int .i64 0, .int .i64 0, .int .i64 0, .int .i64 0, .int .i64 9]) (by simp [results, Tryz.results101, go_sem, fN7, fN8, fN9, fN10, fN11]) rfl ⟨rfl, ?_⟩
      exact below_grownB (HWN.out n4) (Nat.le_succ _) (grown_trans (grown_trans (grown_trans (grown_trans (set_grown _ _ _ _) (set_grown _ _ _ _)) (set_grown _ _ _ _)) (set_grown _ _ _ _)) (set_grown _ _ _ _))
  · have hb : (k != 0) = true := by simpa using hk0
    obtain ⟨rfl, rfl, rfl, rfl, rfl⟩ := HN.out hk0
    clear hk0
    have hsz : w.heap.size + 1 < d0.w.heap.size := (LD.out d0).2.2.1.1
    go_wp2_with fail
    refine bodyPost_ret (v := .agg #[.int .i64 0, .int .i64 0, .int .i64 0, .int .i64 0, .int .i64 E]) (by simp [results, Tryz.results101, go_sem, fD2, fD3, fD4, fD5, fD6]) rfl ⟨rfl, ?_⟩
    exact below_grownB (BD.out d0) (Nat.le_succ _) (grown_trans (grown_trans (grown_trans (grown_trans (set_grown _ _ _ _) (set_grown _ _ _ _)) (set_grown _ _ _ _)) (set_grown _ _ _ _)) (set_grown _ _ _ _))
end Go.Proofs.YtcejmfgbfdhflaaGreat
