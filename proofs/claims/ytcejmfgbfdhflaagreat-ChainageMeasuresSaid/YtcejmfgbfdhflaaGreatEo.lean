import Derived.Test.YtcejmfgbfdhflaaGreatEm
import Derived.WalkKit
import Derived.LoopTactic
import Derived.WalkSpells
import Derived.WalkLawsBesides
import Derived.Lib.Hide
import Derived.BigQuiet
import Derived.IntWalk
import Derived.Deep.DeepMust
import Derived.WalkSmall
import Derived.StillTailTactics
import Derived.Deep.RegionLaw
import Derived.Deep.RegionHeld3
import Derived.Deep.QuietTactic
namespace Go.Proofs.YtcejmfgbfdhflaaGreat
open Go.RowKit Go.BigFrame Go.Sort
attribute [local go_sem] World.cell?_alloc_some
def ceE (x : WA) (a b : List Ms) : Int := if ttE x a ≠ 0 then ttE x a else ttE x b
def ceB (x : WA) (a b : List Ms) : Bool := if ceE x a b ≠ 0 then false else decide (ttLo x a ≤ ttHi x b) && decide (ttLo x b ≤ ttHi x a)
set_option maxRecDepth 100000 in
set_option maxHeartbeats 6400000 in
theorem Closes_any (x : WA) (q q' : Option Addr) (cap cap' : Nat) (l m : List Ms) (w : World) (h : x.At w) (hl : l.length ≤ 140737488355327) (hl' : m.length ≤ 140737488355327) (hm : MssAt w q l) (hm' : MssAt w q' m) :
    Calls Tryz.prog 53 #[x.v, .slice q l.length cap, .slice q' m.length cap'] w fun e w' => e = .returned (.tuple #[.bool (ceB x l m), .int .i64 (ceE x l m)]) ∧ Below w.heap.size w w' := by
  have K1 := fun W (hb : Below w.heap.size w W) => Total_any x q cap l W (h.keep hb) hl (hm.keep hb)
  have K2 := fun W (hb : Below w.heap.size w W) => Total_any x q' cap' m W (h.keep hb) hl' (hm'.keep hb)
  obtain ⟨F, hF⟩ : ∃ F, ceB x l m = F := ⟨_, rfl⟩
  obtain ⟨E, hE⟩ : ∃ F, ceE x l m = F := ⟨_, rfl⟩
  rw [hF, hE]
  unfold ceB at hF
  rw [hE] at hF
  unfold ceE at hE
  obtain ⟨k, hk⟩ : ∃ F, ttE x l = F := ⟨_, rfl⟩
  obtain ⟨k2, hk2⟩ : ∃ F, ttE x m = F := ⟨_, rfl⟩
  obtain ⟨a, ha⟩ : ∃ F, ttLo x l = F := ⟨_, rfl⟩
  obtain ⟨b, hb⟩ : ∃ F, ttHi x l = F := ⟨_, rfl⟩
  obtain ⟨a2, ha2⟩ : ∃ F, ttLo x m = F := ⟨_, rfl⟩
  obtain ⟨b2, hb2⟩ : ∃ F, ttHi x m = F := ⟨_, rfl⟩
  rw [hk, hk2] at hE
  rw [ha, hb, ha2, hb2] at hF
  simp only [hk, ha, hb] at K1
  simp only [hk2, ha2, hb2] at K2
  have HE := Lib.hid hE
  have HF := Lib.hid hF
  clear h hm hm' hE hF hk hk2 ha hb ha2 hb2
  obtain ⟨cs, ps, rs, q1, q2, q3, c1, c2, c3⟩ := x
  simp only [WA.v] at *
  go_enter Tryz.func53, Tryz.ntmps53
  go_upto_region 1 with fail
  obtain ⟨W0, hW0⟩ : ∃ W0, (w).alloc (.cells #[.slice q1 cs.length c1, .slice q2 ps.length c2, .slice q3 rs.length c3] 26) = W0 := ⟨_, rfl⟩
  have S0 : St w W0 [(w.heap.size, 0, .slice q1 cs.length c1), (w.heap.size, 1, .slice q2 ps.length c2), (w.heap.size, 2, .slice q3 rs.length c3)] := by rw [← hW0]; exact ((St.nil w)).box #[.slice q1 cs.length c1, .slice q2 ps.length c2, .slice q3 rs.length c3] 26 (w.heap.size) (by simp)
  rw [hW0]
  clear hW0
  obtain ⟨C, hC0, HC, LC, BC, hne⟩ := cls S0
  haveI := hne
  obtain ⟨c0, rfl⟩ : ∃ n : Wd C, W0 = n.w := ⟨⟨_, hC0⟩, rfl⟩
  have fC0 : ∀ n : Wd C, n.w.cell? ⟨w.heap.size, 0, none⟩ = some (.slice q1 cs.length c1) := fun n => (LC.out n).1.2.1
  have fC1 : ∀ n : Wd C, n.w.cell? ⟨w.heap.size, 1, none⟩ = some (.slice q2 ps.length c2) := fun n => (LC.out n).2.1.2.1
  have fC2 : ∀ n : Wd C, n.w.cell? ⟨w.heap.size, 2, none⟩ = some (.slice q3 rs.length c3) := fun n => (LC.out n).2.2.1.2.1
  clear S0 hC0
  have D1 := cinL HC BC K1
  clear K1
  go_upto_region 2 with (first | first | (go_at_call 51; with_reducible refine (D1 _).out.mono ?_; rintro e w' ⟨rfl, n, rfl⟩))
  obtain ⟨W0, hW0⟩ : ∃ W0, (n.w).alloc (.cells #[.int .i64 (a), .int .i64 (b)] 30) = W0 := ⟨_, rfl⟩
  have S0 : St w W0 [(n.w.heap.size, 0, .int .i64 (a)), (n.w.heap.size, 1, .int .i64 (b)), (w.heap.size, 0, .slice q1 cs.length c1), (w.heap.size, 1, .slice q2 ps.length c2), (w.heap.size, 2, .slice q3 rs.length c3)] := by rw [← hW0]; exact ((⟨BC.out n, LC.out n⟩ : St w n.w _)).box #[.int .i64 (a), .int .i64 (b)] 30 (n.w.heap.size) (by simp)
  rw [hW0]
  clear hW0
  obtain ⟨kD, hkk⟩ : ∃ k, n.w.heap.size = k := ⟨_, rfl⟩
  have gkD : w.heap.size ≤ kD := by rw [← hkk]; exact (BC.out n).size
  rw [hkk] at S0 ⊢
  clear hkk
  obtain ⟨D, hC0, HD, LD, BD, hne⟩ := cls S0
  haveI := hne
  obtain ⟨d0, rfl⟩ : ∃ n : Wd D, W0 = n.w := ⟨⟨_, hC0⟩, rfl⟩
  have fD0 : ∀ n : Wd D, n.w.cell? ⟨kD, 0, none⟩ = some (.int .i64 (a)) := fun n => (LD.out n).1.2.1
  have fD1 : ∀ n : Wd D, n.w.cell? ⟨kD, 1, none⟩ = some (.int .i64 (b)) := fun n => (LD.out n).2.1.2.1
  have fD2 : ∀ n : Wd D, n.w.cell? ⟨w.heap.size, 0, none⟩ = some (.slice q1 cs.length c1) := fun n => (LD.out n).2.2.1.2.1
  have fD3 : ∀ n : Wd D, n.w.cell? ⟨w.heap.size, 1, none⟩ = some (.slice q2 ps.length c2) := fun n => (LD.out n).2.2.2.1.2.1
  have fD4 : ∀ n : Wd D, n.w.cell? ⟨w.heap.size, 2, none⟩ = some (.slice q3 rs.length c3) := fun n => (LD.out n).2.2.2.2.1.2.1
  clear S0 hC0
  have D2 := cinL HD BD K2
  clear K2 D1
  by_cases hk0 : k = 0
  · subst hk0
    rw [if_neg (by simp)] at HE
    obtain rfl : E = k2 := HE.out.symm
    go_upto_region 5 with (first | first | (go_at_call 51; with_reducible refine (D2 _).out.mono ?_; rintro e w' ⟨rfl, n, rfl⟩))
    obtain ⟨W0, hW0⟩ : ∃ W0, (n.w).alloc (.cells #[.int .i64 (a2), .int .i64 (b2)] 30) = W0 := ⟨_, rfl⟩
    have S0 : St w W0 [(n.w.heap.size, 0, .int .i64 (a2)), (n.w.heap.size, 1, .int .i64 (b2)), (kD, 0, .int .i64 (a)), (kD, 1, .int .i64 (b)), (w.heap.size, 0, .slice q1 cs.length c1), (w.heap.size, 1, .slice q2 ps.length c2), (w.heap.size, 2, .slice q3 rs.length c3)] := by rw [← hW0]; exact ((⟨BD.out n, LD.out n⟩ : St w n.w _)).box #[.int .i64 (a2), .int .i64 (b2)] 30 (n.w.heap.size) (by simp)
    rw [hW0]
    clear hW0
    obtain ⟨kG, hkk⟩ : ∃ k, n.w.heap.size = k := ⟨_, rfl⟩
    have gkG : w.heap.size ≤ kG := by rw [← hkk]; exact (BD.out n).size
    rw [hkk] at S0 ⊢
    clear hkk
    obtain ⟨G, hC0, HG, LG, BG, hne⟩ := cls S0
    haveI := hne
    obtain ⟨g0, rfl⟩ : ∃ n : Wd G, W0 = n.w := ⟨⟨_, hC0⟩, rfl⟩
    have fG0 : ∀ n : Wd G, n.w.cell? ⟨kG, 0, none⟩ = some (.int .i64 (a2)) := fun n => (LG.out n).1.2.1
    have fG1 : ∀ n : Wd G, n.w.cell? ⟨kG, 1, none⟩ = some (.int .i64 (b2)) := fun n => (LG.out n).2.1.2.1
    have fG2 : ∀ n : Wd G, n.w.cell? ⟨kD, 0, none⟩ = some (.int .i64 (a)) := fun n => (LG.out n).2.2.1.2.1
    have fG3 : ∀ n : Wd G, n.w.cell? ⟨kD, 1, none⟩ = some (.int .i64 (b)) := fun n => (LG.out n).2.2.2.1.2.1
    have fG4 : ∀ n : Wd G, n.w.cell? ⟨w.heap.size, 0, none⟩ = some (.slice q1 cs.length c1) := fun n => (LG.out n).2.2.2.2.1.2.1
    have fG5 : ∀ n : Wd G, n.w.cell? ⟨w.heap.size, 1, none⟩ = some (.slice q2 ps.length c2) := fun n => (LG.out n).2.2.2.2.2.1.2.1
    have fG6 : ∀ n : Wd G, n.w.cell? ⟨w.heap.size, 2, none⟩ = some (.slice q3 rs.length c3) := fun n => (LG.out n).2.2.2.2.2.2.1.2.1
    clear S0 hC0
    clear D2
    by_cases hk2 : E = 0
    · subst hk2
      rw [if_neg (by simp)] at HF
      by_cases h1 : a ≤ b2
      · have h1' : decide (a ≤ b2) = true := by simpa using h1
        by_cases h2 : a2 ≤ b
        · have h2' : decide (a2 ≤ b) = true := by simpa using h2
          obtain rfl : true = F := by rw [← HF.out, h1', h2']; rfl
          clear h1 h2
          go_wp2_with fail
          go_ret2
          exact ⟨rfl, BG.out _⟩
        · have h2' : decide (a2 ≤ b) = false := by simpa using h2
          obtain rfl : false = F := by rw [← HF.out, h1', h2']; rfl
          clear h1 h2
          go_wp2_with fail
          go_ret2
          exact ⟨rfl, BG.out _⟩
      · have h1' : decide (a ≤ b2) = false := by simpa using h1
        obtain rfl : false = F := by rw [← HF.out, h1']; rfl
        clear h1
        go_wp2_with fail
        go_ret2
        exact ⟨rfl, BG.out _⟩
    · have hgb : (E != 0) = true := by simpa using hk2
      rw [if_pos hk2] at HF
      obtain rfl : false = F := HF.out
      clear hk2
      go_wp2_with fail
      go_ret2
      exact ⟨rfl, BG.out _⟩
  · have hgb : (k != 0) = true := by simpa using hk0
    rw [if_pos hk0] at HE
    obtain rfl : k = E := HE.out
    rw [if_pos hk0] at HF
    obtain rfl : false = F := HF.out
    clear hk0
    go_wp2_with fail
    go_ret2
    exact ⟨rfl, BD.out _⟩
set_option maxRecDepth 100000 in
set_option maxHeartbeats 6400000 in
theorem rCloses_any (x : WA) (q q' : Option Addr) (cap cap' : Nat) (l m : List Ms) (w : World) (h : x.At w) (hl : l.length ≤ 140737488355327) (hl' : m.length ≤ 140737488355327) (hm : MssAt w q l) (hm' : MssAt w q' m) :
    Calls Tryz.prog 54 #[x.v, .slice q l.length cap, .slice q' m.length cap'] w fun e w' => e = .returned (.tuple #[.bool (ceB x l m), .int .i64 (ceE x l m)]) ∧ Below w.heap.size w w' := by
  have K1 := fun W (hb : Below w.heap.size w W) => rTotal_any x q cap l W (h.keep hb) hl (hm.keep hb)
  have K2 := fun W (hb : Below w.heap.size w W) => rTotal_any x q' cap' m W (h.keep hb) hl' (hm'.keep hb)
  obtain ⟨F, hF⟩ : ∃ F, ceB x l m = F := ⟨_, rfl⟩
  obtain ⟨E, hE⟩ : ∃ F, ceE x l m = F := ⟨_, rfl⟩
  rw [hF, hE]
  unfold ceB at hF
  rw [hE] at hF
  unfold ceE at hE
  obtain ⟨k, hk⟩ : ∃ F, ttE x l = F := ⟨_, rfl⟩
  obtain ⟨k2, hk2⟩ : ∃ F, ttE x m = F := ⟨_, rfl⟩
  obtain ⟨a, ha⟩ : ∃ F, ttLo x l = F := ⟨_, rfl⟩
  obtain ⟨b, hb⟩ : ∃ F, ttHi x l = F := ⟨_, rfl⟩
  obtain ⟨a2, ha2⟩ : ∃ F, ttLo x m = F := ⟨_, rfl⟩
  obtain ⟨b2, hb2⟩ : ∃ F, ttHi x m = F := ⟨_, rfl⟩
  rw [hk, hk2] at hE
  rw [ha, hb, ha2, hb2] at hF
  simp only [hk, ha, hb] at K1
  simp only [hk2, ha2, hb2] at K2
  have HE := Lib.hid hE
  have HF := Lib.hid hF
  clear h hm hm' hE hF hk hk2 ha hb ha2 hb2
  obtain ⟨cs, ps, rs, q1, q2, q3, c1, c2, c3⟩ := x
  simp only [WA.v] at *
  go_enter Tryz.func54, Tryz.ntmps54
  go_upto_region 1 with fail
  obtain ⟨W0, hW0⟩ : ∃ W0, (w).alloc (.cells #[.slice q1 cs.length c1, .slice q2 ps.length c2, .slice q3 rs.length c3] 26) = W0 := ⟨_, rfl⟩
  have S0 : St w W0 [(w.heap.size, 0, .slice q1 cs.length c1), (w.heap.size, 1, .slice q2 ps.length c2), (w.heap.size, 2, .slice q3 rs.length c3)] := by rw [← hW0]; exact ((St.nil w)).box #[.slice q1 cs.length c1, .slice q2 ps.length c2, .slice q3 rs.length c3] 26 (w.heap.size) (by simp)
  rw [hW0]
  clear hW0
  obtain ⟨C, hC0, HC, LC, BC, hne⟩ := cls S0
  haveI := hne
  obtain ⟨c0, rfl⟩ : ∃ n : Wd C, W0 = n.w := ⟨⟨_, hC0⟩, rfl⟩
  have fC0 : ∀ n : Wd C, n.w.cell? ⟨w.heap.size, 0, none⟩ = some (.slice q1 cs.length c1) := fun n => (LC.out n).1.2.1
  have fC1 : ∀ n : Wd C, n.w.cell? ⟨w.heap.size, 1, none⟩ = some (.slice q2 ps.length c2) := fun n => (LC.out n).2.1.2.1
  have fC2 : ∀ n : Wd C, n.w.cell? ⟨w.heap.size, 2, none⟩ = some (.slice q3 rs.length c3) := fun n => (LC.out n).2.2.1.2.1
  clear S0 hC0
  have D1 := cinL HC BC K1
  clear K1
  go_upto_region 2 with (first | first | (go_at_call 52; with_reducible refine (D1 _).out.mono ?_; rintro e w' ⟨rfl, n, rfl⟩))
  obtain ⟨W0, hW0⟩ : ∃ W0, (n.w).alloc (.cells #[.int .i64 (a), .int .i64 (b)] 30) = W0 := ⟨_, rfl⟩
  have S0 : St w W0 [(n.w.heap.size, 0, .int .i64 (a)), (n.w.heap.size, 1, .int .i64 (b)), (w.heap.size, 0, .slice q1 cs.length c1), (w.heap.size, 1, .slice q2 ps.length c2), (w.heap.size, 2, .slice q3 rs.length c3)] := by rw [← hW0]; exact ((⟨BC.out n, LC.out n⟩ : St w n.w _)).box #[.int .i64 (a), .int .i64 (b)] 30 (n.w.heap.size) (by simp)
  rw [hW0]
  clear hW0
  obtain ⟨kD, hkk⟩ : ∃ k, n.w.heap.size = k := ⟨_, rfl⟩
  have gkD : w.heap.size ≤ kD := by rw [← hkk]; exact (BC.out n).size
  rw [hkk] at S0 ⊢
  clear hkk
  obtain ⟨D, hC0, HD, LD, BD, hne⟩ := cls S0
  haveI := hne
  obtain ⟨d0, rfl⟩ : ∃ n : Wd D, W0 = n.w := ⟨⟨_, hC0⟩, rfl⟩
  have fD0 : ∀ n : Wd D, n.w.cell? ⟨kD, 0, none⟩ = some (.int .i64 (a)) := fun n => (LD.out n).1.2.1
  have fD1 : ∀ n : Wd D, n.w.cell? ⟨kD, 1, none⟩ = some (.int .i64 (b)) := fun n => (LD.out n).2.1.2.1
  have fD2 : ∀ n : Wd D, n.w.cell? ⟨w.heap.size, 0, none⟩ = some (.slice q1 cs.length c1) := fun n => (LD.out n).2.2.1.2.1
  have fD3 : ∀ n : Wd D, n.w.cell? ⟨w.heap.size, 1, none⟩ = some (.slice q2 ps.length c2) := fun n => (LD.out n).2.2.2.1.2.1
  have fD4 : ∀ n : Wd D, n.w.cell? ⟨w.heap.size, 2, none⟩ = some (.slice q3 rs.length c3) := fun n => (LD.out n).2.2.2.2.1.2.1
  clear S0 hC0
  have D2 := cinL HD BD K2
  clear K2 D1
  by_cases hk0 : k = 0
  · subst hk0
    rw [if_neg (by simp)] at HE
    obtain rfl : E = k2 := HE.out.symm
    go_upto_region 5 with (first | first | (go_at_call 52; with_reducible refine (D2 _).out.mono ?_; rintro e w' ⟨rfl, n, rfl⟩))
    obtain ⟨W0, hW0⟩ : ∃ W0, (n.w).alloc (.cells #[.int .i64 (a2), .int .i64 (b2)] 30) = W0 := ⟨_, rfl⟩
    have S0 : St w W0 [(n.w.heap.size, 0, .int .i64 (a2)), (n.w.heap.size, 1, .int .i64 (b2)), (kD, 0, .int .i64 (a)), (kD, 1, .int .i64 (b)), (w.heap.size, 0, .slice q1 cs.length c1), (w.heap.size, 1, .slice q2 ps.length c2), (w.heap.size, 2, .slice q3 rs.length c3)] := by rw [← hW0]; exact ((⟨BD.out n, LD.out n⟩ : St w n.w _)).box #[.int .i64 (a2), .int .i64 (b2)] 30 (n.w.heap.size) (by simp)
    rw [hW0]
    clear hW0
    obtain ⟨kG, hkk⟩ : ∃ k, n.w.heap.size = k := ⟨_, rfl⟩
    have gkG : w.heap.size ≤ kG := by rw [← hkk]; exact (BD.out n).size
    rw [hkk] at S0 ⊢
    clear hkk
    obtain ⟨G, hC0, HG, LG, BG, hne⟩ := cls S0
    haveI := hne
    obtain ⟨g0, rfl⟩ : ∃ n : Wd G, W0 = n.w := ⟨⟨_, hC0⟩, rfl⟩
    have fG0 : ∀ n : Wd G, n.w.cell? ⟨kG, 0, none⟩ = some (.int .i64 (a2)) := fun n => (LG.out n).1.2.1
    have fG1 : ∀ n : Wd G, n.w.cell? ⟨kG, 1, none⟩ = some (.int .i64 (b2)) := fun n => (LG.out n).2.1.2.1
    have fG2 : ∀ n : Wd G, n.w.cell? ⟨kD, 0, none⟩ = some (.int .i64 (a)) := fun n => (LG.out n).2.2.1.2.1
    have fG3 : ∀ n : Wd G, n.w.cell? ⟨kD, 1, none⟩ = some (.int .i64 (b)) := fun n => (LG.out n).2.2.2.1.2.1
    have fG4 : ∀ n : Wd G, n.w.cell? ⟨w.heap.size, 0, none⟩ = some (.slice q1 cs.length c1) := fun n => (LG.out n).2.2.2.2.1.2.1
    have fG5 : ∀ n : Wd G, n.w.cell? ⟨w.heap.size, 1, none⟩ = some (.slice q2 ps.length c2) := fun n => (LG.out n).2.2.2.2.2.1.2.1
    have fG6 : ∀ n : Wd G, n.w.cell? ⟨w.heap.size, 2, none⟩ = some (.slice q3 rs.length c3) := fun n => (LG.out n).2.2.2.2.2.2.1.2.1
    clear S0 hC0
    clear D2
    by_cases hk2 : E = 0
    · subst hk2
      rw [if_neg (by simp)] at HF
      by_cases h1 : a ≤ b2
      · have h1' : decide (a ≤ b2) = true := by simpa using h1
        by_cases h2 : a2 ≤ b
        · have h2' : decide (a2 ≤ b) = true := by simpa using h2
          obtain rfl : true = F := by rw [← HF.out, h1', h2']; rfl
          clear h1 h2
          go_wp2_with fail
          go_ret2
          exact ⟨rfl, BG.out _⟩
        · have h2' : decide (a2 ≤ b) = false := by simpa using h2
          obtain rfl : false = F := by rw [← HF.out, h1', h2']; rfl
          clear h1 h2
          go_wp2_with fail
          go_ret2
          exact ⟨rfl, BG.out _⟩
      · have h1' : decide (a ≤ b2) = false := by simpa using h1
        obtain rfl : false = F := by rw [← HF.out, h1']; rfl
        clear h1
        go_wp2_with fail
        go_ret2
        exact ⟨rfl, BG.out _⟩
    · have hgb : (E != 0) = true := by simpa using hk2
      rw [if_pos hk2] at HF
      obtain rfl : false = F := HF.out
      clear hk2
      go_wp2_with fail
      go_ret2
      exact ⟨rfl, BG.out _⟩
  · have hgb : (k != 0) = true := by simpa using hk0
    rw [if_pos hk0] at HE
    obtain rfl : k = E := HE.out
    rw [if_pos hk0] at HF
    obtain rfl : false = F := HF.out
    clear hk0
    go_wp2_with fail
    go_ret2
    exact ⟨rfl, BD.out _⟩
set_option maxRecDepth 100000 in
theorem long30_any (q : Option Addr) (cap : Nat) (l : List Ms) (w : World) (hl : l.length ≤ 140737488355327) : Calls Tryz.prog 48 #[.slice q l.length cap] w fun e w' => e = .returned (.bool (decide (30 < l.length) && decide (l.length ≤ 100))) ∧ w = w' := by
  obtain ⟨F, hF⟩ : ∃ F, (decide (30 < l.length) && decide (l.length ≤ 100)) = F := ⟨_, rfl⟩
  rw [hF]
  have HF := Lib.hid hF
  clear hF
  go_enter Tryz.func48, Tryz.ntmps48
  by_cases h1 : 30 < l.length
  · have h1' : decide ((30 : Int) < (l.length : Int)) = true := by simp; omega
    by_cases h2 : l.length ≤ 100
    · have h2' : decide ((l.length : Int) ≤ 100) = true := by simp; omega
      obtain rfl : true = F := by rw [← HF.out]; simp [h1, h2]
      clear h1 h2
      go_wp2_with fail
      go_ret
      exact ⟨rfl, rfl⟩
    · have h2' : decide ((l.length : Int) ≤ 100) = false := by simp; omega
      obtain rfl : false = F := by rw [← HF.out]; simp [h1, h2]
      clear h1 h2
      go_wp2_with fail
      go_ret
      exact ⟨rfl, rfl⟩
  · have h1' : decide ((30 : Int) < (l.length : Int)) = false := by simp; omega
    obtain rfl : false = F := by rw [← HF.out]; simp [h1]
    clear h1
    go_wp2_with fail
    go_ret
    exact ⟨rfl, rfl⟩
end Go.Proofs.YtcejmfgbfdhflaaGreat
