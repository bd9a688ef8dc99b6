import Derived.Test.YtdefpcjlbganpaaRPgn
import Derived.WalkKit
import Derived.LoopTactic
import Derived.WalkSpells
import Derived.WalkLawsBesides
import Derived.Lib.Hide
import Derived.BigQuiet
import Derived.IntWalk
import Derived.Deep.DeepMust
import Derived.WalkSmall
import Derived.StillTailTactics
import Derived.Deep.RegionLaw
import Derived.Deep.RegionHeld3
import Derived.Deep.QuietTactic
import Derived.Deep.DeepCutAuto
import Derived.Laws.AppendOwn
import Derived.Deep.CutBlock
namespace Go.Proofs.Ytdefpcjlbganpaa
open Go.RowKit Go.BigFrame
attribute [local go_sem] World.cell?_alloc_some
/-- How an edge of a simple polygon meets one before it, as it is specified. -/
def nxV (n i k : Nat) : Int := if k + 1 = i ∨ (i + 1 = n ∧ k = 0) then 1 else 0
theorem egs_get {l : List Pt} {x : Nat × Sg} : x ∈ egs l ↔ x.1 < l.length ∧ x.2 = eg l x.1 := by
  unfold egs upto
  rw [List.mem_map]
  constructor
  · rintro ⟨j, hj, rfl⟩; exact ⟨List.mem_range.1 hj, rfl⟩
  · rintro ⟨h1, h2⟩; exact ⟨x.1, List.mem_range.2 h1, by rw [← h2]⟩
theorem smp_iff {l : List Pt} : smp l = true ↔ ∀ k i : Nat, k < l.length → i < l.length → k < i → mtg (eg l k) (eg l i) = smM (wrap64 ((i : Int) - (k : Int))) (l.length : Int) := by
  unfold smp
  rw [List.all_eq_true]
  constructor
  · intro h k i hk hi hki
    have h1 := h (k, eg l k) (egs_get.2 ⟨hk, rfl⟩)
    rw [Bool.not_eq_true', List.any_eq_false] at h1
    have h2 := h1 (i, eg l i) (egs_get.2 ⟨hi, rfl⟩)
    unfold badP at h2
    rcases Classical.em (mtg (eg l k) (eg l i) = smM (wrap64 ((i : Int) - (k : Int))) (l.length : Int)) with g | g
    · exact g
    · exact absurd (by simp [hki, g]) h2
  · rintro h ⟨k, s⟩ hx
    obtain ⟨hk, hs⟩ := egs_get.1 hx
    simp only at hk hs
    subst hs
    rw [Bool.not_eq_true', List.any_eq_false]
    rintro ⟨i, t⟩ hy
    obtain ⟨hi, ht⟩ := egs_get.1 hy
    simp only at hi ht
    subst ht
    unfold badP
    by_cases hki : k < i
    · simp only at *
      rw [h k i hk hi hki]; simp
    · simp [hki]
theorem smM_nx {n i k : Nat} (hn : n ≤ 1000000) (hi : i < n) (hk : k < i) (h3 : 3 ≤ n) : smM (wrap64 ((i : Int) - (k : Int))) (n : Int) = nxV n i k := by
  unfold smM nxV
  rw [w64 (by omega), w64 (by omega)]
  by_cases h : k + 1 = i ∨ (i + 1 = n ∧ k = 0)
  · rw [if_pos h, if_pos (by omega)]
  · rw [if_neg h, if_neg (by omega)]
theorem smp_no1 {l : List Pt} (h3 : 3 ≤ l.length) (hl : l.length ≤ 1000000) {j : Nat} (hj : j < l.length) (h : pt l j = pt l ((j + 1) % l.length)) : smp l = false := by
  have hoff : okG (eg l j) = false := by
    cases g : okG (eg l j)
    · rfl
    · exact absurd h (okG_iff.1 g).2.2
  cases g : smp l
  · rfl
  · rw [smp_iff] at g
    by_cases hj1 : j + 1 < l.length
    · have := g j (j + 1) hj hj1 (by omega)
      rw [mtg_off (.inl hoff), smM_nx hl hj1 (by omega) h3, nxV, if_pos (.inl rfl)] at this
      exact absurd this (by decide)
    · have := g (j - 1) j (by omega) hj (by omega)
      rw [mtg_off (.inr hoff), smM_nx hl hj (by omega) h3, nxV, if_pos (.inl (by omega))] at this
      exact absurd this (by decide)
theorem smp_no2 {l : List Pt} (h3 : 3 ≤ l.length) (hl : l.length ≤ 1000000) {i k : Nat} (hi : i < l.length) (hk : k < i) (h : mtg (eg l i) (eg l k) ≠ nxV l.length i k) : smp l = false := by
  cases g : smp l
  · rfl
  · rw [smp_iff] at g
    have := g k i (by omega) hi hk
    rw [smM_nx hl hi hk h3, mtg_comm] at this
    exact absurd this h
theorem smp_yes {l : List Pt} (h3 : 3 ≤ l.length) (hl : l.length ≤ 1000000) (h : ∀ i k : Nat, i < l.length → k < i → mtg (eg l i) (eg l k) = nxV l.length i k) : smp l = true := by
  rw [smp_iff]
  intro k i hk hi hki
  rw [smM_nx hl hi hki h3, mtg_comm]
  exact h i k hi hki
set_option maxRecDepth 100000 in
set_option maxHeartbeats 16000000 in
theorem rsimple_any (q : Option Addr) (cap : Nat) (l : List Pt) (w : World) (hl : l.length ≤ 1000) (h3 : 3 ≤ l.length) (hp : PtsAt w q l) :
    Calls Try.prog 94 #[.slice q l.length cap] w fun e w' => e = .returned (.bool (smp l)) ∧ Below w.heap.size w w' := by
  obtain ⟨b, o, rfl, hbl, hcc⟩ := pts_cells hp (by omega)
  have HCC := Lib.hid hcc
  have H3 := Lib.hid h3
  clear hp hcc
  have S : St w w [] := ⟨Below.refl _ _, trivial⟩
  obtain ⟨C, hC0, HC, LC, BC, hne⟩ := cls S
  haveI := hne
  have HG : Hid (∀ j, j < l.length → ∀ n : Wd C, n.w.cell? ⟨b, o + j * 2, none⟩ = some (.int .i64 (pt l j).x) ∧ n.w.cell? ⟨b, o + j * 2 + 1, none⟩ = some (.int .i64 (pt l j).y)) := fun j hj n =>
    ⟨((BC.out n).cell (p := ⟨b, o + j * 2, none⟩) hbl).trans (HCC.out j hj).1, ((BC.out n).cell (p := ⟨b, o + j * 2 + 1, none⟩) hbl).trans (HCC.out j hj).2⟩
  obtain ⟨c0, hc0⟩ : ∃ n : Wd C, w = n.w := ⟨⟨_, hC0⟩, rfl⟩
  have HC0 := Lib.hid hc0
  clear S hC0 hc0 HCC
  go_enter Try.func94, Try.ntmps94
  go_wp2_with fail
  go_loopw [4] (fun i wr => ∃ (k : Nat) (n : Wd C), wr = n.w ∧ i = .int .i64 (k : Int) ∧ k ≤ l.length) (fun i wr => l.length - (intOf i).toNat)
  case atStart => exact ⟨0, c0, HC0.out, rfl, Nat.zero_le _⟩
  case round =>
    obtain ⟨k, n, rfl, rfl, hk⟩ := hrel
    by_cases hlt : k < l.length
    · obtain ⟨m, hm⟩ : ∃ m : Nat, (k + 1) % l.length = m := ⟨_, rfl⟩
      have hm1 : m < l.length := by rw [← hm]; exact Nat.mod_lt _ (by omega)
      have hm2 : ((k : Int) + 1).tmod (l.length : Int) = (m : Int) := by rw [← hm, Int.tmod_eq_emod_of_nonneg (by omega)]; simp
      have g1 : ∀ n : Wd C, n.w.cell? ⟨b, o + k * 2, none⟩ = some (.int .i64 (pt l k).x) := fun n => (HG.out k hlt n).1
      have g2 : ∀ n : Wd C, n.w.cell? ⟨b, o + k * 2 + 1, none⟩ = some (.int .i64 (pt l k).y) := fun n => (HG.out k hlt n).2
      have g3 : ∀ n : Wd C, n.w.cell? ⟨b, o + m * 2, none⟩ = some (.int .i64 (pt l m).x) := fun n => (HG.out m hm1 n).1
      have g4 : ∀ n : Wd C, n.w.cell? ⟨b, o + m * 2 + 1, none⟩ = some (.int .i64 (pt l m).y) := fun n => (HG.out m hm1 n).2
      have ke := fun W => eqP_run (pt l k) (pt l m) W
      obtain ⟨z, hz⟩ : ∃ z, ptE (pt l k) (pt l m) = z := ⟨_, rfl⟩
      rw [hz] at ke
      have HZ : Hid (z = true → smp l = false) := fun h => by
        rw [← hz] at h
        exact smp_no1 H3.out (by omega) hlt (by rw [hm]; exact of_decide_eq_true h)
      have hw0 : IntKind.i64.wrap ((k : Int) + 1) = (k : Int) + 1 := (wrapEq _).trans (w64 (by omega))
      have hz1 : ¬ ((l.length : Int) = 0) := by omega
      have hz2 : ¬ (l.length = 0) := by omega
      have hz3 : ¬ (l = []) := fun h => by rw [h] at hlt; exact absurd hlt (by simp)
      have hz4 : (m : Int) < (l.length : Int) := by omega
      clear hm hz
      go_wp2_with fail
      refine wp_region_in C (HC.out _ _ (Wd.h _) (below_dr _)) (by kernel_rfl) (by kernel_rfl) ?_
      repeat (go_big_quiet_step (first | fail))
      refine wpQuiet_nil ?_
      intro wx hwx
      obtain ⟨n2, rfl⟩ : ∃ n : Wd C, wx = n.w := ⟨⟨wx, hwx⟩, rfl⟩
      clear hwx
      clear g1 g2 g3 g4
      cases z
      · go_wp2_with fail
        go_roundw
        case rel => exact ⟨k + 1, n2, rfl, by simp, by omega⟩
        case measure => simp [intOf]; omega
      · go_wp2_with fail
        go_ret
        exact ⟨ret_bool (HZ.out (by first | rfl | trivial)).symm, BC.out _⟩
    · obtain rfl : k = l.length := by omega
      go_wp2_with fail
      go_loopw [5] (fun i wr => ∃ (k : Nat) (n : Wd C), wr = n.w ∧ i = .int .i64 (k : Int) ∧ k ≤ l.length ∧ (∀ i' k' : Nat, i' < k → k' < i' → mtg (eg l i') (eg l k') = nxV l.length i' k')) (fun i wr => l.length - (intOf i).toNat)
      case atStart => exact ⟨0, n, rfl, rfl, Nat.zero_le _, fun i' k' h => absurd h (by omega)⟩
      case round =>
        obtain ⟨i, no, rfl, rfl, hi, hall⟩ := hrel
        have HA := Lib.hid hall
        clear hall
        by_cases hlti : i < l.length
        · obtain ⟨mi, hmi⟩ : ∃ m : Nat, (i + 1) % l.length = m := ⟨_, rfl⟩
          have hmi1 : mi < l.length := by rw [← hmi]; exact Nat.mod_lt _ (by omega)
          have hmi2 : ((i : Int) + 1).tmod (l.length : Int) = (mi : Int) := by rw [← hmi, Int.tmod_eq_emod_of_nonneg (by omega)]; simp
          have HMI := Lib.hid hmi
          clear hmi
          obtain ⟨wo, hwo⟩ : ∃ wo : World, no.w = wo := ⟨_, rfl⟩
          go_wp2_with fail
          go_loopw [6] (fun v wr => ∃ (k : Nat) (n : Wd C), wr = n.w ∧ v = .int .i64 (k : Int) ∧ k ≤ i ∧ (∀ k' : Nat, k' < k → mtg (eg l i) (eg l k') = nxV l.length i k')) (fun v wr => i - (intOf v).toNat)
          case atStart => exact ⟨0, no, hwo.symm, rfl, Nat.zero_le _, fun k' h => absurd h (by omega)⟩
          case round =>
            obtain ⟨j, nj, rfl, rfl, hj, hallj⟩ := hrel
            have HJ := Lib.hid hallj
            clear hallj hwo
            by_cases hltj : j < i
            · obtain ⟨mj, hmj⟩ : ∃ m : Nat, (j + 1) % l.length = m := ⟨_, rfl⟩
              have hmj1 : mj < l.length := by rw [← hmj]; exact Nat.mod_lt _ (by omega)
              have hmj2 : ((j : Int) + 1).tmod (l.length : Int) = (mj : Int) := by rw [← hmj, Int.tmod_eq_emod_of_nonneg (by omega)]; simp
              have hltjl : j < l.length := by omega
              have g1 : ∀ n : Wd C, n.w.cell? ⟨b, o + i * 2, none⟩ = some (.int .i64 (pt l i).x) := fun n => (HG.out i hlti n).1
              have g2 : ∀ n : Wd C, n.w.cell? ⟨b, o + i * 2 + 1, none⟩ = some (.int .i64 (pt l i).y) := fun n => (HG.out i hlti n).2
              have g3 : ∀ n : Wd C, n.w.cell? ⟨b, o + mi * 2, none⟩ = some (.int .i64 (pt l mi).x) := fun n => (HG.out mi hmi1 n).1
              have g4 : ∀ n : Wd C, n.w.cell? ⟨b, o + mi * 2 + 1, none⟩ = some (.int .i64 (pt l mi).y) := fun n => (HG.out mi hmi1 n).2
              have g5 : ∀ n : Wd C, n.w.cell? ⟨b, o + j * 2, none⟩ = some (.int .i64 (pt l j).x) := fun n => (HG.out j hltjl n).1
              have g6 : ∀ n : Wd C, n.w.cell? ⟨b, o + j * 2 + 1, none⟩ = some (.int .i64 (pt l j).y) := fun n => (HG.out j hltjl n).2
              have g7 : ∀ n : Wd C, n.w.cell? ⟨b, o + mj * 2, none⟩ = some (.int .i64 (pt l mj).x) := fun n => (HG.out mj hmj1 n).1
              have g8 : ∀ n : Wd C, n.w.cell? ⟨b, o + mj * 2 + 1, none⟩ = some (.int .i64 (pt l mj).y) := fun n => (HG.out mj hmj1 n).2
              obtain ⟨M, hM⟩ : ∃ M, mtg (eg l i) (eg l j) = M := ⟨_, rfl⟩
              have CC : ∀ W, Calls Try.prog 28 #[(⟨pt l i, pt l mi⟩ : Sg).v, (⟨pt l j, pt l mj⟩ : Sg).v] W fun e w' => e = .returned (.int .i64 M) ∧ Below W.heap.size W w' := fun W => by
                rw [← hM, eg, eg, HMI.out, hmj]; exact rMeeting_any _ _ W
              have D1 := cin HC CC
              have HM : Hid (mtg (eg l i) (eg l j) = M) := hM
              have hw0 : IntKind.i64.wrap ((i : Int) + 1) = (i : Int) + 1 := (wrapEq _).trans (w64 (by omega))
              have hw1 : IntKind.i64.wrap ((j : Int) + 1) = (j : Int) + 1 := (wrapEq _).trans (w64 (by omega))
              have hz1 : ¬ ((l.length : Int) = 0) := by omega
              have hz2 : ¬ (l.length = 0) := by omega
              have hz3 : ¬ (l = []) := fun h => by rw [h] at hlti; exact absurd hlti (by simp)
              have hz4 : (mi : Int) < (l.length : Int) := by omega
              have hz5 : (mj : Int) < (l.length : Int) := by omega
              have hz6 : (i : Int) < (l.length : Int) := by omega
              have hz7 : (j : Int) < (l.length : Int) := by omega
              clear hM hmj CC
              go_wp2_with fail
              refine wp_region_in C (HC.out _ _ (Wd.h _) (below_dr _)) (by kernel_rfl) (by kernel_rfl) ?_
              repeat (go_big_quiet_step (first | with_reducible exact (D1 _).out))
              refine wpQuiet_nil ?_
              intro wx hwx
              obtain ⟨n2, rfl⟩ : ∃ n : Wd C, wx = n.w := ⟨⟨wx, hwx⟩, rfl⟩
              clear hwx
              clear g1 g2 g3 g4 g5 g6 g7 g8 D1
              cases hb1 : ((j : Int) + 1 == (i : Int))
              · have hk1 : ¬ j + 1 = i := fun e => by rw [← e] at hb1; simp at hb1
                cases hb2 : ((i : Int) + 1 == (l.length : Int))
                · have hk2 : ¬ i + 1 = l.length := fun e => by rw [← e] at hb2; simp at hb2
                  have hnx : nxV l.length i j = 0 := by unfold nxV; rw [if_neg (by omega)]
                  have HK1 := Lib.hid (And.intro hk1 hk2)
                  clear hk1 hk2
                  cases hm : (M != 0)
                  · have HK : Hid (mtg (eg l i) (eg l j) = nxV l.length i j) := by unfold Hid; rw [HM.out, hnx]; simpa using hm
                    have HNX := Lib.hid hnx
                    clear hnx
                    go_wp2_with fail
                    go_roundw
                    case rel => exact ⟨j + 1, n2, rfl, by simp, by omega, fun k' hk' => by
                      by_cases e : k' = j
                      · subst e; exact HK.out
                      · exact HJ.out k' (by omega)⟩
                    case measure => simp [intOf]; omega
                  · have HK : Hid (mtg (eg l i) (eg l j) ≠ nxV l.length i j) := by unfold Hid; rw [HM.out, hnx]; simpa using hm
                    have HNX := Lib.hid hnx
                    clear hnx
                    go_wp2_with fail
                    go_ret
                    exact ⟨ret_bool (smp_no2 H3.out (by omega) hlti hltj HK.out).symm, BC.out _⟩
                · have hk2 : i + 1 = l.length := by have := eq_of_beq hb2; omega
                  cases hb3 : ((j : Int) == 0)
                  · have hk3 : ¬ j = 0 := fun e => by rw [e] at hb3; simp at hb3
                    have hb4 : (j == 0) = false := by simpa using hk3
                    have hnx : nxV l.length i j = 0 := by unfold nxV; rw [if_neg (by omega)]
                    have HK1 := Lib.hid (And.intro hk1 (And.intro hk2 hk3))
                    clear hk1 hk2 hk3
                    cases hm : (M != 0)
                    · have HK : Hid (mtg (eg l i) (eg l j) = nxV l.length i j) := by unfold Hid; rw [HM.out, hnx]; simpa using hm
                      have HNX := Lib.hid hnx
                      clear hnx
                      go_wp2_with fail
                      go_roundw
                      case rel => exact ⟨j + 1, n2, rfl, by simp, by omega, fun k' hk' => by
                        by_cases e : k' = j
                        · subst e; exact HK.out
                        · exact HJ.out k' (by omega)⟩
                      case measure => simp [intOf]; omega
                    · have HK : Hid (mtg (eg l i) (eg l j) ≠ nxV l.length i j) := by unfold Hid; rw [HM.out, hnx]; simpa using hm
                      have HNX := Lib.hid hnx
                      clear hnx
                      go_wp2_with fail
                      go_ret
                      exact ⟨ret_bool (smp_no2 H3.out (by omega) hlti hltj HK.out).symm, BC.out _⟩
                  · have hk3 : j = 0 := by have := eq_of_beq hb3; omega
                    have hb4 : (j == 0) = true := by simpa using hk3
                    have hnx : nxV l.length i j = 1 := by unfold nxV; rw [if_pos (by omega)]
                    have HK1 := Lib.hid (And.intro hk1 (And.intro hk2 hk3))
                    clear hk1 hk2 hk3
                    cases hm : (M != 1)
                    · have HK : Hid (mtg (eg l i) (eg l j) = nxV l.length i j) := by unfold Hid; rw [HM.out, hnx]; simpa using hm
                      have HNX := Lib.hid hnx
                      clear hnx
                      go_wp2_with fail
                      go_roundw
                      case rel => exact ⟨j + 1, n2, rfl, by simp, by omega, fun k' hk' => by
                        by_cases e : k' = j
                        · subst e; exact HK.out
                        · exact HJ.out k' (by omega)⟩
                      case measure => simp [intOf]; omega
                    · have HK : Hid (mtg (eg l i) (eg l j) ≠ nxV l.length i j) := by unfold Hid; rw [HM.out, hnx]; simpa using hm
                      have HNX := Lib.hid hnx
                      clear hnx
                      go_wp2_with fail
                      go_ret
                      exact ⟨ret_bool (smp_no2 H3.out (by omega) hlti hltj HK.out).symm, BC.out _⟩
              · have hk1 : j + 1 = i := by have := eq_of_beq hb1; omega
                have hnx : nxV l.length i j = 1 := by unfold nxV; rw [if_pos (by omega)]
                have HK1 := Lib.hid hk1
                clear hk1
                cases hm : (M != 1)
                · have HK : Hid (mtg (eg l i) (eg l j) = nxV l.length i j) := by unfold Hid; rw [HM.out, hnx]; simpa using hm
                  have HNX := Lib.hid hnx
                  clear hnx
                  go_wp2_with fail
                  go_roundw
                  case rel => exact ⟨j + 1, n2, rfl, by simp, by omega, fun k' hk' => by
                    by_cases e : k' = j
                    · subst e; exact HK.out
                    · exact HJ.out k' (by omega)⟩
                  case measure => simp [intOf]; omega
                · have HK : Hid (mtg (eg l i) (eg l j) ≠ nxV l.length i j) := by unfold Hid; rw [HM.out, hnx]; simpa using hm
                  have HNX := Lib.hid hnx
                  clear hnx
                  go_wp2_with fail
                  go_ret
                  exact ⟨ret_bool (smp_no2 H3.out (by omega) hlti hltj HK.out).symm, BC.out _⟩
            · obtain rfl : j = i := by omega
              go_wp2_with fail
              go_roundw
              case rel => exact ⟨j + 1, nj, rfl, by simp, by omega, fun i' k' h1 h2 => by
                by_cases e : i' = j
                · subst e; exact HJ.out k' h2
                · exact HA.out i' k' (by omega) h2⟩
              case measure => simp [intOf]; omega
        · obtain rfl : i = l.length := by omega
          go_wp2_with fail
          go_ret
          exact ⟨ret_bool (smp_yes H3.out (by omega) (fun i k hi hk => HA.out i k hi hk)).symm, BC.out _⟩
theorem rpoints3 (p : Option Addr) (cap : Nat) (l : List Pt) (w : World) (hl : l.length ≤ 140737488355327) (hp : PtsAt w p l) :
   Calls Try.prog 92 #[.slice p l.length cap, .int .i64 3] w fun e w' => e = .returned (.int .i64 (ck 3 l)) ∧ Below w.heap.size w w' := rpoints_any 3 p cap l w hl hp
set_option maxRecDepth 100000 in
set_option maxHeartbeats 4000000 in
theorem rSimple_any (q : Option Addr) (cap : Nat) (l : List Pt) (w : World) (hl : l.length ≤ 140737488355327) (hp : PtsAt w q l) :
    Calls Try.prog 33 #[.slice q l.length cap] w fun e w' => e = .returned (smRes l) ∧ Below w.heap.size w w' := by
  obtain ⟨c, hc⟩ : ∃ c, ck 3 l = c := ⟨_, rfl⟩
  have CP := Lib.hid (rpoints_any 3 q cap l w hl hp)
  rw [hc] at CP
  by_cases h0 : c = 0
  · subst h0
    obtain ⟨h3, h200, hall⟩ := ck_len hc
    have hR : Hid (smRes l = .tuple #[.bool (smp l), .int .i64 0]) := by unfold Hid smRes; rw [if_pos hc]
    rw [hR.out]
    have CS := fun W (hb : Below w.heap.size w W) => Lib.hid (rsimple_any q cap l W (by omega) h3 (hp.keep hb))
    obtain ⟨z, hz⟩ : ∃ z, smp l = z := ⟨_, rfl⟩
    rw [hz] at CS ⊢
    clear hR hc hall hp h3 h200 hz
    go_enter Try.func33, Try.ntmps33
    go_wp2_with (go_at_call 92; refine CP.out.mono ?_; rintro e w1 ⟨rfl, hb1⟩)
    refine (CS _ hb1).out.mono ?_
    rintro e w2 ⟨rfl, hb2⟩
    go_wp2_with fail
    go_ret2
    exact ⟨rfl, hb1.trans (hb2.mono hb1.size)⟩
  · have hR : Hid (smRes l = .tuple #[.bool false, .int .i64 c]) := by unfold Hid smRes; rw [if_neg (by rw [hc]; exact h0), hc]
    rw [hR.out]
    clear hR hc
    go_enter Try.func33, Try.ntmps33
    go_wp2_with (go_at_call 92; refine CP.out.mono ?_; rintro e w1 ⟨rfl, hb1⟩)
    go_ret2
    exact ⟨rfl, hb1⟩
set_option maxRecDepth 100000 in
set_option maxHeartbeats 4000000 in
theorem rwhere_any (q : Option Addr) (cap : Nat) (l : List Pt) (p : Pt) (w : World) (hl : l.length ≤ 1000) (h0 : 0 < l.length) (hv : l.all okP = true) (hpv : okP p = true) (hp : PtsAt w q l) :
    Calls Try.prog 100 #[.slice q l.length cap, p.v] w fun e w' => e = .returned (.int .i64 (whr l p)) ∧ Below w.heap.size w w' := by
  have HP := Lib.hid hp
  have C1 := fun W (hb : Below w.heap.size w W) => ralong_any q cap l p W hl h0 hv hpv (HP.out.keep hb)
  have C2 := fun W (hb : Below w.heap.size w W) => rwinding_any q cap l p W hl h0 hv hpv (HP.out.keep hb)
  rw [orB_oeB hv hpv] at C1
  obtain ⟨z, hz⟩ : ∃ z, (egs l).any (oeB p) = z := ⟨_, rfl⟩
  obtain ⟨n, hn⟩ : ∃ n, wnr p (egs l) = n := ⟨_, rfl⟩
  have HR : Hid (whr l p = if z then 0 else if n = 0 then -1 else 1) := by unfold Hid whr; rw [hz, hn]
  rw [HR.out]
  rw [hz] at C1
  rw [hn] at C2
  have E1 := fun W hb => Lib.hid (C1 W hb)
  have E2 := fun W hb => Lib.hid (C2 W hb)
  clear hz hn hv hpv hp C1 C2 HR
  go_enter Try.func100, Try.ntmps100
  go_wp2_with fail
  obtain ⟨W0, hW0⟩ : ∃ W0, (w).alloc (.cells #[.int .i64 p.x, .int .i64 p.y] 23) = W0 := ⟨_, rfl⟩
  have S0 : St w W0 [(w.heap.size, 0, .int .i64 p.x), (w.heap.size, 1, .int .i64 p.y)] := by rw [← hW0]; exact ((St.nil w)).box #[.int .i64 p.x, .int .i64 p.y] 23 (w.heap.size) (by simp)
  rw [hW0]
  clear hW0
  obtain ⟨C, hC0, HC, LC, BC, hne⟩ := cls S0
  haveI := hne
  obtain ⟨c0, rfl⟩ : ∃ n : Wd C, W0 = n.w := ⟨⟨_, hC0⟩, rfl⟩
  have fC0 : ∀ n : Wd C, n.w.cell? ⟨w.heap.size, 0, none⟩ = some (.int .i64 p.x) := fun n => (LC.out n).1.2.1
  have fC1 : ∀ n : Wd C, n.w.cell? ⟨w.heap.size, 1, none⟩ = some (.int .i64 p.y) := fun n => (LC.out n).2.1.2.1
  clear S0 hC0
  have D1 := fun n : Wd C => Lib.hid (Calls.quiet_in (C := C) ((E1 n.w (BC.out n)).out.mono fun _ _ h => ⟨h.1, HC.out _ _ n.h h.2⟩))
  have D2 := fun n : Wd C => Lib.hid (Calls.quiet_in (C := C) ((E2 n.w (BC.out n)).out.mono fun _ _ h => ⟨h.1, HC.out _ _ n.h h.2⟩))
  clear E1 E2
  cases z
  · by_cases h : n = 0
    · subst h
      go_wp2_with (first | (go_at_call 97; with_reducible refine (D1 _).out.mono ?_; rintro e w' ⟨rfl, n, rfl⟩) | (go_at_call 98; with_reducible refine (D2 _).out.mono ?_; rintro e w' ⟨rfl, n, rfl⟩))
      go_ret
      exact ⟨ret_int (by first | rfl | simp), BC.out _⟩
    · have hb : (n != 0) = true := by simpa using h
      have HH := Lib.hid h
      clear h
      go_wp2_with (first | (go_at_call 97; with_reducible refine (D1 _).out.mono ?_; rintro e w' ⟨rfl, n, rfl⟩) | (go_at_call 98; with_reducible refine (D2 _).out.mono ?_; rintro e w' ⟨rfl, n, rfl⟩))
      go_ret
      exact ⟨ret_int (by first | rfl | simp | (rw [if_neg HH.out]; simp)), BC.out _⟩
  · go_wp2_with (first | (go_at_call 97; with_reducible refine (D1 _).out.mono ?_; rintro e w' ⟨rfl, n, rfl⟩) | (go_at_call 98; with_reducible refine (D2 _).out.mono ?_; rintro e w' ⟨rfl, n, rfl⟩))
    go_ret
    exact ⟨ret_int (by first | rfl | simp), BC.out _⟩
/-- What Winding returns. -/
def wnRes (l : List Pt) (p : Pt) : Value :=
  if ck 3 l = 0 then (if okP p then (if (egs l).any (oeB p) then .tuple #[.int .i64 0, .int .i64 4] else .tuple #[.int .i64 (wnr p (egs l)), .int .i64 0]) else .tuple #[.int .i64 0, .int .i64 1]) else .tuple #[.int .i64 0, .int .i64 (ck 3 l)]
set_option maxRecDepth 100000 in
set_option maxHeartbeats 4000000 in
theorem rWinding_any (q : Option Addr) (cap : Nat) (l : List Pt) (p : Pt) (w : World) (hl : l.length ≤ 140737488355327) (hp : PtsAt w q l) :
    Calls Try.prog 35 #[.slice q l.length cap, p.v] w fun e w' => e = .returned (wnRes l p) ∧ Below w.heap.size w w' := by
  have HP := Lib.hid hp
  obtain ⟨R, hR⟩ : ∃ R, wnRes l p = R := ⟨_, rfl⟩
  have C0 := fun W (hb : Below w.heap.size w W) => rpoints3 q cap l W hl (HP.out.keep hb)
  have C3 := fun W (_ : Below w.heap.size w W) => rValid_any p W
  obtain ⟨c, hc⟩ : ∃ c, ck 3 l = c := ⟨_, rfl⟩
  obtain ⟨v, hpv⟩ : ∃ v, okP p = v := ⟨_, rfl⟩
  rw [hR]
  rw [hc] at C0
  rw [hpv] at C3
  have E0 := fun W hb => Lib.hid (C0 W hb)
  have E3 := fun W hb => Lib.hid (C3 W hb)
  clear C0 C3
  by_cases h0 : c = 0
  · subst h0
    obtain ⟨h3, h200, hall⟩ := ck_len hc
    have hl2 : l.length ≤ 1000 := by omega
    have h02 : 0 < l.length := by omega
    cases v
    · have HR : Hid (R = .tuple #[.int .i64 0, .int .i64 1]) := by unfold Hid; rw [← hR, wnRes, if_pos hc, hpv]; simp
      rw [HR.out]
      clear hR hc hpv hall h3 h200 hl2 h02 hp HR
      go_enter Try.func35, Try.ntmps35
      go_wp2_with fail
      obtain ⟨W0, hW0⟩ : ∃ W0, (w).alloc (.cells #[.int .i64 p.x, .int .i64 p.y] 23) = W0 := ⟨_, rfl⟩
      have S0 : St w W0 [(w.heap.size, 0, .int .i64 p.x), (w.heap.size, 1, .int .i64 p.y)] := by rw [← hW0]; exact ((St.nil w)).box #[.int .i64 p.x, .int .i64 p.y] 23 (w.heap.size) (by simp)
      rw [hW0]
      clear hW0
      obtain ⟨C, hC0, HC, LC, BC, hne⟩ := cls S0
      haveI := hne
      obtain ⟨c0, rfl⟩ : ∃ n : Wd C, W0 = n.w := ⟨⟨_, hC0⟩, rfl⟩
      have fC0 : ∀ n : Wd C, n.w.cell? ⟨w.heap.size, 0, none⟩ = some (.int .i64 p.x) := fun n => (LC.out n).1.2.1
      have fC1 : ∀ n : Wd C, n.w.cell? ⟨w.heap.size, 1, none⟩ = some (.int .i64 p.y) := fun n => (LC.out n).2.1.2.1
      clear S0 hC0
      have D0 := fun n : Wd C => Lib.hid (Calls.quiet_in (C := C) ((E0 n.w (BC.out n)).out.mono fun _ _ h => ⟨h.1, HC.out _ _ n.h h.2⟩))
      have D3 := fun n : Wd C => Lib.hid (Calls.quiet_in (C := C) ((E3 n.w (BC.out n)).out.mono fun _ _ h => ⟨h.1, HC.out _ _ n.h h.2⟩))
      clear E0 E3
      go_wp2_with (first | (go_at_call 92; with_reducible refine (D0 _).out.mono ?_; rintro e w' ⟨rfl, n, rfl⟩) | (go_at_call 18; with_reducible refine (D3 _).out.mono ?_; rintro e w' ⟨rfl, n, rfl⟩))
      go_ret2
      exact ⟨rfl, BC.out _⟩
    · have C1 := fun W (hb : Below w.heap.size w W) => Lib.hid (ralong_any q cap l p W hl2 h02 hall hpv (HP.out.keep hb))
      have C2 := fun W (hb : Below w.heap.size w W) => Lib.hid (rwinding_any q cap l p W hl2 h02 hall hpv (HP.out.keep hb))
      obtain ⟨z, hz⟩ : ∃ z, (egs l).any (oeB p) = z := ⟨_, rfl⟩
      obtain ⟨n, hn⟩ : ∃ n, wnr p (egs l) = n := ⟨_, rfl⟩
      simp only [orB_oeB hall hpv] at C1
      rw [hz] at C1
      rw [hn] at C2
      have HR : Hid (R = if z then .tuple #[.int .i64 0, .int .i64 4] else .tuple #[.int .i64 n, .int .i64 0]) := by unfold Hid; rw [← hR, wnRes, if_pos hc, hpv, hz, hn]; simp
      rw [HR.out]
      clear hz hR hc hpv hall h3 h200 hl2 h02 hp HR hn
      go_enter Try.func35, Try.ntmps35
      go_wp2_with fail
      obtain ⟨W0, hW0⟩ : ∃ W0, (w).alloc (.cells #[.int .i64 p.x, .int .i64 p.y] 23) = W0 := ⟨_, rfl⟩
      have S0 : St w W0 [(w.heap.size, 0, .int .i64 p.x), (w.heap.size, 1, .int .i64 p.y)] := by rw [← hW0]; exact ((St.nil w)).box #[.int .i64 p.x, .int .i64 p.y] 23 (w.heap.size) (by simp)
      rw [hW0]
      clear hW0
      obtain ⟨C, hC0, HC, LC, BC, hne⟩ := cls S0
      haveI := hne
      obtain ⟨c0, rfl⟩ : ∃ n : Wd C, W0 = n.w := ⟨⟨_, hC0⟩, rfl⟩
      have fC0 : ∀ n : Wd C, n.w.cell? ⟨w.heap.size, 0, none⟩ = some (.int .i64 p.x) := fun n => (LC.out n).1.2.1
      have fC1 : ∀ n : Wd C, n.w.cell? ⟨w.heap.size, 1, none⟩ = some (.int .i64 p.y) := fun n => (LC.out n).2.1.2.1
      clear S0 hC0
      have D0 := fun n : Wd C => Lib.hid (Calls.quiet_in (C := C) ((E0 n.w (BC.out n)).out.mono fun _ _ h => ⟨h.1, HC.out _ _ n.h h.2⟩))
      have D1 := fun n : Wd C => Lib.hid (Calls.quiet_in (C := C) ((C1 n.w (BC.out n)).out.mono fun _ _ h => ⟨h.1, HC.out _ _ n.h h.2⟩))
      have D2 := fun n : Wd C => Lib.hid (Calls.quiet_in (C := C) ((C2 n.w (BC.out n)).out.mono fun _ _ h => ⟨h.1, HC.out _ _ n.h h.2⟩))
      have D3 := fun n : Wd C => Lib.hid (Calls.quiet_in (C := C) ((E3 n.w (BC.out n)).out.mono fun _ _ h => ⟨h.1, HC.out _ _ n.h h.2⟩))
      clear E0 E3 C1 C2
      cases z
      · go_wp2_with (first | (go_at_call 92; with_reducible refine (D0 _).out.mono ?_; rintro e w' ⟨rfl, n, rfl⟩) | (go_at_call 18; with_reducible refine (D3 _).out.mono ?_; rintro e w' ⟨rfl, n, rfl⟩) | (go_at_call 97; with_reducible refine (D1 _).out.mono ?_; rintro e w' ⟨rfl, n, rfl⟩) | (go_at_call 98; with_reducible refine (D2 _).out.mono ?_; rintro e w' ⟨rfl, n, rfl⟩))
        go_ret2
        exact ⟨rfl, BC.out _⟩
      · go_wp2_with (first | (go_at_call 92; with_reducible refine (D0 _).out.mono ?_; rintro e w' ⟨rfl, n, rfl⟩) | (go_at_call 18; with_reducible refine (D3 _).out.mono ?_; rintro e w' ⟨rfl, n, rfl⟩) | (go_at_call 97; with_reducible refine (D1 _).out.mono ?_; rintro e w' ⟨rfl, n, rfl⟩))
        go_ret2
        exact ⟨rfl, BC.out _⟩
  · have HR : Hid (R = .tuple #[.int .i64 0, .int .i64 c]) := by unfold Hid; rw [← hR, wnRes, if_neg (by rw [hc]; exact h0), hc]
    rw [HR.out]
    clear hR hc hpv hp HR
    go_enter Try.func35, Try.ntmps35
    go_wp2_with fail
    obtain ⟨W0, hW0⟩ : ∃ W0, (w).alloc (.cells #[.int .i64 p.x, .int .i64 p.y] 23) = W0 := ⟨_, rfl⟩
    have S0 : St w W0 [(w.heap.size, 0, .int .i64 p.x), (w.heap.size, 1, .int .i64 p.y)] := by rw [← hW0]; exact ((St.nil w)).box #[.int .i64 p.x, .int .i64 p.y] 23 (w.heap.size) (by simp)
    rw [hW0]
    clear hW0
    obtain ⟨C, hC0, HC, LC, BC, hne⟩ := cls S0
    haveI := hne
    obtain ⟨c0, rfl⟩ : ∃ n : Wd C, W0 = n.w := ⟨⟨_, hC0⟩, rfl⟩
    have fC0 : ∀ n : Wd C, n.w.cell? ⟨w.heap.size, 0, none⟩ = some (.int .i64 p.x) := fun n => (LC.out n).1.2.1
    have fC1 : ∀ n : Wd C, n.w.cell? ⟨w.heap.size, 1, none⟩ = some (.int .i64 p.y) := fun n => (LC.out n).2.1.2.1
    clear S0 hC0
    have D0 := fun n : Wd C => Lib.hid (Calls.quiet_in (C := C) ((E0 n.w (BC.out n)).out.mono fun _ _ h => ⟨h.1, HC.out _ _ n.h h.2⟩))
    clear E0 E3
    go_wp2_with (first | (go_at_call 92; with_reducible refine (D0 _).out.mono ?_; rintro e w' ⟨rfl, n, rfl⟩))
    go_ret2
    exact ⟨rfl, BC.out _⟩
set_option maxRecDepth 100000 in
set_option maxHeartbeats 4000000 in
theorem Winding_any (q : Option Addr) (cap : Nat) (l : List Pt) (p : Pt) (w : World) (hl : l.length ≤ 140737488355327) (hp : PtsAt w q l) :
    Calls Try.prog 34 #[.slice q l.length cap, p.v] w fun e w' => e = .returned (wnRes l p) ∧ Below w.heap.size w w' := by
  have HP := Lib.hid hp
  obtain ⟨R, hR⟩ : ∃ R, wnRes l p = R := ⟨_, rfl⟩
  have C0 := fun W (hb : Below w.heap.size w W) => checkPolygon_any q cap l W hl (HP.out.keep hb)
  have C3 := fun W (_ : Below w.heap.size w W) => Valid_any p W
  obtain ⟨c, hc⟩ : ∃ c, ck 3 l = c := ⟨_, rfl⟩
  obtain ⟨v, hpv⟩ : ∃ v, okP p = v := ⟨_, rfl⟩
  rw [hR]
  rw [hc] at C0
  rw [hpv] at C3
  have E0 := fun W hb => Lib.hid (C0 W hb)
  have E3 := fun W hb => Lib.hid (C3 W hb)
  clear C0 C3
  by_cases h0 : c = 0
  · subst h0
    obtain ⟨h3, h200, hall⟩ := ck_len hc
    have hl2 : l.length ≤ 1000 := by omega
    have h02 : 0 < l.length := by omega
    cases v
    · have HR : Hid (R = .tuple #[.int .i64 0, .int .i64 1]) := by unfold Hid; rw [← hR, wnRes, if_pos hc, hpv]; simp
      rw [HR.out]
      clear hR hc hpv hall h3 h200 hl2 h02 hp HR
      go_enter Try.func34, Try.ntmps34
      go_wp2_with fail
      obtain ⟨W0, hW0⟩ : ∃ W0, (w).alloc (.cells #[.int .i64 p.x, .int .i64 p.y] 23) = W0 := ⟨_, rfl⟩
      have S0 : St w W0 [(w.heap.size, 0, .int .i64 p.x), (w.heap.size, 1, .int .i64 p.y)] := by rw [← hW0]; exact ((St.nil w)).box #[.int .i64 p.x, .int .i64 p.y] 23 (w.heap.size) (by simp)
      rw [hW0]
      clear hW0
      obtain ⟨C, hC0, HC, LC, BC, hne⟩ := cls S0
      haveI := hne
      obtain ⟨c0, rfl⟩ : ∃ n : Wd C, W0 = n.w := ⟨⟨_, hC0⟩, rfl⟩
      have fC0 : ∀ n : Wd C, n.w.cell? ⟨w.heap.size, 0, none⟩ = some (.int .i64 p.x) := fun n => (LC.out n).1.2.1
      have fC1 : ∀ n : Wd C, n.w.cell? ⟨w.heap.size, 1, none⟩ = some (.int .i64 p.y) := fun n => (LC.out n).2.1.2.1
      clear S0 hC0
      have D0 := fun n : Wd C => Lib.hid (Calls.quiet_in (C := C) ((E0 n.w (BC.out n)).out.mono fun _ _ h => ⟨h.1, HC.out _ _ n.h h.2⟩))
      have D3 := fun n : Wd C => Lib.hid (Calls.quiet_in (C := C) ((E3 n.w (BC.out n)).out.mono fun _ _ h => ⟨h.1, HC.out _ _ n.h h.2⟩))
      clear E0 E3
      go_wp2_with (first | (go_at_call 90; with_reducible refine (D0 _).out.mono ?_; rintro e w' ⟨rfl, n, rfl⟩) | (go_at_call 17; with_reducible refine (D3 _).out.mono ?_; rintro e w' ⟨rfl, n, rfl⟩))
      go_ret2
      exact ⟨rfl, BC.out _⟩
    · have C1 := fun W (hb : Below w.heap.size w W) => Lib.hid (onEdge_any q cap l p W hl2 h02 (HP.out.keep hb))
      have C2 := fun W (hb : Below w.heap.size w W) => Lib.hid (winding_any q cap l p W hl2 h02 (HP.out.keep hb))
      obtain ⟨z, hz⟩ : ∃ z, (egs l).any (oeB p) = z := ⟨_, rfl⟩
      obtain ⟨n, hn⟩ : ∃ n, wnr p (egs l) = n := ⟨_, rfl⟩
      skip
      rw [hz] at C1
      rw [hn] at C2
      have HR : Hid (R = if z then .tuple #[.int .i64 0, .int .i64 4] else .tuple #[.int .i64 n, .int .i64 0]) := by unfold Hid; rw [← hR, wnRes, if_pos hc, hpv, hz, hn]; simp
      rw [HR.out]
      clear hz hR hc hpv hall h3 h200 hl2 h02 hp HR hn
      go_enter Try.func34, Try.ntmps34
      go_wp2_with fail
      obtain ⟨W0, hW0⟩ : ∃ W0, (w).alloc (.cells #[.int .i64 p.x, .int .i64 p.y] 23) = W0 := ⟨_, rfl⟩
      have S0 : St w W0 [(w.heap.size, 0, .int .i64 p.x), (w.heap.size, 1, .int .i64 p.y)] := by rw [← hW0]; exact ((St.nil w)).box #[.int .i64 p.x, .int .i64 p.y] 23 (w.heap.size) (by simp)
      rw [hW0]
      clear hW0
      obtain ⟨C, hC0, HC, LC, BC, hne⟩ := cls S0
      haveI := hne
      obtain ⟨c0, rfl⟩ : ∃ n : Wd C, W0 = n.w := ⟨⟨_, hC0⟩, rfl⟩
      have fC0 : ∀ n : Wd C, n.w.cell? ⟨w.heap.size, 0, none⟩ = some (.int .i64 p.x) := fun n => (LC.out n).1.2.1
      have fC1 : ∀ n : Wd C, n.w.cell? ⟨w.heap.size, 1, none⟩ = some (.int .i64 p.y) := fun n => (LC.out n).2.1.2.1
      clear S0 hC0
      have D0 := fun n : Wd C => Lib.hid (Calls.quiet_in (C := C) ((E0 n.w (BC.out n)).out.mono fun _ _ h => ⟨h.1, HC.out _ _ n.h h.2⟩))
      have D1 := fun n : Wd C => Lib.hid (Calls.quiet_in (C := C) ((C1 n.w (BC.out n)).out.mono fun _ _ h => ⟨h.1, HC.out _ _ n.h h.2⟩))
      have D2 := fun n : Wd C => Lib.hid (Calls.quiet_in (C := C) ((C2 n.w (BC.out n)).out.mono fun _ _ h => ⟨h.1, HC.out _ _ n.h h.2⟩))
      have D3 := fun n : Wd C => Lib.hid (Calls.quiet_in (C := C) ((E3 n.w (BC.out n)).out.mono fun _ _ h => ⟨h.1, HC.out _ _ n.h h.2⟩))
      clear E0 E3 C1 C2
      cases z
      · go_wp2_with (first | (go_at_call 90; with_reducible refine (D0 _).out.mono ?_; rintro e w' ⟨rfl, n, rfl⟩) | (go_at_call 17; with_reducible refine (D3 _).out.mono ?_; rintro e w' ⟨rfl, n, rfl⟩) | (go_at_call 95; with_reducible refine (D1 _).out.mono ?_; rintro e w' ⟨rfl, n, rfl⟩) | (go_at_call 96; with_reducible refine (D2 _).out.mono ?_; rintro e w' ⟨rfl, n, rfl⟩))
        go_ret2
        exact ⟨rfl, BC.out _⟩
      · go_wp2_with (first | (go_at_call 90; with_reducible refine (D0 _).out.mono ?_; rintro e w' ⟨rfl, n, rfl⟩) | (go_at_call 17; with_reducible refine (D3 _).out.mono ?_; rintro e w' ⟨rfl, n, rfl⟩) | (go_at_call 95; with_reducible refine (D1 _).out.mono ?_; rintro e w' ⟨rfl, n, rfl⟩))
        go_ret2
        exact ⟨rfl, BC.out _⟩
  · have HR : Hid (R = .tuple #[.int .i64 0, .int .i64 c]) := by unfold Hid; rw [← hR, wnRes, if_neg (by rw [hc]; exact h0), hc]
    rw [HR.out]
    clear hR hc hpv hp HR
    go_enter Try.func34, Try.ntmps34
    go_wp2_with fail
    obtain ⟨W0, hW0⟩ : ∃ W0, (w).alloc (.cells #[.int .i64 p.x, .int .i64 p.y] 23) = W0 := ⟨_, rfl⟩
    have S0 : St w W0 [(w.heap.size, 0, .int .i64 p.x), (w.heap.size, 1, .int .i64 p.y)] := by rw [← hW0]; exact ((St.nil w)).box #[.int .i64 p.x, .int .i64 p.y] 23 (w.heap.size) (by simp)
    rw [hW0]
    clear hW0
    obtain ⟨C, hC0, HC, LC, BC, hne⟩ := cls S0
    haveI := hne
    obtain ⟨c0, rfl⟩ : ∃ n : Wd C, W0 = n.w := ⟨⟨_, hC0⟩, rfl⟩
    have fC0 : ∀ n : Wd C, n.w.cell? ⟨w.heap.size, 0, none⟩ = some (.int .i64 p.x) := fun n => (LC.out n).1.2.1
    have fC1 : ∀ n : Wd C, n.w.cell? ⟨w.heap.size, 1, none⟩ = some (.int .i64 p.y) := fun n => (LC.out n).2.1.2.1
    clear S0 hC0
    have D0 := fun n : Wd C => Lib.hid (Calls.quiet_in (C := C) ((E0 n.w (BC.out n)).out.mono fun _ _ h => ⟨h.1, HC.out _ _ n.h h.2⟩))
    clear E0 E3
    go_wp2_with (first | (go_at_call 90; with_reducible refine (D0 _).out.mono ?_; rintro e w' ⟨rfl, n, rfl⟩))
    go_ret2
    exact ⟨rfl, BC.out _⟩
set_option maxRecDepth 100000 in
set_option maxHeartbeats 4000000 in
theorem rWhere_any (q : Option Addr) (cap : Nat) (l : List Pt) (p : Pt) (w : World) (hl : l.length ≤ 140737488355327) (hp : PtsAt w q l) :
    Calls Try.prog 37 #[.slice q l.length cap, p.v] w fun e w' => e = .returned (whRes l p) ∧ Below w.heap.size w w' := by
  have HP := Lib.hid hp
  obtain ⟨R, hR⟩ : ∃ R, whRes l p = R := ⟨_, rfl⟩
  have C0 := fun W (hb : Below w.heap.size w W) => rpoints3 q cap l W hl (HP.out.keep hb)
  have C3 := fun W (_ : Below w.heap.size w W) => rValid_any p W
  obtain ⟨c, hc⟩ : ∃ c, ck 3 l = c := ⟨_, rfl⟩
  obtain ⟨v, hpv⟩ : ∃ v, okP p = v := ⟨_, rfl⟩
  rw [hR]
  rw [hc] at C0
  rw [hpv] at C3
  have E0 := fun W hb => Lib.hid (C0 W hb)
  have E3 := fun W hb => Lib.hid (C3 W hb)
  clear C0 C3
  by_cases h0 : c = 0
  · subst h0
    obtain ⟨h3, h200, hall⟩ := ck_len hc
    have hl2 : l.length ≤ 1000 := by omega
    have C1 := fun W (hb : Below w.heap.size w W) => Lib.hid (rsimple_any q cap l W hl2 h3 (HP.out.keep hb))
    obtain ⟨z, hz⟩ : ∃ z, smp l = z := ⟨_, rfl⟩
    rw [hz] at C1
    cases v
    · have HR : Hid (R = .tuple #[.int .i64 0, .int .i64 1]) := by unfold Hid; rw [← hR, whRes, if_pos hc, hpv]; simp
      rw [HR.out]
      clear hz hR hc hpv hall h3 h200 hl2 hp HR
      go_enter Try.func37, Try.ntmps37
      go_wp2_with fail
      obtain ⟨W0, hW0⟩ : ∃ W0, (w).alloc (.cells #[.int .i64 p.x, .int .i64 p.y] 23) = W0 := ⟨_, rfl⟩
      have S0 : St w W0 [(w.heap.size, 0, .int .i64 p.x), (w.heap.size, 1, .int .i64 p.y)] := by rw [← hW0]; exact ((St.nil w)).box #[.int .i64 p.x, .int .i64 p.y] 23 (w.heap.size) (by simp)
      rw [hW0]
      clear hW0
      obtain ⟨C, hC0, HC, LC, BC, hne⟩ := cls S0
      haveI := hne
      obtain ⟨c0, rfl⟩ : ∃ n : Wd C, W0 = n.w := ⟨⟨_, hC0⟩, rfl⟩
      have fC0 : ∀ n : Wd C, n.w.cell? ⟨w.heap.size, 0, none⟩ = some (.int .i64 p.x) := fun n => (LC.out n).1.2.1
      have fC1 : ∀ n : Wd C, n.w.cell? ⟨w.heap.size, 1, none⟩ = some (.int .i64 p.y) := fun n => (LC.out n).2.1.2.1
      clear S0 hC0
      have D0 := fun n : Wd C => Lib.hid (Calls.quiet_in (C := C) ((E0 n.w (BC.out n)).out.mono fun _ _ h => ⟨h.1, HC.out _ _ n.h h.2⟩))
      have D3 := fun n : Wd C => Lib.hid (Calls.quiet_in (C := C) ((E3 n.w (BC.out n)).out.mono fun _ _ h => ⟨h.1, HC.out _ _ n.h h.2⟩))
      clear E0 E3 C1
      go_wp2_with (first | (go_at_call 92; with_reducible refine (D0 _).out.mono ?_; rintro e w' ⟨rfl, n, rfl⟩) | (go_at_call 18; with_reducible refine (D3 _).out.mono ?_; rintro e w' ⟨rfl, n, rfl⟩))
      go_ret2
      exact ⟨rfl, BC.out _⟩
    · have C2 := fun W (hb : Below w.heap.size w W) => Lib.hid (rwhere_any q cap l p W hl2 (by omega) hall hpv (HP.out.keep hb))
      obtain ⟨n, hn⟩ : ∃ n, whr l p = n := ⟨_, rfl⟩
      rw [hn] at C2
      have HR : Hid (R = if z then .tuple #[.int .i64 n, .int .i64 0] else .tuple #[.int .i64 0, .int .i64 4]) := by unfold Hid; rw [← hR, whRes, if_pos hc, hpv, hz, hn]; simp
      rw [HR.out]
      clear hz hR hc hpv hall h3 h200 hl2 hp HR hn
      go_enter Try.func37, Try.ntmps37
      go_wp2_with fail
      obtain ⟨W0, hW0⟩ : ∃ W0, (w).alloc (.cells #[.int .i64 p.x, .int .i64 p.y] 23) = W0 := ⟨_, rfl⟩
      have S0 : St w W0 [(w.heap.size, 0, .int .i64 p.x), (w.heap.size, 1, .int .i64 p.y)] := by rw [← hW0]; exact ((St.nil w)).box #[.int .i64 p.x, .int .i64 p.y] 23 (w.heap.size) (by simp)
      rw [hW0]
      clear hW0
      obtain ⟨C, hC0, HC, LC, BC, hne⟩ := cls S0
      haveI := hne
      obtain ⟨c0, rfl⟩ : ∃ n : Wd C, W0 = n.w := ⟨⟨_, hC0⟩, rfl⟩
      have fC0 : ∀ n : Wd C, n.w.cell? ⟨w.heap.size, 0, none⟩ = some (.int .i64 p.x) := fun n => (LC.out n).1.2.1
      have fC1 : ∀ n : Wd C, n.w.cell? ⟨w.heap.size, 1, none⟩ = some (.int .i64 p.y) := fun n => (LC.out n).2.1.2.1
      clear S0 hC0
      have D0 := fun n : Wd C => Lib.hid (Calls.quiet_in (C := C) ((E0 n.w (BC.out n)).out.mono fun _ _ h => ⟨h.1, HC.out _ _ n.h h.2⟩))
      have D1 := fun n : Wd C => Lib.hid (Calls.quiet_in (C := C) ((C1 n.w (BC.out n)).out.mono fun _ _ h => ⟨h.1, HC.out _ _ n.h h.2⟩))
      have D2 := fun n : Wd C => Lib.hid (Calls.quiet_in (C := C) ((C2 n.w (BC.out n)).out.mono fun _ _ h => ⟨h.1, HC.out _ _ n.h h.2⟩))
      have D3 := fun n : Wd C => Lib.hid (Calls.quiet_in (C := C) ((E3 n.w (BC.out n)).out.mono fun _ _ h => ⟨h.1, HC.out _ _ n.h h.2⟩))
      clear E0 E3 C1 C2
      cases z
      · go_wp2_with (first | (go_at_call 92; with_reducible refine (D0 _).out.mono ?_; rintro e w' ⟨rfl, n, rfl⟩) | (go_at_call 18; with_reducible refine (D3 _).out.mono ?_; rintro e w' ⟨rfl, n, rfl⟩) | (go_at_call 94; with_reducible refine (D1 _).out.mono ?_; rintro e w' ⟨rfl, n, rfl⟩))
        go_ret2
        exact ⟨rfl, BC.out _⟩
      · go_wp2_with (first | (go_at_call 92; with_reducible refine (D0 _).out.mono ?_; rintro e w' ⟨rfl, n, rfl⟩) | (go_at_call 18; with_reducible refine (D3 _).out.mono ?_; rintro e w' ⟨rfl, n, rfl⟩) | (go_at_call 94; with_reducible refine (D1 _).out.mono ?_; rintro e w' ⟨rfl, n, rfl⟩) | (go_at_call 100; with_reducible refine (D2 _).out.mono ?_; rintro e w' ⟨rfl, n, rfl⟩))
        go_ret2
        exact ⟨rfl, BC.out _⟩
  · have HR : Hid (R = .tuple #[.int .i64 0, .int .i64 c]) := by unfold Hid; rw [← hR, whRes, if_neg (by rw [hc]; exact h0), hc]
    rw [HR.out]
    clear hR hc hpv hp HR
    go_enter Try.func37, Try.ntmps37
    go_wp2_with fail
    obtain ⟨W0, hW0⟩ : ∃ W0, (w).alloc (.cells #[.int .i64 p.x, .int .i64 p.y] 23) = W0 := ⟨_, rfl⟩
    have S0 : St w W0 [(w.heap.size, 0, .int .i64 p.x), (w.heap.size, 1, .int .i64 p.y)] := by rw [← hW0]; exact ((St.nil w)).box #[.int .i64 p.x, .int .i64 p.y] 23 (w.heap.size) (by simp)
    rw [hW0]
    clear hW0
    obtain ⟨C, hC0, HC, LC, BC, hne⟩ := cls S0
    haveI := hne
    obtain ⟨c0, rfl⟩ : ∃ n : Wd C, W0 = n.w := ⟨⟨_, hC0⟩, rfl⟩
    have fC0 : ∀ n : Wd C, n.w.cell? ⟨w.heap.size, 0, none⟩ = some (.int .i64 p.x) := fun n => (LC.out n).1.2.1
    have fC1 : ∀ n : Wd C, n.w.cell? ⟨w.heap.size, 1, none⟩ = some (.int .i64 p.y) := fun n => (LC.out n).2.1.2.1
    clear S0 hC0
    have D0 := fun n : Wd C => Lib.hid (Calls.quiet_in (C := C) ((E0 n.w (BC.out n)).out.mono fun _ _ h => ⟨h.1, HC.out _ _ n.h h.2⟩))
    clear E0 E3
    go_wp2_with (first | (go_at_call 92; with_reducible refine (D0 _).out.mono ?_; rintro e w' ⟨rfl, n, rfl⟩))
    go_ret2
    exact ⟨rfl, BC.out _⟩
end Go.Proofs.Ytdefpcjlbganpaa
