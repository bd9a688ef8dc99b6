import Derived.Test.YtcejmfgbfdhflaaGreatFd
import Derived.Test.YtcejmfgbfdhflaaGreatEg
import Derived.Test.YtcejmfgbfdhflaaGreatEh
import Derived.WalkKit
import Derived.LoopTactic
import Derived.WalkSpells
import Derived.WalkLawsBesides
import Derived.Lib.Hide
import Derived.BigQuiet
import Derived.IntWalk
import Derived.Deep.DeepMust
import Derived.WalkSmall
import Derived.StillTailTactics
import Derived.Deep.RegionLaw
import Derived.Deep.RegionHeld3
import Derived.Deep.QuietTactic
namespace Go.Proofs.YtcejmfgbfdhflaaGreat
open Go.RowKit Go.BigFrame Go.Sort
attribute [local go_sem] World.cell?_alloc_some
set_option maxHeartbeats 400000 in
theorem rinside_any (lo hi a b : Int) (w : World) : Calls Tryz.prog 143 #[spv lo hi, .int .i64 a, .int .i64 b] w fun e w' => e = .returned (.bool (insB lo hi a b)) ∧ Gr w w' := by
  go_enter Tryz.func143, Tryz.ntmps143
  go_wp2_with fail
  all_goals (go_ret; exact ⟨ret_bool (by simp_all [insB]; try omega), Gr.al _ _⟩)
/-- The error of a chain and years. -/
def yrE (x : WA) (ch lo hi : Int) : Int :=
  if chk x ≠ 0 then chk x else if (chF x.cs ch).isSome = false then 5 else if insB lo hi (chOr x.cs ch).year 4000 = false then 1 else if 400 < hi - lo + 1 then 2 else 0
theorem alE_yrE {x : WA} {ch lo hi : Int} (h : yrE x ch lo hi ≠ 0) : alE x ch lo hi = yrE x ch lo hi := by
  unfold alE yrE at *
  by_cases h1 : chk x ≠ 0
  · rw [if_pos h1, if_pos h1]
  · rw [if_neg h1] at h ⊢; rw [if_neg h1]
    by_cases h2 : (chF x.cs ch).isSome = false
    · rw [if_pos h2, if_pos h2]
    · rw [if_neg h2] at h ⊢; rw [if_neg h2]
      by_cases h3 : insB lo hi (chOr x.cs ch).year 4000 = false
      · rw [if_pos h3, if_pos h3]
      · rw [if_neg h3] at h ⊢; rw [if_neg h3]
        by_cases h4 : 400 < hi - lo + 1
        · rw [if_pos h4, if_pos h4]
        · rw [if_neg h4] at h; exact absurd rfl h
theorem yrE_zero {x : WA} {ch lo hi : Int} (h : yrE x ch lo hi = 0) : OkW x ∧ OkC x (chOr x.cs ch) ∧ ((chOr x.cs ch).year ≤ lo ∧ lo ≤ hi ∧ hi ≤ 4000 ∧ 0 ≤ lo ∧ hi - lo + 1 ≤ 400) ∧ chk x = 0 ∧ chF x.cs ch = some (chOr x.cs ch) ∧
    alE x ch lo hi = if badTo (spA x (chOr x.cs ch)) lo hi (tsO x (chOr x.cs ch)).length = true then 9 else 0 := by
  have hA : alE x ch lo hi = if badTo (spA x (chOr x.cs ch)) lo hi (tsO x (chOr x.cs ch)).length = true then 9 else 0 := by
    unfold yrE at h
    unfold alE
    by_cases h1 : chk x ≠ 0
    · rw [if_pos h1] at h; exact absurd h h1
    · rw [if_neg h1] at h ⊢
      by_cases h2 : (chF x.cs ch).isSome = false
      · rw [if_pos h2] at h; cases h
      · rw [if_neg h2] at h ⊢
        by_cases h3 : insB lo hi (chOr x.cs ch).year 4000 = false
        · rw [if_pos h3] at h; cases h
        · rw [if_neg h3] at h ⊢
          by_cases h4 : 400 < hi - lo + 1
          · rw [if_pos h4] at h; cases h
          · rw [if_neg h4]
  unfold yrE at h
  by_cases h1 : chk x = 0
  · rw [if_neg (by simpa using h1)] at h
    cases h2 : chF x.cs ch with
    | none => rw [h2] at h; simp at h
    | some c =>
      have hc := chOr_some h2
      rw [h2] at h
      rw [if_neg (by simp)] at h
      rw [hc] at h hA ⊢
      have hw := okW_of h1
      have hkc := okC_of hw h2
      have hk := okCh_iff.1 hkc.ok
      cases h3 : insB lo hi c.year 4000 with
      | false => rw [h3] at h; simp at h
      | true =>
        rw [h3, if_neg (by simp)] at h
        have h4 := insB_iff.1 h3
        by_cases h5 : 400 < hi - lo + 1
        · rw [if_pos h5] at h; cases h
        · exact ⟨hw, hkc, ⟨h4.2.1, h4.1, h4.2.2, by omega, by omega⟩, h1, rfl, hA⟩
  · rw [if_pos h1] at h; exact absurd h h1
set_option maxRecDepth 100000 in
set_option maxHeartbeats 6400000 in
theorem years_any (x : WA) (ch lo hi : Int) (w : World) (h : x.At w) :
    Calls Tryz.prog 181 #[x.v, .int .i64 ch, spv lo hi] w fun e w' => e = .returned (.int .i64 (yrE x ch lo hi)) ∧ Below w.heap.size w w' := by
  have K1 := fun W (hb : Below w.heap.size w W) => rCheck_any x W (h.keep hb)
  have K2 := fun W (hb : Below w.heap.size w W) => chainAtD_any x ch W (h.keep hb)
  have H := Lib.hid h.cs
  have HSOME : Hid (∀ c, chF x.cs ch = some c → ∃ k : Nat, ∃ h : k < x.cs.length, atI x.cs ch = (k : Int) ∧ x.cs[k] = c) := fun c hc => atI_some hc
  have HNONE : Hid ((chF x.cs ch).isSome = false → atI x.cs ch = -1) := atI_none
  have HY : Hid (chk x = 0 → ∀ c, chF x.cs ch = some c → 0 ≤ c.year) := fun e c hc => (okCh_iff.1 (okC_of (okW_of e) hc).ok).2.1.1
  have HC0 : Hid (∀ c, chF x.cs ch = some c → chOr x.cs ch = c) := fun c hc => chOr_some hc
  obtain ⟨E, hE⟩ : ∃ E, yrE x ch lo hi = E := ⟨_, rfl⟩
  rw [hE]
  unfold yrE at hE
  obtain ⟨k, hk⟩ : ∃ E, chk x = E := ⟨_, rfl⟩
  obtain ⟨m, hm⟩ : ∃ E, atI x.cs ch = E := ⟨_, rfl⟩
  obtain ⟨o, ho⟩ : ∃ o, chF x.cs ch = o := ⟨_, rfl⟩
  obtain ⟨g, hg⟩ : ∃ o, chOr x.cs ch = o := ⟨_, rfl⟩
  rw [hk, ho, hg] at hE
  rw [hm, ho] at HNONE
  rw [hk] at HY
  simp only [hm, ho, hg] at HSOME HY HC0
  simp only [hk] at K1
  simp only [hm] at K2
  have HE := Lib.hid hE
  clear h hE hk hm ho hg
  obtain ⟨cs, ps, rs, q1, q2, q3, c1, c2, c3⟩ := x
  simp only [WA.v] at *
  go_enter Tryz.func181, Tryz.ntmps181
  go_upto_region 1 with fail
  obtain ⟨W0, hW0⟩ : ∃ W0, ((w).alloc (.cells #[.slice q1 cs.length c1, .slice q2 ps.length c2, .slice q3 rs.length c3] 26)).alloc (.cells #[.int .i64 lo, .int .i64 hi] 30) = W0 := ⟨_, rfl⟩
  have S0 : St w W0 [(w.heap.size + 1, 0, .int .i64 lo), (w.heap.size + 1, 1, .int .i64 hi), (w.heap.size, 0, .slice q1 cs.length c1), (w.heap.size, 1, .slice q2 ps.length c2), (w.heap.size, 2, .slice q3 rs.length c3)] := by rw [← hW0]; exact (((St.nil w)).box #[.slice q1 cs.length c1, .slice q2 ps.length c2, .slice q3 rs.length c3] 26 (w.heap.size) (by simp)).box #[.int .i64 lo, .int .i64 hi] 30 (w.heap.size + 1) (by simp)
  rw [hW0]
  clear hW0
  obtain ⟨C, hC0, HC, LC, BC, hne⟩ := cls S0
  haveI := hne
  obtain ⟨c0, rfl⟩ : ∃ n : Wd C, W0 = n.w := ⟨⟨_, hC0⟩, rfl⟩
  have fC0 : ∀ n : Wd C, n.w.cell? ⟨w.heap.size + 1, 0, none⟩ = some (.int .i64 lo) := fun n => (LC.out n).1.2.1
  have fC1 : ∀ n : Wd C, n.w.cell? ⟨w.heap.size + 1, 1, none⟩ = some (.int .i64 hi) := fun n => (LC.out n).2.1.2.1
  have fC2 : ∀ n : Wd C, n.w.cell? ⟨w.heap.size, 0, none⟩ = some (.slice q1 cs.length c1) := fun n => (LC.out n).2.2.1.2.1
  have fC3 : ∀ n : Wd C, n.w.cell? ⟨w.heap.size, 1, none⟩ = some (.slice q2 ps.length c2) := fun n => (LC.out n).2.2.2.1.2.1
  have fC4 : ∀ n : Wd C, n.w.cell? ⟨w.heap.size, 2, none⟩ = some (.slice q3 rs.length c3) := fun n => (LC.out n).2.2.2.2.1.2.1
  clear S0 hC0
  have D1 := cinL HC BC K1
  have D2 := cinL HC BC K2
  clear K1 K2
  by_cases hk0 : k = 0
  · subst hk0
    rw [if_neg (by simp)] at HE
    cases o with
    | none =>
      have hm1 := HNONE.out rfl
      subst hm1
      rw [if_pos (by rfl : (none : Option Ch).isSome = false)] at HE
      obtain rfl : 5 = E := HE.out
      go_wp2_with (first | first | (go_at_call 24; with_reducible refine (D1 _).out.mono ?_; rintro e w' ⟨rfl, n, rfl⟩) | (go_at_call 71; with_reducible refine (D2 _).out.mono ?_; rintro e w' ⟨rfl, n, rfl⟩))
      go_ret
      exact ⟨rfl, BC.out _⟩
    | some c =>
      obtain ⟨j, hj, hmj, hcj⟩ := HSOME.out c rfl
      obtain rfl := HC0.out c rfl
      have hcy := HY.out (by first | rfl | trivial) g rfl
      rcases H.out with h0 | ⟨b, o, he, hb, hcc⟩
      · exact absurd hj (by simp [show cs = [] from h0])
      obtain rfl : q1 = some ⟨b, o, none⟩ := he
      obtain ⟨-, d2, -⟩ := hcc j cs[j] (List.getElem?_eq_getElem hj)
      simp only [show cs[j] = g from hcj] at d2
      obtain ⟨i1, i2, i3, i4, i5⟩ := g
      simp only at d2 hcy HE
      have R1 := fun W => Calls.be (rinside_any lo hi i2 4000 W)
      obtain ⟨z, hz⟩ : ∃ b, insB lo hi i2 4000 = b := ⟨_, rfl⟩
      simp only [hz] at R1 HE
      rw [if_neg (by simp)] at HE
      have fY1 : ∀ n : Wd C, n.w.cell? ⟨b, o + j * 5 + 1, none⟩ = some (.int .i64 i2) := fun n => ((BC.out n).cell (p := ⟨b, o + j * 5 + 1, none⟩) hb).trans d2
      have hj2 : (j : Int) < (cs.length : Int) := by omega
      have hj0 : ¬ (j : Int) < 0 := by omega
      subst hmj
      have D3 := cin HC R1
      have HZ := Lib.hid hz
      clear d2 hcc hb hcj hz R1 HSOME HNONE HY HC0
      go_upto_region 7 with (first | first | (go_at_call 24; with_reducible refine (D1 _).out.mono ?_; rintro e w' ⟨rfl, n, rfl⟩) | (go_at_call 71; with_reducible refine (D2 _).out.mono ?_; rintro e w' ⟨rfl, n, rfl⟩))
      refine wp_region_in C (HC.out _ _ (Wd.h _) (below_dr _)) (by kernel_rfl) (by kernel_rfl) ?_
      repeat (go_big_quiet_step (first | with_reducible exact (D3 _).out))
      refine wpQuiet_nil ?_
      intro wx hwx
      obtain ⟨n, rfl⟩ : ∃ n : Wd C, wx = n.w := ⟨⟨wx, hwx⟩, rfl⟩
      clear hwx
      cases z
      · rw [if_pos rfl] at HE
        obtain rfl : 1 = E := HE.out
        go_wp2_with fail
        go_ret
        exact ⟨rfl, BC.out _⟩
      · rw [if_neg (by simp)] at HE
        obtain ⟨y1, y2, y3⟩ := insB_iff.1 HZ.out
        have hw1 : wrap64 (hi - lo) = hi - lo := w64 (by omega)
        have hw2 : wrap64 (hi - lo + 1) = hi - lo + 1 := w64 (by omega)
        by_cases hw4 : 400 < hi - lo + 1
        · rw [if_pos hw4] at HE
          obtain rfl : 2 = E := HE.out
          go_wp2_with fail
          go_ret
          exact ⟨rfl, BC.out _⟩
        · rw [if_neg hw4] at HE
          obtain rfl : 0 = E := HE.out
          go_wp2_with fail
          go_ret
          exact ⟨rfl, BC.out _⟩
  · have hb : (k != 0) = true := by simpa using hk0
    obtain rfl : k = E := by have := HE.out; rwa [if_pos hk0] at this
    clear hk0
    go_wp2_with (first | first | (go_at_call 24; with_reducible refine (D1 _).out.mono ?_; rintro e w' ⟨rfl, n, rfl⟩))
    go_ret
    exact ⟨rfl, BC.out _⟩
end Go.Proofs.YtcejmfgbfdhflaaGreat
