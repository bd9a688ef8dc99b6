import Derived.Test.YtcejmfgbfdhflaaGreatDn
import Derived.WalkKit
import Derived.LoopTactic
import Derived.WalkSpells
import Derived.WalkLawsBesides
import Derived.Lib.Hide
import Derived.BigQuiet
import Derived.IntWalk
import Derived.Deep.DeepMust
import Derived.WalkSmall
import Derived.StillTailTactics
import Derived.Deep.RegionLaw
import Derived.Deep.RegionHeld3
import Derived.Deep.QuietTactic
namespace Go.Proofs.YtcejmfgbfdhflaaGreat
open Go.RowKit Go.Shelf Go.BigFrame Go.Sort
attribute [local go_sem] World.cell?_alloc_some
/-- Things of the specification lie there. -/
def T4At (W : World) (q : Option Addr) (l : List Th) : Prop :=
  l = [] ∨ ∃ b, q = some ⟨b, 0, none⟩ ∧ b < W.heap.size ∧ ∀ (j : Nat) (t : Th), l[j]? = some t → W.cell? ⟨b, j * 4, none⟩ = some (.int .i64 t.num) ∧ W.cell? ⟨b, j * 4 + 1, none⟩ = some (.int .i64 t.year) ∧ W.cell? ⟨b, j * 4 + 2, none⟩ = some (.int .i64 t.lo) ∧ W.cell? ⟨b, j * 4 + 3, none⟩ = some (.int .i64 t.hi)
theorem T4At.keep {W W' : World} {q : Option Addr} {l : List Th} (h : T4At W q l) (hb : Below W.heap.size W W') : T4At W' q l := by
  rcases h with rfl | ⟨b, rfl, hlt, hc⟩
  · exact .inl rfl
  · refine .inr ⟨b, rfl, Nat.lt_of_lt_of_le hlt hb.size, fun j q hq => ?_⟩
    rw [hb.cell (p := ⟨b, j * 4, none⟩) hlt, hb.cell (p := ⟨b, j * 4 + 1, none⟩) hlt, hb.cell (p := ⟨b, j * 4 + 2, none⟩) hlt, hb.cell (p := ⟨b, j * 4 + 3, none⟩) hlt]
    exact hc j q hq
theorem OTh.shape {W : World} {B : Nat} {v : Value} {l : List Th} (h : OTh W B v l) : ∃ q cap, v = .slice q l.length cap ∧ T4At W q l := by
  obtain ⟨h1, ⟨rfl, h2⟩ | ⟨g, cap, cur, rfl, hB, hc, h3, h4, h5, h6⟩⟩ := h
  · exact ⟨none, 0, by rw [h2], .inl (List.length_eq_zero_iff.1 h2)⟩
  · refine ⟨_, cap, rfl, .inr ⟨g, rfl, (Array.getElem?_eq_some_iff.1 hc).1, fun j t hj => ?_⟩⟩
    have hlt : j < l.length := (List.getElem?_eq_some_iff.1 hj).1
    obtain ⟨a0, a1, a2, a3⟩ := flat4_get hj
    rw [← h6, List.getElem?_take_of_lt (by omega)] at a0 a1 a2 a3
    exact ⟨by simpa [World.cell?, hc] using a0, by simpa [World.cell?, hc] using a1, by simpa [World.cell?, hc] using a2, by simpa [World.cell?, hc] using a3⟩
theorem getD_of {α : Type} {l : List α} {i : Nat} {d : α} (h : i < l.length) : l[i]? = some (l.getD i d) := by simp [List.getD, h]
set_option maxRecDepth 100000 in
set_option maxHeartbeats 12800000 in
theorem rCheck_any (x : WA) (w : World) (h : x.At w) : Calls Tryz.prog 24 #[x.v] w fun e w' => e = .returned (.int .i64 (chk x)) ∧ Below w.heap.size w w' := by
  have K2 := fun W (hb : Below w.heap.size w W) => rchains_any x.q1 x.c1 x.cs W h.n1 (h.cs.keep hb)
  have K3 := fun W (hb : Below w.heap.size w W) => things_any x W (h.keep hb)
  have K4 : chkCs [] x.cs = 0 → ∀ (t : Th) (ch first : Int), 0 ≤ first ∧ first ≤ 1 → ∀ W, Below w.heap.size w W → Calls Tryz.prog 83 #[x.v, .agg #[.int .i64 t.num, .int .i64 t.year, .int .i64 t.lo, .int .i64 t.hi], .int .i64 ch, .int .i64 first] W fun e w' => e = .returned (.bool (fitB x.cs ch first t)) ∧ Below W.heap.size W w' := fun hz t ch first hf W hb => fits_any x t ch first W (h.keep hb) hf (fun c hc => (okCh_iff.1 (chkCs_ok _ _ hz c hc)).2.1)
  have n2 := h.n2
  have n3 := h.n3
  obtain ⟨E, hE⟩ : ∃ E, chk x = E := ⟨_, rfl⟩
  obtain ⟨X, hX⟩ : ∃ X, x = X := ⟨_, rfl⟩
  have HX := Lib.hid hX
  have HE := Lib.hid hE
  rw [hE]
  obtain ⟨e1, h1⟩ : ∃ b, chkCs [] x.cs = b := ⟨_, rfl⟩
  simp only [h1] at K2 K4
  have H1 := Lib.hid h1
  have HK4 := Lib.hid K4
  have hT : thL X = x.ps.map Pf.th ++ x.rs.map Pf.th := by rw [← hX]; rfl
  have hC : chL X = x.ps.map (·.ch) ++ x.rs.map (·.ch) := by rw [← hX]; rfl
  rw [← hT, ← hC] at K3
  have hLT : (thL X).length = x.ps.length + x.rs.length := by rw [hT]; simp
  have hLC : (chL X).length = x.ps.length + x.rs.length := by rw [hC]; simp
  have hXp : X.ps.length = x.ps.length := by rw [hX]
  have hXr : X.rs.length = x.rs.length := by rw [hX]
  have hXc : X.cs = x.cs := by rw [hX]
  have HL := Lib.hid (And.intro hLT (And.intro hLC (And.intro hXp (And.intro hXr hXc))))
  have HE0 : Hid ((decide (20 < x.cs.length) || decide (60 < x.ps.length + x.rs.length)) = true → E = 2) := fun e => by rw [← hE, chk, if_pos e]
  have HE1 : Hid ((decide (20 < x.cs.length) || decide (60 < x.ps.length + x.rs.length)) = false → e1 ≠ 0 → E = e1) := fun e e' => by rw [← hE, chk, if_neg (by simp [e]), h1, if_pos e']
  have HE2 : Hid ((decide (20 < x.cs.length) || decide (60 < x.ps.length + x.rs.length)) = false → e1 = 0 → restE X 0 = E) := fun e e' => by rw [← hE, ← hX]; exact (rest_start e (h1.trans e')).symm
  clear h hE h1 hX hT hC hLT hLC K4 hXp hXr hXc HE HX
  obtain ⟨cs, ps, rs, q1, q2, q3, c1, c2, c3⟩ := x
  simp only [WA.v] at *
  have hw : wrap64 ((ps.length : Int) + (rs.length : Int)) = (ps.length : Int) + (rs.length : Int) := w64 (by omega)
  go_enter Tryz.func24, Tryz.ntmps24
  go_upto_region 1 with fail
  obtain ⟨W0, hW0⟩ : ∃ W0, (w).alloc (.cells #[.slice q1 cs.length c1, .slice q2 ps.length c2, .slice q3 rs.length c3] 26) = W0 := ⟨_, rfl⟩
  have S0 : St w W0 [(w.heap.size, 0, .slice q1 cs.length c1), (w.heap.size, 1, .slice q2 ps.length c2), (w.heap.size, 2, .slice q3 rs.length c3)] := by rw [← hW0]; exact ((St.nil w)).box #[.slice q1 cs.length c1, .slice q2 ps.length c2, .slice q3 rs.length c3] 26 (w.heap.size) (by simp)
  rw [hW0]
  clear hW0
  obtain ⟨C, hC0, HC, LC, BC, hne⟩ := cls S0
  haveI := hne
  obtain ⟨c0, rfl⟩ : ∃ n : Wd C, W0 = n.w := ⟨⟨_, hC0⟩, rfl⟩
  have fC0 : ∀ n : Wd C, n.w.cell? ⟨w.heap.size, 0, none⟩ = some (.slice q1 cs.length c1) := fun n => (LC.out n).1.2.1
  have fC1 : ∀ n : Wd C, n.w.cell? ⟨w.heap.size, 1, none⟩ = some (.slice q2 ps.length c2) := fun n => (LC.out n).2.1.2.1
  have fC2 : ∀ n : Wd C, n.w.cell? ⟨w.heap.size, 2, none⟩ = some (.slice q3 rs.length c3) := fun n => (LC.out n).2.2.1.2.1
  clear S0 hC0
  have D2 := cinL HC BC K2
  clear K2
  by_cases h20 : 20 < cs.length
  · obtain rfl : 2 = E := (HE0.out (by simp [h20])).symm
    have h20' : decide ((20 : Int) < (cs.length : Int)) = true := by simp; omega
    go_wp2_with fail
    go_ret
    exact ⟨rfl, BC.out _⟩
  have h20' : decide ((20 : Int) < (cs.length : Int)) = false := by simp; omega
  by_cases h60 : 60 < ps.length + rs.length
  · obtain rfl : 2 = E := (HE0.out (by simp [h60])).symm
    have h60' : decide ((60 : Int) < (ps.length : Int) + (rs.length : Int)) = true := by simp; omega
    go_wp2_with fail
    go_ret
    exact ⟨rfl, BC.out _⟩
  have h60' : decide ((60 : Int) < (ps.length : Int) + (rs.length : Int)) = false := by simp; omega
  have HG : Hid ((decide (20 < cs.length) || decide (60 < ps.length + rs.length)) = false) := by unfold Hid; simp; omega
  by_cases he : e1 = 0
  · subst he
    have HE3 : Hid (restE X 0 = E) := HE2.out HG.out rfl
    clear HE0 HE1 HE2 h20 h60
    go_upto_region 6 with (first | first | (go_at_call 81; with_reducible refine (D2 _).out.mono ?_; rintro e w' ⟨rfl, n, rfl⟩))
    clear h20' h60' HG
    go_wp2_with fail
    refine (K3 _ (BC.out _)).mono ?_
    rintro e w2 ⟨⟨v1, v2, rfl, hO, hI⟩, hg⟩
    have S1 : St w2 w2 [(w.heap.size, 0, .slice q1 cs.length c1), (w.heap.size, 1, .slice q2 ps.length c2), (w.heap.size, 2, .slice q3 rs.length c3)] := ⟨Below.refl _ _, (LC.out _).keep hg⟩
    have hW : Hid (Below w.heap.size w w2) := (BC.out _).trans (hg.mono (BC.out _).size)
    clear hg K3 D2 HC LC BC fC0 fC1 fC2 hne
    obtain ⟨qt, ct, rfl, hT⟩ := OTh.shape hO
    obtain ⟨qi, ci, rfl, hI2, hci, hcm⟩ := OI.shape hI
    have HT := Lib.hid hT
    have HI := Lib.hid hI2
    rw [HL.out.1, HL.out.2.1]
    clear hT hI2 hO hI hci hcm
    obtain ⟨D, hC0, HD, LD, BD, hne, FD⟩ := clsF S1
    haveI := hne
    obtain ⟨d0, rfl⟩ : ∃ n : Wd D, w2 = n.w := ⟨⟨_, hC0⟩, rfl⟩
    have fD0 : ∀ n : Wd D, n.w.cell? ⟨w.heap.size, 0, none⟩ = some (.slice q1 cs.length c1) := fun n => (LD.out n).1.2.1
    have fD1 : ∀ n : Wd D, n.w.cell? ⟨w.heap.size, 1, none⟩ = some (.slice q2 ps.length c2) := fun n => (LD.out n).2.1.2.1
    have fD2 : ∀ n : Wd D, n.w.cell? ⟨w.heap.size, 2, none⟩ = some (.slice q3 rs.length c3) := fun n => (LD.out n).2.2.1.2.1
    clear S1 hC0
    have HW : Hid (∀ n : Wd D, Below w.heap.size w n.w) := fun n => hW.out.trans ((BD.out n).mono hW.out.size)
    go_wp2_with fail
    clear fD0 fD1 fD2
    go_loopw [6] (fun i wr => ∃ (k : Nat) (n : Wd D), wr = n.w ∧ i = .int .i64 (k : Int) ∧ k ≤ ps.length + rs.length ∧ Hid (restE X k = E)) (fun i wr => ps.length + rs.length - (intOf i).toNat)
    case atStart => exact ⟨0, d0, rfl, rfl, Nat.zero_le _, HE3⟩
    case round =>
      obtain ⟨k, n, rfl, rfl, hk, HP⟩ := hrel
      by_cases hlt : k < ps.length + rs.length
      · have hkX : k < X.ps.length + X.rs.length := by have := HL.out; omega
        have hS := rest_step hkX
        have htl := getD_of (l := thL X) (d := dTh) (i := k) (by have := HL.out.1; omega)
        have hcl := getD_of (l := chL X) (d := 0) (i := k) (by have := HL.out.2.1; omega)
        rcases HT.out with h0 | ⟨b4, rfl, hb4, hc4⟩
        · rw [h0] at htl; simp at htl
        rcases HI.out with h0 | ⟨bi, oi, rfl, hbi, hci⟩
        · rw [h0] at hcl; simp at hcl
        obtain ⟨a0, a1, a2, a3⟩ := hc4 k _ htl
        have a4 := hci k _ hcl
        have HC4 := Lib.hid (And.intro hb4 hc4)
        have HCI := Lib.hid (And.intro hbi hci)
        obtain ⟨t, ht⟩ : ∃ t, (thL X).getD k dTh = t := ⟨_, rfl⟩
        obtain ⟨ch, hch⟩ : ∃ t, (chL X).getD k 0 = t := ⟨_, rfl⟩
        obtain ⟨f, hf⟩ : ∃ t, fst1 X k = t := ⟨_, rfl⟩
        have hf01 : 0 ≤ f ∧ f ≤ 1 := by rw [← hf, fst1]; split <;> decide
        have HF : Hid (fst1 X k = f) := hf
        have HTK := Lib.hid ht
        have HCK := Lib.hid hch
        rw [ht] at a0 a1 a2 a3 hS
        rw [hch] at a4 hS
        rw [hf, HL.out.2.2.2.2] at hS
        obtain ⟨z, hz⟩ : ∃ z, fitB cs ch f t = z := ⟨_, rfl⟩
        rw [hz] at hS
        have HS := Lib.hid hS
        have hK := fun W hb => HK4.out (by first | rfl | trivial) t ch f hf01 W hb
        rw [hz] at hK
        have D7 := cinL HD HW hK
        have fT0 : ∀ n : Wd D, n.w.cell? ⟨b4, k * 4, none⟩ = some (.int .i64 t.num) := fun n => ((BD.out n).cell (p := ⟨b4, k * 4, none⟩) hb4).trans a0
        have fT1 : ∀ n : Wd D, n.w.cell? ⟨b4, k * 4 + 1, none⟩ = some (.int .i64 t.year) := fun n => ((BD.out n).cell (p := ⟨b4, k * 4 + 1, none⟩) hb4).trans a1
        have fT2 : ∀ n : Wd D, n.w.cell? ⟨b4, k * 4 + 2, none⟩ = some (.int .i64 t.lo) := fun n => ((BD.out n).cell (p := ⟨b4, k * 4 + 2, none⟩) hb4).trans a2
        have fT3 : ∀ n : Wd D, n.w.cell? ⟨b4, k * 4 + 3, none⟩ = some (.int .i64 t.hi) := fun n => ((BD.out n).cell (p := ⟨b4, k * 4 + 3, none⟩) hb4).trans a3
        have fI : ∀ n : Wd D, n.w.cell? ⟨bi, oi + k, none⟩ = some (.int .i64 ch) := fun n => ((BD.out n).cell (p := ⟨bi, oi + k, none⟩) hbi).trans a4
        have fD0 : ∀ n : Wd D, n.w.cell? ⟨w.heap.size, 0, none⟩ = some (.slice q1 cs.length c1) := fun n => (LD.out n).1.2.1
        have fD1 : ∀ n : Wd D, n.w.cell? ⟨w.heap.size, 1, none⟩ = some (.slice q2 ps.length c2) := fun n => (LD.out n).2.1.2.1
        have fD2 : ∀ n : Wd D, n.w.cell? ⟨w.heap.size, 2, none⟩ = some (.slice q3 rs.length c3) := fun n => (LD.out n).2.2.1.2.1
        have hlt' : (k : Int) < (ps.length : Int) + (rs.length : Int) := by omega
        have hlt2' : (k : Int) < ((ps.length + rs.length : Nat) : Int) := by omega
        clear hS htl hcl hb4 hc4 hbi hci a0 a1 a2 a3 a4 ht hch hf hz hK
        by_cases hn : k < ps.length
        · skip
          obtain rfl : f = 0 := by rw [← HF.out, fst1, if_pos (by have := HL.out; omega)]
          have hn2 : (k : Int) < (ps.length : Int) := by omega
          cases z
          · obtain rfl : 1 = E := by have := HS.out.1 rfl; rw [← HP.out, this]
            go_upto_region 13 with fail
            refine wp_region_in D (HD.out _ _ (Wd.h _) (below_dr _)) (by kernel_rfl) (by kernel_rfl) ?_
            repeat (go_big_quiet_step (first | with_reducible exact (D7 _).out))
            refine wpQuiet_nil ?_
            intro wx hwx
            obtain ⟨n2, rfl⟩ : ∃ n : Wd D, wx = n.w := ⟨⟨wx, hwx⟩, rfl⟩
            clear hwx
            go_wp2_with fail
            go_ret
            exact ⟨rfl, HW.out _⟩
          · go_upto_region 13 with fail
            refine wp_region_in D (HD.out _ _ (Wd.h _) (below_dr _)) (by kernel_rfl) (by kernel_rfl) ?_
            repeat (go_big_quiet_step (first | with_reducible exact (D7 _).out))
            refine wpQuiet_nil ?_
            intro wx hwx
            obtain ⟨n2, rfl⟩ : ∃ n : Wd D, wx = n.w := ⟨⟨wx, hwx⟩, rfl⟩
            clear hwx
            go_upto_region 17 with fail
            go_loopw [9] (fun i wr => ∃ (j : Nat) (n : Wd D), wr = n.w ∧ i = .int .i64 (j : Int) ∧ j ≤ k ∧ Hid (∀ k', k' < j → ¬ Bad X k k')) (fun i wr => k - (intOf i).toNat)
            case atStart => exact ⟨0, n2, rfl, rfl, Nat.zero_le _, fun k' h => absurd h (by omega)⟩
            case round =>
              obtain ⟨j, n3, rfl, rfl, hj, HA⟩ := hrel
              by_cases hlt3 : j < k
              · have htl := getD_of (l := thL X) (d := dTh) (i := j) (by have := HL.out.1; omega)
                have hcl := getD_of (l := chL X) (d := 0) (i := j) (by have := HL.out.2.1; omega)
                obtain ⟨hb4, hc4⟩ := HC4.out
                obtain ⟨hbi, hci⟩ := HCI.out
                obtain ⟨a0, a1, -, -⟩ := hc4 j _ htl
                have a4 := hci j _ hcl
                obtain ⟨u, hu⟩ : ∃ t, (thL X).getD j dTh = t := ⟨_, rfl⟩
                obtain ⟨cj, hcj⟩ : ∃ t, (chL X).getD j 0 = t := ⟨_, rfl⟩
                rw [hu] at a0 a1
                rw [hcj] at a4
                have HB : Hid (Bad X k j ↔ (u.num = t.num ∨ (ps.length ≤ k ∧ ps.length ≤ j ∧ cj = ch ∧ u.year = t.year))) := by
                  unfold Hid Bad
                  rw [HTK.out, HCK.out, hu, hcj, HL.out.2.2.1]
                have gT0 : ∀ n : Wd D, n.w.cell? ⟨b4, j * 4, none⟩ = some (.int .i64 u.num) := fun n => ((BD.out n).cell (p := ⟨b4, j * 4, none⟩) hb4).trans a0
                have gT1 : ∀ n : Wd D, n.w.cell? ⟨b4, j * 4 + 1, none⟩ = some (.int .i64 u.year) := fun n => ((BD.out n).cell (p := ⟨b4, j * 4 + 1, none⟩) hb4).trans a1
                have gI : ∀ n : Wd D, n.w.cell? ⟨bi, oi + j, none⟩ = some (.int .i64 cj) := fun n => ((BD.out n).cell (p := ⟨bi, oi + j, none⟩) hbi).trans a4
                have hlt3' : (j : Int) < (k : Int) := by omega
                have hlt4' : (j : Int) < (ps.length : Int) + (rs.length : Int) := by omega
                have hlt5' : (j : Int) < ((ps.length + rs.length : Nat) : Int) := by omega
                clear htl hcl hb4 hc4 hbi hci a0 a1 a4 hu hcj
                by_cases he : u.num = t.num
                · have he1 : (u.num == t.num) = true := by simpa using he
                  obtain rfl : 6 = E := by have := HS.out.2.1 (by first | rfl | trivial) ⟨j, hlt3, HB.out.2 (by first | exact .inl he | exact .inr ⟨by omega, by omega, by assumption, by assumption⟩)⟩; rw [← HP.out, this]
                  clear he
                  go_upto_region 19 with fail
                  refine wp_region_in D (HD.out _ _ (Wd.h _) (below_dr _)) (by kernel_rfl) (by kernel_rfl) ?_
                  repeat (go_big_quiet_step (first | fail))
                  refine wpQuiet_nil ?_
                  intro wx hwx
                  obtain ⟨n4, rfl⟩ : ∃ n : Wd D, wx = n.w := ⟨⟨wx, hwx⟩, rfl⟩
                  clear hwx
                  go_upto_region 20 with fail
                  refine wp_region_in D (HD.out _ _ (Wd.h _) (below_dr _)) (by kernel_rfl) (by kernel_rfl) ?_
                  repeat (go_big_quiet_step (first | fail))
                  refine wpQuiet_nil ?_
                  intro wx hwx
                  obtain ⟨n5, rfl⟩ : ∃ n : Wd D, wx = n.w := ⟨⟨wx, hwx⟩, rfl⟩
                  clear hwx
                  go_wp2_with fail
                  go_ret
                  exact ⟨rfl, HW.out _⟩
                · have he1 : (u.num == t.num) = false := by simpa using he
                  have HA2 : Hid (∀ k', k' < j + 1 → ¬ Bad X k k') := fun k' hk' hbad => by
                    by_cases e : k' = j
                    · subst e
                      rcases HB.out.1 hbad with e | ⟨e1, e2, e3, e4⟩
                      · exact he e
                      · first | omega | contradiction
                    · exact HA.out k' (by omega) hbad
                  clear he
                  go_upto_region 19 with fail
                  refine wp_region_in D (HD.out _ _ (Wd.h _) (below_dr _)) (by kernel_rfl) (by kernel_rfl) ?_
                  repeat (go_big_quiet_step (first | fail))
                  refine wpQuiet_nil ?_
                  intro wx hwx
                  obtain ⟨n4, rfl⟩ : ∃ n : Wd D, wx = n.w := ⟨⟨wx, hwx⟩, rfl⟩
                  clear hwx
                  go_upto_region 20 with fail
                  refine wp_region_in D (HD.out _ _ (Wd.h _) (below_dr _)) (by kernel_rfl) (by kernel_rfl) ?_
                  repeat (go_big_quiet_step (first | fail))
                  refine wpQuiet_nil ?_
                  intro wx hwx
                  obtain ⟨n5, rfl⟩ : ∃ n : Wd D, wx = n.w := ⟨⟨wx, hwx⟩, rfl⟩
                  clear hwx
                  go_wp2_with fail
                  go_roundw
                  case rel => exact ⟨j + 1, n5, rfl, by simp, hlt3, HA2⟩
                  case measure => simp [intOf]; omega
              · obtain rfl : j = k := by omega
                have HP2 : Hid (restE X (j + 1) = E) := by
                  have := HS.out.2.2 (by first | rfl | trivial) (fun ⟨k', h1, h2⟩ => HA.out k' h1 h2)
                  unfold Hid; rw [← HP.out, this]
                clear HP
                go_wp2_with fail
                go_roundw
                case rel => exact ⟨j + 1, n3, rfl, by simp, hlt, HP2⟩
                case measure => simp [intOf]; omega
        · skip
          obtain rfl : f = 1 := by rw [← HF.out, fst1, if_neg (by have := HL.out; omega)]
          have hn2 : ¬ (k : Int) < (ps.length : Int) := by omega
          cases z
          · obtain rfl : 1 = E := by have := HS.out.1 rfl; rw [← HP.out, this]
            go_upto_region 13 with fail
            refine wp_region_in D (HD.out _ _ (Wd.h _) (below_dr _)) (by kernel_rfl) (by kernel_rfl) ?_
            repeat (go_big_quiet_step (first | with_reducible exact (D7 _).out))
            refine wpQuiet_nil ?_
            intro wx hwx
            obtain ⟨n2, rfl⟩ : ∃ n : Wd D, wx = n.w := ⟨⟨wx, hwx⟩, rfl⟩
            clear hwx
            go_wp2_with fail
            go_ret
            exact ⟨rfl, HW.out _⟩
          · go_upto_region 13 with fail
            refine wp_region_in D (HD.out _ _ (Wd.h _) (below_dr _)) (by kernel_rfl) (by kernel_rfl) ?_
            repeat (go_big_quiet_step (first | with_reducible exact (D7 _).out))
            refine wpQuiet_nil ?_
            intro wx hwx
            obtain ⟨n2, rfl⟩ : ∃ n : Wd D, wx = n.w := ⟨⟨wx, hwx⟩, rfl⟩
            clear hwx
            go_upto_region 17 with fail
            go_loopw [9] (fun i wr => ∃ (j : Nat) (n : Wd D), wr = n.w ∧ i = .int .i64 (j : Int) ∧ j ≤ k ∧ Hid (∀ k', k' < j → ¬ Bad X k k')) (fun i wr => k - (intOf i).toNat)
            case atStart => exact ⟨0, n2, rfl, rfl, Nat.zero_le _, fun k' h => absurd h (by omega)⟩
            case round =>
              obtain ⟨j, n3, rfl, rfl, hj, HA⟩ := hrel
              by_cases hlt3 : j < k
              · have htl := getD_of (l := thL X) (d := dTh) (i := j) (by have := HL.out.1; omega)
                have hcl := getD_of (l := chL X) (d := 0) (i := j) (by have := HL.out.2.1; omega)
                obtain ⟨hb4, hc4⟩ := HC4.out
                obtain ⟨hbi, hci⟩ := HCI.out
                obtain ⟨a0, a1, -, -⟩ := hc4 j _ htl
                have a4 := hci j _ hcl
                obtain ⟨u, hu⟩ : ∃ t, (thL X).getD j dTh = t := ⟨_, rfl⟩
                obtain ⟨cj, hcj⟩ : ∃ t, (chL X).getD j 0 = t := ⟨_, rfl⟩
                rw [hu] at a0 a1
                rw [hcj] at a4
                have HB : Hid (Bad X k j ↔ (u.num = t.num ∨ (ps.length ≤ k ∧ ps.length ≤ j ∧ cj = ch ∧ u.year = t.year))) := by
                  unfold Hid Bad
                  rw [HTK.out, HCK.out, hu, hcj, HL.out.2.2.1]
                have gT0 : ∀ n : Wd D, n.w.cell? ⟨b4, j * 4, none⟩ = some (.int .i64 u.num) := fun n => ((BD.out n).cell (p := ⟨b4, j * 4, none⟩) hb4).trans a0
                have gT1 : ∀ n : Wd D, n.w.cell? ⟨b4, j * 4 + 1, none⟩ = some (.int .i64 u.year) := fun n => ((BD.out n).cell (p := ⟨b4, j * 4 + 1, none⟩) hb4).trans a1
                have gI : ∀ n : Wd D, n.w.cell? ⟨bi, oi + j, none⟩ = some (.int .i64 cj) := fun n => ((BD.out n).cell (p := ⟨bi, oi + j, none⟩) hbi).trans a4
                have hlt3' : (j : Int) < (k : Int) := by omega
                have hlt4' : (j : Int) < (ps.length : Int) + (rs.length : Int) := by omega
                have hlt5' : (j : Int) < ((ps.length + rs.length : Nat) : Int) := by omega
                clear htl hcl hb4 hc4 hbi hci a0 a1 a4 hu hcj
                by_cases hj1 : j < ps.length
                · have hd1 : decide ((ps.length : Int) ≤ (j : Int)) = false := by simp; omega
                  have hd0 : decide (ps.length ≤ j) = false := by simp; omega
                  by_cases he : u.num = t.num
                  · have he1 : (u.num == t.num) = true := by simpa using he
                    obtain rfl : 6 = E := by have := HS.out.2.1 (by first | rfl | trivial) ⟨j, hlt3, HB.out.2 (by first | exact .inl he | exact .inr ⟨by omega, by omega, by assumption, by assumption⟩)⟩; rw [← HP.out, this]
                    clear he
                    go_upto_region 19 with fail
                    refine wp_region_in D (HD.out _ _ (Wd.h _) (below_dr _)) (by kernel_rfl) (by kernel_rfl) ?_
                    repeat (go_big_quiet_step (first | fail))
                    refine wpQuiet_nil ?_
                    intro wx hwx
                    obtain ⟨n4, rfl⟩ : ∃ n : Wd D, wx = n.w := ⟨⟨wx, hwx⟩, rfl⟩
                    clear hwx
                    go_upto_region 20 with fail
                    refine wp_region_in D (HD.out _ _ (Wd.h _) (below_dr _)) (by kernel_rfl) (by kernel_rfl) ?_
                    repeat (go_big_quiet_step (first | fail))
                    refine wpQuiet_nil ?_
                    intro wx hwx
                    obtain ⟨n5, rfl⟩ : ∃ n : Wd D, wx = n.w := ⟨⟨wx, hwx⟩, rfl⟩
                    clear hwx
                    go_wp2_with fail
                    go_ret
                    exact ⟨rfl, HW.out _⟩
                  · have he1 : (u.num == t.num) = false := by simpa using he
                    have HA2 : Hid (∀ k', k' < j + 1 → ¬ Bad X k k') := fun k' hk' hbad => by
                      by_cases e : k' = j
                      · subst e
                        rcases HB.out.1 hbad with e | ⟨e1, e2, e3, e4⟩
                        · exact he e
                        · first | omega | contradiction
                      · exact HA.out k' (by omega) hbad
                    clear he
                    go_upto_region 19 with fail
                    refine wp_region_in D (HD.out _ _ (Wd.h _) (below_dr _)) (by kernel_rfl) (by kernel_rfl) ?_
                    repeat (go_big_quiet_step (first | fail))
                    refine wpQuiet_nil ?_
                    intro wx hwx
                    obtain ⟨n4, rfl⟩ : ∃ n : Wd D, wx = n.w := ⟨⟨wx, hwx⟩, rfl⟩
                    clear hwx
                    go_upto_region 20 with fail
                    refine wp_region_in D (HD.out _ _ (Wd.h _) (below_dr _)) (by kernel_rfl) (by kernel_rfl) ?_
                    repeat (go_big_quiet_step (first | fail))
                    refine wpQuiet_nil ?_
                    intro wx hwx
                    obtain ⟨n5, rfl⟩ : ∃ n : Wd D, wx = n.w := ⟨⟨wx, hwx⟩, rfl⟩
                    clear hwx
                    go_wp2_with fail
                    go_roundw
                    case rel => exact ⟨j + 1, n5, rfl, by simp, hlt3, HA2⟩
                    case measure => simp [intOf]; omega
                · have hd1 : decide ((ps.length : Int) ≤ (j : Int)) = true := by simp; omega
                  have hd0 : decide (ps.length ≤ j) = true := by simp; omega
                  by_cases hj2 : cj = ch
                  · have hd2 : (cj == ch) = true := by simpa using hj2
                    by_cases hj3 : u.year = t.year
                    · have hd3 : (u.year == t.year) = true := by simpa using hj3
                      by_cases he : u.num = t.num
                      · have he1 : (u.num == t.num) = true := by simpa using he
                        skip
                        obtain rfl : 6 = E := by have := HS.out.2.1 (by first | rfl | trivial) ⟨j, hlt3, HB.out.2 (by first | exact .inl he | exact .inr ⟨by omega, by omega, by assumption, by assumption⟩)⟩; rw [← HP.out, this]
                        clear he
                        go_upto_region 19 with fail
                        refine wp_region_in D (HD.out _ _ (Wd.h _) (below_dr _)) (by kernel_rfl) (by kernel_rfl) ?_
                        repeat (go_big_quiet_step (first | fail))
                        refine wpQuiet_nil ?_
                        intro wx hwx
                        obtain ⟨n4, rfl⟩ : ∃ n : Wd D, wx = n.w := ⟨⟨wx, hwx⟩, rfl⟩
                        clear hwx
                        go_upto_region 20 with fail
                        refine wp_region_in D (HD.out _ _ (Wd.h _) (below_dr _)) (by kernel_rfl) (by kernel_rfl) ?_
                        repeat (go_big_quiet_step (first | fail))
                        refine wpQuiet_nil ?_
                        intro wx hwx
                        obtain ⟨n5, rfl⟩ : ∃ n : Wd D, wx = n.w := ⟨⟨wx, hwx⟩, rfl⟩
                        clear hwx
                        go_wp2_with fail
                        go_ret
                        exact ⟨rfl, HW.out _⟩
                      · have he1 : (u.num == t.num) = false := by simpa using he
                        skip
                        obtain rfl : 6 = E := by have := HS.out.2.1 (by first | rfl | trivial) ⟨j, hlt3, HB.out.2 (by first | exact .inl he | exact .inr ⟨by omega, by omega, by assumption, by assumption⟩)⟩; rw [← HP.out, this]
                        clear he
                        go_upto_region 19 with fail
                        refine wp_region_in D (HD.out _ _ (Wd.h _) (below_dr _)) (by kernel_rfl) (by kernel_rfl) ?_
                        repeat (go_big_quiet_step (first | fail))
                        refine wpQuiet_nil ?_
                        intro wx hwx
                        obtain ⟨n4, rfl⟩ : ∃ n : Wd D, wx = n.w := ⟨⟨wx, hwx⟩, rfl⟩
                        clear hwx
                        go_upto_region 20 with fail
                        refine wp_region_in D (HD.out _ _ (Wd.h _) (below_dr _)) (by kernel_rfl) (by kernel_rfl) ?_
                        repeat (go_big_quiet_step (first | fail))
                        refine wpQuiet_nil ?_
                        intro wx hwx
                        obtain ⟨n5, rfl⟩ : ∃ n : Wd D, wx = n.w := ⟨⟨wx, hwx⟩, rfl⟩
                        clear hwx
                        go_wp2_with fail
                        go_ret
                        exact ⟨rfl, HW.out _⟩
                    · have hd3 : (u.year == t.year) = false := by simpa using hj3
                      by_cases he : u.num = t.num
                      · have he1 : (u.num == t.num) = true := by simpa using he
                        obtain rfl : 6 = E := by have := HS.out.2.1 (by first | rfl | trivial) ⟨j, hlt3, HB.out.2 (by first | exact .inl he | exact .inr ⟨by omega, by omega, by assumption, by assumption⟩)⟩; rw [← HP.out, this]
                        clear he
                        go_upto_region 19 with fail
                        refine wp_region_in D (HD.out _ _ (Wd.h _) (below_dr _)) (by kernel_rfl) (by kernel_rfl) ?_
                        repeat (go_big_quiet_step (first | fail))
                        refine wpQuiet_nil ?_
                        intro wx hwx
                        obtain ⟨n4, rfl⟩ : ∃ n : Wd D, wx = n.w := ⟨⟨wx, hwx⟩, rfl⟩
                        clear hwx
                        go_upto_region 20 with fail
                        refine wp_region_in D (HD.out _ _ (Wd.h _) (below_dr _)) (by kernel_rfl) (by kernel_rfl) ?_
                        repeat (go_big_quiet_step (first | fail))
                        refine wpQuiet_nil ?_
                        intro wx hwx
                        obtain ⟨n5, rfl⟩ : ∃ n : Wd D, wx = n.w := ⟨⟨wx, hwx⟩, rfl⟩
                        clear hwx
                        go_wp2_with fail
                        go_ret
                        exact ⟨rfl, HW.out _⟩
                      · have he1 : (u.num == t.num) = false := by simpa using he
                        have HA2 : Hid (∀ k', k' < j + 1 → ¬ Bad X k k') := fun k' hk' hbad => by
                          by_cases e : k' = j
                          · subst e
                            rcases HB.out.1 hbad with e | ⟨e1, e2, e3, e4⟩
                            · exact he e
                            · first | omega | contradiction
                          · exact HA.out k' (by omega) hbad
                        clear he
                        go_upto_region 19 with fail
                        refine wp_region_in D (HD.out _ _ (Wd.h _) (below_dr _)) (by kernel_rfl) (by kernel_rfl) ?_
                        repeat (go_big_quiet_step (first | fail))
                        refine wpQuiet_nil ?_
                        intro wx hwx
                        obtain ⟨n4, rfl⟩ : ∃ n : Wd D, wx = n.w := ⟨⟨wx, hwx⟩, rfl⟩
                        clear hwx
                        go_upto_region 20 with fail
                        refine wp_region_in D (HD.out _ _ (Wd.h _) (below_dr _)) (by kernel_rfl) (by kernel_rfl) ?_
                        repeat (go_big_quiet_step (first | fail))
                        refine wpQuiet_nil ?_
                        intro wx hwx
                        obtain ⟨n5, rfl⟩ : ∃ n : Wd D, wx = n.w := ⟨⟨wx, hwx⟩, rfl⟩
                        clear hwx
                        go_wp2_with fail
                        go_roundw
                        case rel => exact ⟨j + 1, n5, rfl, by simp, hlt3, HA2⟩
                        case measure => simp [intOf]; omega
                  · have hd2 : (cj == ch) = false := by simpa using hj2
                    by_cases he : u.num = t.num
                    · have he1 : (u.num == t.num) = true := by simpa using he
                      obtain rfl : 6 = E := by have := HS.out.2.1 (by first | rfl | trivial) ⟨j, hlt3, HB.out.2 (by first | exact .inl he | exact .inr ⟨by omega, by omega, by assumption, by assumption⟩)⟩; rw [← HP.out, this]
                      clear he
                      go_upto_region 19 with fail
                      refine wp_region_in D (HD.out _ _ (Wd.h _) (below_dr _)) (by kernel_rfl) (by kernel_rfl) ?_
                      repeat (go_big_quiet_step (first | fail))
                      refine wpQuiet_nil ?_
                      intro wx hwx
                      obtain ⟨n4, rfl⟩ : ∃ n : Wd D, wx = n.w := ⟨⟨wx, hwx⟩, rfl⟩
                      clear hwx
                      go_upto_region 20 with fail
                      refine wp_region_in D (HD.out _ _ (Wd.h _) (below_dr _)) (by kernel_rfl) (by kernel_rfl) ?_
                      repeat (go_big_quiet_step (first | fail))
                      refine wpQuiet_nil ?_
                      intro wx hwx
                      obtain ⟨n5, rfl⟩ : ∃ n : Wd D, wx = n.w := ⟨⟨wx, hwx⟩, rfl⟩
                      clear hwx
                      go_wp2_with fail
                      go_ret
                      exact ⟨rfl, HW.out _⟩
                    · have he1 : (u.num == t.num) = false := by simpa using he
                      have HA2 : Hid (∀ k', k' < j + 1 → ¬ Bad X k k') := fun k' hk' hbad => by
                        by_cases e : k' = j
                        · subst e
                          rcases HB.out.1 hbad with e | ⟨e1, e2, e3, e4⟩
                          · exact he e
                          · first | omega | contradiction
                        · exact HA.out k' (by omega) hbad
                      clear he
                      go_upto_region 19 with fail
                      refine wp_region_in D (HD.out _ _ (Wd.h _) (below_dr _)) (by kernel_rfl) (by kernel_rfl) ?_
                      repeat (go_big_quiet_step (first | fail))
                      refine wpQuiet_nil ?_
                      intro wx hwx
                      obtain ⟨n4, rfl⟩ : ∃ n : Wd D, wx = n.w := ⟨⟨wx, hwx⟩, rfl⟩
                      clear hwx
                      go_upto_region 20 with fail
                      refine wp_region_in D (HD.out _ _ (Wd.h _) (below_dr _)) (by kernel_rfl) (by kernel_rfl) ?_
                      repeat (go_big_quiet_step (first | fail))
                      refine wpQuiet_nil ?_
                      intro wx hwx
                      obtain ⟨n5, rfl⟩ : ∃ n : Wd D, wx = n.w := ⟨⟨wx, hwx⟩, rfl⟩
                      clear hwx
                      go_wp2_with fail
                      go_roundw
                      case rel => exact ⟨j + 1, n5, rfl, by simp, hlt3, HA2⟩
                      case measure => simp [intOf]; omega
              · obtain rfl : j = k := by omega
                have HP2 : Hid (restE X (j + 1) = E) := by
                  have := HS.out.2.2 (by first | rfl | trivial) (fun ⟨k', h1, h2⟩ => HA.out k' h1 h2)
                  unfold Hid; rw [← HP.out, this]
                clear HP
                go_wp2_with fail
                go_roundw
                case rel => exact ⟨j + 1, n3, rfl, by simp, hlt, HP2⟩
                case measure => simp [intOf]; omega
      · obtain rfl : k = ps.length + rs.length := by omega
        obtain rfl : 0 = E := by have := HP.out; rw [← HL.out.2.2.1, ← HL.out.2.2.2.1, rest_end] at this; exact this
        go_wp2_with fail
        go_ret
        exact ⟨rfl, HW.out _⟩
  · obtain rfl : e1 = E := (HE1.out HG.out he).symm
    have he' : (e1 != 0) = true := by simpa using he
    clear he h20 h60
    go_wp2_with (first | first | (go_at_call 81; with_reducible refine (D2 _).out.mono ?_; rintro e w' ⟨rfl, n, rfl⟩))
    go_ret
    exact ⟨rfl, BC.out _⟩
end Go.Proofs.YtcejmfgbfdhflaaGreat
