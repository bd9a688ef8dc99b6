import Derived.Test.YtcejmfgbfdhflaaGreatEc
import Derived.Test.YtcejmfgbfdhflaaGreatQe
import Derived.Test.YtcejmfgbfdhflaaGreatQd
import Derived.WalkKit
import Derived.LoopTactic
import Derived.WalkSpells
import Derived.WalkLawsBesides
import Derived.Lib.Hide
import Derived.BigQuiet
import Derived.IntWalk
import Derived.Deep.DeepMust
import Derived.WalkSmall
import Derived.StillTailTactics
import Derived.Deep.RegionLaw
import Derived.Deep.RegionHeld3
import Derived.Deep.QuietTactic
namespace Go.Proofs.YtcejmfgbfdhflaaGreat
open Go.RowKit Go.BigFrame Go.Sort
attribute [local go_sem] World.cell?_alloc_some
def limA (wear y : Int) (l : List Th) : Int × Int := (mxs 9000 (l.map fun t => lowT wear t y), lowNo wear y l)
def limB (wear y : Int) (l : List Th) : Int × Int := (mns 12000 (l.map fun t => highT wear t y), topNo wear y l)
theorem limA_snoc (wear y : Int) (l : List Th) (t : Th) : limA wear y (l ++ [t]) = loStep wear y (limA wear y l) t := (loStep_snoc wear y l t).symm
theorem limB_snoc (wear y : Int) (l : List Th) (t : Th) : limB wear y (l ++ [t]) = hiStep wear y (limB wear y l) t := (hiStep_snoc wear y l t).symm
def limL (B k : Nat) (a b : Int × Int) : List (Nat × Nat × Value) := [(k, 0, .int .i64 a.1), (k, 1, .int .i64 b.1), (k, 2, .int .i64 a.2), (k, 3, .int .i64 b.2), (B, 0, .int .i64 0), (B, 1, .int .i64 0), (B, 2, .int .i64 0), (B, 3, .int .i64 0)]
theorem limL_set {W : World} {B k : Nat} {a b : Int × Int} {o : Nat} {u : Int} (h : Cs W (limL B k a b)) (h1 : k ≠ B) (a' b' : Int × Int) (e0 : (if o = 0 then u else a.1) = a'.1) (e1 : (if o = 1 then u else b.1) = b'.1) (e2 : (if o = 2 then u else a.2) = a'.2) (e3 : (if o = 3 then u else b.2) = b'.2) :
    Cs (W.setCell ⟨k, o, none⟩ (.int .i64 u)) (limL B k a' b') := by
  have := h.upd (b := k) (o := o) (u := .int .i64 u)
  have h2 : ¬ B = k := fun e => h1 e.symm
  rw [limL, ← e0, ← e1, ← e2, ← e3]
  simp only [limL, List.map_cons, List.map_nil, h2, false_and, if_false, true_and] at this
  by_cases q0 : o = 0
  · subst q0; simpa using this
  by_cases q1 : o = 1
  · subst q1; simpa using this
  by_cases q2 : o = 2
  · subst q2; simpa using this
  by_cases q3 : o = 3
  · subst q3; simpa using this
  rw [if_neg q0, if_neg q1, if_neg q2, if_neg q3]
  rw [if_neg (fun e => q0 e.symm), if_neg (fun e => q1 e.symm), if_neg (fun e => q2 e.symm), if_neg (fun e => q3 e.symm)] at this
  exact this
set_option maxRecDepth 100000 in
set_option maxHeartbeats 12800000 in
theorem rlimits_any (q : Option Addr) (cap : Nat) (l : List Th) (wear y : Int) (w : World) (hl : l.length ≤ 1000000) (hok : ∀ t ∈ l, okTh t = true) (hw : 0 ≤ wear ∧ wear ≤ 1000) (hy : 0 ≤ y ∧ y ≤ 4000) (h : T4At w q l) :
    Calls Tryz.prog 162 #[.slice q l.length cap, .int .i64 wear, .int .i64 y] w fun e w' => e = .returned (.agg #[.int .i64 (limA wear y l).1, .int .i64 (limB wear y l).1, .int .i64 (limA wear y l).2, .int .i64 (limB wear y l).2]) ∧ Below w.heap.size w w' := by
  have H := Lib.hid h
  have HOK := Lib.hid hok
  obtain ⟨PA, hPA⟩ : ∃ p, limA wear y l = p := ⟨_, rfl⟩
  obtain ⟨PB, hPB⟩ : ∃ p, limB wear y l = p := ⟨_, rfl⟩
  rw [hPA, hPB]
  have HPA := Lib.hid hPA
  have HPB := Lib.hid hPB
  clear h hok hPA hPB
  go_enter Tryz.func162, Tryz.ntmps162
  go_upto_region 2 with fail
  obtain ⟨W0, hW0⟩ : ∃ W0, ((w).alloc (.cells #[.int .i64 0, .int .i64 0, .int .i64 0, .int .i64 0] 142)).alloc (.cells #[.int .i64 9000, .int .i64 12000, .int .i64 0, .int .i64 0] 142) = W0 := ⟨_, rfl⟩
  have S0 : St w W0 [(w.heap.size + 1, 0, .int .i64 9000), (w.heap.size + 1, 1, .int .i64 12000), (w.heap.size + 1, 2, .int .i64 0), (w.heap.size + 1, 3, .int .i64 0), (w.heap.size, 0, .int .i64 0), (w.heap.size, 1, .int .i64 0), (w.heap.size, 2, .int .i64 0), (w.heap.size, 3, .int .i64 0)] := by rw [← hW0]; exact (((St.nil w)).box #[.int .i64 0, .int .i64 0, .int .i64 0, .int .i64 0] 142 (w.heap.size) (by simp)).box #[.int .i64 9000, .int .i64 12000, .int .i64 0, .int .i64 0] 142 (w.heap.size + 1) (by simp)
  rw [hW0]
  clear hW0
  obtain ⟨C, hC0, HC, LC, BC, hne⟩ := cls S0
  haveI := hne
  obtain ⟨c0, rfl⟩ : ∃ n : Wd C, W0 = n.w := ⟨⟨_, hC0⟩, rfl⟩
  have fC0 : ∀ n : Wd C, n.w.cell? ⟨w.heap.size + 1, 0, none⟩ = some (.int .i64 9000) := fun n => (LC.out n).1.2.1
  have zC0 : ∀ n : Wd C, n.w.frozen? ⟨w.heap.size + 1, 0, none⟩ = false := fun n => (LC.out n).1.2.2
  have fC1 : ∀ n : Wd C, n.w.cell? ⟨w.heap.size + 1, 1, none⟩ = some (.int .i64 12000) := fun n => (LC.out n).2.1.2.1
  have zC1 : ∀ n : Wd C, n.w.frozen? ⟨w.heap.size + 1, 1, none⟩ = false := fun n => (LC.out n).2.1.2.2
  have fC2 : ∀ n : Wd C, n.w.cell? ⟨w.heap.size + 1, 2, none⟩ = some (.int .i64 0) := fun n => (LC.out n).2.2.1.2.1
  have zC2 : ∀ n : Wd C, n.w.frozen? ⟨w.heap.size + 1, 2, none⟩ = false := fun n => (LC.out n).2.2.1.2.2
  have fC3 : ∀ n : Wd C, n.w.cell? ⟨w.heap.size + 1, 3, none⟩ = some (.int .i64 0) := fun n => (LC.out n).2.2.2.1.2.1
  have zC3 : ∀ n : Wd C, n.w.frozen? ⟨w.heap.size + 1, 3, none⟩ = false := fun n => (LC.out n).2.2.2.1.2.2
  have fC4 : ∀ n : Wd C, n.w.cell? ⟨w.heap.size, 0, none⟩ = some (.int .i64 0) := fun n => (LC.out n).2.2.2.2.1.2.1
  have zC4 : ∀ n : Wd C, n.w.frozen? ⟨w.heap.size, 0, none⟩ = false := fun n => (LC.out n).2.2.2.2.1.2.2
  have fC5 : ∀ n : Wd C, n.w.cell? ⟨w.heap.size, 1, none⟩ = some (.int .i64 0) := fun n => (LC.out n).2.2.2.2.2.1.2.1
  have zC5 : ∀ n : Wd C, n.w.frozen? ⟨w.heap.size, 1, none⟩ = false := fun n => (LC.out n).2.2.2.2.2.1.2.2
  have fC6 : ∀ n : Wd C, n.w.cell? ⟨w.heap.size, 2, none⟩ = some (.int .i64 0) := fun n => (LC.out n).2.2.2.2.2.2.1.2.1
  have zC6 : ∀ n : Wd C, n.w.frozen? ⟨w.heap.size, 2, none⟩ = false := fun n => (LC.out n).2.2.2.2.2.2.1.2.2
  have fC7 : ∀ n : Wd C, n.w.cell? ⟨w.heap.size, 3, none⟩ = some (.int .i64 0) := fun n => (LC.out n).2.2.2.2.2.2.2.1.2.1
  have zC7 : ∀ n : Wd C, n.w.frozen? ⟨w.heap.size, 3, none⟩ = false := fun n => (LC.out n).2.2.2.2.2.2.2.1.2.2
  clear S0 hC0
  have S1 : St w c0.w (limL w.heap.size (w.heap.size + 1) (limA wear y (l.take 0)) (limB wear y (l.take 0))) := ⟨BC.out c0, LC.out c0⟩
  obtain ⟨w0, hw0⟩ : ∃ w0, c0.w = w0 := ⟨_, rfl⟩
  rw [hw0] at S1 ⊢
  obtain ⟨kB, hkB⟩ : ∃ k, w.heap.size + 1 = k := ⟨_, rfl⟩
  obtain ⟨B, hBB⟩ : ∃ k, w.heap.size = k := ⟨_, rfl⟩
  rw [hBB] at S1
  have HKB := Lib.hid (And.intro hkB hBB)
  rw [show B + 1 = kB from by omega] at S1
  have hne0 : kB ≠ B := by omega
  have hne1 : B ≠ kB := by omega
  rw [hkB, hBB]
  clear hw0 fC0 fC1 fC2 fC3 fC4 fC5 fC6 fC7 zC0 zC1 zC2 zC3 zC4 zC5 zC6 zC7 LC BC HC hne c0 hkB hBB
  go_wp2_with fail
  go_loopw [8] (fun i wr => ∃ (k : Nat), St w wr (limL B kB (limA wear y (l.take k)) (limB wear y (l.take k))) ∧ i = .int .i64 (k : Int) ∧ k ≤ l.length) (fun i wr => l.length - (intOf i).toNat)
  case atStart => exact ⟨0, S1, rfl, Nat.zero_le _⟩
  case round =>
    clear S1
    obtain ⟨k, hS, rfl, hk⟩ := hrel
    by_cases hlt : k < l.length
    · have htl := getD_of (l := l) (d := dTh) (i := k) hlt
      have hlk : l[k] = l.getD k dTh := by simp [List.getD, hlt]
      rcases H.out with h0 | ⟨b4, rfl, hb4, hc4⟩
      · rw [h0] at hlt; simp at hlt
      obtain ⟨a0, a1, a2, a3⟩ := hc4 k _ htl
      have ok1 := HOK.out _ (List.mem_of_getElem? htl)
      have hsa : limA wear y (l.take (k + 1)) = loStep wear y (limA wear y (l.take k)) (l.getD k dTh) := by rw [take_snocG l k hlt, limA_snoc, hlk]
      have hsb : limB wear y (l.take (k + 1)) = hiStep wear y (limB wear y (l.take k)) (l.getD k dTh) := by rw [take_snocG l k hlt, limB_snoc, hlk]
      obtain ⟨t, ht⟩ : ∃ t, l.getD k dTh = t := ⟨_, rfl⟩
      rw [ht] at a0 a1 a2 a3 ok1 hsa hsb
      obtain ⟨pa, hpa⟩ : ∃ p, limA wear y (l.take k) = p := ⟨_, rfl⟩
      obtain ⟨pb, hpb⟩ : ∃ p, limB wear y (l.take k) = p := ⟨_, rfl⟩
      rw [hpa] at hS hsa
      rw [hpb] at hS hsb
      obtain ⟨lo, nl⟩ := pa
      obtain ⟨hi, nh⟩ := pb
      have KL := fun W => rlo_any t wear y W ok1 hw hy
      have KH := fun W => rhi_any t wear y W ok1 hw hy
      obtain ⟨a, ha⟩ : ∃ z, lowT wear t y = z := ⟨_, rfl⟩
      obtain ⟨b, hb⟩ : ∃ z, highT wear t y = z := ⟨_, rfl⟩
      simp only [ha] at KL
      simp only [hb] at KH
      have HA := Lib.hid ha
      have HB := Lib.hid hb
      have HSA := Lib.hid hsa
      have HSB := Lib.hid hsb
      have hn4 : b4 ≠ kB := by have := HKB.out; omega
      have hn5 : kB ≠ b4 := Ne.symm hn4
      have c0 : ∀ (o : Nat) (v : Value), w.cell? ⟨b4, o, none⟩ = some v → ∀ W, Below w.heap.size w W → W.cell? ⟨b4, o, none⟩ = some v := fun o v hv W hbW => (hbW.cell (p := ⟨b4, o, none⟩) hb4).trans hv
      have HT := Lib.hid (And.intro (c0 _ _ a0) (And.intro (c0 _ _ a1) (And.intro (c0 _ _ a2) (c0 _ _ a3))))
      have hlt' : (k : Int) < (l.length : Int) := by omega
      clear htl hlk hb4 hc4 a0 a1 a2 a3 ok1 hsa hsb ht hpa hpb ha hb c0
      obtain ⟨F, hC0, HF, LF, BF, hne⟩ := cls hS
      haveI := hne
      obtain ⟨f0, rfl⟩ : ∃ n : Wd F, wr = n.w := ⟨⟨_, hC0⟩, rfl⟩
      have fF0 : ∀ n : Wd F, n.w.cell? ⟨kB, 0, none⟩ = some (.int .i64 lo) := fun n => (LF.out n).1.2.1
      have fF1 : ∀ n : Wd F, n.w.cell? ⟨kB, 1, none⟩ = some (.int .i64 hi) := fun n => (LF.out n).2.1.2.1
      have fF2 : ∀ n : Wd F, n.w.cell? ⟨kB, 2, none⟩ = some (.int .i64 nl) := fun n => (LF.out n).2.2.1.2.1
      have fF3 : ∀ n : Wd F, n.w.cell? ⟨kB, 3, none⟩ = some (.int .i64 nh) := fun n => (LF.out n).2.2.2.1.2.1
      clear hS hC0
      have t0 : ∀ n : Wd F, n.w.cell? ⟨b4, k * 4, none⟩ = some (.int .i64 t.num) := fun n => HT.out.1 _ (BF.out n)
      have t1 : ∀ n : Wd F, n.w.cell? ⟨b4, k * 4 + 1, none⟩ = some (.int .i64 t.year) := fun n => HT.out.2.1 _ (BF.out n)
      have t2 : ∀ n : Wd F, n.w.cell? ⟨b4, k * 4 + 2, none⟩ = some (.int .i64 t.lo) := fun n => HT.out.2.2.1 _ (BF.out n)
      have t3 : ∀ n : Wd F, n.w.cell? ⟨b4, k * 4 + 3, none⟩ = some (.int .i64 t.hi) := fun n => HT.out.2.2.2 _ (BF.out n)
      have z0 : ∀ n : Wd F, n.w.frozen? ⟨kB, 0, none⟩ = false := fun n => (LF.out n).1.2.2
      have z2 : ∀ n : Wd F, n.w.frozen? ⟨kB, 2, none⟩ = false := fun n => (LF.out n).2.2.1.2.2
      have D1 := cin HF fun W => Calls.be (KL W)
      have D2 := cin HF fun W => Calls.be (KH W)
      clear KL KH
      go_upto_region 7 with (first | first | (go_at_call 204; with_reducible refine (D1 _).out.mono ?_; rintro e w' ⟨rfl, n, rfl⟩) | (go_at_call 205; with_reducible refine (D2 _).out.mono ?_; rintro e w' ⟨rfl, n, rfl⟩))
      clear D1 D2
      by_cases hc1 : lo < a
      · have HSTA := Lib.hid (show loStep wear y (lo, nl) t = (a, t.num) from by unfold loStep; rw [HA.out]; exact if_pos hc1)
        go_upto_region 12 with fail
        have S2 : St w _ (limL B kB (a, t.num) (hi, nh)) := ⟨below_grownB (BF.out n) (by have := HKB.out; omega) (grown_trans (set_grown _ _ _ _) (set_grown _ _ _ _)), limL_set (o := 2) (u := t.num) (limL_set (o := 0) (u := a) (LF.out n) hne0 (a, nl) (hi, nh) rfl rfl rfl rfl) hne0 (a, t.num) (hi, nh) rfl rfl rfl rfl⟩
        clear t0 t1 t2 t3 z0 z2 fF0 fF1 fF2 fF3
        obtain ⟨W2, hW2⟩ : ∃ W2 : World, (n.w.setCell ⟨kB, 0, none⟩ (.int .i64 a)).setCell ⟨kB, 2, none⟩ (.int .i64 t.num) = W2 := ⟨_, rfl⟩
        rw [hW2] at S2 ⊢
        clear hW2
        obtain ⟨G, hC0, HG, LG, BG, hne⟩ := cls S2
        haveI := hne
        obtain ⟨g0, rfl⟩ : ∃ n : Wd G, W2 = n.w := ⟨⟨_, hC0⟩, rfl⟩
        have fG0 : ∀ n : Wd G, n.w.cell? ⟨kB, 0, none⟩ = some (.int .i64 a) := fun n => (LG.out n).1.2.1
        have fG1 : ∀ n : Wd G, n.w.cell? ⟨kB, 1, none⟩ = some (.int .i64 hi) := fun n => (LG.out n).2.1.2.1
        have fG2 : ∀ n : Wd G, n.w.cell? ⟨kB, 2, none⟩ = some (.int .i64 t.num) := fun n => (LG.out n).2.2.1.2.1
        have fG3 : ∀ n : Wd G, n.w.cell? ⟨kB, 3, none⟩ = some (.int .i64 nh) := fun n => (LG.out n).2.2.2.1.2.1
        clear S2 hC0
        have t0 : ∀ n : Wd G, n.w.cell? ⟨b4, k * 4, none⟩ = some (.int .i64 t.num) := fun n => HT.out.1 _ (BG.out n)
        have z1 : ∀ n : Wd G, n.w.frozen? ⟨kB, 1, none⟩ = false := fun n => (LG.out n).2.1.2.2
        have z3 : ∀ n : Wd G, n.w.frozen? ⟨kB, 3, none⟩ = false := fun n => (LG.out n).2.2.2.1.2.2
        clear hc1
        by_cases hd1 : b < hi
        · have HSTB := Lib.hid (show hiStep wear y (hi, nh) t = (b, t.num) from by unfold hiStep; rw [HB.out]; exact if_pos hd1)
          go_upto_region 4 with fail
          have S3 : St w _ (limL B kB (a, t.num) (b, t.num)) := ⟨below_grownB (BG.out g0) (by have := HKB.out; omega) (grown_trans (set_grown _ _ _ _) (set_grown _ _ _ _)), limL_set (o := 3) (u := t.num) (limL_set (o := 1) (u := b) (LG.out g0) hne0 (a, t.num) (b, nh) rfl rfl rfl rfl) hne0 (a, t.num) (b, t.num) rfl rfl rfl rfl⟩
          go_wp2_with fail
          go_roundw
          case rel => exact ⟨k + 1, by rw [HSA.out, HSB.out, HSTA.out, HSTB.out]; exact S3, by simp, hlt⟩
          case measure => simp [intOf]; omega
        · by_cases hd2 : b = hi ∧ b < 12000
          · have HSTB := Lib.hid (show hiStep wear y (hi, nh) t = (hi, min nh t.num) from by unfold hiStep; rw [HB.out, if_neg hd1]; exact if_pos hd2)
            obtain ⟨rfl, hd3⟩ := hd2
            clear hd1
            go_upto_region 16 with fail
            go_region
            go_upto_region 4 with fail
            have S3 : St w _ (limL B kB (a, t.num) (b, min nh t.num)) := ⟨below_grownB ((BG.out g0).trans ((below_dr _).mono (BG.out g0).size)) (by have := HKB.out; omega) (set_grown _ _ _ _), limL_set (o := 3) (u := min nh t.num) ((LG.out g0).keep (below_dr _)) hne0 (a, t.num) (b, min nh t.num) rfl rfl rfl rfl⟩
            go_wp2_with fail
            go_roundw
            case rel => exact ⟨k + 1, by rw [HSA.out, HSB.out, HSTA.out, HSTB.out]; exact S3, by simp, hlt⟩
            case measure => simp [intOf]; omega
          · have HSTB := Lib.hid (show hiStep wear y (hi, nh) t = (hi, nh) from by unfold hiStep; rw [HB.out, if_neg hd1]; exact if_neg hd2)
            have hd3 : b = hi → ¬ b < 12000 := fun e e' => hd2 ⟨e, e'⟩
            clear hd2
            by_cases hd4 : b = hi
            · have hd5 := hd3 hd4
              have hd6 : (b == hi) = true := by simpa using hd4
              clear hd3 hd4
              go_upto_region 4 with fail
              have S3 : St w _ (limL B kB (a, t.num) (hi, nh)) := ⟨BG.out g0, LG.out g0⟩
              go_wp2_with fail
              go_roundw
              case rel => exact ⟨k + 1, by rw [HSA.out, HSB.out, HSTA.out, HSTB.out]; exact S3, by simp, hlt⟩
              case measure => simp [intOf]; omega
            · have hd6 : (b == hi) = false := by simpa using hd4
              clear hd3 hd4
              go_upto_region 4 with fail
              have S3 : St w _ (limL B kB (a, t.num) (hi, nh)) := ⟨BG.out g0, LG.out g0⟩
              go_wp2_with fail
              go_roundw
              case rel => exact ⟨k + 1, by rw [HSA.out, HSB.out, HSTA.out, HSTB.out]; exact S3, by simp, hlt⟩
              case measure => simp [intOf]; omega
      · by_cases hc2 : a = lo ∧ 9000 < a
        · have HSTA := Lib.hid (show loStep wear y (lo, nl) t = (lo, min nl t.num) from by unfold loStep; rw [HA.out, if_neg hc1]; exact if_pos hc2)
          obtain ⟨rfl, hc3⟩ := hc2
          clear hc1
          go_upto_region 11 with fail
          go_region
          go_upto_region 12 with fail
          have S2 : St w _ (limL B kB (a, min nl t.num) (hi, nh)) := St.dr (W := n.w.setCell ⟨kB, 2, none⟩ (.int .i64 (min nl t.num))) ⟨below_grownB (BF.out n) (by have := HKB.out; omega) (set_grown _ _ _ _), limL_set (o := 2) (u := min nl t.num) (LF.out n) hne0 (a, min nl t.num) (hi, nh) rfl rfl rfl rfl⟩
          clear t0 t1 t2 t3 z0 z2 fF0 fF1 fF2 fF3
          obtain ⟨W2, hW2⟩ : ∃ W2 : World, (n.w.setCell ⟨kB, 2, none⟩ (.int .i64 (min nl t.num))).drew = W2 := ⟨_, rfl⟩
          rw [hW2] at S2 ⊢
          clear hW2
          obtain ⟨G, hC0, HG, LG, BG, hne⟩ := cls S2
          haveI := hne
          obtain ⟨g0, rfl⟩ : ∃ n : Wd G, W2 = n.w := ⟨⟨_, hC0⟩, rfl⟩
          have fG0 : ∀ n : Wd G, n.w.cell? ⟨kB, 0, none⟩ = some (.int .i64 a) := fun n => (LG.out n).1.2.1
          have fG1 : ∀ n : Wd G, n.w.cell? ⟨kB, 1, none⟩ = some (.int .i64 hi) := fun n => (LG.out n).2.1.2.1
          have fG2 : ∀ n : Wd G, n.w.cell? ⟨kB, 2, none⟩ = some (.int .i64 (min nl t.num)) := fun n => (LG.out n).2.2.1.2.1
          have fG3 : ∀ n : Wd G, n.w.cell? ⟨kB, 3, none⟩ = some (.int .i64 nh) := fun n => (LG.out n).2.2.2.1.2.1
          clear S2 hC0
          have t0 : ∀ n : Wd G, n.w.cell? ⟨b4, k * 4, none⟩ = some (.int .i64 t.num) := fun n => HT.out.1 _ (BG.out n)
          have z1 : ∀ n : Wd G, n.w.frozen? ⟨kB, 1, none⟩ = false := fun n => (LG.out n).2.1.2.2
          have z3 : ∀ n : Wd G, n.w.frozen? ⟨kB, 3, none⟩ = false := fun n => (LG.out n).2.2.2.1.2.2
          clear hc3
          by_cases hd1 : b < hi
          · have HSTB := Lib.hid (show hiStep wear y (hi, nh) t = (b, t.num) from by unfold hiStep; rw [HB.out]; exact if_pos hd1)
            go_upto_region 4 with fail
            have S3 : St w _ (limL B kB (a, min nl t.num) (b, t.num)) := ⟨below_grownB (BG.out g0) (by have := HKB.out; omega) (grown_trans (set_grown _ _ _ _) (set_grown _ _ _ _)), limL_set (o := 3) (u := t.num) (limL_set (o := 1) (u := b) (LG.out g0) hne0 (a, min nl t.num) (b, nh) rfl rfl rfl rfl) hne0 (a, min nl t.num) (b, t.num) rfl rfl rfl rfl⟩
            go_wp2_with fail
            go_roundw
            case rel => exact ⟨k + 1, by rw [HSA.out, HSB.out, HSTA.out, HSTB.out]; exact S3, by simp, hlt⟩
            case measure => simp [intOf]; omega
          · by_cases hd2 : b = hi ∧ b < 12000
            · have HSTB := Lib.hid (show hiStep wear y (hi, nh) t = (hi, min nh t.num) from by unfold hiStep; rw [HB.out, if_neg hd1]; exact if_pos hd2)
              obtain ⟨rfl, hd3⟩ := hd2
              clear hd1
              go_upto_region 16 with fail
              go_region
              go_upto_region 4 with fail
              have S3 : St w _ (limL B kB (a, min nl t.num) (b, min nh t.num)) := ⟨below_grownB ((BG.out g0).trans ((below_dr _).mono (BG.out g0).size)) (by have := HKB.out; omega) (set_grown _ _ _ _), limL_set (o := 3) (u := min nh t.num) ((LG.out g0).keep (below_dr _)) hne0 (a, min nl t.num) (b, min nh t.num) rfl rfl rfl rfl⟩
              go_wp2_with fail
              go_roundw
              case rel => exact ⟨k + 1, by rw [HSA.out, HSB.out, HSTA.out, HSTB.out]; exact S3, by simp, hlt⟩
              case measure => simp [intOf]; omega
            · have HSTB := Lib.hid (show hiStep wear y (hi, nh) t = (hi, nh) from by unfold hiStep; rw [HB.out, if_neg hd1]; exact if_neg hd2)
              have hd3 : b = hi → ¬ b < 12000 := fun e e' => hd2 ⟨e, e'⟩
              clear hd2
              by_cases hd4 : b = hi
              · have hd5 := hd3 hd4
                have hd6 : (b == hi) = true := by simpa using hd4
                clear hd3 hd4
                go_upto_region 4 with fail
                have S3 : St w _ (limL B kB (a, min nl t.num) (hi, nh)) := ⟨BG.out g0, LG.out g0⟩
                go_wp2_with fail
                go_roundw
                case rel => exact ⟨k + 1, by rw [HSA.out, HSB.out, HSTA.out, HSTB.out]; exact S3, by simp, hlt⟩
                case measure => simp [intOf]; omega
              · have hd6 : (b == hi) = false := by simpa using hd4
                clear hd3 hd4
                go_upto_region 4 with fail
                have S3 : St w _ (limL B kB (a, min nl t.num) (hi, nh)) := ⟨BG.out g0, LG.out g0⟩
                go_wp2_with fail
                go_roundw
                case rel => exact ⟨k + 1, by rw [HSA.out, HSB.out, HSTA.out, HSTB.out]; exact S3, by simp, hlt⟩
                case measure => simp [intOf]; omega
        · have HSTA := Lib.hid (show loStep wear y (lo, nl) t = (lo, nl) from by unfold loStep; rw [HA.out, if_neg hc1]; exact if_neg hc2)
          have hc3 : a = lo → ¬ 9000 < a := fun e e' => hc2 ⟨e, e'⟩
          clear hc2
          by_cases hc4 : a = lo
          · have hc6 : (a == lo) = true := by simpa using hc4
            have hc5 := hc3 hc4
            clear hc3 hc4
            go_upto_region 12 with fail
            have S2 : St w n.w (limL B kB (lo, nl) (hi, nh)) := ⟨BF.out n, LF.out n⟩
            clear t0 t1 t2 t3 z0 z2 fF0 fF1 fF2 fF3
            obtain ⟨W2, hW2⟩ : ∃ W2 : World, n.w = W2 := ⟨_, rfl⟩
            rw [hW2] at S2 ⊢
            clear hW2 hc6 hc5 hc1
            obtain ⟨G, hC0, HG, LG, BG, hne⟩ := cls S2
            haveI := hne
            obtain ⟨g0, rfl⟩ : ∃ n : Wd G, W2 = n.w := ⟨⟨_, hC0⟩, rfl⟩
            have fG0 : ∀ n : Wd G, n.w.cell? ⟨kB, 0, none⟩ = some (.int .i64 lo) := fun n => (LG.out n).1.2.1
            have fG1 : ∀ n : Wd G, n.w.cell? ⟨kB, 1, none⟩ = some (.int .i64 hi) := fun n => (LG.out n).2.1.2.1
            have fG2 : ∀ n : Wd G, n.w.cell? ⟨kB, 2, none⟩ = some (.int .i64 nl) := fun n => (LG.out n).2.2.1.2.1
            have fG3 : ∀ n : Wd G, n.w.cell? ⟨kB, 3, none⟩ = some (.int .i64 nh) := fun n => (LG.out n).2.2.2.1.2.1
            clear S2 hC0
            have t0 : ∀ n : Wd G, n.w.cell? ⟨b4, k * 4, none⟩ = some (.int .i64 t.num) := fun n => HT.out.1 _ (BG.out n)
            have z1 : ∀ n : Wd G, n.w.frozen? ⟨kB, 1, none⟩ = false := fun n => (LG.out n).2.1.2.2
            have z3 : ∀ n : Wd G, n.w.frozen? ⟨kB, 3, none⟩ = false := fun n => (LG.out n).2.2.2.1.2.2
            by_cases hd1 : b < hi
            · have HSTB := Lib.hid (show hiStep wear y (hi, nh) t = (b, t.num) from by unfold hiStep; rw [HB.out]; exact if_pos hd1)
              go_upto_region 4 with fail
              have S3 : St w _ (limL B kB (lo, nl) (b, t.num)) := ⟨below_grownB (BG.out g0) (by have := HKB.out; omega) (grown_trans (set_grown _ _ _ _) (set_grown _ _ _ _)), limL_set (o := 3) (u := t.num) (limL_set (o := 1) (u := b) (LG.out g0) hne0 (lo, nl) (b, nh) rfl rfl rfl rfl) hne0 (lo, nl) (b, t.num) rfl rfl rfl rfl⟩
              go_wp2_with fail
              go_roundw
              case rel => exact ⟨k + 1, by rw [HSA.out, HSB.out, HSTA.out, HSTB.out]; exact S3, by simp, hlt⟩
              case measure => simp [intOf]; omega
            · by_cases hd2 : b = hi ∧ b < 12000
              · have HSTB := Lib.hid (show hiStep wear y (hi, nh) t = (hi, min nh t.num) from by unfold hiStep; rw [HB.out, if_neg hd1]; exact if_pos hd2)
                obtain ⟨rfl, hd3⟩ := hd2
                clear hd1
                go_upto_region 16 with fail
                go_region
                go_upto_region 4 with fail
                have S3 : St w _ (limL B kB (lo, nl) (b, min nh t.num)) := ⟨below_grownB ((BG.out g0).trans ((below_dr _).mono (BG.out g0).size)) (by have := HKB.out; omega) (set_grown _ _ _ _), limL_set (o := 3) (u := min nh t.num) ((LG.out g0).keep (below_dr _)) hne0 (lo, nl) (b, min nh t.num) rfl rfl rfl rfl⟩
                go_wp2_with fail
                go_roundw
                case rel => exact ⟨k + 1, by rw [HSA.out, HSB.out, HSTA.out, HSTB.out]; exact S3, by simp, hlt⟩
                case measure => simp [intOf]; omega
              · have HSTB := Lib.hid (show hiStep wear y (hi, nh) t = (hi, nh) from by unfold hiStep; rw [HB.out, if_neg hd1]; exact if_neg hd2)
                have hd3 : b = hi → ¬ b < 12000 := fun e e' => hd2 ⟨e, e'⟩
                clear hd2
                by_cases hd4 : b = hi
                · have hd5 := hd3 hd4
                  have hd6 : (b == hi) = true := by simpa using hd4
                  clear hd3 hd4
                  go_upto_region 4 with fail
                  have S3 : St w _ (limL B kB (lo, nl) (hi, nh)) := ⟨BG.out g0, LG.out g0⟩
                  go_wp2_with fail
                  go_roundw
                  case rel => exact ⟨k + 1, by rw [HSA.out, HSB.out, HSTA.out, HSTB.out]; exact S3, by simp, hlt⟩
                  case measure => simp [intOf]; omega
                · have hd6 : (b == hi) = false := by simpa using hd4
                  clear hd3 hd4
                  go_upto_region 4 with fail
                  have S3 : St w _ (limL B kB (lo, nl) (hi, nh)) := ⟨BG.out g0, LG.out g0⟩
                  go_wp2_with fail
                  go_roundw
                  case rel => exact ⟨k + 1, by rw [HSA.out, HSB.out, HSTA.out, HSTB.out]; exact S3, by simp, hlt⟩
                  case measure => simp [intOf]; omega
          · have hc6 : (a == lo) = false := by simpa using hc4
            clear hc3 hc4
            go_upto_region 12 with fail
            have S2 : St w n.w (limL B kB (lo, nl) (hi, nh)) := ⟨BF.out n, LF.out n⟩
            clear t0 t1 t2 t3 z0 z2 fF0 fF1 fF2 fF3
            obtain ⟨W2, hW2⟩ : ∃ W2 : World, n.w = W2 := ⟨_, rfl⟩
            rw [hW2] at S2 ⊢
            clear hW2 hc6 hc1
            obtain ⟨G, hC0, HG, LG, BG, hne⟩ := cls S2
            haveI := hne
            obtain ⟨g0, rfl⟩ : ∃ n : Wd G, W2 = n.w := ⟨⟨_, hC0⟩, rfl⟩
            have fG0 : ∀ n : Wd G, n.w.cell? ⟨kB, 0, none⟩ = some (.int .i64 lo) := fun n => (LG.out n).1.2.1
            have fG1 : ∀ n : Wd G, n.w.cell? ⟨kB, 1, none⟩ = some (.int .i64 hi) := fun n => (LG.out n).2.1.2.1
            have fG2 : ∀ n : Wd G, n.w.cell? ⟨kB, 2, none⟩ = some (.int .i64 nl) := fun n => (LG.out n).2.2.1.2.1
            have fG3 : ∀ n : Wd G, n.w.cell? ⟨kB, 3, none⟩ = some (.int .i64 nh) := fun n => (LG.out n).2.2.2.1.2.1
            clear S2 hC0
            have t0 : ∀ n : Wd G, n.w.cell? ⟨b4, k * 4, none⟩ = some (.int .i64 t.num) := fun n => HT.out.1 _ (BG.out n)
            have z1 : ∀ n : Wd G, n.w.frozen? ⟨kB, 1, none⟩ = false := fun n => (LG.out n).2.1.2.2
            have z3 : ∀ n : Wd G, n.w.frozen? ⟨kB, 3, none⟩ = false := fun n => (LG.out n).2.2.2.1.2.2
            by_cases hd1 : b < hi
            · have HSTB := Lib.hid (show hiStep wear y (hi, nh) t = (b, t.num) from by unfold hiStep; rw [HB.out]; exact if_pos hd1)
              go_upto_region 4 with fail
              have S3 : St w _ (limL B kB (lo, nl) (b, t.num)) := ⟨below_grownB (BG.out g0) (by have := HKB.out; omega) (grown_trans (set_grown _ _ _ _) (set_grown _ _ _ _)), limL_set (o := 3) (u := t.num) (limL_set (o := 1) (u := b) (LG.out g0) hne0 (lo, nl) (b, nh) rfl rfl rfl rfl) hne0 (lo, nl) (b, t.num) rfl rfl rfl rfl⟩
              go_wp2_with fail
              go_roundw
              case rel => exact ⟨k + 1, by rw [HSA.out, HSB.out, HSTA.out, HSTB.out]; exact S3, by simp, hlt⟩
              case measure => simp [intOf]; omega
            · by_cases hd2 : b = hi ∧ b < 12000
              · have HSTB := Lib.hid (show hiStep wear y (hi, nh) t = (hi, min nh t.num) from by unfold hiStep; rw [HB.out, if_neg hd1]; exact if_pos hd2)
                obtain ⟨rfl, hd3⟩ := hd2
                clear hd1
                go_upto_region 16 with fail
                go_region
                go_upto_region 4 with fail
                have S3 : St w _ (limL B kB (lo, nl) (b, min nh t.num)) := ⟨below_grownB ((BG.out g0).trans ((below_dr _).mono (BG.out g0).size)) (by have := HKB.out; omega) (set_grown _ _ _ _), limL_set (o := 3) (u := min nh t.num) ((LG.out g0).keep (below_dr _)) hne0 (lo, nl) (b, min nh t.num) rfl rfl rfl rfl⟩
                go_wp2_with fail
                go_roundw
                case rel => exact ⟨k + 1, by rw [HSA.out, HSB.out, HSTA.out, HSTB.out]; exact S3, by simp, hlt⟩
                case measure => simp [intOf]; omega
              · have HSTB := Lib.hid (show hiStep wear y (hi, nh) t = (hi, nh) from by unfold hiStep; rw [HB.out, if_neg hd1]; exact if_neg hd2)
                have hd3 : b = hi → ¬ b < 12000 := fun e e' => hd2 ⟨e, e'⟩
                clear hd2
                by_cases hd4 : b = hi
                · have hd5 := hd3 hd4
                  have hd6 : (b == hi) = true := by simpa using hd4
                  clear hd3 hd4
                  go_upto_region 4 with fail
                  have S3 : St w _ (limL B kB (lo, nl) (hi, nh)) := ⟨BG.out g0, LG.out g0⟩
                  go_wp2_with fail
                  go_roundw
                  case rel => exact ⟨k + 1, by rw [HSA.out, HSB.out, HSTA.out, HSTB.out]; exact S3, by simp, hlt⟩
                  case measure => simp [intOf]; omega
                · have hd6 : (b == hi) = false := by simpa using hd4
                  clear hd3 hd4
                  go_upto_region 4 with fail
                  have S3 : St w _ (limL B kB (lo, nl) (hi, nh)) := ⟨BG.out g0, LG.out g0⟩
                  go_wp2_with fail
                  go_roundw
                  case rel => exact ⟨k + 1, by rw [HSA.out, HSB.out, HSTA.out, HSTB.out]; exact S3, by simp, hlt⟩
                  case measure => simp [intOf]; omega
    · obtain rfl : k = l.length := by omega
      rw [List.take_length] at hS
      rw [HPA.out, HPB.out] at hS
      obtain ⟨lo, nl⟩ := PA
      obtain ⟨hi, nh⟩ := PB
      have HS := Lib.hid hS
      obtain ⟨⟨g0, f0, -⟩, ⟨-, f1, -⟩, ⟨-, f2, -⟩, ⟨-, f3, -⟩, ⟨g1, e0, y0⟩, ⟨-, e1, y1⟩, ⟨-, e2, y2⟩, ⟨-, e3, y3⟩, -⟩ := hS.c
      clear hS
      go_wp2_with fail
      refine bodyPost_ret (v := .agg #[.int .i64 lo, .int .i64 hi, .int .i64 nl, .int .i64 nh]) (by simp [results, Tryz.results162, go_sem, e0, e1, e2, e3]) rfl ⟨rfl, ?_⟩
      have hq := HKB.out
      exact below_grownB HS.out.b (by omega) (grown_trans (grown_trans (grown_trans (set_grown _ _ _ _) (set_grown _ _ _ _)) (set_grown _ _ _ _)) (set_grown _ _ _ _))
end Go.Proofs.YtcejmfgbfdhflaaGreat
