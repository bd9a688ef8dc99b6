import Derived.Test.YtcejmfgbfdhflaaGreatCg
import Derived.Test.YtcejmfgbfdhflaaGreatCk
import Derived.WalkKit
import Derived.LoopTactic
import Derived.WalkSpells
import Derived.WalkLawsBesides
import Derived.Lib.Hide
import Derived.BigQuiet
import Derived.IntWalk
import Derived.Deep.DeepMust
import Derived.WalkSmall
import Derived.StillTailTactics
import Derived.Deep.RegionLaw
import Derived.Deep.RegionHeld3
import Derived.Deep.QuietTactic
namespace Go.Proofs.YtcejmfgbfdhflaaGreat
open Go.RowKit Go.Shelf Go.BigFrame Go.Sort
attribute [local go_sem] World.cell?_alloc_some
/-- The least of numbers. -/
def mnL (l : List Int) : Int := mns (l.headD 0) l
theorem mns_take (l : List Int) (a : Int) (k : Nat) (h : k < l.length) : mns a (l.take (k + 1)) = min (mns a (l.take k)) l[k] := by rw [take_snocG l k h, mns_snoc]
set_option maxRecDepth 100000 in
set_option maxHeartbeats 1600000 in
theorem minI_any (q : Option Addr) (cap : Nat) (l : List Int) (n : Nat) (hn : l.length = n) (h0 : 0 < n) (w : World) (hl : n ≤ 1000000) (h : IntsAt w q l) :
    Calls Tryz.prog 164 #[.slice q n cap] w fun e w' => e = .returned (.int .i64 (mnL l)) ∧ w = w' := by
  rcases h with rfl | ⟨b, o, rfl, hb, hc⟩
  · simp at hn; omega
  have HC := Lib.hid hc
  have c0 := hc 0 l[0] (List.getElem?_eq_getElem (by omega))
  rw [Nat.add_zero] at c0
  have HM : Hid (mnL l = mns l[0] (l.take n)) := by
    unfold Hid mnL
    rw [List.take_of_length_le (by omega)]
    cases l with
    | nil => simp at hn; omega
    | cons a l => rfl
  have H1 : Hid (mns l[0] (l.take 1) = l[0]) := by
    unfold Hid
    rw [mns_take l _ 0 (by omega)]
    simp [mns]
  obtain ⟨a, ha⟩ : ∃ a, l[0] = a := ⟨_, rfl⟩
  rw [ha] at c0 HM H1
  have hn1 : ¬ ((n : Int) < 1) := by omega
  have hn2 : (0 : Int) < (n : Int) := by omega
  clear hc ha
  go_enter Tryz.func164, Tryz.ntmps164
  go_wp2_with fail
  go_loop [3, 4] (fun v i => ∃ k : Nat, 1 ≤ k ∧ k ≤ n ∧ i = .int .i64 (k : Int) ∧ v = .int .i64 (mns a (l.take k))) (fun _ i => n - (intOf i).toNat)
  case atStart => exact ⟨1, Nat.le_refl _, h0, rfl, by rw [H1.out]⟩
  case round =>
    obtain ⟨k, hk1, hk, rfl, rfl⟩ := hrel
    by_cases hlt : k < n
    · have c1 := HC.out k l[k] (List.getElem?_eq_getElem (by omega))
      have HN : Hid (mns a (l.take (k + 1)) = min (mns a (l.take k)) l[k]) := mns_take l a k (by omega)
      obtain ⟨x, hx⟩ : ∃ x, l[k] = x := ⟨_, rfl⟩
      obtain ⟨m, hm⟩ : ∃ m, mns a (l.take k) = m := ⟨_, rfl⟩
      rw [hx] at c1 HN
      rw [hm] at HN ⊢
      have hlt' : (k : Int) < (n : Int) := by omega
      clear hx hm
      go_wp2_with fail
      all_goals
        go_round
        case rel => exact ⟨k + 1, by omega, hlt, by go_num, by rw [HN.out, ← ifmin]⟩
        case measure => simp [intOf]; omega
    · obtain rfl : k = n := by omega
      go_wp2_with fail
      go_ret
      exact ⟨ret_int (by rw [HM.out]), rfl⟩
set_option maxRecDepth 100000 in
set_option maxHeartbeats 1600000 in
theorem clos103_any (lo hi wear : Int) (q : Option Addr) (nn cap : Nat) (v : Value) (t : Th) (y a b : Int) (S Y L : Nat) (w : World) (ht : okTh t = true) (hw : 0 ≤ wear ∧ wear ≤ 1000) (hy : 0 ≤ y ∧ y ≤ 4000) (hv : ThAt w v t)
    (hS : Cs w [(S, 0, .int .i64 lo), (S, 1, .int .i64 hi), (S, 2, .int .i64 wear), (S, 3, .slice q nn cap)]) (hY : Cs w [(Y, 0, .int .i64 y)]) (hL : Cs w [(L, 0, .int .i64 a), (L, 1, .int .i64 b)]) :
    Calls Tryz.prog 103 #[v, .pointer (some ⟨S, 0, none⟩), .pointer (some ⟨Y, 0, none⟩), .pointer (some ⟨L, 0, none⟩)] w fun e w' => e = .returned (.bool (decide (lowT wear t y = a))) ∧ Gr w w' := by
  have C1 := fun W (h : Gr w W) => lowBy_any lo hi wear q nn cap v t y W ht hw hy (hv.keep h.below)
  obtain ⟨C, hC0, HC, LC, BC, hne⟩ := clsG (StG.nil w)
  haveI := hne
  have k : ∀ (a : Addr) (u : Value), w.cell? a = some u → ∀ n : Wd C, n.w.cell? a = some u := fun a u h n => ((BC.out n).below.cell (World.block_lt_of_cell? w _ h)).trans h
  have f0 := k _ _ hS.1.2.1
  have f1 := k _ _ hS.2.1.2.1
  have f2 := k _ _ hS.2.2.1.2.1
  have f3 := k _ _ hS.2.2.2.1.2.1
  have f4 := k _ _ hY.1.2.1
  have f5 := k _ _ hL.1.2.1
  have f6 := k _ _ hL.2.1.2.1
  obtain ⟨x, hx⟩ : ∃ x, lowT wear t y = x := ⟨_, rfl⟩
  rw [hx] at C1
  rw [hx]
  have D1 := cinGL HC BC C1
  have HB := Lib.hid (fun n : Wd C => BC.out n)
  obtain ⟨c0, rfl⟩ : ∃ n : Wd C, w = n.w := ⟨⟨_, hC0⟩, rfl⟩
  clear hS hY hL C1 k hC0 hv hx ht hw hy
  go_enter Tryz.func103, Tryz.ntmps103
  go_wp2_with fail
  refine wp_region_in C (HC.out _ _ (Wd.h _) (Gr.dr _)) (by kernel_rfl) (by kernel_rfl) ?_
  repeat (go_big_quiet_step (first | with_reducible exact (D1 _).out))
  refine wpQuiet_nil ?_
  intro wx hwx
  obtain ⟨n, rfl⟩ : ∃ n : Wd C, wx = n.w := ⟨⟨wx, hwx⟩, rfl⟩
  clear hwx
  go_wp2_with fail
  go_ret
  exact ⟨ret_bool (by rw [Bool.eq_iff_iff]; simp), HB.out _⟩
set_option maxRecDepth 100000 in
set_option maxHeartbeats 3200000 in
theorem leastNo103_any (s : Spl) (q : Option Addr) (cap : Nat) (y a b : Int) (S Y L : Nat) (w : World) (hs : okS s = true) (hcap : s.ths.length ≤ cap) (_ : cap ≤ maxLen) (hy : 0 ≤ y ∧ y ≤ 4000) (h : ThsAt w q s.ths)
    (hS : Cs w [(S, 0, .int .i64 s.lo), (S, 1, .int .i64 s.hi), (S, 2, .int .i64 s.wear), (S, 3, .slice q s.ths.length cap)]) (hY : Cs w [(Y, 0, .int .i64 y)]) (hL : Cs w [(L, 0, .int .i64 a), (L, 1, .int .i64 b)])
    (hex : ∃ t ∈ s.ths, lowT s.wear t y = a) :
    Calls Tryz.prog 102 #[s.v q cap, .func (.func 103) #[] #[.pointer (some ⟨S, 0, none⟩), .pointer (some ⟨Y, 0, none⟩), .pointer (some ⟨L, 0, none⟩)]] w fun e w' => e = .returned (.int .i64 (mnL ((s.ths.filter fun t => decide (lowT s.wear t y = a)).map (·.num)))) ∧ Below w.heap.size w w' := by
  obtain ⟨s1, s2, s3⟩ := okS_iff.1 hs
  obtain ⟨lo, hi, wear, ths⟩ := s
  simp only [Spl.v] at *
  have H := Lib.hid h
  have H2 := Lib.hid s2
  have H3 := Lib.hid s3
  have HY := Lib.hid hy
  have HCC := Lib.hid (And.intro hS (And.intro hY hL))
  have hl : ths.length ≤ 1000 := s1
  have HX : Hid (0 < ((ths.filter fun t => decide (lowT wear t y = a)).map (·.num)).length) := by
    obtain ⟨t, ht, he⟩ := hex
    have : t ∈ ths.filter fun t => decide (lowT wear t y = a) := List.mem_filter.2 ⟨ht, by simpa using he⟩
    unfold Hid
    rw [List.length_map]
    exact List.length_pos_of_mem this
  clear h s1 s2 s3 hs hy hS hY hL hex

  go_enter Tryz.func102, Tryz.ntmps102
  go_wp2_with fail
  obtain ⟨W0, hW0⟩ : ∃ W0, (w).alloc (.cells #[.int .i64 lo, .int .i64 hi, .int .i64 wear, .slice q ths.length cap] 111) = W0 := ⟨_, rfl⟩
  have S0 : St w W0 [(w.heap.size, 0, .int .i64 lo), (w.heap.size, 1, .int .i64 hi), (w.heap.size, 2, .int .i64 wear), (w.heap.size, 3, .slice q ths.length cap)] := by rw [← hW0]; exact ((St.nil w)).box #[.int .i64 lo, .int .i64 hi, .int .i64 wear, .slice q ths.length cap] 111 (w.heap.size) (by simp)
  rw [hW0]
  clear hW0
  obtain ⟨C, hC0, HC, LC, BC, hne⟩ := cls S0
  haveI := hne
  obtain ⟨c0, rfl⟩ : ∃ n : Wd C, W0 = n.w := ⟨⟨_, hC0⟩, rfl⟩
  have fC0 : ∀ n : Wd C, n.w.cell? ⟨w.heap.size, 0, none⟩ = some (.int .i64 lo) := fun n => (LC.out n).1.2.1
  have fC1 : ∀ n : Wd C, n.w.cell? ⟨w.heap.size, 1, none⟩ = some (.int .i64 hi) := fun n => (LC.out n).2.1.2.1
  have fC2 : ∀ n : Wd C, n.w.cell? ⟨w.heap.size, 2, none⟩ = some (.int .i64 wear) := fun n => (LC.out n).2.2.1.2.1
  have fC3 : ∀ n : Wd C, n.w.cell? ⟨w.heap.size, 3, none⟩ = some (.slice q ths.length cap) := fun n => (LC.out n).2.2.2.1.2.1
  clear S0 hC0
  go_wp2_with fail
  go_loopw [5, 11] (fun v i wr => ∃ (k : Nat), St w wr [(w.heap.size, 0, .int .i64 lo), (w.heap.size, 1, .int .i64 hi), (w.heap.size, 2, .int .i64 wear), (w.heap.size, 3, .slice q ths.length cap)] ∧ i = .int .i64 (k : Int) ∧ k ≤ ths.length ∧ OI wr (w.heap.size + 1) v (((ths.take k).filter fun t => decide (lowT wear t y = a)).map (·.num))) (fun v i wr => ths.length - (intOf i).toNat)
  case atStart => exact ⟨0, ⟨BC.out _, LC.out _⟩, rfl, Nat.zero_le _, World.ownsRow_nil _ _ _ _⟩
  case round =>
    obtain ⟨k, hS, rfl, hk, hO⟩ := hrel
    have HO := Lib.hid hO
    have HB := Lib.hid hS.b
    have HS := Lib.hid hS
    clear fC0 fC1 fC2 fC3 hO
    by_cases hlt : k < ths.length
    · rcases H.out with h0 | ⟨b2, o, rfl, hb, hc⟩
      · exact absurd hlt (by simp [h0])
      · obtain ⟨tv, htv, hth⟩ := hc k ths[k] (List.getElem?_eq_getElem hlt)
        have c1 := (hS.b.cell (p := ⟨b2, o + k, none⟩) hb).trans htv
        have CL := clos103_any lo hi wear (some ⟨b2, o, none⟩) ths.length cap tv ths[k] y a b S Y L wr (H3.out _ (List.getElem_mem hlt)) H2.out HY.out (hth.keep hS.b) (HCC.out.1.keep hS.b) (HCC.out.2.1.keep hS.b) (HCC.out.2.2.keep hS.b)
        have HN : Hid (((ths.take (k + 1)).filter fun t => decide (lowT wear t y = a)).map (·.num) = ((ths.take k).filter fun t => decide (lowT wear t y = a)).map (·.num) ++ (if decide (lowT wear ths[k] y = a) = true then [ths[k].num] else [])) := by
          unfold Hid
          rw [take_snocG ths k hlt, List.filter_append, List.map_append]
          congr 1
          by_cases e : lowT wear ths[k] y = a <;> simp [e]
        have HLn : Hid ((((ths.take k).filter fun t => decide (lowT wear t y = a)).map (·.num)).length ≤ 1000000) := by
          unfold Hid
          have := List.length_filter_le (fun t => decide (lowT wear t y = a)) (ths.take k)
          rw [List.length_map]; simp at this; omega
        have HTA := Lib.hid (hth.keep hS.b)
        obtain ⟨t, ht⟩ : ∃ t, ths[k] = t := ⟨_, rfl⟩
        rw [ht] at CL HN HTA
        obtain ⟨z, hz⟩ : ∃ z, decide (lowT wear t y = a) = z := ⟨_, rfl⟩
        rw [hz] at CL HN
        have hlt' : (k : Int) < (ths.length : Int) := by omega
        obtain ⟨f0, f1, f2, f3, -⟩ := hS.c
        obtain ⟨-, f0, -⟩ := f0
        obtain ⟨-, f1, -⟩ := f1
        obtain ⟨-, f2, -⟩ := f2
        obtain ⟨-, f3, -⟩ := f3
        have HSz := Lib.hid hS.c.1.1
        clear hc htv hth hb hS ht hz
        cases z
        · go_wp2_with (go_at_call 103; refine CL.mono ?_; rintro e w1 ⟨rfl, hg⟩; have HG := Lib.hid hg.below; clear hg CL)
          go_roundw
          case rel => exact ⟨k + 1, HS.out.next HG.out, by simp, hlt, by rw [HN.out]; simp only [Bool.false_eq_true, if_false, List.append_nil]; exact ownsRow_keep HO.out HG.out⟩
          case measure => simp [intOf]; omega
        · go_wp2_with (first
            | (go_at_call 103; refine CL.mono ?_; rintro e w1 ⟨rfl, hg⟩; have HG := Lib.hid hg.below; have N1 := number_any tv t w1 (HTA.out.keep hg.below); clear hg CL)
            | (go_at_call 163; with_reducible refine N1.mono ?_; rintro e w' ⟨rfl, rfl⟩; clear N1)
            | (at_builtin; refine appI (ownsRow_keep HO.out HG.out) (Nat.le_trans (Nat.succ_le_of_lt HSz.out) HG.out.size) t.num HLn.out rfl _ _ rfl rfl rfl ?_; intro v' w2 hO2 hg2))
          go_roundw
          case rel => exact ⟨k + 1, (HS.out.next HG.out).grown (ownsRow_keep HO.out HG.out) hg2 (Nat.le_succ _) (by simp), by simp, hlt, by rw [HN.out]; simp only [if_true]; exact hO2⟩
          case measure => simp [intOf]; omega
    · obtain rfl : k = ths.length := by omega
      rw [List.take_length] at HO
      obtain ⟨q2, cap2, rfl, hI, -⟩ := OI.ints HO.out
      have hlen : ((ths.filter fun t => decide (lowT wear t y = a)).map (·.num)).length ≤ 1000000 := by
        have := List.length_filter_le (fun t => decide (lowT wear t y = a)) ths
        rw [List.length_map]; omega
      have CG := minI_any q2 cap2 _ _ rfl HX.out wr hlen hI
      obtain ⟨N, hN⟩ : ∃ N, ((ths.filter fun t => decide (lowT wear t y = a)).map (·.num)).length = N := ⟨_, rfl⟩
      rw [hN] at CG ⊢
      clear hI HO hS hN hlen
      go_wp2_with (go_at_call 164; refine CG.mono ?_; rintro e w1 ⟨rfl, rfl⟩)
      go_ret
      exact ⟨rfl, HB.out⟩
set_option maxRecDepth 100000 in
set_option maxHeartbeats 1600000 in
theorem clos105_any (lo hi wear : Int) (q : Option Addr) (nn cap : Nat) (v : Value) (t : Th) (y a b : Int) (S Y L : Nat) (w : World) (ht : okTh t = true) (hw : 0 ≤ wear ∧ wear ≤ 1000) (hy : 0 ≤ y ∧ y ≤ 4000) (hv : ThAt w v t)
    (hS : Cs w [(S, 0, .int .i64 lo), (S, 1, .int .i64 hi), (S, 2, .int .i64 wear), (S, 3, .slice q nn cap)]) (hY : Cs w [(Y, 0, .int .i64 y)]) (hL : Cs w [(L, 0, .int .i64 a), (L, 1, .int .i64 b)]) :
    Calls Tryz.prog 105 #[v, .pointer (some ⟨S, 0, none⟩), .pointer (some ⟨Y, 0, none⟩), .pointer (some ⟨L, 0, none⟩)] w fun e w' => e = .returned (.bool (decide (highT wear t y = b))) ∧ Gr w w' := by
  have C1 := fun W (h : Gr w W) => highBy_any lo hi wear q nn cap v t y W ht hw hy (hv.keep h.below)
  obtain ⟨C, hC0, HC, LC, BC, hne⟩ := clsG (StG.nil w)
  haveI := hne
  have k : ∀ (a : Addr) (u : Value), w.cell? a = some u → ∀ n : Wd C, n.w.cell? a = some u := fun a u h n => ((BC.out n).below.cell (World.block_lt_of_cell? w _ h)).trans h
  have f0 := k _ _ hS.1.2.1
  have f1 := k _ _ hS.2.1.2.1
  have f2 := k _ _ hS.2.2.1.2.1
  have f3 := k _ _ hS.2.2.2.1.2.1
  have f4 := k _ _ hY.1.2.1
  have f5 := k _ _ hL.1.2.1
  have f6 := k _ _ hL.2.1.2.1
  obtain ⟨x, hx⟩ : ∃ x, highT wear t y = x := ⟨_, rfl⟩
  rw [hx] at C1
  rw [hx]
  have D1 := cinGL HC BC C1
  have HB := Lib.hid (fun n : Wd C => BC.out n)
  obtain ⟨c0, rfl⟩ : ∃ n : Wd C, w = n.w := ⟨⟨_, hC0⟩, rfl⟩
  clear hS hY hL C1 k hC0 hv hx ht hw hy
  go_enter Tryz.func105, Tryz.ntmps105
  go_wp2_with fail
  refine wp_region_in C (HC.out _ _ (Wd.h _) (Gr.dr _)) (by kernel_rfl) (by kernel_rfl) ?_
  repeat (go_big_quiet_step (first | with_reducible exact (D1 _).out))
  refine wpQuiet_nil ?_
  intro wx hwx
  obtain ⟨n, rfl⟩ : ∃ n : Wd C, wx = n.w := ⟨⟨wx, hwx⟩, rfl⟩
  clear hwx
  go_wp2_with fail
  go_ret
  exact ⟨ret_bool (by rw [Bool.eq_iff_iff]; simp), HB.out _⟩
set_option maxRecDepth 100000 in
set_option maxHeartbeats 3200000 in
theorem leastNo105_any (s : Spl) (q : Option Addr) (cap : Nat) (y a b : Int) (S Y L : Nat) (w : World) (hs : okS s = true) (hcap : s.ths.length ≤ cap) (_ : cap ≤ maxLen) (hy : 0 ≤ y ∧ y ≤ 4000) (h : ThsAt w q s.ths)
    (hS : Cs w [(S, 0, .int .i64 s.lo), (S, 1, .int .i64 s.hi), (S, 2, .int .i64 s.wear), (S, 3, .slice q s.ths.length cap)]) (hY : Cs w [(Y, 0, .int .i64 y)]) (hL : Cs w [(L, 0, .int .i64 a), (L, 1, .int .i64 b)])
    (hex : ∃ t ∈ s.ths, highT s.wear t y = b) :
    Calls Tryz.prog 102 #[s.v q cap, .func (.func 105) #[] #[.pointer (some ⟨S, 0, none⟩), .pointer (some ⟨Y, 0, none⟩), .pointer (some ⟨L, 0, none⟩)]] w fun e w' => e = .returned (.int .i64 (mnL ((s.ths.filter fun t => decide (highT s.wear t y = b)).map (·.num)))) ∧ Below w.heap.size w w' := by
  obtain ⟨s1, s2, s3⟩ := okS_iff.1 hs
  obtain ⟨lo, hi, wear, ths⟩ := s
  simp only [Spl.v] at *
  have H := Lib.hid h
  have H2 := Lib.hid s2
  have H3 := Lib.hid s3
  have HY := Lib.hid hy
  have HCC := Lib.hid (And.intro hS (And.intro hY hL))
  have hl : ths.length ≤ 1000 := s1
  have HX : Hid (0 < ((ths.filter fun t => decide (highT wear t y = b)).map (·.num)).length) := by
    obtain ⟨t, ht, he⟩ := hex
    have : t ∈ ths.filter fun t => decide (highT wear t y = b) := List.mem_filter.2 ⟨ht, by simpa using he⟩
    unfold Hid
    rw [List.length_map]
    exact List.length_pos_of_mem this
  clear h s1 s2 s3 hs hy hS hY hL hex

  go_enter Tryz.func102, Tryz.ntmps102
  go_wp2_with fail
  obtain ⟨W0, hW0⟩ : ∃ W0, (w).alloc (.cells #[.int .i64 lo, .int .i64 hi, .int .i64 wear, .slice q ths.length cap] 111) = W0 := ⟨_, rfl⟩
  have S0 : St w W0 [(w.heap.size, 0, .int .i64 lo), (w.heap.size, 1, .int .i64 hi), (w.heap.size, 2, .int .i64 wear), (w.heap.size, 3, .slice q ths.length cap)] := by rw [← hW0]; exact ((St.nil w)).box #[.int .i64 lo, .int .i64 hi, .int .i64 wear, .slice q ths.length cap] 111 (w.heap.size) (by simp)
  rw [hW0]
  clear hW0
  obtain ⟨C, hC0, HC, LC, BC, hne⟩ := cls S0
  haveI := hne
  obtain ⟨c0, rfl⟩ : ∃ n : Wd C, W0 = n.w := ⟨⟨_, hC0⟩, rfl⟩
  have fC0 : ∀ n : Wd C, n.w.cell? ⟨w.heap.size, 0, none⟩ = some (.int .i64 lo) := fun n => (LC.out n).1.2.1
  have fC1 : ∀ n : Wd C, n.w.cell? ⟨w.heap.size, 1, none⟩ = some (.int .i64 hi) := fun n => (LC.out n).2.1.2.1
  have fC2 : ∀ n : Wd C, n.w.cell? ⟨w.heap.size, 2, none⟩ = some (.int .i64 wear) := fun n => (LC.out n).2.2.1.2.1
  have fC3 : ∀ n : Wd C, n.w.cell? ⟨w.heap.size, 3, none⟩ = some (.slice q ths.length cap) := fun n => (LC.out n).2.2.2.1.2.1
  clear S0 hC0
  go_wp2_with fail
  go_loopw [5, 11] (fun v i wr => ∃ (k : Nat), St w wr [(w.heap.size, 0, .int .i64 lo), (w.heap.size, 1, .int .i64 hi), (w.heap.size, 2, .int .i64 wear), (w.heap.size, 3, .slice q ths.length cap)] ∧ i = .int .i64 (k : Int) ∧ k ≤ ths.length ∧ OI wr (w.heap.size + 1) v (((ths.take k).filter fun t => decide (highT wear t y = b)).map (·.num))) (fun v i wr => ths.length - (intOf i).toNat)
  case atStart => exact ⟨0, ⟨BC.out _, LC.out _⟩, rfl, Nat.zero_le _, World.ownsRow_nil _ _ _ _⟩
  case round =>
    obtain ⟨k, hS, rfl, hk, hO⟩ := hrel
    have HO := Lib.hid hO
    have HB := Lib.hid hS.b
    have HS := Lib.hid hS
    clear fC0 fC1 fC2 fC3 hO
    by_cases hlt : k < ths.length
    · rcases H.out with h0 | ⟨b2, o, rfl, hb, hc⟩
      · exact absurd hlt (by simp [h0])
      · obtain ⟨tv, htv, hth⟩ := hc k ths[k] (List.getElem?_eq_getElem hlt)
        have c1 := (hS.b.cell (p := ⟨b2, o + k, none⟩) hb).trans htv
        have CL := clos105_any lo hi wear (some ⟨b2, o, none⟩) ths.length cap tv ths[k] y a b S Y L wr (H3.out _ (List.getElem_mem hlt)) H2.out HY.out (hth.keep hS.b) (HCC.out.1.keep hS.b) (HCC.out.2.1.keep hS.b) (HCC.out.2.2.keep hS.b)
        have HN : Hid (((ths.take (k + 1)).filter fun t => decide (highT wear t y = b)).map (·.num) = ((ths.take k).filter fun t => decide (highT wear t y = b)).map (·.num) ++ (if decide (highT wear ths[k] y = b) = true then [ths[k].num] else [])) := by
          unfold Hid
          rw [take_snocG ths k hlt, List.filter_append, List.map_append]
          congr 1
          by_cases e : highT wear ths[k] y = b <;> simp [e]
        have HLn : Hid ((((ths.take k).filter fun t => decide (highT wear t y = b)).map (·.num)).length ≤ 1000000) := by
          unfold Hid
          have := List.length_filter_le (fun t => decide (highT wear t y = b)) (ths.take k)
          rw [List.length_map]; simp at this; omega
        have HTA := Lib.hid (hth.keep hS.b)
        obtain ⟨t, ht⟩ : ∃ t, ths[k] = t := ⟨_, rfl⟩
        rw [ht] at CL HN HTA
        obtain ⟨z, hz⟩ : ∃ z, decide (highT wear t y = b) = z := ⟨_, rfl⟩
        rw [hz] at CL HN
        have hlt' : (k : Int) < (ths.length : Int) := by omega
        obtain ⟨f0, f1, f2, f3, -⟩ := hS.c
        obtain ⟨-, f0, -⟩ := f0
        obtain ⟨-, f1, -⟩ := f1
        obtain ⟨-, f2, -⟩ := f2
        obtain ⟨-, f3, -⟩ := f3
        have HSz := Lib.hid hS.c.1.1
        clear hc htv hth hb hS ht hz
        cases z
        · go_wp2_with (go_at_call 105; refine CL.mono ?_; rintro e w1 ⟨rfl, hg⟩; have HG := Lib.hid hg.below; clear hg CL)
          go_roundw
          case rel => exact ⟨k + 1, HS.out.next HG.out, by simp, hlt, by rw [HN.out]; simp only [Bool.false_eq_true, if_false, List.append_nil]; exact ownsRow_keep HO.out HG.out⟩
          case measure => simp [intOf]; omega
        · go_wp2_with (first
            | (go_at_call 105; refine CL.mono ?_; rintro e w1 ⟨rfl, hg⟩; have HG := Lib.hid hg.below; have N1 := number_any tv t w1 (HTA.out.keep hg.below); clear hg CL)
            | (go_at_call 163; with_reducible refine N1.mono ?_; rintro e w' ⟨rfl, rfl⟩; clear N1)
            | (at_builtin; refine appI (ownsRow_keep HO.out HG.out) (Nat.le_trans (Nat.succ_le_of_lt HSz.out) HG.out.size) t.num HLn.out rfl _ _ rfl rfl rfl ?_; intro v' w2 hO2 hg2))
          go_roundw
          case rel => exact ⟨k + 1, (HS.out.next HG.out).grown (ownsRow_keep HO.out HG.out) hg2 (Nat.le_succ _) (by simp), by simp, hlt, by rw [HN.out]; simp only [if_true]; exact hO2⟩
          case measure => simp [intOf]; omega
    · obtain rfl : k = ths.length := by omega
      rw [List.take_length] at HO
      obtain ⟨q2, cap2, rfl, hI, -⟩ := OI.ints HO.out
      have hlen : ((ths.filter fun t => decide (highT wear t y = b)).map (·.num)).length ≤ 1000000 := by
        have := List.length_filter_le (fun t => decide (highT wear t y = b)) ths
        rw [List.length_map]; omega
      have CG := minI_any q2 cap2 _ _ rfl HX.out wr hlen hI
      obtain ⟨N, hN⟩ : ∃ N, ((ths.filter fun t => decide (highT wear t y = b)).map (·.num)).length = N := ⟨_, rfl⟩
      rw [hN] at CG ⊢
      clear hI HO hS hN hlen
      go_wp2_with (go_at_call 164; refine CG.mono ?_; rintro e w1 ⟨rfl, rfl⟩)
      go_ret
      exact ⟨rfl, HB.out⟩
end Go.Proofs.YtcejmfgbfdhflaaGreat
