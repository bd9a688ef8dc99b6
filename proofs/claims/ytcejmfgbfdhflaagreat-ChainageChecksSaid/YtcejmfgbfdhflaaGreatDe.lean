import Derived.Test.YtcejmfgbfdhflaaGreatDd
import Derived.Laws.AppendOwnNone
import Derived.Shelf.SlSortCmp.NoneTotal
import Derived.WalkKit
import Derived.LoopTactic
import Derived.WalkSpells
import Derived.WalkLawsBesides
import Derived.Lib.Hide
import Derived.BigQuiet
import Derived.IntWalk
import Derived.Deep.DeepMust
import Derived.WalkSmall
import Derived.StillTailTactics
import Derived.Deep.RegionLaw
import Derived.Deep.RegionHeld3
import Derived.Deep.QuietTactic
namespace Go.Proofs.YtcejmfgbfdhflaaGreat
open Go.RowKit Go.Shelf Go.BigFrame Go.Sort
attribute [local go_sem] World.cell?_alloc_some
theorem below_grownO {W0 W W' : World} {B : Nat} {v : Value} {l : List (Int × Int)} (hb : Below W0.heap.size W0 W) (hO : OP W B v l) (hB : W0.heap.size ≤ B) (hg : W.grownBy W' v.ownBlock) : Below W0.heap.size W0 W' :=
  hb.trans ⟨hg.os, hg.tape, hg.output, hg.size, fun k hk => hg.block k (Nat.lt_of_lt_of_le hk hb.size) (fun e => by
    have := ownBlock_lo hO e.symm
    omega)⟩
set_option maxRecDepth 100000 in
set_option maxHeartbeats 6400000 in
theorem clashesW_any (x : WA) (w : World) (h : x.At w) (hk : chk x = 0) :
    Calls Tryz.prog 107 #[x.v] w fun e w' => (∃ v, e = .returned v ∧ OP w' (w.heap.size + 1) v (clA x)) ∧ Below w.heap.size w w' := by
  have hw := okW_of hk
  have KC : ∀ c ∈ x.cs, ∀ W, Below w.heap.size w W → Calls Tryz.prog 115 #[x.v, c.v] W fun e w' => (∃ (G n : Nat) (xs : List SV), e = .returned (.slice (some ⟨G, 0, none⟩) n n) ∧ n = (tsO x c).length ∧ n ≤ 61 ∧ xs.length = n ∧ G < w'.heap.size ∧
      Hid (∀ (i : Nat) (sv : SV), xs[i]? = some sv → sv.s = spP c (tsO x c) x.ps i ∧ okS sv.s = true ∧ SpC w' G (i * 4) sv ∧ ThsAt w' sv.q sv.s.ths ∧ sv.s.ths.length ≤ sv.cap ∧ sv.cap ≤ maxLen)) ∧ Below W.heap.size W w' := fun c hc W hb => by
    have hkc := okC_of hw (chk_find hk c hc)
    have hok := begs_ok hkc
    refine (spells_any x c W (h.keep hb) (fun p hp e => (hkc.py p hp e).1) (fun t ht => (okTh_iff.1 (hok t ht).1).1)).mono ?_
    rintro e w' ⟨⟨G, n, ts, xs, rfl, hp, hs, hl1, hl2, hG, hmap, hat⟩, hb2⟩
    have hts : ts = tsO x c := srtB_uniq (begs_ne hw hkc) hp hs
    subst hts
    refine ⟨⟨G, n, xs, rfl, hl1.symm, hl1 ▸ ts_len hw c, hl2, hG, fun i sv hi => ?_⟩, hb2⟩
    have hin : i < n := by rw [← hl2]; exact (List.getElem?_eq_some_iff.1 hi).1
    have hss : sv.s = spP c (tsO x c) x.ps i := by
      have h5 : (xs.map (·.s))[i]? = some sv.s := by rw [List.getElem?_map, hi]; rfl
      rw [hmap, List.getElem?_map, List.getElem?_range hin] at h5
      exact (Option.some.inj h5).symm
    obtain ⟨k1, k2, k3, k4⟩ := hat i sv hi
    exact ⟨hss, by rw [hss]; exact spP_ok hw hkc i (by omega), k1, k2.ths, k3, k4⟩
  obtain ⟨S, hS⟩ : ∃ S : Ch → Nat → Spl, (fun c j => spP c (tsO x c) x.ps j) = S := ⟨_, rfl⟩
  have hS' : ∀ c j, spP c (tsO x c) x.ps j = S c j := fun c j => by rw [← hS]
  obtain ⟨T, hT⟩ : ∃ T : Ch → Nat, (fun c => (tsO x c).length) = T := ⟨_, rfl⟩
  have hT' : ∀ c, (tsO x c).length = T c := fun c => by rw [← hT]
  obtain ⟨U, hU⟩ : ∃ U, clU x = U := ⟨_, rfl⟩
  obtain ⟨V, hV⟩ : ∃ V, clC x = V := ⟨_, rfl⟩
  have HC1 : Hid (∀ c j, U c (j + 1) = U c j ++ clS (S c j)) := fun c j => by rw [← hU, ← hS]; exact clU_succ x c j
  have HC0 : Hid (∀ c, U c 0 = []) := fun c => by rw [← hU]; rfl
  have HC2 : Hid (∀ c, V c = srtQ (U c (T c))) := fun c => by rw [← hU, ← hV, ← hT]; rfl
  have HC3 : Hid (∀ c j, (U c j).length ≤ j * 3721) := by rw [← hU]; exact clU_len hw
  have HC4 : Hid (∀ k, ((x.cs.take k).flatMap V).length ≤ 20 * 226981) := fun k => by
    rw [← hV]
    have h1 := flatMap_len (clC x) 226981 (x.cs.take k) (clC_len hw)
    have h2 : (x.cs.take k).length ≤ 20 := by have := hw.c20; simp; omega
    exact Nat.le_trans h1 (Nat.mul_le_mul_right _ h2)
  have HC5 : Hid (∀ c j, (clS (S c j)).length ≤ 3721) := fun c j => by
    rw [← hS']
    have h2 := clTo_len (spP c (tsO x c) x.ps j).wear (spP c (tsO x c) x.ps j).ths (spP c (tsO x c) x.ps j).ths.length
    have h3 := spP_len c (tsO x c) x.ps j
    have h4 := hw.n60
    have h5 : (spP c (tsO x c) x.ps j).ths.length ≤ 61 := by omega
    exact Nat.le_trans h2 (Nat.mul_le_mul h5 h5)
  have HC6 : Hid (∀ c, (V c).length ≤ 226981) := by rw [← hV]; exact clC_len hw
  rw [show clA x = x.cs.flatMap V from by rw [← hV]; rfl]
  simp only [hS', hT'] at KC
  have HKC := Lib.hid KC
  have H1 := Lib.hid h.cs
  have n1 := h.n1
  clear KC h hk hw hS hS' hT hT' hU hV
  obtain ⟨cs, ps, rs, q1, q2, q3, c1, c2, c3⟩ := x
  simp only [WA.v] at *
  go_enter Tryz.func107, Tryz.ntmps107
  go_wp2_with fail
  obtain ⟨W0, hW0⟩ : ∃ W0, (w).alloc (.cells #[.slice q1 cs.length c1, .slice q2 ps.length c2, .slice q3 rs.length c3] 26) = W0 := ⟨_, rfl⟩
  have S0 : St w W0 [(w.heap.size, 0, .slice q1 cs.length c1), (w.heap.size, 1, .slice q2 ps.length c2), (w.heap.size, 2, .slice q3 rs.length c3)] := by rw [← hW0]; exact ((St.nil w)).box #[.slice q1 cs.length c1, .slice q2 ps.length c2, .slice q3 rs.length c3] 26 (w.heap.size) (by simp)
  rw [hW0]
  clear hW0
  obtain ⟨C, hC0, HC, LC, BC, hne⟩ := cls S0
  haveI := hne
  obtain ⟨c0, rfl⟩ : ∃ n : Wd C, W0 = n.w := ⟨⟨_, hC0⟩, rfl⟩
  have fC0 : ∀ n : Wd C, n.w.cell? ⟨w.heap.size, 0, none⟩ = some (.slice q1 cs.length c1) := fun n => (LC.out n).1.2.1
  have fC1 : ∀ n : Wd C, n.w.cell? ⟨w.heap.size, 1, none⟩ = some (.slice q2 ps.length c2) := fun n => (LC.out n).2.1.2.1
  have fC2 : ∀ n : Wd C, n.w.cell? ⟨w.heap.size, 2, none⟩ = some (.slice q3 rs.length c3) := fun n => (LC.out n).2.2.1.2.1
  clear S0 hC0
  go_wp2_with fail
  go_loopw [3, 12] (fun v i wr => ∃ (k : Nat), St w wr [(w.heap.size, 0, .slice q1 cs.length c1), (w.heap.size, 1, .slice q2 ps.length c2), (w.heap.size, 2, .slice q3 rs.length c3)] ∧ i = .int .i64 (k : Int) ∧ k ≤ cs.length ∧ OP wr (w.heap.size + 1) v ((cs.take k).flatMap V)) (fun v i wr => cs.length - (intOf i).toNat)
  case atStart => exact ⟨0, ⟨BC.out _, LC.out _⟩, rfl, Nat.zero_le _, World.ownsRow_nil _ _ _ _⟩
  case round =>
    obtain ⟨k, hS, rfl, hk, hO⟩ := hrel
    have HO := Lib.hid hO
    have HS := Lib.hid hS
    clear fC0 fC1 fC2 hO
    by_cases hlt : k < cs.length
    · rcases H1.out with h0 | ⟨b, o, rfl, hb, hc⟩
      · rw [h0] at hlt; simp at hlt
      · obtain ⟨d1, d2, d3, d4, d5⟩ := hc k cs[k] (List.getElem?_eq_getElem hlt)
        have b1 := (hS.b.cell (p := ⟨b, o + k * 5, none⟩) hb).trans d1
        have b2 := (hS.b.cell (p := ⟨b, o + k * 5 + 1, none⟩) hb).trans d2
        have b3 := (hS.b.cell (p := ⟨b, o + k * 5 + 2, none⟩) hb).trans d3
        have b4 := (hS.b.cell (p := ⟨b, o + k * 5 + 3, none⟩) hb).trans d4
        have b5 := (hS.b.cell (p := ⟨b, o + k * 5 + 4, none⟩) hb).trans d5
        have HK := Lib.hid (HKC.out cs[k] (List.getElem_mem hlt))
        have HTK : Hid ((cs.take (k + 1)).flatMap V = (cs.take k).flatMap V ++ V cs[k]) := by
          unfold Hid; rw [take_snocG cs k hlt, List.flatMap_append]; simp
        obtain ⟨c, hcq⟩ : ∃ c, cs[k] = c := ⟨_, rfl⟩
        rw [hcq] at b1 b2 b3 b4 b5 HK HTK
        have hlt' : (k : Int) < (cs.length : Int) := by omega
        obtain ⟨⟨hz, f0, -⟩, ⟨-, f1, -⟩, ⟨-, f2, -⟩, -⟩ := hS.c
        clear d1 d2 d3 d4 d5 hc hcq hb hS
        go_wp2_with fail
        refine (HK.out _ (HS.out.b.trans ((below_al _ _).mono HS.out.b.size))).mono ?_
        rintro e w1 ⟨⟨G, n, xs, rfl, hn, hn61, hxl, hG, hat⟩, hbb⟩
        have hb1 : Below wr.heap.size wr w1 := (below_al _ _).trans (hbb.mono (by simp))
        have HSz := Lib.hid (Nat.lt_of_lt_of_le hz hb1.size)
        have HS1 := Lib.hid (HS.out.next hb1)
        have HO1 := Lib.hid (ownsRow_keep HO.out hb1)
        have HN := Lib.hid (And.intro hn (And.intro hn61 hxl))
        have HG1 := Lib.hid hG
        clear hbb hb1 f0 f1 f2 b1 b2 b3 b4 b5 hn hxl hz HS HO hG
        go_wp2_with fail
        go_loopw [6, 20] (fun v i wr2 => ∃ (j : Nat), Below w1.heap.size w1 wr2 ∧ i = .int .i64 (j : Int) ∧ j ≤ n ∧ OP wr2 w1.heap.size v (U c j)) (fun v i wr2 => n - (intOf i).toNat)
        case atStart => exact ⟨0, Below.refl _ _, rfl, Nat.zero_le _, by rw [HC0.out]; exact World.ownsRow_nil _ _ _ _⟩
        case round =>
          obtain ⟨j, hB2, rfl, hj, hO2⟩ := hrel
          have HB2 := Lib.hid hB2
          have HO2 := Lib.hid hO2
          clear hO2
          by_cases hlt2 : j < n
          · have hjx : j < xs.length := by have := HN.out.2.2; omega
            obtain ⟨k1, k2, k3, k4, k5, k6⟩ := hat.out j xs[j] (List.getElem?_eq_getElem hjx)
            obtain ⟨sv, hsv⟩ : ∃ sv, xs[j] = sv := ⟨_, rfl⟩
            rw [hsv] at k1 k2 k3 k4 k5 k6
            obtain ⟨m1, m2, m3, m4⟩ := k3.keep hB2
            have HT := Lib.hid (k4.keep hB2)
            have HT1 : Hid (U c (j + 1) = U c j ++ clS sv.s) := by unfold Hid; rw [k1]; exact HC1.out c j
            have HLn : Hid ((U c j).length + (clS sv.s).length ≤ 10000000) := by
              unfold Hid
              have h1 := HC3.out c j
              have h2 := HC5.out c j
              rw [k1]
              have h3 : j * 3721 ≤ 61 * 3721 := Nat.mul_le_mul_right _ (by omega)
              omega
            have CC := fun W hth => clashes1_any sv.s sv.q sv.cap W k2 k5 k6 hth
            have HCC := Lib.hid CC
            obtain ⟨⟨slo, shi, swe, sth⟩, sq, sc⟩ := sv
            simp only [Spl.v] at *
            have hlt2' : (j : Int) < (n : Int) := by omega
            clear k1 k2 k3 k4 k5 k6 hsv CC hB2
            go_wp2_with fail
            refine (HCC.out _ (HT.out.keep (below_al _ _))).mono ?_
            rintro e w2 ⟨v2, rfl, hO3, hb3⟩
            have hb4 : Below wr.heap.size wr w2 := (below_al _ _).trans (hb3.mono (by simp))
            have HB3 := Lib.hid (HB2.out.trans (hb4.mono HB2.out.size))
            have HO3 := Lib.hid hO3
            have HO4 := Lib.hid (ownsRow_keep HO2.out hb4)
            clear hO3 hb3 hb4 m1 m2 m3 m4
            go_wp2_with (at_builtin; refine appO HO4.out HO3.out HB3.out.size HLn.out rfl _ _ rfl rfl rfl ?_; intro v' w3 hO5 hg5)
            go_roundw
            case rel => exact ⟨j + 1, below_grownO HB3.out HO4.out (Nat.le_refl _) hg5, by simp, hlt2, by rw [HT1.out]; exact hO5⟩
            case measure => simp [intOf]; omega
          · obtain rfl : j = n := by omega
            clear hB2
            go_wp2_with fail
            refine (sortA_any HO2.out (by have h1 := HC3.out c j; have h3 : j * 3721 ≤ 61 * 3721 := Nat.mul_le_mul_right _ HN.out.2.1; omega)).mono ?_
            rintro e w2 ⟨rfl, hO3, hg3⟩
            rw [show srtQ (U c j) = V c from by rw [HC2.out, ← HN.out.1]] at hO3
            have HB3 := Lib.hid (below_grownO HB2.out HO2.out (Nat.le_refl _) hg3)
            have HO3 := Lib.hid hO3
            have HO4 := Lib.hid (ownsRow_keep HO1.out HB3.out)
            have HSz2 : Hid (w.heap.size + 1 ≤ w2.heap.size) := Nat.le_trans (Nat.succ_le_of_lt HSz.out) HB3.out.size
            clear hO3 hg3
            go_wp2_with (at_builtin; refine appO HO4.out HO3.out HSz2.out (by have h1 := HC4.out k; have h2 := HC6.out c; omega) rfl _ _ rfl rfl rfl ?_; intro v' w3 hO5 hg5)
            go_roundw
            case rel => exact ⟨k + 1, (HS1.out.next HB3.out).grown HO4.out hg5 (Nat.le_succ _) (by simp), by simp, hlt, by rw [HTK.out]; exact hO5⟩
            case measure => simp [intOf]; omega
    · obtain rfl : k = cs.length := by omega
      obtain ⟨f0, f1, f2, -⟩ := hS.c
      clear hS
      go_wp2_with fail
      go_ret
      exact ⟨⟨_, rfl, by have := HO.out; rwa [List.take_length] at this⟩, HS.out.b⟩
end Go.Proofs.YtcejmfgbfdhflaaGreat
