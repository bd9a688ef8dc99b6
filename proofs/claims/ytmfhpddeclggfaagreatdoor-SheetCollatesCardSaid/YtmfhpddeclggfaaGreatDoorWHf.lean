import Derived.RangeFuncNested
import Derived.RangeFuncBound
import Derived.RangeFuncCalls
import Derived.RangeFuncLeaves
import Derived.Test.YtmfhpddeclggfaaGreatDoorWHe
import Derived.RangeFuncBox
import Derived.Shelf.Abstract
import Derived.Shelf.RegionOpen
import Derived.OwnWalkIn
import Derived.TacticsInMore
import Derived.LoopNIn
import Derived.LoopIn
import Derived.Maps.AppendAt
import Derived.Maps.OwnIn
import Derived.RegionIn
import Derived.BigRegionIn
import Derived.Stop.RegionWithIn
import Derived.WalkKit
import Derived.LoopTactic
import Derived.WalkSpells
import Derived.WalkLawsBesides
import Derived.Lib.Hide
import Derived.BigQuiet
import Derived.IntWalk
import Derived.Deep.DeepMust
import Derived.WalkSmall
import Derived.StillTailTactics
import Derived.Deep.RegionLaw
import Derived.Deep.QuietTactic
import Derived.Deep.Cut
import Derived.Deep.DeepCutAuto
import Derived.Deep.LoopGhost
import Derived.Laws.AppendOwn
namespace Go.Proofs.YtmfhpddeclggfaaGreatDoor
open Go.RowKit
/-! The reference's readings: the walk. -/
open Go.Shelf
theorem flatF_one : ∀ {l : List (FL × List Int)}, ∀ u ∈ flatF l, u.oneCell' = true
  | [], u, h => by simp [flatF] at h
  | p :: l, u, h => by
    simp only [flatF, List.mem_cons] at h
    rcases h with rfl | rfl | rfl | rfl | h
    · rfl
    · rfl
    · rfl
    · rfl
    · exact flatF_one u h
theorem fd_new (W : World) (bk : Nat) (g : GL) (hb : W.heap.size = bk) : ∀ j u, (flatF [((⟨g, none, 0, 0, false⟩ : FL), ([] : List Int))])[j]? = some u → (W.alloc (.cells #[.int .i64 g.n, .slice g.p g.ws.length g.cap, .slice none 0 0, .bool false] 87)).cell? ((⟨bk, 0, none⟩ : Addr).add j) = some u := by
  subst hb
  exact cells_new W #[.int .i64 g.n, .slice g.p g.ws.length g.cap, .slice none 0 0, .bool false] 87
theorem snoc_at {α : Type} [Inhabited α] (l : List α) (x : α) {k : Nat} (h : k = l.length) : (l ++ [x]).getD k default = x := by
  subst h
  rw [List.getD, List.getElem?_append_right (Nat.le_refl _), Nat.sub_self]; rfl
theorem snoc_set {α : Type} (l : List α) (x y : α) {k : Nat} (h : k = l.length) : (l ++ [x]).set k y = l ++ [y] := by
  subst h
  rw [List.set_append_right _ _ (Nat.le_refl _), Nat.sub_self]; rfl
set_option maxRecDepth 100000 in
set_option maxHeartbeats 4000000 in
theorem rReadings (B0 : Nat) (p : Option Addr) (cap : Nat) (ss : List SS) (n : Int) (w : World) (hl : ss.length ≤ 8) (hls : ∀ j, (ss.getD j default).ls.length ≤ 1000001) (hws : ∀ j, ∀ g ∈ (ss.getD j default).ls, g.ws.length ≤ maxLen) (hp : SortsAt w p ss) (hB : ∀ j, j < ss.length → ∀ i, i < (ss.getD j default).ls.length → ((ss.getD j default).ls.getD i default).ws = [] ∨ ∀ ad, ((ss.getD j default).ls.getD i default).p = some ad → ad.block < B0) :
    Calls Tryz.prog 110 #[.slice p ss.length cap, .int .i64 n] w fun e w' => ∃ v fs, e = .returned v ∧ RK B0 w w' v fs n (rdC n ss ss.length) := by
  have HP := Lib.hid hp
  have HLS := Lib.hid hls
  have HWS := Lib.hid hws
  have HBB := Lib.hid hB
  obtain ⟨N, hN⟩ : ∃ N, Hid (ss.length = N) := ⟨_, rfl⟩
  rw [hN.out] at hl ⊢
  clear hp hls hws hB
  have R0 := Lib.hid (RK.mk0 (B0 := B0) w n)
  have CA := fun W q zs d k (h1 : zs.length ≤ 100000) (h2 : IntsAt W q zs) => Lib.hid (rAdd q d zs k W h1 h2)
  go_enter Tryz.func110, Tryz.ntmps110
  go_wp2_with fail
  go_loopw [5, 6] (fun v i wr => ∃ (k : Nat) (fs : List (FL × List Int)), k ≤ N ∧ i = .int .i64 k ∧ Hid (RK B0 w wr v fs n (rdC n ss k))) (fun _ i _ => N - (intOf i).toNat)
  case atStart => exact ⟨0, _, Nat.zero_le _, rfl, R0⟩
  case round =>
    clear R0
    rename_i v0 _
    obtain ⟨k, fs0, hk, rfl, R⟩ := hrel
    by_cases hlt : k < N
    · have hkl : k < ss.length := by rw [hN.out]; exact hlt
      obtain ⟨b, o, rfl, hbl, cx, -, hst, -⟩ := sort_at HP.out hkl
      have HBL := Lib.hid hbl
      have CX0 := Lib.hid cx
      have HST := Lib.hid hst
      have cx := (R.out.r.bel.cell (p := ⟨b, o + k * 2, none⟩) hbl).trans cx
      have HLK := Lib.hid (HLS.out k)
      have HWK := Lib.hid (HWS.out k)
      have HBK := Lib.hid (HBB.out k hkl)
      have HOC : Hid (rdC n ss (k + 1) = rdP n k (rdC n ss k) (ss.getD k default).ls) := rfl
      have HFW : Hid (∀ j, FewI k (rdP n k (rdC n ss k) ((ss.getD k default).ls.take j))) := fun j => rdP_few n k _ _ (rdC_few n ss k)
      have HWL : Hid (∀ j, WsL maxLen (rdP n k (rdC n ss k) ((ss.getD k default).ls.take j))) := fun j => rdP_ws maxLen n k _ _ (fun g hg => HWS.out k g (List.mem_of_mem_take hg)) (rdC_ws maxLen n ss HWS.out k)
      have HPL : Hid (∀ j, (rdP n k (rdC n ss k) ((ss.getD k default).ls.take j)).length ≤ 10000000) := fun j => by
        have h1 := rdP_len n k ((ss.getD k default).ls.take j) (rdC n ss k)
        have h2 := rdC_len n ss 1000001 HLS.out k
        have h3 := HLS.out k
        rw [List.length_take] at h1
        have : k * 1000001 ≤ 8 * 1000001 := Nat.mul_le_mul_right _ (by omega)
        omega
      obtain ⟨a0, ha0⟩ : ∃ a0, rdC n ss k = a0 := ⟨_, rfl⟩
      rw [ha0] at HOC HFW HWL HPL R
      obtain ⟨S, hS⟩ : ∃ S, ss.getD k default = S := ⟨_, rfl⟩
      rw [hS] at HOC HFW HWL HPL HLK HWK HBK HST CX0 cx
      obtain ⟨ls, hls⟩ : ∃ ls, S.ls = ls := ⟨_, rfl⟩
      obtain ⟨lq, hlq⟩ : ∃ lq, S.lp = lq := ⟨_, rfl⟩
      obtain ⟨lc, hlc⟩ : ∃ lc, S.lc = lc := ⟨_, rfl⟩
      rw [hls] at HOC HFW HWL HPL HLK HWK HBK HST CX0 cx
      rw [hlq] at HST CX0 cx
      rw [hlc] at CX0 cx
      obtain ⟨M, hM⟩ : ∃ M, Hid (ls.length = M) := ⟨_, rfl⟩
      rw [hM.out] at HLK CX0 cx
      have hMl := HLK.out
      have hlt' : (k : Int) < (N : Int) := by omega
      have hk0 : (0 : Int) ≤ (k : Int) := by omega
      clear hbl hst hls hlq hlc hS ha0
      go_wp2_with fail
      go_loopw [5, 7] (fun v j wz => ∃ (i : Nat) (fs : List (FL × List Int)), i ≤ M ∧ j = .int .i64 i ∧ Hid (RK B0 w wz v fs n (rdP n k a0 (ls.take i)))) (fun _ j _ => M - (intOf j).toNat)
      case atStart => exact ⟨0, _, Nat.zero_le _, rfl, by rw [List.take_zero]; exact R⟩
      case round =>
        clear R
        obtain ⟨j, fs, hj, rfl, R⟩ := hrel
        have cx := (R.out.r.bel.cell (p := ⟨b, o + k * 2, none⟩) HBL.out).trans CX0.out
        by_cases hlt2 : j < M
        · have hjl : j < ls.length := by rw [hM.out]; exact hlt2
          obtain ⟨b2, o2, rfl, hb2, cg0, cg1, hsw⟩ := lines_cell HST.out hjl
          have c0 := (R.out.r.bel.cell (p := ⟨b2, o2 + j * 2, none⟩) hb2).trans cg0
          have c1 := (R.out.r.bel.cell (p := ⟨b2, o2 + j * 2 + 1, none⟩) hb2).trans cg1
          have HG := Lib.hid (rdP_snoc n k a0 ls j hjl)
          have HSW := Lib.hid (And.intro hsw (HBK.out j hjl))
          obtain ⟨g, hg⟩ : ∃ g, ls.getD j default = g := ⟨_, rfl⟩
          rw [hg] at c0 c1 HG HSW
          obtain ⟨st, hst⟩ : ∃ st, Hid (rdP n k a0 (ls.take j) = st) := ⟨_, rfl⟩
          have HF1 := Lib.hid (HFW.out j)
          have HW1 := Lib.hid (HWL.out j)
          have HP1 := Lib.hid (HPL.out j)
          rw [hst.out] at HG R HF1 HW1 HP1
          obtain ⟨gn, gp, gc, gw⟩ := g
          obtain ⟨L, hL⟩ : ∃ L, Hid (gw.length = L) := ⟨_, rfl⟩
          obtain ⟨F, hF⟩ : ∃ F, Hid (fs.length = F) := ⟨_, rfl⟩
          have HFL : Hid (F ≤ 10000000) := by unfold Hid; have h1 := HP1.out; have h2 := R.out.len; have h3 := hF.out; omega
          dsimp only at c0 c1 HSW
          rw [hL.out] at c1
          obtain ⟨pv, cv, rfl, -⟩ := R.out.r.founds
          have hlt2' : (j : Int) < (M : Int) := by omega
          have hj0 : (0 : Int) ≤ (j : Int) := by omega
          have y0 : (wr.alloc (.cells #[.int .i64 gn, .slice gp L gc] 39)).cell? ⟨wr.heap.size, 0, none⟩ = some (.int .i64 gn) := nw_at wr _ 39 0 _ rfl
          have y1 : (wr.alloc (.cells #[.int .i64 gn, .slice gp L gc] 39)).cell? ⟨wr.heap.size, 1, none⟩ = some (.slice gp L gc) := nw_at wr _ 39 1 _ rfl
          have R1 := Lib.hid (R.out.next (below_alloc1 wr (.cells #[.int .i64 gn, .slice gp L gc] 39)))
          clear hg cg0 cg1 hsw hb2 HFW HWL HPL
          by_cases hgn : n = gn
          · subst hgn
            have KN : Hid (Calls Tryz.prog 143 #[.slice pv fs.length cv, .agg #[.int .i64 n, .slice gp L gc]] (wr.alloc (.cells #[.int .i64 n, .slice gp L gc] 39)) fun e w' => ∃ z : Int, e = .returned (.int .i64 z) ∧ Below (wr.alloc (.cells #[.int .i64 n, .slice gp L gc] 39)).heap.size (wr.alloc (.cells #[.int .i64 n, .slice gp L gc] 39)) w' ∧ ((∃ k : Nat, z = k ∧ k < fs.length ∧ sameB ((fs.map Prod.fst).getD k default).g.n n ((fs.map Prod.fst).getD k default).g.ws gw = true ∧ ∀ j, j < k → sameB ((fs.map Prod.fst).getD j default).g.n n ((fs.map Prod.fst).getD j default).g.ws gw = false) ∨ (z = -1 ∧ ∀ j, j < fs.length → sameB ((fs.map Prod.fst).getD j default).g.n n ((fs.map Prod.fst).getD j default).g.ws gw = false))) := by
              obtain ⟨p9, c9, e9, hfc⟩ := R1.out.r.founds
              cases e9
              have h9 := rKnown pv cv (fs.map Prod.fst) n gp gc gw (wr.alloc (.cells #[.int .i64 n, .slice gp L gc] 39)) (by rw [List.length_map, hF.out]; have := HFL.out; omega) (R1.out.words HW1.out) hfc.1 (HSW.out.1.below R1.out.r.bel)
              rwa [List.length_map, hL.out] at h9
            have HGG : Hid (rdP n k a0 (ls.take (j + 1)) = rdS k st gw) := by unfold Hid; rw [HG.out, stR, if_pos rfl]
            clear HG
            go_wp2_with fail
            refine KN.out.mono ?_
            rintro e w2 ⟨z, rfl, hb, hz⟩
            have R2 := Lib.hid (R1.out.next hb)
            have z0 := (hb.cell (p := ⟨wr.heap.size, 0, none⟩) (by simp)).trans y0
            have z1 := (hb.cell (p := ⟨wr.heap.size, 1, none⟩) (by simp)).trans y1
            have hwr : Hid (wr.heap.size < w2.heap.size) := by have := hb.size; simp at this; unfold Hid; omega
            have hFl := HFL.out
            rw [← hF.out] at hFl
            clear hb KN y0 y1 c0 c1 cx
            rcases hz with ⟨k2, rfl, hk2, hs, hn⟩ | ⟨rfl, hn⟩
            · have HK := Lib.hid (R2.out.known hk2 hs hn k)
              obtain ⟨b3, c3, e3⟩ := R2.out.full (by omega)
              cases e3
              obtain ⟨q1, q2, q3, q4⟩ := R2.out.cell rfl hk2
              have HZ : Hid ((fs.getD k2 default).2.length ≤ 100000) := by
                have h1 := HF1.out.at k2
                rw [R2.out.key hk2] at h1
                unfold Hid
                dsimp only at h1
                omega
              obtain ⟨⟨x, zs⟩, hzz⟩ : ∃ zz, Hid (fs.getD k2 default = zz) := ⟨_, rfl⟩
              obtain ⟨x1, cp, cn, cc, rs⟩ := x
              rw [hzz.out] at q1 q4 HZ HK
              dsimp only at q1 q4
              have HZ' : Hid (zs.length ≤ 100000) := HZ.out
              have HQ4 := Lib.hid q4
              have hk20 : (0 : Int) ≤ (k2 : Int) := by omega
              have hk2' : (k2 : Int) < (fs.length : Int) := by omega
              have hk2n : ¬ (k2 : Int) < 0 := by omega
              clear hs hn q4 z0 z1 HZ
              go_wp2_with (refine (CA _ cp zs cc k HZ'.out HQ4.out).out.mono ?_; rintro e w6 ⟨q', d', rfl, hq6, hor, hb6⟩; have R6 := Lib.hid (RK.upd (d' := d') R2.out rfl hk2 hb6 (addL_ne _ _) hq6 (by rw [hzz.out]; exact hor)); have hc6 := ((R2.out.next hb6).cell rfl hk2).1; have hf6 := ((R2.out.next hb6).cell rfl hk2).2.1; clear hq6 hor hb6)
              exact ⟨⟨j + 1, _, by omega, by go_num, by rw [HGG.out, HK.out]; exact R6⟩, by simp [intOf]; omega⟩
            · have HK := Lib.hid (R2.out.unknown hn k)
              have R4 := fun X => Lib.hid (R2.out.next (below_alloc1 w2 X))
              have CN : ∀ W, Hid (Calls Tryz.prog 144 #[.slice none 0 0, .int .i64 k] W fun e w' => ∃ (q : Option Addr) (d : Nat), e = .returned (.slice q (addL [] k).length d) ∧ IntsAt w' q (addL [] k) ∧ (q = none ∨ PFrom W.heap.size q) ∧ Below W.heap.size W w') := fun W => rAdd none 0 [] k W (by simp) (.inl rfl)
              obtain ⟨i0, hi, hz0, hz1, hz4⟩ := info_parts inf87
              have HFm : Hid (fs.length + 1 ≤ maxLen) := by unfold Hid maxLen; omega
              have HFb : Hid ((fs.length + 1) * 64 ≤ 140737488355328) := by unfold Hid; omega
              have HWS2 : Hid (w.heap.size ≤ w2.heap.size) := R2.out.r.bel.size
              have hat1 : ((fs.length : Int) + 1 - 1) = (fs.length : Int) := by omega
              have hat2 : (fs.length : Int) < (fs.length : Int) + 1 := by omega
              have hat0 : (0 : Int) ≤ (fs.length : Int) := by omega
              clear hn CA
              go_wp2_with (first | ((at_builtin; refine wpList_append_own_at _ rfl (.tmp 43) (.tmp 46) 75 rfl w.heap.size 87 i0 (.agg #[.int .i64 0, .slice none 0 0, .slice none 0 0, .bool false]) 4 64 Tryz.underlying75 hi hz0 hz1 hz4 rfl (by decide) (.slice pv fs.length cv) fs.length (flatF fs) rfl (R4 _).out.r.row ⟨w2.heap.size, 0, none⟩ 1 1 (flatF [((⟨⟨n, gp, gc, gw⟩, none, 0, 0, false⟩ : FL), ([] : List Int))]) rfl rfl (by rw [← hL.out]; exact fd_new w2 _ ⟨n, gp, gc, gw⟩ rfl) flatF_one HFm.out HFb.out (by have := HWS2.out; simp; omega) ?_; intro v' w4 hown hgrow _ hat; obtain ⟨g', cap', rfl⟩ := ownsRow_succ hown; have R5 := Lib.hid (RK.app (g := ⟨n, gp, gc, gw⟩) (R4 _).out HSW.out rfl hown hgrow hat); have q5 := R5.out.cell (k := fs.length) (by simp) (by simp); rw [snoc_at _ _ rfl] at q5; have q5c := q5.1; have q5f := q5.2.1; clear hown hgrow hat q5)) | (refine (CN _).out.mono ?_; rintro e w6 ⟨q', d', rfl, hq6, hor, hb6⟩; have R6 := Lib.hid (RK.upd (k := fs.length) (d' := d') R5.out (by simp) (by simp) hb6 (addL_ne _ _) hq6 (by rw [snoc_at _ _ rfl]; exact hor)); have hc6 := ((R5.out.next hb6).cell (k := fs.length) (by simp) (by simp)).1; have hf6 := ((R5.out.next hb6).cell (k := fs.length) (by simp) (by simp)).2.1; clear hq6 hor hb6))
              exact ⟨⟨j + 1, _, by omega, by go_num, by rw [HGG.out, HK.out]; have h7 := R6.out; rw [snoc_at _ _ R2.out.len.symm, snoc_set _ _ _ R2.out.len.symm] at h7; exact h7⟩, by simp [intOf]; omega⟩
          · have hgn' : ((gn : Int) == n) = false := by rw [beq_eq_false_iff_ne]; exact fun e => hgn e.symm
            have hst2 : Hid (rdP n k a0 (ls.take (j + 1)) = st) := by unfold Hid; rw [HG.out, stR, if_neg (fun e => hgn e.symm)]
            go_wp2_with fail
            exact ⟨⟨j + 1, fs, by omega, by go_num, by rw [hst2.out]; exact R1⟩, by simp [intOf]; omega⟩
        · obtain rfl : j = M := by omega
          have hst : Hid (rdC n ss (k + 1) = rdP n k a0 (ls.take j)) := by
            unfold Hid
            rw [HOC.out, List.take_of_length_le (by rw [hM.out]; exact Nat.le_refl _)]
          go_wp2_with fail
          exact ⟨⟨k + 1, fs, by omega, by go_num, by rw [hst.out]; exact R⟩, by simp [intOf]; omega⟩
    · obtain rfl : k = N := by omega
      go_wp2_with fail
      go_ret
      exact ⟨_, _, rfl, R.out⟩
end Go.Proofs.YtmfhpddeclggfaaGreatDoor
