import Derived.Test.YtmfhpddeclggfaaGreatDoorYIfa
import Derived.Maps.Own
import Derived.Maps.OwnOps
import Derived.Maps.OwnSet
import Derived.Lib.SlKeysI
import Derived.RangeFuncNested
import Derived.RangeFuncBound
import Derived.RangeFuncCalls
import Derived.RangeFuncLeaves
import Derived.RangeFuncBox
import Derived.Shelf.Abstract
import Derived.Shelf.RegionOpen
import Derived.OwnWalkIn
import Derived.TacticsInMore
import Derived.LoopNIn
import Derived.LoopIn
import Derived.Maps.AppendAt
import Derived.Maps.OwnIn
import Derived.RegionIn
import Derived.BigRegionIn
import Derived.Stop.RegionWithIn
import Derived.WalkKit
import Derived.LoopTactic
import Derived.WalkSpells
import Derived.WalkLawsBesides
import Derived.Lib.Hide
import Derived.BigQuiet
import Derived.IntWalk
import Derived.Deep.DeepMust
import Derived.WalkSmall
import Derived.StillTailTactics
import Derived.Deep.RegionLaw
import Derived.Deep.QuietTactic
import Derived.Deep.Cut
import Derived.Deep.DeepCutAuto
import Derived.Deep.LoopGhost
import Derived.Laws.AppendOwn
import Derived.Deep.RegionHeld3
import Derived.Deep.AppendLies
import Derived.Test.YtmfhpddeclggfaaGreatDoorIfk
import Derived.Test.YtmfhpddeclggfaaGreatDoorYIfb
import Derived.Test.YtmfhpddeclggfaaGreatDoorYIg
import Derived.Test.YtmfhpddeclggfaaGreatDoorYIh
import Derived.Test.YtmfhpddeclggfaaGreatDoorYIia
import Derived.Test.YtmfhpddeclggfaaGreatDoorYIib
import Derived.Test.YtmfhpddeclggfaaGreatDoorKf
import Derived.Test.YtmfhpddeclggfaaGreatDoorYIic
import Derived.Test.YtmfhpddeclggfaaGreatDoorZd
import Derived.Test.YtmfhpddeclggfaaGreatDoorYMa
import Derived.Test.YtmfhpddeclggfaaGreatDoorYMb
import Derived.Test.YtmfhpddeclggfaaGreatDoorYMc
import Derived.Laws.OwnMore
import Derived.Test.YtmfhpddeclggfaaGreatDoorYNa
import Derived.Test.YtmfhpddeclggfaaGreatDoorYOrdLaw
namespace Go.Proofs.YtmfhpddeclggfaaGreatDoor
open Go.RowKit Go.Shelf
/-! The law of fair copies. -/
theorem wt_sum : ∀ ts : List ByteArray, ((wtT ts : Nat) : Int) = sumL ts + ts.length
  | [] => by simp [wtT, sumL]
  | t :: ts => by
    have ih := wt_sum ts
    unfold wtT sumL at ih ⊢
    simp only [List.map_cons, List.sum_cons, List.length_cons]
    omega
theorem fair_wa (ls : List (FL × List Int)) : waText ((ls.map Prod.fst).map FL.g) = txB (ls.map kG) := by
  unfold waText txB
  rw [List.map_map, List.flatMap_map, List.flatMap_map]
  rfl
theorem wa_ok : ∀ gs : List GL, (∀ g ∈ gs, lineErr g.n g.ws = 0) → waErr gs = 0
  | [], _ => rfl
  | g :: r, h => by
    unfold waErr
    rw [if_pos (h g List.mem_cons_self)]
    exact wa_ok r fun x hx => h x (List.mem_cons_of_mem _ hx)
theorem words_small {ws : List ByteArray} (h : wordsOk ws = true) (j : Nat) : (ws.getD j ByteArray.empty).size ≤ 120 := by
  by_cases hj : j < ws.length
  · rw [List.getD, List.getElem?_eq_getElem hj]
    have h2 := List.all_eq_true.1 h _ (List.getElem_mem hj)
    unfold wordL at h2
    rw [Bool.and_eq_true] at h2
    have h3 := (of_decide_eq_true h2.1).2
    simpa using h3
  · rw [List.getD, List.getElem?_eq_none (by omega)]
    exact Nat.zero_le _
set_option maxRecDepth 100000 in
set_option maxHeartbeats 4000000 in
theorem fai_big (p : Option Addr) (cap : Nat) (ts : List ByteArray) (b : Int) (w : World) (he : Env w) (hl : ts.length ≤ maxLen) (hz : ∀ j, (ts.getD j ByteArray.empty).size ≤ maxLen) (hp : StrsAt w p ts) (h : 6 < ts.length ∨ 4000 < wrap64 (sumL ts) ∨ ts.length = 0) :
    Calls Tryz.prog 17 #[.slice p ts.length cap, .int .u8 b] w fun e w' => e = .returned (.bool true) ∧ Below w.heap.size w w' := by
  have FW := Lib.hid (few_any p cap ts 6 w (by omega) hl hz hp)
  have SN := Lib.hid (sanity_any w he)
  obtain ⟨N, hN⟩ : ∃ N, ts.length = N := ⟨_, rfl⟩
  obtain ⟨t, ht⟩ : ∃ t, wrap64 (sumL ts) = t := ⟨_, rfl⟩
  rw [hN, ht] at FW h
  rw [hN]
  have e0 : (decide (N ≤ 6) && decide (t ≤ 4000)) = true → N = 0 := by simp; omega
  obtain ⟨f, hf⟩ : ∃ f, (decide (N ≤ 6) && decide (t ≤ 4000)) = f := ⟨_, rfl⟩
  rw [hf] at FW e0
  clear he hz hp hN ht hf h hl
  cases f
  · go_enter Tryz.func17, Tryz.ntmps17
    go_wp2_with fail
    refine FW.out.mono ?_
    rintro e w1 ⟨rfl, rfl⟩
    go_wp2_with fail
    refine SN.out.mono ?_
    rintro e w1 ⟨rfl, hb⟩
    have B := Lib.hid hb
    clear hb
    go_wp2_with fail
    go_ret
    exact ⟨rfl, B.out⟩
  · obtain rfl := e0 rfl
    clear e0
    go_enter Tryz.func17, Tryz.ntmps17
    go_wp2_with fail
    refine FW.out.mono ?_
    rintro e w1 ⟨rfl, rfl⟩
    go_wp2_with fail
    refine SN.out.mono ?_
    rintro e w1 ⟨rfl, hb⟩
    have B := Lib.hid hb
    clear hb
    go_wp2_with fail
    go_ret
    exact ⟨rfl, B.out⟩
theorem at_two {α γ : Type} [Inhabited α] {f g : α → γ} {l m : List α} (h : l.map f = m.map g) {k : Nat} (hk : k < l.length) : f (l.getD k default) = g (m.getD k default) := by
  have hl : l.length = m.length := by simpa using congrArg List.length h
  have h1 := congrArg (fun l => l[k]?) h
  simp only [List.getElem?_map] at h1
  rw [List.getElem?_eq_getElem hk, List.getElem?_eq_getElem (by omega)] at h1
  rw [List.getD, List.getD, List.getElem?_eq_getElem hk, List.getElem?_eq_getElem (by omega)]
  simpa using h1
theorem one_cell {W : World} {a : Nat} {x : ByteArray} (h : W.cell? ⟨a, 0, none⟩ = some (.string x)) : ∀ j u, (strsV [x])[j]? = some u → W.cell? ((⟨a, 0, none⟩ : Addr).add j) = some u := fun j u hu => by
  cases j with
  | zero =>
    obtain rfl : Value.string x = u := by simpa [strsV] using hu
    rw [add_sp]
    exact h
  | succ j => simp [strsV] at hu
theorem fair_call (L : List FV) (m : Nat) (hL : LnOk L m) (hl : L.length ≤ 1000000) (q q1 q2 : Option Addr) (c n1 c1 n2 c2 : Nat) (ls : List (FL × List Int)) (W : World) (hk : ls.map kG = L) (hf : FoundsC W q ls) (he : Env W) :
    Calls Tryz.prog 58 #[.agg #[.slice q L.length c, .slice q1 n1 c1, .slice q2 n2 c2]] W fun e w' => e = .returned (.tuple #[.string (bs (txB L)), .int .i64 0]) ∧ Below W.heap.size W w' := by
  have hlen : (ls.map Prod.fst).length = L.length := by rw [← hk]; simp
  have hmem : ∀ f ∈ ls, lineErr f.1.g.n f.1.g.ws = 0 := fun f hf => by
    have h5 := hL.ok (kG f) (by rw [← hk]; exact List.mem_map.2 ⟨f, hf, rfl⟩)
    exact h5
  have h5 := sFair q c (ls.map Prod.fst) q1 q2 n1 c1 n2 c2 W (by rw [hlen]; exact hl) (fun j hj => by
    have hj2 : j < ls.length := by simpa using hj
    rw [fst_at hj2]
    have hm : ls.getD j default ∈ ls := by rw [List.getD, List.getElem?_eq_getElem hj2]; exact List.getElem_mem hj2
    obtain ⟨-, -, h6, h7⟩ := lineErr_ok (hmem _ hm)
    exact ⟨Nat.le_trans h6 (by decide), fun i => Nat.le_trans (words_small h7 i) (by decide)⟩) hf.1 he
  unfold bookV at h5
  rw [hlen] at h5
  have h6 : waRes ((ls.map Prod.fst).map FL.g) = .tuple #[.string (bs (txB L)), .int .i64 0] := by
    unfold waRes
    rw [if_pos (wa_ok _ fun g hg => by
      obtain ⟨f, hf, rfl⟩ := List.mem_map.1 hg
      obtain ⟨x, hx, rfl⟩ := List.mem_map.1 hf
      exact hmem x hx), fair_wa, hk]
  rwa [h6] at h5
set_option maxRecDepth 100000 in
set_option maxHeartbeats 8000000 in
theorem fai_small (p : Option Addr) (cap : Nat) (ts : List ByteArray) (b : Int) (w : World) (he : Env w) (hl : ts.length ≤ 6) (h0 : 0 < ts.length) (hz : ∀ s ∈ ts, s.size ≤ 4000) (ht4 : wrap64 (sumL ts) ≤ 4000) (hsum : sumL ts ≤ 4000) (hp : StrsAt w p ts) (hb : 0 ≤ b ∧ b ≤ 255) :
    Calls Tryz.prog 17 #[.slice p ts.length cap, .int .u8 b] w fun e w' => e = .returned (.bool true) ∧ Below w.heap.size w w' := by
  have hz2 := getD_small hz
  have FW := Lib.hid (few_any p cap ts 6 w (by omega) (by unfold maxLen; omega) (fun j => by have := hz2 j; unfold maxLen; omega) hp)
  have HE := Lib.hid he
  have HP := Lib.hid hp
  have HZ := Lib.hid hz
  obtain ⟨N, hN⟩ : ∃ N, Hid (ts.length = N) := ⟨_, rfl⟩
  obtain ⟨t, ht⟩ : ∃ t, wrap64 (sumL ts) = t := ⟨_, rfl⟩
  obtain ⟨k, hk⟩ : ∃ k : Nat, b.toNat % ts.length = k := ⟨_, rfl⟩
  have hkN : k < ts.length := by rw [← hk]; exact Nat.mod_lt _ h0
  obtain ⟨g, o, rfl, hg, hcs⟩ := hp.resolve_left (by intro h; rw [h] at h0; simp at h0)
  have hkb : b.tmod (ts.length : Int) = (k : Int) := by
    obtain ⟨n, rfl⟩ := Int.eq_ofNat_of_zero_le hb.1
    rw [← hk, Int.toNat_natCast]; rfl
  obtain ⟨⟨m, hLn⟩, htx⟩ := coB_ok ts
  have hwt := wt_sum ts
  have hTS : Hid ((bs (txB (coB ts).1)).size ≤ 4006) := by unfold Hid; rw [bs_size]; omega
  have hLL : (coB ts).1.length ≤ 4006 := by
    have h5 : ∀ l : List FV, l.length ≤ (txB l).length := fun l => by
      induction l with
      | nil => exact Nat.le_refl _
      | cons f l ih => simp [txB] at ih ⊢; omega
    have := h5 (coB ts).1
    omega
  have HLL := Lib.hid hLL
  obtain ⟨FB1, FB2⟩ := fair_book (coB ts).1 m hLn
  have HLN := Lib.hid hLn
  rw [hN.out, ht] at FW
  rw [hN.out] at hkb hl h0 hkN ⊢
  rw [ht] at ht4
  have ef : (decide (N ≤ 6) && decide (t ≤ 4000)) = true := by simp; omega
  rw [ef] at FW
  obtain ⟨i0, hi, hz0, hz1, hz4⟩ := info_parts inf9
  obtain ⟨sk, hsk⟩ : ∃ sk, Hid (ts.getD k ByteArray.empty = sk) := ⟨_, rfl⟩
  have hskm : sk ∈ ts := by rw [← hsk.out]; exact getD_mem (by rw [hN.out]; exact hkN)
  have HSM := Lib.hid hskm
  have HCK : Hid (∀ W, Below w.heap.size w W → W.cell? ⟨g, o + k, none⟩ = some (.string sk)) := fun W hb => (hb.cell (p := ⟨g, o + k, none⟩) hg).trans (by rw [← hsk.out]; exact hcs k (by rw [hN.out]; exact hkN))
  have HTT : Hid (∀ W, Below w.heap.size w W → ∀ j u, (strsV ts)[j]? = some u → W.cell? ((⟨g, o, none⟩ : Addr).add j) = some u) := fun W hb j u h => by
    have h5 := (ms_split (k := ts.length) hcs).2 j u (by rwa [List.take_length])
    rw [add_sp] at h5 ⊢
    exact (hb.cell (p := ⟨g, o + j, none⟩) hg).trans h5
  have HUL : Hid ((ts ++ [sk]).length = N + 1) := by unfold Hid; simp [hN.out]
  have CO1 : Hid (∀ W, Below w.heap.size w W → Calls Tryz.prog 53 #[.slice (some ⟨g, o, none⟩) N cap] W (ColP W (coB ts) 0)) := fun W hb => by
    have h5 := collate_few (some ⟨g, o, none⟩) cap ts W (by rw [hN.out]; omega) (fun j => Nat.le_trans (hz2 j) (by decide)) (HP.out.below hb) (HE.out.next hb)
    rwa [hN.out] at h5
  have CO2 : Hid (∀ W q c, StrsAt W q (ts ++ [sk]) → Env W → Calls Tryz.prog 53 #[.slice q (N + 1) c] W (ColP W (coB (ts ++ [sk])) 0)) := fun W q c h he => by
    have h5 := collate_few q c (ts ++ [sk]) W (by rw [HUL.out]; omega) (fun j => Nat.le_trans (getD_small (B := 4000) (fun s hs => HZ.out s (by
      rcases List.mem_append.1 hs with h | h
      · exact h
      · rw [List.mem_singleton.1 h]; exact HSM.out)) j) (by decide)) h he
    rwa [HUL.out] at h5
  have COT : Hid (∀ W q c, StrsAt W q [bs (txB (coB ts).1)] → Env W → Calls Tryz.prog 53 #[.slice q 1 c] W (ColP W (coB [bs (txB (coB ts).1)]) 0)) := fun W q c h he =>
    collate_few q c [bs (txB (coB ts).1)] W (by simp) (fun j => Nat.le_trans (getD_small (B := 4006) (fun s hs => by rw [List.mem_singleton.1 hs]; exact hTS.out) j) (by decide)) h he
  have HFA : Hid (∀ W ls q q1 q2 c n1 c1 n2 c2, ls.map kG = (coB ts).1 → FoundsC W q ls → Env W → Calls Tryz.prog 58 #[.agg #[.slice q (coB ts).1.length c, .slice q1 n1 c1, .slice q2 n2 c2]] W fun e w' => e = .returned (.tuple #[.string (bs (txB (coB ts).1)), .int .i64 0]) ∧ Below W.heap.size W w') := fun W ls q q1 q2 c n1 c1 n2 c2 hk hf he =>
    fair_call (coB ts).1 m HLN.out (by omega) q q1 q2 c n1 c1 n2 c2 ls W hk hf he
  have HZ1 : Hid ((coB ts).1.length ≤ 1000000000 ∧ (coB ts).2.1.length ≤ 1000000000 ∧ (coB ts).2.2.length ≤ 1000000000) := coB_len ts (fun j => Nat.le_trans (hz2 j) (by decide)) (by rw [hN.out]; omega)
  obtain ⟨T, hT⟩ : ∃ T, bs (txB (coB ts).1) = T := ⟨_, rfl⟩
  rw [hT] at HFA COT FB1 FB2
  have HF1 := Lib.hid FB1
  have HF2 := Lib.hid FB2
  clear he hz hz2 ht ht4 ef hk hcs hp hsum hwt htx hLL hskm hLn FB1 FB2 hT hTS
  go_enter Tryz.func17, Tryz.ntmps17
  go_wp2_with fail
  refine FW.out.mono ?_
  rintro e w1 ⟨rfl, rfl⟩
  clear FW
  go_wp2_with fail
  refine (CO1.out w (Below.refl _ _)).mono ?_
  rintro e w4 hcol
  obtain ⟨hb4, r0, r1, r2, s0, s1, s2, ls, cs, rfl, hbk⟩ := col_at hcol
  have HB4 := Lib.hid hb4
  have BK1 := Lib.hid hbk
  clear hb4 hbk hcol CO1
  go_wp2_with fail
  have N1 := Lib.hid (fun o u h => nw_at w4 #[.slice r0 (coB ts).1.length s0, .slice r1 (coB ts).2.1.length s1, .slice r2 (coB ts).2.2.length s2] 78 o u h)
  have HB45 : Hid (Below w4.heap.size w4 (w4.alloc (.cells #[.slice r0 (coB ts).1.length s0, .slice r1 (coB ts).2.1.length s1, .slice r2 (coB ts).2.2.length s2] 78))) := below_alloc1 _ _
  have HW5 : Hid ((w4.alloc (.cells #[.slice r0 (coB ts).1.length s0, .slice r1 (coB ts).2.1.length s1, .slice r2 (coB ts).2.2.length s2] 78)).heap.size = w4.heap.size + 1) := by unfold Hid; simp
  obtain ⟨W5, hW5⟩ : ∃ W5, Hid (w4.alloc (.cells #[.slice r0 (coB ts).1.length s0, .slice r1 (coB ts).2.1.length s1, .slice r2 (coB ts).2.2.length s2] 78) = W5) := ⟨_, rfl⟩
  rw [hW5.out] at N1 HB45 HW5 ⊢
  have HB5 := Lib.hid (HB4.out.trans (HB45.out.mono HB4.out.size))
  have BK5 := Lib.hid (BK1.out.below HB45.out)
  have FA := Lib.hid (HFA.out W5 ls r0 r1 r2 s0 (coB ts).2.1.length s1 (coB ts).2.2.length s2 BK5.out.kl BK5.out.l (HE.out.next HB5.out))
  clear BK1 HFA hW5 HB4
  refine FA.out.mono ?_
  rintro e w6 ⟨rfl, hb6⟩
  have HB56 := Lib.hid hb6
  clear hb6 FA
  go_wp2_with fail
  have S1 : Hid (StrsAt (w6.alloc (.cells #[.string T] 9)) (some ⟨w6.heap.size, 0, none⟩) [T]) := .inr ⟨_, 0, rfl, by simp, fun j hj => by
    obtain rfl : j = 0 := by simpa using hj
    exact nw_at w6 #[.string T] 9 0 _ rfl⟩
  have HB67 : Hid (Below W5.heap.size W5 (w6.alloc (.cells #[.string T] 9))) := HB56.out.alloc HB56.out.size _
  obtain ⟨W6, hW6⟩ : ∃ W6, Hid (w6.alloc (.cells #[.string T] 9) = W6) := ⟨_, rfl⟩
  rw [hW6.out] at S1 HB67 ⊢
  have C7 := Lib.hid (COT.out W6 _ 1 S1.out (HE.out.next (HB5.out.trans (HB67.out.mono HB5.out.size))))
  clear S1 COT HB56 hW6
  refine C7.out.mono ?_
  rintro e w7 hcol
  obtain ⟨hb7, t0, t1, t2, u0, u1, u2, ls', cs', rfl, hbk⟩ := col_at hcol
  have HB7 := Lib.hid (HB67.out.trans (hb7.mono HB67.out.size))
  have BK2 := Lib.hid hbk
  have E0 : (coB [T]).1.length = (coB ts).1.length := by simpa using congrArg List.length HF1.out
  have E1 : (coB [T]).2.1.length = 0 := by rw [HF2.out]; rfl
  clear hb7 hbk hcol C7 HB67
  rw [E0, E1]
  have kk := HF1.out
  rw [← BK2.out.kl, ← BK5.out.kl, List.map_map, List.map_map] at kk
  have z1 : ls.length = (coB ts).1.length := by rw [← BK5.out.kl, List.length_map]
  have z2 : ls'.length = (coB ts).1.length := by rw [← E0, ← BK2.out.kl, List.length_map]
  have KK := Lib.hid kk
  have Z1 := Lib.hid z1
  have Z2 := Lib.hid z2
  clear kk z1 z2 E0 E1
  have g5 := HW5.out
  have a0 := (HB7.out.cell (p := ⟨w4.heap.size, 0, none⟩) (by show w4.heap.size < _; omega)).trans (N1.out 0 _ rfl)
  have a1 := (HB7.out.cell (p := ⟨w4.heap.size, 1, none⟩) (by show w4.heap.size < _; omega)).trans (N1.out 1 _ rfl)
  have a2 := (HB7.out.cell (p := ⟨w4.heap.size, 2, none⟩) (by show w4.heap.size < _; omega)).trans (N1.out 2 _ rfl)
  have hlt4 : w4.heap.size < w7.heap.size := by have := HB7.out.size; omega
  go_wp2_with fail
  have N2 := Lib.hid (fun o u h => nw_at w7 #[.slice t0 (coB ts).1.length u0, .slice t1 0 u1, .slice t2 (coB [T]).2.2.length u2] 78 o u h)
  have HB78 : Hid (Below w7.heap.size w7 (w7.alloc (.cells #[.slice t0 (coB ts).1.length u0, .slice t1 0 u1, .slice t2 (coB [T]).2.2.length u2] 78))) := below_alloc1 _ _
  have HW8 : Hid ((w7.alloc (.cells #[.slice t0 (coB ts).1.length u0, .slice t1 0 u1, .slice t2 (coB [T]).2.2.length u2] 78)).heap.size = w7.heap.size + 1) := by unfold Hid; simp
  obtain ⟨W8, hW8⟩ : ∃ W8, Hid (w7.alloc (.cells #[.slice t0 (coB ts).1.length u0, .slice t1 0 u1, .slice t2 (coB [T]).2.2.length u2] 78) = W8) := ⟨_, rfl⟩
  rw [hW8.out] at N2 HB78 HW8 ⊢
  have HB8 := Lib.hid (HB7.out.trans (HB78.out.mono HB7.out.size))
  have BK8 := Lib.hid (BK5.out.below HB8.out)
  have BL8 := Lib.hid (BK2.out.below HB78.out)
  have HW58 : Hid (Below w.heap.size w W8) := HB5.out.trans (HB8.out.mono HB5.out.size)
  have HH4 : Hid (w4.heap.size < W8.heap.size) := by have := HW8.out; unfold Hid; omega
  have HA : Hid (∀ V, Below W8.heap.size W8 V → V.cell? ⟨w4.heap.size, 0, none⟩ = some (.slice r0 (coB ts).1.length s0) ∧ V.cell? ⟨w4.heap.size, 1, none⟩ = some (.slice r1 (coB ts).2.1.length s1) ∧ V.cell? ⟨w4.heap.size, 2, none⟩ = some (.slice r2 (coB ts).2.2.length s2)) := fun V hb =>
    ⟨(hb.cell (p := ⟨w4.heap.size, 0, none⟩) HH4.out).trans ((HB78.out.cell (p := ⟨w4.heap.size, 0, none⟩) hlt4).trans a0), (hb.cell (p := ⟨w4.heap.size, 1, none⟩) HH4.out).trans ((HB78.out.cell (p := ⟨w4.heap.size, 1, none⟩) hlt4).trans a1), (hb.cell (p := ⟨w4.heap.size, 2, none⟩) HH4.out).trans ((HB78.out.cell (p := ⟨w4.heap.size, 2, none⟩) hlt4).trans a2)⟩
  obtain ⟨x0, hx0⟩ : ∃ x0, (coB ts).1.length = x0 := ⟨_, rfl⟩
  have XL : x0 ≤ 4006 := by rw [← hx0]; exact HLL.out
  have HX0 := Lib.hid hx0
  rw [hx0] at HA Z1 Z2 ⊢
  have HH4' : Hid (w4.heap.size < W8.heap.size) := HH4.out
  clear a0 a1 a2 hlt4 hx0 g5 N1 N2 HB45 HB78 HW5 HB5 HB7 HB8 BK5 BK2 hW8 HH4 HLL HF2 HW8
  go_loopw [69] (fun i wr => ∃ j : Nat, j ≤ x0 ∧ i = .int .i64 j ∧ Hid (Below W8.heap.size W8 wr)) (fun i _ => x0 - (nOf i).toNat)
  case atStart => exact ⟨0, Nat.zero_le _, rfl, Below.refl _ _⟩
  case round =>
    obtain ⟨j, hj, rfl, B⟩ := hrel
    by_cases hlt : j < x0
    · have hj1 : j < ls'.length := by rw [Z2.out]; exact hlt
      have hj2 : j < ls.length := by rw [Z1.out]; exact hlt
      have hkey := at_two KK.out hj1
      have hwl := map_ws BK8.out.kl (coD_ws _ _).1 j
      have hc2 := (BK8.out.below B.out).l
      have hc1 := (BL8.out.below B.out).l
      obtain ⟨n, q1, c1, ws, cp1, cn1, cc1, rs, zs, hf⟩ := fc_cases (ls'.getD j default)
      obtain ⟨n2, q2, c2, ws2, cp2, cn2, cc2, rs2, zs2, hg2⟩ := fc_cases (ls.getD j default)
      rw [hf, hg2] at hkey
      simp only [Function.comp, kS, kW, kG, Prod.mk.injEq] at hkey
      obtain ⟨rfl, rfl, rfl⟩ := hkey
      rw [hg2] at hwl
      dsimp only at hwl
      obtain ⟨b1, o1, rfl, hb1, a0, a1, a2, a3, a4⟩ := fd_at hc1.1 (k := j) (by rw [List.length_map]; exact hj1) (by rw [fst_at hj1, hf])
      obtain ⟨b2, o2, rfl, hb2, d0, d1, d2, d3, d4⟩ := fd_at hc2.1 (k := j) (by rw [List.length_map]; exact hj2) (by rw [fst_at hj2, hg2])
      have hsame : sameB n n ws ws = true := sameB_yes rfl (fun _ _ => rfl)
      have CS : Hid (∀ W, Below wr.heap.size wr W → Calls Tryz.prog 37 #[.agg #[.int .i64 n, .slice q1 ws.length c1], .agg #[.int .i64 n, .slice q2 ws.length c2]] W fun e w' => e = .returned (.bool true) ∧ Below W.heap.size W w') := fun W hbW => by
        have := rSame n n q1 q2 c1 c2 ws ws W hwl (a4.below hbW) (d4.below hbW)
        rwa [hsame] at this
      obtain ⟨e0, e1, e2⟩ := HA.out wr B.out
      have hlt' : (j : Int) < (x0 : Int) := by omega
      have hj0 : (0 : Int) ≤ (j : Int) := by omega
      have HBW : Hid (Below wr.heap.size wr (wr.alloc (.cells #[.int .i64 n, .slice q1 ws.length c1, .slice cp1 cn1 cc1, .bool false] 87))) := below_alloc1 _ _
      have hw4 : w4.heap.size < wr.heap.size := by have := B.out.size; have := HH4'.out; omega
      obtain ⟨W9, hW9⟩ : ∃ W9, Hid (wr.alloc (.cells #[.int .i64 n, .slice q1 ws.length c1, .slice cp1 cn1 cc1, .bool false] 87) = W9) := ⟨_, rfl⟩
      have HW9 : Hid (W9.heap.size = wr.heap.size + 1) := by rw [← hW9.out]; unfold Hid; simp
      have HN9 : Hid (∀ o u, (#[.int .i64 n, .slice q1 ws.length c1, .slice cp1 cn1 cc1, .bool false] : Array Value).toList[o]? = some u → W9.cell? ⟨wr.heap.size, o, none⟩ = some u) := by rw [← hW9.out]; exact fun o u h => nw_at wr _ 87 o u h
      rw [hW9.out] at HBW
      have HS : Hid (∀ V, Below W9.heap.size W9 V → V.cell? ⟨wr.heap.size, 0, none⟩ = some (.int .i64 n) ∧ V.cell? ⟨wr.heap.size, 1, none⟩ = some (.slice q1 ws.length c1) ∧ V.cell? ⟨wr.heap.size, 3, none⟩ = some (.bool false) ∧ V.cell? ⟨w4.heap.size, 0, none⟩ = some (.slice (some ⟨b2, o2, none⟩) x0 s0) ∧ V.cell? ⟨b2, o2 + j * 4, none⟩ = some (.int .i64 n) ∧ V.cell? ⟨b2, o2 + j * 4 + 1, none⟩ = some (.slice q2 ws.length c2)) := fun V hb => by
        have h9 := HW9.out
        exact ⟨(hb.cell (p := ⟨wr.heap.size, 0, none⟩) (by show wr.heap.size < _; omega)).trans (HN9.out 0 _ rfl), (hb.cell (p := ⟨wr.heap.size, 1, none⟩) (by show wr.heap.size < _; omega)).trans (HN9.out 1 _ rfl), (hb.cell (p := ⟨wr.heap.size, 3, none⟩) (by show wr.heap.size < _; omega)).trans (HN9.out 3 _ rfl),
          (hb.cell (p := ⟨w4.heap.size, 0, none⟩) (by show w4.heap.size < _; omega)).trans ((HBW.out.cell (p := ⟨w4.heap.size, 0, none⟩) hw4).trans e0),
          (hb.cell (p := ⟨b2, o2 + j * 4, none⟩) (by show b2 < _; omega)).trans ((HBW.out.cell (p := ⟨b2, o2 + j * 4, none⟩) hb2).trans d0), (hb.cell (p := ⟨b2, o2 + j * 4 + 1, none⟩) (by show b2 < _; omega)).trans ((HBW.out.cell (p := ⟨b2, o2 + j * 4 + 1, none⟩) hb2).trans d1)⟩
      have B9 : Hid (Below W8.heap.size W8 W9) := B.out.trans (HBW.out.mono B.out.size)
      obtain ⟨L, hL⟩ : ∃ L, ws.length = L := ⟨_, rfl⟩
      rw [hL] at CS HS a1 hW9
      clear hf hg2 hwl hc1 hc2 a4 d4 hsame hj1 hj2 d2 d3 e1 e2 hL HN9 HW9 hb1 hb2
      go_wp2_with fail
      rw [hW9.out]
      clear a0 a1 a2 a3 d0 d1 e0 hW9
      go_region_held3 (fun V => V.cell? ⟨wr.heap.size, 0, none⟩ = some (.int .i64 n) ∧ V.cell? ⟨wr.heap.size, 1, none⟩ = some (.slice q1 L c1) ∧ V.cell? ⟨wr.heap.size, 3, none⟩ = some (.bool false) ∧ V.cell? ⟨w4.heap.size, 0, none⟩ = some (.slice (some ⟨b2, o2, none⟩) x0 s0) ∧ V.cell? ⟨b2, o2 + j * 4, none⟩ = some (.int .i64 n) ∧ V.cell? ⟨b2, o2 + j * 4 + 1, none⟩ = some (.slice q2 L c2))
        (first | exact HS.out _ (Below.refl _ _) | exact HS.out _ (Below.refl _ _).drew | exact HS.out _ ((Below.refl _ _).drew.trans (hb3.mono (Nat.le_refl _))) | exact HS.out _ (hb3) | go_keep)
        ((go_at_call 37; refine (CS.out _ HBW.out.drew).mono ?_; rintro e w2 ⟨rfl, hb3⟩))
      all_goals
        go_wp2_with fail
        exact ⟨⟨j + 1, by omega, by go_num, B9.out.trans (((Below.refl _ _).drew.trans (hb3.mono (Nat.le_refl _))).mono B9.out.size)⟩, by simp [nOf]; omega⟩
    · obtain rfl : j = x0 := by omega
      clear hlt hj
      have hkb2 : (b.tmod (N : Int)) = (k : Int) := hkb
      have hbt : IntKind.i64.wrap b = b := IntWalk.i64_in _ ⟨by omega, by omega⟩
      have hkt : IntKind.i64.wrap (b.tmod (N : Int)) = (k : Int) := by rw [hkb]; exact IntWalk.i64_in _ ⟨by omega, by omega⟩
      have hk1 : (0 : Int) ≤ (k : Int) := by omega
      have hk2 : (k : Int) < (N : Int) := by omega
      have hN0 : ((N : Int) == 0) = false := by rw [beq_eq_false_iff_ne]; omega
      have hNz : ¬ N = 0 := by omega
      have HBR : Hid (Below w.heap.size w wr) := HW58.out.trans (B.out.mono HW58.out.size)
      have ck := HCK.out wr HBR.out
      have HCR : Hid (∀ V, Below wr.heap.size wr V → V.cell? ⟨g, o + k, none⟩ = some (.string sk)) := fun V hv => HCK.out V (HBR.out.trans (hv.mono HBR.out.size))
      have HTR : Hid (∀ V, Below wr.heap.size wr V → ∀ j u, (strsV ts)[j]? = some u → V.cell? ((⟨g, o, none⟩ : Addr).add j) = some u) := fun V hv => HTT.out V (HBR.out.trans (hv.mono HBR.out.size))
      have HLT : Hid ((strsV ts).length = N * 1) := by unfold Hid; simp [hN.out]
      have PA : Hid (((wr.alloc (.cells #[] 9)).drew).ownsRow wr.heap.size 9 1 (.slice (some ⟨wr.heap.size, 0, none⟩) 0 0) 0 [] ∧ Below wr.heap.size wr (wr.alloc (.cells #[] 9)).drew ∧ wr.heap.size ≤ ((wr.alloc (.cells #[] 9)).drew).heap.size) :=
        ⟨(World.ownsRow_lit wr #[] 0 (Nat.le_refl _) (by decide) rfl).drew, (below_alloc1 _ _).drew, (below_alloc1 _ _).drew.size⟩
      have PB : Hid ((((wr.alloc (.cells #[] 9)).alloc (.cells #[.string sk] 9)).drew).ownsRow wr.heap.size 9 1 (.slice (some ⟨wr.heap.size, 0, none⟩) 0 0) 0 [] ∧ Below wr.heap.size wr ((wr.alloc (.cells #[] 9)).alloc (.cells #[.string sk] 9)).drew ∧ wr.heap.size ≤ (((wr.alloc (.cells #[] 9)).alloc (.cells #[.string sk] 9)).drew).heap.size ∧ (((wr.alloc (.cells #[] 9)).alloc (.cells #[.string sk] 9)).drew).cell? ⟨wr.heap.size + 1, 0, none⟩ = some (.string sk)) := by
        have hb : Below wr.heap.size wr ((wr.alloc (.cells #[] 9)).alloc (.cells #[.string sk] 9)) := (below_alloc1 _ _).alloc (by simp) _
        have hc := nw_at (wr.alloc (.cells #[] 9)) #[.string sk] 9 0 _ rfl
        rw [show (wr.alloc (.cells #[] 9)).heap.size = wr.heap.size + 1 from by simp] at hc
        exact ⟨((World.ownsRow_lit wr #[] 0 (Nat.le_refl _) (by decide) rfl).alloc _).drew, hb.drew, hb.drew.size, hc⟩
      have PC : Hid ((((wr.alloc (.cells #[.string sk] 9)).alloc (.cells #[] 9)).drew).ownsRow wr.heap.size 9 1 (.slice (some ⟨wr.heap.size + 1, 0, none⟩) 0 0) 0 [] ∧ Below wr.heap.size wr ((wr.alloc (.cells #[.string sk] 9)).alloc (.cells #[] 9)).drew ∧ wr.heap.size ≤ (((wr.alloc (.cells #[.string sk] 9)).alloc (.cells #[] 9)).drew).heap.size ∧ (((wr.alloc (.cells #[.string sk] 9)).alloc (.cells #[] 9)).drew).cell? ⟨wr.heap.size, 0, none⟩ = some (.string sk)) := by
        have hb : Below wr.heap.size wr ((wr.alloc (.cells #[.string sk] 9)).alloc (.cells #[] 9)) := (below_alloc1 _ _).alloc (by simp) _
        have hc := (below_alloc1 (wr.alloc (.cells #[.string sk] 9)) (.cells #[] 9)).cell (p := ⟨wr.heap.size, 0, none⟩) (by simp)
        have hl := World.ownsRow_lit (base := wr.heap.size) (e := 9) (size := 1) (wr.alloc (.cells #[.string sk] 9)) #[] 0 (by simp) (by decide) rfl
        rw [show (wr.alloc (.cells #[.string sk] 9)).heap.size = wr.heap.size + 1 from by simp] at hl
        exact ⟨hl.drew, hb.drew, hb.drew.size, hc.trans (nw_at wr #[.string sk] 9 0 _ rfl)⟩
      clear HF1 KK Z1 Z2 HTT HCK
      go_wp2_with fail
      go_region_held3 (fun V => V.cell? ⟨g, o + k, none⟩ = some (.string sk))
        (first | exact ck | exact HCR.out _ (Below.refl _ _).drew | exact HCR.out _ (below_alloc1 _ _) | exact HCR.out _ (below_alloc1 _ _).drew | exact HCR.out _ ((below_alloc1 _ _).alloc (by simp) _) | exact HCR.out _ ((below_alloc1 _ _).alloc (by simp) _).drew | exact HCR.out _ B2.out | exact HCR.out _ B2.out.drew | exact HCR.out _ (B2.out.alloc B2.out.size _) | exact HCR.out _ (B2.out.alloc B2.out.size _).drew | exact HCR.out _ B3.out | exact HCR.out _ B3.out.drew | go_keep)
        (first
          | (refine step_append_own_at rfl (.tmp 89) (.tmp 90) 37 rfl wr.heap.size 9 i0 (.string ⟨#[]⟩) 1 16 Tryz.underlying37 hi hz0 hz1 hz4 rfl (by decide) (.slice (some ⟨wr.heap.size, 0, none⟩) 0 0) 0 [] rfl PA.out.1 ⟨g, o, none⟩ N cap (strsV ts) rfl HLT.out (HTR.out _ PA.out.2.1) strsV_one (by unfold maxLen; omega) (by omega) PA.out.2.2 ?_; intro v1 w2 hown1 hgrow1 hat1 _; rw [Nat.zero_add, List.nil_append] at hown1; obtain ⟨p1, cc1, rfl⟩ := own_slice2 hown1; have O1 := Lib.hid hown1; have B2 := Lib.hid (PA.out.2.1.grown hgrow1 PA.out.2.2 (fun k h => by cases h; exact Nat.le_refl _)); clear hown1 hgrow1 hat1)
          | (refine step_append_own_at rfl (.tmp 89) (.tmp 90) 37 rfl wr.heap.size 9 i0 (.string ⟨#[]⟩) 1 16 Tryz.underlying37 hi hz0 hz1 hz4 rfl (by decide) (.slice (some ⟨wr.heap.size, 0, none⟩) 0 0) 0 [] rfl PB.out.1 ⟨g, o, none⟩ N cap (strsV ts) rfl HLT.out (HTR.out _ PB.out.2.1) strsV_one (by unfold maxLen; omega) (by omega) PB.out.2.2.1 ?_; intro v1 w2 hown1 hgrow1 hat1 _; rw [Nat.zero_add, List.nil_append] at hown1; obtain ⟨p1, cc1, rfl⟩ := own_slice2 hown1; have O1 := Lib.hid hown1; have B2 := Lib.hid (PB.out.2.1.grown hgrow1 PB.out.2.2.1 (fun k h => by cases h; exact Nat.le_refl _)); have YC : Hid (w2.cell? ⟨wr.heap.size + 1, 0, none⟩ = some (.string sk)) := hgrow1.cell PB.out.2.2.2 (by simp [Value.ownBlock]); clear hown1 hgrow1 hat1)
          | (refine step_append_own_at rfl (.tmp 89) (.tmp 90) 37 rfl wr.heap.size 9 i0 (.string ⟨#[]⟩) 1 16 Tryz.underlying37 hi hz0 hz1 hz4 rfl (by decide) (.slice (some ⟨wr.heap.size + 1, 0, none⟩) 0 0) 0 [] rfl PC.out.1 ⟨g, o, none⟩ N cap (strsV ts) rfl HLT.out (HTR.out _ PC.out.2.1) strsV_one (by unfold maxLen; omega) (by omega) PC.out.2.2.1 ?_; intro v1 w2 hown1 hgrow1 hat1 _; rw [Nat.zero_add, List.nil_append] at hown1; obtain ⟨p1, cc1, rfl⟩ := own_slice2 hown1; have O1 := Lib.hid hown1; have B2 := Lib.hid (PC.out.2.1.grown hgrow1 PC.out.2.2.1 (fun k h => by cases h; exact Nat.le_succ _)); have YC : Hid (w2.cell? ⟨wr.heap.size, 0, none⟩ = some (.string sk)) := hgrow1.cell PC.out.2.2.2 (by simp [Value.ownBlock]); clear hown1 hgrow1 hat1)
          | (refine step_append_own_at rfl (.tmp 91) (.tmp 100) 37 rfl wr.heap.size 9 i0 (.string ⟨#[]⟩) 1 16 Tryz.underlying37 hi hz0 hz1 hz4 rfl (by decide) (.slice p1 N cc1) N (strsV ts) rfl (O1.out.alloc _) ⟨w2.heap.size, 0, none⟩ 1 1 (strsV [sk]) rfl rfl (st_new w2 _ sk rfl) strsV_one (by unfold maxLen; omega) (by omega) (B2.out.alloc B2.out.size _).size ?_; intro v2 w3 hown2 hgrow2 _ _; have O2 := Lib.hid hown2; have B3 := Lib.hid ((B2.out.alloc B2.out.size _).grown hgrow2 (B2.out.alloc B2.out.size _).size (fun k h => (O1.out.lt k h).1)); obtain ⟨p2, c2, rfl⟩ := own_slice2 hown2; clear hown2 hgrow2)
          | (refine step_append_own_at rfl (.tmp 91) (.tmp 100) 37 rfl wr.heap.size 9 i0 (.string ⟨#[]⟩) 1 16 Tryz.underlying37 hi hz0 hz1 hz4 rfl (by decide) (.slice p1 N cc1) N (strsV ts) rfl O1.out ⟨wr.heap.size + 1, 0, none⟩ 1 1 (strsV [sk]) rfl rfl (one_cell YC.out) strsV_one (by unfold maxLen; omega) (by omega) B2.out.size ?_; intro v2 w3 hown2 hgrow2 _ _; have O2 := Lib.hid hown2; have B3 := Lib.hid (B2.out.grown hgrow2 B2.out.size (fun k h => (O1.out.lt k h).1)); obtain ⟨p2, c2, rfl⟩ := own_slice2 hown2; clear hown2 hgrow2)
          | (refine step_append_own_at rfl (.tmp 91) (.tmp 100) 37 rfl wr.heap.size 9 i0 (.string ⟨#[]⟩) 1 16 Tryz.underlying37 hi hz0 hz1 hz4 rfl (by decide) (.slice p1 N cc1) N (strsV ts) rfl O1.out ⟨wr.heap.size, 0, none⟩ 1 1 (strsV [sk]) rfl rfl (one_cell YC.out) strsV_one (by unfold maxLen; omega) (by omega) B2.out.size ?_; intro v2 w3 hown2 hgrow2 _ _; have O2 := Lib.hid hown2; have B3 := Lib.hid (B2.out.grown hgrow2 B2.out.size (fun k h => (O1.out.lt k h).1)); obtain ⟨p2, c2, rfl⟩ := own_slice2 hown2; clear hown2 hgrow2))
      all_goals
        have hus := O2.out
        rw [← strsV_app, ← HUL.out] at hus
        obtain ⟨p3, c3, e2, hst⟩ := strs_own hus
        obtain ⟨rfl, rfl⟩ : p2 = p3 ∧ c2 = c3 := by simpa using e2
        have HB3 := Lib.hid (HBR.out.trans (B3.out.mono HBR.out.size))
        have HR3 := Lib.hid (B.out.trans (B3.out.mono B.out.size))
        have C9 := Lib.hid (CO2.out w3 p2 c2 hst (HE.out.next HB3.out))
        clear hus hst e2 O1 O2 B2 B3 PA PB PC HCR HTR HLT CO2 hi hz0 hz1 hz4 B HBR ck
        go_wp2_with fail
        refine C9.out.mono ?_
        rintro e w10 hcol
        obtain ⟨hb10, v0, v1, v2, y0, y1, y2, ls3, cs3, rfl, hbk⟩ := col_at hcol
        have HB10 := Lib.hid (HB3.out.trans (hb10.mono HB3.out.size))
        have HR10 := Lib.hid (HR3.out.trans (hb10.mono HR3.out.size))
        have BK3 := Lib.hid hbk
        clear hb10 hbk hcol C9 HB3 HR3
        obtain ⟨G1, G2, G3⟩ := coB_same (cs := ts) (ds := ts ++ [sk]) (fun s => ⟨fun ⟨c, hc, h⟩ => ⟨c, List.mem_append.2 (.inl hc), h⟩, fun ⟨c, hc, h⟩ => ⟨c, (List.mem_append.1 hc).elim id (fun e => by rw [List.mem_singleton.1 e]; exact HSM.out), h⟩⟩)
        have G0 : (coB (ts ++ [sk])).1.length = (coB ts).1.length := by simpa using (congrArg List.length G1).symm
        rw [G0, ← G2, ← G3, HX0.out]
        obtain ⟨a0, a1, a2⟩ := HA.out w10 HR10.out
        have bk3 := BK3.out
        have kk3 : ls.map (kS ∘ kG) = ls3.map (kS ∘ kG) := by rw [← List.map_map, ← List.map_map, BK8.out.kl, bk3.kl]; exact G1
        have z1 : ls.length = j := by rw [← HX0.out, ← BK8.out.kl, List.length_map]
        have z3 : ls3.length = j := by rw [← HX0.out, ← G0, ← bk3.kl, List.length_map]
        have bg3 : SpansAt w10 v2 (coB ts).2.2 := by have := bk3.g; rwa [← G3] at this
        have HBG := Lib.hid bg3
        have HBL := Lib.hid bk3.l
        have BK10 := Lib.hid (BK8.out.below HR10.out)
        have K3 := Lib.hid kk3
        have HZ2 := Lib.hid z1
        have HZ3 := Lib.hid z3
        clear bk3 kk3 z1 z3 bg3 G0 G1 G2 G3 BK3
        go_wp2_with fail
        have N3 := Lib.hid (fun o u h => nw_at w10 #[.slice v0 j y0, .slice v1 (coB ts).2.1.length y1, .slice v2 (coB ts).2.2.length y2] 78 o u h)
        have HBB : Hid (Below w10.heap.size w10 (w10.alloc (.cells #[.slice v0 j y0, .slice v1 (coB ts).2.1.length y1, .slice v2 (coB ts).2.2.length y2] 78))) := below_alloc1 _ _
        have HWB : Hid ((w10.alloc (.cells #[.slice v0 j y0, .slice v1 (coB ts).2.1.length y1, .slice v2 (coB ts).2.2.length y2] 78)).heap.size = w10.heap.size + 1) := by unfold Hid; simp
        obtain ⟨W11, hW11⟩ : ∃ W11, Hid (w10.alloc (.cells #[.slice v0 j y0, .slice v1 (coB ts).2.1.length y1, .slice v2 (coB ts).2.2.length y2] 78) = W11) := ⟨_, rfl⟩
        rw [hW11.out] at N3 HBB HWB ⊢
        have HR11 := Lib.hid (HR10.out.trans (HBB.out.mono HR10.out.size))
        have HB11 := Lib.hid (HB10.out.trans (HBB.out.mono HB10.out.size))
        have Z1 := HZ1.out
        rw [HX0.out] at Z1
        have SF : Hid (∀ V, Below W11.heap.size W11 V → Calls Tryz.prog 70 #[.slice r0 j s0, .slice v0 j y0, .bool false] V fun e w' => e = .returned (.bool true) ∧ Below V.heap.size V w') := fun V hb => by
          have h5 := sameFoundF r0 v0 s0 y0 ls ls3 V (by rw [HZ2.out]; unfold maxLen; omega) K3.out (map_ws BK8.out.kl (coD_ws _ _).1) ((BK10.out.below HBB.out).below hb).l ((HBL.out.below HBB.out).below hb)
          rwa [HZ2.out, HZ3.out] at h5
        have SG : Hid (∀ V, Below W11.heap.size W11 V → Calls Tryz.prog 71 #[.slice r2 (coB ts).2.2.length s2, .slice v2 (coB ts).2.2.length y2] V fun e w' => e = .returned (.bool true) ∧ Below V.heap.size V w') := fun V hb =>
          sameGaps r2 v2 s2 y2 (coB ts).2.2 V (by unfold maxLen; omega) ((BK10.out.below HBB.out).below hb).g ((HBG.out.below HBB.out).below hb)
        have TB : Hid (∀ V, Below W11.heap.size W11 V → (V.cell? ⟨w4.heap.size, 0, none⟩ = some (.slice r0 j s0) ∧ V.cell? ⟨w4.heap.size, 1, none⟩ = some (.slice r1 (coB ts).2.1.length s1) ∧ V.cell? ⟨w4.heap.size, 2, none⟩ = some (.slice r2 (coB ts).2.2.length s2)) ∧ V.cell? ⟨w10.heap.size, 0, none⟩ = some (.slice v0 j y0) ∧ V.cell? ⟨w10.heap.size, 1, none⟩ = some (.slice v1 (coB ts).2.1.length y1) ∧ V.cell? ⟨w10.heap.size, 2, none⟩ = some (.slice v2 (coB ts).2.2.length y2)) := fun V hb => by
          have g2 := HWB.out
          exact ⟨HA.out V (HR11.out.trans (hb.mono HR11.out.size)),
            (hb.cell (p := ⟨w10.heap.size, 0, none⟩) (by show w10.heap.size < _; omega)).trans (N3.out 0 _ rfl), (hb.cell (p := ⟨w10.heap.size, 1, none⟩) (by show w10.heap.size < _; omega)).trans (N3.out 1 _ rfl), (hb.cell (p := ⟨w10.heap.size, 2, none⟩) (by show w10.heap.size < _; omega)).trans (N3.out 2 _ rfl)⟩
        obtain ⟨x1, hx1⟩ : ∃ x1, (coB ts).2.1.length = x1 := ⟨_, rfl⟩
        obtain ⟨x2, hx2⟩ : ∃ x2, (coB ts).2.2.length = x2 := ⟨_, rfl⟩
        rw [hx1, hx2]
        rw [hx1, hx2] at TB
        rw [hx2] at SG
        have SN := Lib.hid (sanity_any W11 (HE.out.next HB11.out))
        clear N3 a0 a1 a2 Z1 HA HBG HBL BK10 K3 HZ2 HZ3 HBB HWB hW11 HR11 HR10 HB10 hx1 hx2 HZ1 HX0 BK8 BL8
        refine SN.out.mono ?_
        rintro e w12 ⟨rfl, hb12⟩
        obtain ⟨⟨a0, a1, a2⟩, d0, d1, d2⟩ := TB.out w12 hb12
        have F8 := Lib.hid (SF.out w12 hb12)
        have HB12 := Lib.hid hb12
        clear hb12 SN SF
        go_wp2_with fail
        clear a0 a1 a2 d0 d1 d2
        refine F8.out.mono ?_
        rintro e w13 ⟨rfl, hb13⟩
        have hbb := HB12.out.trans (hb13.mono HB12.out.size)
        obtain ⟨⟨a0, a1, a2⟩, d0, d1, d2⟩ := TB.out w13 hbb
        have G9 := Lib.hid (SG.out w13 hbb)
        have HB13 := Lib.hid hbb
        clear hb13 hbb F8 SG HB12
        go_wp2_with fail
        clear a0 a1 a2 d0 d1 d2
        refine G9.out.mono ?_
        rintro e w14 ⟨rfl, hb14⟩
        have hbb := HB13.out.trans (hb14.mono HB13.out.size)
        obtain ⟨⟨a0, a1, a2⟩, d0, d1, d2⟩ := TB.out w14 hbb
        have HB14 := Lib.hid (HB11.out.trans (hbb.mono HB11.out.size))
        clear hb14 hbb G9 HB13 TB
        go_wp2_with fail
        go_ret
        exact ⟨rfl, HB14.out⟩
/-- The law; each copy as long as memory allows. -/
theorem sheetFairs_law (p : Option Addr) (cap : Nat) (ts : List ByteArray) (b : Int) (w : World) (he : Env w) (hl : ts.length ≤ maxLen) (hz : ∀ j, (ts.getD j ByteArray.empty).size ≤ maxLen) (hp : StrsAt w p ts) (hr : ∀ s ∈ ts, s.size ≤ 140737488355328) (hb : 0 ≤ b ∧ b ≤ 255) :
    Calls Tryz.prog 17 #[.slice p ts.length cap, .int .u8 b] w fun e w' => e = .returned (.bool true) ∧ Below w.heap.size w w' := by
  by_cases h : 6 < ts.length ∨ 4000 < wrap64 (sumL ts) ∨ ts.length = 0
  · exact fai_big p cap ts b w he hl hz hp h
  · have h3 := sumL_le ts 140737488355328 hr
    have h4 : 0 ≤ sumL ts := by unfold sumL; omega
    have h5 : wrap64 (sumL ts) = sumL ts := by unfold wrap64; omega
    exact fai_small p cap ts b w he (by omega) (by omega) (few_small (by omega) (by omega) hr) (by omega) (by omega) hp hb
end Go.Proofs.YtmfhpddeclggfaaGreatDoor
