import Derived.Test.YtmfhpddeclggfaaGreatDoorVId
import Derived.Test.YtmfhpddeclggfaaGreatDoorVc
import Derived.RangeFuncNested
import Derived.RangeFuncBound
import Derived.RangeFuncCalls
import Derived.RangeFuncLeaves
import Derived.RangeFuncBox
import Derived.Shelf.Abstract
import Derived.Shelf.RegionOpen
import Derived.OwnWalkIn
import Derived.TacticsInMore
import Derived.LoopNIn
import Derived.LoopIn
import Derived.Maps.AppendAt
import Derived.Maps.OwnIn
import Derived.RegionIn
import Derived.BigRegionIn
import Derived.Stop.RegionWithIn
import Derived.WalkKit
import Derived.LoopTactic
import Derived.WalkSpells
import Derived.WalkLawsBesides
import Derived.Lib.Hide
import Derived.BigQuiet
import Derived.IntWalk
import Derived.Deep.DeepMust
import Derived.WalkSmall
import Derived.StillTailTactics
import Derived.Deep.RegionLaw
import Derived.Deep.QuietTactic
import Derived.Deep.Cut
import Derived.Deep.DeepCutAuto
import Derived.Deep.LoopGhost
import Derived.Laws.AppendOwn
namespace Go.Proofs.YtmfhpddeclggfaaGreatDoor
open Go.RowKit
/-! The line that scraps of one number and one length show together. -/
/-- Scraps that are no lines, with their copies: how they lie. -/
def PlAt (W : World) (p : Option Addr) (l : List (Int × ByteArray)) : Prop := l = [] ∨ ∃ b o, p = some ⟨b, o, none⟩ ∧ b < W.heap.size ∧ ∀ j, j < l.length → W.cell? ⟨b, o + j * 2, none⟩ = some (.int .i64 (l.getD j default).1) ∧ W.cell? ⟨b, o + j * 2 + 1, none⟩ = some (.string (l.getD j default).2)
theorem PlAt.below {W W' : World} {p : Option Addr} {l : List (Int × ByteArray)} (h : PlAt W p l) (hb : Below W.heap.size W W') : PlAt W' p l := by
  rcases h with h | ⟨b, o, h1, h2, h3⟩
  · exact .inl h
  · exact .inr ⟨b, o, h1, Nat.lt_of_lt_of_le h2 hb.size, fun j hj => ⟨(hb.cell (p := ⟨b, o + j * 2, none⟩) h2).trans (h3 j hj).1, (hb.cell (p := ⟨b, o + j * 2 + 1, none⟩) h2).trans (h3 j hj).2⟩⟩
/-- The copies of scraps. -/
def cpL (l : List (Int × ByteArray)) : List Int := l.foldl (fun a x => addL a x.1) []
theorem cpL_snoc (l : List (Int × ByteArray)) (k : Nat) (h : k < l.length) : cpL (l.take (k + 1)) = addL (cpL (l.take k)) (l.getD k default).1 := by
  unfold cpL
  rw [List.take_succ_eq_append_getElem h, List.foldl_append, List.getD, List.getElem?_eq_getElem h]
  rfl
theorem tx_snoc (l : List (Int × ByteArray)) (k : Nat) (h : k < l.length) : (l.take (k + 1)).map Prod.snd = (l.take k).map Prod.snd ++ [(l.getD k default).2] := by
  rw [List.take_succ_eq_append_getElem h, List.map_append, List.getD, List.getElem?_eq_getElem h]
  rfl
theorem cpF_len : ∀ (l : List (Int × ByteArray)) (a : List Int), (l.foldl (fun a x => addL a x.1) a).length ≤ a.length + l.length
  | [], _ => Nat.le_refl _
  | x :: l, a => by
    have h1 := cpF_len l (addL a x.1)
    have h2 := addL_le a x.1
    rw [List.foldl_cons, List.length_cons]; omega
theorem cpL_len (l : List (Int × ByteArray)) : (cpL l).length ≤ l.length := by
  have := cpF_len l []
  simpa [cpL] using this
/-- withLast. -/
theorem wl_any (v : Value) (zs : List Int) (k : Int) (B : Nat) (w : World) (hO : w.ownsRow B 3 1 v zs.length (cellsI zs)) (hl : zs.length ≤ 1000000) (hB : B ≤ w.heap.size) :
    Calls Tryz.prog 184 #[v, .int .i64 k] w fun e w' => ∃ v', e = .returned v' ∧ w'.ownsRow B 3 1 v' (addL zs k).length (cellsI (addL zs k)) ∧ w.grownBy w' v.ownBlock ∧ (v'.ownBlock = v.ownBlock ∨ v'.ownBlock = some (w.heap.size + 1)) ∧ w.heap.size ≤ w'.heap.size := by
  by_cases hk : zs.getLast? = some k
  · refine (withLast_same v zs k B w hO hk hl).mono ?_
    rintro e w' ⟨rfl, rfl⟩
    refine ⟨v, rfl, ?_, ⟨rfl, rfl, rfl, Nat.le_refl _, fun _ _ _ => rfl⟩, .inl rfl, Nat.le_refl _⟩
    rw [addL, if_pos hk]; exact hO
  · refine (withLast_new v zs k B w hO hk hl hB).mono ?_
    rintro e w' ⟨v', rfl, h1, h2, h3, h4⟩
    refine ⟨v', rfl, ?_, h2, ?_, Nat.le_of_lt h4⟩
    · rw [addL, if_neg hk, List.length_append]; exact h1
    · rcases h3 with h3 | h3
      · exact .inr h3
      · exact .inl h3.1
/-- Two rows of one's own: texts and copies. -/
structure OvW (w W : World) (vt vc : Value) (ts : List ByteArray) (zs : List Int) : Prop where
  bel : Below w.heap.size w W
  rt : W.ownsRow w.heap.size 9 1 vt ts.length (strsV ts)
  rc : W.ownsRow w.heap.size 3 1 vc zs.length (cellsI zs)
  ne : vt.ownBlock = none ∨ vt.ownBlock ≠ vc.ownBlock
theorem OvW.mk0 (w : World) : OvW w w (.slice none 0 0) (.slice none 0 0) [] [] := ⟨Below.refl _ _, World.ownsRow_nil _ _ _ _, World.ownsRow_nil _ _ _ _, .inl rfl⟩
theorem OvW.next {w W W' : World} {vt vc : Value} {ts : List ByteArray} {zs : List Int} (h : OvW w W vt vc ts zs) (hb : Below W.heap.size W W') : OvW w W' vt vc ts zs :=
  ⟨h.bel.trans (hb.mono h.bel.size), ownsRow_keep h.rt hb, ownsRow_keep h.rc hb, h.ne⟩
theorem OvW.text {w W W' : World} {vt vc v' : Value} {ts : List ByteArray} {zs : List Int} {x : ByteArray} (h : OvW w W vt vc ts zs)
    (hown : W'.ownsRow w.heap.size 9 1 v' (ts.length + 1) (strsV ts ++ strsV [x])) (hgr : W.grownBy W' vt.ownBlock) (hat : v'.ownBlock = vt.ownBlock ∨ v'.ownBlock = some W.heap.size) : OvW w W' v' vc (ts ++ [x]) zs := by
  have hne : vc.ownBlock = none ∨ vc.ownBlock ≠ vt.ownBlock := by
    rcases h.ne with e | e
    · cases hv : vc.ownBlock with
      | none => exact .inl rfl
      | some g => exact .inr (by rw [e]; exact fun e => by cases e)
    · exact .inr e.symm
  refine ⟨h.bel.grown hgr h.bel.size (fun k e => (h.rt.lt k e).1), by rw [List.length_append, strsV, List.map_append]; exact hown, h.rc.kept hgr hne, ?_⟩
  cases hv : vc.ownBlock with
  | none =>
    cases hv2 : v'.ownBlock with
    | none => exact .inl rfl
    | some g => exact .inr (fun e => by cases e)
  | some g =>
    refine .inr ?_
    have g1 := (h.rc.lt g hv).2
    rcases hat with hat | hat <;> rw [hat]
    · rcases hne with e | e
      · rw [hv] at e; cases e
      · rw [← hv]; exact e.symm
    · exact fun e => by have := Option.some.inj e; omega
theorem OvW.copy {w W W' : World} {vt vc v' : Value} {ts : List ByteArray} {zs zs' : List Int} (h : OvW w W vt vc ts zs)
    (hown : W'.ownsRow w.heap.size 3 1 v' zs'.length (cellsI zs')) (hgr : W.grownBy W' vc.ownBlock) (hat : v'.ownBlock = vc.ownBlock ∨ v'.ownBlock = some (W.heap.size + 1)) : OvW w W' vt v' ts zs' := by
  refine ⟨h.bel.grown hgr h.bel.size (fun k e => (h.rc.lt k e).1), h.rt.kept hgr h.ne, hown, ?_⟩
  cases hv : vt.ownBlock with
  | none => exact .inl rfl
  | some g =>
    refine .inr ?_
    have g1 := (h.rt.lt g hv).2
    rcases hat with hat | hat <;> rw [hat]
    · rcases h.ne with e | e
      · rw [hv] at e; cases e
      · rw [← hv]; exact e
    · exact fun e => by have := Option.some.inj e; omega
theorem ovt_new (W : World) (bk : Nat) (x : ByteArray) (hb : W.heap.size = bk) : ∀ j u, (strsV [x])[j]? = some u → (W.alloc (.cells #[.string x] 9)).cell? ((⟨bk, 0, none⟩ : Addr).add j) = some u := by
  subst hb
  exact cells_new W #[.string x] 9
/-- A reading as it is told: the number, the words, the copies, and whether it was restored. -/
abbrev FV := Int × List ByteArray × List Int × Bool
/-- What scraps show together. -/
def ov1 (l : List (Int × ByteArray)) : List FV := if (ovO (l.map Prod.snd)).isSome = true ∧ readErr (ovS (ovO (l.map Prod.snd))) = 0 then [(lineN (ovS (ovO (l.map Prod.snd))), lineWs (ovS (ovO (l.map Prod.snd))), cpL l, true)] else []
/-- What overlaid leaves. -/
def OvP (w : World) (l : List (Int × ByteArray)) (e : Ending) (w' : World) : Prop :=
  Below w.heap.size w w' ∧ ((ov1 l = [] ∧ e = .returned (.tuple #[.agg #[.int .i64 0, .slice none 0 0, .slice none 0 0, .bool false], .bool false])) ∨
    ∃ n ws zs pw cw pc cc, ov1 l = [(n, ws, zs, true)] ∧ e = .returned (.tuple #[.agg #[.int .i64 n, .slice pw ws.length cw, .slice pc zs.length cc, .bool true], .bool true]) ∧ PFrom w.heap.size pw ∧ StrsAt w' pw ws ∧ PFrom w.heap.size pc ∧ IntsAt w' pc zs)
theorem pl_at {W : World} {p : Option Addr} {l : List (Int × ByteArray)} (h : PlAt W p l) {k : Nat} (hk : k < l.length) : ∃ b o, p = some ⟨b, o, none⟩ ∧ b < W.heap.size ∧ W.cell? ⟨b, o + k * 2, none⟩ = some (.int .i64 (l.getD k default).1) ∧ W.cell? ⟨b, o + k * 2 + 1, none⟩ = some (.string (l.getD k default).2) := by
  rcases h with h | ⟨b, o, h1, h2, h3⟩
  · rw [h] at hk; exact absurd hk (by simp)
  · exact ⟨b, o, h1, h2, (h3 k hk).1, (h3 k hk).2⟩
theorem ints_ownF {W : World} {B : Nat} {v : Value} {l : List Int} (h : W.ownsRow B 3 1 v l.length (cellsI l)) : ∃ q cap, v = .slice q l.length cap ∧ IntsAt W q l ∧ PFrom B q := by
  obtain ⟨q, cap, rfl, hq⟩ := ints_own h
  refine ⟨q, cap, rfl, hq, fun a e => ?_⟩
  subst e
  rcases h.2 with ⟨e, _⟩ | ⟨g, c, cur, e, hg, _⟩
  · cases e
  · cases e; exact hg
set_option maxRecDepth 100000 in
set_option maxHeartbeats 4000000 in
theorem sOverlaid (p : Option Addr) (cap : Nat) (l : List (Int × ByteArray)) (w : World) (hl : l.length ≤ 1000000) (hsz : ∀ j, (l.getD j default).2.size ≤ 1000000) (hp : PlAt w p l) (he : Env w) :
    Calls Tryz.prog 187 #[.slice p l.length cap] w (OvP w l) := by
  have HP := Lib.hid hp
  have HSZ := Lib.hid hsz
  have HE := Lib.hid he
  obtain ⟨N, hN⟩ : ∃ N, Hid (l.length = N) := ⟨_, rfl⟩
  rw [hN.out] at hl ⊢
  clear hp hsz he
  have Z0 : Hid (Below w.heap.size w (w.alloc (.cells #[.int .i64 0, .slice none 0 0, .slice none 0 0, .bool false] 87))) := below_alloc1 _ _
  have r0 : (w.alloc (.cells #[.int .i64 0, .slice none 0 0, .slice none 0 0, .bool false] 87)).cell? ⟨w.heap.size, 0, none⟩ = some (.int .i64 0) := nw_at w _ 87 0 _ rfl
  have r1 : (w.alloc (.cells #[.int .i64 0, .slice none 0 0, .slice none 0 0, .bool false] 87)).cell? ⟨w.heap.size, 1, none⟩ = some (.slice none 0 0) := nw_at w _ 87 1 _ rfl
  have r2 : (w.alloc (.cells #[.int .i64 0, .slice none 0 0, .slice none 0 0, .bool false] 87)).cell? ⟨w.heap.size, 2, none⟩ = some (.slice none 0 0) := nw_at w _ 87 2 _ rfl
  have r3 : (w.alloc (.cells #[.int .i64 0, .slice none 0 0, .slice none 0 0, .bool false] 87)).cell? ⟨w.heap.size, 3, none⟩ = some (.bool false) := nw_at w _ 87 3 _ rfl
  have rf : ∀ o, (w.alloc (.cells #[.int .i64 0, .slice none 0 0, .slice none 0 0, .bool false] 87)).frozen? ⟨w.heap.size, o, none⟩ = false := fun o => frozen_new w _ _ o
  obtain ⟨w1, hw1⟩ : ∃ w1, Hid (w.alloc (.cells #[.int .i64 0, .slice none 0 0, .slice none 0 0, .bool false] 87) = w1) := ⟨_, rfl⟩
  have HW1 : Hid (w1.heap.size = w.heap.size + 1) := by unfold Hid; rw [← hw1.out]; simp
  rw [hw1.out] at Z0 r0 r1 r2 r3 rf
  have HR0 := Lib.hid r0
  have HR1 := Lib.hid r1
  have HR2 := Lib.hid r2
  have HR3 := Lib.hid r3
  have HRF := Lib.hid rf
  have R0 := Lib.hid (OvW.mk0 w1)
  clear r0 r1 r2 r3 rf
  go_enter Tryz.func187, Tryz.ntmps187
  go_wp2_with fail
  rw [hw1.out]
  go_loopw [4, 5, 14] (fun vt vc i wr => ∃ k : Nat, k ≤ N ∧ i = .int .i64 k ∧ Hid (OvW w1 wr vt vc ((l.take k).map Prod.snd) (cpL (l.take k)))) (fun _ _ i _ => N - (intOf i).toNat)
  case atStart => exact ⟨0, Nat.zero_le _, rfl, R0⟩
  case round =>
    clear R0
    obtain ⟨k, hk, rfl, R⟩ := hrel
    by_cases hlt : k < N
    · have hkl : k < l.length := by rw [hN.out]; exact hlt
      obtain ⟨b, o, rfl, hbl, c0, c1⟩ := pl_at (HP.out.below Z0.out) hkl
      have c0 := (R.out.bel.cell (p := ⟨b, o + k * 2, none⟩) hbl).trans c0
      have c1 := (R.out.bel.cell (p := ⟨b, o + k * 2 + 1, none⟩) hbl).trans c1
      have HT := Lib.hid (tx_snoc l k hkl)
      have HC := Lib.hid (cpL_snoc l k hkl)
      have HCL : Hid ((cpL (l.take k)).length ≤ 1000000) := by have := cpL_len (l.take k); rw [List.length_take] at this; unfold Hid; omega
      have HTL : Hid (((l.take k).map Prod.snd).length ≤ 1000000) := by rw [List.length_map, List.length_take]; unfold Hid; omega
      obtain ⟨⟨i, x⟩, hx⟩ : ∃ x, l.getD k default = x := ⟨_, rfl⟩
      rw [hx] at c0 c1 HT HC
      obtain ⟨ts, hts⟩ : ∃ ts, Hid ((l.take k).map Prod.snd = ts) := ⟨_, rfl⟩
      obtain ⟨zs, hzs⟩ : ∃ zs, Hid (cpL (l.take k) = zs) := ⟨_, rfl⟩
      rw [hts.out] at R HT HTL
      rw [hzs.out] at R HC HCL
      dsimp only at c0 c1 HT HC
      have HNV : Hid (some wr.heap.size ≠ u4.ownBlock) := fun e => by have := (R.out.rt.lt _ e.symm).2; omega
      have R1 := Lib.hid (R.out.next (below_alloc1 wr (.cells #[.int .i64 i, .string x] 260)))
      have R4 := fun X => Lib.hid (R1.out.next (below_alloc1 (wr.alloc (.cells #[.int .i64 i, .string x] 260)) X))
      have y0 : (wr.alloc (.cells #[.int .i64 i, .string x] 260)).cell? ⟨wr.heap.size, 0, none⟩ = some (.int .i64 i) := nw_at wr _ 260 0 _ rfl
      have y1 : (wr.alloc (.cells #[.int .i64 i, .string x] 260)).cell? ⟨wr.heap.size, 1, none⟩ = some (.string x) := nw_at wr _ 260 1 _ rfl
      have HY0 := Lib.hid y0
      obtain ⟨j0, hj, hy0, hy1, hy4⟩ := info_parts inf9
      have HPm : Hid (ts.length + 1 ≤ maxLen) := by have := HTL.out; unfold Hid maxLen; omega
      have HPb : Hid ((ts.length + 1) * 16 ≤ 140737488355328) := by have := HTL.out; unfold Hid; omega
      have HLW : Hid (w1.heap.size ≤ wr.heap.size) := R.out.bel.size
      obtain ⟨q, m, c, rfl⟩ := own_slice R.out.rt
      obtain ⟨q2, m2, c2, rfl⟩ := own_slice R.out.rc
      have hlt' : (k : Int) < (N : Int) := by omega
      have hk0 : (0 : Int) ≤ (k : Int) := by omega
      clear hx hbl R
      go_wp2_with (first | (at_builtin; refine wpList_append_own_at _ rfl (.tmp 18) (.tmp 21) 37 rfl w1.heap.size 9 j0 (.string ⟨#[]⟩) 1 16 Tryz.underlying37 hj hy0 hy1 hy4 rfl (by decide) (.slice q m c) ts.length (strsV ts) rfl (R4 _).out.rt ⟨wr.heap.size + 1, 0, none⟩ 1 1 (strsV [x]) rfl rfl (ovt_new _ _ x (by simp)) strsV_one HPm.out HPb.out (by have := HLW.out; simp; omega) ?_; intro v' w4 hown hgrow _ hat; obtain ⟨g', cap', rfl⟩ := ownsRow_succ hown; have R5 := Lib.hid (OvW.text (x := x) (R4 _).out hown hgrow hat); have y4 := hgrow.cell (cell_al HY0.out _) HNV.out; clear hown hgrow hat) | (refine (wl_any _ zs i w1.heap.size _ R5.out.rc HCL.out R5.out.bel.size).mono ?_; rintro e w6 ⟨v6, rfl, ho6, hg6, ha6, -⟩; have R6 := Lib.hid (OvW.copy R5.out ho6 hg6 ha6); clear ho6 hg6 ha6))
      exact ⟨⟨k + 1, by omega, by go_num, by rw [HT.out, HC.out]; exact R6⟩, by simp [intOf]; omega⟩
    · obtain rfl : k = N := by omega
      have HT : Hid (l.take k = l) := List.take_of_length_le (by rw [hN.out]; exact Nat.le_refl _)
      rw [HT.out] at R
      have hbw : w.heap.size < w1.heap.size := by have := HW1.out; omega
      have HBW := Lib.hid hbw
      have HLT : Hid ((l.map Prod.snd).length = k) := by unfold Hid; rw [List.length_map, hN.out]
      obtain ⟨tq, tc, rfl, htq, -⟩ := strs_ownF R.out.rt
      obtain ⟨cq, cc, rfl, hcq, hcp⟩ := ints_ownF R.out.rc
      have hszs : ∀ j, ((l.map Prod.snd).getD j ByteArray.empty).size ≤ 1000000 := fun j => by
        by_cases hj : j < l.length
        · rw [List.getD, List.getElem?_map, List.getElem?_eq_getElem hj]
          have := HSZ.out j
          rw [List.getD, List.getElem?_eq_getElem hj] at this
          exact this
        · rw [List.getD, List.getElem?_eq_none (by rw [List.length_map]; omega)]
          exact Nat.zero_le _
      have OVL := Lib.hid (sOverlay tq tc (l.map Prod.snd) wr (by rw [HLT.out]; exact hl) (fun j _ => hszs j) htq)
      have HTS := Lib.hid (ovS_size (l.map Prod.snd) 1000000 (fun j _ => hszs j))
      rw [ovRes_eq, HLT.out] at OVL
      have HO1 : Hid (ov1 l = if (ovO (l.map Prod.snd)).isSome = true ∧ readErr (ovS (ovO (l.map Prod.snd))) = 0 then [(lineN (ovS (ovO (l.map Prod.snd))), lineWs (ovS (ovO (l.map Prod.snd))), cpL l, true)] else []) := rfl
      obtain ⟨oo, hoo⟩ : ∃ oo, ovO (l.map Prod.snd) = oo := ⟨_, rfl⟩
      rw [hoo] at OVL HTS HO1
      obtain ⟨T, hT⟩ : ∃ T, ovS oo = T := ⟨_, rfl⟩
      rw [hT] at OVL HTS HO1
      obtain ⟨bo, hbo⟩ : ∃ bo, oo.isSome = bo := ⟨_, rfl⟩
      rw [hbo] at OVL HO1
      obtain ⟨zs, hzs⟩ : ∃ zs, Hid (cpL l = zs) := ⟨_, rfl⟩
      have HCQ := Lib.hid hcq
      have HCP := Lib.hid hcp
      rw [hzs.out] at HO1 HCQ
      rw [HLT.out, hzs.out]
      have BB : Hid (Below w.heap.size w wr) := Z0.out.trans (R.out.bel.mono (Nat.le_of_lt hbw))
      have RB := Lib.hid R.out.bel
      clear R htq hcq hcp hszs hoo hT hbo hbw HT
      cases bo with
      | false =>
        have HN1 : Hid (ov1 l = []) := by unfold Hid; rw [HO1.out, if_neg (fun h => by cases h.1)]
        clear HO1
        go_wp2_with fail
        refine OVL.out.mono ?_
        rintro e w2 ⟨rfl, hb⟩
        have RB2 := Lib.hid (RB.out.trans (hb.mono RB.out.size))
        have r0 := (RB2.out.cell (p := ⟨w.heap.size, 0, none⟩) HBW.out).trans HR0.out
        have r1 := (RB2.out.cell (p := ⟨w.heap.size, 1, none⟩) HBW.out).trans HR1.out
        have r2 := (RB2.out.cell (p := ⟨w.heap.size, 2, none⟩) HBW.out).trans HR2.out
        have r3 := (RB2.out.cell (p := ⟨w.heap.size, 3, none⟩) HBW.out).trans HR3.out
        have f0 := (RB2.out.frozen (p := ⟨w.heap.size, 0, none⟩) HBW.out).trans (HRF.out 0)
        have f1 := (RB2.out.frozen (p := ⟨w.heap.size, 1, none⟩) HBW.out).trans (HRF.out 1)
        have f2 := (RB2.out.frozen (p := ⟨w.heap.size, 2, none⟩) HBW.out).trans (HRF.out 2)
        have f3 := (RB2.out.frozen (p := ⟨w.heap.size, 3, none⟩) HBW.out).trans (HRF.out 3)
        have B2 : Hid (Below w.heap.size w w2) := BB.out.trans (hb.mono BB.out.size)
        clear hb OVL BB RB RB2
        go_wp2_with fail
        refine bodyPost_ret (v := .tuple #[.agg #[.int .i64 0, .slice none 0 0, .slice none 0 0, .bool false], .bool false]) (by simp [results, Tryz.results187, go_sem, r0, r1, r2, r3]) rfl ?_
        exact ⟨(((B2.out.setCell (p := ⟨w.heap.size, 0, none⟩) (Nat.le_refl _) _).setCell (p := ⟨w.heap.size, 1, none⟩) (Nat.le_refl _) _).setCell (p := ⟨w.heap.size, 2, none⟩) (Nat.le_refl _) _).setCell (p := ⟨w.heap.size, 3, none⟩) (Nat.le_refl _) _, .inl ⟨HN1.out, rfl⟩⟩
      | true =>
        go_wp2_with fail
        refine OVL.out.mono ?_
        rintro e w2 ⟨rfl, hb⟩
        have RB2 := Lib.hid (RB.out.trans (hb.mono RB.out.size))
        have B2 : Hid (Below w.heap.size w w2) := BB.out.trans (hb.mono BB.out.size)
        have HI2 : Hid (IntsAt w2 cq zs) := HCQ.out.below hb
        have RDS := Lib.hid (sRead T w2 HTS.out (HE.out.next B2.out))
        clear hb OVL BB RB HCQ
        go_wp2_with fail
        refine RDS.out.mono ?_
        rintro e w3 ⟨hb, ⟨he, rfl⟩ | ⟨he, pw, cw, rfl, hpw, hws⟩⟩
        · have HN1 : Hid (ov1 l = []) := by unfold Hid; rw [HO1.out, if_neg (fun h => he h.2)]
          obtain ⟨er, her⟩ : ∃ er, readErr T = er := ⟨_, rfl⟩
          rw [her] at he ⊢
          have hb4 : Below w.heap.size w2 (w3.alloc (.cells #[.int .i64 0, .slice none 0 0] 39)) := (hb.mono B2.out.size).alloc (Nat.le_trans B2.out.size hb.size) _
          have B3 : Hid (Below w.heap.size w (w3.alloc (.cells #[.int .i64 0, .slice none 0 0] 39))) := B2.out.trans hb4
          have RB3 : Hid (Below w1.heap.size w1 (w3.alloc (.cells #[.int .i64 0, .slice none 0 0] 39))) := RB2.out.trans ((hb.mono RB2.out.size).alloc (Nat.le_trans RB2.out.size hb.size) _)
          have r0 := (RB3.out.cell (p := ⟨w.heap.size, 0, none⟩) HBW.out).trans HR0.out
          have r1 := (RB3.out.cell (p := ⟨w.heap.size, 1, none⟩) HBW.out).trans HR1.out
          have r2 := (RB3.out.cell (p := ⟨w.heap.size, 2, none⟩) HBW.out).trans HR2.out
          have r3 := (RB3.out.cell (p := ⟨w.heap.size, 3, none⟩) HBW.out).trans HR3.out
          have f0 := (RB3.out.frozen (p := ⟨w.heap.size, 0, none⟩) HBW.out).trans (HRF.out 0)
          have f1 := (RB3.out.frozen (p := ⟨w.heap.size, 1, none⟩) HBW.out).trans (HRF.out 1)
          have f2 := (RB3.out.frozen (p := ⟨w.heap.size, 2, none⟩) HBW.out).trans (HRF.out 2)
          have f3 := (RB3.out.frozen (p := ⟨w.heap.size, 3, none⟩) HBW.out).trans (HRF.out 3)
          clear hb hb4 RDS RB2 RB3 her HO1
          go_wp2_with fail
          refine bodyPost_ret (v := .tuple #[.agg #[.int .i64 0, .slice none 0 0, .slice none 0 0, .bool false], .bool false]) (by simp [results, Tryz.results187, go_sem, r0, r1, r2, r3]) rfl ?_
          exact ⟨(((B3.out.setCell (p := ⟨w.heap.size, 0, none⟩) (Nat.le_refl _) _).setCell (p := ⟨w.heap.size, 1, none⟩) (Nat.le_refl _) _).setCell (p := ⟨w.heap.size, 2, none⟩) (Nat.le_refl _) _).setCell (p := ⟨w.heap.size, 3, none⟩) (Nat.le_refl _) _, .inl ⟨HN1.out, rfl⟩⟩
        · have HN1 : Hid (ov1 l = [(lineN T, lineWs T, zs, true)]) := by unfold Hid; rw [HO1.out, if_pos ⟨trivial, he⟩]
          obtain ⟨n, hn⟩ : ∃ n, lineN T = n := ⟨_, rfl⟩
          obtain ⟨ws, hw⟩ : ∃ ws, lineWs T = ws := ⟨_, rfl⟩
          rw [hn, hw] at HN1
          rw [hw] at hws
          rw [hn, hw]
          obtain ⟨L, hL⟩ : ∃ L, Hid (ws.length = L) := ⟨_, rfl⟩
          obtain ⟨Z, hZ⟩ : ∃ Z, Hid (zs.length = Z) := ⟨_, rfl⟩
          rw [hL.out, hZ.out]
          have hb4 : Below w.heap.size w2 (w3.alloc (.cells #[.int .i64 n, .slice pw L cw] 39)) := (hb.mono B2.out.size).alloc (Nat.le_trans B2.out.size hb.size) _
          have B3 : Hid (Below w.heap.size w (w3.alloc (.cells #[.int .i64 n, .slice pw L cw] 39))) := B2.out.trans hb4
          have RB3 : Hid (Below w1.heap.size w1 (w3.alloc (.cells #[.int .i64 n, .slice pw L cw] 39))) := RB2.out.trans ((hb.mono RB2.out.size).alloc (Nat.le_trans RB2.out.size hb.size) _)
          have HW3 : Hid (StrsAt (w3.alloc (.cells #[.int .i64 n, .slice pw L cw] 39)) pw ws) := StrsAt.below hws (below_alloc1 _ _)
          have HI3 : Hid (IntsAt (w3.alloc (.cells #[.int .i64 n, .slice pw L cw] 39)) cq zs) := (HI2.out.below hb).below (below_alloc1 _ _)
          have HPW : Hid (PFrom w1.heap.size pw) := fun ad e => by have := hpw ad e; have := RB2.out.size; omega
          have r0 := (RB3.out.cell (p := ⟨w.heap.size, 0, none⟩) HBW.out).trans HR0.out
          have r1 := (RB3.out.cell (p := ⟨w.heap.size, 1, none⟩) HBW.out).trans HR1.out
          have r2 := (RB3.out.cell (p := ⟨w.heap.size, 2, none⟩) HBW.out).trans HR2.out
          have r3 := (RB3.out.cell (p := ⟨w.heap.size, 3, none⟩) HBW.out).trans HR3.out
          have f0 := (RB3.out.frozen (p := ⟨w.heap.size, 0, none⟩) HBW.out).trans (HRF.out 0)
          have f1 := (RB3.out.frozen (p := ⟨w.heap.size, 1, none⟩) HBW.out).trans (HRF.out 1)
          have f2 := (RB3.out.frozen (p := ⟨w.heap.size, 2, none⟩) HBW.out).trans (HRF.out 2)
          have f3 := (RB3.out.frozen (p := ⟨w.heap.size, 3, none⟩) HBW.out).trans (HRF.out 3)
          have y0 : (w3.alloc (.cells #[.int .i64 n, .slice pw L cw] 39)).cell? ⟨w3.heap.size, 0, none⟩ = some (.int .i64 n) := nw_at w3 _ 39 0 _ rfl
          have y1 : (w3.alloc (.cells #[.int .i64 n, .slice pw L cw] 39)).cell? ⟨w3.heap.size, 1, none⟩ = some (.slice pw L cw) := nw_at w3 _ 39 1 _ rfl
          clear hb hb4 RDS RB2 RB3 HO1 hn hw hws hpw he HI2 B2
          go_wp2_with fail
          refine bodyPost_ret (v := .tuple #[.agg #[.int .i64 n, .slice pw L cw, .slice cq Z cc, .bool true], .bool true]) (by simp [results, Tryz.results187, go_sem, r0, r1, r2, r3]) rfl ?_
          have hne : ∀ ad : Addr, w1.heap.size ≤ ad.block → ∀ (o i : Nat), (⟨w.heap.size, o, none⟩ : Addr) ≠ ⟨ad.block, i, none⟩ := fun ad h o i e => by have := congrArg Addr.block e; have := HBW.out; dsimp only at *; omega
          refine ⟨(((B3.out.setCell (p := ⟨w.heap.size, 0, none⟩) (Nat.le_refl _) _).setCell (p := ⟨w.heap.size, 1, none⟩) (Nat.le_refl _) _).setCell (p := ⟨w.heap.size, 2, none⟩) (Nat.le_refl _) _).setCell (p := ⟨w.heap.size, 3, none⟩) (Nat.le_refl _) _, .inr ⟨n, ws, zs, pw, cw, cq, cc, HN1.out, by rw [hL.out, hZ.out], ?_, ?_, ?_, ?_⟩⟩
          · exact fun ad e => by have := HPW.out ad e; have := HBW.out; omega
          · refine HW3.out.keep (by simp only [World.size_setCell]; exact Nat.le_refl _) (.inr fun ad e i => ?_)
            have := HPW.out ad e
            rw [World.cell?_setCell_other _ _ _ _ (hne ad this _ _), World.cell?_setCell_other _ _ _ _ (hne ad this _ _), World.cell?_setCell_other _ _ _ _ (hne ad this _ _), World.cell?_setCell_other _ _ _ _ (hne ad this _ _)]
          · exact fun ad e => by have := HCP.out ad e; have := HBW.out; omega
          · refine HI3.out.keep (by simp only [World.size_setCell]; exact Nat.le_refl _) (fun ad e i => ?_)
            have := HCP.out ad e
            rw [World.cell?_setCell_other _ _ _ _ (hne ad this _ _), World.cell?_setCell_other _ _ _ _ (hne ad this _ _), World.cell?_setCell_other _ _ _ _ (hne ad this _ _), World.cell?_setCell_other _ _ _ _ (hne ad this _ _)]
end Go.Proofs.YtmfhpddeclggfaaGreatDoor
