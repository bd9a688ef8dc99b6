import Derived.RangeFuncNested
import Derived.RangeFuncBound
import Derived.RangeFuncCalls
import Derived.RangeFuncLeaves
import Derived.Test.YtmfhpddeclggfaaGreatDoorGe
import Derived.RangeFuncBox
import Derived.Shelf.Abstract
import Derived.Shelf.RegionOpen
import Derived.OwnWalkIn
import Derived.TacticsInMore
import Derived.LoopNIn
import Derived.LoopIn
import Derived.Maps.AppendAt
import Derived.Maps.OwnIn
import Derived.RegionIn
import Derived.BigRegionIn
import Derived.Stop.RegionWithIn
import Derived.WalkKit
import Derived.Test.YtmfhpddeclggfaaGreatDoorCz
import Derived.LoopTactic
import Derived.WalkSpells
import Derived.WalkLawsBesides
import Derived.Lib.Hide
import Derived.BigQuiet
import Derived.IntWalk
import Derived.Deep.DeepMust
import Derived.WalkSmall
import Derived.StillTailTactics
import Derived.Deep.RegionLaw
import Derived.Deep.QuietTactic
import Derived.Deep.Cut
import Derived.Deep.DeepCutAuto
import Derived.Deep.LoopGhost
import Derived.Laws.AppendOwn
namespace Go.Proofs.YtmfhpddeclggfaaGreatDoor
open Go.RowKit
/-! The reference's parts. -/
open Go.Shelf
attribute [local go_sem] Oper.semAt_some
def flatR : List PT → List Value
  | [] => []
  | p :: l => .string (bs p.c) :: .bool p.fd :: .bool p.lo :: flatR l
theorem flatR_app (l m : List PT) : flatR (l ++ m) = flatR l ++ flatR m := by
  induction l with
  | nil => rfl
  | cons p l ih => simp [flatR, ih]
theorem flatR_one : ∀ {l : List PT}, ∀ u ∈ flatR l, u.oneCell' = true
  | [], u, h => by simp [flatR] at h
  | p :: l, u, h => by
    simp only [flatR, List.mem_cons] at h
    rcases h with rfl | rfl | rfl | h
    · rfl
    · rfl
    · rfl
    · exact flatR_one u h
theorem flatR_get : ∀ {l : List PT} {j : Nat} {q : PT}, l[j]? = some q → (flatR l)[j * 3]? = some (.string (bs q.c)) ∧ (flatR l)[j * 3 + 1]? = some (.bool q.fd) ∧ (flatR l)[j * 3 + 2]? = some (.bool q.lo)
  | [], _, _, h => by simp at h
  | p :: l, 0, q, h => by
    obtain rfl : p = q := by simpa using h
    exact ⟨rfl, rfl, rfl⟩
  | p :: l, j + 1, q, h => by
    have ih := flatR_get (l := l) (j := j) (q := q) (by simpa using h)
    rw [show (j + 1) * 3 = j * 3 + 1 + 1 + 1 from by omega]
    simpa [flatR] using ih
theorem inf162 : (Tryz.prog.info? 162).map (fun i => (i.zero, i.size, i.bytes)) = some (some (.agg #[.string ⟨#[]⟩, .bool false, .bool false]), 3, 24) := by kernel_rfl
theorem str_bs (s : ByteArray) : s = bs s.data.toList := rfl
theorem rp_new (W : World) (b : Nat) (p : PT) (hb : W.heap.size = b) : ∀ j u, (flatR [p])[j]? = some u → (W.alloc (.cells #[.string (bs p.c), .bool p.fd, .bool p.lo] 162)).cell? ((⟨b, 0, none⟩ : Addr).add j) = some u := by
  subst hb
  exact cells_new W #[.string (bs p.c), .bool p.fd, .bool p.lo] 162
/-- How the world stands while parts are gathered. -/
structure RP (w1 W : World) (B : Nat) (v : Value) (ps : List PT) : Prop where
  bel : Below w1.heap.size w1 W
  own : W.ownsRow B 162 3 v ps.length (flatR ps)
  hB : w1.heap.size ≤ B
  hW : B ≤ W.heap.size
set_option maxRecDepth 100000 in
set_option maxHeartbeats 4000000 in
theorem rPartsOf (s : ByteArray) (w : World) (hs : s.size ≤ 100000) :
    Calls Tryz.prog 104 #[.string s] w fun e w' => ∃ v, e = .returned v ∧ Below w.heap.size w w' ∧ w'.ownsRow w.heap.size 162 3 v (partsH s).length (flatR (partsH s)) := by
  have RS := Lib.hid (rSplit s 10 w (by omega))
  have HSS := Lib.hid hs
  have hc10 : ((10 : UInt8).toNat : Int) = 10 := rfl
  rw [hc10] at RS
  clear hc10
  obtain ⟨i0, hi, hz0, hz1, hz4⟩ := info_parts inf162
  go_enter Tryz.func104, Tryz.ntmps104
  go_wp2_with fail
  refine RS.out.mono ?_
  rintro e w1 ⟨xs, v, rfl, hown, hb, HX⟩
  obtain ⟨q, cap, rfl, hst⟩ := strs_own hown
  have HST := Lib.hid hst
  have HB := Lib.hid hb
  obtain ⟨N, hN⟩ : ∃ N, Hid (xs.length = N) := ⟨_, rfl⟩
  have hNl : Hid (N ≤ 100001) := by
    have h1 := congrArg List.length HX.out
    rw [List.length_map, hN.out] at h1
    have h2 := spL_count 10 s.data.toList
    have h3 : s.data.toList.length = s.size := by simp
    have := HSS.out
    unfold Hid; omega
  have hN0 : Hid (0 < N) := by
    have h1 := congrArg List.length HX.out
    rw [List.length_map, hN.out] at h1
    have h2 : spL 10 s.data.toList ≠ [] := spL_ne 10 _
    have := List.length_pos_iff.2 h2
    unfold Hid; omega
  obtain ⟨L, hL⟩ : ∃ L, Hid (spL 10 s.data.toList = L) := ⟨_, rfl⟩
  have hLN : Hid (L.length = N) := by unfold Hid; rw [← hL.out, ← HX.out, List.length_map]; exact hN.out
  rw [hN.out]
  have R0 : Hid (RP w1 w1 w1.heap.size (.slice none 0 0) []) := ⟨Below.refl _ _, World.ownsRow_nil _ _ _ _, Nat.le_refl _, Nat.le_refl _⟩
  clear hown hb RS hst
  have hNl2 : N ≤ 100001 := hNl.out
  go_wp2_with fail
  go_loopw [4, 5] (fun v i wr => ∃ (k : Nat) (ps : List PT), k ≤ N ∧ i = .int .i64 k ∧ Hid (ps ++ spF (L.drop k) = spF L) ∧ Hid (ps.length ≤ k) ∧ Hid (RP w1 wr w1.heap.size v ps)) (fun _ i _ => N - (intOf i).toNat)
  case atStart => exact ⟨0, [], Nat.zero_le _, rfl, rfl, Nat.zero_le _, R0⟩
  case round =>
    clear R0
    obtain ⟨k, ps, hk, rfl, HQ, HK, R⟩ := hrel
    by_cases hlt : k < N
    · have hkx : k < xs.length := by rw [hN.out]; exact hlt
      obtain ⟨b, o, rfl, hbb, c0⟩ := str_at (HST.out.below R.out.bel) hkx
      obtain ⟨x, hx⟩ : ∃ x, Hid (xs.getD k ByteArray.empty = x) := ⟨_, rfl⟩
      rw [hx.out] at c0
      have hlx : Hid (L.drop k = x.data.toList :: L.drop (k + 1)) := by
        unfold Hid
        have hkL : k < L.length := by rw [hLN.out]; exact hlt
        rw [List.drop_eq_getElem_cons hkL]
        have : L[k]? = some x.data.toList := by rw [← hL.out, ← HX.out, List.getElem?_map, List.getElem?_eq_getElem hkx, ← hx.out, List.getD, List.getElem?_eq_getElem hkx]; rfl
        rw [List.getElem?_eq_getElem hkL] at this
        rw [Option.some.inj this]
      have hlt' : (k : Int) < (N : Int) := by omega
      have hk0 : (0 : Int) ≤ (k : Int) := by omega
      have HK1 : Hid (ps.length + 1 ≤ maxLen) := by have := HK.out; unfold Hid maxLen; omega
      have HK2 : Hid ((ps.length + 1) * 24 ≤ 140737488355328) := by have := HK.out; unfold Hid; omega
      clear hbb
      by_cases hf : k + 1 < N
      · have hfi : (k : Int) < (N : Int) - 1 := by omega
        have hq : Hid ((ps ++ [(⟨x.data.toList, true, false⟩ : PT)]) ++ spF (L.drop (k + 1)) = spF L) := by
          have h1 := HQ.out
          rw [hlx.out, spF_cons (fun e => by have h2 := congrArg List.length e; rw [List.length_drop, hLN.out] at h2; simp at h2; omega)] at h1
          rw [List.append_assoc]
          exact h1
        go_wp2_with (at_builtin; refine wpList_append_own _ rfl (.tmp 28) (.tmp 35) 159 rfl w1.heap.size 162 i0 (.agg #[.string ⟨#[]⟩, .bool false, .bool false]) 3 24 Tryz.underlying159 hi hz0 hz1 hz4 rfl (by decide) u4 ps.length (flatR ps) rfl (R.out.own.alloc _) ⟨wr.heap.size, 0, none⟩ 1 1 (flatR [(⟨x.data.toList, true, false⟩ : PT)]) rfl rfl (rp_new wr _ ⟨x.data.toList, true, false⟩ rfl) flatR_one HK1.out HK2.out (by have := R.out.hW; simp; omega) ?_; intro v' w4 hown hgrow _)
        have hsz := hgrow.size
        simp only [World.size_alloc] at hsz
        have hRR : Hid (RP w1 w4 w1.heap.size v' (ps ++ [⟨x.data.toList, true, false⟩])) :=
          ⟨(R.out.bel.alloc R.out.bel.size _).grown hgrow (by have := R.out.bel.size; simp; omega) (fun g hg => by have := (R.out.own.lt g hg).1; omega), by rw [List.length_append, flatR_app]; exact hown, Nat.le_refl _, by have := R.out.hW; omega⟩
        refine ⟨⟨k + 1, _, by omega, by go_num, ?_, by have := HK.out; unfold Hid; simp; omega, hRR⟩, by simp [intOf]; omega⟩
        exact hq
      · have hfi : ¬ (k : Int) < (N : Int) - 1 := by omega
        have hdr : L.drop (k + 1) = [] := List.drop_eq_nil_of_le (by rw [hLN.out]; omega)
        by_cases hz : x.data.toList = []
        · have hxs : x.size = 0 := by have : x.data.toList.length = x.size := by simp
                                      rw [hz] at this; simpa using this.symm
          have hxe := str_nil hxs
          have hq : Hid (ps ++ spF (L.drop (k + 1)) = spF L) := by
            have h1 := HQ.out
            rw [hlx.out, hdr, hz] at h1
            rw [hdr]
            exact h1
          go_wp2_with fail
          exact ⟨⟨k + 1, ps, by omega, by go_num, hq, by have := HK.out; unfold Hid; omega, R⟩, by simp [intOf]; omega⟩
        · have hxs : ¬ x.size = 0 := fun e => hz (by
            have : x.data.toList.length = x.size := by simp
            exact List.length_eq_zero_iff.1 (by omega))
          have hxe := str_not_nil hxs
          have hq : Hid ((ps ++ [(⟨x.data.toList, false, false⟩ : PT)]) ++ spF (L.drop (k + 1)) = spF L) := by
            have h1 := HQ.out
            rw [hlx.out, hdr] at h1
            rw [hdr, ← h1]
            have h2 : spF [x.data.toList] = [⟨x.data.toList, false, false⟩] := by
              show (if x.data.toList = [] then [] else [_]) = _
              rw [if_neg hz]
            rw [h2]
            show _ ++ ([] : List PT) = _
            rw [List.append_nil]
          go_wp2_with (at_builtin; refine wpList_append_own _ rfl (.tmp 28) (.tmp 35) 159 rfl w1.heap.size 162 i0 (.agg #[.string ⟨#[]⟩, .bool false, .bool false]) 3 24 Tryz.underlying159 hi hz0 hz1 hz4 rfl (by decide) u4 ps.length (flatR ps) rfl (R.out.own.alloc _) ⟨wr.heap.size, 0, none⟩ 1 1 (flatR [(⟨x.data.toList, false, false⟩ : PT)]) rfl rfl (rp_new wr _ ⟨x.data.toList, false, false⟩ rfl) flatR_one HK1.out HK2.out (by have := R.out.hW; simp; omega) ?_; intro v' w4 hown hgrow _)
          have hsz := hgrow.size
          simp only [World.size_alloc] at hsz
          have hRR : Hid (RP w1 w4 w1.heap.size v' (ps ++ [⟨x.data.toList, false, false⟩])) :=
            ⟨(R.out.bel.alloc R.out.bel.size _).grown hgrow (by have := R.out.bel.size; simp; omega) (fun g hg => by have := (R.out.own.lt g hg).1; omega), by rw [List.length_append, flatR_app]; exact hown, Nat.le_refl _, by have := R.out.hW; omega⟩
          refine ⟨⟨k + 1, _, by omega, by go_num, ?_, by have := HK.out; unfold Hid; simp; omega, hRR⟩, by simp [intOf]; omega⟩
          exact hq
    · obtain rfl : k = N := by omega
      have hq := HQ.out
      rw [List.drop_eq_nil_of_le (by rw [hLN.out]; exact Nat.le_refl _)] at hq
      have hq2 : ps = spF L := by rw [← hq]; unfold spF; rw [List.append_nil]
      have HOW := Lib.hid R.out.own
      have HBW := Lib.hid R.out.bel
      obtain ⟨xq, xm, xc, rfl⟩ := own_slice R.out.own
      have HPS : Hid (partsH s = ps) := by unfold Hid partsH; rw [hL.out, hq2]
      clear hq hq2 R
      go_wp2_with fail
      go_ret
      refine ⟨_, rfl, HB.out.trans (HBW.out.mono HB.out.size), ?_⟩
      rw [HPS.out]
      exact ownsRow_base HOW.out HB.out.size
end Go.Proofs.YtmfhpddeclggfaaGreatDoor
