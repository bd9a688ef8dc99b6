import Derived.RangeFuncNested
import Derived.RangeFuncBound
import Derived.RangeFuncCalls
import Derived.RangeFuncLeaves
import Derived.Test.YtmfhpddeclggfaaGreatDoorGf
import Derived.RangeFuncBox
import Derived.Shelf.Abstract
import Derived.Shelf.RegionOpen
import Derived.OwnWalkIn
import Derived.TacticsInMore
import Derived.LoopNIn
import Derived.LoopIn
import Derived.Maps.AppendAt
import Derived.Maps.OwnIn
import Derived.RegionIn
import Derived.BigRegionIn
import Derived.Stop.RegionWithIn
import Derived.WalkKit
import Derived.LoopTactic
import Derived.WalkSpells
import Derived.WalkLawsBesides
import Derived.Lib.Hide
import Derived.BigQuiet
import Derived.IntWalk
import Derived.Deep.DeepMust
import Derived.WalkSmall
import Derived.StillTailTactics
import Derived.Deep.RegionLaw
import Derived.Deep.QuietTactic
import Derived.Deep.Cut
import Derived.Deep.DeepCutAuto
import Derived.Deep.LoopGhost
import Derived.Laws.AppendOwn
namespace Go.Proofs.YtmfhpddeclggfaaGreatDoor
open Go.RowKit
/-! joinParts. -/
open Go.Shelf
theorem builder_kept {w w' : World} {B b : Nat} {p : Value} {l : List Value} (h : Lib.BuilderAt 137 5 B b p l w) (hb : Below w.heap.size w w') : Lib.BuilderAt 137 5 B b p l w' := by
  obtain ⟨h1, v, h2, h3, h4⟩ := h
  have hlt : b < w.heap.size := (Array.getElem?_eq_some_iff.1 h2).1
  refine ⟨h1, v, by rw [hb.block b hlt]; exact h2, h3.kept (below_grown hb) ?_, h4⟩
  cases hv : v.ownBlock with
  | none => exact Or.inl rfl
  | some k => exact Or.inr (by simp)
theorem isb_kept {w w' : World} {B b : Nat} {l : List Value} (h : Lib.IsBuilder 137 5 B b l w) (hb : Below w.heap.size w w') : Lib.IsBuilder 137 5 B b l w' := by
  rcases h with h | h
  · exact Or.inl (builder_kept h hb)
  · exact Or.inr (builder_kept h hb)
set_option maxRecDepth 100000 in
set_option maxHeartbeats 2000000 in
theorem bWriteK (B b k : Nat) (l : List Value) (ad : Addr) (m c : Nat) (news : List Value) (w : World) (h : Lib.IsBuilder 137 5 B b l w) (hl : news.length = m) (hnews : ∀ j u, news[j]? = some u → w.cell? (ad.add j) = some u) (hadB : ad.block < B) (h1 : ∀ u ∈ news, u.oneCell' = true)
    (hlen : l.length + m ≤ 140737488355328) (hBw : B ≤ w.heap.size) (hk : k < w.heap.size) (hkb : k ≠ b) (hkv : ∀ v, w.cell? ⟨b, 1, none⟩ = some v → v.ownBlock ≠ some k) :
    Calls Tryz.prog 138 #[.pointer (some ⟨b, 0, none⟩), .slice (some ad) m c] w fun e w' => e = .returned (.tuple #[.int .i64 m, .nilIface]) ∧ (Lib.BuilderAt 137 5 B b (.pointer (some ⟨b, 0, none⟩)) (l ++ news) w' ∧ Below B w w') ∧ w'.heap[k]? = w.heap[k]? := by
  have cC : Calls Tryz.prog 130 #[.pointer (some ⟨b, 0, none⟩)] w fun e w' => e = .returned (.tuple #[]) ∧ (Lib.BuilderAt 137 5 B b (.pointer (some ⟨b, 0, none⟩)) l w' ∧ Below B w w') ∧ w'.heap[k]? = w.heap[k]? ∧ w'.cell? ⟨b, 1, none⟩ = w.cell? ⟨b, 1, none⟩ := by
    rcases h with h | h
    · refine (Any.Builder_copyCheck_fresh { Tryz.lays166 with } Tryz.Builder_Extra_166.toX72 b w h.cell0 h.shape h.frozen0).mono ?_
      rintro e w' ⟨rfl, rfl⟩
      exact ⟨rfl, ⟨h.used _, (Below.refl B w).setCell (p := ⟨b, 0, none⟩) h.1 _⟩, (grownBy_setCell' w b _).block k hk (fun e => hkb (Option.some.inj e)), World.cell?_setCell_other _ _ _ _ (fun e => by cases e)⟩
    · refine (Any.Builder_copyCheck_used { Tryz.lays166 with } Tryz.Builder_Extra_166.toX72 b w h.cell0).mono ?_
      rintro e w' ⟨rfl, rfl⟩
      exact ⟨rfl, ⟨h, Below.refl B _⟩, rfl, rfl⟩
  clear h
  obtain ⟨i0, hi, hz0, hz1, hz2⟩ := info_parts Tryz.Builder_Extra_166.infoByte
  go_enter Tryz.func138, Tryz.ntmps138
  go_wp2_with (go_at_call 130; refine cC.mono ?_)
  rintro e w1 ⟨rfl, ⟨h1', hb1⟩, hk1, hc1⟩
  have HK1 := Lib.hid hk1
  have HC1 := Lib.hid hc1
  clear hk1 hc1
  obtain ⟨hB, v, hbk, hown, hne⟩ := h1'
  have c0 : w1.cell? ⟨b, 0, none⟩ = some (.pointer (some ⟨b, 0, none⟩)) := by rw [Lib.cell_of_heap hbk]; rfl
  have c1 : w1.cell? ⟨b, 1, none⟩ = some v := by rw [Lib.cell_of_heap hbk]; rfl
  have HV : Hid (v.ownBlock ≠ some k) := hkv v (by rw [← HC1.out]; exact c1)
  have hnews1 : ∀ j u, news[j]? = some u → w1.cell? (ad.add j) = some u := fun j u hj => by rw [hb1.cell (p := ad.add j) (by unfold Addr.add; split <;> exact hadB)]; exact hnews j u hj
  go_wp2_with (at_builtin; refine wpList_append_own _ rfl _ _ 106 rfl B 5 i0 (.int .u8 0) 1 1 Tryz.underlying106 hi hz0 hz1 hz2 rfl (by decide) _ _ _ rfl hown ad m c news rfl (by omega) hnews1 h1 ?c3 ?c4 ?c5 ?_)
  case c3 => unfold maxLen; omega
  case c4 => omega
  case c5 => have := hb1.size; omega
  intro v' w2 hown' hgrow _
  have hlt : b < w1.heap.size := by
    rcases Nat.lt_or_ge b w1.heap.size with h' | h'
    · exact h'
    · simp [Array.getElem?_eq_none h'] at hbk
  have hb2 : w2.heap[b]? = some (.cells #[.pointer (some ⟨b, 0, none⟩), v] 137 (0, 0)) := by
    rw [hgrow.block b hlt (fun e => hne e.symm)]
    exact hbk
  have d0 : w2.cell? ⟨b, 0, none⟩ = some (.pointer (some ⟨b, 0, none⟩)) := by rw [Lib.cell_of_heap hb2]; rfl
  have d1 : w2.cell? ⟨b, 1, none⟩ = some v := by rw [Lib.cell_of_heap hb2]; rfl
  have f1 : w2.frozen? ⟨b, 1, none⟩ = false := Lib.frozen_of_heap hb2 1
  obtain ⟨ao, n', cap, rfl⟩ : ∃ ao n' cap, v' = .slice ao n' cap := by
    rcases hown'.2 with ⟨hv, _⟩ | ⟨g, cap, cur, hv, _⟩
    · exact ⟨_, _, _, hv⟩
    · exact ⟨_, _, _, hv⟩
  go_wp2
  go_ret2
  refine ⟨rfl, ⟨?_, ?_⟩, ?_⟩
  · exact Lib.BuilderAt.put (T := 137) (e := 5) hB hb2 (bs' := l ++ news) (by simpa [hl] using hown') Tryz.Builder_Extra_166.neB5
  · exact (hb1.grown hgrow (by have := hb1.size; omega) (fun k hk => (hown.lt k hk).1)).setCell (p := ⟨b, 1, none⟩) hB _
  · have hkw : k < w1.heap.size := by have := hb1.size; omega
    refine ((grownBy_setCellAt w2 b 1 _).block k (by have := hgrow.size; omega) (fun e => hkb (Option.some.inj e))).trans ?_
    exact (hgrow.block k hkw (fun e => HV.out e.symm)).trans HK1.out
/-- How the world stands while parts are joined. -/
structure JA (w W : World) (l : List UInt8) : Prop where
  bel : Below w.heap.size w W
  lt : w.heap.size < W.heap.size
  bld : Lib.IsBuilder 137 5 w.heap.size w.heap.size (Lib.byteCells l) W
theorem JA.keep {w W W' : World} {l : List UInt8} (h : JA w W l) (hb : Below W.heap.size W W') : JA w W' l :=
  ⟨h.bel.trans (hb.mono h.bel.size), Nat.lt_of_lt_of_le h.lt hb.size, isb_kept h.bld hb⟩
theorem JA.next {w W W' : World} {l l' : List UInt8} (h : JA w W l) (hb : Below w.heap.size W W') (hl : Lib.IsBuilder 137 5 w.heap.size w.heap.size (Lib.byteCells l') W') : JA w W' l' :=
  ⟨h.bel.trans hb, Nat.lt_of_lt_of_le h.lt hb.size, hl⟩
theorem fdS_list (f : Bool) : (fdS f).data.toList = if f = true then [10] else [] := by cases f <;> rfl
theorem cb_cases (c : CB) : ∃ l fd lo b cap, c = ⟨⟨l, fd, lo⟩, b, cap⟩ := ⟨_, _, _, _, _, rfl⟩
theorem byteCells_get (l : List UInt8) (j : Nat) (u : Value) (h : (Lib.byteCells l)[j]? = some u) : j < l.length ∧ u = .int .u8 ((l.getD j 0).toNat : Int) := by
  unfold Lib.byteCells at h
  rw [List.getElem?_map] at h
  cases hj : l[j]? with
  | none => rw [hj] at h; cases h
  | some x =>
    rw [hj] at h
    refine ⟨(List.getElem?_eq_some_iff.1 hj).1, ?_⟩
    rw [List.getD, hj]
    simp only [Option.map_some, Option.some.injEq] at h
    exact h.symm
theorem bc_one (l : List UInt8) : ∀ u ∈ Lib.byteCells l, u.oneCell' = true := fun u hu => by
  unfold Lib.byteCells at hu
  obtain ⟨x, -, rfl⟩ := List.mem_map.1 hu
  rfl
set_option maxRecDepth 100000 in
set_option maxHeartbeats 4000000 in
theorem sJoin (q : Option Addr) (cap B : Nat) (cs : List CB) (w : World) (hl : cs.length ≤ 100000) (hsz : ∀ x ∈ cs, x.p.c.length ≤ 100000) (hp : cs = [] ∨ ∃ g, q = some ⟨g, 0, none⟩ ∧ PG B w g cs) :
    Calls Tryz.prog 103 #[.slice q cs.length cap] w fun e w' => e = .returned (.string (bs (joinP (cs.map CB.p)))) ∧ Below w.heap.size w w' := by
  have HP := Lib.hid hp
  have HSZ := Lib.hid hsz
  obtain ⟨N, hN⟩ : ∃ N, Hid (cs.length = N) := ⟨_, rfl⟩
  obtain ⟨R, hR⟩ : ∃ R, Hid (joinP (cs.map CB.p) = R) := ⟨_, rfl⟩
  rw [hR.out]
  rw [hN.out] at hl ⊢
  have S0 : Hid (JA w (w.alloc (.cells #[.pointer none, .slice none 0 0] 137)) (joinP ((cs.map CB.p).take 0))) := ⟨below_alloc1 _ _, by simp, bld_fresh w⟩
  clear hp hsz
  go_enter Tryz.func103, Tryz.ntmps103
  go_wp2_with fail
  go_loopw [8] (fun i wr => ∃ k : Nat, k ≤ N ∧ i = .int .i64 k ∧ Hid (JA w wr (joinP ((cs.map CB.p).take k)))) (fun i _ => N - (intOf i).toNat)
  case atStart => exact ⟨0, Nat.zero_le _, rfl, S0⟩
  case round =>
    clear S0
    obtain ⟨k, hk, rfl, J⟩ := hrel
    by_cases hlt : k < N
    · have hkl : k < cs.length := by rw [hN.out]; exact hlt
      have hkp : k < (cs.map CB.p).length := by rw [List.length_map]; exact hkl
      have hlt' : (k : Int) < (N : Int) := by omega
      obtain ⟨g, rfl, hg⟩ : ∃ g, q = some ⟨g, 0, none⟩ ∧ PG B w g cs := HP.out.resolve_left (fun h => by rw [h] at hkl; exact absurd hkl (by simp))
      have hj : cs[k]? = some cs[k] := List.getElem?_eq_getElem hkl
      obtain ⟨l, fd, lo, b, cp, hc⟩ := cb_cases cs[k]
      rw [hc] at hj
      have hgr := hg.below J.out.bel
      obtain ⟨a0, a1, a2⟩ := hgr.cel k _ hj
      have hby := hgr.con k _ hj
      have hblt : Hid (b < w.heap.size) := (hg.con k _ hj).lt
      have hll : Hid (l.length ≤ 100000) := by have := HSZ.out _ (List.mem_of_getElem? hj); exact this
      have HJS : Hid (joinP ((cs.map CB.p).take (k + 1)) = joinP ((cs.map CB.p).take k) ++ (if lo = true then [] else l ++ (if fd = true then [10] else []))) := by
        unfold Hid
        rw [joinP_snoc _ k hkp]
        have : (cs.map CB.p).getD k default = ⟨l, fd, lo⟩ := by rw [List.getD, List.getElem?_map, hj]; rfl
        rw [this]
      have HJL : Hid ((joinP ((cs.map CB.p).take k)).length ≤ 100001 * 100000) := by
        have h1 := joinP_len 100000 ((cs.map CB.p).take k) (fun p hp => by
          obtain ⟨x, hx, rfl⟩ := List.mem_map.1 (List.mem_of_mem_take hp)
          exact HSZ.out x hx)
        rw [List.length_take, List.length_map, hN.out] at h1
        unfold Hid
        have : min k N ≤ 100000 := by omega
        have := Nat.mul_le_mul_left 100001 this
        omega
      simp only at a0 a1 a2
      have HCB : Hid (∀ i, i < l.length → wr.cell? ⟨b, i, none⟩ = some (.int .u8 ((l.getD i 0).toNat : Int))) := hby.cb
      have hbwr : Hid (b < wr.heap.size) := hby.lt
      obtain ⟨n, hn⟩ : ∃ n, Hid (l.length = n) := ⟨_, rfl⟩
      rw [hn.out] at a0
      have J1 := fun X => Lib.hid (J.out.keep (below_alloc1 wr X))
      clear hg hgr hby hc hj
      cases lo with
      | true =>
        go_wp2_with fail
        refine ⟨⟨k + 1, by omega, by go_num, ?_⟩, by simp [intOf]; omega⟩
        rw [HJS.out, if_pos rfl, List.append_nil]
        exact (J1 _).out
      | false =>
        have HCELL : Hid (∀ v, wr.cell? ⟨w.heap.size, 1, none⟩ = some v → v.ownBlock ≠ some wr.heap.size) := fun v hv e => by
          obtain ⟨p, hB, v', hbk, hown, hne⟩ : ∃ p, Lib.BuilderAt 137 5 w.heap.size w.heap.size p (Lib.byteCells (joinP ((cs.map CB.p).take k))) wr := by
            rcases J.out.bld with h | h
            · exact ⟨_, h⟩
            · exact ⟨_, h⟩
          have h1 : wr.cell? ⟨w.heap.size, 1, none⟩ = some v' := by rw [Lib.cell_of_heap hbk]; rfl
          obtain rfl := Option.some.inj (h1.symm.trans hv)
          have := (hown.lt _ e).2
          omega
        have CW := fun Y => Lib.hid (bWriteK w.heap.size w.heap.size wr.heap.size (Lib.byteCells (joinP ((cs.map CB.p).take k))) ⟨b, 0, none⟩ n cp (Lib.byteCells l) (wr.alloc Y) (J1 Y).out.bld (by rw [Lib.byteCells_length, hn.out]) (fun j u hu => by
          obtain ⟨h1, rfl⟩ := byteCells_get l j u hu
          rw [Addr.add_lit, Nat.zero_add]
          exact Lib.cell?_alloc_some Y (HCB.out j h1)) hblt.out (bc_one l) (by rw [Lib.byteCells_length]; have := HJL.out; have := hll.out; have := hn.out; omega) (Nat.le_of_lt (J1 Y).out.lt) (by simp) (by have := J.out.lt; omega) (fun v hv => HCELL.out v (by rw [← hv]; exact (below_alloc1 wr Y).cell (p := ⟨w.heap.size, 1, none⟩) J.out.lt |>.symm)))
        obtain ⟨X, hX⟩ : ∃ X, Hid (joinP ((cs.map CB.p).take k) = X) := ⟨_, rfl⟩
        rw [hX.out] at CW J1 HJL J HJS
        go_wp2_with fail
        refine (CW _).out.mono ?_
        rintro e w4 ⟨rfl, ⟨hbl, hb4⟩, hkk⟩
        have J4 : Hid (JA w w4 (X ++ l)) := (J1 _).out.next hb4 (Or.inr (by unfold Lib.byteCells at hbl ⊢; rw [List.map_append]; exact hbl))
        have hce := (World.cell?_of_block (a := ⟨wr.heap.size, 1, none⟩) hkk).trans (nw_at wr #[.slice (some ⟨b, 0, none⟩) n cp, .string (fdS fd), .bool false] 156 1 _ rfl)
        have hx1 : Hid ((X ++ l).length + (fdS fd).size ≤ 140737488355328) := by
          have h1 := HJL.out
          have h2 := hll.out
          have h3 : (fdS fd).size ≤ 1 := by cases fd <;> decide
          unfold Hid
          rw [List.length_append]; omega
        have CS := Lib.hid (Tryz.Builder_WriteString w.heap.size w.heap.size (Lib.byteCells (X ++ l)) (fdS fd) w4 J4.out.bld (by rw [Lib.byteCells_length]; exact hx1.out) (Nat.le_of_lt J4.out.lt))
        clear hbl hb4 CW J1 hkk HCELL
        go_wp2_with fail
        refine CS.out.mono ?_
        rintro e w5 ⟨rfl, hbl, hb5⟩
        have J5 : Hid (JA w w5 (X ++ l ++ (fdS fd).data.toList)) := J4.out.next hb5 (Or.inr (by unfold Lib.byteCells at hbl ⊢; rw [List.map_append]; exact hbl))
        clear hbl hb5 CS
        go_wp2_with fail
        refine ⟨⟨k + 1, by omega, by go_num, ?_⟩, by simp [intOf]; omega⟩
        rw [HJS.out, if_neg (by decide)]
        have := J5.out
        rw [fdS_list, List.append_assoc] at this
        exact this
    · obtain rfl : k = N := by omega
      have J8 : Hid (JA w wr R) := by
        have := J.out
        rw [List.take_of_length_le (by rw [List.length_map, hN.out]; exact Nat.le_refl _), hR.out] at this
        exact this
      clear J
      go_wp2_with fail
      refine (bString w.heap.size w.heap.size R wr (Lib.IsBuilderF.of J8.out.bld) (Nat.le_of_lt J8.out.lt)).mono ?_
      rintro e w8 ⟨rfl, -, hbe⟩
      have B8 : Hid (Below w.heap.size w w8) := J8.out.bel.trans hbe
      clear hbe
      go_wp2_with fail
      go_ret
      exact ⟨rfl, B8.out⟩
end Go.Proofs.YtmfhpddeclggfaaGreatDoor
