import Derived.Test.YtmfhpddeclggfaaGreatDoorWIfa
import Derived.Maps.Own
import Derived.Maps.OwnOps
import Derived.Maps.OwnSet
import Derived.Lib.SlKeysI
import Derived.RangeFuncNested
import Derived.RangeFuncBound
import Derived.RangeFuncCalls
import Derived.RangeFuncLeaves
import Derived.RangeFuncBox
import Derived.Shelf.Abstract
import Derived.Shelf.RegionOpen
import Derived.OwnWalkIn
import Derived.TacticsInMore
import Derived.LoopNIn
import Derived.LoopIn
import Derived.Maps.AppendAt
import Derived.Maps.OwnIn
import Derived.RegionIn
import Derived.BigRegionIn
import Derived.Stop.RegionWithIn
import Derived.WalkKit
import Derived.LoopTactic
import Derived.WalkSpells
import Derived.WalkLawsBesides
import Derived.Lib.Hide
import Derived.BigQuiet
import Derived.IntWalk
import Derived.Deep.DeepMust
import Derived.WalkSmall
import Derived.StillTailTactics
import Derived.Deep.RegionLaw
import Derived.Deep.QuietTactic
import Derived.Deep.Cut
import Derived.Deep.DeepCutAuto
import Derived.Deep.LoopGhost
import Derived.Laws.AppendOwn
import Derived.Deep.RegionHeld3
import Derived.Deep.AppendLies
import Derived.Test.YtmfhpddeclggfaaGreatDoorIfk
import Derived.Test.YtmfhpddeclggfaaGreatDoorWIfb
import Derived.Test.YtmfhpddeclggfaaGreatDoorWIg
import Derived.Test.YtmfhpddeclggfaaGreatDoorWIh
import Derived.Test.YtmfhpddeclggfaaGreatDoorWIia
import Derived.Test.YtmfhpddeclggfaaGreatDoorWIib
import Derived.Test.YtmfhpddeclggfaaGreatDoorKf
import Derived.Test.YtmfhpddeclggfaaGreatDoorWIic
import Derived.Test.YtmfhpddeclggfaaGreatDoorWc
import Derived.Test.YtmfhpddeclggfaaGreatDoorWMa
import Derived.Test.YtmfhpddeclggfaaGreatDoorWMb
import Derived.Test.YtmfhpddeclggfaaGreatDoorWCz
import Derived.Test.YtmfhpddeclggfaaGreatDoorWMc
import Derived.Test.YtmfhpddeclggfaaGreatDoorWHa
import Derived.Laws.OwnMore
import Derived.Test.YtmfhpddeclggfaaGreatDoorWCx
import Derived.Test.YtmfhpddeclggfaaGreatDoorWHh
import Derived.Test.YtmfhpddeclggfaaGreatDoorWHf
import Derived.Test.YtmfhpddeclggfaaGreatDoorWHe
import Derived.Test.YtmfhpddeclggfaaGreatDoorWHi
import Derived.Test.YtmfhpddeclggfaaGreatDoorWHd
import Derived.Test.YtmfhpddeclggfaaGreatDoorWNa
import Derived.Test.YtmfhpddeclggfaaGreatDoorWNb
import Derived.Test.YtmfhpddeclggfaaGreatDoorWNc
import Derived.Test.YtmfhpddeclggfaaGreatDoorWHj
import Derived.Test.YtmfhpddeclggfaaGreatDoorWHk
namespace Go.Proofs.YtmfhpddeclggfaaGreatDoor
open Go.RowKit Go.Shelf
theorem rk_kG {B0 : Nat} {w W : World} {v : Value} {fs : List (FL × List Int)} {n : Int} {st : List (List ByteArray × List Int)} (h : RK B0 w W v fs n st) : fs.map kG = st.map fun y => (n, y.1, y.2, false) := by
  rw [← h.ks, List.map_map]
  refine List.map_congr_left fun f hf => ?_
  obtain ⟨k, hk, e⟩ := List.getElem_of_mem hf
  have h1 := h.ns k hk
  rw [List.getD, List.getElem?_eq_getElem hk] at h1
  simp only [Option.getD_some, e] at h1
  show (f.1.g.n, f.1.g.ws, f.2, f.1.rs) = (n, f.1.g.ws, f.2, false)
  rw [h1.1, h1.2]
theorem BkS.put {w W W' : World} {vs : Fin 3 → Value} {ls cs : List (FL × List Int)} {gs gs' : List (Int × Int)} (h : BkS w W vs ls cs gs) (hown : W'.ownsRow (w.heap.size + 1) 176 2 (vs 2) gs'.length (cellsS gs')) (hgr : W.grownBy W' (vs 2).ownBlock) : BkS w W' vs ls cs gs' := by
  have hne : ∀ j, some w.heap.size ≠ (vs j).ownBlock := fun j e => by have := (h.own j _ e.symm).1; omega
  have hb : W'.heap[w.heap.size]? = W.heap[w.heap.size]? := hgr.block _ h.lt (hne 2)
  have hF := fam_grown2 h.fam 2 (bkR vs ls cs gs' 2) (W' := W') (by rw [bkR_v]; exact hgr) (by rw [bkR_v]; exact hown) (by rw [bkR_v, bkR_v]; exact .inl rfl)
  have hF2 : Fam (w.heap.size + 1) (bkR vs ls cs gs') W' := fam_ext hF (fun j => by
    by_cases e : j = 2
    · rw [if_pos e, e]
    · rw [if_neg e]
      match j, e with
      | 0, _ => rfl
      | 1, _ => rfl
      | 2, e => exact absurd rfl e)
  refine ⟨h.bel.grown hgr (Nat.le_of_lt h.lt) (fun k e => by have := (h.own 2 k e).1; omega), Nat.lt_of_lt_of_le h.lt hgr.size, fun j => (World.cell?_of_block (a := ⟨w.heap.size, j.val, none⟩) hb).trans (h.cell j), fun o => (World.frozen?_of_block (a := ⟨w.heap.size, o, none⟩) hb).trans (h.fz o), hF2, fun f hf => ?_⟩
  have hf0 := h.ok f hf
  have hc : ∀ q, Off3 W w.heap.size vs q → Off3 W' w.heap.size vs q ∧ ∀ ad, q = some ad → ∀ o, W'.cell? ⟨ad.block, o, none⟩ = W.cell? ⟨ad.block, o, none⟩ := fun q hq =>
    ⟨hq.below hgr.size, fun ad e o => World.cell?_of_block (a := ⟨ad.block, o, none⟩) (hgr.block _ (hq ad e).1 ((hq ad e).2.2 2))⟩
  exact ⟨hf0.s.keep hgr.size (hf0.so.imp id (fun h => (hc _ h).2)), hf0.so.imp id (fun h => (hc _ h).1), hf0.i.keep2 hgr.size (hf0.io.imp id (fun h => (hc _ h).2)), hf0.io.imp id (fun h => (hc _ h).1), hf0.n⟩
theorem set_keepC {W : World} {a : Addr} {c u : Value} (hx : W.cell? a = some c) (hc : c = .slice none 0 0 ∨ c = u) : ∀ (p : Addr) (v : Value), W.cell? p = some v → v ≠ .slice none 0 0 → (W.setCell a u).cell? p = some v := by
  intro p v hv hn
  by_cases e : a = p
  · subst e
    rw [hx] at hv
    obtain rfl := Option.some.inj hv
    rw [World.cell?_setCell_same _ _ _ hx]
    rw [hc.resolve_left hn]
  · rw [World.cell?_setCell_other _ _ _ _ e]; exact hv
theorem keep_strs {W W' : World} {p : Option Addr} {zs : List ByteArray} (h : StrsAt W p zs) (hs : W.heap.size ≤ W'.heap.size) (hk : ∀ (p : Addr) (v : Value), W.cell? p = some v → v ≠ .slice none 0 0 → W'.cell? p = some v) : StrsAt W' p zs := by
  rcases h with h | ⟨b, o, h1, h2, h3⟩
  · exact .inl h
  · exact .inr ⟨b, o, h1, Nat.lt_of_lt_of_le h2 hs, fun j hj => hk _ _ (h3 j hj) (fun e => by cases e)⟩
theorem keep_ints {W W' : World} {p : Option Addr} {zs : List Int} (h : IntsAt W p zs) (hs : W.heap.size ≤ W'.heap.size) (hk : ∀ (p : Addr) (v : Value), W.cell? p = some v → v ≠ .slice none 0 0 → W'.cell? p = some v) : IntsAt W' p zs := by
  rcases h with h | ⟨b, o, h1, h2, h3⟩
  · exact .inl h
  · exact .inr ⟨b, o, h1, Nat.lt_of_lt_of_le h2 hs, fun j hj => hk _ _ (h3 j hj) (fun e => by cases e)⟩
/-- The four cells of a result are written: what was not an empty slice stays. -/
theorem set4_keep {W : World} {b : Nat} (x0 : W.cell? ⟨b, 0, none⟩ = some (.slice none 0 0)) (x1 : W.cell? ⟨b, 1, none⟩ = some (.slice none 0 0)) (x2 : W.cell? ⟨b, 2, none⟩ = some (.slice none 0 0)) (c3 u0 u1 u2 u3 : Value)
    (x3 : W.cell? ⟨b, 3, none⟩ = some c3) (hc : c3 = .slice none 0 0 ∨ c3 = u3) :
    ∀ (p : Addr) (v : Value), W.cell? p = some v → v ≠ .slice none 0 0 → ((((W.setCell ⟨b, 0, none⟩ u0).setCell ⟨b, 1, none⟩ u1).setCell ⟨b, 2, none⟩ u2).setCell ⟨b, 3, none⟩ u3).cell? p = some v := by
  have ne : ∀ {i j : Nat}, i ≠ j → (⟨b, i, none⟩ : Addr) ≠ ⟨b, j, none⟩ := fun h e => h (congrArg Addr.off e)
  have a1 : (W.setCell ⟨b, 0, none⟩ u0).cell? ⟨b, 1, none⟩ = some (.slice none 0 0) := by rw [World.cell?_setCell_other _ _ _ _ (ne (by decide))]; exact x1
  have a2 : ((W.setCell ⟨b, 0, none⟩ u0).setCell ⟨b, 1, none⟩ u1).cell? ⟨b, 2, none⟩ = some (.slice none 0 0) := by rw [World.cell?_setCell_other _ _ _ _ (ne (by decide)), World.cell?_setCell_other _ _ _ _ (ne (by decide))]; exact x2
  have a3 : (((W.setCell ⟨b, 0, none⟩ u0).setCell ⟨b, 1, none⟩ u1).setCell ⟨b, 2, none⟩ u2).cell? ⟨b, 3, none⟩ = some c3 := by rw [World.cell?_setCell_other _ _ _ _ (ne (by decide)), World.cell?_setCell_other _ _ _ _ (ne (by decide)), World.cell?_setCell_other _ _ _ _ (ne (by decide))]; exact x3
  intro p v hv hn
  exact set_keepC a3 hc p v (set_keepC a2 (.inl rfl) p v (set_keepC a1 (.inl rfl) p v (set_keepC x0 (.inl rfl) p v hv hn) hn) hn) hn
theorem bk_fin {V2 wr W4 : World} {vs : Fin 3 → Value} {ls cs : List (FL × List Int)} {gs : List (Int × Int)} (S : BkS V2 wr vs ls cs gs) (hs : wr.heap.size ≤ W4.heap.size)
    (hk : ∀ (p : Addr) (v : Value), wr.cell? p = some v → v ≠ .slice none 0 0 → W4.cell? p = some v) (ho : ∀ i, W4.ownsRow (V2.heap.size + 1) (bkR vs ls cs gs i).e (bkR vs ls cs gs i).k (bkR vs ls cs gs i).v (bkR vs ls cs gs i).n (bkR vs ls cs gs i).xs)
    {B : BV} (kl : ls.map kG = B.1) (kc : cs.map kG = B.2.1) (kg : gs = B.2.2) {p0 p1 p2 : Option Addr} {k0 k1 k2 : Nat} (e0 : vs 0 = .slice p0 ls.length k0) (e1 : vs 1 = .slice p1 cs.length k1) (e2 : vs 2 = .slice p2 gs.length k2) :
    BkAt W4 B p0 p1 p2 k0 k1 k2 ls cs := by
  have hf : ∀ f, f ∈ ls ∨ f ∈ cs → StrsAt W4 f.1.g.p f.1.g.ws ∧ IntsAt W4 f.1.cp f.2 ∧ f.1.cn = f.2.length := fun f hf =>
    ⟨keep_strs (S.ok f hf).s hs hk, keep_ints (S.ok f hf).i hs hk, (S.ok f hf).n⟩
  have o0 : W4.ownsRow (V2.heap.size + 1) 87 4 (vs 0) ls.length (flatF ls) := ho 0
  have o1 : W4.ownsRow (V2.heap.size + 1) 87 4 (vs 1) cs.length (flatF cs) := ho 1
  have o2 : W4.ownsRow (V2.heap.size + 1) 176 2 (vs 2) gs.length (cellsS gs) := ho 2
  rw [e0] at o0
  rw [e1] at o1
  rw [e2] at o2
  obtain ⟨q0, c0, g0, f0⟩ := bk_founds o0 (fun f h => hf f (.inl h))
  obtain ⟨q1, c1, g1, f1⟩ := bk_founds o1 (fun f h => hf f (.inr h))
  obtain ⟨q2, c2, g2, f2⟩ := bk_spans o2
  injection g0 with g0 _ _
  injection g1 with g1 _ _
  injection g2 with g2 _ _
  subst g0 g1 g2
  exact ⟨f0, f1, by rw [← kg]; exact f2, kl, kc⟩
/-- What Collate leaves: a book and an error. -/
def RcP (W : World) (b : BV) (er : Int) (e : Ending) (w' : World) : Prop :=
  ∃ p0 p1 p2 c0 c1 c2 ls cs, e = .returned (.agg #[.slice p0 b.1.length c0, .slice p1 b.2.1.length c1, .slice p2 b.2.2.length c2, .int .i64 er]) ∧ BkAt w' b p0 p1 p2 c0 c1 c2 ls cs ∧ Below W.heap.size W w'
set_option maxRecDepth 100000 in
set_option maxHeartbeats 2000000 in
theorem rCollate_many (p : Option Addr) (cap n : Nat) (W : World) (hn : 8 < (n : Int)) : Calls Tryz.prog 54 #[.slice p n cap] W (RcP W ([], [], []) 2) := by
  have x0 := nw_at W #[.slice none 0 0, .slice none 0 0, .slice none 0 0, .int .i64 0] 82 0 _ rfl
  have x1 := nw_at W #[.slice none 0 0, .slice none 0 0, .slice none 0 0, .int .i64 0] 82 1 _ rfl
  have x2 := nw_at W #[.slice none 0 0, .slice none 0 0, .slice none 0 0, .int .i64 0] 82 2 _ rfl
  have x3 := nw_at W #[.slice none 0 0, .slice none 0 0, .slice none 0 0, .int .i64 0] 82 3 _ rfl
  have y0 := frozen_new W #[.slice none 0 0, .slice none 0 0, .slice none 0 0, .int .i64 0] 82 0
  have y1 := frozen_new W #[.slice none 0 0, .slice none 0 0, .slice none 0 0, .int .i64 0] 82 1
  have y2 := frozen_new W #[.slice none 0 0, .slice none 0 0, .slice none 0 0, .int .i64 0] 82 2
  have y3 := frozen_new W #[.slice none 0 0, .slice none 0 0, .slice none 0 0, .int .i64 0] 82 3
  have HB : Hid (Below W.heap.size W (W.alloc (.cells #[.slice none 0 0, .slice none 0 0, .slice none 0 0, .int .i64 0] 82))) := below_alloc1 _ _
  obtain ⟨W0, hW0⟩ : ∃ W0, Hid (W.alloc (.cells #[.slice none 0 0, .slice none 0 0, .slice none 0 0, .int .i64 0] 82) = W0) := ⟨_, rfl⟩
  rw [hW0.out] at x0 x1 x2 x3 y0 y1 y2 y3 HB
  go_enter Tryz.func54, Tryz.ntmps54
  go_upto_region 1 with (fail)
  rw [hW0.out]
  clear hW0
  go_wp2_with fail
  refine bodyPost_ret (v := .agg #[.slice none 0 0, .slice none 0 0, .slice none 0 0, .int .i64 2]) (by simp [results, Tryz.results54, go_sem, x0, x1, x2, x3]) rfl ?_
  refine ⟨none, none, none, 0, 0, 0, [], [], rfl, ⟨⟨⟨.inl rfl, fun j hj => absurd hj (Nat.not_lt_zero _)⟩, fun j hj => absurd hj (Nat.not_lt_zero _)⟩, ⟨⟨.inl rfl, fun j hj => absurd hj (Nat.not_lt_zero _)⟩, fun j hj => absurd hj (Nat.not_lt_zero _)⟩, .inl rfl, rfl, rfl⟩, ?_⟩
  exact (((HB.out.setCell (p := ⟨W.heap.size, 0, none⟩) (Nat.le_refl _) _).setCell (p := ⟨W.heap.size, 1, none⟩) (Nat.le_refl _) _).setCell (p := ⟨W.heap.size, 2, none⟩) (Nat.le_refl _) _).setCell (p := ⟨W.heap.size, 3, none⟩) (Nat.le_refl _) _
set_option maxRecDepth 100000 in
set_option maxHeartbeats 8000000 in
theorem rCollate (p : Option Addr) (cap : Nat) (cs : List ByteArray) (w : World) (hl : cs.length ≤ 8) (hs : ∀ j, (cs.getD j ByteArray.empty).size ≤ 99999) (hp : StrsAt w p cs) : Calls Tryz.prog 54 #[.slice p cs.length cap] w (RcP w (coB cs) 0) := by
  have HP := Lib.hid hp
  have HS := Lib.hid hs
  have RL := Lib.hid (fun (s : ByteArray) (W : World) (h : s.size ≤ 99999) => rLines s W (by omega))
  obtain ⟨N, hN⟩ : ∃ N, Hid (cs.length = N) := ⟨_, rfl⟩
  rw [hN.out] at hl ⊢
  clear hs hp
  have BX : Hid (Below w.heap.size w (w.alloc (.cells #[.slice none 0 0, .slice none 0 0, .slice none 0 0, .int .i64 0] 82))) := below_alloc1 _ _
  have NX := Lib.hid (fun o u h => nw_at w #[.slice none 0 0, .slice none 0 0, .slice none 0 0, .int .i64 0] 82 o u h)
  have FX := Lib.hid (fun o => frozen_new w #[.slice none 0 0, .slice none 0 0, .slice none 0 0, .int .i64 0] 82 o)
  obtain ⟨W0, hW0⟩ : ∃ W0, Hid (w.alloc (.cells #[.slice none 0 0, .slice none 0 0, .slice none 0 0, .int .i64 0] 82) = W0) := ⟨_, rfl⟩
  have HW0 : Hid (W0.heap.size = w.heap.size + 1) := by rw [← hW0.out]; unfold Hid; simp
  rw [hW0.out] at BX NX FX
  have A0 := Lib.hid (AllR.mk0 W0 cs)
  obtain ⟨i0, hi, hz0, hz1, hz2⟩ := info_parts inf59
  go_enter Tryz.func54, Tryz.ntmps54
  go_wp2_with fail
  rw [hW0.out]
  clear hW0
  go_loopw [3, 4] (fun v i wr => ∃ (k : Nat) (ss : List SS), k ≤ N ∧ i = .int .i64 k ∧ Hid (AllR W0 wr v ss cs) ∧ Hid (ss.length = k)) (fun _ i _ => N - (nOf i).toNat)
  case atStart => exact ⟨0, [], Nat.zero_le _, rfl, A0, rfl⟩
  case round =>
    clear A0
    obtain ⟨k, ss, hk, rfl, A, hlen⟩ := hrel
    by_cases hlt : k < N
    · obtain ⟨b, o, rfl, hb1, c1⟩ := str_at ((HP.out.below BX.out).below A.out.bel) (show k < cs.length by rw [hN.out]; exact hlt)
      have hsz := HS.out k
      have LN1 := Lib.hid (RL.out (cs.getD k ByteArray.empty) wr hsz)
      have HCX : Hid (cs.getD k ByteArray.empty = cs.getD k ByteArray.empty) := rfl
      obtain ⟨x, hx⟩ : ∃ x, Hid (cs.getD k ByteArray.empty = x) := ⟨_, rfl⟩
      rw [hx.out] at c1 LN1 hsz
      have hlt' : (k : Int) < (N : Int) := by omega
      have hk0 : (0 : Int) ≤ (k : Int) := by omega
      have hbig : ¬ (262144 : Int) < (x.size : Int) := by omega
      obtain ⟨qv, cv, rfl⟩ := own_slice2 A.out.row
      clear HCX hb1
      go_wp2_with fail
      refine LN1.out.mono ?_
      rintro e w2 ⟨vl, vo, rfl, hb2, hln⟩
      have HB2 := Lib.hid hb2
      have HLN := Lib.hid hln
      clear hb2 hln LN1
      have A2 := Lib.hid (A.out.next HB2.out)
      have HSL : Hid (ss.length ≤ 8) := by have := hlen.out; unfold Hid; omega
      have HFm : Hid (ss.length + 1 ≤ maxLen) := by have := HSL.out; unfold Hid maxLen; omega
      have HFb : Hid ((ss.length + 1) * 48 ≤ 140737488355328) := by have := HSL.out; unfold Hid; omega
      have HWS : Hid (W0.heap.size ≤ (w2.alloc (.cells #[vl, vo] 59)).heap.size) := by have := A2.out.bel.size; unfold Hid; simp; omega
      have OA : Hid ((w2.alloc (.cells #[vl, vo] 59)).ownsRow W0.heap.size 59 2 (.slice qv ss.length cv) ss.length (flatSS ss)) := A2.out.row.alloc _
      have ONE : Hid (∀ u ∈ [vl, vo], u.oneCell' = true) := by
        obtain ⟨gs, -, hL⟩ := HLN.out
        obtain ⟨lp, lc, op, oc, rfl, rfl, -⟩ := rng_of hL
        intro u hu
        simp only [List.mem_cons, List.not_mem_nil, or_false] at hu
        rcases hu with rfl | rfl <;> rfl
      have NW : Hid (∀ j u, ([vl, vo] : List Value)[j]? = some u → (w2.alloc (.cells #[vl, vo] 59)).cell? ((⟨w2.heap.size, 0, none⟩ : Addr).add j) = some u) := cells_new w2 #[vl, vo] 59
      go_wp2_with (at_builtin; refine wpList_append_own_at _ rfl (.tmp 26) (.tmp 32) 173 rfl W0.heap.size 59 i0 (.agg #[.slice none 0 0, .slice none 0 0]) 2 48 Tryz.underlying173 hi hz0 hz1 hz2 rfl (by decide) (.slice qv ss.length cv) ss.length (flatSS ss) rfl OA.out ⟨w2.heap.size, 0, none⟩ 1 1 [vl, vo] rfl rfl NW.out ONE.out HFm.out HFb.out HWS.out ?_; intro v' w4 hown hgrow _ hat)
      obtain ⟨ss', hl', A4⟩ := AllR.add A.out HB2.out (by rw [hlen.out, hx.out]; exact HLN.out) _ hown hgrow hat
      exact ⟨⟨k + 1, ss', by omega, by go_num, A4, by rw [hl', hlen.out]; exact (rfl : Hid (k + 1 = k + 1))⟩, by simp [nOf]; omega⟩
    · obtain rfl : k = N := by omega
      obtain ⟨V2, rfl⟩ : ∃ V2, V2 = wr := ⟨_, rfl⟩
      have hNC := hN.out
      obtain ⟨q, c, rfl, hso⟩ := A.out.sorts
      have SO := Lib.hid hso
      have HKS := Lib.hid A.out.ks
      have HBA := Lib.hid A.out.bel
      have BWR : Hid (Below w.heap.size w V2) := BX.out.trans (HBA.out.mono BX.out.size)
      have S0 := Lib.hid (BkS.mk0 V2 78)
      have GR := Lib.hid (rGreatest p cap cs (V2.alloc (.cells #[.slice none 0 0, .slice none 0 0, .slice none 0 0] 78)) (by rw [hN.out]; omega) (fun j => Nat.le_trans (HS.out j) (by decide)) (HP.out.below (BWR.out.alloc BWR.out.size _)))
      obtain ⟨W1, hW1⟩ : ∃ W1, Hid (V2.alloc (.cells #[.slice none 0 0, .slice none 0 0, .slice none 0 0] 78) = W1) := ⟨_, rfl⟩
      rw [hW1.out] at S0 GR
      rw [hN.out, last_desk cs] at GR
      have HLS : Hid (ss.length = cs.length) := by unfold Hid; rw [hlen.out, hN.out]
      have HSM := Lib.hid (fun j => show (ss.getD j default).ls.length ≤ 100000 ∧ (∀ g ∈ (ss.getD j default).ls, g.ws.length ≤ 40) ∧ (ss.getD j default).os.length ≤ 100000 ∧ ∀ i, ((ss.getD j default).os.getD i ByteArray.empty).size ≤ 1000000 from by
        by_cases hj : j < ss.length
        · exact ss_small (HKS.out j hj) (HS.out j)
        · rw [List.getD, List.getElem?_eq_none (by omega)]
          exact ⟨Nat.zero_le _, fun g hg => absurd hg List.not_mem_nil, Nat.zero_le _, fun i => Nat.zero_le _⟩)
      have HSF := Lib.hid (sorts_from hso)
      have FRD := Lib.hid (fun n => fR_desk n ss cs HLS.out (fun j hj => HKS.out j (by rw [HLS.out]; exact hj)))
      have KS2 := Lib.hid (fun j (hj : j < cs.length) => HKS.out j (by rw [HLS.out]; exact hj))
      have HCB : Hid (coB cs = coD (layF (cs.map scL) cs.length) (layF (cs.map scL) cs.length).last) := rfl
      have hok := layF_ok (cs.map scL) (fun j s hs => by
        rw [scs_getD] at hs
        split at hs
        · exact (scL_mem hs).1
        · cases hs) (fun j s hs => by
        rw [scs_getD] at hs
        split at hs
        · have := (scL_mem hs).2; have := HS.out j; omega
        · cases hs) cs.length
      have HLAST : Hid ((layF (cs.map scL) cs.length).last ≤ 400) := hok.last
      have hc : ∀ j, ((cs.map scL).getD j []).length ≤ 100000 := fun j => by
        rw [scs_getD]
        split
        · have := scL_len (cs.getD j ByteArray.empty); have := HS.out j; omega
        · exact Nat.zero_le _
      have HSZD : Hid (SzD (layF (cs.map scL) cs.length) 1000000) := (layF_sz (cs.map scL) 100000 hc cs.length).mono (Nat.le_trans (Nat.mul_le_mul_right 100000 (by rw [hN.out]; exact hl)) (by decide))
      obtain ⟨d, hd⟩ : ∃ d, layF (cs.map scL) cs.length = d := ⟨_, rfl⟩
      rw [hd] at GR FRD HCB HLAST HSZD
      have hl0 := hlen.out
      rw [hl0]
      clear hok hc hd hso hi hz0 hz1 hz2 A HKS hlt hk hNC
      go_wp2_with fail
      rw [hW1.out]
      refine GR.out.mono ?_
      rintro e w3 ⟨rfl, hb3⟩
      have S1 := Lib.hid (S0.out.next hb3)
      have SO3 : Hid (∀ V, Below V2.heap.size V2 V → SortsAt V q ss) := fun V hv => SO.out.below hv
      clear hb3 GR S0 hW1 SO
      go_wp2_with fail
      have RDG := Lib.hid (fun (m : Int) (V : World) (hv : Below V2.heap.size V2 V) => rReadings V2.heap.size q c ss m V (by rw [hl0]; exact hl) (fun j => Nat.le_trans (HSM.out j).1 (by omega)) (fun j g hg => Nat.le_trans ((HSM.out j).2.1 g hg) (by decide)) (SO3.out V hv) HSF.out)
      have RSG := Lib.hid (fun (m : Int) (V : World) (hv : Below V2.heap.size V2 V) => rRestored q c ss m V (by rw [hl0]; exact hl) (fun j => (HSM.out j).2.2.1) (fun j i => (HSM.out j).2.2.2 i) (SO3.out V hv))
      rw [hl0] at RDG RSG
      have HLL := Lib.hid hl0
      clear HSM HSF SO3 hl0
      go_loopw [7] (fun i wz => ∃ (n : Nat) (vs : Fin 3 → Value) (ls cs' : List (FL × List Int)) (gs : List (Int × Int)), n ≤ d.last ∧ i = .int .i64 ((n : Int) + 1) ∧ Hid (BkS V2 wz vs ls cs' gs) ∧ Hid (ls.map kG = (coD d n).1) ∧ Hid (cs'.map kG = (coD d n).2.1) ∧ Hid (gs = (coD d n).2.2)) (fun i _ => d.last + 1 - (nOf i).toNat)
      case atStart => exact ⟨0, _, [], [], [], Nat.zero_le _, rfl, S1, rfl, rfl, rfl⟩
      case round =>
        clear S1
        obtain ⟨n, vs, ls, cs2, gs, hn, rfl, S, L1, L2, L3⟩ := hrel
        by_cases hlt : n < d.last
        · have hn4 : n + 1 ≤ 400 := by have := HLAST.out; omega
          have hlt' : ((n : Int) + 1) ≤ (d.last : Int) := by omega
          have RD := Lib.hid (RDG.out ((n : Int) + 1) _ S.out.bel)
          have RS := fun V (hv : Below V2.heap.size V2 V) => Lib.hid (RSG.out ((n : Int) + 1) V hv)
          have HF0 := FRD.out (n + 1)
          unfold fR at HF0
          rw [HLL.out, show ((n + 1 : Nat) : Int) = (n : Int) + 1 from rfl] at HF0
          have HF := Lib.hid HF0
          clear HF0
          go_wp2_with fail
          refine RD.out.mono ?_
          rintro e w5 ⟨v5, fs, rfl, hrk⟩
          obtain ⟨pv, cv, rfl, -⟩ := hrk.r.founds
          have S3 := Lib.hid (S.out.next hrk.r.bel)
          have FK3 := Lib.hid (fok_rd S.out hrk)
          have HKG := Lib.hid (rk_kG hrk)
          have HLR : Hid (fs.length = (rdC ((n : Int) + 1) ss k).length) := hrk.len.symm
          have HRO := Lib.hid hrk.r.row
          have HB5 := Lib.hid hrk.r.bel
          have HS5 := Lib.hid S.out.lt
          have HOW := Lib.hid S.out.own
          have HCN : Hid (coD d (n + 1) = stB d (coD d n) (n + 1)) := rfl
          clear hrk RD
          by_cases h2 : 2 ≤ fs.length
          · have HCO : Hid (coD d (n + 1) = ((coD d n).1, (coD d n).2.1 ++ fs.map kG, (coD d n).2.2)) := by
              have h5 : fdV d (n + 1) = fs.map kG := by
                rw [← HF.out, if_neg (fun e => by have h9 := HLR.out; rw [e] at h9; have h8 : fs.length = 0 := h9; omega), HKG.out]
              unfold Hid
              rw [HCN.out, stB, h5]
              match fs, h2 with
              | a :: b :: l, _ => rfl
              | [a], h2 => simp at h2
              | [], h2 => simp at h2
            have c1 : w5.cell? ⟨V2.heap.size, 1, none⟩ = some (vs 1) := S3.out.cell 1
            have f1 : w5.frozen? ⟨V2.heap.size, 1, none⟩ = false := S3.out.fz 1
            have hne1 : some V2.heap.size ≠ (vs 1).ownBlock := fun e => by have := (S3.out.own 1 _ e.symm).1; omega
            obtain ⟨g, cap2, e1, hg1, hg2, hcell⟩ := own_at (n := fs.length) HRO.out (by omega) (flatF_len fs)
            obtain ⟨rfl, rfl⟩ : pv = some ⟨g, 0, none⟩ ∧ cv = cap2 := by simpa using e1
            have hO : w5.ownsRow (V2.heap.size + 1) 87 4 (vs 1) cs2.length (flatF cs2) := S3.out.fam.own 1
            obtain ⟨q1, c1', hv1⟩ := own_slice2 hO
            rw [hv1] at c1 hne1 hO
            have HV1 := Lib.hid hv1
            have hfl2 : fs.length ≤ 1000001 := by
              have h7 := fdV_len d (n + 1) 1000000 HSZD.out
              rw [← HF.out, if_neg (fun e => by have h9 := HLR.out; rw [e] at h9; have h8 : fs.length = 0 := h9; omega), List.length_map] at h7
              have := HLR.out
              omega
            have hcsl : cs2.length ≤ 1000000000 := by
              have h7 := congrArg List.length L2.out
              rw [List.length_map] at h7
              have h9 := (coD_len d 1000000 HSZD.out n).2.1
              have h8 : n * (1000000 + 1) ≤ 400 * (1000000 + 1) := Nat.mul_le_mul_right _ (by omega)
              omega
            have HLm : Hid (cs2.length + fs.length ≤ maxLen) := by unfold Hid maxLen; omega
            have HLb : Hid ((cs2.length + fs.length) * 64 ≤ 140737488355328) := by unfold Hid; omega
            have HCE : Hid (∀ j u, (flatF fs)[j]? = some u → w5.cell? ((⟨g, 0, none⟩ : Addr).add j) = some u) := fun j u h => by
              rw [show (⟨g, 0, none⟩ : Addr).add j = ⟨g, j, none⟩ from by simp [Addr.add]; omega]
              exact hcell j u h
            obtain ⟨i0, hi, hz0, hz1, hz2⟩ := info_parts inf87
            have hbs := S3.out.lt
            have HFL4 := Lib.hid (flatF_len fs)
            obtain ⟨K, hK⟩ : ∃ K, Hid (fs.length = K) := ⟨_, rfl⟩
            have hk1 : (1 : Int) < (K : Int) := by have := hK.out; omega
            rw [hK.out] at HLm HLb HFL4 ⊢
            clear hcell e1 hg2 hv1 h2 hcsl hfl2 HKG HF RS
            go_wp2_with (at_builtin; refine wpList_append_own_at _ rfl (.tmp 48) (.tmp 49) 75 rfl (V2.heap.size + 1) 87 i0 (.agg #[.int .i64 0, .slice none 0 0, .slice none 0 0, .bool false]) 4 64 Tryz.underlying75 hi hz0 hz1 hz2 rfl (by decide) (.slice q1 cs2.length c1') cs2.length (flatF cs2) rfl hO ⟨g, 0, none⟩ K cv (flatF fs) rfl HFL4.out HCE.out flatF_one HLm.out HLb.out hbs ?_; intro v' w9 hown hgrow _ hat; obtain ⟨qv, cw, rfl⟩ := own_slice2 hown; have hc9 : w9.cell? ⟨V2.heap.size, 1, none⟩ = some (.slice q1 cs2.length c1') := hgrow.cell c1 hne1; have hf9 : w9.frozen? ⟨V2.heap.size, 1, none⟩ = false := (World.frozen?_of_block (a := ⟨V2.heap.size, 1, none⟩) (hgrow.block _ hbs hne1)).trans f1)
            have S5 := Lib.hid (S3.out.grow (ls' := ls) (cs' := cs2 ++ fs) (gs' := gs) 1 (.slice qv (cs2.length + K) cw) (fun j hj => by
              match j, hj with
              | 0, _ => rfl
              | 1, hj => exact absurd rfl hj
              | 2, _ => rfl) (by show w9.ownsRow (V2.heap.size + 1) 87 4 _ (cs2 ++ fs).length (flatF (cs2 ++ fs)); rw [List.length_append, flatF_snoc, hK.out]; exact hown) (by rw [HV1.out]; exact hgrow) (by rw [HV1.out]; exact hat.imp id (fun h => ⟨_, h, Nat.le_refl _⟩)) (fun f' hf => by
                rcases hf with hf | hf
                · exact .inl hf
                · rcases List.mem_append.1 hf with hf | hf
                  · exact .inr (.inl hf)
                  · exact .inr (.inr (FK3.out f' hf))))
            have L1' : Hid (ls.map kG = (coD d (n + 1)).1) := by unfold Hid; rw [HCO.out]; exact L1.out
            have L2' : Hid ((cs2 ++ fs).map kG = (coD d (n + 1)).2.1) := by unfold Hid; rw [HCO.out, List.map_append, L2.out]
            have L3' : Hid (gs = (coD d (n + 1)).2.2) := by unfold Hid; rw [HCO.out]; exact L3.out
            clear hown hgrow hat HCO S3 L1 L2 L3 FK3 HRO hO HCE c1
            exact ⟨⟨n + 1, _, ls, _, gs, by omega, by go_num, S5, L1', L2', L3'⟩, by simp [nOf]; omega⟩
          · by_cases h1 : fs.length = 1
            · obtain ⟨f, rfl⟩ := List.length_eq_one_iff.1 h1
              have H1F : Hid (fdV d (n + 1) = [kG f]) := by
                unfold Hid
                rw [← HF.out, if_neg (fun e => by have h9 := HLR.out; rw [e] at h9; have h8 : [f].length = 0 := h9; simp at h8), ← HKG.out]
                rfl
              clear h1 h2 HF HKG HLR RS
              have HCO : Hid (coD d (n + 1) = ((coD d n).1 ++ [kG f], (coD d n).2.1, (coD d n).2.2)) := by
                have h5 : fdV d (n + 1) = [kG f] := H1F.out
                unfold Hid
                rw [HCN.out, stB, h5]
              have c0 : w5.cell? ⟨V2.heap.size, 0, none⟩ = some (vs 0) := S3.out.cell 0
              have f0 : w5.frozen? ⟨V2.heap.size, 0, none⟩ = false := S3.out.fz 0
              have hne0 : some V2.heap.size ≠ (vs 0).ownBlock := fun e => by have := (S3.out.own 0 _ e.symm).1; omega
              obtain ⟨g, cap2, e1, hg1, hg2, hcell⟩ := own_at (n := 1) HRO.out Nat.one_pos (by simp [flatF])
              have q0 := hcell 0 _ rfl
              have q1 := hcell 1 _ rfl
              have q2 := hcell 2 _ rfl
              have q3 := hcell 3 _ rfl
              have FKf : FOk w5 V2.heap.size vs f := FK3.out f (by simp)
              obtain ⟨rfl, rfl⟩ : pv = some ⟨g, 0, none⟩ ∧ cv = cap2 := by simpa using e1
              rw [show [f].length = 1 from rfl]
              obtain ⟨fn, hfn⟩ : ∃ x, f.1.g.n = x := ⟨_, rfl⟩
              obtain ⟨fp, hfp⟩ : ∃ x, f.1.g.p = x := ⟨_, rfl⟩
              obtain ⟨fl, hfl⟩ : ∃ x, f.1.g.ws.length = x := ⟨_, rfl⟩
              obtain ⟨fc, hfc⟩ : ∃ x, f.1.g.cap = x := ⟨_, rfl⟩
              obtain ⟨gp, hgp⟩ : ∃ x, f.1.cp = x := ⟨_, rfl⟩
              obtain ⟨gn, hgn⟩ : ∃ x, f.1.cn = x := ⟨_, rfl⟩
              obtain ⟨gc, hgc⟩ : ∃ x, f.1.cc = x := ⟨_, rfl⟩
              obtain ⟨fr, hfr⟩ : ∃ x, f.1.rs = x := ⟨_, rfl⟩
              have HFL : Hid (flatF [f] = [.int .i64 fn, .slice fp fl fc, .slice gp gn gc, .bool fr]) := by rw [← hfn, ← hfp, ← hfl, ← hfc, ← hgp, ← hgn, ← hgc, ← hfr]; rfl
              rw [hfn] at q0
              rw [hfp, hfl, hfc] at q1
              rw [hgp, hgn, hgc] at q2
              rw [hfr] at q3
              have HFK := Lib.hid FKf
              have HG2 := Lib.hid hg2
              have HFG : Hid (wr.heap.size ≤ g) := hg1
              clear hcell e1 hfn hfp hfl hfc hgp hgn hgc hfr FKf hg2
              go_wp2_with fail
              have hO := S3.out.fam.own 0
              have aw : ∀ b, w5.heap.size ≤ b → (vs 0).ownBlock ≠ some b := fun b h e => by have := (S3.out.own 0 _ e).2; omega
              have ag : (vs 0).ownBlock ≠ some g := fun e => by have := HOW.out 0 _ e; have := HFG.out; omega
              have hbs := S3.out.lt
              have hg2 := HG2.out
              have HLm : Hid (ls.length + 1 ≤ maxLen) := by have h7 := congrArg List.length L1.out; rw [List.length_map] at h7; have h9 := (coD_len d 1000000 HSZD.out n).1; unfold Hid maxLen; omega
              have HLb : Hid ((ls.length + 1) * 64 ≤ 140737488355328) := by have h7 := congrArg List.length L1.out; rw [List.length_map] at h7; have h9 := (coD_len d 1000000 HSZD.out n).1; unfold Hid; omega
              obtain ⟨i0, hi, hz0, hz1, hz2⟩ := info_parts inf87
              have hm0 : some V2.heap.size ≠ some g := fun e => by have := HFG.out; have := HS5.out; have := Option.some.inj e; omega
              have hne0' : (vs 0).ownBlock ≠ some V2.heap.size := Ne.symm hne0
              have gb1 : g ≠ V2.heap.size := fun e => hm0 (congrArg some e.symm)
              have gb2 : V2.heap.size ≠ g := fun e => gb1 e.symm
              have HAL : Hid (w5.grownBy (w5.alloc (.cells #[.int .i64 fn, .slice fp fl fc, .slice gp gn gc, .bool fr] 87)).drew none) := grown_tr (grown_al _ _) (grown_dr _)
              have cx : (w5.alloc (.cells #[.int .i64 fn, .slice fp fl fc, .slice gp gn gc, .bool fr] 87)).cell? ⟨V2.heap.size, 0, none⟩ = some (vs 0) := cell_al c0 _
              obtain ⟨v0, hv0⟩ : ∃ v0, Hid (vs 0 = v0) := ⟨_, rfl⟩
              obtain ⟨xs0, hxs0⟩ : ∃ xs0, Hid (flatF ls = xs0) := ⟨_, rfl⟩
              have hO : w5.ownsRow (V2.heap.size + 1) 87 4 (vs 0) ls.length (flatF ls) := hO
              rw [hv0.out] at c0 cx ag hne0 hne0'
              rw [hv0.out, hxs0.out] at hO
              obtain ⟨m0, hm0l⟩ : ∃ m0, Hid (ls.length = m0) := ⟨_, rfl⟩
              rw [hm0l.out] at hO HLm HLb
              rw [show Op.load 75 (Operand.tmp 61) = id (Op.load 75 (Operand.tmp 61)) from rfl]
              go_region_held3 (fun w' => w'.cell? ⟨g, 0, none⟩ = some (.int .i64 fn) ∧ w'.cell? ⟨g, 1, none⟩ = some (.slice fp fl fc) ∧ w'.cell? ⟨g, 2, none⟩ = some (.slice gp gn gc) ∧ w'.cell? ⟨g, 3, none⟩ = some (.bool fr))
                (first
                  | go_keep
                  | (go_split_ands
                     refine ⟨?_, ?_, ?_, ?_⟩ <;> (first | (rw [hgrow.cell_far _ (by simp; omega) (Ne.symm ag)]; assumption) | (rw [World.cell?_setCell_other _ _ _ _ (fun e => gb2 (congrArg Addr.block e))]; assumption) | go_keep)))
                ((refine step_append_lies _ (by rfl) _ _ _ (by rfl) (V2.heap.size + 1) 87 i0 _ 4 64 Tryz.underlying75 hi hz0 hz1 hz2 rfl (by omega) v0 m0 xs0 (by rfl) ((hO.alloc _).drew)
                    ⟨w5.heap.size, 0, none⟩ 1 1 [.int .i64 fn, .slice fp fl fc, .slice gp gn gc, .bool fr] (by rfl) (by rfl) (World.news_of_block (cs := #[.int .i64 fn, .slice fp fl fc, .slice gp gn gc, .bool fr]) (t := 87) (fr := (0, 0)) (heap_alloc_new w5 _)) (by simp [Value.oneCell'])
                    (by omega) HLm.out HLb.out (by simp; omega) (w5.heap.size + 1) (by simp) ?_; intro gg cg w9 hown1 hgrow hat hlt9; have hc9 : w9.cell? ⟨V2.heap.size, 0, none⟩ = some v0 := hgrow.cell (cell_al c0 _) hne0; have hf9 : w9.frozen? ⟨V2.heap.size, 0, none⟩ = false := (World.frozen?_of_block (a := ⟨V2.heap.size, 0, none⟩) (hgrow.block _ (by simp; omega) hne0)).trans ((World.frozen?_of_block (a := ⟨V2.heap.size, 0, none⟩) (HAL.out.block _ hbs (by simp))).trans f0)))
              all_goals
                have hbk : Below w5.heap.size w5 (w5.alloc (.cells #[.int .i64 fn, .slice fp fl fc, .slice gp gn gc, .bool fr] 87)).drew := (below_alloc1 w5 _).drew
                have S5 := Lib.hid ((S3.out.next hbk).grow (ls' := ls ++ [f]) (cs' := cs2) (gs' := gs) 0 (.slice (some ⟨gg, 0, none⟩) (m0 + 1) cg) (fun j hj => by
                  match j, hj with
                  | 0, hj => exact absurd rfl hj
                  | 1, _ => rfl
                  | 2, _ => rfl) (by show w9.ownsRow (V2.heap.size + 1) 87 4 _ (ls ++ [f]).length (flatF (ls ++ [f])); rw [List.length_append, flatF_snoc, hm0l.out, hxs0.out, HFL.out]; exact hown1) (by rw [hv0.out]; exact hgrow) (by rw [hv0.out]; exact hat.elim (fun h => .inl h.symm) (fun h => .inr ⟨_, rfl, by rw [h]; show (World.alloc _ _).heap.size ≤ _; rw [World.size_alloc]; exact Nat.le_refl _⟩)) (fun f' hf => by
                    rcases hf with hf | hf
                    · rcases List.mem_append.1 hf with hf | hf
                      · exact .inl hf
                      · rw [List.mem_singleton.1 hf]; exact .inr (.inr (HFK.out.below hbk))
                    · exact .inr (.inl hf)))
                have L1' : Hid ((ls ++ [f]).map kG = (coD d (n + 1)).1) := by unfold Hid; rw [HCO.out, List.map_append, L1.out]; rfl
                have L2' : Hid (cs2.map kG = (coD d (n + 1)).2.1) := by unfold Hid; rw [HCO.out]; exact L2.out
                have L3' : Hid (gs = (coD d (n + 1)).2.2) := by unfold Hid; rw [HCO.out]; exact L3.out
                clear hown1 hgrow hat hlt9 hbk hc9 hf9 hO aw ag HCO S3 L1 L2 L3 HFK
                go_wp2_with fail
                exact ⟨⟨n + 1, _, _, cs2, gs, by omega, by go_num, S5, L1', L2', L3'⟩, by simp [nOf]; omega⟩
            · obtain rfl : fs = [] := List.length_eq_zero_iff.1 (by omega)
              have HRN : Hid (rdC ((n : Int) + 1) ss k = []) := List.length_eq_zero_iff.1 HLR.out.symm
              have RS5 := RS w5 S3.out.bel
              go_wp2_with fail
              refine RS5.out.mono ?_
              rintro e w6 ⟨vo, v2, fs2, rfl, hrt, hkf, hnp⟩
              obtain ⟨qo, co, rfl⟩ := own_slice2 hrt.ro
              have HKR : Hid (fs2.map kG = (rsC ((n : Int) + 1) ss k).1.map fun y => ((n : Int) + 1, y.1, y.2, true)) := by
                unfold Hid
                rw [← hkf, List.map_map]
                refine List.map_congr_left fun f hf => ?_
                obtain ⟨i, hi, e⟩ := List.getElem_of_mem hf
                have h1 := hnp i hi
                rw [List.getD, List.getElem?_eq_getElem hi] at h1
                simp only [Option.getD_some, e] at h1
                show (f.1.g.n, f.1.g.ws, f.2, f.1.rs) = ((n : Int) + 1, f.1.g.ws, f.2, true)
                rw [h1.1, h1.2.1]
              have HLR2 : Hid (fs2.length = (rsC ((n : Int) + 1) ss k).1.length) := by unfold Hid; rw [← hkf, List.length_map]
              have FK6 := Lib.hid (fok_rs S3.out hrt (fun i hi => (hnp i hi).2.2))
              have S6 := Lib.hid (S3.out.next hrt.bel)
              have HRO6 := Lib.hid hrt.ro
              have HB6 := Lib.hid hrt.bel
              have HF6 : Hid (fdV d (n + 1) = if fs2.length = 1 then fs2.map kG else []) := by
                unfold Hid
                rw [← HF.out, if_pos HRN.out, HLR2.out, HKR.out]
              clear hrt hkf hnp HKR HLR2 HF HKG HLR HRN RS5 FK3 S3 HRO
              by_cases h1 : fs2.length = 1
              · obtain ⟨f, rfl⟩ := List.length_eq_one_iff.1 h1
                have H1F : Hid (fdV d (n + 1) = [kG f]) := HF6.out
                clear HF6 h1 h2
                have HCO : Hid (coD d (n + 1) = ((coD d n).1 ++ [kG f], (coD d n).2.1, (coD d n).2.2)) := by
                  have h5 : fdV d (n + 1) = [kG f] := H1F.out
                  unfold Hid
                  rw [HCN.out, stB, h5]
                have c0 : w6.cell? ⟨V2.heap.size, 0, none⟩ = some (vs 0) := S6.out.cell 0
                have f0 : w6.frozen? ⟨V2.heap.size, 0, none⟩ = false := S6.out.fz 0
                have hne0 : some V2.heap.size ≠ (vs 0).ownBlock := fun e => by have := (S6.out.own 0 _ e.symm).1; omega
                obtain ⟨g, cap2, e1, hg1, hg2, hcell⟩ := own_at (n := 1) HRO6.out Nat.one_pos (by simp [flatF])
                have q0 := hcell 0 _ rfl
                have q1 := hcell 1 _ rfl
                have q2 := hcell 2 _ rfl
                have q3 := hcell 3 _ rfl
                have FKf : FOk w6 V2.heap.size vs f := FK6.out f (by simp)
                obtain ⟨rfl, rfl⟩ : qo = some ⟨g, 0, none⟩ ∧ co = cap2 := by simpa using e1
                rw [show [f].length = 1 from rfl]
                obtain ⟨fn, hfn⟩ : ∃ x, f.1.g.n = x := ⟨_, rfl⟩
                obtain ⟨fp, hfp⟩ : ∃ x, f.1.g.p = x := ⟨_, rfl⟩
                obtain ⟨fl, hfl⟩ : ∃ x, f.1.g.ws.length = x := ⟨_, rfl⟩
                obtain ⟨fc, hfc⟩ : ∃ x, f.1.g.cap = x := ⟨_, rfl⟩
                obtain ⟨gp, hgp⟩ : ∃ x, f.1.cp = x := ⟨_, rfl⟩
                obtain ⟨gn, hgn⟩ : ∃ x, f.1.cn = x := ⟨_, rfl⟩
                obtain ⟨gc, hgc⟩ : ∃ x, f.1.cc = x := ⟨_, rfl⟩
                obtain ⟨fr, hfr⟩ : ∃ x, f.1.rs = x := ⟨_, rfl⟩
                have HFL : Hid (flatF [f] = [.int .i64 fn, .slice fp fl fc, .slice gp gn gc, .bool fr]) := by rw [← hfn, ← hfp, ← hfl, ← hfc, ← hgp, ← hgn, ← hgc, ← hfr]; rfl
                rw [hfn] at q0
                rw [hfp, hfl, hfc] at q1
                rw [hgp, hgn, hgc] at q2
                rw [hfr] at q3
                have HFK := Lib.hid FKf
                have HG2 := Lib.hid hg2
                have HFG : Hid (wr.heap.size ≤ g) := Nat.le_trans HB5.out.size hg1
                clear hcell e1 hfn hfp hfl hfc hgp hgn hgc hfr FKf hg2
                go_wp2_with fail
                have hO := S6.out.fam.own 0
                have aw : ∀ b, w6.heap.size ≤ b → (vs 0).ownBlock ≠ some b := fun b h e => by have := (S6.out.own 0 _ e).2; omega
                have ag : (vs 0).ownBlock ≠ some g := fun e => by have := HOW.out 0 _ e; have := HFG.out; omega
                have hbs := S6.out.lt
                have hg2 := HG2.out
                have HLm : Hid (ls.length + 1 ≤ maxLen) := by have h7 := congrArg List.length L1.out; rw [List.length_map] at h7; have h9 := (coD_len d 1000000 HSZD.out n).1; unfold Hid maxLen; omega
                have HLb : Hid ((ls.length + 1) * 64 ≤ 140737488355328) := by have h7 := congrArg List.length L1.out; rw [List.length_map] at h7; have h9 := (coD_len d 1000000 HSZD.out n).1; unfold Hid; omega
                obtain ⟨i0, hi, hz0, hz1, hz2⟩ := info_parts inf87
                have hm0 : some V2.heap.size ≠ some g := fun e => by have := HFG.out; have := HS5.out; have := Option.some.inj e; omega
                have hne0' : (vs 0).ownBlock ≠ some V2.heap.size := Ne.symm hne0
                have gb1 : g ≠ V2.heap.size := fun e => hm0 (congrArg some e.symm)
                have gb2 : V2.heap.size ≠ g := fun e => gb1 e.symm
                have HAL : Hid (w6.grownBy (w6.alloc (.cells #[.int .i64 fn, .slice fp fl fc, .slice gp gn gc, .bool fr] 87)).drew none) := grown_tr (grown_al _ _) (grown_dr _)
                have cx : (w6.alloc (.cells #[.int .i64 fn, .slice fp fl fc, .slice gp gn gc, .bool fr] 87)).cell? ⟨V2.heap.size, 0, none⟩ = some (vs 0) := cell_al c0 _
                obtain ⟨v0, hv0⟩ : ∃ v0, Hid (vs 0 = v0) := ⟨_, rfl⟩
                obtain ⟨xs0, hxs0⟩ : ∃ xs0, Hid (flatF ls = xs0) := ⟨_, rfl⟩
                have hO : w6.ownsRow (V2.heap.size + 1) 87 4 (vs 0) ls.length (flatF ls) := hO
                rw [hv0.out] at c0 cx ag hne0 hne0'
                rw [hv0.out, hxs0.out] at hO
                obtain ⟨m0, hm0l⟩ : ∃ m0, Hid (ls.length = m0) := ⟨_, rfl⟩
                rw [hm0l.out] at hO HLm HLb
                rw [show Op.load 75 (Operand.tmp 61) = id (Op.load 75 (Operand.tmp 61)) from rfl]
                go_region_held3 (fun w' => w'.cell? ⟨g, 0, none⟩ = some (.int .i64 fn) ∧ w'.cell? ⟨g, 1, none⟩ = some (.slice fp fl fc) ∧ w'.cell? ⟨g, 2, none⟩ = some (.slice gp gn gc) ∧ w'.cell? ⟨g, 3, none⟩ = some (.bool fr))
                  (first
                    | go_keep
                    | (go_split_ands
                       refine ⟨?_, ?_, ?_, ?_⟩ <;> (first | (rw [hgrow.cell_far _ (by simp; omega) (Ne.symm ag)]; assumption) | (rw [World.cell?_setCell_other _ _ _ _ (fun e => gb2 (congrArg Addr.block e))]; assumption) | go_keep)))
                  ((refine step_append_lies _ (by rfl) _ _ _ (by rfl) (V2.heap.size + 1) 87 i0 _ 4 64 Tryz.underlying75 hi hz0 hz1 hz2 rfl (by omega) v0 m0 xs0 (by rfl) ((hO.alloc _).drew)
                      ⟨w6.heap.size, 0, none⟩ 1 1 [.int .i64 fn, .slice fp fl fc, .slice gp gn gc, .bool fr] (by rfl) (by rfl) (World.news_of_block (cs := #[.int .i64 fn, .slice fp fl fc, .slice gp gn gc, .bool fr]) (t := 87) (fr := (0, 0)) (heap_alloc_new w6 _)) (by simp [Value.oneCell'])
                      (by omega) HLm.out HLb.out (by simp; omega) (w6.heap.size + 1) (by simp) ?_; intro gg cg w9 hown1 hgrow hat hlt9; have hc9 : w9.cell? ⟨V2.heap.size, 0, none⟩ = some v0 := hgrow.cell (cell_al c0 _) hne0; have hf9 : w9.frozen? ⟨V2.heap.size, 0, none⟩ = false := (World.frozen?_of_block (a := ⟨V2.heap.size, 0, none⟩) (hgrow.block _ (by simp; omega) hne0)).trans ((World.frozen?_of_block (a := ⟨V2.heap.size, 0, none⟩) (HAL.out.block _ hbs (by simp))).trans f0)))
                all_goals
                  have hbk : Below w6.heap.size w6 (w6.alloc (.cells #[.int .i64 fn, .slice fp fl fc, .slice gp gn gc, .bool fr] 87)).drew := (below_alloc1 w6 _).drew
                  have S5 := Lib.hid ((S6.out.next hbk).grow (ls' := ls ++ [f]) (cs' := cs2) (gs' := gs) 0 (.slice (some ⟨gg, 0, none⟩) (m0 + 1) cg) (fun j hj => by
                    match j, hj with
                    | 0, hj => exact absurd rfl hj
                    | 1, _ => rfl
                    | 2, _ => rfl) (by show w9.ownsRow (V2.heap.size + 1) 87 4 _ (ls ++ [f]).length (flatF (ls ++ [f])); rw [List.length_append, flatF_snoc, hm0l.out, hxs0.out, HFL.out]; exact hown1) (by rw [hv0.out]; exact hgrow) (by rw [hv0.out]; exact hat.elim (fun h => .inl h.symm) (fun h => .inr ⟨_, rfl, by rw [h]; show (World.alloc _ _).heap.size ≤ _; rw [World.size_alloc]; exact Nat.le_refl _⟩)) (fun f' hf => by
                      rcases hf with hf | hf
                      · rcases List.mem_append.1 hf with hf | hf
                        · exact .inl hf
                        · rw [List.mem_singleton.1 hf]; exact .inr (.inr (HFK.out.below hbk))
                      · exact .inr (.inl hf)))
                  have L1' : Hid ((ls ++ [f]).map kG = (coD d (n + 1)).1) := by unfold Hid; rw [HCO.out, List.map_append, L1.out]; rfl
                  have L2' : Hid (cs2.map kG = (coD d (n + 1)).2.1) := by unfold Hid; rw [HCO.out]; exact L2.out
                  have L3' : Hid (gs = (coD d (n + 1)).2.2) := by unfold Hid; rw [HCO.out]; exact L3.out
                  clear hown1 hgrow hat hlt9 hbk hc9 hf9 hO aw ag HCO S6 L1 L2 L3 HFK
                  go_wp2_with fail
                  exact ⟨⟨n + 1, _, _, cs2, gs, by omega, by go_num, S5, L1', L2', L3'⟩, by simp [nOf]; omega⟩
              · have H0F : Hid (fdV d (n + 1) = []) := by unfold Hid; rw [HF6.out, if_neg h1]
                have HCO : Hid (coD d (n + 1) = ((coD d n).1, (coD d n).2.1, exG (coD d n).2.2 ((n + 1 : Nat) : Int))) := by
                  unfold Hid
                  rw [HCN.out, stB, H0F.out]
                have c2 : w6.cell? ⟨V2.heap.size, 2, none⟩ = some (vs 2) := S6.out.cell 2
                have f2 : w6.frozen? ⟨V2.heap.size, 2, none⟩ = false := S6.out.fz 2
                have hO : w6.ownsRow (V2.heap.size + 1) 176 2 (vs 2) gs.length (cellsS gs) := S6.out.fam.own 2
                obtain ⟨q2, cc2, hv2⟩ := own_slice2 hO
                rw [hv2] at c2 hO
                have hb0 : ((fs2.length : Int) == 0) = ((fs2.length : Int) == 0) := rfl
                have hb1 : ((fs2.length : Int) == 1) = false := by rw [beq_eq_false_iff_ne]; omega
                rcases List.eq_nil_or_concat gs with rfl | ⟨l, x, rfl⟩
                · have HEX : Hid (exG ([] : List (Int × Int)) ((n : Int) + 1) = [((n : Int) + 1, (n : Int) + 1)]) := rfl
                  obtain ⟨i0, hi, hz0, hz1, hz2⟩ := info_parts inf176
                  have HOx : Hid ((w6.alloc (.cells #[.int .i64 ((n : Int) + 1), .int .i64 ((n : Int) + 1)] 176)).ownsRow (V2.heap.size + 1) 176 2 (.slice q2 0 cc2) 0 []) := hO.alloc _
                  have hbs := S6.out.lt
                  have HWS : Hid (V2.heap.size + 1 ≤ (w6.alloc (.cells #[.int .i64 ((n : Int) + 1), .int .i64 ((n : Int) + 1)] 176)).heap.size) := by unfold Hid; simp; omega
                  have hne2 : some V2.heap.size ≠ (Value.slice q2 0 cc2).ownBlock := fun e => by have := (S6.out.own 2 V2.heap.size (by rw [hv2]; exact e.symm)).1; omega
                  have S7 := Lib.hid (S6.out.next (below_alloc1 w6 (.cells #[.int .i64 ((n : Int) + 1), .int .i64 ((n : Int) + 1)] 176)))
                  have c7 : (w6.alloc (.cells #[.int .i64 ((n : Int) + 1), .int .i64 ((n : Int) + 1)] 176)).cell? ⟨V2.heap.size, 2, none⟩ = some (.slice q2 0 cc2) := (S7.out.cell 2).trans (by rw [hv2]; rfl)
                  have f7 : (w6.alloc (.cells #[.int .i64 ((n : Int) + 1), .int .i64 ((n : Int) + 1)] 176)).frozen? ⟨V2.heap.size, 2, none⟩ = false := S7.out.fz 2
                  have hb7 : V2.heap.size < (w6.alloc (.cells #[.int .i64 ((n : Int) + 1), .int .i64 ((n : Int) + 1)] 176)).heap.size := S7.out.lt
                  have HV2 := Lib.hid hv2
                  have NW := Lib.hid (spn_new w6 ((n : Int) + 1))
                  go_wp2_with (at_builtin; refine wpList_append_own_at _ rfl (.tmp 97) (.tmp 101) 76 rfl (V2.heap.size + 1) 176 i0 (.agg #[.int .i64 0, .int .i64 0]) 2 16 Tryz.underlying76 hi hz0 hz1 hz2 rfl (by decide) (.slice q2 0 cc2) 0 [] rfl HOx.out ⟨w6.heap.size, 0, none⟩ 1 1 (cellsS [((n : Int) + 1, (n : Int) + 1)]) rfl rfl NW.out cellsS_one (by decide) (by decide) HWS.out ?_; intro v' w9 hown hgrow _ hat; obtain ⟨qv, cw, rfl⟩ := own_slice2 hown; have hc9 : w9.cell? ⟨V2.heap.size, 2, none⟩ = some (.slice q2 0 cc2) := hgrow.cell c7 hne2; have hf9 : w9.frozen? ⟨V2.heap.size, 2, none⟩ = false := (World.frozen?_of_block (a := ⟨V2.heap.size, 2, none⟩) (hgrow.block _ hb7 hne2)).trans f7)
                  have S5 := Lib.hid (S7.out.grow (ls' := ls) (cs' := cs2) (gs' := [((n : Int) + 1, (n : Int) + 1)]) 2 (.slice qv (0 + 1) cw) (fun j hj => by
                    match j, hj with
                    | 0, _ => rfl
                    | 1, _ => rfl
                    | 2, hj => exact absurd rfl hj) (by show w9.ownsRow (V2.heap.size + 1) 176 2 _ 1 (cellsS [((n : Int) + 1, (n : Int) + 1)]); exact hown) (by rw [HV2.out]; exact hgrow) (by rw [HV2.out]; exact hat.imp id (fun h => ⟨_, h, Nat.le_refl _⟩)) (fun f' hf => hf.elim .inl (fun h => .inr (.inl h))))
                  have L1' : Hid (ls.map kG = (coD d (n + 1)).1) := by unfold Hid; rw [HCO.out]; exact L1.out
                  have L2' : Hid (cs2.map kG = (coD d (n + 1)).2.1) := by unfold Hid; rw [HCO.out]; exact L2.out
                  have L3' : Hid ([((n : Int) + 1, (n : Int) + 1)] = (coD d (n + 1)).2.2) := by unfold Hid; rw [HCO.out, ← L3.out]; rfl
                  exact ⟨⟨n + 1, _, ls, _, _, by omega, by go_num, S5, L1', L2', L3'⟩, by simp [nOf]; omega⟩
                · rw [List.concat_eq_append] at hO hv2 L3 S6
                  rw [show (l ++ [x]).length = l.length + 1 from by simp] at hO hv2
                  obtain ⟨g, cap2, e, hg1, hg2, hc⟩ := own_at hO (Nat.succ_pos _) (by rw [cellsS_len]; simp)
                  obtain ⟨rfl, rfl⟩ : q2 = some ⟨g, 0, none⟩ ∧ cc2 = cap2 := by simpa using e
                  rw [List.concat_eq_append, show (l ++ [x]).length = l.length + 1 from by simp] at c2
                  have c1 := hc _ _ (cellsS_last l x)
                  have fz : w6.frozen? ⟨g, l.length * 2 + 1, none⟩ = false := hO.frozenAt _
                  have hll : l.length ≤ 400 := by
                    have h9 := (coD_len d 1000000 HSZD.out n).2.2
                    rw [← L3.out, List.length_append] at h9
                    simp at h9
                    omega
                  have hw0 : IntKind.i64.wrap (((l.length : Int) + 1) - 1) = (l.length : Int) := by rw [show ((l.length : Int) + 1) - 1 = l.length from by omega]; exact IntWalk.i64_in _ ⟨by omega, by omega⟩
                  have hwn : IntKind.i64.wrap (((n : Int) + 1) - 1) = (n : Int) := by rw [show ((n : Int) + 1) - 1 = n from by omega]; exact IntWalk.i64_in _ ⟨by omega, by omega⟩
                  have hw64 : wrap64 (l.length : Int) = (l.length : Int) := by unfold wrap64; omega
                  have hn64 : wrap64 (n : Int) = (n : Int) := by unfold wrap64; omega
                  obtain ⟨i0, hi, hz0, hz1, hz2⟩ := info_parts inf176
                  have HX0 : Hid (exG (l ++ [x]) ((n : Int) + 1) = if x.2 = (n : Int) + 1 - 1 then l ++ [(x.1, (n : Int) + 1)] else l ++ [x] ++ [((n : Int) + 1, (n : Int) + 1)]) := by unfold Hid exG; simp
                  have L1' : Hid (ls.map kG = (coD d (n + 1)).1) := by unfold Hid; rw [HCO.out]; exact L1.out
                  have L2' : Hid (cs2.map kG = (coD d (n + 1)).2.1) := by unfold Hid; rw [HCO.out]; exact L2.out
                  have L3' : Hid (exG (l ++ [x]) ((n : Int) + 1) = (coD d (n + 1)).2.2) := by unfold Hid; rw [HCO.out, ← L3.out]; rfl
                  have HV2 := Lib.hid hv2
                  obtain ⟨x1, x2⟩ := x
                  dsimp only at c1 HX0
                  by_cases he : x2 = (n : Int)
                  · subst he
                    have HX : Hid (exG (l ++ [(x1, (n : Int))]) ((n : Int) + 1) = l ++ [(x1, (n : Int) + 1)]) := by unfold Hid; rw [HX0.out, if_pos (by omega)]
                    have hst := hO.stored (l.length * 2 + 1) (.int .i64 ((n : Int) + 1))
                    rw [cellsS_set l (x1, (n : Int)) ((n : Int) + 1)] at hst
                    have S5 := Lib.hid (S6.out.put (gs' := l ++ [(x1, (n : Int) + 1)]) (by rw [HV2.out, List.length_append]; exact hst.1) (by rw [HV2.out]; exact grownBy_setCellAt w6 g (l.length * 2 + 1) (.int .i64 ((n : Int) + 1))))
                    rw [HX.out] at L3'
                    obtain ⟨m, hm⟩ : ∃ m, Hid (l.length = m) := ⟨_, rfl⟩
                    rw [hm.out] at c1 c2 fz hw0 hw64 S5
                    clear hc hst HX0 hO S6 HX hv2 L1 L2 L3 HRO6 FK6
                    go_wp2_with fail
                    exact ⟨⟨n + 1, _, ls, _, _, by omega, by go_num, S5, L1', L2', L3'⟩, by simp [nOf]; omega⟩
                  · have he2 : ¬ x2 = (n : Int) + 1 - 1 := by rw [Int.add_sub_cancel]; exact he
                    have HX : Hid (exG (l ++ [(x1, x2)]) ((n : Int) + 1) = l ++ [(x1, x2)] ++ [((n : Int) + 1, (n : Int) + 1)]) := HX0.out.trans (if_neg he2)
                    have he' : (x2 == (n : Int)) = false := by rw [beq_eq_false_iff_ne]; exact he
                    clear he he2
                    have HO6 := Lib.hid hO
                    have HLm : Hid (l.length + 1 + 1 ≤ maxLen) := Nat.le_trans (Nat.succ_le_succ (Nat.succ_le_succ hll)) (by decide)
                    have HLb : Hid ((l.length + 1 + 1) * 16 ≤ 140737488355328) := Nat.le_trans (Nat.mul_le_mul_right 16 (Nat.succ_le_succ (Nat.succ_le_succ hll))) (by decide)
                    have HOx : Hid ((w6.alloc (.cells #[.int .i64 ((n : Int) + 1), .int .i64 ((n : Int) + 1)] 176)).ownsRow (V2.heap.size + 1) 176 2 (.slice (some ⟨g, 0, none⟩) (l.length + 1) cc2) (l.length + 1) (cellsS (l ++ [(x1, x2)]))) := hO.alloc _
                    have hbs := S6.out.lt
                    have HWS : Hid (V2.heap.size + 1 ≤ (w6.alloc (.cells #[.int .i64 ((n : Int) + 1), .int .i64 ((n : Int) + 1)] 176)).heap.size) := by unfold Hid; rw [World.size_alloc]; exact Nat.succ_le_succ (Nat.le_of_lt hbs)
                    have hne2 : some V2.heap.size ≠ (Value.slice (some ⟨g, 0, none⟩) (l.length + 1) cc2).ownBlock := fun e => absurd (S6.out.own 2 V2.heap.size (by rw [hv2]; exact e.symm)).1 (Nat.not_succ_le_self _)
                    have S7 := Lib.hid (S6.out.next (below_alloc1 w6 (.cells #[.int .i64 ((n : Int) + 1), .int .i64 ((n : Int) + 1)] 176)))
                    have c7 : (w6.alloc (.cells #[.int .i64 ((n : Int) + 1), .int .i64 ((n : Int) + 1)] 176)).cell? ⟨V2.heap.size, 2, none⟩ = some (.slice (some ⟨g, 0, none⟩) (l.length + 1) cc2) := (S7.out.cell 2).trans (by rw [hv2])
                    have f7 : (w6.alloc (.cells #[.int .i64 ((n : Int) + 1), .int .i64 ((n : Int) + 1)] 176)).frozen? ⟨V2.heap.size, 2, none⟩ = false := S7.out.fz 2
                    have hb7 : V2.heap.size < (w6.alloc (.cells #[.int .i64 ((n : Int) + 1), .int .i64 ((n : Int) + 1)] 176)).heap.size := S7.out.lt
                    have NW := Lib.hid (spn_new w6 ((n : Int) + 1))
                    have HVL : Hid (vs 2 = .slice (some ⟨g, 0, none⟩) (l.length + 1) cc2) := hv2
                    rw [HX.out] at L3'
                    have hLL : Hid ((l ++ [(x1, x2)]).length = l.length + 1) := by unfold Hid; rw [List.length_append]; rfl
                    obtain ⟨XC, hXC⟩ : ∃ XC, Hid (cellsS (l ++ [(x1, x2)]) = XC) := ⟨_, rfl⟩
                    rw [hXC.out] at HOx
                    have HNN : Hid (n < d.last) := hlt
                    clear hc HX0 hO S6 HX L1 L2 L3 HRO6 FK6 fz hv2 HV2 hbs
                    have hfz : w6.frozen? ⟨g, l.length * 2 + 1, none⟩ = false := by
                      have := HO6.out.frozenAt (l.length * 2 + 1)
                      exact this
                    obtain ⟨m, hm⟩ : ∃ m, Hid (l.length = m) := ⟨_, rfl⟩
                    rw [hm.out] at c1 c2 hw0 hw64 HLm HLb HOx c7 hne2 hll hfz
                    have HLL := Lib.hid hll
                    clear hll
                    go_wp2_with (at_builtin; refine wpList_append_own_at _ rfl (.tmp 97) (.tmp 101) 76 rfl (V2.heap.size + 1) 176 i0 (.agg #[.int .i64 0, .int .i64 0]) 2 16 Tryz.underlying76 hi hz0 hz1 hz2 rfl (by decide) (.slice (some ⟨g, 0, none⟩) (m + 1) cc2) (m + 1) XC rfl HOx.out ⟨w6.heap.size, 0, none⟩ 1 1 (cellsS [((n : Int) + 1, (n : Int) + 1)]) rfl rfl NW.out cellsS_one HLm.out HLb.out HWS.out ?_; intro v' w9 hown hgrow _ hat; obtain ⟨qv, cw, rfl⟩ := own_slice2 hown; have hc9 : w9.cell? ⟨V2.heap.size, 2, none⟩ = some (.slice (some ⟨g, 0, none⟩) (m + 1) cc2) := hgrow.cell c7 hne2; have hf9 : w9.frozen? ⟨V2.heap.size, 2, none⟩ = false := (World.frozen?_of_block (a := ⟨V2.heap.size, 2, none⟩) (hgrow.block _ hb7 hne2)).trans f7)
                    have S5 := Lib.hid (S7.out.grow (ls' := ls) (cs' := cs2) (gs' := l ++ [(x1, x2)] ++ [((n : Int) + 1, (n : Int) + 1)]) 2 (.slice qv (m + 1 + 1) cw) (fun j hj => by
                      match j, hj with
                      | 0, _ => rfl
                      | 1, _ => rfl
                      | 2, hj => exact absurd rfl hj) (by show w9.ownsRow (V2.heap.size + 1) 176 2 _ (l ++ [(x1, x2)] ++ [((n : Int) + 1, (n : Int) + 1)]).length (cellsS (l ++ [(x1, x2)] ++ [((n : Int) + 1, (n : Int) + 1)])); rw [cellsS_app (l ++ [(x1, x2)]), hXC.out, List.length_append, hLL.out, hm.out]; exact hown) (by rw [HVL.out, hm.out]; exact hgrow) (by rw [HVL.out, hm.out]; exact hat.imp id (fun h => ⟨_, h, Nat.le_refl _⟩)) (fun f' hf => hf.elim .inl (fun h => .inr (.inl h))))
                    exact ⟨⟨n + 1, _, ls, _, _, HNN.out, by go_num, S5, L1', L2', L3'⟩, by simp [nOf]; clear HLL; have := HNN.out; omega⟩
        · obtain rfl : n = d.last := by omega
          have hlt' : ¬ (d.last : Int) + 1 ≤ (d.last : Int) := by omega
          have c0 := S.out.cell 0
          have c1 := S.out.cell 1
          have c2 := S.out.cell 2
          obtain ⟨p0, k0, e0⟩ := own_slice2 (S.out.fam.own 0)
          obtain ⟨p1, k1, e1⟩ := own_slice2 (S.out.fam.own 1)
          obtain ⟨p2, k2, e2⟩ := own_slice2 (S.out.fam.own 2)
          change vs 0 = .slice p0 ls.length k0 at e0
          change vs 1 = .slice p1 cs2.length k1 at e1
          change vs 2 = .slice p2 gs.length k2 at e2
          change wr.cell? ⟨V2.heap.size, 0, none⟩ = _ at c0
          change wr.cell? ⟨V2.heap.size, 1, none⟩ = _ at c1
          change wr.cell? ⟨V2.heap.size, 2, none⟩ = _ at c2
          rw [e0] at c0
          rw [e1] at c1
          rw [e2] at c2
          have hw0 : w.heap.size < W0.heap.size := by have := HW0.out; omega
          have hw2 : w.heap.size < V2.heap.size := Nat.lt_of_lt_of_le hw0 HBA.out.size
          have x0 := (S.out.bel.cell (p := ⟨w.heap.size, 0, none⟩) hw2).trans ((HBA.out.cell (p := ⟨w.heap.size, 0, none⟩) hw0).trans (NX.out 0 _ rfl))
          have x1 := (S.out.bel.cell (p := ⟨w.heap.size, 1, none⟩) hw2).trans ((HBA.out.cell (p := ⟨w.heap.size, 1, none⟩) hw0).trans (NX.out 1 _ rfl))
          have x2 := (S.out.bel.cell (p := ⟨w.heap.size, 2, none⟩) hw2).trans ((HBA.out.cell (p := ⟨w.heap.size, 2, none⟩) hw0).trans (NX.out 2 _ rfl))
          have x3 := (S.out.bel.cell (p := ⟨w.heap.size, 3, none⟩) hw2).trans ((HBA.out.cell (p := ⟨w.heap.size, 3, none⟩) hw0).trans (NX.out 3 _ rfl))
          have y := fun o => (S.out.bel.frozen (p := ⟨w.heap.size, o, none⟩) hw2).trans ((HBA.out.frozen (p := ⟨w.heap.size, o, none⟩) hw0).trans (FX.out o))
          have y0 := y 0
          have y1 := y 1
          have y2 := y 2
          have y3 := y 3
          have HSS := Lib.hid S.out
          have KP := Lib.hid (set4_keep x0 x1 x2 (.int .i64 0) (.slice p0 ls.length k0) (.slice p1 cs2.length k1) (.slice p2 gs.length k2) (.int .i64 0) x3 (.inr rfl))
          have HE0 := Lib.hid e0
          have HE1 := Lib.hid e1
          have HE2 := Lib.hid e2
          have HB9 : Hid (Below w.heap.size w ((((wr.setCell ⟨w.heap.size, 0, none⟩ (.slice p0 ls.length k0)).setCell ⟨w.heap.size, 1, none⟩ (.slice p1 cs2.length k1)).setCell ⟨w.heap.size, 2, none⟩ (.slice p2 gs.length k2)).setCell ⟨w.heap.size, 3, none⟩ (.int .i64 0))) :=
            ((((BX.out.trans ((HBA.out.trans (S.out.bel.mono HBA.out.size)).mono BX.out.size)).setCell (p := ⟨w.heap.size, 0, none⟩) (Nat.le_refl _) _).setCell (p := ⟨w.heap.size, 1, none⟩) (Nat.le_refl _) _).setCell (p := ⟨w.heap.size, 2, none⟩) (Nat.le_refl _) _).setCell (p := ⟨w.heap.size, 3, none⟩) (Nat.le_refl _) _
          have HW2 := Lib.hid hw2
          clear y e0 e1 e2
          go_wp2_with fail
          refine bodyPost_ret (v := .agg #[.slice p0 ls.length k0, .slice p1 cs2.length k1, .slice p2 gs.length k2, .int .i64 0]) (by simp [results, Tryz.results54, go_sem, x0, x1, x2, x3]) rfl ?_
          have z1 : ls.length = (coB cs).1.length := by rw [HCB.out, ← L1.out, List.length_map]
          have z2 : cs2.length = (coB cs).2.1.length := by rw [HCB.out, ← L2.out, List.length_map]
          have z3 : gs.length = (coB cs).2.2.length := by rw [HCB.out, ← L3.out]
          refine ⟨p0, p1, p2, k0, k1, k2, ls, cs2, by rw [z1, z2, z3], ?_, HB9.out⟩
          exact bk_fin S.out (by simp only [World.size_setCell]; exact Nat.le_refl _) KP.out (fun i => ownsRow_setCell_below (ownsRow_setCell_below (ownsRow_setCell_below (ownsRow_setCell_below (S.out.fam.own i) (by show w.heap.size < _; have := HW2.out; omega) _) (by show w.heap.size < _; have := HW2.out; omega) _) (by show w.heap.size < _; have := HW2.out; omega) _) (by show w.heap.size < _; have := HW2.out; omega) _)
            (by rw [HCB.out]; exact L1.out) (by rw [HCB.out]; exact L2.out) (by rw [HCB.out]; exact L3.out) HE0.out HE1.out HE2.out
end Go.Proofs.YtmfhpddeclggfaaGreatDoor
