import Derived.Test.YtmfhpddeclggfaaGreatDoorVTd0
import Derived.Test.YtmfhpddeclggfaaGreatDoorVTb
import Derived.Test.YtmfhpddeclggfaaGreatDoorVIia
import Derived.Test.YtmfhpddeclggfaaGreatDoorTf
import Derived.Test.YtmfhpddeclggfaaGreatDoorVTc
import Derived.Test.YtmfhpddeclggfaaGreatDoorVTa
import Derived.Test.YtmfhpddeclggfaaGreatDoorVIfb
import Derived.Test.YtmfhpddeclggfaaGreatDoorVc
import Derived.Test.YtmfhpddeclggfaaGreatDoorKf
import Derived.Test.YtmfhpddeclggfaaGreatDoorOm
import Derived.Lib.ConvBytes
import Derived.Laws.IdiomStrings
import Derived.WalkKit
import Derived.LoopTactic
import Derived.WalkSpells
import Derived.WalkLawsBesides
import Derived.Lib.Hide
import Derived.BigQuiet
import Derived.IntWalk
import Derived.Deep.DeepMust
import Derived.WalkSmall
import Derived.StillTailTactics
import Derived.Deep.RegionLaw
import Derived.Deep.QuietTactic
import Derived.Deep.Cut
import Derived.Deep.DeepCutAuto
import Derived.Deep.LoopGhost
import Derived.Deep.RegionHeld3
import Derived.Laws.OwnMore
namespace Go.Proofs.YtmfhpddeclggfaaGreatDoor
open Go.RowKit
theorem dep_of {ops : Array Oper} (h : (ops.toList.zipIdx.all fun x => x.1.after.toList.all fun e => decide (e.on < x.2)) = true) : ∀ (i : Nat) (o : Oper), ops[i]? = some o → ∀ e ∈ o.after, e.on < i := fun i o ho e he => by
  have h1 := List.all_eq_true.1 h (o, i) (List.mem_zipIdx_iff_getElem?.2 (by simpa using ho))
  exact of_decide_eq_true (List.all_eq_true.1 h1 e (Array.mem_toList_iff.2 he))
theorem opis {ops : Array Oper} {i : Nat} {op : Op} {dst : Option Nat} {ds : List Nat} (o : Oper) (h : ops[i]? = some o) (h1 : o.op = op) (h2 : o.dst = dst) (h3 : o.guard = none) (h4 : (ds.all fun d => o.after.toList.any fun e => e.on == d && Region.binds .any e) = true) : OpIs ops i op dst ds :=
  ⟨o, h, h1, h2, h3, fun d hd => by
    obtain ⟨e, he, hb⟩ := List.any_eq_true.1 (List.all_eq_true.1 h4 d hd)
    rw [Bool.and_eq_true, beq_iff_eq] at hb
    exact ⟨e, Array.mem_toList_iff.1 he, hb.1, hb.2⟩⟩
theorem set_keepT {W : World} {a : Addr} {c u : Value} (hx : W.cell? a = some c) (hc : c = .slice none 0 0 ∨ c = u) : ∀ (p : Addr) (v : Value), W.cell? p = some v → v ≠ .slice none 0 0 → (W.setCell a u).cell? p = some v := by
  intro p v hv hn
  by_cases e : a = p
  · subst e
    rw [hx] at hv
    obtain rfl := Option.some.inj hv
    rw [World.cell?_setCell_same _ _ _ hx]
    rw [hc.resolve_left hn]
  · rw [World.cell?_setCell_other _ _ _ _ e]; exact hv
theorem keep_strsT {W W' : World} {p : Option Addr} {zs : List ByteArray} (h : StrsAt W p zs) (hs : W.heap.size ≤ W'.heap.size) (hk : ∀ (p : Addr) (v : Value), W.cell? p = some v → v ≠ .slice none 0 0 → W'.cell? p = some v) : StrsAt W' p zs := by
  rcases h with h | ⟨b, o, h1, h2, h3⟩
  · exact .inl h
  · exact .inr ⟨b, o, h1, Nat.lt_of_lt_of_le h2 hs, fun j hj => hk _ _ (h3 j hj) (fun e => by cases e)⟩
/-- The four cells of a result are written: what was not an empty slice stays. -/
theorem set4_keepT {W : World} {b : Nat} (x0 : W.cell? ⟨b, 0, none⟩ = some (.slice none 0 0)) (x1 : W.cell? ⟨b, 1, none⟩ = some (.slice none 0 0)) (x2 : W.cell? ⟨b, 2, none⟩ = some (.slice none 0 0)) (c3 u0 u1 u2 u3 : Value)
    (x3 : W.cell? ⟨b, 3, none⟩ = some c3) (hc : c3 = .slice none 0 0 ∨ c3 = u3) :
    ∀ (p : Addr) (v : Value), W.cell? p = some v → v ≠ .slice none 0 0 → ((((W.setCell ⟨b, 0, none⟩ u0).setCell ⟨b, 1, none⟩ u1).setCell ⟨b, 2, none⟩ u2).setCell ⟨b, 3, none⟩ u3).cell? p = some v := by
  have ne : ∀ {i j : Nat}, i ≠ j → (⟨b, i, none⟩ : Addr) ≠ ⟨b, j, none⟩ := fun h e => h (congrArg Addr.off e)
  have a1 : (W.setCell ⟨b, 0, none⟩ u0).cell? ⟨b, 1, none⟩ = some (.slice none 0 0) := by rw [World.cell?_setCell_other _ _ _ _ (ne (by decide))]; exact x1
  have a2 : ((W.setCell ⟨b, 0, none⟩ u0).setCell ⟨b, 1, none⟩ u1).cell? ⟨b, 2, none⟩ = some (.slice none 0 0) := by rw [World.cell?_setCell_other _ _ _ _ (ne (by decide)), World.cell?_setCell_other _ _ _ _ (ne (by decide))]; exact x2
  have a3 : (((W.setCell ⟨b, 0, none⟩ u0).setCell ⟨b, 1, none⟩ u1).setCell ⟨b, 2, none⟩ u2).cell? ⟨b, 3, none⟩ = some c3 := by rw [World.cell?_setCell_other _ _ _ _ (ne (by decide)), World.cell?_setCell_other _ _ _ _ (ne (by decide)), World.cell?_setCell_other _ _ _ _ (ne (by decide))]; exact x3
  intro p v hv hn
  exact set_keepT a3 hc p v (set_keepT a2 (.inl rfl) p v (set_keepT a1 (.inl rfl) p v (set_keepT x0 (.inl rfl) p v hv hn) hn) hn) hn
theorem keep_boolsT {W W' : World} {p : Option Addr} {zs : List Bool} (h : BoolsAt W p zs) (hs : W.heap.size ≤ W'.heap.size) (hk : ∀ (p : Addr) (v : Value), W.cell? p = some v → v ≠ .slice none 0 0 → W'.cell? p = some v) : BoolsAt W' p zs := by
  rcases h with h | ⟨b, o, h1, h2, h3⟩
  · exact .inl h
  · exact .inr ⟨b, o, h1, Nat.lt_of_lt_of_le h2 hs, fun j hj => hk _ _ (h3 j hj) (fun e => by cases e)⟩
theorem row_cells {W : World} {B : Nat} {e : TypeId} {v : Value} {xs : List Value} (h : W.ownsRow B e 1 v xs.length xs) : ∃ q cap, v = .slice q xs.length cap ∧ (xs = [] ∨ ∃ b o, q = some ⟨b, o, none⟩ ∧ b < W.heap.size ∧ ∀ j u, xs[j]? = some u → W.cell? ⟨b, o + j, none⟩ = some u) := by
  obtain ⟨h1, ⟨rfl, h2⟩ | ⟨g, cap, cur, rfl, hg, hc, h3, h4, h5, h6⟩⟩ := h
  · exact ⟨none, 0, by rw [h2], .inl (List.length_eq_zero_iff.1 h2)⟩
  · refine ⟨some ⟨g, 0, none⟩, cap, rfl, .inr ⟨g, 0, rfl, (Array.getElem?_eq_some_iff.1 hc).1, fun j u hj => ?_⟩⟩
    have hj2 : j < xs.length := (List.getElem?_eq_some_iff.1 hj).1
    rw [← h6, List.getElem?_take_of_lt (by omega)] at hj
    rw [Nat.zero_add]
    simpa [World.cell?, hc] using hj
theorem lists_own {W : World} {B : Nat} {v : Value} {gs : List GL} (h : W.ownsRow B 37 1 v gs.length (gs.map gS)) (hs : ∀ x ∈ xT gs, StrsAt W x.1 x.2) : ∃ q cap, v = .slice q gs.length cap ∧ ListsAt W q gs := by
  rw [← List.length_map (f := gS)] at h
  obtain ⟨q, c, rfl, hc⟩ := row_cells h
  rw [List.length_map]
  refine ⟨q, c, rfl, ?_, fun j hj => ?_⟩
  · rcases hc with hc | ⟨b, o, h1, h2, h3⟩
    · exact .inl (List.map_eq_nil_iff.1 hc)
    · exact .inr ⟨b, o, h1, h2, fun j hj => h3 j _ (by rw [List.getElem?_map, List.getElem?_eq_getElem hj, List.getD, List.getElem?_eq_getElem hj]; rfl)⟩
  · have hm : ((gs.getD j default).p, (gs.getD j default).ws) ∈ xT gs := List.mem_map.2 ⟨_, by rw [List.getD, List.getElem?_eq_getElem hj]; exact List.getElem_mem hj, rfl⟩
    exact hs _ hm
theorem boolss_own {W : World} {B : Nat} {v : Value} {ys : List (Option Addr × Nat × List Bool)} (h : W.ownsRow B 117 1 v ys.length (ys.map yS)) (hs : ∀ x ∈ yT ys, BoolsAt W x.1 x.2) : ∃ q cap, v = .slice q ys.length cap ∧ BoolssAt W q ys := by
  rw [← List.length_map (f := yS)] at h
  obtain ⟨q, c, rfl, hc⟩ := row_cells h
  rw [List.length_map]
  refine ⟨q, c, rfl, ?_, fun j hj => ?_⟩
  · rcases hc with hc | ⟨b, o, h1, h2, h3⟩
    · exact .inl (List.map_eq_nil_iff.1 hc)
    · exact .inr ⟨b, o, h1, h2, fun j hj => h3 j _ (by rw [List.getElem?_map, List.getElem?_eq_getElem hj, List.getD, List.getElem?_eq_getElem hj]; rfl)⟩
  · have hm : ((ys.getD j default).1, (ys.getD j default).2.2) ∈ yT ys := List.mem_map.2 ⟨_, by rw [List.getD, List.getElem?_eq_getElem hj]; exact List.getElem_mem hj, rfl⟩
    exact hs _ hm
theorem told_fin {W0 W W4 : World} {v0 v1 v2 v3 : Value} {ts : List ByteArray} {ls : List GL} {fs : List GF} {gs : List GL} {ys : List (Option Addr × Nat × List Bool)} (S : TS W0 W (t4 v0 v1 v2 v3) (rT v0 v1 v2 v3 ts ((HT ls fs).map cpO) gs ys) (xT gs) (yT ys)) (ht : txT ls ls.length = ts)
    (ok : ∀ i, i < ls.length → lineErr ((i : Int) + 1) (ls.getD i default).ws = 0) (hg : gs.map (·.ws) = (HT ls fs).map hsT) (hy : ys.map (·.2.2) = (HT ls fs).map lsT) (hs : W.heap.size ≤ W4.heap.size)
    (hk : ∀ (p : Addr) (v : Value), W.cell? p = some v → v ≠ .slice none 0 0 → W4.cell? p = some v) (ho : ∀ i, W4.ownsRow (W0.heap.size + 1) ((rT v0 v1 v2 v3 ts ((HT ls fs).map cpO) gs ys) i).e ((rT v0 v1 v2 v3 ts ((HT ls fs).map cpO) gs ys) i).k ((rT v0 v1 v2 v3 ts ((HT ls fs).map cpO) gs ys) i).v ((rT v0 v1 v2 v3 ts ((HT ls fs).map cpO) gs ys) i).n ((rT v0 v1 v2 v3 ts ((HT ls fs).map cpO) gs ys) i).xs) :
    ∃ p0 p1 p2 p3 c0 c1 c2 c3, v0 = .slice p0 ls.length c0 ∧ v1 = .slice p1 fs.length c1 ∧ v2 = .slice p2 fs.length c2 ∧ v3 = .slice p3 fs.length c3 ∧ ToA W4 ls fs p0 p1 p2 p3 gs ys := by
  have hl1 : ((HT ls fs).map cpO).length = fs.length := by unfold HT; rw [List.length_map, List.length_map]
  have hl2 : gs.length = fs.length := by have := congrArg List.length hg; rw [List.length_map, List.length_map] at this; unfold HT at this; rw [List.length_map] at this; exact this
  have hl3 : ys.length = fs.length := by have := congrArg List.length hy; rw [List.length_map, List.length_map] at this; unfold HT at this; rw [List.length_map] at this; exact this
  have hl0 : ts.length = ls.length := by rw [← ht, txT_len]
  have o0 : W4.ownsRow (W0.heap.size + 1) 9 1 v0 ts.length (strsV ts) := ho 0
  have o1 : W4.ownsRow (W0.heap.size + 1) 9 1 v1 ((HT ls fs).map cpO).length (strsV ((HT ls fs).map cpO)) := ho 1
  have o2 : W4.ownsRow (W0.heap.size + 1) 37 1 v2 gs.length (gs.map gS) := ho 2
  have o3 : W4.ownsRow (W0.heap.size + 1) 117 1 v3 ys.length (ys.map yS) := ho 3
  obtain ⟨p0, c0, e0, a0⟩ := strs_own o0
  obtain ⟨p1, c1, e1, a1⟩ := strs_own o1
  obtain ⟨p2, c2, e2, a2⟩ := lists_own o2 (fun x hx => keep_strsT (S.st x hx).1 hs hk)
  obtain ⟨p3, c3, e3, a3⟩ := boolss_own o3 (fun x hx => keep_boolsT (S.bo x hx).1 hs hk)
  rw [hl0] at e0
  rw [hl1] at e1
  rw [hl2] at e2
  rw [hl3] at e3
  exact ⟨p0, p1, p2, p3, c0, c1, c2, c3, e0, e1, e2, e3, ok, by rw [ht]; exact a0, a1, a2, hg, a3, hy⟩
set_option maxRecDepth 100000 in
set_option maxHeartbeats 8000000 in
theorem told_any (p q : Option Addr) (cap cap2 : Nat) (ls : List GL) (fs : List GF) (w : World) (hl : ls.length ≤ 8) (hf : fs.length ≤ 5) (hs : ∀ j, j < ls.length → (ls.getD j default).small) (hp : ListsAt w p ls) (hq : FatessAt w q fs) (hpl : ∀ j k, (feAt (fs.getD j default).fs k).pl.length ≤ 1000000) (he : Env w) :
    Calls Tryz.prog 67 #[.slice p ls.length cap, .slice q fs.length cap2] w (ToP w ls fs) := by
  have HP := Lib.hid hp
  have HQ := Lib.hid hq
  have HS := Lib.hid hs
  have HPL := Lib.hid hpl
  have HE := Lib.hid he
  obtain ⟨N, hN⟩ : ∃ N, Hid (ls.length = N) := ⟨_, rfl⟩
  obtain ⟨K, hK⟩ : ∃ K, Hid (fs.length = K) := ⟨_, rfl⟩
  rw [hN.out] at hl ⊢
  rw [hK.out] at hf ⊢
  clear hp hq hs hpl he
  have BX : Hid (Below w.heap.size w (w.alloc (.cells #[.slice none 0 0, .slice none 0 0, .slice none 0 0, .slice none 0 0] 112))) := below_alloc1 _ _
  have NX := Lib.hid (fun o u h => nw_at w #[.slice none 0 0, .slice none 0 0, .slice none 0 0, .slice none 0 0] 112 o u h)
  have FX := Lib.hid (fun o => frozen_new w #[.slice none 0 0, .slice none 0 0, .slice none 0 0, .slice none 0 0] 112 o)
  have hsz : (w.alloc (.cells #[.slice none 0 0, .slice none 0 0, .slice none 0 0, .slice none 0 0] 112)).heap.size = w.heap.size + 1 := by simp
  obtain ⟨W0, hW0⟩ : ∃ W0, Hid (w.alloc (.cells #[.slice none 0 0, .slice none 0 0, .slice none 0 0, .slice none 0 0] 112) = W0) := ⟨_, rfl⟩
  rw [hW0.out] at BX NX FX hsz
  have HSZ := Lib.hid hsz
  clear hsz
  have S0 := Lib.hid (TS.mk0 W0 112 9 9 37 117 1 1 1 1)
  obtain ⟨W1, hW1⟩ : ∃ W1, Hid (W0.alloc (.cells #[.slice none 0 0, .slice none 0 0, .slice none 0 0, .slice none 0 0] 112) = W1) := ⟨_, rfl⟩
  rw [hW1.out] at S0
  have S1 : Hid (TS W0 W1 (t4 zT zT zT zT) (rT zT zT zT zT [] [] [] []) [] []) := S0.out.congr (fun i => by match i with | 0 => rfl | 1 => rfl | 2 => rfl | 3 => rfl) (fun i => by match i with | 0 => rfl | 1 => rfl | 2 => rfl | 3 => rfl)
  clear S0
  go_enter Tryz.func67, Tryz.ntmps67
  go_upto_region 1 with (fail)
  rw [hW0.out]
  go_upto_region 2 with (fail)
  rw [hW1.out]
  clear hW0 hW1
  go_wp2_with fail
  go_loopw [23] (fun i wr => ∃ (k : Nat) (v0 : Value), k ≤ N ∧ i = .int .i64 k ∧ (∀ j, j < k → lineErr ((j : Int) + 1) (ls.getD j default).ws = 0) ∧ Hid (TS W0 wr (t4 v0 zT zT zT) (rT v0 zT zT zT (txT ls k) [] [] []) [] [])) (fun i _ => N - (nT i).toNat)
  case atStart => exact ⟨0, zT, Nat.zero_le _, rfl, fun j hj => absurd hj (Nat.not_lt_zero _), S1⟩
  case round =>
    clear S1
    obtain ⟨k, v0, hk, rfl, hok, S⟩ := hrel
    by_cases hlt : k < N
    · obtain ⟨b, o, rfl, hb1, c1, hst⟩ := lists_at (HP.out.below (BX.out.trans (S.out.bel.mono BX.out.size))) (show k < ls.length by rw [hN.out]; exact hlt)
      obtain ⟨hsm1, hsm2⟩ := HS.out k (by rw [hN.out]; exact hlt)
      have HTX := Lib.hid (txT_succ ls k)
      obtain ⟨x2, e2, P6, I6⟩ := wr_pair2 ((k : Int) + 1) (ls.getD k default).ws
      have C8 := sWrite ((k : Int) + 1) (ls.getD k default).p (ls.getD k default).cap (ls.getD k default).ws wr hsm1 hsm2 hst (HE.out.next (BX.out.trans (S.out.bel.mono BX.out.size)))
      rw [P6.out] at C8
      have D8 := Lib.hid C8
      have HGW : Hid ((ls.getD k default).ws = (ls.getD k default).ws) := rfl
      obtain ⟨gw, hgw⟩ : ∃ gw, Hid ((ls.getD k default).ws = gw) := ⟨_, rfl⟩
      obtain ⟨gp, hgp⟩ : ∃ gp, Hid ((ls.getD k default).p = gp) := ⟨_, rfl⟩
      obtain ⟨gc, hgc⟩ : ∃ gc, Hid ((ls.getD k default).cap = gc) := ⟨_, rfl⟩
      rw [hgw.out] at HTX I6 D8 c1
      rw [hgp.out, hgc.out] at D8 c1
      have hlt' : (k : Int) < (N : Int) := by omega
      have hk0 : (0 : Int) ≤ (k : Int) := by omega
      have g1 : IntKind.i64.wrap ((k : Int) + 1) = (k : Int) + 1 := by rw [IntKind.wrap_i64]; omega
      have O0 : wr.ownsRow (W0.heap.size + 1) 9 1 v0 (txT ls k).length (strsV (txT ls k)) := S.out.fam.own 0
      rw [txT_len] at O0
      obtain ⟨qv, cv, rfl⟩ := own_slice2 O0
      clear C8 P6 hst hsm1 hsm2 hb1 HGW hgp hgc O0
      go_wp2_with fail
      refine D8.out.mono ?_
      rintro e w2 ⟨rfl, hb2⟩
      have S2 := Lib.hid (S.out.next hb2)
      clear hb2 D8 S c1
      have hw0 : w.heap.size < W0.heap.size := by have := HSZ.out; omega
      have d0 : w2.cell? ⟨W0.heap.size, 0, none⟩ = some (.slice qv k cv) := S2.out.cell 0
      have d1 : w2.cell? ⟨W0.heap.size, 1, none⟩ = some (.slice none 0 0) := S2.out.cell 1
      have d2 : w2.cell? ⟨W0.heap.size, 2, none⟩ = some (.slice none 0 0) := S2.out.cell 2
      have d3 : w2.cell? ⟨W0.heap.size, 3, none⟩ = some (.slice none 0 0) := S2.out.cell 3
      by_cases he2 : ¬ e2 = 0
      · have hbe : ((e2 : Int) == 0) = false := by rw [beq_eq_false_iff_ne]; exact he2
        have hbn : ((e2 : Int) != 0) = true := by simp [he2]
        have x0 := (S2.out.bel.cell (p := ⟨w.heap.size, 0, none⟩) hw0).trans (NX.out 0 _ rfl)
        have x1 := (S2.out.bel.cell (p := ⟨w.heap.size, 1, none⟩) hw0).trans (NX.out 1 _ rfl)
        have x2' := (S2.out.bel.cell (p := ⟨w.heap.size, 2, none⟩) hw0).trans (NX.out 2 _ rfl)
        have x3 := (S2.out.bel.cell (p := ⟨w.heap.size, 3, none⟩) hw0).trans (NX.out 3 _ rfl)
        have y0 := (S2.out.bel.frozen (p := ⟨w.heap.size, 0, none⟩) hw0).trans (FX.out 0)
        have y1 := (S2.out.bel.frozen (p := ⟨w.heap.size, 1, none⟩) hw0).trans (FX.out 1)
        have y2 := (S2.out.bel.frozen (p := ⟨w.heap.size, 2, none⟩) hw0).trans (FX.out 2)
        have y3 := (S2.out.bel.frozen (p := ⟨w.heap.size, 3, none⟩) hw0).trans (FX.out 3)
        clear I6 he2
        go_wp2_with fail
        refine bodyPost_ret (v := .tuple #[.agg #[.slice qv k cv, .slice none 0 0, .slice none 0 0, .slice none 0 0], .bool false]) (by simp [results, Tryz.results67, go_sem, x0, x1, x2', x3]) rfl ?_
        refine ⟨?_, .inl ⟨_, _, _, rfl⟩⟩
        exact ((((BX.out.trans (S2.out.bel.mono BX.out.size)).setCell (p := ⟨w.heap.size, 0, none⟩) (Nat.le_refl _) _).setCell (p := ⟨w.heap.size, 1, none⟩) (Nat.le_refl _) _).setCell (p := ⟨w.heap.size, 2, none⟩) (Nat.le_refl _) _).setCell (p := ⟨w.heap.size, 3, none⟩) (Nat.le_refl _) _
      · have he3 : e2 = 0 := Decidable.not_not.1 he2
        subst he3
        obtain ⟨hle, hx2⟩ := I6.out rfl
        rw [← hx2] at HTX
        have hok2 : ∀ j, j < k + 1 → lineErr ((j : Int) + 1) (ls.getD j default).ws = 0 := fun j hj => by
          by_cases e : j = k
          · rw [e, hgw.out]; exact hle
          · exact hok j (by omega)
        have HOK := Lib.hid hok2
        clear he2 I6 hle hx2 hok hok2
        obtain ⟨i0, hi, hz0, hz1, hz2⟩ := info_parts inf9
        have f0 : w2.frozen? ⟨W0.heap.size, 0, none⟩ = false := S2.out.fz 0
        have OA : Hid ((w2.alloc (.cells #[.string x2] 9)).ownsRow (W0.heap.size + 1) 9 1 (.slice qv k cv) k (strsV (txT ls k))) := by
          have h0 : w2.ownsRow (W0.heap.size + 1) 9 1 (.slice qv k cv) (txT ls k).length (strsV (txT ls k)) := S2.out.fam.own 0
          rw [txT_len] at h0
          exact h0.alloc _
        have S3 := Lib.hid (S2.out.next (below_alloc1 w2 (.cells #[.string x2] 9)))
        have hlt2 : W0.heap.size < w2.heap.size := S2.out.lt
        have NW := Lib.hid (st_new w2 w2.heap.size x2 rfl)
        have HWS : Hid (W0.heap.size + 1 ≤ (w2.alloc (.cells #[.string x2] 9)).heap.size) := by unfold Hid; simp; omega
        have hne0 : some W0.heap.size ≠ (Value.slice qv k cv).ownBlock := fun e => by have := (S2.out.own 0 W0.heap.size e.symm).1; omega
        have e0 : (w2.alloc (.cells #[.string x2] 9)).cell? ⟨W0.heap.size, 0, none⟩ = some (.slice qv k cv) := S3.out.cell 0
        have ef : (w2.alloc (.cells #[.string x2] 9)).frozen? ⟨W0.heap.size, 0, none⟩ = false := S3.out.fz 0
        have el : W0.heap.size < (w2.alloc (.cells #[.string x2] 9)).heap.size := S3.out.lt
        have HLm : Hid (k + 1 ≤ maxLen) := by unfold Hid maxLen; omega
        have HLb : Hid ((k + 1) * 16 ≤ 140737488355328) := by unfold Hid; omega
        go_wp2_with (at_builtin; refine wpList_append_own_at _ rfl (.tmp 40) (.tmp 42) 37 rfl (W0.heap.size + 1) 9 i0 (.string ⟨#[]⟩) 1 16 Tryz.underlying37 hi hz0 hz1 hz2 rfl (by decide) (.slice qv k cv) k (strsV (txT ls k)) rfl OA.out ⟨w2.heap.size, 0, none⟩ 1 1 (strsV [x2]) rfl rfl NW.out strsV_one HLm.out HLb.out HWS.out ?_; intro v' w4 hown hgrow _ hat; obtain ⟨q9, c9, rfl⟩ := own_slice2 hown; have hc9 : w4.cell? ⟨W0.heap.size, 0, none⟩ = some (.slice qv k cv) := hgrow.cell e0 hne0; have hf9 : w4.frozen? ⟨W0.heap.size, 0, none⟩ = false := (World.frozen?_of_block (a := ⟨W0.heap.size, 0, none⟩) (hgrow.block _ el hne0)).trans ef)
        have S4 := (S3.out.app 0 ⟨9, 1, .slice q9 (k + 1) c9, k + 1, strsV (txT ls k) ++ strsV [x2]⟩ hown hgrow (hat.imp id (fun h => ⟨_, h, Nat.le_refl _⟩))).store 0 (.slice q9 (k + 1) c9)
        have S5 : Hid (TS W0 (w4.setCell ⟨W0.heap.size, 0, none⟩ (.slice q9 (k + 1) c9)) (t4 (.slice q9 (k + 1) c9) zT zT zT) (rT (.slice q9 (k + 1) c9) zT zT zT (txT ls (k + 1)) [] [] []) [] []) := by
          refine S4.congr (fun i => by match i with | 0 => rfl | 1 => rfl | 2 => rfl | 3 => rfl) (fun i => ?_)
          match i with
          | 0 =>
            show (⟨9, 1, .slice q9 (k + 1) c9, k + 1, strsV (txT ls k) ++ strsV [x2]⟩ : Row) = ⟨9, 1, .slice q9 (k + 1) c9, (txT ls (k + 1)).length, strsV (txT ls (k + 1))⟩
            rw [txT_len, HTX.out, strsV_app]
          | 1 => rfl
          | 2 => rfl
          | 3 => rfl
        exact ⟨⟨k + 1, _, by omega, by go_num, HOK.out, S5⟩, by simp [nT]; omega⟩
    · obtain rfl : k = N := by omega
      have O0 : wr.ownsRow (W0.heap.size + 1) 9 1 v0 (txT ls k).length (strsV (txT ls k)) := S.out.fam.own 0
      rw [txT_len] at O0
      obtain ⟨p0, c0, rfl⟩ := own_slice2 O0
      have HTZ : Hid (∀ j, j < k → 0 < ((txT ls k).getD j ByteArray.empty).size ∧ ((txT ls k).getD j ByteArray.empty).size ≤ 1000000) := fun j hj => by
        rw [txT_at ls hj]
        refine ⟨?_, txt_sz (hok j hj)⟩
        rw [bs_size]
        have := (lineT_lined ((j : Int) + 1) (ls.getD j default).ws).len
        omega
      have HTL := Lib.hid (txT_len ls k)
      have HOK := Lib.hid hok
      obtain ⟨ts, hts⟩ : ∃ ts, Hid (txT ls k = ts) := ⟨_, rfl⟩
      rw [hts.out] at HTZ HTL S
      clear O0 hok hlt hk
      go_wp2_with fail
      go_loopw [48] (fun i wz => ∃ (m : Nat) (v1 v2 v3 : Value) (gs : List GL) (ys : List (Option Addr × Nat × List Bool)), m ≤ K ∧ i = .int .i64 m ∧ Hid (TS W0 wz (t4 (.slice p0 k c0) v1 v2 v3) (rT (.slice p0 k c0) v1 v2 v3 ts (((fs.take m).map fun g => hvT ts g.fs k).map cpO) gs ys) (xT gs) (yT ys)) ∧
        Hid (gs.map (·.ws) = ((fs.take m).map fun g => hvT ts g.fs k).map hsT) ∧ Hid (ys.map (·.2.2) = ((fs.take m).map fun g => hvT ts g.fs k).map lsT)) (fun i _ => K - (nT i).toNat)
      case atStart => exact ⟨0, zT, zT, zT, [], [], Nat.zero_le _, rfl, S, rfl, rfl⟩
      case round =>
        clear S
        obtain ⟨m, v1, v2, v3, gs, ys, hm, rfl, S, HG, HY⟩ := hrel
        obtain ⟨wz, rfl⟩ : ∃ V, V = wr := ⟨_, rfl⟩
        by_cases hlt : m < K
        · obtain ⟨b, o, rfl, hb1, c1, hft⟩ := fatess_at (HQ.out.below (BX.out.trans (S.out.bel.mono BX.out.size))) (show m < fs.length by rw [hK.out]; exact hlt)
          have HFT := Lib.hid hft
          have HPM := Lib.hid (HPL.out m)
          obtain ⟨g, hg⟩ : ∃ g, Hid (fs.getD m default = g) := ⟨_, rfl⟩
          rw [hg.out] at c1 HFT HPM
          obtain ⟨gp, gc, gf⟩ := g
          dsimp only at c1 HFT HPM
          obtain ⟨G, hG⟩ : ∃ G, Hid (gf.length = G) := ⟨_, rfl⟩
          rw [hG.out] at c1
          have hlt' : (m : Int) < (K : Int) := by omega
          have hm0 : (0 : Int) ≤ (m : Int) := by omega
          have I0 := Lib.hid (IN.mk0 wz)
          obtain ⟨W3, hW3⟩ : ∃ W3, Hid ((wz.alloc (.cells #[] 9)).alloc (.cells #[] 4) = W3) := ⟨_, rfl⟩
          rw [hW3.out] at I0
          have S3 := Lib.hid (S.out.next I0.out.bel)
          have d0 : W3.cell? ⟨W0.heap.size, 0, none⟩ = some (.slice p0 k c0) := S3.out.cell 0
          clear hb1 hft
          go_upto_region 14 with (fail)
          rw [hW3.out]
          clear hW3
          go_wp2_with fail
          clear d0
          go_loopw [13, 14, 15, 57] (fun c vh vl i wx => ∃ (n : Nat), n ≤ k ∧ i = .int .i64 n ∧ c = .string (bs (cpyL ((hvT ts gf n).filterMap id))) ∧ Hid (IN wz wx vh vl (hvT ts gf n)) ∧ Hid ((bs (cpyL ((hvT ts gf n).filterMap id))).size ≤ n * 1000001)) (fun _ _ _ i _ => k - (nT i).toNat)
          case atStart => exact ⟨0, Nat.zero_le _, rfl, rfl, I0, Nat.zero_le _⟩
          case round =>
            clear I0 S3
            obtain ⟨n, hn, rfl, rfl, I, HCS⟩ := hrel
            obtain ⟨wx, rfl⟩ : ∃ V, V = wr := ⟨_, rfl⟩
            by_cases hlt2 : n < k
            · have S3 := Lib.hid (S.out.next I.out.bel)
              have hts0 : wx.ownsRow (W0.heap.size + 1) 9 1 (.slice p0 k c0) ts.length (strsV ts) := S3.out.fam.own 0
              obtain ⟨q9, c9, e9, hst⟩ := strs_own hts0
              rw [HTL.out] at e9
              injection e9 with e9 _ e9c
              subst e9 e9c
              obtain ⟨b2, o2, rfl, hb2, c2⟩ := str_at hst (show n < ts.length by rw [HTL.out]; exact hlt2)
              obtain ⟨hx0, hx1⟩ := HTZ.out n hlt2
              have HVS := Lib.hid (hvT_succ ts gf n)
              obtain ⟨x, hx⟩ : ∃ x, Hid (ts.getD n ByteArray.empty = x) := ⟨_, rfl⟩
              rw [hx.out] at c2 hx0 hx1 HVS
              have hlt2' : (n : Int) < (k : Int) := by omega
              have hn0 : (0 : Int) ≤ (n : Int) := by omega
              have HX0 := Lib.hid hx0
              have HX1 := Lib.hid hx1
              clear hts0 hst hb2 hx0 hx1
              have step : ∀ (ft : Ft) (a0 a1 a2 a3 : Value), Hid (hvT ts gf (n + 1) = hvT ts gf n ++ [fatC x.data.toList ft]) → True := fun _ _ _ _ _ _ => trivial
              clear step
              by_cases hG2 : n < G
              · obtain ⟨b3, o3, rfl, hb3, e0, e1, e2, e3⟩ := fates_at (HFT.out.below I.out.bel) (show n < gf.length by rw [hG.out]; exact hG2)
                obtain ⟨hu, hok9⟩ := HFT.out.2 n (by rw [hG.out]; exact hG2)
                have hplm := HPM.out n
                unfold feAt at hplm HVS
                obtain ⟨f, hf⟩ : ∃ f, Hid (gf.getD n default = f) := ⟨_, rfl⟩
                rw [hf.out] at e0 e1 e2 e3 hu hok9 hplm HVS
                obtain ⟨fk, fo, fp, fc, fl, fb⟩ := f
                dsimp only at e0 e1 e2 e3 hu hplm
                have FTD : Hid (∀ W, Below wx.heap.size wx W → Calls Tryz.prog 124 #[.string x, .agg #[.int .u8 (fk : Int), .int .u16 (fo : Int), .slice fp fl.length fc, .int .u8 (fb.toNat : Int)]] W (fatP W x ⟨fk, fo, fl, fb⟩)) := fun W hb => fated x fk fo fp fc fl fb W HX0.out HX1.out hok9.kd hok9.pos hplm ((hu.below I.out.bel).below hb) hok9.pb
                obtain ⟨fn, hfn⟩ : ∃ fn, Hid (fl.length = fn) := ⟨_, rfl⟩
                rw [hfn.out] at e2 FTD
                have hG2' : (n : Int) < (G : Int) := by omega
                have HAL : Hid (Below wx.heap.size wx (wx.alloc (.cells #[.int .u8 0, .int .u16 0, .slice none 0 0, .int .u8 0] 194))) := below_alloc1 _ _
                have z0 := nw_at wx #[.int .u8 0, .int .u16 0, .slice none 0 0, .int .u8 0] 194 0 _ rfl
                have z1 := nw_at wx #[.int .u8 0, .int .u16 0, .slice none 0 0, .int .u8 0] 194 1 _ rfl
                have z2 := nw_at wx #[.int .u8 0, .int .u16 0, .slice none 0 0, .int .u8 0] 194 2 _ rfl
                have z3 := nw_at wx #[.int .u8 0, .int .u16 0, .slice none 0 0, .int .u8 0] 194 3 _ rfl
                have y0 := frozen_new wx #[.int .u8 0, .int .u16 0, .slice none 0 0, .int .u8 0] 194 0
                have y1 := frozen_new wx #[.int .u8 0, .int .u16 0, .slice none 0 0, .int .u8 0] 194 1
                have y2 := frozen_new wx #[.int .u8 0, .int .u16 0, .slice none 0 0, .int .u8 0] 194 2
                have y3 := frozen_new wx #[.int .u8 0, .int .u16 0, .slice none 0 0, .int .u8 0] 194 3
                have e0' := (HAL.out.cell (p := ⟨b3, o3 + n * 4, none⟩) hb3).trans e0
                have e1' := (HAL.out.cell (p := ⟨b3, o3 + n * 4 + 1, none⟩) hb3).trans e1
                have e2' := (HAL.out.cell (p := ⟨b3, o3 + n * 4 + 2, none⟩) hb3).trans e2
                have e3' := (HAL.out.cell (p := ⟨b3, o3 + n * 4 + 3, none⟩) hb3).trans e3
                obtain ⟨Wa, hWa⟩ : ∃ Wa, Hid (wx.alloc (.cells #[.int .u8 0, .int .u16 0, .slice none 0 0, .int .u8 0] 194) = Wa) := ⟨_, rfl⟩
                rw [hWa.out] at z0 z1 z2 z3 y0 y1 y2 y3 e0' e1' e2' e3' HAL
                clear hu hok9 hplm hb3 hG2 e0 e1 e2 e3
                go_upto_region 18 with (fail)
                rw [hWa.out]
                clear hWa
                go_wp2_with fail
                clear z0 z1 z2 z3 y0 y1 y2 y3 e0' e1' e2' e3'
                obtain ⟨ft, hft9⟩ : ∃ ft, Hid ((⟨fk, fo, fl, fb⟩ : Ft) = ft) := ⟨_, rfl⟩
                rw [hft9.out] at FTD
                have HVS2 : Hid (hvT ts gf (n + 1) = hvT ts gf n ++ [fatC x.data.toList ft]) := by rw [← hft9.out]; exact HVS.out
                clear HVS
                have HVS := HVS2
                clear HVS2
                have HFL := Lib.hid (fun l => fatC_len (s := x.data.toList) (f := ft) (l := l))
                obtain ⟨co, hco⟩ : ∃ co, Hid (fatC x.data.toList ft = co) := ⟨_, rfl⟩
                have HNL := Lib.hid (hvT_len ts gf n)
                obtain ⟨i9, hi9, hz90, hz91, hz92⟩ := info_parts inf9
                obtain ⟨i4, hi4, hz40, hz41, hz42⟩ := info_parts inf4
                have HLm : Hid (n + 1 ≤ maxLen) := by unfold Hid maxLen; omega
                have HLb : Hid ((n + 1) * 16 ≤ 140737488355328) := by unfold Hid; omega
                have HLb2 : Hid ((n + 1) * 1 ≤ 140737488355328) := by unfold Hid; omega
                refine (FTD.out _ (by exact below4 HAL.out _ _ _ _)).mono ?_
                rintro e w5 ⟨rfl, hb5⟩
                have hb5' : Below wx.heap.size wx w5 := (show Below wx.heap.size wx _ from (by exact below4 HAL.out _ _ _ _)).trans (hb5.mono (show Below wx.heap.size wx _ from (by exact below4 HAL.out _ _ _ _)).size)
                have HI5 := Lib.hid (I.out.next hb5')
                clear hb5 hb5' FTD
                rw [hco.out] at HVS HFL ⊢
                rcases co with _ | l
                · have hq : (hvT ts gf (n + 1)).filterMap id = (hvT ts gf n).filterMap id := by rw [HVS.out]; exact cpy_none _
                  have HCC : Hid (Value.string (bs (cpyL ((hvT ts gf n).filterMap id))) = .string (bs (cpyL ((hvT ts gf (n + 1)).filterMap id)))) := congrArg (fun h => Value.string (bs (cpyL h))) hq.symm
                  have HCZ : Hid ((bs (cpyL ((hvT ts gf (n + 1)).filterMap id))).size ≤ (n + 1) * 1000001) := Nat.le_trans (Nat.le_of_eq (congrArg (fun h => (bs (cpyL h)).size) hq)) (Nat.le_trans HCS.out (Nat.mul_le_mul_right _ (Nat.le_succ _)))
                  clear hq
                  have OA := Lib.hid (HI5.out.hs.alloc (.cells #[.string (bs [])] 9))
                  rw [HNL.out] at OA
                  have HBA : Hid (Below w5.heap.size w5 (w5.alloc (.cells #[.string (bs [])] 9))) := below_alloc1 _ _
                  have NW1 := Lib.hid (st_new w5 w5.heap.size (bs []) rfl)
                  have HWA : Hid (wz.heap.size ≤ (w5.alloc (.cells #[.string (bs [])] 9)).heap.size) := Nat.le_trans HI5.out.bel.size HBA.out.size
                  simp only [Option.getD_none, Option.isSome_none]
                  go_wp2_with (at_builtin; first
                    | (refine wpList_append_own_at _ rfl (.tmp 82) (.tmp 84) 37 rfl wz.heap.size 9 i9 (.string ⟨#[]⟩) 1 16 Tryz.underlying37 hi9 hz90 hz91 hz92 rfl (by decide) u14 n (strsV (hsT (hvT ts gf n))) rfl OA.out ⟨w5.heap.size, 0, none⟩ 1 1 (strsV [(bs [])]) rfl rfl NW1.out strsV_one HLm.out HLb.out HWA.out ?_; intro vh' w6 hown1 hgrow1 _ hat1; have HS6 := Lib.hid (Nat.le_trans HWA.out hgrow1.size); have OB := Lib.hid ((HI5.out.lsA HBA.out hgrow1).alloc (.cells #[.bool true] 4)); rw [HNL.out] at OB; have HBB : Hid (Below w6.heap.size w6 (w6.alloc (.cells #[.bool true] 4))) := below_alloc1 _ _; have NW2 := Lib.hid (bl_new w6 w6.heap.size true rfl); have HWB : Hid (wz.heap.size ≤ (w6.alloc (.cells #[.bool true] 4)).heap.size) := Nat.le_trans HS6.out HBB.out.size; have O1 := Lib.hid hown1; have G1 := Lib.hid hgrow1; have T1 := Lib.hid hat1; clear hown1 hgrow1 hat1)
                    | (refine wpList_append_own_at _ rfl (.tmp 86) (.tmp 89) 117 rfl wz.heap.size 4 i4 (.bool false) 1 1 Tryz.underlying117 hi4 hz40 hz41 hz42 rfl (by decide) u15 n (blsV (lsT (hvT ts gf n))) rfl OB.out ⟨w6.heap.size, 0, none⟩ 1 1 (blsV [true]) rfl rfl NW2.out blsV_one HLm.out HLb2.out HWB.out ?_; intro vl' w8 hown2 hgrow2 _ hat2))
                  have I9 := HI5.out.add (o := none) HNL.out HBA.out O1.out G1.out T1.out HBB.out hown2 hgrow2 hat2
                  rw [← HVS.out] at I9
                  have I10 := Lib.hid I9
                  exact ⟨⟨n + 1, by omega, by go_num, HCC.out, I10, HCZ.out⟩, by simp [nT]; omega⟩
                · have hll := HFL.out l rfl
                  have hxs : x.data.toList.length = x.size := by simp
                  obtain ⟨y, hy⟩ : ∃ y, Hid (bs l = y) := ⟨_, rfl⟩
                  have hys : y.size ≤ 1000000 := by rw [← hy.out, bs_size]; have := HX1.out; omega
                  have hcs := HCS.out
                  have HCC0 := cpy_some (hvT ts gf n) l
                  rw [← HVS.out] at HCC0
                  rw [hy.out] at HCC0
                  obtain ⟨SA, hSA⟩ : ∃ SA, Hid (bs (cpyL ((hvT ts gf n).filterMap id)) = SA) := ⟨_, rfl⟩
                  rw [hSA.out] at HCC0 hcs
                  have hno1 : ¬ 9223372036854775807 < y.size + 1 := by omega
                  have hno2 : ¬ 9223372036854775807 < SA.size + (y.size + 1) := by omega
                  have HCC : Hid (Value.string (SA ++ (y ++ ⟨#[10]⟩)) = .string (bs (cpyL ((hvT ts gf (n + 1)).filterMap id)))) := by unfold Hid; rw [HCC0]
                  have HCZ : Hid ((bs (cpyL ((hvT ts gf (n + 1)).filterMap id))).size ≤ (n + 1) * 1000001) := by unfold Hid; rw [HCC0, ByteArray.size_append, ByteArray.size_append]; have : (⟨#[10]⟩ : ByteArray).size = 1 := rfl; omega
                  have OA := Lib.hid (HI5.out.hs.alloc (.cells #[.string y] 9))
                  rw [HNL.out] at OA
                  have HBA : Hid (Below w5.heap.size w5 (w5.alloc (.cells #[.string y] 9))) := below_alloc1 _ _
                  have NW1 := Lib.hid (st_new w5 w5.heap.size y rfl)
                  have HWA : Hid (wz.heap.size ≤ (w5.alloc (.cells #[.string y] 9)).heap.size) := Nat.le_trans HI5.out.bel.size HBA.out.size
                  rw [hSA.out]
                  simp only [Option.getD_some, Option.isSome_some, hy.out]
                  clear hll hxs hys hcs HCC0
                  go_wp2_with (at_builtin; first
                    | (refine wpList_append_own_at _ rfl (.tmp 82) (.tmp 84) 37 rfl wz.heap.size 9 i9 (.string ⟨#[]⟩) 1 16 Tryz.underlying37 hi9 hz90 hz91 hz92 rfl (by decide) u14 n (strsV (hsT (hvT ts gf n))) rfl OA.out ⟨w5.heap.size, 0, none⟩ 1 1 (strsV [y]) rfl rfl NW1.out strsV_one HLm.out HLb.out HWA.out ?_; intro vh' w6 hown1 hgrow1 _ hat1; have HS6 := Lib.hid (Nat.le_trans HWA.out hgrow1.size); have OB := Lib.hid ((HI5.out.lsA HBA.out hgrow1).alloc (.cells #[.bool false] 4)); rw [HNL.out] at OB; have HBB : Hid (Below w6.heap.size w6 (w6.alloc (.cells #[.bool false] 4))) := below_alloc1 _ _; have NW2 := Lib.hid (bl_new w6 w6.heap.size false rfl); have HWB : Hid (wz.heap.size ≤ (w6.alloc (.cells #[.bool false] 4)).heap.size) := Nat.le_trans HS6.out HBB.out.size; have O1 := Lib.hid hown1; have G1 := Lib.hid hgrow1; have T1 := Lib.hid hat1; clear hown1 hgrow1 hat1)
                    | (refine wpList_append_own_at _ rfl (.tmp 86) (.tmp 89) 117 rfl wz.heap.size 4 i4 (.bool false) 1 1 Tryz.underlying117 hi4 hz40 hz41 hz42 rfl (by decide) u15 n (blsV (lsT (hvT ts gf n))) rfl OB.out ⟨w6.heap.size, 0, none⟩ 1 1 (blsV [false]) rfl rfl NW2.out blsV_one HLm.out HLb2.out HWB.out ?_; intro vl' w8 hown2 hgrow2 _ hat2))
                  rw [← hy.out] at O1
                  have I9 := HI5.out.add (o := (some l)) HNL.out HBA.out O1.out G1.out T1.out HBB.out hown2 hgrow2 hat2
                  rw [← HVS.out] at I9
                  have I10 := Lib.hid I9
                  exact ⟨⟨n + 1, by omega, by go_num, HCC.out, I10, HCZ.out⟩, by simp [nT]; omega⟩
              · have hfd : feAt gf n = ⟨0, 0, none, 0, [], 0⟩ := by
                  unfold feAt
                  rw [List.getD, List.getElem?_eq_none (by rw [hG.out]; omega)]
                  rfl
                rw [hfd] at HVS
                have FTD : Hid (∀ W, Below wx.heap.size wx W → Calls Tryz.prog 124 #[.string x, .agg #[.int .u8 0, .int .u16 0, .slice none 0 0, .int .u8 0]] W (fatP W x ⟨0, 0, [], 0⟩)) := fun W _ => fated x 0 0 none 0 [] 0 W HX0.out HX1.out (by decide) (by decide) (by decide) (.inl rfl) (fun k => Nat.zero_le _)
                have hG2' : ¬ (n : Int) < (G : Int) := by omega
                have HAL : Hid (Below wx.heap.size wx (wx.alloc (.cells #[.int .u8 0, .int .u16 0, .slice none 0 0, .int .u8 0] 194))) := below_alloc1 _ _
                have z0 := nw_at wx #[.int .u8 0, .int .u16 0, .slice none 0 0, .int .u8 0] 194 0 _ rfl
                have z1 := nw_at wx #[.int .u8 0, .int .u16 0, .slice none 0 0, .int .u8 0] 194 1 _ rfl
                have z2 := nw_at wx #[.int .u8 0, .int .u16 0, .slice none 0 0, .int .u8 0] 194 2 _ rfl
                have z3 := nw_at wx #[.int .u8 0, .int .u16 0, .slice none 0 0, .int .u8 0] 194 3 _ rfl
                obtain ⟨Wa, hWa⟩ : ∃ Wa, Hid (wx.alloc (.cells #[.int .u8 0, .int .u16 0, .slice none 0 0, .int .u8 0] 194) = Wa) := ⟨_, rfl⟩
                rw [hWa.out] at z0 z1 z2 z3 HAL
                clear hfd hG2
                go_upto_region 18 with (fail)
                rw [hWa.out]
                clear hWa
                go_wp2_with fail
                clear z0 z1 z2 z3
                obtain ⟨ft, hft9⟩ : ∃ ft, Hid ((⟨0, 0, [], 0⟩ : Ft) = ft) := ⟨_, rfl⟩
                rw [hft9.out] at FTD
                have HVS2 : Hid (hvT ts gf (n + 1) = hvT ts gf n ++ [fatC x.data.toList ft]) := by rw [← hft9.out]; exact HVS.out
                clear HVS
                have HVS := HVS2
                clear HVS2
                have HFL := Lib.hid (fun l => fatC_len (s := x.data.toList) (f := ft) (l := l))
                obtain ⟨co, hco⟩ : ∃ co, Hid (fatC x.data.toList ft = co) := ⟨_, rfl⟩
                have HNL := Lib.hid (hvT_len ts gf n)
                obtain ⟨i9, hi9, hz90, hz91, hz92⟩ := info_parts inf9
                obtain ⟨i4, hi4, hz40, hz41, hz42⟩ := info_parts inf4
                have HLm : Hid (n + 1 ≤ maxLen) := by unfold Hid maxLen; omega
                have HLb : Hid ((n + 1) * 16 ≤ 140737488355328) := by unfold Hid; omega
                have HLb2 : Hid ((n + 1) * 1 ≤ 140737488355328) := by unfold Hid; omega
                refine (FTD.out _ (by exact HAL.out)).mono ?_
                rintro e w5 ⟨rfl, hb5⟩
                have hb5' : Below wx.heap.size wx w5 := (show Below wx.heap.size wx _ from (by exact HAL.out)).trans (hb5.mono (show Below wx.heap.size wx _ from (by exact HAL.out)).size)
                have HI5 := Lib.hid (I.out.next hb5')
                clear hb5 hb5' FTD
                rw [hco.out] at HVS HFL ⊢
                rcases co with _ | l
                · have hq : (hvT ts gf (n + 1)).filterMap id = (hvT ts gf n).filterMap id := by rw [HVS.out]; exact cpy_none _
                  have HCC : Hid (Value.string (bs (cpyL ((hvT ts gf n).filterMap id))) = .string (bs (cpyL ((hvT ts gf (n + 1)).filterMap id)))) := congrArg (fun h => Value.string (bs (cpyL h))) hq.symm
                  have HCZ : Hid ((bs (cpyL ((hvT ts gf (n + 1)).filterMap id))).size ≤ (n + 1) * 1000001) := Nat.le_trans (Nat.le_of_eq (congrArg (fun h => (bs (cpyL h)).size) hq)) (Nat.le_trans HCS.out (Nat.mul_le_mul_right _ (Nat.le_succ _)))
                  clear hq
                  have OA := Lib.hid (HI5.out.hs.alloc (.cells #[.string (bs [])] 9))
                  rw [HNL.out] at OA
                  have HBA : Hid (Below w5.heap.size w5 (w5.alloc (.cells #[.string (bs [])] 9))) := below_alloc1 _ _
                  have NW1 := Lib.hid (st_new w5 w5.heap.size (bs []) rfl)
                  have HWA : Hid (wz.heap.size ≤ (w5.alloc (.cells #[.string (bs [])] 9)).heap.size) := Nat.le_trans HI5.out.bel.size HBA.out.size
                  simp only [Option.getD_none, Option.isSome_none]
                  go_wp2_with (at_builtin; first
                    | (refine wpList_append_own_at _ rfl (.tmp 82) (.tmp 84) 37 rfl wz.heap.size 9 i9 (.string ⟨#[]⟩) 1 16 Tryz.underlying37 hi9 hz90 hz91 hz92 rfl (by decide) u14 n (strsV (hsT (hvT ts gf n))) rfl OA.out ⟨w5.heap.size, 0, none⟩ 1 1 (strsV [(bs [])]) rfl rfl NW1.out strsV_one HLm.out HLb.out HWA.out ?_; intro vh' w6 hown1 hgrow1 _ hat1; have HS6 := Lib.hid (Nat.le_trans HWA.out hgrow1.size); have OB := Lib.hid ((HI5.out.lsA HBA.out hgrow1).alloc (.cells #[.bool true] 4)); rw [HNL.out] at OB; have HBB : Hid (Below w6.heap.size w6 (w6.alloc (.cells #[.bool true] 4))) := below_alloc1 _ _; have NW2 := Lib.hid (bl_new w6 w6.heap.size true rfl); have HWB : Hid (wz.heap.size ≤ (w6.alloc (.cells #[.bool true] 4)).heap.size) := Nat.le_trans HS6.out HBB.out.size; have O1 := Lib.hid hown1; have G1 := Lib.hid hgrow1; have T1 := Lib.hid hat1; clear hown1 hgrow1 hat1)
                    | (refine wpList_append_own_at _ rfl (.tmp 86) (.tmp 89) 117 rfl wz.heap.size 4 i4 (.bool false) 1 1 Tryz.underlying117 hi4 hz40 hz41 hz42 rfl (by decide) u15 n (blsV (lsT (hvT ts gf n))) rfl OB.out ⟨w6.heap.size, 0, none⟩ 1 1 (blsV [true]) rfl rfl NW2.out blsV_one HLm.out HLb2.out HWB.out ?_; intro vl' w8 hown2 hgrow2 _ hat2))
                  have I9 := HI5.out.add (o := none) HNL.out HBA.out O1.out G1.out T1.out HBB.out hown2 hgrow2 hat2
                  rw [← HVS.out] at I9
                  have I10 := Lib.hid I9
                  exact ⟨⟨n + 1, by omega, by go_num, HCC.out, I10, HCZ.out⟩, by simp [nT]; omega⟩
                · have hll := HFL.out l rfl
                  have hxs : x.data.toList.length = x.size := by simp
                  obtain ⟨y, hy⟩ : ∃ y, Hid (bs l = y) := ⟨_, rfl⟩
                  have hys : y.size ≤ 1000000 := by rw [← hy.out, bs_size]; have := HX1.out; omega
                  have hcs := HCS.out
                  have HCC0 := cpy_some (hvT ts gf n) l
                  rw [← HVS.out] at HCC0
                  rw [hy.out] at HCC0
                  obtain ⟨SA, hSA⟩ : ∃ SA, Hid (bs (cpyL ((hvT ts gf n).filterMap id)) = SA) := ⟨_, rfl⟩
                  rw [hSA.out] at HCC0 hcs
                  have hno1 : ¬ 9223372036854775807 < y.size + 1 := by omega
                  have hno2 : ¬ 9223372036854775807 < SA.size + (y.size + 1) := by omega
                  have HCC : Hid (Value.string (SA ++ (y ++ ⟨#[10]⟩)) = .string (bs (cpyL ((hvT ts gf (n + 1)).filterMap id)))) := by unfold Hid; rw [HCC0]
                  have HCZ : Hid ((bs (cpyL ((hvT ts gf (n + 1)).filterMap id))).size ≤ (n + 1) * 1000001) := by unfold Hid; rw [HCC0, ByteArray.size_append, ByteArray.size_append]; have : (⟨#[10]⟩ : ByteArray).size = 1 := rfl; omega
                  have OA := Lib.hid (HI5.out.hs.alloc (.cells #[.string y] 9))
                  rw [HNL.out] at OA
                  have HBA : Hid (Below w5.heap.size w5 (w5.alloc (.cells #[.string y] 9))) := below_alloc1 _ _
                  have NW1 := Lib.hid (st_new w5 w5.heap.size y rfl)
                  have HWA : Hid (wz.heap.size ≤ (w5.alloc (.cells #[.string y] 9)).heap.size) := Nat.le_trans HI5.out.bel.size HBA.out.size
                  rw [hSA.out]
                  simp only [Option.getD_some, Option.isSome_some, hy.out]
                  clear hll hxs hys hcs HCC0
                  go_wp2_with (at_builtin; first
                    | (refine wpList_append_own_at _ rfl (.tmp 82) (.tmp 84) 37 rfl wz.heap.size 9 i9 (.string ⟨#[]⟩) 1 16 Tryz.underlying37 hi9 hz90 hz91 hz92 rfl (by decide) u14 n (strsV (hsT (hvT ts gf n))) rfl OA.out ⟨w5.heap.size, 0, none⟩ 1 1 (strsV [y]) rfl rfl NW1.out strsV_one HLm.out HLb.out HWA.out ?_; intro vh' w6 hown1 hgrow1 _ hat1; have HS6 := Lib.hid (Nat.le_trans HWA.out hgrow1.size); have OB := Lib.hid ((HI5.out.lsA HBA.out hgrow1).alloc (.cells #[.bool false] 4)); rw [HNL.out] at OB; have HBB : Hid (Below w6.heap.size w6 (w6.alloc (.cells #[.bool false] 4))) := below_alloc1 _ _; have NW2 := Lib.hid (bl_new w6 w6.heap.size false rfl); have HWB : Hid (wz.heap.size ≤ (w6.alloc (.cells #[.bool false] 4)).heap.size) := Nat.le_trans HS6.out HBB.out.size; have O1 := Lib.hid hown1; have G1 := Lib.hid hgrow1; have T1 := Lib.hid hat1; clear hown1 hgrow1 hat1)
                    | (refine wpList_append_own_at _ rfl (.tmp 86) (.tmp 89) 117 rfl wz.heap.size 4 i4 (.bool false) 1 1 Tryz.underlying117 hi4 hz40 hz41 hz42 rfl (by decide) u15 n (blsV (lsT (hvT ts gf n))) rfl OB.out ⟨w6.heap.size, 0, none⟩ 1 1 (blsV [false]) rfl rfl NW2.out blsV_one HLm.out HLb2.out HWB.out ?_; intro vl' w8 hown2 hgrow2 _ hat2))
                  rw [← hy.out] at O1
                  have I9 := HI5.out.add (o := (some l)) HNL.out HBA.out O1.out G1.out T1.out HBB.out hown2 hgrow2 hat2
                  rw [← HVS.out] at I9
                  have I10 := Lib.hid I9
                  exact ⟨⟨n + 1, by omega, by go_num, HCC.out, I10, HCZ.out⟩, by simp [nT]; omega⟩
            · obtain rfl : n = k := by omega
              have HNL := hvT_len ts gf n
              have hsl : (hsT (hvT ts gf n)).length = n := by unfold hsT; rw [List.length_map]; exact HNL
              have hll : (lsT (hvT ts gf n)).length = n := by unfold lsT; rw [List.length_map]; exact HNL
              have h1 := I.out.hs
              have h2 := I.out.ls
              rw [HNL] at h1 h2
              rw [← hsl] at h1
              have h1x : wx.ownsRow wz.heap.size 9 1 u14 (hsT (hvT ts gf n)).length (strsV (hsT (hvT ts gf n))) := by
                have := I.out.hs
                rw [HNL] at this
                rw [hsl]; exact this
              have h2x : wx.ownsRow wz.heap.size 4 1 u15 (lsT (hvT ts gf n)).length (blsV (lsT (hvT ts gf n))) := by
                have := I.out.ls
                rw [HNL] at this
                rw [hll]; exact this
              clear h1 h2
              obtain ⟨ph, ch, rfl, hst1⟩ := strs_own h1x
              obtain ⟨pl, cl, rfl, hbl1⟩ := bls_ownF h2x
              have hcl : (((fs.take m).map fun g => hvT ts g.fs n).map cpO).length = m := by rw [List.length_map, List.length_map, List.length_take, hK.out]; omega
              have hgl : gs.length = m := by have := congrArg List.length HG.out; rw [List.length_map, List.length_map, List.length_map, List.length_take, hK.out] at this; omega
              have hyl : ys.length = m := by have := congrArg List.length HY.out; rw [List.length_map, List.length_map, List.length_map, List.length_take, hK.out] at this; omega
              have TT := Lib.hid (ts_in (g1 := ⟨0, ph, ch, hsT (hvT ts gf n)⟩) (y1 := (pl, cl, lsT (hvT ts gf n))) S.out hcl hgl hyl I.out.bel h1x hst1 h2x hbl1)
              have HCL := Lib.hid hcl
              have HGL := Lib.hid hgl
              have HYL := Lib.hid hyl
              have HTK : Hid ((fs.take (m + 1)).map (fun g => hvT ts g.fs n) = (fs.take m).map (fun g => hvT ts g.fs n) ++ [hvT ts gf n]) := by
                unfold Hid
                have hm9 : m < fs.length := by rw [hK.out]; exact hlt
                have hgg := hg.out
                rw [List.getD, List.getElem?_eq_getElem hm9, Option.getD_some] at hgg
                rw [List.take_succ_eq_append_getElem hm9, List.map_append, hgg]
                rfl
              clear hcl hgl hyl hsl hll h1x h2x hst1 hbl1 HNL
              go_upto_region 25 with (fail)
              refine reg25 (W0 := W0) (v0 := .slice p0 n c0) (v := f3 v1 v2 v3) (r0 := ⟨9, 1, .slice p0 n c0, ts.length, strsV ts⟩) (m := m) (xs := xs25 (((fs.take m).map fun g => hvT ts g.fs n).map cpO) gs ys)
                (n := f3 (.string (bs (cpyL ((hvT ts gf n).filterMap id)))) (gS ⟨0, ph, ch, hsT (hvT ts gf n)⟩) (yS (pl, cl, lsT (hvT ts gf n)))) (X := xT (gs ++ [⟨0, ph, ch, hsT (hvT ts gf n)⟩])) (Y := yT (ys ++ [(pl, cl, lsT (hvT ts gf n))]))
                ⟨rfl, dep_of (by kernel_rfl), opis _ rfl rfl rfl rfl (by kernel_rfl), opis _ rfl rfl rfl rfl (by kernel_rfl), opis _ rfl rfl rfl rfl (by kernel_rfl), opis _ rfl rfl rfl rfl (by kernel_rfl), opis _ rfl rfl rfl rfl (by kernel_rfl), opis _ rfl rfl rfl rfl (by kernel_rfl), opis _ rfl rfl rfl rfl (by kernel_rfl), opis _ rfl rfl rfl rfl (by kernel_rfl), opis _ rfl rfl rfl rfl (by kernel_rfl), opis _ rfl rfl rfl rfl (by kernel_rfl), opis _ rfl rfl rfl rfl (by kernel_rfl), opis _ rfl rfl rfl rfl (by kernel_rfl), opis _ rfl rfl rfl rfl (by kernel_rfl), opis _ rfl rfl rfl rfl (by kernel_rfl), opis _ rfl rfl rfl rfl (by kernel_rfl), opis _ rfl rfl rfl rfl (by kernel_rfl), opis _ rfl rfl rfl rfl (by kernel_rfl), opis _ rfl rfl rfl rfl (by kernel_rfl), opis _ rfl rfl rfl rfl (by kernel_rfl), opis _ rfl rfl rfl rfl (by kernel_rfl), opis _ rfl rfl rfl rfl (by kernel_rfl)⟩ rfl rfl rfl rfl rfl (fun k => by match k with | 0 => exact .inr ⟨_, rfl⟩ | 1 => exact .inl ⟨_, _, _, rfl⟩ | 2 => exact .inl ⟨_, _, _, rfl⟩) (by omega) TT.out ?_
              intro w9 u b9 T9
              have S9 := Lib.hid (ts_out HCL.out HGL.out HYL.out T9)
              clear T9 TT
              have S10 : Hid (TS W0 w9 (t4 (.slice p0 n c0) (u 0) (u 1) (u 2)) (rT (.slice p0 n c0) (u 0) (u 1) (u 2) ts (((fs.take (m + 1)).map fun g => hvT ts g.fs n).map cpO) (gs ++ [⟨0, ph, ch, hsT (hvT ts gf n)⟩]) (ys ++ [(pl, cl, lsT (hvT ts gf n))])) (xT (gs ++ [⟨0, ph, ch, hsT (hvT ts gf n)⟩])) (yT (ys ++ [(pl, cl, lsT (hvT ts gf n))]))) := by
                unfold Hid
                rw [HTK.out, List.map_append]
                exact S9.out
              have HG2 : Hid ((gs ++ [(⟨0, ph, ch, hsT (hvT ts gf n)⟩ : GL)]).map (·.ws) = ((fs.take (m + 1)).map fun g => hvT ts g.fs n).map hsT) := by
                unfold Hid
                rw [HTK.out, List.map_append, List.map_append, HG.out]
                rfl
              have HY2 : Hid ((ys ++ [(pl, cl, lsT (hvT ts gf n))]).map (·.2.2) = ((fs.take (m + 1)).map fun g => hvT ts g.fs n).map lsT) := by
                unfold Hid
                rw [HTK.out, List.map_append, List.map_append, HY.out]
                rfl
              clear S9 HTK HCL HGL HYL I S HG HY
              simp only [putL, List.foldl, Act.put, List.setIfInBounds_toArray, List.set_cons_succ, List.set_cons_zero, f3, pB]
              go_wp2_with fail
              exact ⟨⟨m + 1, _, _, _, _, _, by omega, by go_num, S10, HG2, HY2⟩, by simp [nT]; omega⟩
        · obtain rfl : m = K := by omega
          have hTK : fs.take m = fs := List.take_of_length_le (by rw [hK.out]; exact Nat.le_refl _)
          have hHT : (fs.take m).map (fun g => hvT ts g.fs k) = HT ls fs := by rw [hTK, ← hts.out, ← hN.out]; rfl
          rw [hHT] at S HG HY
          have hw0 : w.heap.size < W0.heap.size := by have := HSZ.out; omega
          have x0 := (S.out.bel.cell (p := ⟨w.heap.size, 0, none⟩) hw0).trans (NX.out 0 _ rfl)
          have x1 := (S.out.bel.cell (p := ⟨w.heap.size, 1, none⟩) hw0).trans (NX.out 1 _ rfl)
          have x2 := (S.out.bel.cell (p := ⟨w.heap.size, 2, none⟩) hw0).trans (NX.out 2 _ rfl)
          have x3 := (S.out.bel.cell (p := ⟨w.heap.size, 3, none⟩) hw0).trans (NX.out 3 _ rfl)
          have y0 := (S.out.bel.frozen (p := ⟨w.heap.size, 0, none⟩) hw0).trans (FX.out 0)
          have y1 := (S.out.bel.frozen (p := ⟨w.heap.size, 1, none⟩) hw0).trans (FX.out 1)
          have y2 := (S.out.bel.frozen (p := ⟨w.heap.size, 2, none⟩) hw0).trans (FX.out 2)
          have y3 := (S.out.bel.frozen (p := ⟨w.heap.size, 3, none⟩) hw0).trans (FX.out 3)
          have o1 : wz.ownsRow (W0.heap.size + 1) 9 1 v1 ((HT ls fs).map cpO).length (strsV ((HT ls fs).map cpO)) := S.out.fam.own 1
          have o2 : wz.ownsRow (W0.heap.size + 1) 37 1 v2 gs.length (gs.map gS) := S.out.fam.own 2
          have o3 : wz.ownsRow (W0.heap.size + 1) 117 1 v3 ys.length (ys.map yS) := S.out.fam.own 3
          have d0 : wz.cell? ⟨W0.heap.size, 0, none⟩ = some (.slice p0 k c0) := S.out.cell 0
          have d1 : wz.cell? ⟨W0.heap.size, 1, none⟩ = some v1 := S.out.cell 1
          have d2 : wz.cell? ⟨W0.heap.size, 2, none⟩ = some v2 := S.out.cell 2
          have d3 : wz.cell? ⟨W0.heap.size, 3, none⟩ = some v3 := S.out.cell 3
          obtain ⟨p1, c1, rfl⟩ := own_slice2 o1
          obtain ⟨p2, c2, rfl⟩ := own_slice2 o2
          obtain ⟨p3, c3, rfl⟩ := own_slice2 o3
          have KP := set4_keepT x0 x1 x2 (.slice none 0 0) (.slice p0 k c0) (.slice p1 ((HT ls fs).map cpO).length c1) (.slice p2 gs.length c2) (.slice p3 ys.length c3) x3 (.inl rfl)
          have hfin := told_fin S.out (by rw [hN.out]; exact hts.out) (by rw [hN.out]; exact HOK.out) HG.out HY.out (W4 := (((wz.setCell ⟨w.heap.size, 0, none⟩ (.slice p0 k c0)).setCell ⟨w.heap.size, 1, none⟩ (.slice p1 ((HT ls fs).map cpO).length c1)).setCell ⟨w.heap.size, 2, none⟩ (.slice p2 gs.length c2)).setCell ⟨w.heap.size, 3, none⟩ (.slice p3 ys.length c3)) (by simp only [World.size_setCell]; exact Nat.le_refl _) KP
            (fun i => ownsRow_setCell_below (ownsRow_setCell_below (ownsRow_setCell_below (ownsRow_setCell_below (S.out.fam.own i) (by show w.heap.size < _; omega) _) (by show w.heap.size < _; omega) _) (by show w.heap.size < _; omega) _) (by show w.heap.size < _; omega) _)
          have HFIN := Lib.hid hfin
          have HB9 := Lib.hid (below4 (BX.out.trans (S.out.bel.mono BX.out.size)) (.slice p0 k c0) (.slice p1 ((HT ls fs).map cpO).length c1) (.slice p2 gs.length c2) (.slice p3 ys.length c3))
          obtain ⟨n1, hn1⟩ : ∃ n1, Hid (((HT ls fs).map cpO).length = n1) := ⟨_, rfl⟩
          obtain ⟨n2, hn2⟩ : ∃ n2, Hid (gs.length = n2) := ⟨_, rfl⟩
          obtain ⟨n3, hn3⟩ : ∃ n3, Hid (ys.length = n3) := ⟨_, rfl⟩
          rw [hn1.out, hn2.out, hn3.out] at HFIN HB9
          rw [hn1.out] at d1
          rw [hn2.out] at d2
          rw [hn3.out] at d3
          clear hTK hHT o1 o2 o3 KP hfin hw0 S HG HY hn1 hn2 hn3
          go_wp2_with fail
          refine bodyPost_ret (v := .tuple #[.agg #[.slice p0 k c0, .slice p1 n1 c1, .slice p2 n2 c2, .slice p3 n3 c3], .bool true]) (by simp [results, Tryz.results67, go_sem, x0, x1, x2, x3]) rfl ?_
          refine ⟨HB9.out, .inr ?_⟩
          obtain ⟨q0, q1, q2, q3, e0, e1, e2, e3, h0, h1, h2, h3, hA⟩ := HFIN.out
          exact ⟨q0, q1, q2, q3, e0, e1, e2, e3, gs, ys, by rw [h0, h1, h2, h3], hA⟩
end Go.Proofs.YtmfhpddeclggfaaGreatDoor
