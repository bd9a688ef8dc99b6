import Derived.RangeFuncNested
import Derived.RangeFuncBound
import Derived.RangeFuncCalls
import Derived.RangeFuncLeaves
import Derived.Test.YtmfhpddeclggfaaGreatDoorWCy
import Derived.RangeFuncBox
import Derived.Shelf.Abstract
import Derived.Shelf.RegionOpen
import Derived.OwnWalkIn
import Derived.TacticsInMore
import Derived.LoopNIn
import Derived.LoopIn
import Derived.Maps.AppendAt
import Derived.WalkKit
import Derived.LoopTactic
import Derived.WalkSpells
import Derived.WalkLawsBesides
import Derived.Lib.Hide
import Derived.BigQuiet
import Derived.IntWalk
import Derived.Deep.DeepMust
import Derived.WalkSmall
import Derived.StillTailTactics
import Derived.Deep.RegionLaw
import Derived.Deep.QuietTactic
import Derived.Deep.Cut
import Derived.Deep.DeepCutAuto
import Derived.Deep.LoopGhost
import Derived.Laws.AppendOwn
namespace Go.Proofs.YtmfhpddeclggfaaGreatDoor
open Go.RowKit
/-! The reference's Lines. -/
open Go.Shelf
theorem step_append_own_at {P : Program} {ops : Array Oper} {w : World} {o : Oper} {a : Act} {K : Act → World → Prop} {Q : Exit → Act → World → Prop} {E : Prop} (hgd : o.guard = none) (s x : Operand) (t : TypeId)
    (ho : o.op = .call { callee := .builtin .append, args := #[s, x], argTypes := #[t, t] })
    (base : Nat) (e : TypeId) (i : TypeInfo) (z : Value) (size bytes : Nat) (ht : P.underlying t = some (.slice e)) (hi : P.info? e = some i) (hz : i.zero = some z)
    (hsize : i.size = size) (hby : i.bytes = bytes) (hzs : z.cells.size = size) (hsz : 0 < size)
    (v : Value) (n : Nat) (xs : List Value) (hs : a.eval s = v) (hown : w.ownsRow base e size v n xs)
    (ad : Addr) (m c : Nat) (news : List Value) (hx : a.eval x = .slice (some ad) m c) (hl : news.length = m * size) (hnews : ∀ j u, news[j]? = some u → w.cell? (ad.add j) = some u) (h1 : ∀ u ∈ news, u.oneCell' = true)
    (h63 : n + m ≤ maxLen) (hbytes : (n + m) * bytes ≤ 140737488355328) (hbase : base ≤ w.heap.size)
    (h : ∀ v' w', w'.ownsRow base e size v' (n + m) (xs ++ news) → w.grownBy w' v.ownBlock → (v'.ownBlock = v.ownBlock ∨ v'.ownBlock = some w.heap.size) → (v' = .slice none 0 0 ↔ v = .slice none 0 0 ∧ m = 0) → K (a.put o.dst v') w') :
    if Region.wanted o (yielded ops a.tmps) = true then Oper.wp P o a w K Q else E := by
  rw [if_pos (by simp [Region.wanted, hgd])]
  obtain ⟨v', w', hr, h2, h3, h4, h5⟩ := run_append_own_at (P := P) w base t o.type e i z size bytes ht hi hz hsize hby hzs hsz v n xs hown ad m c news hl hnews h1 h63 hbytes hbase
  unfold Oper.wp execOp
  simp only [ho, resolve, invoke, builtin, Sem.run_bind, Sem.run_pure, Result.andThen_ok, List.map_toArray, List.map_cons, List.map_nil, hs, hx, hr]
  exact h v' w' h2 h3 h5 h4
/-- Two cells with slices, and what lies behind them. -/
structure RB (w1 W : World) (vl vo : Value) (ps : List ByteArray) : Prop where
  c0 : W.cell? ⟨w1.heap.size, 0, none⟩ = some vl
  c1 : W.cell? ⟨w1.heap.size, 1, none⟩ = some vo
  fz : ∀ o, W.frozen? ⟨w1.heap.size, o, none⟩ = false
  bel : Below w1.heap.size w1 W
  lt : w1.heap.size < W.heap.size
  ln : LNP (w1.heap.size + 1) W vl vo ps
theorem own_slice {W : World} {B n k : Nat} {e : TypeId} {v : Value} {xs : List Value} (h : W.ownsRow B e k v n xs) : ∃ q m c, v = .slice q m c := by
  obtain ⟨-, ⟨rfl, -⟩ | ⟨g, cap', cur, rfl, -⟩⟩ := h
  · exact ⟨_, _, _, rfl⟩
  · exact ⟨_, _, _, rfl⟩
theorem RB.slices {w1 W : World} {vl vo : Value} {ps : List ByteArray} (h : RB w1 W vl vo ps) : (∃ q m c, vl = .slice q m c) ∧ ∃ q m c, vo = .slice q m c := by
  obtain ⟨gs, -, hL⟩ := h.ln
  exact ⟨own_slice hL.row, own_slice hL.oth⟩
theorem st_new_drew (W : World) (b : Nat) (x : ByteArray) (hb : W.heap.size = b) : ∀ j u, (strsV [x])[j]? = some u → (W.alloc (.cells #[.string x] 9)).drew.cell? ((⟨b, 0, none⟩ : Addr).add j) = some u := by
  subst hb
  exact cells_new_drew W #[.string x] 9
theorem RB.mk0 (w : World) (t : TypeId) : RB w (w.alloc (.cells #[.slice none 0 0, .slice none 0 0] t)) (.slice none 0 0) (.slice none 0 0) [] :=
  ⟨nw_at w _ t 0 _ rfl, nw_at w _ t 1 _ rfl, fun o => frozen_new w _ _ o, below_alloc1 _ _, by simp, LNP.nil _ _⟩
theorem RB.next {w1 W W' : World} {vl vo : Value} {ps : List ByteArray} (h : RB w1 W vl vo ps) (hb : Below W.heap.size W W') : RB w1 W' vl vo ps :=
  ⟨(hb.cell (p := ⟨w1.heap.size, 0, none⟩) h.lt).trans h.c0, (hb.cell (p := ⟨w1.heap.size, 1, none⟩) h.lt).trans h.c1, fun o => (hb.frozen (p := ⟨w1.heap.size, o, none⟩) h.lt).trans (h.fz o), h.bel.trans (hb.mono (Nat.le_of_lt h.lt)), Nat.lt_of_lt_of_le h.lt hb.size, h.ln.below hb⟩
theorem WdsAt.mono {B C : Nat} {W : World} {vl vo : Value} {p : Option Addr} {ws : List ByteArray} (h : WdsAt B W vl vo p ws) (hc : C ≤ B) : WdsAt C W vl vo p ws := by
  rcases h with h | ⟨b, o, h1, h2, h3⟩
  · exact .inl h
  · exact .inr ⟨b, o, h1, Nat.le_trans hc h2, h3⟩
theorem LNP.mono {B C : Nat} {W : World} {vl vo : Value} {ps : List ByteArray} (h : LNP B W vl vo ps) (hc : C ≤ B) : LNP C W vl vo ps := by
  obtain ⟨gs, h1, h2⟩ := h
  exact ⟨gs, h1, ownsRow_base h2.row hc, ownsRow_base h2.oth hc, fun g hg => (h2.wds g hg).mono hc⟩
theorem RB.line {w1 W W' : World} {vl vo v' : Value} {ps : List ByteArray} {gs : List GL} {x : ByteArray} {p : Option Addr} {c : Nat} (h : RB w1 W vl vo ps) (hk : gs.map glKey = (lnsOf ps).map rdKey) (hL : LN (w1.heap.size + 1) W vl vo gs (otsOf ps)) (hx : readErr x = 0)
    (hw : WdsAt (w1.heap.size + 1) W vl vo p (rdw x)) (hown : W'.ownsRow (w1.heap.size + 1) 39 2 v' (gs.length + 1) (flatG gs ++ flatG [(⟨rdn x, p, c, rdw x⟩ : GL)])) (hgr : W.grownBy W' vl.ownBlock) (hat : v'.ownBlock = vl.ownBlock ∨ v'.ownBlock = some W.heap.size) : RB w1 (W'.setCell ⟨w1.heap.size, 0, none⟩ v') v' vo (ps ++ [x]) := by
  have hne : some w1.heap.size ≠ vl.ownBlock := fun e => by have := (hL.row.lt _ e.symm).1; omega
  have hb : W'.heap[w1.heap.size]? = W.heap[w1.heap.size]? := hgr.block _ h.lt hne
  have k0 := (World.cell?_of_block (a := ⟨w1.heap.size, 0, none⟩) hb).trans h.c0
  have k1 := (World.cell?_of_block (a := ⟨w1.heap.size, 1, none⟩) hb).trans h.c1
  obtain ⟨e1, e2⟩ := LNP.key_line hk hx p c
  refine ⟨World.cell?_setCell_same' W' _ _ (by rw [k0]; rfl), ?_, fun o => ?_, ?_, ?_, ?_⟩
  · rw [World.cell?_setCell_other _ _ _ _ (fun e => by cases e)]; exact k1
  · rw [World.frozen?_setCell]; exact (World.frozen?_of_block (a := ⟨w1.heap.size, o, none⟩) hb).trans (h.fz o)
  · exact (h.bel.grown hgr (Nat.le_of_lt h.lt) (fun k e => by have := (hL.row.lt k e).1; omega)).setCell (p := ⟨w1.heap.size, 0, none⟩) (Nat.le_refl _) _
  · rw [World.size_setCell]; exact Nat.lt_of_lt_of_le h.lt hgr.size
  · refine ⟨gs ++ [⟨rdn x, p, c, rdw x⟩], e1, ?_⟩
    rw [e2]
    exact (hL.line (g := ⟨rdn x, p, c, rdw x⟩) hw hown hgr hat).grown (grownBy_setCell' W' w1.heap.size _) (fun r e => by cases e; exact Nat.lt_succ_self _)
theorem RB.other {w1 W W' : World} {vl vo v' : Value} {ps : List ByteArray} {gs : List GL} {x : ByteArray} (h : RB w1 W vl vo ps) (hk : gs.map glKey = (lnsOf ps).map rdKey) (hL : LN (w1.heap.size + 1) W vl vo gs (otsOf ps)) (hx : readErr x ≠ 0)
    (hown : W'.ownsRow (w1.heap.size + 1) 9 1 v' ((otsOf ps).length + 1) (strsV (otsOf ps) ++ strsV [x])) (hgr : W.grownBy W' vo.ownBlock) (hat : v'.ownBlock = vo.ownBlock ∨ v'.ownBlock = some W.heap.size) : RB w1 (W'.setCell ⟨w1.heap.size, 1, none⟩ v') vl v' (ps ++ [x]) := by
  have hne : some w1.heap.size ≠ vo.ownBlock := fun e => by have := (hL.oth.lt _ e.symm).1; omega
  have hb : W'.heap[w1.heap.size]? = W.heap[w1.heap.size]? := hgr.block _ h.lt hne
  have k0 := (World.cell?_of_block (a := ⟨w1.heap.size, 0, none⟩) hb).trans h.c0
  have k1 := (World.cell?_of_block (a := ⟨w1.heap.size, 1, none⟩) hb).trans h.c1
  obtain ⟨e1, e2⟩ := LNP.key_other hk hx
  refine ⟨?_, World.cell?_setCell_same' W' _ _ (by rw [k1]; rfl), fun o => ?_, ?_, ?_, ?_⟩
  · rw [World.cell?_setCell_other _ _ _ _ (fun e => by cases e)]; exact k0
  · rw [World.frozen?_setCell]; exact (World.frozen?_of_block (a := ⟨w1.heap.size, o, none⟩) hb).trans (h.fz o)
  · exact (h.bel.grown hgr (Nat.le_of_lt h.lt) (fun k e => by have := (hL.oth.lt k e).1; omega)).setCell (p := ⟨w1.heap.size, 1, none⟩) (Nat.le_refl _) _
  · rw [World.size_setCell]; exact Nat.lt_of_lt_of_le h.lt hgr.size
  · refine ⟨gs, e1, ?_⟩
    rw [e2]
    exact (hL.other hown hgr hat).grown (grownBy_setCellAt W' w1.heap.size 1 _) (fun r e => by cases e; exact Nat.lt_succ_self _)
theorem inf39 : (Tryz.prog.info? 39).map (fun i => (i.zero, i.size, i.bytes)) = some (some (.agg #[.int .i64 0, .slice none 0 0]), 2, 32) := by kernel_rfl
theorem ln_new (W : World) (b : Nat) (g : GL) (hb : W.heap.size = b) : ∀ j u, (flatG [g])[j]? = some u → (W.alloc (.cells #[.int .i64 g.n, .slice g.p g.ws.length g.cap] 39)).cell? ((⟨b, 0, none⟩ : Addr).add j) = some u := by
  subst hb
  exact cells_new W #[.int .i64 g.n, .slice g.p g.ws.length g.cap] 39
set_option maxRecDepth 100000 in
set_option maxHeartbeats 4000000 in
theorem rLines (s : ByteArray) (w : World) (hs : s.size ≤ 1000000) :
    Calls Tryz.prog 41 #[.string s] w fun e w' => ∃ (vl vo : Value), e = .returned (.agg #[vl, vo]) ∧ Below w.heap.size w w' ∧ LNP w.heap.size w' vl vo (partsN s) := by
  have SP := Lib.hid (rPieces2 s (w.alloc (.cells #[.slice none 0 0, .slice none 0 0] 59)) hs)
  have HS := Lib.hid hs
  have Z0 : Hid (Below w.heap.size w (w.alloc (.cells #[.slice none 0 0, .slice none 0 0] 59))) := below_alloc1 _ _
  have Y0 := Lib.hid (RB.mk0 w 59)
  go_enter Tryz.func41, Tryz.ntmps41
  go_wp2_with fail
  refine SP.out.mono ?_
  rintro e w1 ⟨q, cap, rfl, hst, hb⟩
  have HST := Lib.hid hst
  have HPL := Lib.hid (partsN_len s)
  have Y1 := Lib.hid (Y0.out.next hb)
  have R0 := Lib.hid (RB.mk0 w1 59)
  have HM : Hid (∀ x ∈ partsN s, x.size ≤ 1000000) := fun x hx => Nat.le_trans (partsN_size hx) HS.out
  obtain ⟨ps, hps⟩ : ∃ ps, partsN s = ps := ⟨_, rfl⟩
  rw [hps] at HST HPL HM ⊢
  have HPS := Lib.hid hps
  obtain ⟨N, hN⟩ : ∃ N, Hid (ps.length = N) := ⟨_, rfl⟩
  have hNl : N ≤ 1000001 := by have := hN.out; have := HPL.out; omega
  rw [hN.out]
  clear SP hb hst Y0 HPL Z0 hs hps
  go_wp2_with fail
  go_loopw [5] (fun i wr => ∃ (k : Nat) (vl vo : Value), k ≤ N ∧ i = .int .i64 k ∧ Hid (RB w1 wr vl vo (ps.take k))) (fun i _ => N - (intOf i).toNat)
  case atStart => exact ⟨0, _, _, Nat.zero_le _, rfl, R0⟩
  case round =>
    clear R0
    obtain ⟨k, vl, vo, hk, rfl, R⟩ := hrel
    by_cases hlt : k < N
    · have hkl : k < ps.length := by rw [hN.out]; exact hlt
      obtain ⟨b, o, rfl, hbl, cx⟩ := str_at HST.out hkl
      have HBL := Lib.hid hbl
      have CX0 := Lib.hid cx
      have cx := (R.out.bel.cell (p := ⟨b, o + k, none⟩) hbl).trans cx
      obtain ⟨x, hx⟩ : ∃ x, Hid (ps.getD k ByteArray.empty = x) := ⟨_, rfl⟩
      have hxe : ps[k] = x := by rw [← hx.out, List.getD, List.getElem?_eq_getElem hkl]; rfl
      have hxs : x.size ≤ 1000000 := HM.out x (by rw [← hxe]; exact List.getElem_mem _)
      have HTK : Hid (ps.take (k + 1) = ps.take k ++ [x]) := by unfold Hid; rw [List.take_succ_eq_append_getElem hkl, hxe]
      rw [hx.out] at cx
      rw [hx.out] at CX0
      have RD := fun W => Lib.hid (rReadF x W hxs)
      have hlt' : (k : Int) < (N : Int) := by omega
      have hk0 : (0 : Int) ≤ (k : Int) := by omega
      clear hbl hxe hxs
      go_wp2_with fail
      refine (RD _).out.mono ?_
      rintro e w2 ⟨p, c, rfl, hb2, hst2, hpf⟩
      have R3 := Lib.hid ((R.out.next hb2).next (below_alloc1 w2 (.cells #[.int .i64 (rdn x), .slice p (rdw x).length c, .int .i64 (readErr x)] 46)))
      obtain ⟨gs, hgk, hL⟩ := R3.out.ln
      have hW3 : Hid (WdsAt (w1.heap.size + 1) (w2.alloc (.cells #[.int .i64 (rdn x), .slice p (rdw x).length c, .int .i64 (readErr x)] 46)) vl vo p (rdw x)) := by
        obtain ⟨gs0, -, hL0⟩ := R.out.ln
        exact WdsAt.mk (hst2.below (below_alloc1 _ _)) hpf R.out.lt (fun k e => (hL0.row.lt k e).2) (fun k e => (hL0.oth.lt k e).2)
      have y0 : (w2.alloc (.cells #[.int .i64 (rdn x), .slice p (rdw x).length c, .int .i64 (readErr x)] 46)).cell? ⟨w2.heap.size, 0, none⟩ = some (.int .i64 (rdn x)) := nw_at w2 _ 46 0 _ rfl
      have y1 : (w2.alloc (.cells #[.int .i64 (rdn x), .slice p (rdw x).length c, .int .i64 (readErr x)] 46)).cell? ⟨w2.heap.size, 1, none⟩ = some (.slice p (rdw x).length c) := nw_at w2 _ 46 1 _ rfl
      have y2 : (w2.alloc (.cells #[.int .i64 (rdn x), .slice p (rdw x).length c, .int .i64 (readErr x)] 46)).cell? ⟨w2.heap.size, 2, none⟩ = some (.int .i64 (readErr x)) := nw_at w2 _ 46 2 _ rfl
      have c0 := R3.out.c0
      have c1 := R3.out.c1
      have CX := Lib.hid (((R3.out.bel).cell (p := ⟨b, o + k, none⟩) HBL.out).trans CX0.out)
      have HGK := Lib.hid hgk
      have HLN := Lib.hid hL
      have hgl := gl_len hgk
      have hol := ot_len (ps.take k)
      have hpk : (ps.take k).length ≤ 1000001 := by rw [List.length_take]; omega
      have HLm : Hid (gs.length + 1 ≤ maxLen) := by unfold Hid maxLen; omega
      have HLb : Hid ((gs.length + 1) * 32 ≤ 140737488355328) := by unfold Hid; omega
      have HOm : Hid ((otsOf (ps.take k)).length + 1 ≤ maxLen) := by unfold Hid maxLen; omega
      have HOb : Hid (((otsOf (ps.take k)).length + 1) * 16 ≤ 140737488355328) := by unfold Hid; omega
      obtain ⟨er, her⟩ : ∃ er, Hid (readErr x = er) := ⟨_, rfl⟩
      obtain ⟨nn, hnn⟩ : ∃ nn, Hid (rdn x = nn) := ⟨_, rfl⟩
      obtain ⟨ws, hws⟩ : ∃ ws, Hid (rdw x = ws) := ⟨_, rfl⟩
      obtain ⟨ln, hln⟩ : ∃ ln, Hid (ws.length = ln) := ⟨_, rfl⟩
      obtain ⟨i0, hi, hz0, hz1, hz4⟩ := info_parts inf39
      obtain ⟨j0, hj, hy0, hy1, hy4⟩ := info_parts inf9
      rw [her.out, hnn.out, hws.out, hln.out] at R3 y0 y1 y2 c0 c1 CX HLN hW3 ⊢
      have hwl : Hid (w1.heap.size < w2.heap.size) := Nat.lt_of_lt_of_le R.out.lt hb2.size
      clear hb2 hst2 hpf hgk hL RD hgl hol hpk
      have R4 := fun X => Lib.hid (R3.out.next (below_alloc1 _ X))
      have HNL : Hid (some w1.heap.size ≠ vl.ownBlock) := fun e => by have := (HLN.out.row.lt _ e.symm).1; omega
      have HNO : Hid (some w1.heap.size ≠ vo.ownBlock) := fun e => by have := (HLN.out.oth.lt _ e.symm).1; omega
      by_cases he : er = 0
      · subst he
        go_wp2_with (at_builtin; refine wpList_append_own_at _ rfl (.tmp 24) (.tmp 27) 55 rfl (w1.heap.size + 1) 39 i0 (.agg #[.int .i64 0, .slice none 0 0]) 2 32 Tryz.underlying55 hi hz0 hz1 hz4 rfl (by decide) vl gs.length (flatG gs) rfl (HLN.out.row.alloc _) ⟨w2.heap.size + 1, 0, none⟩ 1 1 (flatG [(⟨nn, p, c, ws⟩ : GL)]) rfl rfl (by rw [← hln.out]; exact ln_new _ _ _ (by simp)) flatG_one HLm.out HLb.out (by have := hwl.out; simp; omega) ?_; intro v' w4 hown hgrow _ hat; obtain ⟨g', cap', rfl⟩ := ownsRow_succ hown; have hf4 := (World.frozen?_of_block (a := ⟨w1.heap.size, 0, none⟩) (hgrow.block _ (R4 _).out.lt HNL.out)).trans ((R4 _).out.fz 0); have hc4 := (World.cell?_of_block (a := ⟨w1.heap.size, 0, none⟩) (hgrow.block _ (R4 _).out.lt HNL.out)).trans (R4 _).out.c0; have HO := Lib.hid hown; have HG := Lib.hid hgrow; have HA := Lib.hid hat; clear hown hgrow hat)
        refine ⟨⟨k + 1, .slice (some ⟨g', 0, none⟩) (gs.length + 1) cap', vo, by omega, by go_num, ?_⟩, by simp [intOf]; omega⟩
        rw [HTK.out]
        exact RB.line (x := x) (p := p) (c := c) (R4 _).out HGK.out (HLN.out.below (below_alloc1 _ _)) her.out (by rw [hws.out]; exact hW3.out.grown (grown_al _ _) (fun _ _ _ _ _ e => by cases e)) (by rw [hnn.out, hws.out]; exact HO.out) HG.out HA.out
      · have he1 : ((er : Int) == 0) = false := by rw [beq_eq_false_iff_ne]; exact he
        have R6 := fun X => Lib.hid ((R4 X).out.next (Below.refl _ _).drew)
        have HL6 := fun X => Lib.hid ((HLN.out.below (below_alloc1 _ X)).below (Below.refl _ _).drew)
        have d1 := fun X => (R4 X).out.c1
        have cx1 := CX.out
        go_wp2_with fail
        go_region_law (refine step_append_own_at rfl (.tmp 31) (.tmp 36) 37 rfl (w1.heap.size + 1) 9 j0 (.string ⟨#[]⟩) 1 16 Tryz.underlying37 hj hy0 hy1 hy4 rfl (by decide) vo (otsOf (ps.take k)).length (strsV (otsOf (ps.take k))) rfl (HL6 _).out.oth ⟨w2.heap.size + 1, 0, none⟩ 1 1 (strsV [x]) rfl rfl (st_new_drew _ _ x (by simp)) strsV_one HOm.out HOb.out (by have := hwl.out; simp; omega) ?_; intro v' w4 hown hgrow hat _; obtain ⟨g', cap', rfl⟩ := ownsRow_succ hown; have hf4 := (World.frozen?_of_block (a := ⟨w1.heap.size, 1, none⟩) (hgrow.block _ (R6 _).out.lt HNO.out)).trans ((R6 _).out.fz 1); have hc4 := (World.cell?_of_block (a := ⟨w1.heap.size, 1, none⟩) (hgrow.block _ (R6 _).out.lt HNO.out)).trans (R6 _).out.c1; have HO := Lib.hid hown; have HG := Lib.hid hgrow; have HA := Lib.hid hat; clear hown hgrow hat)
        all_goals
          go_wp2
          go_roundw
          case rel =>
            refine ⟨k + 1, vl, .slice (some ⟨g', 0, none⟩) ((otsOf (ps.take k)).length + 1) cap', by omega, by go_num, ?_⟩
            rw [HTK.out]
            exact RB.other (x := x) (R6 _).out HGK.out (HL6 _).out (by rw [her.out]; exact he) HO.out HG.out HA.out
          case measure => simp [intOf]; omega
    · obtain rfl : k = N := by omega
      have hbw : w.heap.size < w1.heap.size := Y1.out.lt
      have c0 := R.out.c0
      have c1 := R.out.c1
      have r0 := (R.out.bel.cell (p := ⟨w.heap.size, 0, none⟩) hbw).trans Y1.out.c0
      have r1 := (R.out.bel.cell (p := ⟨w.heap.size, 1, none⟩) hbw).trans Y1.out.c1
      have f0 := (R.out.bel.frozen (p := ⟨w.heap.size, 0, none⟩) hbw).trans (Y1.out.fz 0)
      have f1 := (R.out.bel.frozen (p := ⟨w.heap.size, 1, none⟩) hbw).trans (Y1.out.fz 1)
      have HTK : Hid (ps.take k = ps) := List.take_of_length_le (by have := hN.out; omega)
      have BB : Hid (Below w.heap.size w wr) := Y1.out.bel.trans (R.out.bel.mono (Nat.le_of_lt hbw))
      have HB := Lib.hid hbw
      clear hbw
      obtain ⟨⟨q1, n1, c1', rfl⟩, q2, n2, c2', rfl⟩ := R.out.slices
      go_wp2_with fail
      refine bodyPost_ret (v := .agg #[.slice q1 n1 c1', .slice q2 n2 c2']) (by simp [results, Tryz.results41, go_sem, r0, r1]) rfl ?_
      refine ⟨_, _, rfl, ?_, ?_⟩
      · exact (BB.out.setCell (p := ⟨w.heap.size, 0, none⟩) (Nat.le_refl _) _).setCell (p := ⟨w.heap.size, 1, none⟩) (Nat.le_refl _) _
      · have hl := R.out.ln
        rw [HTK.out] at hl
        have hlt2 := HB.out
        refine LNP.mono (B := w1.heap.size + 1) ?_ (by omega)
        rw [HPS.out]
        exact ((hl.grown (grownBy_setCellAt wr w.heap.size 0 _) (fun r e => by cases e; exact Nat.lt_succ_of_lt hlt2)).grown (grownBy_setCellAt _ w.heap.size 1 _) (fun r e => by cases e; exact Nat.lt_succ_of_lt hlt2))
end Go.Proofs.YtmfhpddeclggfaaGreatDoor
