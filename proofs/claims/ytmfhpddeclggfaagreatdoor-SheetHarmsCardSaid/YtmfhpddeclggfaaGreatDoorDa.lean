import Derived.RangeFuncNested
import Derived.RangeFuncBound
import Derived.RangeFuncCalls
import Derived.RangeFuncLeaves
import Derived.Test.YtmfhpddeclggfaaGreatDoorCz
import Derived.RangeFuncBox
import Derived.Shelf.Abstract
import Derived.Shelf.RegionOpen
import Derived.OwnWalkIn
import Derived.TacticsInMore
import Derived.LoopNIn
import Derived.LoopIn
import Derived.Maps.AppendAt
import Derived.Maps.OwnIn
import Derived.RegionIn
import Derived.BigRegionIn
import Derived.Stop.RegionWithIn
import Derived.WalkKit
import Derived.LoopTactic
import Derived.WalkSpells
import Derived.WalkLawsBesides
import Derived.Lib.Hide
import Derived.BigQuiet
import Derived.IntWalk
import Derived.Deep.DeepMust
import Derived.WalkSmall
import Derived.StillTailTactics
import Derived.Deep.RegionLaw
import Derived.Deep.QuietTactic
import Derived.Deep.Cut
import Derived.Deep.DeepCutAuto
import Derived.Deep.LoopGhost
import Derived.Laws.AppendOwn
namespace Go.Proofs.YtmfhpddeclggfaaGreatDoor
open Go.RowKit
/-! The program's Lines. -/
open Go.Shelf
attribute [local go_sem] Oper.semAt_some
/-- Two boxes with slices, and what lies behind N. -/
structure SB (w W : World) (N : Nat) (vl vo : Value) (ps : List ByteArray) : Prop where
  bl : Boxed W w.heap.size 55 vl
  bo : Boxed W (w.heap.size + 1) 37 vo
  ln : LNP N W vl vo ps
  bel : Below w.heap.size w W
  le : N ≤ W.heap.size
theorem SB.below {w W W' : World} {N : Nat} {vl vo : Value} {ps : List ByteArray} (h : SB w W N vl vo ps) (hb : Below W.heap.size W W') : SB w W' N vl vo ps :=
  ⟨boxed_below h.bl hb h.bl.lt, boxed_below h.bo hb h.bo.lt, h.ln.below hb, h.bel.trans (hb.mono h.bel.size), Nat.le_trans h.le hb.size⟩
theorem SB.slices {w W : World} {N : Nat} {vl vo : Value} {ps : List ByteArray} (h : SB w W N vl vo ps) : (∃ q m c, vl = .slice q m c) ∧ ∃ q m c, vo = .slice q m c := by
  obtain ⟨gs, -, hL⟩ := h.ln
  exact ⟨own_slice hL.row, own_slice hL.oth⟩
theorem WdsAt.putObj {B : Nat} {W : World} {vl vo : Value} {p : Option Addr} {ws : List ByteArray} {l : Nat} {x : Option (List _)} (y : Obj) (h : WdsAt B W vl vo p ws) (hl : W.heap[l]? = some (.deferred x)) : WdsAt B (W.putObj l y) vl vo p ws := by
  rcases h with h | ⟨b, o, h1, h2, h3, h4, h5, h6⟩
  · exact .inl h
  · by_cases hz : ws = []
    · exact .inl hz
    · have h0 := h6 0 (List.length_pos_iff.2 hz)
      have hne : some b ≠ some l := fun e => by
        have e' : b = l := Option.some.inj e
        subst e'
        simp [World.cell?, hl] at h0
      have hg := grownBy_putObj' W l y
      exact .inr ⟨b, o, h1, h2, Nat.lt_of_lt_of_le h3 hg.size, h4, h5, fun j hj => (World.cell?_of_block (a := ⟨b, o + j, none⟩) (hg.block b h3 hne)).trans (h6 j hj)⟩
theorem LNP.putObj {B : Nat} {W : World} {vl vo : Value} {ps : List ByteArray} {l : Nat} {x : Option (List _)} (y : Obj) (h : LNP B W vl vo ps) (hl : W.heap[l]? = some (.deferred x)) : LNP B (W.putObj l y) vl vo ps := by
  obtain ⟨gs, h1, h2⟩ := h
  exact ⟨gs, h1, ownsRow_putObj h2.row y hl rfl, ownsRow_putObj h2.oth y hl rfl, fun g hg => (h2.wds g hg).putObj y hl⟩
theorem SB.line {w W W' : World} {N : Nat} {vl vo v' : Value} {ps : List ByteArray} {gs : List GL} {x : ByteArray} {p : Option Addr} {c : Nat} (h : SB w W N vl vo ps) (hN : w.heap.size + 1 < N) (hk : gs.map glKey = (lnsOf ps).map rdKey) (hL : LN N W vl vo gs (otsOf ps)) (hx : readErr x = 0)
    (hw : WdsAt N W vl vo p (rdw x)) (hown : W'.ownsRow N 39 2 v' (gs.length + 1) (flatG gs ++ flatG [(⟨rdn x, p, c, rdw x⟩ : GL)])) (hgr : W.grownBy W' vl.ownBlock) (hat : v'.ownBlock = vl.ownBlock ∨ v'.ownBlock = some W.heap.size) : SB w (W'.setCell ⟨w.heap.size, 0, none⟩ v') N v' vo (ps ++ [x]) := by
  have hlt : ∀ k, vl.ownBlock = some k → N ≤ k := fun k e => (hL.row.lt _ e).1
  obtain ⟨e1, e2⟩ := LNP.key_line hk hx p c
  refine ⟨(h.bl.kept hgr (fun e => by have := hlt _ e.symm; omega)).set _, (h.bo.kept hgr (fun e => by have := hlt _ e.symm; omega)).kept (grownBy_setCellAt W' w.heap.size 0 _) (fun e => by have := Option.some.inj e; omega), ⟨gs ++ [⟨rdn x, p, c, rdw x⟩], e1, ?_⟩, ?_, ?_⟩
  · rw [e2]
    exact (hL.line (g := ⟨rdn x, p, c, rdw x⟩) hw hown hgr hat).grown (grownBy_setCellAt W' w.heap.size 0 _) (fun r e => by cases e; omega)
  · exact (h.bel.grown hgr h.bel.size (fun k e => by have := hlt k e; omega)).setCell (p := ⟨w.heap.size, 0, none⟩) (Nat.le_refl _) _
  · rw [World.size_setCell]; exact Nat.le_trans h.le hgr.size
theorem SB.other {w W W' : World} {N : Nat} {vl vo v' : Value} {ps : List ByteArray} {gs : List GL} {x : ByteArray} (h : SB w W N vl vo ps) (hN : w.heap.size + 1 < N) (hk : gs.map glKey = (lnsOf ps).map rdKey) (hL : LN N W vl vo gs (otsOf ps)) (hx : readErr x ≠ 0)
    (hown : W'.ownsRow N 9 1 v' ((otsOf ps).length + 1) (strsV (otsOf ps) ++ strsV [x])) (hgr : W.grownBy W' vo.ownBlock) (hat : v'.ownBlock = vo.ownBlock ∨ v'.ownBlock = some W.heap.size) : SB w (W'.setCell ⟨w.heap.size + 1, 0, none⟩ v') N vl v' (ps ++ [x]) := by
  have hlt : ∀ k, vo.ownBlock = some k → N ≤ k := fun k e => (hL.oth.lt _ e).1
  obtain ⟨e1, e2⟩ := LNP.key_other hk hx
  refine ⟨(h.bl.kept hgr (fun e => by have := hlt _ e.symm; omega)).kept (grownBy_setCellAt W' (w.heap.size + 1) 0 _) (fun e => by have := Option.some.inj e; omega), (h.bo.kept hgr (fun e => by have := hlt _ e.symm; omega)).set _, ⟨gs, e1, ?_⟩, ?_, ?_⟩
  · rw [e2]
    exact (hL.other hown hgr hat).grown (grownBy_setCellAt W' (w.heap.size + 1) 0 _) (fun r e => by cases e; omega)
  · exact (h.bel.grown hgr h.bel.size (fun k e => by have := hlt k e; omega)).setCell (p := ⟨w.heap.size + 1, 0, none⟩) (Nat.le_succ _) _
  · rw [World.size_setCell]; exact Nat.le_trans h.le hgr.size
set_option maxRecDepth 100000 in
set_option maxHeartbeats 4000000 in
theorem sLines (s : ByteArray) (w : World) (hs : s.size ≤ 1000000) (he : Env w) : Calls Tryz.prog 40 #[.string s] w fun e w' => ∃ vl vo, e = .returned (.tuple #[vl, vo]) ∧ Below w.heap.size w w' ∧ LNP w.heap.size w' vl vo (partsN s) := by
  refine (callsIn_wide (n := 9)).1 ?_
  refine callsIn_of_wp_marks Tryz.func40 rfl trivial ?_ rfl
  simp only [Tryz.ntmps40, List.size_toArray, List.length_cons, List.length_nil, Nat.reduceAdd, Nat.reduceSub, Array.replicate_succ, Array.replicate_zero, List.push_toArray, List.append_toArray, List.nil_append, List.cons_append]
  have HE := Lib.hid he
  have h8 := he.size
  have HS := Lib.hid hs
  clear he hs
  gi_wp2_with (refine ⟨trivial, ?_⟩; gi_at_call 97; refine (callsIn_wide.2 (pieces0 s _)).mono ?_; rintro e w' ⟨rfl, rfl⟩)
  obtain ⟨Wl, hWl⟩ : ∃ Wl, ((w.alloc (.cells #[.slice none 0 0] 55)).alloc (.cells #[.slice none 0 0] 37)).alloc (.cells #[.string s] 9) = Wl := ⟨_, rfl⟩
  have hsz : Wl.heap.size = w.heap.size + 3 := by rw [← hWl]; simp
  have hby : Below w.heap.size w Wl := by rw [← hWl]; exact ((below_alloc1 w _).alloc (by simp) _).alloc (by simp; omega) _
  have hbx : Boxed Wl w.heap.size 55 (.slice none 0 0) := by rw [← hWl]; exact ((Boxed.new w 55 _).alloc _).alloc _
  have hbo : Boxed Wl (w.heap.size + 1) 37 (.slice none 0 0) := by
    have := (Boxed.new (w.alloc (.cells #[.slice none 0 0] 55)) 37 (.slice none 0 0)).alloc (.cells #[.string s] 9)
    rw [World.size_alloc] at this
    rw [← hWl]; exact this
  have hcs : Wl.cell? ⟨w.heap.size + 1 + 1, 0, none⟩ = some (.string s) := by
    have := Boxed.cell (Boxed.new ((w.alloc (.cells #[.slice none 0 0] 55)).alloc (.cells #[.slice none 0 0] 37)) 9 (.string s))
    rw [World.size_alloc, World.size_alloc] at this
    rw [← hWl]; exact this
  rw [hWl]
  clear hWl
  refine wpIn_range_N rfl (by omega) (by decide) (gf := 133) (lb := #[.pointer (some ⟨w.heap.size + 1 + 1, 0, none⟩)]) rfl trivial (enters_of Tryz.func133 (by kernel_rfl) rfl)
    (enc := Value.string) (xs := partsN s) (fun W hb => pieces1 8 (by decide) (w.heap.size + 1 + 1) s HS.out W (HE.out.next (hby.trans (hb.mono (by omega)))) ((hb.cell (p := ⟨w.heap.size + 1 + 1, 0, none⟩) (by show w.heap.size + 1 + 1 < _; omega)).trans hcs) (by have := hb.size; omega)) rfl
    (fun N pre W => ∃ vl vo, SB w W N vl vo pre) (fun _ _ _ => False) ?_ (fun _ _ _ _ _ h => h.elim) ?_
    (fun x => { tmps := #[Value.string s, undef, Value.slice none 0 0, Value.slice none 0 0, Value.pointer (some { block := w.heap.size, off := 0 }), Value.pointer (some { block := w.heap.size + 1, off := 0 }), Value.string x, undef, undef, Value.string s,
          Value.func (Fn.func 133) #[] #[Value.pointer (some { block := w.heap.size + 1 + 1, off := 0 })], Value.string x,
          undef, undef, undef, undef, undef, undef, undef, undef, undef, undef, undef, undef, undef, undef, undef, undef, undef], defers := [] }) ?assign ?body ?done (fun _ _ _ _ _ h => h.elim)
  · rintro N p A B row ⟨vl, vo, hv, ho, hl, hb, hNs⟩ hg hrow
    refine ⟨vl, vo, hv.kept hg (fun e => by have := hrow _ e.symm; omega), ho.kept hg (fun e => by have := hrow _ e.symm; omega), ?_, hb.grown hg (by have := hb.size; omega) (fun k e => by have := hrow _ e; omega), Nat.le_trans hNs hg.size⟩
    exact hl.grown hg (fun r e => (hrow r e).2)
  · intro N W hb _ hNs
    exact ⟨_, _, boxed_below hbx hb (by omega), boxed_below hbo hb (by omega), LNP.nil _ _, hby.trans (hb.mono (by omega)), hNs⟩
  case assign =>
    intro l2 x W K hK
    gi_wp2
    exact hK
  case body =>
    rintro l2 N pre x W hN ⟨vl, vo, hSB⟩ hpre
    have hxs : x.size ≤ 1000000 := Nat.le_trans (partsN_size (hpre.subset (by simp))) HS.out
    have CR := sReadF x W hxs (HE.out.next hSB.bel)
    have HSB := Lib.hid hSB
    gi_wp2_with (refine ⟨trivial, ?_⟩; gi_at_call 33; refine (CallsIn.inRound l2 (callsIn_wide.2 CR)).mono ?_; rintro e w2 ⟨p, c, rfl, hb2, hst2, hpf⟩; have HB2 := Lib.hid hb2; have HST2 := Lib.hid hst2; have HPF := Lib.hid hpf; clear CR hb2 hst2 hpf; (refine (fun (h : Hid ((42 : Nat) = 42) → _) => h rfl) ?_))
    intro _
    have S3 := Lib.hid ((HSB.out.below HB2.out).below (below_alloc1 w2 (.cells #[.int .i64 (rdn x), .slice p (rdw x).length c] 39)))
    have S4 := fun X => Lib.hid (S3.out.below (below_alloc1 _ X))
    obtain ⟨gs, hgk, hL⟩ := S3.out.ln
    have hW3 : Hid (WdsAt N (w2.alloc (.cells #[.int .i64 (rdn x), .slice p (rdw x).length c] 39)) vl vo p (rdw x)) := by
      obtain ⟨gs0, -, hL0⟩ := HSB.out.ln
      exact WdsAt.mk (HST2.out.below (below_alloc1 _ _)) HPF.out HSB.out.le (fun k e => (hL0.row.lt k e).2) (fun k e => (hL0.oth.lt k e).2)
    have y0 : (w2.alloc (.cells #[.int .i64 (rdn x), .slice p (rdw x).length c] 39)).cell? ⟨w2.heap.size, 0, none⟩ = some (.int .i64 (rdn x)) := nw_at w2 _ 39 0 _ rfl
    have y1 : (w2.alloc (.cells #[.int .i64 (rdn x), .slice p (rdw x).length c] 39)).cell? ⟨w2.heap.size, 1, none⟩ = some (.slice p (rdw x).length c) := nw_at w2 _ 39 1 _ rfl
    have hc3 := S3.out.bl.cell
    have ho3 := S3.out.bo.cell
    have HGK := Lib.hid hgk
    have HLN := Lib.hid hL
    have hgl := gl_len hgk
    have hol := ot_len pre
    have hpk : pre.length ≤ 1000001 := by
      have h2 := hpre.length_le
      have h3 := partsN_len s
      have h5 := HS.out
      rw [List.length_append] at h2
      omega
    have HLm : Hid (gs.length + 1 ≤ maxLen) := by unfold Hid maxLen; omega
    have HLb : Hid ((gs.length + 1) * 32 ≤ 140737488355328) := by unfold Hid; omega
    have HOm : Hid ((otsOf pre).length + 1 ≤ maxLen) := by unfold Hid maxLen; omega
    have HOb : Hid (((otsOf pre).length + 1) * 16 ≤ 140737488355328) := by unfold Hid; omega
    obtain ⟨er, her⟩ : ∃ er, Hid (readErr x = er) := ⟨_, rfl⟩
    obtain ⟨nn, hnn⟩ : ∃ nn, Hid (rdn x = nn) := ⟨_, rfl⟩
    obtain ⟨ws, hws⟩ : ∃ ws, Hid (rdw x = ws) := ⟨_, rfl⟩
    obtain ⟨ln, hln⟩ : ∃ ln, Hid (ws.length = ln) := ⟨_, rfl⟩
    obtain ⟨i0, hi, hz0, hz1, hz4⟩ := info_parts inf39
    obtain ⟨j0, hj, hy0, hy1, hy4⟩ := info_parts inf9
    rw [hnn.out, hws.out, hln.out] at S3 y0 y1 hc3 ho3 HLN hW3 S4
    rw [her.out, hnn.out, hws.out, hln.out]
    have hNw : w.heap.size + 1 < N := by omega
    have hlt1 : ∀ k, vl.ownBlock = some k → N ≤ k := fun k e => (HLN.out.row.lt _ e).1
    have hlt2 : ∀ k, vo.ownBlock = some k → N ≤ k := fun k e => (HLN.out.oth.lt _ e).1
    have HT1 := Lib.hid hlt1
    have HT2 := Lib.hid hlt2
    have s2 : Hid (W.heap.size ≤ w2.heap.size) := HB2.out.size
    have s0 : Hid (N ≤ W.heap.size) := HSB.out.le
    clear hgl hol hpk hgk hL hlt1 hlt2 hSB hpre
    have hne1 : Hid (some w.heap.size ≠ vl.ownBlock) := fun e => by have := HT1.out _ e.symm; omega
    have hne2 : Hid (some (w.heap.size + 1) ≠ vo.ownBlock) := fun e => by have := HT2.out _ e.symm; omega
    obtain ⟨W3, hW⟩ : ∃ W3, Hid (w2.alloc (.cells #[.int .i64 nn, .slice p ln c] 39) = W3) := ⟨_, rfl⟩
    obtain ⟨g3, hg3⟩ : ∃ g3, Hid (w2.heap.size = g3) := ⟨_, rfl⟩
    have hz3 : Hid (W3.heap.size = g3 + 1) := by rw [← hW.out, ← hg3.out]; unfold Hid; simp
    have hst3 : Hid (Stay (Ev (fun k => Wl.heap.size ≤ k ∧ k < N)) W W3) := fun k hk => by
      have hkN : k < N := by rcases hk with h | h <;> omega
      have h1 := s0.out
      have h2 := s2.out
      rw [← hW.out]
      exact (Below.heap_alloc _ _ k (by omega)).trans (HB2.out.block k (by omega))
    have s3 : Hid (N ≤ W3.heap.size) := by rw [← hW.out]; exact S3.out.le
    by_cases he : er = 0
    · subst he
      clear S4
      gi_wp2_with (gi_at_builtin; refine wpListIn_append_own_at _ rfl (.tmp 19) (.tmp 21) 55 rfl N 39 i0 (.agg #[.int .i64 0, .slice none 0 0]) 2 32 Tryz.underlying55 hi hz0 hz1 hz4 rfl (by decide) vl gs.length (flatG gs) rfl (HLN.out.row.alloc _) ⟨w2.heap.size + 1, 0, none⟩ 1 1 (flatG [(⟨nn, p, c, ws⟩ : GL)]) rfl rfl (by rw [← hln.out]; exact ln_new _ _ _ (by simp)) flatG_one HLm.out HLb.out (by have h1 := s0.out; have h2 := s2.out; simp; omega) ?_; intro v' w4 hown hgrow _ hat; obtain ⟨g', cap', rfl⟩ := ownsRow_succ hown; have hv4 := Lib.hid ((S3.out.bl.alloc _).kept hgrow hne1.out); have hc4 := hv4.out.cell; have hf4 := hv4.out.frozen; have HO := Lib.hid hown; have HG := Lib.hid hgrow; have HA := Lib.hid hat; clear hown hgrow hat)
      have h0 := s0.out
      have h2 := s2.out
      have h4 := HG.out.size
      simp only [World.size_alloc] at h4
      refine ⟨fun k hk => ?_, _, _, SB.line (x := x) (p := p) (c := c) (S3.out.below (below_alloc1 _ _)) hNw HGK.out (HLN.out.below (below_alloc1 _ _)) her.out (by rw [hws.out]; exact hW3.out.grown (grown_al _ _) (fun _ _ _ _ _ e => by cases e)) (by rw [hnn.out, hws.out]; exact HO.out) HG.out HA.out⟩
      have hkN : k < N := by rcases hk with h | h <;> omega
      have hkw : k ≠ w.heap.size := by rcases hk with h | h <;> omega
      refine ((grownBy_setCellAt w4 (w.heap.size) 0 _).block k (by omega) (fun e => hkw (Option.some.inj e))).trans ?_
      refine (HG.out.block k (by simp only [World.size_alloc]; omega) (fun e => by have := HT1.out k e.symm; omega)).trans ?_
      refine (Below.heap_alloc _ _ k (by simp only [World.size_alloc]; omega)).trans ?_
      have := hst3.out k hk
      rw [← hW.out] at this
      exact this
    · have he1 : ((er : Int) == 0) = false := by rw [beq_eq_false_iff_ne]; exact he
      clear S4
      gi_wp2_with (gi_at_builtin; refine wpListIn_append_own_at _ rfl (.tmp 23) (.tmp 25) 37 rfl N 9 j0 (.string ⟨#[]⟩) 1 16 Tryz.underlying37 hj hy0 hy1 hy4 rfl (by decide) vo (otsOf pre).length (strsV (otsOf pre)) rfl (HLN.out.oth.alloc _) ⟨w2.heap.size + 1, 0, none⟩ 1 1 (strsV [x]) rfl rfl (st_new _ _ x (by simp)) strsV_one HOm.out HOb.out (by have h1 := s0.out; have h2 := s2.out; simp; omega) ?_; intro v' w4 hown hgrow _ hat; obtain ⟨g', cap', rfl⟩ := ownsRow_succ hown; have hv4 := Lib.hid ((S3.out.bo.alloc _).kept hgrow hne2.out); have hc4 := hv4.out.cell; have hf4 := hv4.out.frozen; have HO := Lib.hid hown; have HG := Lib.hid hgrow; have HA := Lib.hid hat; clear hown hgrow hat)
      have h0 := s0.out
      have h2 := s2.out
      have h4 := HG.out.size
      simp only [World.size_alloc] at h4
      refine ⟨fun k hk => ?_, _, _, SB.other (x := x) (S3.out.below (below_alloc1 _ _)) hNw HGK.out (HLN.out.below (below_alloc1 _ _)) (by rw [her.out]; exact he) HO.out HG.out HA.out⟩
      have hkN : k < N := by rcases hk with h | h <;> omega
      have hkw : k ≠ w.heap.size + 1 := by rcases hk with h | h <;> omega
      refine ((grownBy_setCellAt w4 (w.heap.size + 1) 0 _).block k (by omega) (fun e => hkw (Option.some.inj e))).trans ?_
      refine (HG.out.block k (by simp only [World.size_alloc]; omega) (fun e => by have := HT2.out k e.symm; omega)).trans ?_
      refine (Below.heap_alloc _ _ k (by simp only [World.size_alloc]; omega)).trans ?_
      have := hst3.out k hk
      rw [← hW.out] at this
      exact this
  case done =>
    rintro N W hN ⟨vl, vo, h⟩ hK
    obtain ⟨⟨q1, n1, c1', rfl⟩, q2, n2, c2', rfl⟩ := h.slices
    have hc := h.bl.cell
    have hc2 := h.bo.cell
    have HB := Lib.hid h
    have HK := Lib.hid hK
    clear h hK
    gi_wp2
    gi_region
    all_goals
      gi_wp2
      refine ⟨by simp, .inl ⟨_, _, rfl, run_takeDeferred HK.out, ?_⟩⟩
      refine ⟨.tuple #[.slice q1 n1 c1', .slice q2 n2 c2'], by simp [results, Tryz.results40, go_sem], _, _, rfl, ?_, ?_⟩
      · exact (HB.out.bel.drew).grown (grownBy_putObj' W.drew _ _) HB.out.bel.size (fun k e => by cases e; omega)
      · exact ((HB.out.ln.below (Below.refl _ _).drew).putObj _ HK.out).mono (by omega)
end Go.Proofs.YtmfhpddeclggfaaGreatDoor
