import Derived.Test.YtcejmfgbfdhflaaGreatCi
import Derived.WalkKit
import Derived.LoopTactic
import Derived.WalkSpells
import Derived.WalkLawsBesides
import Derived.Lib.Hide
import Derived.BigQuiet
import Derived.IntWalk
import Derived.Deep.DeepMust
import Derived.WalkSmall
import Derived.StillTailTactics
import Derived.Deep.RegionLaw
import Derived.Deep.RegionHeld3
import Derived.Deep.QuietTactic
namespace Go.Proofs.YtcejmfgbfdhflaaGreat
open Go.RowKit Go.Shelf Go.BigFrame Go.Sort
attribute [local go_sem] World.cell?_alloc_some
theorem inf148 : (Tryz.prog.info? 148).map (fun i => (i.zero, i.size, i.bytes)) = some (some .nilIface, 1, 16) := by kernel_rfl
/-- One thing more. -/
theorem appT {B : Nat} {v : Value} {l : List (Value × Th)} {W : World} (hP : OT W B v l) (h0 : 0 < l.length) (hw : B ≤ W.heap.size) (u : Value) (t : Th) (ht : ThAt W u t) (hl : l.length ≤ 1000000) {ops : Array Oper} {rest : List Oper} {o : Oper} {a : Act} {Q : Exit → Act → World → Prop} (hgd : o.guard = none) (s y : Operand)
    (ho : o.op = .call { callee := .builtin .append, args := #[s, y], argTypes := #[109, 109] }) (hs : a.eval s = v) (hx : a.eval y = .slice (some ⟨W.heap.size, 0, none⟩) 1 1)
    (h : ∀ v' w', OT w' B v' (l ++ [(u, t)]) → W.grownBy w' v.ownBlock → wpList Tryz.prog ops Q rest (a.put o.dst v') w') : wpList Tryz.prog ops Q (o :: rest) a (W.alloc (.cells #[u] 148)) := by
  obtain ⟨i0, hi, hz0, hz1, hz2⟩ := info_parts inf148
  obtain ⟨ty, uu, rfl⟩ := ht.iface
  refine wpList_append_own _ hgd s y 109 ho B 148 i0 .nilIface 1 16 Tryz.underlying109 hi hz0 hz1 hz2 rfl (by decide) v l.length (l.map (·.1)) hs (hP.own.alloc _) ⟨W.heap.size, 0, none⟩ 1 1 [.iface ty uu] hx rfl ?_ ?_ ?_ ?_ ?_ ?_
  · intro j u hu
    match j, hu with
    | 0, hu =>
      obtain rfl : Value.iface ty uu = u := by simpa using hu
      exact new_at W _ 148 0 _ rfl
  · intro u hu; obtain rfl : u = .iface ty uu := by simpa using hu
    rfl
  · unfold maxLen; omega
  · omega
  · simp; omega
  · intro v' w' ho' hg _
    have hG : W.grownBy w' v.ownBlock := ⟨hg.os, hg.tape, hg.output, by have := hg.size; simp at this; omega, fun k hk hne => (hg.block k (by simp; omega) hne).trans (Below.heap_alloc W _ k hk)⟩
    refine h v' w' ⟨?_, fun p hp => ?_⟩ hG
    · rw [List.length_append, List.map_append]; exact ho'
    · rcases List.mem_append.1 hp with hp | hp
      · exact (hP.at' p hp).grownG hG (hP.first h0)
      · obtain rfl : p = (.iface ty uu, t) := by simpa using hp
        exact ht.grownG hG (hP.first h0)
def Ch.th (c : Ch) : Th := ⟨0, c.year, c.lo, c.hi⟩
def Pf.th (p : Pf) : Th := ⟨p.id, p.year, p.lo, p.hi⟩
/-- The making and the repairs of a chain. -/
def begs (rs : List Pf) (c : Ch) : List Th := c.th :: (rs.filter fun r => r.ch == c.id).map Pf.th
theorem begs_step (rs : List Pf) (c : Ch) (k : Nat) (h : k < rs.length) : begs (rs.take (k + 1)) c = begs (rs.take k) c ++ (if rs[k].ch == c.id then [rs[k].th] else []) := by
  unfold begs
  rw [take_snocG rs k h, List.filter_append, List.map_append]
  by_cases e : (rs[k].ch == c.id) = true
  · simp [e]
  · simp [e]
theorem ThAt.new {W : World} (p : Pf) (e : TypeId) (ty : TypeId) (h : ty = 220 ∨ ty = 244) : ThAt (W.alloc (.cells #[.int .i64 p.id, .int .i64 p.ch, .int .i64 p.year, .int .i64 p.lo, .int .i64 p.hi] e)) (.iface ty (.pointer (some ⟨W.heap.size, 0, none⟩))) p.th :=
  .inr ⟨W.heap.size, p.ch, ty, h, rfl, cs_blk W #[.int .i64 p.id, .int .i64 p.ch, .int .i64 p.year, .int .i64 p.lo, .int .i64 p.hi] e _ 0 rfl⟩
theorem OT.one {W : World} (u : Value) (t : Th) (ht : ThAt W u t) (B : Nat) (hB : B ≤ W.heap.size) : OT (W.alloc (.cells #[u] 148)) B (.slice (some ⟨W.heap.size, 0, none⟩) 1 1) [(u, t)] :=
  ⟨⟨rfl, .inr ⟨W.heap.size, 1, #[u], rfl, hB, by show (W.heap.push _)[W.heap.size]? = _; simp, Nat.le_refl _, by unfold maxLen; omega, rfl, rfl⟩⟩, fun p hp => by
    obtain rfl : p = (u, t) := by simpa using hp
    exact ht.keep (below_al _ _)⟩
theorem OT.sh {W : World} {B : Nat} {v : Value} {l : List (Value × Th)} (h : OT W B v l) (h0 : 0 < l.length) : ∃ g cap, v = .slice (some ⟨g, 0, none⟩) l.length cap ∧ B ≤ g ∧ g < W.heap.size ∧ l.length ≤ cap ∧ cap ≤ maxLen := by
  obtain ⟨_, ⟨_, h2⟩ | ⟨g, cap, cur, rfl, hg, hc, h3, h4, h5, h6⟩⟩ := h.own
  · omega
  · exact ⟨g, cap, rfl, hg, (Array.getElem?_eq_some_iff.1 hc).1, h3, h4⟩
set_option maxRecDepth 100000 in
set_option maxHeartbeats 6400000 in
theorem beginnings_any (x : WA) (c : Ch) (w : World) (h : x.At w) :
    Calls Tryz.prog 176 #[x.v, c.v] w fun e w' => (∃ g cap m, e = .returned (.slice (some ⟨g, 0, none⟩) m cap) ∧ ∃ l : List (Value × Th), l.length = m ∧ 0 < m ∧ m ≤ cap ∧ cap ≤ maxLen ∧ (l.map (·.2)).Perm (begs x.rs c) ∧ l.Pairwise (fun a b => a.2.year ≤ b.2.year) ∧ OT w' (w.heap.size + 1 + 1) (.slice (some ⟨g, 0, none⟩) m cap) l) ∧ Below w.heap.size w w' := by
  have n3 := h.n3
  have H := Lib.hid h.rs
  clear h
  obtain ⟨cs, ps, rs, q1, q2, q3, c1, c2, c3⟩ := x
  simp only [WA.v] at *
  go_enter Tryz.func176, Tryz.ntmps176
  go_wp2_with fail
  obtain ⟨W0, hW0⟩ : ∃ W0, ((w.alloc (.cells #[.slice q1 cs.length c1, .slice q2 ps.length c2, .slice q3 rs.length c3] 26)).alloc (.cells #[.int .i64 c.id, .int .i64 c.year, .int .i64 c.lo, .int .i64 c.hi, .int .i64 c.wear] 90)) = W0 := ⟨_, rfl⟩
  have S0 : St w W0 [(w.heap.size + 1, 0, .int .i64 c.id), (w.heap.size + 1, 1, .int .i64 c.year), (w.heap.size + 1, 2, .int .i64 c.lo), (w.heap.size + 1, 3, .int .i64 c.hi), (w.heap.size + 1, 4, .int .i64 c.wear), (w.heap.size, 0, .slice q1 cs.length c1), (w.heap.size, 1, .slice q2 ps.length c2), (w.heap.size, 2, .slice q3 rs.length c3)] := by
    rw [← hW0]; exact ((St.nil w).box #[.slice q1 cs.length c1, .slice q2 ps.length c2, .slice q3 rs.length c3] 26 _ rfl).box #[.int .i64 c.id, .int .i64 c.year, .int .i64 c.lo, .int .i64 c.hi, .int .i64 c.wear] 90 (w.heap.size + 1) (by simp)
  have hz : W0.heap.size = w.heap.size + 1 + 1 := by rw [← hW0]; simp
  have O0 : OT (W0.alloc (.cells #[.iface 249 (.agg #[.int .i64 c.id, .int .i64 c.year, .int .i64 c.lo, .int .i64 c.hi, .int .i64 c.wear])] 148)) (w.heap.size + 1 + 1) (.slice (some ⟨w.heap.size + 1 + 1, 0, none⟩) 1 1) [(.iface 249 (.agg #[.int .i64 c.id, .int .i64 c.year, .int .i64 c.lo, .int .i64 c.hi, .int .i64 c.wear]), c.th)] := by
    have := OT.one (W := W0) (.iface 249 (.agg #[.int .i64 c.id, .int .i64 c.year, .int .i64 c.lo, .int .i64 c.hi, .int .i64 c.wear])) c.th (.inl ⟨_, _, rfl, rfl⟩) (w.heap.size + 1 + 1) (by omega)
    rwa [hz] at this
  have S1 := S0.al (.cells #[.iface 249 (.agg #[.int .i64 c.id, .int .i64 c.year, .int .i64 c.lo, .int .i64 c.hi, .int .i64 c.wear])] 148)
  rw [hW0]
  clear hW0 hz S0
  have HS0 := Lib.hid S1
  have HO0 := Lib.hid O0
  clear S1 O0
  go_loopw [5, 15] (fun v i wr => ∃ (k : Nat) (l : List (Value × Th)), St w wr [(w.heap.size + 1, 0, .int .i64 c.id), (w.heap.size + 1, 1, .int .i64 c.year), (w.heap.size + 1, 2, .int .i64 c.lo), (w.heap.size + 1, 3, .int .i64 c.hi), (w.heap.size + 1, 4, .int .i64 c.wear), (w.heap.size, 0, .slice q1 cs.length c1), (w.heap.size, 1, .slice q2 ps.length c2), (w.heap.size, 2, .slice q3 rs.length c3)] ∧ OT wr (w.heap.size + 1 + 1) v l ∧ l.map (·.2) = begs (rs.take k) c ∧ 0 < l.length ∧ l.length ≤ k + 1 ∧ i = .int .i64 (k : Int) ∧ k ≤ rs.length) (fun v i wr => rs.length - (intOf i).toNat)
  case atStart => exact ⟨0, _, HS0.out, HO0.out, rfl, Nat.one_pos, Nat.le_refl _, rfl, Nat.zero_le _⟩
  case round =>
    obtain ⟨k, l, hS, hO, hl, h0, hl2, rfl, hk⟩ := hrel
    have HS := Lib.hid hS
    have HO := Lib.hid hO
    have HL := Lib.hid hl
    clear hO hl HO0 HS0
    obtain ⟨g0, g1, g2, g3, g4, g5, g6, g7, -⟩ := hS.c
    obtain ⟨-, g0, -⟩ := g0
    obtain ⟨-, g1, -⟩ := g1
    obtain ⟨-, g2, -⟩ := g2
    obtain ⟨-, g3, -⟩ := g3
    obtain ⟨-, g4, -⟩ := g4
    obtain ⟨-, g5, -⟩ := g5
    obtain ⟨-, g6, -⟩ := g6
    obtain ⟨hsz, g7, -⟩ := g7
    have hsz2 : w.heap.size + 1 < wr.heap.size := hS.c.1.1
    by_cases hlt : k < rs.length
    · rcases H.out with h0' | ⟨b, o, rfl, hb, hc⟩
      · exact absurd hlt (by simp [h0'])
      obtain ⟨c1, c2, c3, c4, c5⟩ := hc k rs[k] (List.getElem?_eq_getElem hlt)
      have b1 := (hS.b.cell (p := ⟨b, o + k * 5, none⟩) hb).trans c1
      have b2 := (hS.b.cell (p := ⟨b, o + k * 5 + 1, none⟩) hb).trans c2
      have b3 := (hS.b.cell (p := ⟨b, o + k * 5 + 2, none⟩) hb).trans c3
      have b4 := (hS.b.cell (p := ⟨b, o + k * 5 + 3, none⟩) hb).trans c4
      have b5 := (hS.b.cell (p := ⟨b, o + k * 5 + 4, none⟩) hb).trans c5
      have HN := Lib.hid (begs_step rs c k hlt)
      obtain ⟨p, hp⟩ : ∃ p, rs[k] = p := ⟨_, rfl⟩
      rw [hp] at b1 b2 b3 b4 b5 HN
      have hlt' : (k : Int) < (rs.length : Int) := by omega
      clear c1 c2 c3 c4 c5 hc hb hS hp
      by_cases he : p.ch = c.id
      · have e1 : (p.ch == c.id) = true := by simpa using he
        clear he
        rw [e1] at HN
        have HT : Hid (ThAt ((wr.alloc (.cells #[.int .i64 p.id, .int .i64 p.ch, .int .i64 p.year, .int .i64 p.lo, .int .i64 p.hi] 104)).alloc (.cells #[.int .i64 p.id, .int .i64 p.ch, .int .i64 p.year, .int .i64 p.lo, .int .i64 p.hi] 245)) (.iface 244 (.pointer (some ⟨wr.heap.size + 1, 0, none⟩))) p.th) := by
          have := ThAt.new (W := wr.alloc (.cells #[.int .i64 p.id, .int .i64 p.ch, .int .i64 p.year, .int .i64 p.lo, .int .i64 p.hi] 104)) p 245 244 (.inr rfl)
          rwa [World.size_alloc] at this
        have HSz : Hid (w.heap.size + 1 + 1 ≤ ((wr.alloc (.cells #[.int .i64 p.id, .int .i64 p.ch, .int .i64 p.year, .int .i64 p.lo, .int .i64 p.hi] 104)).alloc (.cells #[.int .i64 p.id, .int .i64 p.ch, .int .i64 p.year, .int .i64 p.lo, .int .i64 p.hi] 245)).heap.size) := by unfold Hid; simp; omega
        have HLn : Hid (l.length ≤ 1000000) := by unfold Hid; omega
        have hx : ((wr.alloc (.cells #[.int .i64 p.id, .int .i64 p.ch, .int .i64 p.year, .int .i64 p.lo, .int .i64 p.hi] 104)).alloc (.cells #[.int .i64 p.id, .int .i64 p.ch, .int .i64 p.year, .int .i64 p.lo, .int .i64 p.hi] 245)).heap.size = wr.heap.size + 1 + 1 := by simp
        have HX := Lib.hid hx
        clear hx
        go_wp2_with (at_builtin; refine appT (HO.out.keep ((below_al _ _).trans ((below_al _ _).mono (by simp)))) h0 HSz.out (.iface 244 (.pointer (some ⟨wr.heap.size + 1, 0, none⟩))) p.th HT.out HLn.out rfl _ _ rfl rfl (by rw [HX.out]; rfl) ?_; intro v' w2 hO2 hg2)
        have HO2 := Lib.hid hO2
        have HG2 := Lib.hid hg2
        clear hO2 hg2
        go_roundw
        case rel => exact ⟨k + 1, _, ((HS.out.al _).al _).grown (HO.out.keep ((below_al _ _).trans ((below_al _ _).mono (by simp)))).own HG2.out (by omega) (by simp; omega), HO2.out, by rw [List.map_append, HL.out, HN.out]; rfl, by simp, by simp; omega, by simp, hlt⟩
        case measure => simp [intOf]; omega
      · have e1 : (p.ch == c.id) = false := by simpa using he
        clear he
        rw [e1] at HN
        go_wp2_with fail
        go_roundw
        case rel => exact ⟨k + 1, l, HS.out.al _, HO.out.keep (below_al _ _), by rw [HN.out, HL.out]; simp, h0, by omega, by simp, hlt⟩
        case measure => simp [intOf]; omega
    · obtain rfl : k = rs.length := by omega
      rw [List.take_length] at HL
      obtain ⟨g, cap, rfl, hg1, hg2, hcap, hcm⟩ := HO.out.sh h0
      have CS := sortT_any HO.out h0 (by omega)
      have HC := Lib.hid (And.intro hcap hcm)
      have HB := Lib.hid hS.b
      have HG := Lib.hid hg1
      clear hS hcap hcm hg1 hg2
      go_wp2_with fail
      refine CS.mono ?_
      rintro e w2 ⟨rfl, ⟨m, hm, hs, hO2⟩, hg⟩
      have hln : m.length = l.length := hm.length_eq
      have HM := Lib.hid (And.intro hm (And.intro hs hO2))
      have HBB : Hid (Below w.heap.size w w2) := by
        have hw := HB.out
        have h2 := HG.out
        exact hw.trans ⟨hg.os, hg.tape, hg.output, hg.size, fun i hi => hg.block i (Nat.lt_of_lt_of_le hi hw.size) (fun e => by injection e with e; omega)⟩
      have HLn := Lib.hid hln
      clear CS hm hs hO2 hg hln
      go_wp2_with fail
      go_ret
      refine ⟨⟨g, cap, l.length, rfl, m, HLn.out, h0, HC.out.1, HC.out.2, ?_, HM.out.2.1, HM.out.2.2⟩, HBB.out⟩
      rw [← HL.out]
      exact HM.out.1.map _
end Go.Proofs.YtcejmfgbfdhflaaGreat
