import Derived.Test.YtcejmfgbfdhflaaGreatDh
import Derived.Maps.AppendAt
import Derived.WalkKit
import Derived.LoopTactic
import Derived.WalkSpells
import Derived.WalkLawsBesides
import Derived.Lib.Hide
import Derived.BigQuiet
import Derived.IntWalk
import Derived.Deep.DeepMust
import Derived.WalkSmall
import Derived.StillTailTactics
import Derived.Deep.RegionLaw
import Derived.Deep.RegionHeld3
import Derived.Deep.QuietTactic
namespace Go.Proofs.YtcejmfgbfdhflaaGreat
open Go.RowKit Go.Shelf Go.BigFrame Go.Sort
attribute [local go_sem] World.cell?_alloc_some
theorem info94 : (Tryz.prog.info? 94).map (fun i => (i.zero, i.size, i.bytes)) = some (some (.agg #[.int .i64 0, .int .i64 0, .int .i64 0, .int .i64 0, .int .i64 0]), 5, 40) := by kernel_rfl
theorem cs_take {W : World} {b : Nat} {cur : Array Value} {e : TypeId} (hh : W.heap[b]? = some (.cells cur e)) : ∀ (l : List Value) (o : Nat), (∀ j u, l[j]? = some u → cur.toList[o + j]? = some u) → Cs W (blk b o l)
  | [], _, _ => trivial
  | v :: r, o, h => by
    have hlt : b < W.heap.size := (Array.getElem?_eq_some_iff.1 hh).1
    have h1 : cur.toList[o]? = some v := h 0 v rfl
    refine ⟨⟨hlt, by simpa [World.cell?, hh] using h1, by simp [World.frozen?, hh]⟩, cs_take hh r (o + 1) fun j u hj => ?_⟩
    have := h (j + 1) u hj
    rwa [show o + (j + 1) = o + 1 + j from by omega] at this
theorem appP4 {W : World} {g2 : Nat} (hg : W.heap[g2]? = some (.cells (cellsP p3L) 94)) {ops : Array Oper} {rest : List Oper} {o : Oper} {a : Act} {Q : Exit → Act → World → Prop} (hgd : o.guard = none) (s z : Operand)
    (ho : o.op = .call { callee := .builtin .append, args := #[s, z], argTypes := #[23, 23] }) (hs : a.eval s = .slice (some ⟨g2, 0, none⟩) 1 1) (hx : a.eval z = .slice (some ⟨W.heap.size, 0, none⟩) 1 1)
    (h : ∀ g' cap w', (g' = g2 ∨ W.heap.size < g') → 2 ≤ cap → cap ≤ maxLen → Cs w' (blk g' 0 ((cellsP p3L).toList ++ (cellsP p4L).toList)) → (W.alloc (.cells (cellsP p4L) 94)).grownBy w' (some g2) → wpList Tryz.prog ops Q rest (a.put o.dst (.slice (some ⟨g', 0, none⟩) 2 cap)) w') :
    wpList Tryz.prog ops Q (o :: rest) a (W.alloc (.cells (cellsP p4L) 94)) := by
  obtain ⟨i0, hi, hz0, hz1, hz2⟩ := info_parts info94
  have hlt : g2 < W.heap.size := (Array.getElem?_eq_some_iff.1 hg).1
  refine wpList_append_own_at _ hgd s z 23 ho g2 94 i0 (.agg #[.int .i64 0, .int .i64 0, .int .i64 0, .int .i64 0, .int .i64 0]) 5 40 Tryz.underlying23 hi hz0 hz1 hz2 rfl (by decide) (.slice (some ⟨g2, 0, none⟩) 1 1) 1 (cellsP p3L).toList hs
    ⟨rfl, .inr ⟨g2, 1, cellsP p3L, rfl, Nat.le_refl _, (Below.heap_alloc W _ g2 hlt).trans hg, Nat.le_refl _, by unfold maxLen; decide, rfl, rfl⟩⟩ ⟨W.heap.size, 0, none⟩ 1 1 (cellsP p4L).toList hx rfl ?_ ?_ (by unfold maxLen; decide) (by decide) (by simp; omega) ?_
  · intro j u hu
    have hj : j < 5 := (List.getElem?_eq_some_iff.1 hu).1
    have := new_at W (cellsP p4L) 94 j u hu
    rwa [show (⟨W.heap.size, 0, none⟩ : Addr).add j = ⟨W.heap.size, j, none⟩ from by simp [Addr.add]; omega]
  · intro u hu
    simp at hu
    rcases hu with rfl | rfl | rfl | rfl | rfl <;> rfl
  · intro v' w' hown hgr hnil hblk
    obtain ⟨h1, ⟨rfl, h2⟩ | ⟨g', cap, cur, rfl, hB, hc, h3, h4, h5, h6⟩⟩ := hown
    · exact absurd h2 (by decide)
    · refine h g' cap w' ?_ h3 h4 (cs_take hc _ 0 fun j u hj => ?_) hgr
      · rcases hblk with e | e
        · left; simpa [Value.ownBlock] using e
        · right
          have : g' = (W.alloc (.cells (cellsP p4L) 94)).heap.size := by simpa [Value.ownBlock] using e
          rw [this]; simp
      · rw [← h6] at hj
        rw [Nat.zero_add]
        have hlt2 : j < (1 + 1) * 5 := by
          have := (List.getElem?_eq_some_iff.1 hj).1
          simp at this; omega
        rwa [List.getElem?_take_of_lt hlt2] at hj
theorem two_at {W : World} {g1 g' cap : Nat} {p q : Pf} {rs : List Pf} {q3 : Option Addr} {c3 : Nat} (h1 : Cs W (blk g1 0 (cellsC c0L).toList)) (h2 : Cs W (blk g' 0 ((cellsP p).toList ++ (cellsP q).toList))) (hc : 2 ≤ cap) (hm : cap ≤ maxLen) (h3 : PfsAt W q3 rs) (hr : rs.length ≤ 1 ∧ rs.length ≤ c3 ∧ c3 ≤ 1) :
    (⟨[c0L], [p, q], rs, some ⟨g1, 0, none⟩, some ⟨g', 0, none⟩, q3, 1, cap, c3⟩ : WA).At W := by
  obtain ⟨⟨l1, a0, -⟩, ⟨-, a1, -⟩, ⟨-, a2, -⟩, ⟨-, a3, -⟩, ⟨-, a4, -⟩, -⟩ := h1
  obtain ⟨⟨l2, b0, -⟩, ⟨-, b1, -⟩, ⟨-, b2, -⟩, ⟨-, b3, -⟩, ⟨-, b4, -⟩, ⟨-, b5, -⟩, ⟨-, b6, -⟩, ⟨-, b7, -⟩, ⟨-, b8, -⟩, ⟨-, b9, -⟩, -⟩ := h2
  obtain ⟨r1, r2, r3⟩ := hr
  have hm1 : (1 : Nat) ≤ maxLen := by unfold maxLen; decide
  refine ⟨.inr ⟨g1, 0, rfl, l1, fun j c hj => ?_⟩, .inr ⟨g', 0, rfl, l2, fun j c hj => ?_⟩, h3, by show 1 ≤ 1000; decide, by show 2 ≤ 1000; decide, by show rs.length ≤ 1000; omega, Nat.le_refl _, hc, r2, hm1, hm, Nat.le_trans r3 hm1⟩
  · match j, hj with
    | 0, hj => obtain rfl : c0L = c := by simpa using hj
               exact ⟨a0, a1, a2, a3, a4⟩
  · match j, hj with
    | 0, hj => obtain rfl : p = c := by simpa using hj
               exact ⟨b0, b1, b2, b3, b4⟩
    | 1, hj => obtain rfl : q = c := by simpa using hj
               exact ⟨b5, b6, b7, b8, b9⟩
/-- Cells stay when another is written. -/
theorem Cs.setO {W : World} {b o : Nat} {u : Value} : ∀ {L : List (Nat × Nat × Value)}, (∀ x ∈ L, x.1 = b → x.2.1 ≠ o) → Cs W L → Cs (W.setCell ⟨b, o, none⟩ u) L
  | [], _, _ => trivial
  | (b', o', v) :: L, hf, h => by
    refine ⟨⟨by simpa using h.1.1, ?_, ?_⟩, Cs.setO (fun x hx => hf x (List.mem_cons_of_mem _ hx)) h.2⟩
    · rw [World.cell?_setCell_other _ _ _ _ (fun e => by injection e with e1 e2; exact hf (b', o', v) List.mem_cons_self e1.symm e2.symm)]
      exact h.1.2.1
    · simpa using h.1.2.2
theorem Cs.setS {W : World} {b o : Nat} {u v : Value} (h : Cs W [(b, o, v)]) : Cs (W.setCell ⟨b, o, none⟩ u) [(b, o, u)] :=
  ⟨⟨by simpa using h.1.1, World.cell?_setCell_same _ _ _ h.1.2.1, by simpa using h.1.2.2⟩, trivial⟩
theorem below_grownB {w W W' : World} {b : Nat} (h : Below w.heap.size w W) (hb : w.heap.size ≤ b) (hg : W.grownBy W' (some b)) : Below w.heap.size w W' :=
  h.trans ⟨hg.os, hg.tape, hg.output, hg.size, fun k hk => hg.block k (Nat.lt_of_lt_of_le hk h.size) (fun e => by injection e with e; omega)⟩
theorem x1_at {W : World} {g1 g2 : Nat} (h1 : W.heap[g1]? = some (.cells (cellsC c0L) 90)) (h2 : W.heap[g2]? = some (.cells (cellsP p3L) 94)) : (⟨[c0L], [p3L], [], some ⟨g1, 0, none⟩, some ⟨g2, 0, none⟩, none, 1, 1, 0⟩ : WA).At W := by
  have l1 : g1 < W.heap.size := (Array.getElem?_eq_some_iff.1 h1).1
  have l2 : g2 < W.heap.size := (Array.getElem?_eq_some_iff.1 h2).1
  refine ⟨.inr ⟨g1, 0, rfl, l1, fun j c hj => ?_⟩, .inr ⟨g2, 0, rfl, l2, fun j c hj => ?_⟩, .inl rfl, by show 1 ≤ 1000; decide, by show 1 ≤ 1000; decide, by show 0 ≤ 1000; decide, Nat.le_refl _, Nat.le_refl _, Nat.le_refl _, by show 1 ≤ maxLen; unfold maxLen; decide, by show 1 ≤ maxLen; unfold maxLen; decide, Nat.zero_le _⟩
  · match j, hj with
    | 0, hj => obtain rfl : c0L = c := by simpa using hj
               simp [World.cell?, h1]
  · match j, hj with
    | 0, hj => obtain rfl : p3L = c := by simpa using hj
               simp [World.cell?, h2]
theorem blk_mem {b : Nat} : ∀ {l : List Value} {o : Nat} {x : Nat × Nat × Value}, x ∈ blk b o l → x.1 = b
  | [], _, x, h => by simp [blk] at h
  | v :: r, o, x, h => by
    simp only [blk, List.mem_cons] at h
    rcases h with rfl | h
    · rfl
    · exact blk_mem h
theorem Cs.lr {W : World} {m : List (Nat × Nat × Value)} : ∀ {l : List (Nat × Nat × Value)}, Cs W (l ++ m) → Cs W l ∧ Cs W m
  | [], h => ⟨trivial, h⟩
  | _ :: _, h => ⟨⟨h.1, (Cs.lr h.2).1⟩, (Cs.lr h.2).2⟩
theorem Cs.upd {W : World} {b o : Nat} {u : Value} : ∀ {L : List (Nat × Nat × Value)}, Cs W L → Cs (W.setCell ⟨b, o, none⟩ u) (L.map fun x => if x.1 = b ∧ x.2.1 = o then (b, o, u) else x)
  | [], _ => trivial
  | (b', o', v) :: L, h => by
    show Cs _ ((if b' = b ∧ o' = o then (b, o, u) else (b', o', v)) :: L.map fun x => if x.1 = b ∧ x.2.1 = o then (b, o, u) else x)
    by_cases e : b' = b ∧ o' = o
    · rw [if_pos e]
      obtain ⟨rfl, rfl⟩ := e
      exact ⟨(Cs.setS ⟨h.1, trivial⟩).1, Cs.upd h.2⟩
    · rw [if_neg e]
      exact ⟨(Cs.setO (L := [(b', o', v)]) (by simp only [List.mem_singleton, forall_eq]; intro e1 e2; exact e ⟨e1, e2⟩) ⟨h.1, trivial⟩).1, Cs.upd h.2⟩
theorem cs_set5 {W : World} {b : Nat} {p q r : Pf} (h : Cs W (blk b 0 ((cellsP p).toList ++ (cellsP q).toList))) :
    Cs (((((W.setCell ⟨b, 5, none⟩ (.int .i64 r.id)).setCell ⟨b, 6, none⟩ (.int .i64 r.ch)).setCell ⟨b, 7, none⟩ (.int .i64 r.year)).setCell ⟨b, 8, none⟩ (.int .i64 r.lo)).setCell ⟨b, 9, none⟩ (.int .i64 r.hi)) (blk b 0 ((cellsP p).toList ++ (cellsP r).toList)) := by
  have := ((((h.upd (b := b) (o := 5) (u := .int .i64 r.id)).upd (b := b) (o := 6) (u := .int .i64 r.ch)).upd (b := b) (o := 7) (u := .int .i64 r.year)).upd (b := b) (o := 8) (u := .int .i64 r.lo)).upd (b := b) (o := 9) (u := .int .i64 r.hi)
  simpa [blk] using this
theorem sets5_grown (W : World) (b : Nat) (u5 u6 u7 u8 u9 : Value) : W.grownBy (((((W.setCell ⟨b, 5, none⟩ u5).setCell ⟨b, 6, none⟩ u6).setCell ⟨b, 7, none⟩ u7).setCell ⟨b, 8, none⟩ u8).setCell ⟨b, 9, none⟩ u9) (some b) :=
  grown_trans (grown_trans (grown_trans (grown_trans (set_grown _ _ _ _) (set_grown _ _ _ _)) (set_grown _ _ _ _)) (set_grown _ _ _ _)) (set_grown _ _ _ _)
theorem long_in {G : World → Prop} (H : Hid (∀ W W', G W → Below W.heap.size W W' → G W')) (x : WA) (hat : ∀ n : Wd G, x.At n.w) (y lo hi : Int) (v : Value) (hv : x.v = v) (h : (agE x 1 y == 0 && (lgLo x 1 y == lo && lgHi x 1 y == hi)) = true) (n : Wd G) :
    Hid (Calls Tryz.prog 69 #[v, .int .i64 y, .int .i64 lo, .int .i64 hi] n.w fun e w'' => e = .returned (.bool true) ∧ ∃ m : Wd G, w'' = m.w) := by
  subst hv
  exact Calls.quiet_in (C := G) ((lawLong_any x y lo hi n.w (hat n)).mono fun _ _ k => ⟨by rw [k.1, h], H.out _ _ n.h k.2⟩)
set_option maxRecDepth 100000 in
set_option maxHeartbeats 6400000 in
theorem sanity_any (w : World) : Calls Tryz.prog 20 #[] w fun e w' => e = .returned (.bool true) ∧ Below w.heap.size w w' := by
  go_enter Tryz.func20, Tryz.ntmps20
  go_wp2_with fail
  refine (made_any w).mono ?_
  rintro e w1 ⟨rfl, ⟨hg1, hg2⟩, hb⟩
  obtain ⟨g1, hq1⟩ : ∃ g, w.heap.size + 1 = g := ⟨_, rfl⟩
  obtain ⟨g2, hq2⟩ : ∃ g, w.heap.size + 2 = g := ⟨_, rfl⟩
  rw [hq1] at hg1 ⊢
  rw [hq2] at hg2 ⊢
  have HQ := Lib.hid (And.intro hq1 hq2)
  have HB1 := Lib.hid hb
  have HG := Lib.hid (And.intro hg1 hg2)
  obtain ⟨x1, hx1⟩ : ∃ x : WA, (⟨[c0L], [p3L], [], some ⟨g1, 0, none⟩, some ⟨g2, 0, none⟩, none, 1, 1, 0⟩ : WA) = x := ⟨_, rfl⟩
  have hat := x1_at hg1 hg2
  have hv : x1.v = .agg #[.slice (some ⟨g1, 0, none⟩) 1 1, .slice (some ⟨g2, 0, none⟩) 1 1, .slice none 0 0] := by rw [← hx1]; rfl
  rw [hx1] at hat
  have r1 : x1.cs = [c0L] := by rw [← hx1]
  have r2 : x1.ps = [p3L] := by rw [← hx1]
  have r3 : x1.rs = [] := by rw [← hx1]
  have K1 := fun W (hb : Below w1.heap.size w1 W) => Rests_any x1 1 1805 W (hat.keep hb)
  have K2 := fun W (hb : Below w1.heap.size w1 W) => Distance_any x1 m1L W (hat.keep hb)
  have K3 := fun W (hb : Below w1.heap.size w1 W) => lawLong_any x1 1800 10000 10010 W (hat.keep hb)
  have K4 := fun W (hb : Below w1.heap.size w1 W) => lawLong_any x1 1805 10000 10030 W (hat.keep hb)
  have K5 := fun W (hb : Below w1.heap.size w1 W) => lawLong_any x1 1810 10020 10030 W (hat.keep hb)
  have K6 := fun W (hb : Below w1.heap.size w1 W) => lawLong_any x1 1820 10020 10080 W (hat.keep hb)
  obtain ⟨d1, d2, d3⟩ := ds_1 r1 r2 r3
  obtain ⟨e1, e2, e3, e4, e5⟩ := ev_1 r1 r2 r3 (y := 1805) (by decide)
  obtain ⟨i1, i2, i3, -⟩ := ev_1 r1 r2 r3 (y := 1800) (by decide)
  obtain ⟨j1, j2, j3, -⟩ := ev_1 r1 r2 r3 (y := 1810) (by decide)
  obtain ⟨l1, l2, l3, -⟩ := ev_1 r1 r2 r3 (y := 1820) (by decide)
  rw [show lowS S1 1800 = 10000 from by decide +kernel] at i2
  rw [show highS S1 1800 = 10010 from by decide +kernel] at i3
  rw [show lowS S1 1805 = 10000 from by decide +kernel] at e2
  rw [show highS S1 1805 = 10030 from by decide +kernel] at e3
  rw [show loNo S1 1805 = 0 from by decide +kernel] at e4
  rw [show hiNo S1 1805 = 3 from by decide +kernel] at e5
  rw [show lowS S1 1810 = 10020 from by decide +kernel] at j2
  rw [show highS S1 1810 = 10030 from by decide +kernel] at j3
  rw [show lowS S1 1820 = 10020 from by decide +kernel] at l2
  rw [show highS S1 1820 = 10080 from by decide +kernel] at l3
  simp only [e1, e4, e5, hv] at K1
  simp only [d1, d2, d3, hv] at K2
  simp only [m1L, Ms.v] at K2
  simp only [i1, i2, i3, hv, beq_self_eq_true, Bool.and_self] at K3
  simp only [e1, e2, e3, hv, beq_self_eq_true, Bool.and_self] at K4
  simp only [j1, j2, j3, hv, beq_self_eq_true, Bool.and_self] at K5
  simp only [l1, l2, l3, hv, beq_self_eq_true, Bool.and_self] at K6
  clear hb hg1 hg2 hat hv hx1 r1 r2 r3 d1 d2 d3 e1 e2 e3 e4 e5 i1 i2 i3 j1 j2 j3 l1 l2 l3
  go_upto_region 2 with fail
  obtain ⟨W0, hW0⟩ : ∃ W0, (w1).alloc (.cells #[.slice (some ⟨g1, 0, none⟩) 1 1, .slice (some ⟨g2, 0, none⟩) 1 1, .slice none 0 0] 26) = W0 := ⟨_, rfl⟩
  have S0 : St w1 W0 [(w1.heap.size, 0, .slice (some ⟨g1, 0, none⟩) 1 1), (w1.heap.size, 1, .slice (some ⟨g2, 0, none⟩) 1 1), (w1.heap.size, 2, .slice none 0 0)] := by rw [← hW0]; exact ((St.nil w1)).box #[.slice (some ⟨g1, 0, none⟩) 1 1, .slice (some ⟨g2, 0, none⟩) 1 1, .slice none 0 0] 26 (w1.heap.size) (by simp)
  rw [hW0]
  clear hW0
  obtain ⟨C, hC0, HC, LC, BC, hne⟩ := cls S0
  haveI := hne
  obtain ⟨c0, rfl⟩ : ∃ n : Wd C, W0 = n.w := ⟨⟨_, hC0⟩, rfl⟩
  have fC0 : ∀ n : Wd C, n.w.cell? ⟨w1.heap.size, 0, none⟩ = some (.slice (some ⟨g1, 0, none⟩) 1 1) := fun n => (LC.out n).1.2.1
  have fC1 : ∀ n : Wd C, n.w.cell? ⟨w1.heap.size, 1, none⟩ = some (.slice (some ⟨g2, 0, none⟩) 1 1) := fun n => (LC.out n).2.1.2.1
  have fC2 : ∀ n : Wd C, n.w.cell? ⟨w1.heap.size, 2, none⟩ = some (.slice none 0 0) := fun n => (LC.out n).2.2.1.2.1
  clear S0 hC0
  have D1 := cinL HC BC K1
  have D2 := cinL HC BC K2
  go_upto_region 3 with (first | first | (go_at_call 32; with_reducible refine (D1 _).out.mono ?_; rintro e w' ⟨rfl, n, rfl⟩))
  go_upto_region 4 with (first | first | (go_at_call 49; with_reducible refine (D2 _).out.mono ?_; rintro e w' ⟨rfl, n, rfl⟩))
  obtain ⟨W0, hW0⟩ : ∃ W0, (n.w).alloc (.cells #[.int .i64 349, .int .i64 353] 30) = W0 := ⟨_, rfl⟩
  have S0 : St w1 W0 [(n.w.heap.size, 0, .int .i64 349), (n.w.heap.size, 1, .int .i64 353), (w1.heap.size, 0, .slice (some ⟨g1, 0, none⟩) 1 1), (w1.heap.size, 1, .slice (some ⟨g2, 0, none⟩) 1 1), (w1.heap.size, 2, .slice none 0 0)] := by rw [← hW0]; exact ((⟨BC.out n, LC.out n⟩ : St w1 n.w _)).box #[.int .i64 349, .int .i64 353] 30 (n.w.heap.size) (by simp)
  rw [hW0]
  clear hW0
  obtain ⟨kF, hkk⟩ : ∃ k, n.w.heap.size = k := ⟨_, rfl⟩
  have gkF : w1.heap.size ≤ kF := by rw [← hkk]; exact (BC.out n).size
  rw [hkk] at S0 ⊢
  clear hkk
  obtain ⟨F, hC0, HF, LF, BF, hne⟩ := cls S0
  haveI := hne
  obtain ⟨f0, rfl⟩ : ∃ n : Wd F, W0 = n.w := ⟨⟨_, hC0⟩, rfl⟩
  have fF0 : ∀ n : Wd F, n.w.cell? ⟨kF, 0, none⟩ = some (.int .i64 349) := fun n => (LF.out n).1.2.1
  have fF1 : ∀ n : Wd F, n.w.cell? ⟨kF, 1, none⟩ = some (.int .i64 353) := fun n => (LF.out n).2.1.2.1
  have fF2 : ∀ n : Wd F, n.w.cell? ⟨w1.heap.size, 0, none⟩ = some (.slice (some ⟨g1, 0, none⟩) 1 1) := fun n => (LF.out n).2.2.1.2.1
  have fF3 : ∀ n : Wd F, n.w.cell? ⟨w1.heap.size, 1, none⟩ = some (.slice (some ⟨g2, 0, none⟩) 1 1) := fun n => (LF.out n).2.2.2.1.2.1
  have fF4 : ∀ n : Wd F, n.w.cell? ⟨w1.heap.size, 2, none⟩ = some (.slice none 0 0) := fun n => (LF.out n).2.2.2.2.1.2.1
  clear S0 hC0
  have D3 := cinL HF BF K3
  have D4 := cinL HF BF K4
  have D5 := cinL HF BF K5
  have D6 := cinL HF BF K6
  clear K1 K2 K3 K4 K5 K6 D1 D2
  go_upto_region 6 with (first | (go_at_call 69; with_reducible refine (D3 _).out.mono ?_; rintro e w' ⟨rfl, n3, rfl⟩) | (go_at_call 69; with_reducible refine (D4 _).out.mono ?_; rintro e w' ⟨rfl, n4, rfl⟩) | (go_at_call 69; with_reducible refine (D5 _).out.mono ?_; rintro e w' ⟨rfl, n5, rfl⟩) | (go_at_call 69; with_reducible refine (D6 _).out.mono ?_; rintro e w' ⟨rfl, n6, rfl⟩))
  have hG1 : n6.w.heap[g1]? = some (.cells (cellsC c0L) 90) := by rw [(BF.out n6).block g1 (Array.getElem?_eq_some_iff.1 HG.out.1).1]; exact HG.out.1
  have hG2 : n6.w.heap[g2]? = some (.cells (cellsP p3L) 94) := by rw [(BF.out n6).block g2 (Array.getElem?_eq_some_iff.1 HG.out.2).1]; exact HG.out.2
  have hlg1 : g1 < w1.heap.size := (Array.getElem?_eq_some_iff.1 HG.out.1).1
  have hlg2 : g2 < w1.heap.size := (Array.getElem?_eq_some_iff.1 HG.out.2).1
  have HL12 := Lib.hid (And.intro hlg1 hlg2)
  have HBn := Lib.hid (HB1.out.trans ((BF.out n6).mono HB1.out.size))
  have HCn := Lib.hid ((LF.out n6).2.2)
  have HGn := Lib.hid (And.intro hG1 hG2)
  clear D3 D4 D5 D6 hG1 hG2 hlg1 hlg2
  go_upto_region 7 with (at_builtin; refine appP4 HGn.out.2 rfl _ _ rfl rfl rfl ?_; intro g' cap w7 hd hc2 hcm hcs hgr; have hcB := ((HCn.out.keep (below_al _ _)).grown hgr (by have := HL12.out.2; simp; omega) : Cs w7 [(w1.heap.size, 0, .slice (some ⟨g1, 0, none⟩) 1 1), (w1.heap.size, 1, .slice (some ⟨g2, 0, none⟩) 1 1), (w1.heap.size, 2, .slice none 0 0)]); have HCB := Lib.hid hcB; have HP := Lib.hid (And.intro hd (And.intro hc2 (And.intro hcm (And.intro hcs hgr)))); obtain ⟨⟨zB, b0, -⟩, ⟨-, b1, y1⟩, ⟨-, b2, -⟩, -⟩ := hcB; clear hd hc2 hcm hcs hgr)
  have hq := HQ.out
  have hl := HL12.out
  have hp := HP.out
  have hzn : w1.heap.size < n6.w.heap.size := HCn.out.1.1
  have hgB : g' ≠ w1.heap.size := by rcases hp.1 with e | e <;> omega
  have cg1 : Cs w7 (blk g1 0 (cellsC c0L).toList) := ((cs_take HGn.out.1 _ 0 (fun j u hj => by simpa using hj)).keep (below_al _ _)).grown hp.2.2.2.2 (fun x hx e => by have := blk_mem hx; injection e with e; omega)
  have S2 : St w (w7.setCell ⟨w1.heap.size, 1, none⟩ (.slice (some ⟨g', 0, none⟩) 2 cap)) (blk w1.heap.size 0 [.slice (some ⟨g1, 0, none⟩) 1 1, .slice (some ⟨g', 0, none⟩) 2 cap, .slice none 0 0] ++ (blk g1 0 (cellsC c0L).toList ++ blk g' 0 ((cellsP p3L).toList ++ (cellsP p4L).toList))) := by
    refine ⟨below_grownB (below_grownB (HBn.out.trans ((below_al _ _).mono HBn.out.size)) (by omega) hp.2.2.2.2) (by have := HB1.out.size; omega) (set_grown _ _ _ _), Cs.app (Cs.app (hp.2.2.2.1.grown (set_grown _ _ _ _) (fun x hx e => by have := blk_mem hx; injection e with e; omega)) (cg1.grown (set_grown _ _ _ _) (fun x hx e => by have := blk_mem hx; injection e with e; omega))) ?_⟩
    obtain ⟨k0, k1, k2, -⟩ := HCB.out
    exact ⟨(Cs.setO (L := [(w1.heap.size, 0, _)]) (by simp) ⟨k0, trivial⟩).1, (Cs.setS ⟨k1, trivial⟩).1, (Cs.setO (L := [(w1.heap.size, 2, _)]) (by simp) ⟨k2, trivial⟩).1, trivial⟩
  obtain ⟨W8, hW8⟩ : ∃ W, w7.setCell ⟨w1.heap.size, 1, none⟩ (.slice (some ⟨g', 0, none⟩) 2 cap) = W := ⟨_, rfl⟩
  rw [hW8] at S2 ⊢
  have hBs : w.heap.size ≤ w1.heap.size := HB1.out.size
  have HN := Lib.hid (And.intro hgB (And.intro (by omega : g' ≠ g1 ∧ g1 ≠ w1.heap.size ∧ w.heap.size ≤ g') (And.intro hp.2.1 (And.intro hp.2.2.1 hBs))))
  obtain ⟨B, hB⟩ : ∃ B, w1.heap.size = B := ⟨_, rfl⟩
  rw [hB] at HN S2 ⊢
  clear hq hl hp hzn hgB cg1 hW8 HCB HP HCn HGn HBn HL12 zB b0 b1 y1 b2 hBs
  obtain ⟨G, hG0, HGG, LGG, BGG, hneG, -⟩ := clsF S2
  haveI := hneG
  obtain ⟨t0, rfl⟩ : ∃ n : Wd G, W8 = n.w := ⟨⟨_, hG0⟩, rfl⟩
  have fG0 : ∀ n : Wd G, n.w.cell? ⟨B, 0, none⟩ = some (.slice (some ⟨g1, 0, none⟩) 1 1) := fun n => (LGG.out n).1.2.1
  have fG1 : ∀ n : Wd G, n.w.cell? ⟨B, 1, none⟩ = some (.slice (some ⟨g', 0, none⟩) 2 cap) := fun n => (LGG.out n).2.1.2.1
  have fG2 : ∀ n : Wd G, n.w.cell? ⟨B, 2, none⟩ = some (.slice none 0 0) := fun n => (LGG.out n).2.2.1.2.1
  obtain ⟨x2, hx2⟩ : ∃ x : WA, (⟨[c0L], [p3L, p4L], [], some ⟨g1, 0, none⟩, some ⟨g', 0, none⟩, none, 1, cap, 0⟩ : WA) = x := ⟨_, rfl⟩
  have hat : ∀ n : Wd G, x2.At n.w := fun n => by
    obtain ⟨-, k⟩ := Cs.lr (LGG.out n)
    obtain ⟨k1, k2⟩ := Cs.lr k
    rw [← hx2]
    exact two_at k1 k2 HN.out.2.2.1 HN.out.2.2.2.1 (.inl rfl) ⟨by decide, by decide, by decide⟩
  have hv : x2.v = .agg #[.slice (some ⟨g1, 0, none⟩) 1 1, .slice (some ⟨g', 0, none⟩) 2 cap, .slice none 0 0] := by rw [← hx2]; rfl
  obtain ⟨e1, e2, e3⟩ := ev_2 (x := x2) (by rw [← hx2]) (by rw [← hx2]) (by rw [← hx2]) (y := 1800) (by decide)
  obtain ⟨e4, e5, e6⟩ := ev_2 (x := x2) (by rw [← hx2]) (by rw [← hx2]) (by rw [← hx2]) (y := 1804) (by decide)
  have L1 := long_in HGG x2 hat 1800 10002 10010 _ hv (by rw [e1, e2, e3]; decide +kernel)
  have L2 := long_in HGG x2 hat 1804 10022 10025 _ hv (by rw [e4, e5, e6]; decide +kernel)
  clear S2 hG0 hat hv hx2 e1 e2 e3 e4 e5 e6
  go_upto_region 9 with (first | (go_at_call 69; with_reducible refine (L1 _).out.mono ?_; rintro e w' ⟨rfl, n7, rfl⟩) | (go_at_call 69; with_reducible refine (L2 _).out.mono ?_; rintro e w' ⟨rfl, n8, rfl⟩))
  clear L1 L2
  obtain ⟨-, ka⟩ := Cs.lr (LGG.out n8)
  obtain ⟨kb, kc⟩ := Cs.lr ka
  have HKA := Lib.hid (And.intro kb kc)
  obtain ⟨⟨zg, -, -⟩, -, -, -, -, ⟨-, o5, y5⟩, ⟨-, o6, y6⟩, ⟨-, o7, y7⟩, ⟨-, o8, y8⟩, ⟨-, o9, y9⟩, -⟩ := kc
  clear ka kb
  go_upto_region 10 with fail
  have hn := HN.out
  have HG5 := sets5_grown n8.w g' (.int .i64 5) (.int .i64 1) (.int .i64 1802) (.int .i64 10025) (.int .i64 10026)
  have C5 := cs_set5 (p := p3L) (q := p4L) (r := p5L) HKA.out.2
  have S3 : St w (((((n8.w.setCell ⟨g', 5, none⟩ (.int .i64 5)).setCell ⟨g', 6, none⟩ (.int .i64 1)).setCell ⟨g', 7, none⟩ (.int .i64 1802)).setCell ⟨g', 8, none⟩ (.int .i64 10025)).setCell ⟨g', 9, none⟩ (.int .i64 10026)) (blk B 0 [.slice (some ⟨g1, 0, none⟩) 1 1, .slice (some ⟨g', 0, none⟩) 2 cap, .slice none 0 0] ++ (blk g1 0 (cellsC c0L).toList ++ blk g' 0 ((cellsP p3L).toList ++ (cellsP p5L).toList))) := by
    refine ⟨below_grownB (BGG.out n8) hn.2.1.2.2 HG5, Cs.app (Cs.app C5 (HKA.out.1.grown HG5 (fun x hx e => by have := blk_mem hx; injection e with e; omega))) ((Cs.lr (LGG.out n8)).1.grown HG5 (fun x hx e => by have := blk_mem hx; injection e with e; omega))⟩
  obtain ⟨W9, hW9⟩ : ∃ W, ((((n8.w.setCell ⟨g', 5, none⟩ (.int .i64 5)).setCell ⟨g', 6, none⟩ (.int .i64 1)).setCell ⟨g', 7, none⟩ (.int .i64 1802)).setCell ⟨g', 8, none⟩ (.int .i64 10025)).setCell ⟨g', 9, none⟩ (.int .i64 10026) = W := ⟨_, rfl⟩
  rw [hW9] at S3 ⊢
  clear hn HG5 C5 hW9 HKA zg o5 y5 o6 y6 o7 y7 o8 y8 o9 y9 fG0 fG1 fG2 LGG BGG HGG
  obtain ⟨M, hG0, HM, LM, BM, hneM, -⟩ := clsF S3
  haveI := hneM
  obtain ⟨u0, rfl⟩ : ∃ n : Wd M, W9 = n.w := ⟨⟨_, hG0⟩, rfl⟩
  have fG0 : ∀ n : Wd M, n.w.cell? ⟨B, 0, none⟩ = some (.slice (some ⟨g1, 0, none⟩) 1 1) := fun n => (LM.out n).1.2.1
  have fG1 : ∀ n : Wd M, n.w.cell? ⟨B, 1, none⟩ = some (.slice (some ⟨g', 0, none⟩) 2 cap) := fun n => (LM.out n).2.1.2.1
  have fG2 : ∀ n : Wd M, n.w.cell? ⟨B, 2, none⟩ = some (.slice none 0 0) := fun n => (LM.out n).2.2.1.2.1
  obtain ⟨x3, hx3⟩ : ∃ x : WA, (⟨[c0L], [p3L, p5L], [], some ⟨g1, 0, none⟩, some ⟨g', 0, none⟩, none, 1, cap, 0⟩ : WA) = x := ⟨_, rfl⟩
  have hat : ∀ n : Wd M, x3.At n.w := fun n => by
    obtain ⟨-, k⟩ := Cs.lr (LM.out n)
    obtain ⟨k1, k2⟩ := Cs.lr k
    rw [← hx3]
    exact two_at k1 k2 HN.out.2.2.1 HN.out.2.2.2.1 (.inl rfl) ⟨by decide, by decide, by decide⟩
  have hv : x3.v = .agg #[.slice (some ⟨g1, 0, none⟩) 1 1, .slice (some ⟨g', 0, none⟩) 2 cap, .slice none 0 0] := by rw [← hx3]; rfl
  obtain ⟨e1, e2, e3, e4⟩ := cl_3 (x := x3) (by rw [← hx3]) (by rw [← hx3]) (by rw [← hx3])
  have K1 := Clash_any x3 u0.w (hat u0)
  rw [e1, e2, e3, e4, hv] at K1
  clear S3 hG0 hat hv hx3 e1 e2 e3 e4
  go_wp2_with fail
  refine K1.mono ?_
  rintro e w9 ⟨rfl, hb9⟩
  obtain ⟨n9, rfl⟩ : ∃ n : Wd M, w9 = n.w := ⟨⟨_, HM.out _ _ u0.h hb9⟩, rfl⟩
  have hzB : B < n9.w.heap.size := (LM.out n9).1.1
  have hyB : n9.w.frozen? ⟨B, 2, none⟩ = false := (LM.out n9).2.2.1.2.2
  clear K1 hb9
  go_upto_region 12 with fail
  have hn := HN.out
  have hv2 := set_grown n9.w B 2 (.slice (some ⟨n9.w.heap.size, 0, none⟩) 1 1)
  obtain ⟨kB, kr⟩ := Cs.lr (LM.out n9)
  obtain ⟨kg1, kg2⟩ := Cs.lr kr
  have S4 : St w (n9.w.setCell ⟨B, 2, none⟩ (.slice (some ⟨n9.w.heap.size, 0, none⟩) 1 1)) (blk B 0 [.slice (some ⟨g1, 0, none⟩) 1 1, .slice (some ⟨g', 0, none⟩) 2 cap, .slice (some ⟨n9.w.heap.size, 0, none⟩) 1 1] ++ (blk g1 0 (cellsC c0L).toList ++ blk g' 0 ((cellsP p3L).toList ++ (cellsP p5L).toList))) := by
    refine ⟨below_grownB (BM.out n9) hn.2.2.2.2 hv2, Cs.app (Cs.app (kg2.grown hv2 (fun x hx e => by have := blk_mem hx; injection e with e; omega)) (kg1.grown hv2 (fun x hx e => by have := blk_mem hx; injection e with e; omega))) ?_⟩
    obtain ⟨k0, k1, k2, -⟩ := kB
    exact ⟨(Cs.setO (L := [(B, 0, _)]) (by simp) ⟨k0, trivial⟩).1, (Cs.setO (L := [(B, 1, _)]) (by simp) ⟨k1, trivial⟩).1, (Cs.setS ⟨k2, trivial⟩).1, trivial⟩
  have S5 := S4.box (cellsP r8L) 104 n9.w.heap.size (by simp)
  obtain ⟨g8, hg8⟩ : ∃ g, n9.w.heap.size = g := ⟨_, rfl⟩
  rw [hg8] at S5 ⊢
  obtain ⟨W10, hW10⟩ : ∃ W, (n9.w.setCell ⟨B, 2, none⟩ (.slice (some ⟨g8, 0, none⟩) 1 1)).alloc (.cells #[.int .i64 8, .int .i64 1, .int .i64 1815, .int .i64 10000, .int .i64 10000] 104) = W := ⟨_, rfl⟩
  rw [show (n9.w.setCell ⟨B, 2, none⟩ (.slice (some ⟨g8, 0, none⟩) 1 1)).alloc (.cells (cellsP r8L) 104) = W10 from hW10] at S5
  rw [hW10]
  clear hn hv2 kB kr kg1 kg2 S4 hg8 hW10 hzB hyB fG0 fG1 fG2 LM BM HM
  obtain ⟨J, hG0, HJ, LJ, BJ, hneJ, -⟩ := clsF S5
  haveI := hneJ
  obtain ⟨v0, rfl⟩ : ∃ n : Wd J, W10 = n.w := ⟨⟨_, hG0⟩, rfl⟩
  have fG0 : ∀ n : Wd J, n.w.cell? ⟨B, 0, none⟩ = some (.slice (some ⟨g1, 0, none⟩) 1 1) := fun n => (Cs.lr (LJ.out n)).2.1.2.1
  have fG1 : ∀ n : Wd J, n.w.cell? ⟨B, 1, none⟩ = some (.slice (some ⟨g', 0, none⟩) 2 cap) := fun n => (Cs.lr (LJ.out n)).2.2.1.2.1
  have fG2 : ∀ n : Wd J, n.w.cell? ⟨B, 2, none⟩ = some (.slice (some ⟨g8, 0, none⟩) 1 1) := fun n => (Cs.lr (LJ.out n)).2.2.2.1.2.1
  obtain ⟨x4, hx4⟩ : ∃ x : WA, (⟨[c0L], [p3L, p5L], [r8L], some ⟨g1, 0, none⟩, some ⟨g', 0, none⟩, some ⟨g8, 0, none⟩, 1, cap, 1⟩ : WA) = x := ⟨_, rfl⟩
  have hat : ∀ n : Wd J, x4.At n.w := fun n => by
    obtain ⟨k8, k⟩ := Cs.lr (LJ.out n)
    obtain ⟨-, k⟩ := Cs.lr k
    obtain ⟨k1, k2⟩ := Cs.lr k
    rw [← hx4]
    refine two_at k1 k2 HN.out.2.2.1 HN.out.2.2.2.1 (.inr ⟨g8, 0, rfl, k8.1.1, fun j c hj => ?_⟩) ⟨by decide, by decide, by decide⟩
    match j, hj with
    | 0, hj => obtain rfl : r8L = c := by simpa using hj
               exact ⟨k8.1.2.1, k8.2.1.2.1, k8.2.2.1.2.1, k8.2.2.2.1.2.1, k8.2.2.2.2.1.2.1⟩
  have hv : x4.v = .agg #[.slice (some ⟨g1, 0, none⟩) 1 1, .slice (some ⟨g', 0, none⟩) 2 cap, .slice (some ⟨g8, 0, none⟩) 1 1] := by rw [← hx4]; rfl
  obtain ⟨⟨e1, e2, e3⟩, e4, e5, e6⟩ := sl_4 (x := x4) (by rw [← hx4]) (by rw [← hx4]) (by rw [← hx4])
  have K1 := Spell_any x4 1 1810 v0.w (hat v0)
  have K2 := fun (n : Wd J) (o : Obj) => Spell_any x4 1 1815 (n.w.alloc o) ((hat n).keep (below_al _ _))
  rw [e1, e2, e3, hv] at K1
  simp only [e4, e5, e6, hv] at K2
  clear S5 hG0 hat hv hx4 e1 e2 e3 e4 e5 e6
  go_wp2_with fail
  refine K1.mono ?_
  rintro e w' ⟨rfl, hb⟩
  obtain ⟨n10, rfl⟩ : ∃ n : Wd J, w' = n.w := ⟨⟨_, HJ.out _ _ v0.h hb⟩, rfl⟩
  clear K1 hb
  go_wp2_with fail
  refine (K2 _ _).mono ?_
  rintro e w12 ⟨rfl, hb⟩
  have q0 := (hb.cell (p := ⟨n10.w.heap.size, 0, none⟩) (by simp)).trans (new_at n10.w #[.int .i64 1800, .int .i64 1814] 30 0 _ rfl)
  have q1 := (hb.cell (p := ⟨n10.w.heap.size, 1, none⟩) (by simp)).trans (new_at n10.w #[.int .i64 1800, .int .i64 1814] 30 1 _ rfl)
  have HBB : Hid (Below w.heap.size w w12) := (BJ.out n10).trans (((below_al _ _).trans (hb.mono (by simp))).mono (BJ.out n10).size)
  clear hb K2
  go_wp2_with fail
  go_ret
  exact ⟨rfl, HBB.out.trans ((below_al _ _).mono HBB.out.size)⟩
end Go.Proofs.YtcejmfgbfdhflaaGreat
