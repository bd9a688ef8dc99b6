import Derived.Test.YtcejmfgbfdhflaaGreatCl
import Derived.WalkKit
import Derived.LoopTactic
import Derived.WalkSpells
import Derived.WalkLawsBesides
import Derived.Lib.Hide
import Derived.BigQuiet
import Derived.IntWalk
import Derived.Deep.DeepMust
import Derived.WalkSmall
import Derived.StillTailTactics
import Derived.Deep.RegionLaw
import Derived.Deep.RegionHeld3
import Derived.Deep.QuietTactic
namespace Go.Proofs.YtcejmfgbfdhflaaGreat
open Go.RowKit Go.Shelf Go.BigFrame Go.Sort
attribute [local go_sem] World.cell?_alloc_some
theorem info111 : (Tryz.prog.info? 111).map (fun i => (i.zero, i.size, i.bytes)) = some (some (.agg #[.int .i64 0, .int .i64 0, .int .i64 0, .slice none 0 0]), 4, 48) := by kernel_rfl
theorem make158 (u : World) (n : Nat) (h : n ≤ 1000000) : (Instr.makeSlice 158 (.int .i64 (n : Int)) (.int .i64 (n : Int))).run Tryz.prog u = .ok (.slice (some ⟨u.heap.size, 0, none⟩) n n) (u.alloc (.cells (madeCells #[.int .i64 0, .int .i64 0, .int .i64 0, .slice none 0 0] (n * 4)) 111)) := by
  have hi := info111
  cases h0 : Tryz.prog.info? 111 with
  | none => rw [h0] at hi; cases hi
  | some i =>
    rw [h0] at hi
    simp only [Option.map_some, Option.some.injEq, Prod.mk.injEq] at hi
    obtain ⟨h1, h2, h3⟩ := hi
    have := run_make (P := Tryz.prog) u 158 111 i _ Tryz.underlying158 h0 h1 .i64 .i64 n n (by omega) (Int.le_refl _) (by rw [h3]; omega) (by omega)
    rw [h2] at this
    simpa [Value.cells] using this
theorem SMm.start (W0 : World) (n : Nat) (hn : 0 < n) : SMm W0 (W0.alloc (.cells (madeCells #[.int .i64 0, .int .i64 0, .int .i64 0, .slice none 0 0] (n * 4)) 111)) n [] := by
  have hc : ∀ o, o < n * 4 → ∃ v, (madeCells #[.int .i64 0, .int .i64 0, .int .i64 0, .slice none 0 0] (n * 4)).toList[o]? = some v := fun o ho => ⟨_, List.getElem?_eq_getElem (by rw [Array.length_toList, size_madeCells]; exact ho)⟩
  refine ⟨below_al _ _, by simp, fun o => new_fz _ _ _ _, fun o ho => ?_, ?_, fun i r h => by simp at h, fun i r h => by simp at h, fun i r h => by simp at h, fun i j r r' h => by simp at h⟩
  · obtain ⟨v, hv⟩ := hc o ho
    exact ⟨v, new_at _ _ _ _ _ hv⟩
  · refine ⟨none, 0, 0, new_at _ _ _ _ _ ?_⟩
    have h3 : 3 < n * 4 := by omega
    simp [madeCells, h3]
theorem SMm.cellsAt {W0 W : World} {n : Nat} {rs : List Rw} (h : SMm W0 W n rs) {G : Nat} (hG : W0.heap.size = G) (k : Nat) (hk : k < n) :
    ∃ v0 v1 v2 v3, (W.cell? ⟨G, k * 4, none⟩ = some v0 ∧ W.cell? ⟨G, k * 4 + 1, none⟩ = some v1 ∧ W.cell? ⟨G, k * 4 + 2, none⟩ = some v2 ∧ W.cell? ⟨G, k * 4 + 3, none⟩ = some v3) ∧
      W.frozen? ⟨G, k * 4, none⟩ = false ∧ W.frozen? ⟨G, k * 4 + 1, none⟩ = false ∧ W.frozen? ⟨G, k * 4 + 2, none⟩ = false ∧ W.frozen? ⟨G, k * 4 + 3, none⟩ = false := by
  subst hG
  obtain ⟨v0, o0⟩ := h.old (k * 4) (by omega)
  obtain ⟨v1, o1⟩ := h.old (k * 4 + 1) (by omega)
  obtain ⟨v2, o2⟩ := h.old (k * 4 + 2) (by omega)
  obtain ⟨v3, o3⟩ := h.old (k * 4 + 3) (by omega)
  exact ⟨v0, v1, v2, v3, ⟨o0, o1, o2, o3⟩, h.fr _, h.fr _, h.fr _, h.fr _⟩
/-- The spells that are made, and one more with one thing. -/
theorem SMm.push1 {W0 W : World} {n : Nat} {rs : List Rw} (h : SMm W0 W n rs) {G k : Nat} (hG : W0.heap.size = G) (hl : rs.length = k) (hk : k < n) (lo hi wear : Int) (u : Value) (t : Th) (ht : ThAt W u t) :
    SMm W0 (((((W.alloc (.cells #[u] 148)).setCell ⟨G, k * 4, none⟩ (.int .i64 lo)).setCell ⟨G, k * 4 + 1, none⟩ (.int .i64 hi)).setCell ⟨G, k * 4 + 2, none⟩ (.int .i64 wear)).setCell ⟨G, k * 4 + 3, none⟩ (.slice (some ⟨W.heap.size, 0, none⟩) 1 1)) n (rs ++ [⟨⟨⟨lo, hi, wear, [t]⟩, some ⟨W.heap.size, 0, none⟩, 1⟩, [(u, t)]⟩]) := by
  have h2 := (h.keep (below_al W (.cells #[u] 148))).push (by omega) ⟨⟨⟨lo, hi, wear, [t]⟩, some ⟨W.heap.size, 0, none⟩, 1⟩, [(u, t)]⟩ (OT.one u t ht _ h.lt) ⟨rfl, Nat.one_pos⟩ (fun i r' hr' e => by
    obtain ⟨g, e1, _, h1⟩ := (h.ot i r' hr').blk (h.th i r' hr').2
    rw [e1] at e
    injection e with e
    injection e with e
    omega)
  rw [hG, hl] at h2
  exact h2
theorem sets_past (W : World) (o : Obj) (G a : Nat) (hn : G < W.heap.size) (v0 v1 v2 v3 : Value) :
    ((((W.alloc o).setCell ⟨G, a, none⟩ v0).setCell ⟨G, a + 1, none⟩ v1).setCell ⟨G, a + 2, none⟩ v2).setCell ⟨G, a + 3, none⟩ v3 = ((((W.setCell ⟨G, a, none⟩ v0).setCell ⟨G, a + 1, none⟩ v1).setCell ⟨G, a + 2, none⟩ v2).setCell ⟨G, a + 3, none⟩ v3).alloc o := by
  rw [World.setCell_alloc_past _ _ _ _ hn, World.setCell_alloc_past _ _ _ _ (by simpa using hn), World.setCell_alloc_past _ _ _ _ (by simpa using hn), World.setCell_alloc_past _ _ _ _ (by simpa using hn)]
theorem SMm.pushA {W0 W : World} {n : Nat} {rs : List Rw} (h : SMm W0 W n rs) {G k : Nat} (hG : W0.heap.size = G) (hl : rs.length = k) (hk : k < n) (lo hi wear : Int) (u : Value) (t : Th) (ht : ThAt W u t) :
    SMm W0 (((((W.setCell ⟨G, k * 4, none⟩ (.int .i64 lo)).setCell ⟨G, k * 4 + 1, none⟩ (.int .i64 hi)).setCell ⟨G, k * 4 + 2, none⟩ (.int .i64 wear)).setCell ⟨G, k * 4 + 3, none⟩ (.slice (some ⟨W.heap.size, 0, none⟩) 1 1)).alloc (.cells #[u] 148)) n (rs ++ [⟨⟨⟨lo, hi, wear, [t]⟩, some ⟨W.heap.size, 0, none⟩, 1⟩, [(u, t)]⟩]) := by
  have := h.push1 hG hl hk lo hi wear u t ht
  rwa [sets_past W _ G (k * 4) (hG ▸ h.lt)] at this
theorem SMm.pushB {W0 W : World} {n : Nat} {rs : List Rw} (h : SMm W0 W n rs) {G k : Nat} (hG : W0.heap.size = G) (hl : rs.length = k) (hk : k < n) (lo hi wear : Int) (u : Value) (t : Th) (ht : ThAt W u t) (Y : Obj) :
    SMm W0 ((((((W.setCell ⟨G, k * 4, none⟩ (.int .i64 lo)).setCell ⟨G, k * 4 + 1, none⟩ (.int .i64 hi)).setCell ⟨G, k * 4 + 2, none⟩ (.int .i64 wear)).setCell ⟨G, k * 4 + 3, none⟩ (.slice (some ⟨W.heap.size + 1, 0, none⟩) 1 1)).alloc Y).alloc (.cells #[u] 148)) n (rs ++ [⟨⟨⟨lo, hi, wear, [t]⟩, some ⟨W.heap.size + 1, 0, none⟩, 1⟩, [(u, t)]⟩]) := by
  have := (h.keep (below_al W Y)).pushA hG hl hk lo hi wear u t (ht.keep (below_al _ _))
  rw [World.size_alloc] at this
  rwa [sets_past W _ G (k * 4) (hG ▸ h.lt)] at this
def dTh : Th := ⟨0, 0, 0, 0⟩
/-- The last year of a spell. -/
def hiP (ts : List Th) (i : Nat) : Int := if i + 1 < ts.length then (ts.getD (i + 1) dTh).year - 1 else 4000
/-- A spell, with some of the proofs. -/
def spP (c : Ch) (ts : List Th) (pp : List Pf) (i : Nat) : Spl := ⟨(ts.getD i dTh).year, hiP ts i, c.wear, ts.getD i dTh :: (pp.filter fun p => p.ch == c.id && decide (cntU (ts.map (·.year)) p.year = i + 1)).map Pf.th⟩
theorem OT.cells {W : World} {B n cap g : Nat} {l : List (Value × Th)} (h : OT W B (.slice (some ⟨g, 0, none⟩) n cap) l) : ∀ j p, l[j]? = some p → W.cell? ⟨g, j, none⟩ = some p.1 ∧ ThAt W p.1 p.2 := by
  intro j p hp
  have hj : j < l.length := (List.getElem?_eq_some_iff.1 hp).1
  refine ⟨?_, h.at' p (List.mem_of_getElem? hp)⟩
  obtain ⟨h1, ⟨e, h2⟩ | ⟨g', cap', cur, e, hB, hc, h3, h4, h5, h6⟩⟩ := h.own
  · cases e
  · injection e with e _ _
    injection e with e
    injection e with e
    subst e
    have k1 : (l.map (·.1))[j]? = some p.1 := by rw [List.getElem?_map, hp]; rfl
    rw [← h6, List.getElem?_take_of_lt (by omega)] at k1
    simpa [World.cell?, hc] using k1
theorem getD_some {α : Type} {l : List α} {i : Nat} {d x : α} (h : l[i]? = some x) : l.getD i d = x := by simp [List.getD, h]
/-- The things of a spell lie in a block from B on. -/
def ThsN (B : Nat) (W : World) (q : Option Addr) (ts : List Th) : Prop := ∃ g, q = some ⟨g, 0, none⟩ ∧ B ≤ g ∧ g < W.heap.size ∧ ∀ (j : Nat) (t : Th), ts[j]? = some t → ∃ v, W.cell? ⟨g, j, none⟩ = some v ∧ ThAt W v t
theorem ThsN.ths {B : Nat} {W : World} {q : Option Addr} {ts : List Th} (h : ThsN B W q ts) : ThsAt W q ts := by
  obtain ⟨g, h1, h2, h3, h4⟩ := h
  exact .inr ⟨g, 0, h1, h3, fun j t ht => by rw [Nat.zero_add]; exact h4 j t ht⟩
theorem ThsN.base {B C : Nat} {W : World} {q : Option Addr} {ts : List Th} (h : ThsN B W q ts) (hc : C ≤ B) : ThsN C W q ts := by
  obtain ⟨g, h1, h2, h3, h4⟩ := h
  exact ⟨g, h1, Nat.le_trans hc h2, h3, h4⟩
theorem ThsN.keep {B : Nat} {W W' : World} {q : Option Addr} {ts : List Th} (h : ThsN B W q ts) (hb : Below W.heap.size W W') : ThsN B W' q ts := by
  obtain ⟨g, h1, h2, h3, h4⟩ := h
  refine ⟨g, h1, h2, Nat.lt_of_lt_of_le h3 hb.size, fun j t ht => ?_⟩
  obtain ⟨v, hv, ha⟩ := h4 j t ht
  exact ⟨v, (hb.cell (p := ⟨g, j, none⟩) h3).trans hv, ha.keep hb⟩
/-- They stay when an older block is written whose fourth cell is a slice. -/
theorem ThsN.grownX {B R : Nat} {W W' : World} {q : Option Addr} {ts : List Th} (h : ThsN B W q ts) (hR : R < B) (hg : W.grownBy W' (some R)) (hi : ∃ q a c, W.cell? ⟨R, 3, none⟩ = some (.slice q a c)) : ThsN B W' q ts := by
  obtain ⟨g, h1, h2, h3, h4⟩ := h
  refine ⟨g, h1, h2, Nat.lt_of_lt_of_le h3 hg.size, fun j t ht => ?_⟩
  obtain ⟨v, hv, ha⟩ := h4 j t ht
  exact ⟨v, (World.cell?_of_block (a := ⟨g, j, none⟩) (hg.block g h3 (fun e => by injection e with e; omega))).trans hv, ha.grownX hg hi⟩
/-- One thing more: what becomes of the row. -/
theorem appT2 {B : Nat} {q : Option Addr} {c : Nat} {l : List (Value × Th)} {W : World} (hP : OT W B (.slice q l.length c) l) (h0 : 0 < l.length) (hw : B ≤ W.heap.size) (u : Value) (t : Th) (ht : ThAt W u t) (hl : l.length ≤ 1000000) {ops : Array Oper} {rest : List Oper} {o : Oper} {a : Act} {Q : Exit → Act → World → Prop} (hgd : o.guard = none) (s y : Operand)
    (ho : o.op = .call { callee := .builtin .append, args := #[s, y], argTypes := #[109, 109] }) (hs : a.eval s = .slice q l.length c) (hx : a.eval y = .slice (some ⟨W.heap.size, 0, none⟩) 1 1)
    (h : ∀ q' c' w', OT w' B (.slice q' (l.length + 1) c') (l ++ [(u, t)]) → l.length + 1 ≤ c' ∧ c' ≤ maxLen → W.grownBy w' (Value.slice q l.length c).ownBlock →
      ((Value.slice q' (l.length + 1) c').ownBlock = (Value.slice q l.length c).ownBlock ∨ (Value.slice q' (l.length + 1) c').ownBlock = some (W.heap.size + 1)) → wpList Tryz.prog ops Q rest (a.put o.dst (.slice q' (l.length + 1) c')) w') : wpList Tryz.prog ops Q (o :: rest) a (W.alloc (.cells #[u] 148)) := by
  obtain ⟨i0, hi, hz0, hz1, hz2⟩ := info_parts inf148
  obtain ⟨ty, uu, rfl⟩ := ht.iface
  refine wpList_append_own_at _ hgd s y 109 ho B 148 i0 .nilIface 1 16 Tryz.underlying109 hi hz0 hz1 hz2 rfl (by decide) (.slice q l.length c) l.length (l.map (·.1)) hs (hP.own.alloc _) ⟨W.heap.size, 0, none⟩ 1 1 [.iface ty uu] hx rfl ?_ ?_ ?_ ?_ ?_ ?_
  · intro j u hu
    match j, hu with
    | 0, hu =>
      obtain rfl : Value.iface ty uu = u := by simpa using hu
      exact new_at W _ 148 0 _ rfl
  · intro u hu; obtain rfl : u = .iface ty uu := by simpa using hu
    rfl
  · unfold maxLen; omega
  · omega
  · simp; omega
  · intro v' w' ho' hg _ hb
    have hG : W.grownBy w' (Value.slice q l.length c).ownBlock := ⟨hg.os, hg.tape, hg.output, by have := hg.size; simp at this; omega, fun k hk hne => (hg.block k (by simp; omega) hne).trans (Below.heap_alloc W _ k hk)⟩
    have hO : OT w' B v' (l ++ [(.iface ty uu, t)]) := by
      refine ⟨?_, fun p hp => ?_⟩
      · rw [List.length_append, List.map_append]; exact ho'
      · rcases List.mem_append.1 hp with hp | hp
        · exact (hP.at' p hp).grownG hG (hP.first h0)
        · obtain rfl : p = (.iface ty uu, t) := by simpa using hp
          exact ht.grownG hG (hP.first h0)
    obtain ⟨g, cap, rfl, h1, h2, h3, h4⟩ := hO.sh (by simp)
    rw [show (l ++ [(Value.iface ty uu, t)]).length = l.length + 1 from by simp] at *
    rw [World.size_alloc] at hb
    exact h _ _ _ hO ⟨h3, h4⟩ hG hb
theorem spP_step (c : Ch) (ts : List Th) (pp : List Pf) (p : Pf) (a : Nat) : spP c ts (pp ++ [p]) a = if (p.ch == c.id && decide (cntU (ts.map (·.year)) p.year = a + 1)) = true then { spP c ts pp a with ths := (spP c ts pp a).ths ++ [p.th] } else spP c ts pp a := by
  unfold spP
  rw [List.filter_append, List.map_append]
  by_cases e : (p.ch == c.id && decide (cntU (ts.map (·.year)) p.year = a + 1)) = true
  · rw [if_pos e]; simp [e]
  · rw [if_neg e]; simp [e]
set_option maxRecDepth 100000 in
set_option maxHeartbeats 6400000 in
theorem spells_any (x : WA) (c : Ch) (w : World) (h : x.At w) (hy : ∀ p ∈ x.ps, p.ch = c.id → c.year ≤ p.year) (hty : ∀ t ∈ begs x.rs c, 0 ≤ t.year ∧ t.year ≤ 4000) :
    Calls Tryz.prog 115 #[x.v, c.v] w fun e w' => (∃ (G n : Nat) (ts : List Th) (xs : List SV), e = .returned (.slice (some ⟨G, 0, none⟩) n n) ∧ ts.Perm (begs x.rs c) ∧ ts.Pairwise (fun a b => a.year ≤ b.year) ∧ ts.length = n ∧ xs.length = n ∧ G < w'.heap.size ∧
      (xs.map (·.s) = (List.range n).map (spP c ts x.ps)) ∧ ∀ (i : Nat) (sv : SV), xs[i]? = some sv → SpC w' G (i * 4) sv ∧ ThsN w.heap.size w' sv.q sv.s.ths ∧ sv.s.ths.length ≤ sv.cap ∧ sv.cap ≤ maxLen) ∧ Below w.heap.size w w' := by
  have n2 := h.n2
  have K1 := fun W (hb : Below w.heap.size w W) => beginnings_any x c W (h.keep hb)
  have H := Lib.hid h.ps
  have n3 := h.n3
  have HY := Lib.hid hy
  have HTY := Lib.hid hty
  clear h hy hty
  obtain ⟨cs, ps, rs, q1, q2, q3, c1, c2, c3⟩ := x
  simp only [WA.v] at *
  go_enter Tryz.func115, Tryz.ntmps115
  go_wp2_with fail
  obtain ⟨W0, hW0⟩ : ∃ W0, ((w).alloc (.cells #[.slice q1 cs.length c1, .slice q2 ps.length c2, .slice q3 rs.length c3] 26)).alloc (.cells #[.int .i64 c.id, .int .i64 c.year, .int .i64 c.lo, .int .i64 c.hi, .int .i64 c.wear] 90) = W0 := ⟨_, rfl⟩
  have S0 : St w W0 [(w.heap.size + 1, 0, .int .i64 c.id), (w.heap.size + 1, 1, .int .i64 c.year), (w.heap.size + 1, 2, .int .i64 c.lo), (w.heap.size + 1, 3, .int .i64 c.hi), (w.heap.size + 1, 4, .int .i64 c.wear), (w.heap.size, 0, .slice q1 cs.length c1), (w.heap.size, 1, .slice q2 ps.length c2), (w.heap.size, 2, .slice q3 rs.length c3)] := by rw [← hW0]; exact (((St.nil w)).box #[.slice q1 cs.length c1, .slice q2 ps.length c2, .slice q3 rs.length c3] 26 (w.heap.size) (by simp)).box #[.int .i64 c.id, .int .i64 c.year, .int .i64 c.lo, .int .i64 c.hi, .int .i64 c.wear] 90 (w.heap.size + 1) (by simp)
  rw [hW0]
  clear hW0
  obtain ⟨C, hC0, HC, LC, BC, hne⟩ := cls S0
  haveI := hne
  obtain ⟨c0, rfl⟩ : ∃ n : Wd C, W0 = n.w := ⟨⟨_, hC0⟩, rfl⟩
  have fC0 : ∀ n : Wd C, n.w.cell? ⟨w.heap.size + 1, 0, none⟩ = some (.int .i64 c.id) := fun n => (LC.out n).1.2.1
  have fC1 : ∀ n : Wd C, n.w.cell? ⟨w.heap.size + 1, 1, none⟩ = some (.int .i64 c.year) := fun n => (LC.out n).2.1.2.1
  have fC2 : ∀ n : Wd C, n.w.cell? ⟨w.heap.size + 1, 2, none⟩ = some (.int .i64 c.lo) := fun n => (LC.out n).2.2.1.2.1
  have fC3 : ∀ n : Wd C, n.w.cell? ⟨w.heap.size + 1, 3, none⟩ = some (.int .i64 c.hi) := fun n => (LC.out n).2.2.2.1.2.1
  have fC4 : ∀ n : Wd C, n.w.cell? ⟨w.heap.size + 1, 4, none⟩ = some (.int .i64 c.wear) := fun n => (LC.out n).2.2.2.2.1.2.1
  have fC5 : ∀ n : Wd C, n.w.cell? ⟨w.heap.size, 0, none⟩ = some (.slice q1 cs.length c1) := fun n => (LC.out n).2.2.2.2.2.1.2.1
  have fC6 : ∀ n : Wd C, n.w.cell? ⟨w.heap.size, 1, none⟩ = some (.slice q2 ps.length c2) := fun n => (LC.out n).2.2.2.2.2.2.1.2.1
  have fC7 : ∀ n : Wd C, n.w.cell? ⟨w.heap.size, 2, none⟩ = some (.slice q3 rs.length c3) := fun n => (LC.out n).2.2.2.2.2.2.2.1.2.1
  clear S0 hC0
  go_wp2_with fail
  refine (K1 _ (BC.out _)).mono ?_
  rintro e w1 ⟨⟨g, cap, m, rfl, l, hlm, hm0, hmc, hcm, hperm, hsort, hO⟩, hb⟩
  have S1 : St w w1 [(w.heap.size + 1, 0, .int .i64 c.id), (w.heap.size + 1, 1, .int .i64 c.year), (w.heap.size + 1, 2, .int .i64 c.lo), (w.heap.size + 1, 3, .int .i64 c.hi), (w.heap.size + 1, 4, .int .i64 c.wear), (w.heap.size, 0, .slice q1 cs.length c1), (w.heap.size, 1, .slice q2 ps.length c2), (w.heap.size, 2, .slice q3 rs.length c3)] := ⟨(BC.out _).trans (hb.mono (BC.out _).size), (LC.out _).keep hb⟩
  clear hb K1 HC LC BC fC0 fC1 fC2 fC3 fC4 fC5 fC6 fC7 hne
  have hm : m ≤ 1001 := by
    have := hperm.length_eq
    rw [List.length_map] at this
    rw [← hlm, this]
    unfold begs
    have := List.length_filter_le (fun r : Pf => r.ch == c.id) rs
    simp
    omega
  have HP := Lib.hid (And.intro hperm hsort)
  have HL := Lib.hid hlm
  have HOC := Lib.hid hO.cells
  have HUP : Hid (upB ((l.map (·.2)).map (·.year))) := by
    unfold Hid upB
    rw [List.map_map, List.pairwise_map]
    exact hsort
  clear hperm hsort hO hlm hcm
  have hmk := make158 w1 m (by omega)
  go_wp2_with fail
  have S0 := SMm.start w1 m hm0
  obtain ⟨wk, hwk⟩ : ∃ wk, w1.alloc (.cells (madeCells #[.int .i64 0, .int .i64 0, .int .i64 0, .slice none 0 0] (m * 4)) 111) = wk := ⟨_, rfl⟩
  rw [hwk] at S0 ⊢
  have HS0 := Lib.hid S0
  have HS1 := Lib.hid S1
  obtain ⟨G, hG⟩ : ∃ G, w1.heap.size = G := ⟨_, rfl⟩
  have HG := Lib.hid hG
  rw [hG]
  clear hwk S0 S1 hmk hG
  go_loopw [22] (fun i wr => ∃ (k : Nat) (rws : List Rw), SMm w1 wr m rws ∧ rws.map (·.x.s) = (List.range k).map (spP c (l.map (·.2)) []) ∧ (∀ r ∈ rws, r.l.length ≤ 1 ∧ r.l.length ≤ r.x.cap ∧ r.x.cap ≤ maxLen) ∧ i = .int .i64 (k : Int) ∧ k ≤ m) (fun i wr => m - (intOf i).toNat)
  case atStart => exact ⟨0, [], HS0.out, rfl, fun r hr => by simp at hr, rfl, Nat.zero_le _⟩
  case round =>
    obtain ⟨k, rws, hS, hR, hR1, rfl, hk⟩ := hrel
    have HS := Lib.hid hS
    have HR := Lib.hid hR
    have HR1 := Lib.hid hR1
    have hrl : rws.length = k := by have := congrArg List.length hR; simpa using this
    have HRL := Lib.hid hrl
    clear hR hR1 HS0 hrl
    by_cases hlt : k < m
    · obtain ⟨p, hp⟩ : ∃ p, l[k]? = some p := ⟨_, List.getElem?_eq_getElem (by have := HL.out; omega)⟩
      obtain ⟨pc, pt⟩ := HOC.out k p hp
      have b0 := (hS.b.cell (p := ⟨g, k, none⟩) (World.block_lt_of_cell? w1 _ pc)).trans pc
      have HPT : Hid (ThAt wr p.1 p.2) := pt.keep hS.b
      have HPK := Lib.hid hp
      have hlt' : (k : Int) < (m : Int) := by omega
      have kS := HS1.out.c.keep hS.b
      obtain ⟨⟨-, g0, -⟩, ⟨-, g1, -⟩, ⟨-, g2, -⟩, ⟨-, g3, -⟩, ⟨-, g4, -⟩, -⟩ := kS
      obtain ⟨pv, pth⟩ := p
      simp only at b0 HPT HPK
      obtain ⟨pty, pu, rfl⟩ := HPT.out.iface
      clear pc pt hp hS
      have hz : w.heap.size + 1 < wr.heap.size := Nat.lt_of_lt_of_le HS1.out.c.1.1 HS.out.b.size
      by_cases hlt2 : k + 1 < m
      · have hnl : (k : Int) + 1 < (m : Int) := by omega
        obtain ⟨p2, hp2⟩ : ∃ p, l[k + 1]? = some p := ⟨_, List.getElem?_eq_getElem (by have := HL.out; omega)⟩
        obtain ⟨pc, pt⟩ := HOC.out (k + 1) p2 hp2
        obtain ⟨pv2, pth2⟩ := p2
        obtain ⟨pty2, pu2, rfl⟩ := pt.iface
        have b2 := (HS.out.b.cell (p := ⟨g, k + 1, none⟩) (World.block_lt_of_cell? w1 _ pc)).trans pc
        have HPT2 : Hid (ThAt wr (.iface pty2 pu2) pth2) := pt.keep HS.out.b
        have HPK2 := Lib.hid hp2
        have hyr : wrap64 (pth2.year - 1) = pth2.year - 1 := by
          refine w64 ?_
          have hm2 : pth2 ∈ begs rs c := HP.out.1.subset (List.mem_map.2 ⟨_, List.mem_of_getElem? hp2, rfl⟩)
          have := HTY.out _ hm2
          omega
        clear pc pt hp2
        go_wp2_with (first
          | (refine wpList_year HPT.out rfl _ rfl rfl ?_; intro w2 hg; have HG2 := Lib.hid hg.below; have e4 := (hg.below.cell (p := ⟨w.heap.size + 1, 4, none⟩) hz).trans g4; have e5 := (hg.below.cell (p := ⟨g, k + 1, none⟩) (World.block_lt_of_cell? wr _ b2)).trans b2; have HPT3 := Lib.hid (HPT2.out.keep (hg.below.trans ((below_al w2 (.cells #[.int .i64 pth.year, .int .i64 4000] 30)).mono hg.below.size))); have hz2 := Nat.lt_of_lt_of_le hz hg.below.size; clear hg g0 g1 g2 g3 g4 b0)
          | (refine wpList_year HPT3.out rfl _ rfl rfl ?_; intro w3 hg; have HB3 : Hid (Below wr.heap.size wr w3) := HG2.out.trans (((below_al w2 (.cells #[.int .i64 pth.year, .int .i64 4000] 30)).trans (hg.below.mono (by simp))).mono HG2.out.size); obtain ⟨⟨hY, y0, yz0⟩, ⟨-, y1, yz1⟩, -⟩ := (cs_blk w2 #[.int .i64 pth.year, .int .i64 4000] 30 _ 0 rfl).keep hg.below; have e6 := (((below_al w2 (.cells #[.int .i64 pth.year, .int .i64 4000] 30)).trans (hg.below.mono (by simp))).cell (p := ⟨w.heap.size + 1, 4, none⟩) hz2).trans e4; obtain ⟨v0, v1, v2, v3, ⟨o0, o1, o2, o3⟩, z0, z1, z2, z3⟩ := (HS.out.keep HB3.out).cellsAt HG.out k hlt; have hGY : G < w2.heap.size := HG.out ▸ Nat.lt_of_lt_of_le HS.out.lt HG2.out.size; have hGW : G < w3.heap.size := HG.out ▸ Nat.lt_of_lt_of_le HS.out.lt HB3.out.size; have hGn : G ≠ w2.heap.size := Nat.ne_of_lt hGY; clear hg e4 e5))
        go_roundw
        case rel =>
          have hbx : Below wr.heap.size wr (w3.setCell ⟨w2.heap.size, 1, none⟩ (.int .i64 (pth2.year - 1))) := HB3.out.setCell (p := ⟨w2.heap.size, 1, none⟩) HG2.out.size _
          have h3 := (HS.out.keep hbx).pushA HG.out HRL.out hlt pth.year (pth2.year - 1) c.wear (.iface pty pu) pth (HPT.out.keep hbx)
          rw [show (w3.setCell ⟨w2.heap.size, 1, none⟩ (.int .i64 (pth2.year - 1))).heap.size = w3.heap.size from by simp] at h3
          refine ⟨k + 1, _, h3, ?_, ?_, by simp, hlt⟩
          · rw [List.map_append, HR.out, List.range_succ, List.map_append]
            congr 1
            have hk3 : (l.map (·.2)).getD k dTh = pth := getD_some (by rw [List.getElem?_map, HPK.out]; rfl)
            have hk4 : (l.map (·.2)).getD (k + 1) dTh = pth2 := getD_some (by rw [List.getElem?_map, HPK2.out]; rfl)
            simp only [List.map_cons, List.map_nil, spP, hiP, hk3, hk4, List.length_map, HL.out, if_pos hlt2, List.filter_nil]
          · intro r hr
            rcases List.mem_append.1 hr with hr | hr
            · exact HR1.out r hr
            · obtain rfl := List.mem_singleton.1 hr
              exact ⟨Nat.le_refl _, Nat.le_refl _, by show 1 ≤ maxLen; unfold maxLen; omega⟩
        case measure => simp [intOf]; omega
      · have hnl : ¬ ((k : Int) + 1 < (m : Int)) := by omega
        have hz : w.heap.size + 1 < wr.heap.size := Nat.lt_of_lt_of_le HS1.out.c.1.1 HS.out.b.size
        go_wp2_with (first
          | (refine wpList_year HPT.out rfl _ rfl rfl ?_; intro w2 hg; have HG2 := Lib.hid hg.below; have HS2 := Lib.hid (HS.out.keep hg.below); have e4 := (hg.below.cell (p := ⟨w.heap.size + 1, 4, none⟩) hz).trans g4; obtain ⟨v0, v1, v2, v3, ⟨o0, o1, o2, o3⟩, z0, z1, z2, z3⟩ := HS2.out.cellsAt HG.out k hlt; have hGW : G < w2.heap.size := HG.out ▸ HS2.out.lt; clear hg g0 g1 g2 g3 g4 b0))
        go_roundw
        case rel =>
          have h3 := HS2.out.pushB HG.out HRL.out hlt pth.year 4000 c.wear (.iface pty pu) pth (HPT.out.keep HG2.out) (.cells #[.int .i64 pth.year, .int .i64 4000] 30)
          refine ⟨k + 1, _, h3, ?_, ?_, by simp, hlt⟩
          · rw [List.map_append, HR.out, List.range_succ, List.map_append]
            congr 1
            have hk3 : (l.map (·.2)).getD k dTh = pth := getD_some (by rw [List.getElem?_map, HPK.out]; rfl)
            simp only [List.map_cons, List.map_nil, spP, hiP, hk3, List.length_map, HL.out, if_neg hlt2, List.filter_nil]
          · intro r hr
            rcases List.mem_append.1 hr with hr | hr
            · exact HR1.out r hr
            · obtain rfl := List.mem_singleton.1 hr
              exact ⟨Nat.le_refl _, Nat.le_refl _, by show 1 ≤ maxLen; unfold maxLen; omega⟩
        case measure => simp [intOf]; omega
    · obtain rfl : k = m := by omega
      have kS := HS1.out.c.keep hS.b
      obtain ⟨⟨-, g0, -⟩, ⟨-, g1, -⟩, ⟨-, g2, -⟩, ⟨-, g3, -⟩, ⟨-, g4, -⟩, ⟨-, g5, -⟩, ⟨-, g6, -⟩, ⟨-, g7, -⟩, -⟩ := kS
      clear hS
      go_wp2_with fail
      clear g0 g1 g2 g3 g4 g5 g6 g7
      have HR2 : Hid (rws.map (·.x.s) = (List.range k).map (spP c (l.map (·.2)) (ps.take 0))) := HR.out
      have HR3 : Hid (∀ r ∈ rws, r.l.length ≤ 0 + 1 ∧ r.l.length ≤ r.x.cap ∧ r.x.cap ≤ maxLen) := HR1.out
      clear HR HR1
      go_loopw [56] (fun i wr => ∃ (j : Nat) (rws : List Rw), SMm w1 wr k rws ∧ rws.map (·.x.s) = (List.range k).map (spP c (l.map (·.2)) (ps.take j)) ∧ (∀ r ∈ rws, r.l.length ≤ j + 1 ∧ r.l.length ≤ r.x.cap ∧ r.x.cap ≤ maxLen) ∧ i = .int .i64 (j : Int) ∧ j ≤ ps.length) (fun i wr => ps.length - (intOf i).toNat)
      case atStart => exact ⟨0, rws, HS.out, HR2.out, HR3.out, rfl, Nat.zero_le _⟩
      case round =>
        clear HS HR2 HR3 HRL
        obtain ⟨j, rws, hS, hR, hR1, rfl, hj⟩ := hrel
        have HS := Lib.hid hS
        have HR := Lib.hid hR
        have HR1 := Lib.hid hR1
        have hrl : rws.length = k := by have := congrArg List.length hR; simpa using this
        have HRL := Lib.hid hrl
        clear hR hR1 hrl
        have kS := HS1.out.c.keep hS.b
        obtain ⟨⟨-, g0, -⟩, ⟨-, g1, -⟩, ⟨-, g2, -⟩, ⟨-, g3, -⟩, ⟨-, g4, -⟩, ⟨-, g5, -⟩, ⟨-, g6, -⟩, ⟨-, g7, -⟩, -⟩ := kS
        by_cases hlt : j < ps.length
        · rcases (H.out.keep HS1.out.b) with h0' | ⟨b, o, he, hb, hc⟩
          · exact absurd hlt (by simp [show ps = [] from h0'])
          obtain rfl : q2 = some ⟨b, o, none⟩ := he
          obtain ⟨c1, c2, c3, c4, c5⟩ := hc j ps[j] (List.getElem?_eq_getElem hlt)
          have b1 := (hS.b.cell (p := ⟨b, o + j * 5, none⟩) hb).trans c1
          have b2 := (hS.b.cell (p := ⟨b, o + j * 5 + 1, none⟩) hb).trans c2
          have b3 := (hS.b.cell (p := ⟨b, o + j * 5 + 2, none⟩) hb).trans c3
          have b4 := (hS.b.cell (p := ⟨b, o + j * 5 + 3, none⟩) hb).trans c4
          have b5 := (hS.b.cell (p := ⟨b, o + j * 5 + 4, none⟩) hb).trans c5
          have HM : Hid (ps[j] ∈ ps) := List.getElem_mem hlt
          have HTK : Hid (ps.take (j + 1) = ps.take j ++ [ps[j]]) := take_snocG ps j hlt
          obtain ⟨p, hp⟩ : ∃ p, ps[j] = p := ⟨_, rfl⟩
          rw [hp] at b1 b2 b3 b4 b5 HM HTK
          have hlt' : (j : Int) < (ps.length : Int) := by omega
          clear c1 c2 c3 c4 c5 hc hb hS hp
          by_cases he : p.ch = c.id
          · have e1 : (p.ch == c.id) = true := by simpa using he
            have hcnt : 0 < cntU (l.map fun x => x.2.year) p.year := by
              unfold cntU
              rw [List.countP_pos_iff]
              have h1 : c.th ∈ l.map (·.2) := HP.out.1.symm.subset (by unfold begs; exact List.mem_cons_self)
              obtain ⟨x, hx, ex⟩ := List.mem_map.1 h1
              refine ⟨x.2.year, List.mem_map.2 ⟨x, hx, rfl⟩, ?_⟩
              rw [ex]
              exact decide_eq_true (HY.out p HM.out he)
            obtain ⟨i, hi⟩ : ∃ i, cntU (l.map fun x => x.2.year) p.year = i + 1 := ⟨cntU (l.map fun x => x.2.year) p.year - 1, by omega⟩
            have him : i < k := by
              have := cntU_le (l.map fun x => x.2.year) p.year
              rw [List.length_map, HL.out] at this
              omega
            have HI := Lib.hid hi
            obtain ⟨r, hr⟩ : ∃ r, rws[i]? = some r := ⟨_, List.getElem?_eq_getElem (by have := HRL.out; omega)⟩
            have HRI := Lib.hid hr
            have CL : ∀ W, Below wr.heap.size wr W → Calls Tryz.prog 177 #[.slice (some ⟨g, 0, none⟩) k cap, .int .i64 p.year, .func (.func 178) #[] #[]] W fun e w' => e = .returned (.int .i64 (i : Int)) ∧ Gr W w' := fun W hW => by
              have := lastT_any g 0 k cap l p.year W HL.out (by omega) (fun jj pp hjj => by
                obtain ⟨k1, k2⟩ := HOC.out jj pp hjj
                have hb := HS.out.b.trans (hW.mono (Nat.le_of_lt HS.out.lt))
                rw [Nat.zero_add]
                exact ⟨(hb.cell (World.block_lt_of_cell? w1 _ k1)).trans k1, k2.keep hb⟩) (by have := HUP.out; rwa [List.map_map] at this)
              rw [hi] at this
              rwa [show ((i + 1 : Nat) : Int) - 1 = (i : Int) from by omega] at this
            have him' : (i : Int) < (k : Int) := by omega
            obtain ⟨rx, rl⟩ := r
            obtain ⟨⟨rlo, rhi, rwe, rths⟩, rq, rc⟩ := rx
            clear hcnt hi hr he
            have HNT := Lib.hid (ThAt.new (W := wr.alloc (.cells #[.int .i64 p.id, .int .i64 p.ch, .int .i64 p.year, .int .i64 p.lo, .int .i64 p.hi] 94)) p 217 220 (.inl rfl))
            go_wp2_with fail
            refine (CL _ ((below_al _ _).trans ((below_al _ _).mono (by simp)))).mono ?_
            rintro e w3 ⟨rfl, hg⟩
            have HB3 : Hid (Below wr.heap.size wr w3) := ((below_al _ _).trans ((below_al _ _).mono (by simp))).trans (hg.below.mono (by simp; omega))
            have HNT3 : Hid (ThAt w3 (.iface 220 (.pointer (some ⟨wr.heap.size + 1, 0, none⟩))) p.th) := by
              have := HNT.out.keep hg.below
              rwa [World.size_alloc] at this
            have HS3 := Lib.hid (HS.out.keep HB3.out)
            clear HNT hg CL
            obtain ⟨s0, s1, s2, s3⟩ := HS3.out.sp i _ HRI.out
            obtain ⟨t1, t2⟩ := HS3.out.th i _ HRI.out
            have hot := HS3.out.ot i _ HRI.out
            rw [HG.out] at s0 s1 s2 s3
            simp only at s0 s1 s2 s3 t1 t2 hot
            rw [t1, List.length_map] at s3
            obtain ⟨v0, v1, v2, v3, ⟨o0, o1, o2, o3⟩, z0, z1, z2, z3⟩ := HS3.out.cellsAt HG.out i him
            have HOT := Lib.hid hot
            have HT2 := Lib.hid t2
            have HTH := Lib.hid t1
            have HLn : Hid (rl.length ≤ 1000000) := by
              have := (HR1.out _ (List.mem_of_getElem? HRI.out)).1
              simp only at this
              unfold Hid; omega
            have HGW : Hid (w1.heap.size + 1 ≤ w3.heap.size) := HS3.out.lt
            have HNE : Hid (some G ≠ (Value.slice rq rl.length rc).ownBlock) := by
              obtain ⟨gi, e, h1, h2⟩ := HOT.out.blk HT2.out
              have := HG.out
              rw [e]
              simp only [Value.ownBlock]
              intro e
              injection e with e
              omega
            clear hot t1 t2 o0 o1 o2 o3 z0 z1 z2 g0 g1 g2 g3 g4 g5 g6 g7 b1 b2 b3 b4 b5 s0 s1 s2
            go_wp2_with (at_builtin; refine appT2 HOT.out HT2.out HGW.out (.iface 220 (.pointer (some ⟨wr.heap.size + 1, 0, none⟩))) p.th HNT3.out HLn.out rfl _ _ rfl rfl rfl ?_; intro q' c' w4 hO4 hcc hg4 hb4; have HO4 := Lib.hid hO4; have HCC := Lib.hid hcc; have HG4 := Lib.hid hg4; have HB4 := Lib.hid hb4; have hne := HNE.out; have s4 := (World.cell?_of_block (a := ⟨G, i * 4 + 3, none⟩) (hg4.block G (HG.out ▸ HS3.out.lt) hne)).trans s3; have z4 := (World.frozen?_of_block (a := ⟨G, i * 4 + 3, none⟩) (hg4.block G (HG.out ▸ HS3.out.lt) hne)).trans z3; clear hO4 hcc hg4 hb4 hne s3 z3)
            go_roundw
            case rel =>
              have h4 := HS3.out.turn i _ HRI.out him _ _ q' c' HG4.out HO4.out HB4.out
              rw [HG.out] at h4
              refine ⟨j + 1, _, h4, ?_, fun r hr => ?_, by simp, hlt⟩
              · have hsp := HR.out
                rw [List.map_set, hsp, HTK.out]
                apply List.ext_getElem
                · simp
                · intro a ha1 ha2
                  have hak : a < k := by simpa using ha2
                  rw [List.getElem_set]
                  simp only [List.getElem_map, List.getElem_range]
                  rw [spP_step]
                  by_cases e : i = a
                  · subst e
                    have hcn : cntU ((l.map (·.2)).map (·.year)) p.year = i + 1 := by rw [List.map_map]; exact HI.out
                    have hri : spP c (l.map (·.2)) (ps.take j) i = ⟨rlo, rhi, rwe, rths⟩ := by
                      have h5 : (rws.map (·.x.s))[i]? = some ⟨rlo, rhi, rwe, rths⟩ := by rw [List.getElem?_map, HRI.out]; rfl
                      rw [hsp, List.getElem?_map, List.getElem?_range hak] at h5
                      exact Option.some.inj h5
                    rw [if_pos rfl, if_pos (by rw [e1, hcn]; simp), hri]
                  · have hcn : cntU ((l.map (·.2)).map (·.year)) p.year = i + 1 := by rw [List.map_map]; exact HI.out
                    rw [if_neg e, if_neg (by rw [hcn]; simp; omega)]
              · rcases List.mem_or_eq_of_mem_set hr with hr | rfl
                · obtain ⟨x1, x2⟩ := HR1.out r hr
                  exact ⟨by omega, x2⟩
                · obtain ⟨x1, x2⟩ := HR1.out _ (List.mem_of_getElem? HRI.out)
                  simp only at x1
                  exact ⟨by simp; omega, by simpa using HCC.out.1, HCC.out.2⟩
            case measure => simp [intOf]; omega
          · have e1 : (p.ch == c.id) = false := by simpa using he
            clear he
            go_wp2_with fail
            go_roundw
            case rel =>
              refine ⟨j + 1, rws, HS.out.keep (below_al _ _), ?_, fun r hr => ?_, by simp, hlt⟩
              · rw [HR.out, HTK.out]
                apply List.map_congr_left
                intro a _
                rw [spP_step, if_neg (by rw [e1]; simp)]
              · obtain ⟨x1, x2⟩ := HR1.out r hr
                exact ⟨by omega, x2⟩
            case measure => simp [intOf]; omega
        · obtain rfl : j = ps.length := by omega
          rw [List.take_length] at HR
          have HB := Lib.hid (HS1.out.b.trans (hS.b.mono HS1.out.b.size))
          clear hS g0 g1 g2 g3 g4 g5 g6 g7
          go_wp2_with fail
          go_ret
          refine ⟨⟨G, k, l.map (·.2), rws.map (·.x), rfl, HP.out.1, ?_, by rw [List.length_map, HL.out], by rw [List.length_map, HRL.out], HG.out ▸ HS.out.lt, ?_, fun i sv hsv => ?_⟩, HB.out⟩
          · rw [List.pairwise_map]; exact HP.out.2
          · rw [List.map_map]; exact HR.out
          · rw [List.getElem?_map] at hsv
            obtain ⟨r, hr, rfl⟩ := Option.map_eq_some_iff.1 hsv
            have h1 := HS.out.sp i r hr
            have h2 := HS.out.ot i r hr
            obtain ⟨h3, h4⟩ := HS.out.th i r hr
            obtain ⟨-, h5, h6⟩ := HR1.out r (List.mem_of_getElem? hr)
            rw [HG.out] at h1
            refine ⟨h1, ?_, by rw [h3, List.length_map]; exact h5, h6⟩
            obtain ⟨gi, e, h8, h7⟩ := h2.blk h4
            refine ⟨gi, e, by have := HS1.out.b.size; omega, h7, fun jj t ht => ?_⟩
            rw [h3, List.getElem?_map] at ht
            obtain ⟨pp, hpp, rfl⟩ := Option.map_eq_some_iff.1 ht
            rw [e] at h2
            exact ⟨pp.1, h2.cells jj pp hpp⟩
end Go.Proofs.YtcejmfgbfdhflaaGreat
