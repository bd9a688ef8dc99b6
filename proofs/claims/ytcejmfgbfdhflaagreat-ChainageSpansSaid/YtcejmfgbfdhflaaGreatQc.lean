import Derived.Test.YtcejmfgbfdhflaaGreatQb
import Derived.Test.YtcejmfgbfdhflaaGreatShelf
import Derived.WalkKit
import Derived.LoopTactic
import Derived.WalkSpells
import Derived.WalkLawsBesides
import Derived.Lib.Hide
import Derived.BigQuiet
import Derived.IntWalk
import Derived.Deep.DeepMust
import Derived.WalkSmall
import Derived.StillTailTactics
import Derived.Deep.RegionLaw
import Derived.Deep.RegionHeld3
import Derived.Deep.QuietTactic
/-
  Ch Ci Cj Ck Cl Cm Cn Co Cp Cq Cr: merged.
-/
namespace Go.Proofs.YtcejmfgbfdhflaaGreat
open Go.RowKit Go.Shelf Go.BigFrame Go.Sort
attribute [local go_sem] World.cell?_alloc_some
def cm (a b : Int) : Int := if a < b then -1 else if b < a then 1 else 0
set_option maxHeartbeats 400000 in
theorem isNaN_any (n : Int) (w : World) : Calls Tryz.prog 199 #[.int .i64 n] w fun e w' => e = .returned (.bool false) ∧ w = w' := by
  go_enter Tryz.func199, Tryz.ntmps199
  go_wp2_with fail
  go_ret
  exact ⟨ret_bool (by simp), rfl⟩
set_option maxHeartbeats 400000 in
theorem compare_any (a b : Int) (w : World) : Calls Tryz.prog 152 #[.int .i64 a, .int .i64 b] w fun e w' => e = .returned (.int .i64 (cm a b)) ∧ w = w' := by
  have C1 := fun n W => Lib.hid (isNaN_any n W)
  go_enter Tryz.func152, Tryz.ntmps152
  go_wp2_with (go_at_call 199; refine (C1 _ _).out.mono ?_; rintro e w' ⟨rfl, rfl⟩)
  all_goals (go_ret; refine ⟨ret_int ?_, rfl⟩; simp [cm]; omega)
set_option maxHeartbeats 800000 in
theorem begCmp_any (va vb : Value) (a b : Th) (w : World) (ha : ThAt w va a) (hb : ThAt w vb b) :
    Calls Tryz.prog 210 #[va, vb] w fun e w' => e = .returned (.int .i64 (cm a.year b.year)) ∧ Gr w w' := by
  have C1 := yearOf_any va a w ha
  have C2 := fun W (h : Gr w W) => yearOf_any vb b W (hb.keep h.below)
  have C3 := fun W => compare_any a.year b.year W
  clear ha hb
  go_enter Tryz.func210, Tryz.ntmps210
  go_wp2_with fail
  refine C1.mono ?_
  rintro e w1 ⟨rfl, h1⟩
  have H1 := Lib.hid h1
  clear h1 C1
  go_wp2_with fail
  refine (C2 _ H1.out).mono ?_
  rintro e w2 ⟨rfl, h2⟩
  have H2 := Lib.hid (H1.out.trans h2)
  clear h2 C2
  go_wp2_with fail
  refine (C3 _).mono ?_
  rintro e w3 ⟨rfl, rfl⟩
  go_wp2_with fail
  go_ret
  exact ⟨rfl, H2.out⟩
end Go.Proofs.YtcejmfgbfdhflaaGreat
namespace Go.Proofs.YtcejmfgbfdhflaaGreat
open Go.RowKit Go.Shelf Go.BigFrame Go.Sort
attribute [local go_sem] World.cell?_alloc_some
theorem ext_all {α : Type} (a : Array α) (n : Nat) (h : a.size = n) : a.extract 0 n = a := by subst h; simp
theorem cm_lt (a b : Int) : cm a b < 0 ↔ a < b := by unfold cm; split <;> (try split) <;> omega
theorem sw_grown {α : Type} [Inhabited α] (enc : α → Value) (W : World) (g off m : Nat) (dk : Array α) (os : Array Obj) : W.grownBy (sortWorld enc W g off m dk os) (some g) :=
  ⟨rfl, rfl, rfl, by simp [sortWorld, grow, putRow, mapBlock, Sort.ahead], fun k hk hne => by
    have : g ≠ k := fun e => hne (by rw [e])
    simp [sortWorld, grow, putRow, mapBlock, Sort.ahead, Array.getElem?_append, hk, Array.getElem_modify, this]⟩
theorem sw_heap {α : Type} [Inhabited α] (enc : α → Value) (W : World) (g m : Nat) (dk : Array α) (os : Array Obj) (cur : Array Value) (e : TypeId) (fr : Nat × Nat) (hg : W.heap[g]? = some (.cells cur e fr)) :
    (sortWorld enc W g 0 m dk os).heap[g]? = some (.cells (putCells enc 0 dk cur) e fr) := by
  have hlt : g < W.heap.size := (Array.getElem?_eq_some_iff.1 hg).1
  have h2 := (Array.getElem?_eq_some_iff.1 hg).2
  simp [sortWorld, grow, putRow, mapBlock, Sort.ahead, Array.getElem?_append, hlt, Array.getElem_modify, onCells, h2]
/-- Things that the call owns. -/
structure OT (W : World) (B : Nat) (v : Value) (l : List (Value × Th)) : Prop where
  own : W.ownsRow B 148 1 v l.length (l.map (·.1))
  at' : ∀ p ∈ l, ThAt W p.1 p.2
theorem ThAt.iface {W : World} {v : Value} {t : Th} (h : ThAt W v t) : ∃ ty u, v = .iface ty u := by
  rcases h with ⟨id, wear, rfl, -⟩ | ⟨b, ch, ty, -, rfl, -⟩
  · exact ⟨_, _, rfl⟩
  · exact ⟨_, _, rfl⟩
/-- A thing stays when a row of things has turned. -/
theorem ThAt.grownG {W W' : World} {v : Value} {t : Th} (h : ThAt W v t) {row : Option Nat} (hg : W.grownBy W' row) (hi : ∀ g, row = some g → ∃ ty u, W.cell? ⟨g, 0, none⟩ = some (.iface ty u)) : ThAt W' v t := by
  rcases h with h | ⟨b, ch, ty, h1, h2, h3⟩
  · exact .inl h
  · have hne : ∀ g, row = some g → g ≠ b := fun g hr e => by
      subst e
      obtain ⟨ty', u, hc⟩ := hi g hr
      have := h3.1.2.1
      rw [hc] at this
      cases this
    exact .inr ⟨b, ch, ty, h1, h2, h3.grown hg (fun x hx e => by
      have : x.1 = b := by simp at hx; rcases hx with rfl | rfl | rfl | rfl | rfl <;> rfl
      exact hne x.1 e.symm this)⟩
theorem OT.first {W : World} {B : Nat} {v : Value} {l : List (Value × Th)} (h : OT W B v l) (h0 : 0 < l.length) : ∀ g, v.ownBlock = some g → ∃ ty u, W.cell? ⟨g, 0, none⟩ = some (.iface ty u) := by
  intro g hg
  obtain ⟨h1, ⟨e, h2⟩ | ⟨g', cap, cur, rfl, hB, hc, h3, h4, h5, h6⟩⟩ := h.own
  · omega
  · injection hg with hg
    subst hg
    obtain ⟨ty, u, e⟩ := (h.at' l[0] (List.getElem_mem h0)).iface
    have k1 : (l.map (·.1))[0]? = some (.iface ty u) := by rw [List.getElem?_map, List.getElem?_eq_getElem h0]; simp [e]
    rw [← h6, List.getElem?_take_of_lt (by omega)] at k1
    exact ⟨ty, u, by simpa [World.cell?, hc] using k1⟩
theorem OT.keep {W W' : World} {B : Nat} {v : Value} {l : List (Value × Th)} (h : OT W B v l) (hb : Below W.heap.size W W') : OT W' B v l :=
  ⟨ownsRow_keep h.own hb, fun p hp => (h.at' p hp).keep hb⟩
theorem swoT (l : List (Value × Th)) : SWO (ltOf fun i j : Fin l.length => cm l[i].2.year l[j].2.year) := by
  refine ⟨fun x => ?_, fun x y z h k => ?_, fun x y z h k => ?_⟩
  · simp only [ltOf, decide_eq_false_iff_not, cm_lt]; omega
  · simp only [ltOf, decide_eq_true_eq, cm_lt] at *; omega
  · simp only [ltOf, decide_eq_false_iff_not, cm_lt] at *; omega
set_option maxHeartbeats 1600000 in
theorem sortT_any {W : World} {B g cap : Nat} {l : List (Value × Th)} (h : OT W B (.slice (some ⟨g, 0, none⟩) l.length cap) l) (h0 : 0 < l.length) (hl : l.length ≤ 1000000) :
    Calls Tryz.prog 209 #[.slice (some ⟨g, 0, none⟩) l.length cap, .func (.func 210) #[] #[]] W fun e w' => e = .returned (.tuple #[]) ∧ (∃ m, m.Perm l ∧ m.Pairwise (fun a b => a.2.year ≤ b.2.year) ∧ OT w' B (.slice (some ⟨g, 0, none⟩) l.length cap) m) ∧ W.grownBy w' (some g) := by
  haveI : Inhabited (Fin l.length) := ⟨⟨0, h0⟩⟩
  have hf := h.first h0 g rfl
  obtain ⟨h1, ⟨e, h2⟩ | ⟨g', cap', cur, e, hB, hc, h3, h4, h5, h6⟩⟩ := h.own
  · omega
  injection e with e1 e2 e3
  injection e1 with e1
  injection e1 with e1
  subst e1 e3
  have hgW : g < W.heap.size := (Array.getElem?_eq_some_iff.1 hc).1
  have hH : Holds (fun i : Fin l.length => l[i].1) W g 0 (List.finRange l.length).toArray := fun j hj => by
    have hj' : j < l.length := by simpa using hj
    have e : (List.finRange l.length).toArray[j]! = ⟨j, hj'⟩ := by rw [getElem!_pos _ j hj]; simp
    rw [e, Nat.zero_add]
    have k1 : (l.map (·.1))[j]? = some l[j].1 := by rw [List.getElem?_map, List.getElem?_eq_getElem hj']; rfl
    rw [← h6, List.getElem?_take_of_lt (by omega)] at k1
    exact ⟨by simpa [World.cell?, hc] using k1, by simp [World.frozen?, hc]⟩
  have hcmp : CmpLays1 Tryz.prog 210 #[] (fun i : Fin l.length => l[i].1) (fun i j : Fin l.length => cm l[i].2.year l[j].2.year) g 0 (List.finRange l.length).toArray.size W := fun m os dk _ x y => by
    have far : ∀ i : Fin l.length, ThAt (sortWorld (fun i : Fin l.length => l[i].1) W g 0 m dk os) l[i].1 l[i].2 := fun i => (h.at' _ (List.getElem_mem i.isLt)).grownG (sw_grown _ W g 0 m dk os) (fun g' e => by injection e with e; subst e; exact hf)
    exact begCmp_any _ _ _ _ _ (far x) (far y)
  have K := Any.slices_SortFunc Tryz.sortT (fun i : Fin l.length => l[i].1) (fun i => by obtain ⟨ty, u, e⟩ := (h.at' _ (List.getElem_mem i.isLt)).iface; show (l[i.val].1).oneCell' = true; rw [e]; rfl) (fun i j : Fin l.length => cm l[i].2.year l[j].2.year) (swoT l) 210 #[] g 0 cap (List.finRange l.length).toArray W
    (enters_of Tryz.func210 (by kernel_rfl) rfl) hcmp hH hgW (by simp; omega)
  rw [show (List.finRange l.length).toArray.size = l.length from by simp] at K
  refine K.mono ?_
  rintro e w' ⟨rfl, d', n, os, ⟨p1, p2, p3⟩, hs, rfl⟩
  have hsz : d'.size = l.length := by simpa using p1
  refine ⟨rfl, ⟨d'.toList.map fun i => l[i], ?_, ?_, ?_, ?_⟩, sw_grown _ W g 0 n d' os⟩
  · have p4 : d'.toList.Perm (List.finRange l.length) := by
      have e1 : d'.extract 0 l.length = d' := ext_all d' _ hsz
      have e2 : (List.finRange l.length).toArray.extract 0 l.length = (List.finRange l.length).toArray := ext_all _ _ (by simp)
      rw [e1, e2] at p3
      simpa using p3
    have e3 : (List.finRange l.length).map (fun i => l[i]) = l := by
      apply List.ext_getElem
      · simp
      · intro j h1 h2; simp
    have := p4.map (fun i : Fin l.length => l[i])
    rwa [e3] at this
  · rw [List.pairwise_iff_getElem]
    intro i j hi hj hij
    simp only [List.getElem_map, Array.getElem_toList]
    have hi' : i < d'.size := by simpa using hi
    have hj' : j < d'.size := by simpa using hj
    have := hs i j (Nat.zero_le _) hij (by omega)
    rw [getElem!_pos d' i hi', getElem!_pos d' j hj'] at this
    simp only [ltOf, decide_eq_false_iff_not, cm_lt] at this
    omega
  · have hh := sw_heap (fun i : Fin l.length => l[i].1) W g n d' os cur 148 (0, 0) hc
    refine ⟨by simp [hsz], .inr ⟨g, cap, _, by simp [hsz], hB, hh, by simp [hsz]; omega, h4, by simp [putCells, h5], ?_⟩⟩
    apply List.ext_getElem?
    intro t
    by_cases ht : t < d'.size
    · rw [List.getElem?_take_of_lt (by simp; omega)]
      have h7 : t < cur.size := by omega
      simp [putCells, ht, h7]
    · rw [List.getElem?_eq_none (by simp; omega), List.getElem?_eq_none (by simp; omega)]
  · intro p hp
    obtain ⟨i, -, rfl⟩ := List.mem_map.1 hp
    exact (h.at' _ (List.getElem_mem i.isLt)).grownG (sw_grown _ W g 0 n d' os) (fun g' e => by injection e with e; subst e; exact hf)
end Go.Proofs.YtcejmfgbfdhflaaGreat
namespace Go.Proofs.YtcejmfgbfdhflaaGreat
open Go.RowKit Go.Shelf Go.BigFrame Go.Sort
attribute [local go_sem] World.cell?_alloc_some
theorem inf148 : (Tryz.prog.info? 148).map (fun i => (i.zero, i.size, i.bytes)) = some (some .nilIface, 1, 16) := by kernel_rfl
/-- One thing more. -/
theorem appT {B : Nat} {v : Value} {l : List (Value × Th)} {W : World} (hP : OT W B v l) (h0 : 0 < l.length) (hw : B ≤ W.heap.size) (u : Value) (t : Th) (ht : ThAt W u t) (hl : l.length ≤ 1000000) {ops : Array Oper} {rest : List Oper} {o : Oper} {a : Act} {Q : Exit → Act → World → Prop} (hgd : o.guard = none) (s y : Operand)
    (ho : o.op = .call { callee := .builtin .append, args := #[s, y], argTypes := #[109, 109] }) (hs : a.eval s = v) (hx : a.eval y = .slice (some ⟨W.heap.size, 0, none⟩) 1 1)
    (h : ∀ v' w', OT w' B v' (l ++ [(u, t)]) → W.grownBy w' v.ownBlock → wpList Tryz.prog ops Q rest (a.put o.dst v') w') : wpList Tryz.prog ops Q (o :: rest) a (W.alloc (.cells #[u] 148)) := by
  obtain ⟨i0, hi, hz0, hz1, hz2⟩ := info_parts inf148
  obtain ⟨ty, uu, rfl⟩ := ht.iface
  refine wpList_append_own _ hgd s y 109 ho B 148 i0 .nilIface 1 16 Tryz.underlying109 hi hz0 hz1 hz2 rfl (by decide) v l.length (l.map (·.1)) hs (hP.own.alloc _) ⟨W.heap.size, 0, none⟩ 1 1 [.iface ty uu] hx rfl ?_ ?_ ?_ ?_ ?_ ?_
  · intro j u hu
    match j, hu with
    | 0, hu =>
      obtain rfl : Value.iface ty uu = u := by simpa using hu
      exact new_at W _ 148 0 _ rfl
  · intro u hu; obtain rfl : u = .iface ty uu := by simpa using hu
    rfl
  · unfold maxLen; omega
  · omega
  · simp; omega
  · intro v' w' ho' hg _
    have hG : W.grownBy w' v.ownBlock := ⟨hg.os, hg.tape, hg.output, by have := hg.size; simp at this; omega, fun k hk hne => (hg.block k (by simp; omega) hne).trans (Below.heap_alloc W _ k hk)⟩
    refine h v' w' ⟨?_, fun p hp => ?_⟩ hG
    · rw [List.length_append, List.map_append]; exact ho'
    · rcases List.mem_append.1 hp with hp | hp
      · exact (hP.at' p hp).grownG hG (hP.first h0)
      · obtain rfl : p = (.iface ty uu, t) := by simpa using hp
        exact ht.grownG hG (hP.first h0)
def Ch.th (c : Ch) : Th := ⟨0, c.year, c.lo, c.hi⟩
def Pf.th (p : Pf) : Th := ⟨p.id, p.year, p.lo, p.hi⟩
/-- The making and the repairs of a chain. -/
def begs (rs : List Pf) (c : Ch) : List Th := c.th :: (rs.filter fun r => r.ch == c.id).map Pf.th
theorem begs_step (rs : List Pf) (c : Ch) (k : Nat) (h : k < rs.length) : begs (rs.take (k + 1)) c = begs (rs.take k) c ++ (if rs[k].ch == c.id then [rs[k].th] else []) := by
  unfold begs
  rw [take_snocG rs k h, List.filter_append, List.map_append]
  by_cases e : (rs[k].ch == c.id) = true
  · simp [e]
  · simp [e]
theorem ThAt.new {W : World} (p : Pf) (e : TypeId) (ty : TypeId) (h : ty = 220 ∨ ty = 244) : ThAt (W.alloc (.cells #[.int .i64 p.id, .int .i64 p.ch, .int .i64 p.year, .int .i64 p.lo, .int .i64 p.hi] e)) (.iface ty (.pointer (some ⟨W.heap.size, 0, none⟩))) p.th :=
  .inr ⟨W.heap.size, p.ch, ty, h, rfl, cs_blk W #[.int .i64 p.id, .int .i64 p.ch, .int .i64 p.year, .int .i64 p.lo, .int .i64 p.hi] e _ 0 rfl⟩
theorem OT.one {W : World} (u : Value) (t : Th) (ht : ThAt W u t) (B : Nat) (hB : B ≤ W.heap.size) : OT (W.alloc (.cells #[u] 148)) B (.slice (some ⟨W.heap.size, 0, none⟩) 1 1) [(u, t)] :=
  ⟨⟨rfl, .inr ⟨W.heap.size, 1, #[u], rfl, hB, by show (W.heap.push _)[W.heap.size]? = _; simp, Nat.le_refl _, by unfold maxLen; omega, rfl, rfl⟩⟩, fun p hp => by
    obtain rfl : p = (u, t) := by simpa using hp
    exact ht.keep (below_al _ _)⟩
theorem OT.sh {W : World} {B : Nat} {v : Value} {l : List (Value × Th)} (h : OT W B v l) (h0 : 0 < l.length) : ∃ g cap, v = .slice (some ⟨g, 0, none⟩) l.length cap ∧ B ≤ g ∧ g < W.heap.size ∧ l.length ≤ cap ∧ cap ≤ maxLen := by
  obtain ⟨_, ⟨_, h2⟩ | ⟨g, cap, cur, rfl, hg, hc, h3, h4, h5, h6⟩⟩ := h.own
  · omega
  · exact ⟨g, cap, rfl, hg, (Array.getElem?_eq_some_iff.1 hc).1, h3, h4⟩
set_option maxRecDepth 100000 in
set_option maxHeartbeats 6400000 in
theorem beginnings_any (x : WA) (c : Ch) (w : World) (h : x.At w) :
    Calls Tryz.prog 176 #[x.v, c.v] w fun e w' => (∃ g cap m, e = .returned (.slice (some ⟨g, 0, none⟩) m cap) ∧ ∃ l : List (Value × Th), l.length = m ∧ 0 < m ∧ m ≤ cap ∧ cap ≤ maxLen ∧ (l.map (·.2)).Perm (begs x.rs c) ∧ l.Pairwise (fun a b => a.2.year ≤ b.2.year) ∧ OT w' (w.heap.size + 1 + 1) (.slice (some ⟨g, 0, none⟩) m cap) l) ∧ Below w.heap.size w w' := by
  have n3 := h.n3
  have H := Lib.hid h.rs
  clear h
  obtain ⟨cs, ps, rs, q1, q2, q3, c1, c2, c3⟩ := x
  simp only [WA.v] at *
  go_enter Tryz.func176, Tryz.ntmps176
  go_wp2_with fail
  obtain ⟨W0, hW0⟩ : ∃ W0, ((w.alloc (.cells #[.slice q1 cs.length c1, .slice q2 ps.length c2, .slice q3 rs.length c3] 26)).alloc (.cells #[.int .i64 c.id, .int .i64 c.year, .int .i64 c.lo, .int .i64 c.hi, .int .i64 c.wear] 90)) = W0 := ⟨_, rfl⟩
  have S0 : St w W0 [(w.heap.size + 1, 0, .int .i64 c.id), (w.heap.size + 1, 1, .int .i64 c.year), (w.heap.size + 1, 2, .int .i64 c.lo), (w.heap.size + 1, 3, .int .i64 c.hi), (w.heap.size + 1, 4, .int .i64 c.wear), (w.heap.size, 0, .slice q1 cs.length c1), (w.heap.size, 1, .slice q2 ps.length c2), (w.heap.size, 2, .slice q3 rs.length c3)] := by
    rw [← hW0]; exact ((St.nil w).box #[.slice q1 cs.length c1, .slice q2 ps.length c2, .slice q3 rs.length c3] 26 _ rfl).box #[.int .i64 c.id, .int .i64 c.year, .int .i64 c.lo, .int .i64 c.hi, .int .i64 c.wear] 90 (w.heap.size + 1) (by simp)
  have hz : W0.heap.size = w.heap.size + 1 + 1 := by rw [← hW0]; simp
  have O0 : OT (W0.alloc (.cells #[.iface 249 (.agg #[.int .i64 c.id, .int .i64 c.year, .int .i64 c.lo, .int .i64 c.hi, .int .i64 c.wear])] 148)) (w.heap.size + 1 + 1) (.slice (some ⟨w.heap.size + 1 + 1, 0, none⟩) 1 1) [(.iface 249 (.agg #[.int .i64 c.id, .int .i64 c.year, .int .i64 c.lo, .int .i64 c.hi, .int .i64 c.wear]), c.th)] := by
    have := OT.one (W := W0) (.iface 249 (.agg #[.int .i64 c.id, .int .i64 c.year, .int .i64 c.lo, .int .i64 c.hi, .int .i64 c.wear])) c.th (.inl ⟨_, _, rfl, rfl⟩) (w.heap.size + 1 + 1) (by omega)
    rwa [hz] at this
  have S1 := S0.al (.cells #[.iface 249 (.agg #[.int .i64 c.id, .int .i64 c.year, .int .i64 c.lo, .int .i64 c.hi, .int .i64 c.wear])] 148)
  rw [hW0]
  clear hW0 hz S0
  have HS0 := Lib.hid S1
  have HO0 := Lib.hid O0
  clear S1 O0
  go_loopw [5, 15] (fun v i wr => ∃ (k : Nat) (l : List (Value × Th)), St w wr [(w.heap.size + 1, 0, .int .i64 c.id), (w.heap.size + 1, 1, .int .i64 c.year), (w.heap.size + 1, 2, .int .i64 c.lo), (w.heap.size + 1, 3, .int .i64 c.hi), (w.heap.size + 1, 4, .int .i64 c.wear), (w.heap.size, 0, .slice q1 cs.length c1), (w.heap.size, 1, .slice q2 ps.length c2), (w.heap.size, 2, .slice q3 rs.length c3)] ∧ OT wr (w.heap.size + 1 + 1) v l ∧ l.map (·.2) = begs (rs.take k) c ∧ 0 < l.length ∧ l.length ≤ k + 1 ∧ i = .int .i64 (k : Int) ∧ k ≤ rs.length) (fun v i wr => rs.length - (intOf i).toNat)
  case atStart => exact ⟨0, _, HS0.out, HO0.out, rfl, Nat.one_pos, Nat.le_refl _, rfl, Nat.zero_le _⟩
  case round =>
    obtain ⟨k, l, hS, hO, hl, h0, hl2, rfl, hk⟩ := hrel
    have HS := Lib.hid hS
    have HO := Lib.hid hO
    have HL := Lib.hid hl
    clear hO hl HO0 HS0
    obtain ⟨g0, g1, g2, g3, g4, g5, g6, g7, -⟩ := hS.c
    obtain ⟨-, g0, -⟩ := g0
    obtain ⟨-, g1, -⟩ := g1
    obtain ⟨-, g2, -⟩ := g2
    obtain ⟨-, g3, -⟩ := g3
    obtain ⟨-, g4, -⟩ := g4
    obtain ⟨-, g5, -⟩ := g5
    obtain ⟨-, g6, -⟩ := g6
    obtain ⟨hsz, g7, -⟩ := g7
    have hsz2 : w.heap.size + 1 < wr.heap.size := hS.c.1.1
    by_cases hlt : k < rs.length
    · rcases H.out with h0' | ⟨b, o, rfl, hb, hc⟩
      · exact absurd hlt (by simp [h0'])
      obtain ⟨c1, c2, c3, c4, c5⟩ := hc k rs[k] (List.getElem?_eq_getElem hlt)
      have b1 := (hS.b.cell (p := ⟨b, o + k * 5, none⟩) hb).trans c1
      have b2 := (hS.b.cell (p := ⟨b, o + k * 5 + 1, none⟩) hb).trans c2
      have b3 := (hS.b.cell (p := ⟨b, o + k * 5 + 2, none⟩) hb).trans c3
      have b4 := (hS.b.cell (p := ⟨b, o + k * 5 + 3, none⟩) hb).trans c4
      have b5 := (hS.b.cell (p := ⟨b, o + k * 5 + 4, none⟩) hb).trans c5
      have HN := Lib.hid (begs_step rs c k hlt)
      obtain ⟨p, hp⟩ : ∃ p, rs[k] = p := ⟨_, rfl⟩
      rw [hp] at b1 b2 b3 b4 b5 HN
      have hlt' : (k : Int) < (rs.length : Int) := by omega
      clear c1 c2 c3 c4 c5 hc hb hS hp
      by_cases he : p.ch = c.id
      · have e1 : (p.ch == c.id) = true := by simpa using he
        clear he
        rw [e1] at HN
        have HT : Hid (ThAt ((wr.alloc (.cells #[.int .i64 p.id, .int .i64 p.ch, .int .i64 p.year, .int .i64 p.lo, .int .i64 p.hi] 104)).alloc (.cells #[.int .i64 p.id, .int .i64 p.ch, .int .i64 p.year, .int .i64 p.lo, .int .i64 p.hi] 245)) (.iface 244 (.pointer (some ⟨wr.heap.size + 1, 0, none⟩))) p.th) := by
          have := ThAt.new (W := wr.alloc (.cells #[.int .i64 p.id, .int .i64 p.ch, .int .i64 p.year, .int .i64 p.lo, .int .i64 p.hi] 104)) p 245 244 (.inr rfl)
          rwa [World.size_alloc] at this
        have HSz : Hid (w.heap.size + 1 + 1 ≤ ((wr.alloc (.cells #[.int .i64 p.id, .int .i64 p.ch, .int .i64 p.year, .int .i64 p.lo, .int .i64 p.hi] 104)).alloc (.cells #[.int .i64 p.id, .int .i64 p.ch, .int .i64 p.year, .int .i64 p.lo, .int .i64 p.hi] 245)).heap.size) := by unfold Hid; simp; omega
        have HLn : Hid (l.length ≤ 1000000) := by unfold Hid; omega
        have hx : ((wr.alloc (.cells #[.int .i64 p.id, .int .i64 p.ch, .int .i64 p.year, .int .i64 p.lo, .int .i64 p.hi] 104)).alloc (.cells #[.int .i64 p.id, .int .i64 p.ch, .int .i64 p.year, .int .i64 p.lo, .int .i64 p.hi] 245)).heap.size = wr.heap.size + 1 + 1 := by simp
        have HX := Lib.hid hx
        clear hx
        go_wp2_with (at_builtin; refine appT (HO.out.keep ((below_al _ _).trans ((below_al _ _).mono (by simp)))) h0 HSz.out (.iface 244 (.pointer (some ⟨wr.heap.size + 1, 0, none⟩))) p.th HT.out HLn.out rfl _ _ rfl rfl (by rw [HX.out]; rfl) ?_; intro v' w2 hO2 hg2)
        have HO2 := Lib.hid hO2
        have HG2 := Lib.hid hg2
        clear hO2 hg2
        go_roundw
        case rel => exact ⟨k + 1, _, ((HS.out.al _).al _).grown (HO.out.keep ((below_al _ _).trans ((below_al _ _).mono (by simp)))).own HG2.out (by omega) (by simp; omega), HO2.out, by rw [List.map_append, HL.out, HN.out]; rfl, by simp, by simp; omega, by simp, hlt⟩
        case measure => simp [intOf]; omega
      · have e1 : (p.ch == c.id) = false := by simpa using he
        clear he
        rw [e1] at HN
        go_wp2_with fail
        go_roundw
        case rel => exact ⟨k + 1, l, HS.out.al _, HO.out.keep (below_al _ _), by rw [HN.out, HL.out]; simp, h0, by omega, by simp, hlt⟩
        case measure => simp [intOf]; omega
    · obtain rfl : k = rs.length := by omega
      rw [List.take_length] at HL
      obtain ⟨g, cap, rfl, hg1, hg2, hcap, hcm⟩ := HO.out.sh h0
      have CS := sortT_any HO.out h0 (by omega)
      have HC := Lib.hid (And.intro hcap hcm)
      have HB := Lib.hid hS.b
      have HG := Lib.hid hg1
      clear hS hcap hcm hg1 hg2
      go_wp2_with fail
      refine CS.mono ?_
      rintro e w2 ⟨rfl, ⟨m, hm, hs, hO2⟩, hg⟩
      have hln : m.length = l.length := hm.length_eq
      have HM := Lib.hid (And.intro hm (And.intro hs hO2))
      have HBB : Hid (Below w.heap.size w w2) := by
        have hw := HB.out
        have h2 := HG.out
        exact hw.trans ⟨hg.os, hg.tape, hg.output, hg.size, fun i hi => hg.block i (Nat.lt_of_lt_of_le hi hw.size) (fun e => by injection e with e; omega)⟩
      have HLn := Lib.hid hln
      clear CS hm hs hO2 hg hln
      go_wp2_with fail
      go_ret
      refine ⟨⟨g, cap, l.length, rfl, m, HLn.out, h0, HC.out.1, HC.out.2, ?_, HM.out.2.1, HM.out.2.2⟩, HBB.out⟩
      rw [← HL.out]
      exact HM.out.1.map _
end Go.Proofs.YtcejmfgbfdhflaaGreat
namespace Go.Proofs.YtcejmfgbfdhflaaGreat
open Go.RowKit Go.Shelf Go.BigFrame Go.Sort
attribute [local go_sem] World.cell?_alloc_some
/-- How many years are not later. -/
def cntU (ys : List Int) (y : Int) : Nat := ys.countP fun z => decide (z ≤ y)
theorem cntU_range (ys : List Int) (y : Int) (n : Nat) (hn : ys.length = n) : (List.range n).countP (fun i => !(decide (y < ys[i]!))) = cntU ys y := by
  subst hn
  unfold cntU
  have e : ys = (List.range ys.length).map (fun i => ys[i]!) := by
    apply List.ext_getElem
    · simp
    · intro j h1 h2
      simp [List.getElem?_eq_getElem h1]
  conv => rhs; rw [e]
  rw [List.countP_map]
  congr 1
  funext i
  simp only [Function.comp]
  rw [Bool.eq_iff_iff]; simp
theorem cntU_le (ys : List Int) (y : Int) : cntU ys y ≤ ys.length := List.countP_le_length
/-- Years that go up. -/
def upB (ys : List Int) : Prop := ys.Pairwise (· ≤ ·)
theorem up_mono {ys : List Int} (h : upB ys) (y : Int) (a b : Nat) (hab : a ≤ b) (hb : b < ys.length) (hp : decide (y < ys[a]!) = true) : decide (y < ys[b]!) = true := by
  have ha : a < ys.length := by omega
  rw [getElem!_pos ys a ha] at hp
  rw [getElem!_pos ys b hb]
  simp only [decide_eq_true_eq] at *
  by_cases e : a = b
  · subst e; exact hp
  · have := (List.pairwise_iff_getElem.1 h) a b ha hb (by omega)
    omega
set_option maxRecDepth 100000 in
set_option maxHeartbeats 1600000 in
theorem later_any (b o n cap : Nat) (i : Nat) (y : Int) (t : Th) (v : Value) (B0 B1 B2 : Nat) (w : World) (hi : i < n) (hv : w.cell? ⟨b, o + i, none⟩ = some v) (ht : ThAt w v t)
    (h0 : w.cell? ⟨B0, 0, none⟩ = some (.slice (some ⟨b, o, none⟩) n cap)) (h1 : w.cell? ⟨B1, 0, none⟩ = some (.int .i64 y)) (h2 : w.cell? ⟨B2, 0, none⟩ = some (.func (.func 178) #[] #[])) :
    Calls Tryz.prog 212 #[.int .i64 (i : Int), .pointer (some ⟨B2, 0, none⟩), .pointer (some ⟨B0, 0, none⟩), .pointer (some ⟨B1, 0, none⟩)] w fun e w' => e = .returned (.bool (decide (y < t.year))) ∧ Gr w w' := by
  have C1 := fun W (h : Gr w W) => yearOf_any v t W (ht.keep h.below)
  obtain ⟨C, hC0, HC, LC, BC, hne⟩ := clsG (StG.nil w)
  haveI := hne
  have k : ∀ (a : Addr) (u : Value), w.cell? a = some u → ∀ n : Wd C, n.w.cell? a = some u := fun a u h n => ((BC.out n).below.cell (World.block_lt_of_cell? w _ h)).trans h
  have f0 := k _ _ h0
  have f1 := k _ _ h1
  have f2 := k _ _ h2
  have f3 := k _ _ hv
  have hi' : (i : Int) < (n : Int) := by omega
  have D1 := cinGL HC BC C1
  have HB := Lib.hid (fun n : Wd C => BC.out n)
  obtain ⟨c0, rfl⟩ : ∃ n : Wd C, w = n.w := ⟨⟨_, hC0⟩, rfl⟩
  clear h0 h1 h2 hv ht C1 k hC0
  go_enter Tryz.func212, Tryz.ntmps212
  go_wp2_with fail
  refine wp_region_in C (HC.out _ _ (Wd.h _) (Gr.dr _)) (by kernel_rfl) (by kernel_rfl) ?_
  repeat (go_big_quiet_step (first | with_reducible exact (D1 _).out))
  refine wpQuiet_nil ?_
  intro wx hwx
  obtain ⟨n, rfl⟩ : ∃ n : Wd C, wx = n.w := ⟨⟨wx, hwx⟩, rfl⟩
  clear hwx
  go_wp2_with fail
  go_ret
  exact ⟨rfl, HB.out _⟩
theorem search_any (g : Nat) (cb : Array Value) (n : Nat) (p : Nat → Bool) (w : World) (eg : ∀ args w, (callFunc g args).run Tryz.prog w = .ok (.enter g args) w) (hsz : n ≤ 1000000)
    (hf : ∀ W, Gr w W → ∀ i : Nat, i < n → Calls Tryz.prog g (#[.int .i64 i] ++ cb) W fun e w' => e = .returned (.bool (p i)) ∧ Gr W w')
    (hmono : ∀ a b, a ≤ b → b < n → p a = true → p b = true) :
    Calls Tryz.prog 211 #[.int .i64 n, .func (.func g) #[] cb] w fun e w' => e = .returned (.int .i64 ((List.range n).countP (fun i => !p i) : Nat)) ∧ Gr w w' :=
  Any.sort_Search Tryz.searchL g cb n p w eg (by omega) (fun m os i hi => hf _ ⟨m, os, rfl⟩ i hi) hmono
set_option maxRecDepth 100000 in
set_option maxHeartbeats 1600000 in
theorem lastT_any (b o n cap : Nat) (l : List (Value × Th)) (y : Int) (w : World) (hn : l.length = n) (hl : n ≤ 1000000) (hc : ∀ j p, l[j]? = some p → w.cell? ⟨b, o + j, none⟩ = some p.1 ∧ ThAt w p.1 p.2)
    (hup : upB (l.map fun p => p.2.year)) :
    Calls Tryz.prog 177 #[.slice (some ⟨b, o, none⟩) n cap, .int .i64 y, .func (.func 178) #[] #[]] w fun e w' => e = .returned (.int .i64 ((cntU (l.map fun p => p.2.year) y : Nat) - 1 : Int)) ∧ Gr w w' := by
  have S0 := ((StG.nil w).box #[.slice (some ⟨b, o, none⟩) n cap] 109 _ rfl).box #[.int .i64 y] 3 (w.heap.size + 1) (by simp)
  have S1 := S0.box #[.func (.func 178) #[] #[]] 203 (w.heap.size + 1 + 1) (by simp)
  have hys : (l.map fun p => p.2.year).length = n := by simp [hn]
  have K : ∀ W, Gr w W → Cs W [(w.heap.size + 1 + 1, 0, .func (.func 178) #[] #[]), (w.heap.size + 1, 0, .int .i64 y), (w.heap.size, 0, .slice (some ⟨b, o, none⟩) n cap)] →
      Calls Tryz.prog 211 #[.int .i64 n, .func (.func 212) #[] #[.pointer (some ⟨w.heap.size + 1 + 1, 0, none⟩), .pointer (some ⟨w.heap.size, 0, none⟩), .pointer (some ⟨w.heap.size + 1, 0, none⟩)]] W fun e w' => e = .returned (.int .i64 (cntU (l.map fun p => p.2.year) y : Nat)) ∧ Gr W w' := fun W hW hcs => by
    have := search_any 212 #[.pointer (some ⟨w.heap.size + 1 + 1, 0, none⟩), .pointer (some ⟨w.heap.size, 0, none⟩), .pointer (some ⟨w.heap.size + 1, 0, none⟩)] n (fun i => decide (y < (l.map fun p => p.2.year)[i]!)) W (enters_of Tryz.func212 (by kernel_rfl) rfl) hl
      (fun W' hW' i hi => by
        obtain ⟨p, hp⟩ : ∃ p, l[i]? = some p := ⟨_, List.getElem?_eq_getElem (by omega)⟩
        obtain ⟨k1, k2⟩ := hc i p hp
        have hg := (hW.trans hW').below
        have hcs' := hcs.keep hW'.below
        have := later_any b o n cap i y p.2 p.1 w.heap.size (w.heap.size + 1) (w.heap.size + 1 + 1) W' hi ((hg.cell (World.block_lt_of_cell? w _ k1)).trans k1) (k2.keep hg) hcs'.2.2.1.2.1 hcs'.2.1.2.1 hcs'.1.2.1
        have e : (l.map fun p => p.2.year)[i]! = p.2.year := by rw [getElem!_pos _ i (by simp; omega)]; simp [List.getElem?_eq_some_iff.1 hp |>.2]
        rw [e]; exact this)
      (fun a b hab hb => up_mono hup y a b hab (by omega))
    rwa [cntU_range _ y n hys] at this
  obtain ⟨N, hN⟩ : ∃ N, cntU (l.map fun p => p.2.year) y = N := ⟨_, rfl⟩
  have hN1 : N ≤ 1000000 := by have := cntU_le (l.map fun p => p.2.year) y; omega
  rw [hN] at K ⊢
  have HK := Lib.hid K
  have HS := Lib.hid S1
  clear K S0 S1 hys hN hup hc
  go_enter Tryz.func177, Tryz.ntmps177
  go_wp2_with fail
  refine (HK.out _ HS.out.b HS.out.c).mono ?_
  rintro e w' ⟨rfl, hg⟩
  have HG := Lib.hid (HS.out.b.trans hg)
  clear hg HK HS
  go_wp2_with fail
  go_ret
  exact ⟨rfl, HG.out⟩
theorem set4 {n b : Nat} {w W : World} (h : Below n w W) (hb : n ≤ b) (v0 v1 v2 v3 : Value) :
    Below n w ((((W.setCell ⟨b, 0, none⟩ v0).setCell ⟨b, 1, none⟩ v1).setCell ⟨b, 2, none⟩ v2).setCell ⟨b, 3, none⟩ v3) :=
  (((h.setCell (p := ⟨b, 0, none⟩) hb _).setCell (p := ⟨b, 1, none⟩) hb _).setCell (p := ⟨b, 2, none⟩) hb _).setCell (p := ⟨b, 3, none⟩) hb _
/-- A spell, and where its things lie. -/
structure SV where
  s : Spl
  q : Option Addr
  cap : Nat
abbrev SV.v (x : SV) : Value := x.s.v x.q x.cap
/-- A spell's cells. -/
def SpC (W : World) (b o : Nat) (x : SV) : Prop :=
  W.cell? ⟨b, o, none⟩ = some (.int .i64 x.s.lo) ∧ W.cell? ⟨b, o + 1, none⟩ = some (.int .i64 x.s.hi) ∧ W.cell? ⟨b, o + 2, none⟩ = some (.int .i64 x.s.wear) ∧ W.cell? ⟨b, o + 3, none⟩ = some (.slice x.q x.s.ths.length x.cap)
set_option maxHeartbeats 400000 in
theorem spYear_any (x : SV) (w : World) : Calls Tryz.prog 179 #[x.v] w fun e w' => e = .returned (.int .i64 x.s.lo) ∧ Gr w w' := by
  obtain ⟨⟨lo, hi, wear, ths⟩, q, cap⟩ := x
  simp only [SV.v, Spl.v]
  go_enter Tryz.func179, Tryz.ntmps179
  go_wp2_with fail
  go_ret
  exact ⟨rfl, Gr.al _ _⟩
set_option maxRecDepth 100000 in
set_option maxHeartbeats 1600000 in
theorem laterS_any (b o n cap : Nat) (i : Nat) (y : Int) (x : SV) (B0 B1 B2 : Nat) (w : World) (hi : i < n) (hv : SpC w b (o + i * 4) x)
    (h0 : w.cell? ⟨B0, 0, none⟩ = some (.slice (some ⟨b, o, none⟩) n cap)) (h1 : w.cell? ⟨B1, 0, none⟩ = some (.int .i64 y)) (h2 : w.cell? ⟨B2, 0, none⟩ = some (.func (.func 179) #[] #[])) :
    Calls Tryz.prog 214 #[.int .i64 (i : Int), .pointer (some ⟨B2, 0, none⟩), .pointer (some ⟨B0, 0, none⟩), .pointer (some ⟨B1, 0, none⟩)] w fun e w' => e = .returned (.bool (decide (y < x.s.lo))) ∧ Gr w w' := by
  have C1 := fun W (_ : Gr w W) => spYear_any x W
  obtain ⟨C, hC0, HC, LC, BC, hne⟩ := clsG (StG.nil w)
  haveI := hne
  have k : ∀ (a : Addr) (u : Value), w.cell? a = some u → ∀ n : Wd C, n.w.cell? a = some u := fun a u h n => ((BC.out n).below.cell (World.block_lt_of_cell? w _ h)).trans h
  obtain ⟨⟨lo, hh, wear, ths⟩, q, cp⟩ := x
  obtain ⟨v0, v1, v2, v3⟩ := hv
  have f0 := k _ _ h0
  have f1 := k _ _ h1
  have f2 := k _ _ h2
  have f3 := k _ _ v0
  have f4 := k _ _ v1
  have f5 := k _ _ v2
  have f6 := k _ _ v3
  have hi' : (i : Int) < (n : Int) := by omega
  have D1 := cinGL HC BC C1
  have HB := Lib.hid (fun n : Wd C => BC.out n)
  obtain ⟨c0, rfl⟩ : ∃ n : Wd C, w = n.w := ⟨⟨_, hC0⟩, rfl⟩
  clear h0 h1 h2 v0 v1 v2 v3 C1 k hC0
  simp only [SV.v, Spl.v] at *
  go_enter Tryz.func214, Tryz.ntmps214
  go_wp2_with fail
  refine wp_region_in C (HC.out _ _ (Wd.h _) (Gr.dr _)) (by kernel_rfl) (by kernel_rfl) ?_
  repeat (go_big_quiet_step (first | with_reducible exact (D1 _).out))
  refine wpQuiet_nil ?_
  intro wx hwx
  obtain ⟨n, rfl⟩ : ∃ n : Wd C, wx = n.w := ⟨⟨wx, hwx⟩, rfl⟩
  clear hwx
  go_wp2_with fail
  go_ret
  exact ⟨rfl, HB.out _⟩
set_option maxRecDepth 100000 in
set_option maxHeartbeats 1600000 in
theorem lastS_any (b o n cap : Nat) (l : List SV) (y : Int) (w : World) (hn : l.length = n) (hl : n ≤ 1000000) (hc : ∀ j x, l[j]? = some x → SpC w b (o + j * 4) x)
    (hup : upB (l.map fun x => x.s.lo)) :
    Calls Tryz.prog 188 #[.slice (some ⟨b, o, none⟩) n cap, .int .i64 y, .func (.func 179) #[] #[]] w fun e w' => e = .returned (.int .i64 ((cntU (l.map fun x => x.s.lo) y : Nat) - 1 : Int)) ∧ Gr w w' := by
  have S0 := ((StG.nil w).box #[.slice (some ⟨b, o, none⟩) n cap] 158 _ rfl).box #[.int .i64 y] 3 (w.heap.size + 1) (by simp)
  have S1 := S0.box #[.func (.func 179) #[] #[]] 227 (w.heap.size + 1 + 1) (by simp)
  have hys : (l.map fun x => x.s.lo).length = n := by simp [hn]
  have K : ∀ W, Gr w W → Cs W [(w.heap.size + 1 + 1, 0, .func (.func 179) #[] #[]), (w.heap.size + 1, 0, .int .i64 y), (w.heap.size, 0, .slice (some ⟨b, o, none⟩) n cap)] →
      Calls Tryz.prog 211 #[.int .i64 n, .func (.func 214) #[] #[.pointer (some ⟨w.heap.size + 1 + 1, 0, none⟩), .pointer (some ⟨w.heap.size, 0, none⟩), .pointer (some ⟨w.heap.size + 1, 0, none⟩)]] W fun e w' => e = .returned (.int .i64 (cntU (l.map fun x => x.s.lo) y : Nat)) ∧ Gr W w' := fun W hW hcs => by
    have := search_any 214 #[.pointer (some ⟨w.heap.size + 1 + 1, 0, none⟩), .pointer (some ⟨w.heap.size, 0, none⟩), .pointer (some ⟨w.heap.size + 1, 0, none⟩)] n (fun i => decide (y < (l.map fun x => x.s.lo)[i]!)) W (enters_of Tryz.func214 (by kernel_rfl) rfl) hl
      (fun W' hW' i hi => by
        obtain ⟨p, hp⟩ : ∃ p, l[i]? = some p := ⟨_, List.getElem?_eq_getElem (by omega)⟩
        obtain ⟨k1, k2, k3, k4⟩ := hc i p hp
        have hg := (hW.trans hW').below
        have hcs' := hcs.keep hW'.below
        have f : ∀ (a : Addr) (u : Value), w.cell? a = some u → W'.cell? a = some u := fun a u h => (hg.cell (World.block_lt_of_cell? w _ h)).trans h
        have := laterS_any b o n cap i y p w.heap.size (w.heap.size + 1) (w.heap.size + 1 + 1) W' hi ⟨f _ _ k1, f _ _ k2, f _ _ k3, f _ _ k4⟩ hcs'.2.2.1.2.1 hcs'.2.1.2.1 hcs'.1.2.1
        have e : (l.map fun x => x.s.lo)[i]! = p.s.lo := by rw [getElem!_pos _ i (by simp; omega)]; simp [List.getElem?_eq_some_iff.1 hp |>.2]
        rw [e]; exact this)
      (fun a b hab hb => up_mono hup y a b hab (by omega))
    rwa [cntU_range _ y n hys] at this
  obtain ⟨N, hN⟩ : ∃ N, cntU (l.map fun x => x.s.lo) y = N := ⟨_, rfl⟩
  have hN1 : N ≤ 1000000 := by have := cntU_le (l.map fun x => x.s.lo) y; omega
  rw [hN] at K ⊢
  have HK := Lib.hid K
  have HS := Lib.hid S1
  clear K S0 S1 hys hN hup hc
  go_enter Tryz.func188, Tryz.ntmps188
  go_wp2_with fail
  refine (HK.out _ HS.out.b HS.out.c).mono ?_
  rintro e w' ⟨rfl, hg⟩
  have HG := Lib.hid (HS.out.b.trans hg)
  clear hg HK HS
  go_wp2_with fail
  go_ret
  exact ⟨rfl, HG.out⟩
set_option maxRecDepth 100000 in
set_option maxHeartbeats 1600000 in
/-- The spell that contains a year. -/
theorem spellOf_any (b o n cap : Nat) (l : List SV) (y : Int) (w : World) (hn : l.length = n) (hl : n ≤ 1000000) (hb : b < w.heap.size) (hc : ∀ j x, l[j]? = some x → SpC w b (o + j * 4) x)
    (hup : upB (l.map fun x => x.s.lo)) (k : Nat) (x : SV) (hk : cntU (l.map fun x => x.s.lo) y = k + 1) (hx : l[k]? = some x) :
    Calls Tryz.prog 137 #[.slice (some ⟨b, o, none⟩) n cap, .int .i64 y] w fun e w' => e = .returned x.v ∧ Below w.heap.size w w' := by
  have C1 := fun W (hW : Below w.heap.size w W) => lastS_any b o n cap l y W hn hl (fun j x hj => by
    obtain ⟨k1, k2, k3, k4⟩ := hc j x hj
    have f : ∀ (a : Addr) (u : Value), w.cell? a = some u → W.cell? a = some u := fun a u h => (hW.cell (World.block_lt_of_cell? w _ h)).trans h
    exact ⟨f _ _ k1, f _ _ k2, f _ _ k3, f _ _ k4⟩) hup
  simp only [hk] at C1
  obtain ⟨v0, v1, v2, v3⟩ := hc k x hx
  have hkn : (k : Int) < (n : Int) := by have := (List.getElem?_eq_some_iff.1 hx).1; omega
  have C2 : ∀ W, Below w.heap.size w W → Calls Tryz.prog 188 #[.slice (some ⟨b, o, none⟩) n cap, .int .i64 y, .func (.func 179) #[] #[]] W fun e w' => e = .returned (.int .i64 (k : Int)) ∧ Gr W w' := fun W hW => by
    have := C1 W hW
    rwa [show ((k + 1 : Nat) : Int) - 1 = (k : Int) from by omega] at this
  have HB := Lib.hid hb
  clear C1 hc hup hk hx hb
  obtain ⟨⟨lo, hh, wear, ths⟩, q, cp⟩ := x
  simp only [SV.v, Spl.v] at *
  go_enter Tryz.func137, Tryz.ntmps137
  go_wp2_with fail
  obtain ⟨W0, hW0⟩ : ∃ W0, (w).alloc (.cells #[.int .i64 0, .int .i64 0, .int .i64 0, .slice none 0 0] 111) = W0 := ⟨_, rfl⟩
  have S0 : St w W0 [(w.heap.size, 0, .int .i64 0), (w.heap.size, 1, .int .i64 0), (w.heap.size, 2, .int .i64 0), (w.heap.size, 3, .slice none 0 0)] := by rw [← hW0]; exact ((St.nil w)).box #[.int .i64 0, .int .i64 0, .int .i64 0, .slice none 0 0] 111 (w.heap.size) (by simp)
  rw [hW0]
  clear hW0
  obtain ⟨C, hC0, HC, LC, BC, hne⟩ := cls S0
  haveI := hne
  obtain ⟨c0, rfl⟩ : ∃ n : Wd C, W0 = n.w := ⟨⟨_, hC0⟩, rfl⟩
  have fC0 : ∀ n : Wd C, n.w.cell? ⟨w.heap.size, 0, none⟩ = some (.int .i64 0) := fun n => (LC.out n).1.2.1
  have zC0 : ∀ n : Wd C, n.w.frozen? ⟨w.heap.size, 0, none⟩ = false := fun n => (LC.out n).1.2.2
  have fC1 : ∀ n : Wd C, n.w.cell? ⟨w.heap.size, 1, none⟩ = some (.int .i64 0) := fun n => (LC.out n).2.1.2.1
  have zC1 : ∀ n : Wd C, n.w.frozen? ⟨w.heap.size, 1, none⟩ = false := fun n => (LC.out n).2.1.2.2
  have fC2 : ∀ n : Wd C, n.w.cell? ⟨w.heap.size, 2, none⟩ = some (.int .i64 0) := fun n => (LC.out n).2.2.1.2.1
  have zC2 : ∀ n : Wd C, n.w.frozen? ⟨w.heap.size, 2, none⟩ = false := fun n => (LC.out n).2.2.1.2.2
  have fC3 : ∀ n : Wd C, n.w.cell? ⟨w.heap.size, 3, none⟩ = some (.slice none 0 0) := fun n => (LC.out n).2.2.2.1.2.1
  have zC3 : ∀ n : Wd C, n.w.frozen? ⟨w.heap.size, 3, none⟩ = false := fun n => (LC.out n).2.2.2.1.2.2
  clear S0 hC0
  refine (C2 _ (BC.out _)).mono ?_
  rintro e w1 ⟨rfl, hg⟩
  obtain ⟨m, rfl⟩ : ∃ m : Wd C, w1 = m.w := ⟨⟨_, HC.out _ _ (Wd.h _) hg.below⟩, rfl⟩
  have u0 := ((BC.out m).cell (p := ⟨b, o + k * 4, none⟩) HB.out).trans v0
  have u1 := ((BC.out m).cell (p := ⟨b, o + k * 4 + 1, none⟩) HB.out).trans v1
  have u2 := ((BC.out m).cell (p := ⟨b, o + k * 4 + 2, none⟩) HB.out).trans v2
  have u3 := ((BC.out m).cell (p := ⟨b, o + k * 4 + 3, none⟩) HB.out).trans v3
  clear hg C2 v0 v1 v2 v3
  go_wp2_with fail
  refine bodyPost_ret (v := .agg #[.int .i64 lo, .int .i64 hh, .int .i64 wear, .slice q ths.length cp]) (by simp [results, Tryz.results137, go_sem, fC0, fC1, fC2, fC3]) rfl ⟨rfl, ?_⟩
  exact set4 (BC.out m) (Nat.le_refl _) _ _ _ _
end Go.Proofs.YtcejmfgbfdhflaaGreat
namespace Go.Proofs.YtcejmfgbfdhflaaGreat
open Go.RowKit Go.Shelf Go.BigFrame Go.Sort
attribute [local go_sem] World.cell?_alloc_some
/-- A spell with its things. -/
structure Rw where
  x : SV
  l : List (Value × Th)
/-- The spells of a chain, while they are made. -/
structure SMm (W0 W : World) (n : Nat) (rs : List Rw) : Prop where
  b : Below W0.heap.size W0 W
  lt : W0.heap.size < W.heap.size
  fr : ∀ o, W.frozen? ⟨W0.heap.size, o, none⟩ = false
  old : ∀ o, o < n * 4 → ∃ v, W.cell? ⟨W0.heap.size, o, none⟩ = some v
  g3 : ∃ q a c, W.cell? ⟨W0.heap.size, 3, none⟩ = some (.slice q a c)
  sp : ∀ (i : Nat) (r : Rw), rs[i]? = some r → SpC W W0.heap.size (i * 4) r.x
  ot : ∀ (i : Nat) (r : Rw), rs[i]? = some r → OT W (W0.heap.size + 1) (.slice r.x.q r.l.length r.x.cap) r.l
  th : ∀ (i : Nat) (r : Rw), rs[i]? = some r → r.x.s.ths = r.l.map (·.2) ∧ 0 < r.l.length
  ne : ∀ (i j : Nat) (r r' : Rw), rs[i]? = some r → rs[j]? = some r' → i ≠ j → r.x.q ≠ r'.x.q
theorem SpC.keep {W W' : World} {b o : Nat} {x : SV} (h : SpC W b o x) (hb : Below W.heap.size W W') : SpC W' b o x := by
  obtain ⟨k1, k2, k3, k4⟩ := h
  have f : ∀ (a : Addr) (u : Value), W.cell? a = some u → W'.cell? a = some u := fun a u h => (hb.cell (World.block_lt_of_cell? W _ h)).trans h
  exact ⟨f _ _ k1, f _ _ k2, f _ _ k3, f _ _ k4⟩
theorem SMm.keep {W0 W W' : World} {n : Nat} {rs : List Rw} (h : SMm W0 W n rs) (hb : Below W.heap.size W W') : SMm W0 W' n rs := by
  have f : ∀ (a : Addr) (u : Value), W.cell? a = some u → W'.cell? a = some u := fun a u h => (hb.cell (World.block_lt_of_cell? W _ h)).trans h
  obtain ⟨q, a, c, hg⟩ := h.g3
  exact ⟨h.b.trans (hb.mono (Nat.le_of_lt (Nat.lt_of_le_of_lt (Nat.le_refl _) h.lt))), Nat.lt_of_lt_of_le h.lt hb.size, fun o => (hb.frozen (p := ⟨W0.heap.size, o, none⟩) h.lt).trans (h.fr o), fun o ho => by
    obtain ⟨v, hv⟩ := h.old o ho
    exact ⟨v, f _ _ hv⟩, ⟨q, a, c, f _ _ hg⟩, fun i r hr => (h.sp i r hr).keep hb, fun i r hr => (h.ot i r hr).keep hb, h.th, h.ne⟩
/-- Things stay when the spells' block is written. -/
theorem ThAt.grownX {W W' : World} {v : Value} {t : Th} (h : ThAt W v t) {G : Nat} (hg : W.grownBy W' (some G)) (hi : ∃ q a c, W.cell? ⟨G, 3, none⟩ = some (.slice q a c)) : ThAt W' v t := by
  rcases h with h | ⟨b, ch, ty, h1, h2, h3⟩
  · exact .inl h
  · have hne : G ≠ b := fun e => by
      subst e
      obtain ⟨q, a, c, hc⟩ := hi
      have := h3.2.2.2.1.2.1
      rw [hc] at this
      cases this
    exact .inr ⟨b, ch, ty, h1, h2, h3.grown hg (fun x hx e => by
      have : x.1 = b := by simp at hx; rcases hx with rfl | rfl | rfl | rfl | rfl <;> rfl
      injection e with e
      exact hne (e.symm.trans this))⟩
theorem OT.grownX {W W' : World} {B G : Nat} {v : Value} {l : List (Value × Th)} (h : OT W B v l) (hB : G < B) (hg : W.grownBy W' (some G)) (hi : ∃ q a c, W.cell? ⟨G, 3, none⟩ = some (.slice q a c)) : OT W' B v l := by
  refine ⟨?_, fun p hp => (h.at' p hp).grownX hg hi⟩
  obtain ⟨h1, h2 | ⟨g, cap, cur, rfl, hg2, hc, h3, h4, h5, h6⟩⟩ := h.own
  · exact ⟨h1, .inl h2⟩
  · exact ⟨h1, .inr ⟨g, cap, cur, rfl, hg2, by rw [hg.block g (Array.getElem?_eq_some_iff.1 hc).1 (fun e => by injection e with e; omega)]; exact hc, h3, h4, h5, h6⟩⟩
theorem set_some {W : World} {a c : Addr} {u v : Value} (h : W.cell? c = some v) : ∃ v', (W.setCell a u).cell? c = some v' := by
  by_cases e : a = c
  · subst e; exact ⟨_, World.cell?_setCell_same _ _ _ h⟩
  · exact ⟨v, by rw [World.cell?_setCell_other _ _ _ _ e]; exact h⟩
theorem set_grown (W : World) (b o : Nat) (u : Value) : W.grownBy (W.setCell ⟨b, o, none⟩ u) (some b) := by
  rw [Go.Sort.setCell_eq]
  exact grown_map _ _ _
theorem grown_trans {A B C : World} {b : Nat} (h : A.grownBy B (some b)) (k : B.grownBy C (some b)) : A.grownBy C (some b) :=
  ⟨k.os.trans h.os, k.tape.trans h.tape, k.output.trans h.output, Nat.le_trans h.size k.size, fun i hi hne => (k.block i (Nat.lt_of_lt_of_le hi h.size) hne).trans (h.block i hi hne)⟩
theorem addr_ne {b o1 o2 : Nat} (h : o1 ≠ o2) : (⟨b, o1, none⟩ : Addr) ≠ ⟨b, o2, none⟩ := fun e => h (congrArg Addr.off e)
theorem OT.blk {W : World} {B : Nat} {q : Option Addr} {c : Nat} {l : List (Value × Th)} (h : OT W B (.slice q l.length c) l) (h0 : 0 < l.length) : ∃ g, q = some ⟨g, 0, none⟩ ∧ B ≤ g ∧ g < W.heap.size := by
  obtain ⟨g, cap, e, h1, h2, _⟩ := h.sh h0
  injection e with e1 e2 e3
  exact ⟨g, e1, h1, h2⟩
/-- The spells that are made, and one more. -/
theorem SMm.push {W0 W : World} {n : Nat} {rs : List Rw} (h : SMm W0 W n rs) (hk : rs.length < n) (r : Rw) (hot : OT W (W0.heap.size + 1) (.slice r.x.q r.l.length r.x.cap) r.l) (hth : r.x.s.ths = r.l.map (·.2) ∧ 0 < r.l.length)
    (hne : ∀ (i : Nat) (r' : Rw), rs[i]? = some r' → r'.x.q ≠ r.x.q) :
    SMm W0 ((((W.setCell ⟨W0.heap.size, rs.length * 4, none⟩ (.int .i64 r.x.s.lo)).setCell ⟨W0.heap.size, rs.length * 4 + 1, none⟩ (.int .i64 r.x.s.hi)).setCell ⟨W0.heap.size, rs.length * 4 + 2, none⟩ (.int .i64 r.x.s.wear)).setCell ⟨W0.heap.size, rs.length * 4 + 3, none⟩ (.slice r.x.q r.x.s.ths.length r.x.cap)) n (rs ++ [r]) := by
  obtain ⟨k, hkk⟩ : ∃ k, rs.length = k := ⟨_, rfl⟩
  rw [hkk] at hk ⊢
  obtain ⟨v0, o0⟩ := h.old (k * 4) (by omega)
  obtain ⟨v1, o1⟩ := h.old (k * 4 + 1) (by omega)
  obtain ⟨v2, o2⟩ := h.old (k * 4 + 2) (by omega)
  obtain ⟨v3, o3⟩ := h.old (k * 4 + 3) (by omega)
  generalize hG : W0.heap.size = G at *
  have hg : W.grownBy ((((W.setCell ⟨G, k * 4, none⟩ (.int .i64 r.x.s.lo)).setCell ⟨G, k * 4 + 1, none⟩ (.int .i64 r.x.s.hi)).setCell ⟨G, k * 4 + 2, none⟩ (.int .i64 r.x.s.wear)).setCell ⟨G, k * 4 + 3, none⟩ (.slice r.x.q r.x.s.ths.length r.x.cap)) (some G) :=
    grown_trans (grown_trans (grown_trans (set_grown _ _ _ _) (set_grown _ _ _ _)) (set_grown _ _ _ _)) (set_grown _ _ _ _)
  have hb := h.b
  have hlt := h.lt
  rw [hG] at hb hlt
  have g3 := h.g3
  rw [hG] at g3
  have so : ∀ o u, (∀ c, c < 4 → o ≠ k * 4 + c) → W.cell? ⟨G, o, none⟩ = some u → ((((W.setCell ⟨G, k * 4, none⟩ (.int .i64 r.x.s.lo)).setCell ⟨G, k * 4 + 1, none⟩ (.int .i64 r.x.s.hi)).setCell ⟨G, k * 4 + 2, none⟩ (.int .i64 r.x.s.wear)).setCell ⟨G, k * 4 + 3, none⟩ (.slice r.x.q r.x.s.ths.length r.x.cap)).cell? ⟨G, o, none⟩ = some u := fun o u ho hu => by
    have a0 := ho 0 (by omega); have a1 := ho 1 (by omega); have a2 := ho 2 (by omega); have a3 := ho 3 (by omega)
    rw [World.cell?_setCell_other _ _ _ _ (addr_ne (by omega)), World.cell?_setCell_other _ _ _ _ (addr_ne (by omega)), World.cell?_setCell_other _ _ _ _ (addr_ne (by omega)), World.cell?_setCell_other _ _ _ _ (addr_ne (by omega))]
    exact hu
  have snew : SpC ((((W.setCell ⟨G, k * 4, none⟩ (.int .i64 r.x.s.lo)).setCell ⟨G, k * 4 + 1, none⟩ (.int .i64 r.x.s.hi)).setCell ⟨G, k * 4 + 2, none⟩ (.int .i64 r.x.s.wear)).setCell ⟨G, k * 4 + 3, none⟩ (.slice r.x.q r.x.s.ths.length r.x.cap)) G (k * 4) r.x := by
    refine ⟨?_, ?_, ?_, ?_⟩
    · rw [World.cell?_setCell_other _ _ _ _ (addr_ne (by omega)), World.cell?_setCell_other _ _ _ _ (addr_ne (by omega)), World.cell?_setCell_other _ _ _ _ (addr_ne (by omega))]
      exact World.cell?_setCell_same _ _ _ o0
    · rw [World.cell?_setCell_other _ _ _ _ (addr_ne (by omega)), World.cell?_setCell_other _ _ _ _ (addr_ne (by omega))]
      exact World.cell?_setCell_same _ _ _ (show _ = some v1 from by rw [World.cell?_setCell_other _ _ _ _ (addr_ne (by omega))]; exact o1)
    · rw [World.cell?_setCell_other _ _ _ _ (addr_ne (by omega))]
      exact World.cell?_setCell_same _ _ _ (show _ = some v2 from by rw [World.cell?_setCell_other _ _ _ _ (addr_ne (by omega)), World.cell?_setCell_other _ _ _ _ (addr_ne (by omega))]; exact o2)
    · exact World.cell?_setCell_same _ _ _ (show _ = some v3 from by rw [World.cell?_setCell_other _ _ _ _ (addr_ne (by omega)), World.cell?_setCell_other _ _ _ _ (addr_ne (by omega)), World.cell?_setCell_other _ _ _ _ (addr_ne (by omega))]; exact o3)
  have getr : ∀ (i : Nat) (r' : Rw), (rs ++ [r])[i]? = some r' → (i < k ∧ rs[i]? = some r') ∨ (i = k ∧ r' = r) := fun i r' hr => by
    by_cases hi : i < k
    · exact .inl ⟨hi, by rwa [List.getElem?_append_left (by omega)] at hr⟩
    · rw [List.getElem?_append_right (by omega)] at hr
      have : i - rs.length = 0 := by
        cases e : i - rs.length with
        | zero => rfl
        | succ m => rw [e] at hr; simp at hr
      rw [this] at hr
      exact .inr ⟨by omega, by simpa using hr.symm⟩
  refine ⟨?_, ?_, ?_, ?_, ?_, ?_, ?_, ?_, ?_⟩
  · rw [hG]
    exact hb.trans ⟨hg.os, hg.tape, hg.output, Nat.le_trans (Nat.le_refl _) hg.size, fun i hi => hg.block i (by omega) (fun e => by injection e with e; omega)⟩
  · rw [hG]; exact Nat.lt_of_lt_of_le hlt hg.size
  · intro o
    rw [hG, World.frozen?_setCell, World.frozen?_setCell, World.frozen?_setCell, World.frozen?_setCell, ← hG]
    exact h.fr o
  · intro o ho
    rw [hG]
    obtain ⟨v, hv⟩ := h.old o ho
    rw [hG] at hv
    obtain ⟨w1, q1⟩ := set_some (a := ⟨G, k * 4, none⟩) (u := .int .i64 r.x.s.lo) hv
    obtain ⟨w2, q2⟩ := set_some (a := ⟨G, k * 4 + 1, none⟩) (u := .int .i64 r.x.s.hi) q1
    obtain ⟨w3, q3⟩ := set_some (a := ⟨G, k * 4 + 2, none⟩) (u := .int .i64 r.x.s.wear) q2
    exact set_some q3
  · rw [hG]
    obtain ⟨q, a, c, hc⟩ := g3
    by_cases e : k = 0
    · subst e
      exact ⟨_, _, _, snew.2.2.2⟩
    · exact ⟨q, a, c, so 3 _ (fun c hc => by omega) hc⟩
  · intro i r' hr
    rw [hG]
    rcases getr i r' hr with ⟨hi, hr⟩ | ⟨rfl, rfl⟩
    · obtain ⟨p0, p1, p2, p3⟩ := h.sp i r' hr
      rw [hG] at p0 p1 p2 p3
      exact ⟨so _ _ (fun c hc => by omega) p0, so _ _ (fun c hc => by omega) p1, so _ _ (fun c hc => by omega) p2, so _ _ (fun c hc => by omega) p3⟩
    · exact snew
  · intro i r' hr
    rw [hG]
    rcases getr i r' hr with ⟨hi, hr⟩ | ⟨rfl, rfl⟩
    · have := h.ot i r' hr
      rw [hG] at this
      exact this.grownX (Nat.lt_succ_self _) hg g3
    · exact hot.grownX (Nat.lt_succ_self _) hg g3
  · intro i r' hr
    rcases getr i r' hr with ⟨hi, hr⟩ | ⟨rfl, rfl⟩
    · exact h.th i r' hr
    · exact hth
  · intro i j r1 r2 h1 h2 hij
    rcases getr i r1 h1 with ⟨hi, k1⟩ | ⟨e1, e2⟩
    · rcases getr j r2 h2 with ⟨hj, k2⟩ | ⟨e3, e4⟩
      · exact h.ne i j r1 r2 k1 k2 hij
      · rw [e4]; exact hne i r1 k1
    · rcases getr j r2 h2 with ⟨hj, k2⟩ | ⟨e3, e4⟩
      · rw [e2]; exact fun e => hne j r2 k2 e.symm
      · omega
/-- One thing more in one of the spells. -/
theorem SMm.turn {W0 W W2 : World} {n : Nat} {rs : List Rw} (h : SMm W0 W n rs) (i : Nat) (r : Rw) (hr : rs[i]? = some r) (hin : i < n) (u : Value) (t : Th) (q' : Option Addr) (c' : Nat)
    (hg : W.grownBy W2 (Value.slice r.x.q r.l.length r.x.cap).ownBlock) (hO : OT W2 (W0.heap.size + 1) (.slice q' (r.l.length + 1) c') (r.l ++ [(u, t)]))
    (hB : (Value.slice q' (r.l.length + 1) c').ownBlock = (Value.slice r.x.q r.l.length r.x.cap).ownBlock ∨ (Value.slice q' (r.l.length + 1) c').ownBlock = some (W.heap.size + 1)) :
    SMm W0 (W2.setCell ⟨W0.heap.size, i * 4 + 3, none⟩ (.slice q' (r.l.length + 1) c')) n (rs.set i ⟨⟨⟨r.x.s.lo, r.x.s.hi, r.x.s.wear, r.x.s.ths ++ [t]⟩, q', c'⟩, r.l ++ [(u, t)]⟩) := by
  have hot := h.ot i r hr
  obtain ⟨e1, e2⟩ := h.th i r hr
  obtain ⟨g, rfg, hgB, hgW⟩ := hot.blk e2
  have hfirst := hot.first e2
  obtain ⟨g', rfg', hgB', hgW'⟩ := OT.blk (l := r.l ++ [(u, t)]) (c := c') (q := q') (by simpa using hO) (by simp)
  rw [rfg, rfg'] at hB
  simp only [Value.ownBlock, Option.some.injEq] at hB
  rw [rfg] at hg
  change W.grownBy W2 (some g) at hg
  have hfirst2 : ∀ x, some g = some x → ∃ ty u, W.cell? ⟨x, 0, none⟩ = some (.iface ty u) := fun x hx => hfirst x (by rw [rfg]; exact hx)
  have hi1 : i < rs.length := (List.getElem?_eq_some_iff.1 hr).1
  obtain ⟨v3, o3⟩ := h.old (i * 4 + 3) (by omega)
  generalize hG : W0.heap.size = G at *
  have hb := h.b
  have hlt := h.lt
  have g3 := h.g3
  rw [hG] at hb hlt g3
  have gG : g ≠ G := by omega
  have cG : ∀ o, W2.cell? ⟨G, o, none⟩ = W.cell? ⟨G, o, none⟩ := fun o => World.cell?_of_block (a := ⟨G, o, none⟩) (hg.block G hlt (fun e => by injection e with e; omega))
  have fG : ∀ o, W2.frozen? ⟨G, o, none⟩ = W.frozen? ⟨G, o, none⟩ := fun o => World.frozen?_of_block (a := ⟨G, o, none⟩) (hg.block G hlt (fun e => by injection e with e; omega))
  have hs := set_grown W2 G (i * 4 + 3) (.slice q' (r.l.length + 1) c')
  have g32 : ∃ q a c, W2.cell? ⟨G, 3, none⟩ = some (.slice q a c) := by
    obtain ⟨q, a, c, hc⟩ := g3
    exact ⟨q, a, c, by rw [cG]; exact hc⟩
  have getr : ∀ (j : Nat) (r' : Rw), (rs.set i ⟨⟨⟨r.x.s.lo, r.x.s.hi, r.x.s.wear, r.x.s.ths ++ [t]⟩, q', c'⟩, r.l ++ [(u, t)]⟩)[j]? = some r' → (j ≠ i ∧ rs[j]? = some r') ∨ (j = i ∧ r' = ⟨⟨⟨r.x.s.lo, r.x.s.hi, r.x.s.wear, r.x.s.ths ++ [t]⟩, q', c'⟩, r.l ++ [(u, t)]⟩) := fun j r' hr' => by
    by_cases e : i = j
    · subst e
      rw [List.getElem?_set_self hi1] at hr'
      exact .inr ⟨rfl, (Option.some.inj hr').symm⟩
    · rw [List.getElem?_set_ne e] at hr'
      exact .inl ⟨Ne.symm e, hr'⟩
  refine ⟨?_, ?_, ?_, ?_, ?_, ?_, ?_, ?_, ?_⟩
  · rw [hG]
    have k1 : Below G W0 W2 := hb.trans ⟨hg.os, hg.tape, hg.output, hg.size, fun x hx => hg.block x (by omega) (fun e => by injection e with e; omega)⟩
    exact k1.setCell (p := ⟨G, i * 4 + 3, none⟩) (Nat.le_refl _) _
  · rw [hG]; exact Nat.lt_of_lt_of_le hlt (Nat.le_trans hg.size hs.size)
  · intro o
    rw [hG, World.frozen?_setCell, fG, ← hG]
    exact h.fr o
  · intro o ho
    rw [hG]
    obtain ⟨v, hv⟩ := h.old o ho
    rw [hG] at hv
    exact set_some (by rw [cG]; exact hv)
  · rw [hG]
    by_cases e : i = 0
    · subst e
      exact ⟨_, _, _, World.cell?_setCell_same _ _ _ (show _ = some v3 from by rw [cG]; exact o3)⟩
    · obtain ⟨q, a, c, hc⟩ := g32
      exact ⟨q, a, c, by rw [World.cell?_setCell_other _ _ _ _ (addr_ne (by omega))]; exact hc⟩
  · intro j r' hr'
    rw [hG]
    rcases getr j r' hr' with ⟨hj, k1⟩ | ⟨e3, e4⟩
    · obtain ⟨p0, p1, p2, p3⟩ := h.sp j r' k1
      rw [hG] at p0 p1 p2 p3
      refine ⟨?_, ?_, ?_, ?_⟩ <;> (rw [World.cell?_setCell_other _ _ _ _ (addr_ne (by omega)), cG]; assumption)
    · obtain ⟨p0, p1, p2, p3⟩ := h.sp i r hr
      rw [hG] at p0 p1 p2 p3
      subst e3 e4
      refine ⟨?_, ?_, ?_, ?_⟩
      · rw [World.cell?_setCell_other _ _ _ _ (addr_ne (by omega)), cG]; exact p0
      · rw [World.cell?_setCell_other _ _ _ _ (addr_ne (by omega)), cG]; exact p1
      · rw [World.cell?_setCell_other _ _ _ _ (addr_ne (by omega)), cG]; exact p2
      · rw [World.cell?_setCell_same _ _ _ (show _ = some v3 from by rw [cG]; exact o3)]
        simp only [List.length_append, List.length_cons, List.length_nil, e1, List.length_map]
  · intro j r' hr'
    rw [hG]
    rcases getr j r' hr' with ⟨hj, k1⟩ | ⟨e3, e4⟩
    · have k2 := h.ot j r' k1
      rw [hG] at k2
      obtain ⟨gj, ej, hgj, hgjW⟩ := k2.blk (h.th j r' k1).2
      have hne : gj ≠ g := fun e => h.ne j i r' r k1 hr hj (by rw [ej, rfg, e])
      have k3 : OT W2 (G + 1) (.slice r'.x.q r'.l.length r'.x.cap) r'.l := by
        refine ⟨?_, fun p hp => (k2.at' p hp).grownG hg hfirst2⟩
        obtain ⟨h1, h2 | ⟨g0, cap, cur, ee, hg2, hc, h3, h4, h5, h6⟩⟩ := k2.own
        · exact ⟨h1, .inl h2⟩
        · have : g0 = gj := by
            rw [ej] at ee
            injection ee with ee _ _
            injection ee with ee
            injection ee with ee
            exact ee.symm
          exact ⟨h1, .inr ⟨g0, cap, cur, ee, hg2, by rw [hg.block g0 (Array.getElem?_eq_some_iff.1 hc).1 (fun e => by injection e with e; omega)]; exact hc, h3, h4, h5, h6⟩⟩
      exact k3.grownX (Nat.lt_succ_self _) hs g32
    · subst e4
      have := hO.grownX (Nat.lt_succ_self _) hs g32
      simpa using this
  · intro j r' hr'
    rcases getr j r' hr' with ⟨hj, k1⟩ | ⟨e3, e4⟩
    · exact h.th j r' k1
    · subst e4
      exact ⟨by simp [e1], by simp⟩
  · have key : ∀ (j : Nat) (r' : Rw), rs[j]? = some r' → j ≠ i → r'.x.q ≠ q' := fun j r' k1 hj => by
      have k2 := h.ot j r' k1
      obtain ⟨gj, ej, hgj, hgjW⟩ := k2.blk (h.th j r' k1).2
      have hne : gj ≠ g := fun e => h.ne j i r' r k1 hr hj (by rw [ej, rfg, e])
      rw [ej, rfg']
      intro e
      injection e with e
      injection e with e
      omega
    intro a b r1 r2 h1 h2 hab
    rcases getr a r1 h1 with ⟨hi, k1⟩ | ⟨e1, e2⟩
    · rcases getr b r2 h2 with ⟨hj, k2⟩ | ⟨e3, e4⟩
      · exact h.ne a b r1 r2 k1 k2 hab
      · rw [e4]; exact key a r1 k1 hi
    · rcases getr b r2 h2 with ⟨hj, k2⟩ | ⟨e3, e4⟩
      · rw [e2]; exact fun e => key b r2 k2 hj e.symm
      · omega
end Go.Proofs.YtcejmfgbfdhflaaGreat
namespace Go.Proofs.YtcejmfgbfdhflaaGreat
open Go.RowKit Go.Shelf Go.BigFrame Go.Sort
attribute [local go_sem] World.cell?_alloc_some
theorem info111 : (Tryz.prog.info? 111).map (fun i => (i.zero, i.size, i.bytes)) = some (some (.agg #[.int .i64 0, .int .i64 0, .int .i64 0, .slice none 0 0]), 4, 48) := by kernel_rfl
theorem make158 (u : World) (n : Nat) (h : n ≤ 1000000) : (Instr.makeSlice 158 (.int .i64 (n : Int)) (.int .i64 (n : Int))).run Tryz.prog u = .ok (.slice (some ⟨u.heap.size, 0, none⟩) n n) (u.alloc (.cells (madeCells #[.int .i64 0, .int .i64 0, .int .i64 0, .slice none 0 0] (n * 4)) 111)) := by
  have hi := info111
  cases h0 : Tryz.prog.info? 111 with
  | none => rw [h0] at hi; cases hi
  | some i =>
    rw [h0] at hi
    simp only [Option.map_some, Option.some.injEq, Prod.mk.injEq] at hi
    obtain ⟨h1, h2, h3⟩ := hi
    have := run_make (P := Tryz.prog) u 158 111 i _ Tryz.underlying158 h0 h1 .i64 .i64 n n (by omega) (Int.le_refl _) (by rw [h3]; omega) (by omega)
    rw [h2] at this
    simpa [Value.cells] using this
theorem SMm.start (W0 : World) (n : Nat) (hn : 0 < n) : SMm W0 (W0.alloc (.cells (madeCells #[.int .i64 0, .int .i64 0, .int .i64 0, .slice none 0 0] (n * 4)) 111)) n [] := by
  have hc : ∀ o, o < n * 4 → ∃ v, (madeCells #[.int .i64 0, .int .i64 0, .int .i64 0, .slice none 0 0] (n * 4)).toList[o]? = some v := fun o ho => ⟨_, List.getElem?_eq_getElem (by rw [Array.length_toList, size_madeCells]; exact ho)⟩
  refine ⟨below_al _ _, by simp, fun o => new_fz _ _ _ _, fun o ho => ?_, ?_, fun i r h => by simp at h, fun i r h => by simp at h, fun i r h => by simp at h, fun i j r r' h => by simp at h⟩
  · obtain ⟨v, hv⟩ := hc o ho
    exact ⟨v, new_at _ _ _ _ _ hv⟩
  · refine ⟨none, 0, 0, new_at _ _ _ _ _ ?_⟩
    have h3 : 3 < n * 4 := by omega
    simp [madeCells, h3]
theorem SMm.cellsAt {W0 W : World} {n : Nat} {rs : List Rw} (h : SMm W0 W n rs) {G : Nat} (hG : W0.heap.size = G) (k : Nat) (hk : k < n) :
    ∃ v0 v1 v2 v3, (W.cell? ⟨G, k * 4, none⟩ = some v0 ∧ W.cell? ⟨G, k * 4 + 1, none⟩ = some v1 ∧ W.cell? ⟨G, k * 4 + 2, none⟩ = some v2 ∧ W.cell? ⟨G, k * 4 + 3, none⟩ = some v3) ∧
      W.frozen? ⟨G, k * 4, none⟩ = false ∧ W.frozen? ⟨G, k * 4 + 1, none⟩ = false ∧ W.frozen? ⟨G, k * 4 + 2, none⟩ = false ∧ W.frozen? ⟨G, k * 4 + 3, none⟩ = false := by
  subst hG
  obtain ⟨v0, o0⟩ := h.old (k * 4) (by omega)
  obtain ⟨v1, o1⟩ := h.old (k * 4 + 1) (by omega)
  obtain ⟨v2, o2⟩ := h.old (k * 4 + 2) (by omega)
  obtain ⟨v3, o3⟩ := h.old (k * 4 + 3) (by omega)
  exact ⟨v0, v1, v2, v3, ⟨o0, o1, o2, o3⟩, h.fr _, h.fr _, h.fr _, h.fr _⟩
/-- The spells that are made, and one more with one thing. -/
theorem SMm.push1 {W0 W : World} {n : Nat} {rs : List Rw} (h : SMm W0 W n rs) {G k : Nat} (hG : W0.heap.size = G) (hl : rs.length = k) (hk : k < n) (lo hi wear : Int) (u : Value) (t : Th) (ht : ThAt W u t) :
    SMm W0 (((((W.alloc (.cells #[u] 148)).setCell ⟨G, k * 4, none⟩ (.int .i64 lo)).setCell ⟨G, k * 4 + 1, none⟩ (.int .i64 hi)).setCell ⟨G, k * 4 + 2, none⟩ (.int .i64 wear)).setCell ⟨G, k * 4 + 3, none⟩ (.slice (some ⟨W.heap.size, 0, none⟩) 1 1)) n (rs ++ [⟨⟨⟨lo, hi, wear, [t]⟩, some ⟨W.heap.size, 0, none⟩, 1⟩, [(u, t)]⟩]) := by
  have h2 := (h.keep (below_al W (.cells #[u] 148))).push (by omega) ⟨⟨⟨lo, hi, wear, [t]⟩, some ⟨W.heap.size, 0, none⟩, 1⟩, [(u, t)]⟩ (OT.one u t ht _ h.lt) ⟨rfl, Nat.one_pos⟩ (fun i r' hr' e => by
    obtain ⟨g, e1, _, h1⟩ := (h.ot i r' hr').blk (h.th i r' hr').2
    rw [e1] at e
    injection e with e
    injection e with e
    omega)
  rw [hG, hl] at h2
  exact h2
theorem sets_past (W : World) (o : Obj) (G a : Nat) (hn : G < W.heap.size) (v0 v1 v2 v3 : Value) :
    ((((W.alloc o).setCell ⟨G, a, none⟩ v0).setCell ⟨G, a + 1, none⟩ v1).setCell ⟨G, a + 2, none⟩ v2).setCell ⟨G, a + 3, none⟩ v3 = ((((W.setCell ⟨G, a, none⟩ v0).setCell ⟨G, a + 1, none⟩ v1).setCell ⟨G, a + 2, none⟩ v2).setCell ⟨G, a + 3, none⟩ v3).alloc o := by
  rw [World.setCell_alloc_past _ _ _ _ hn, World.setCell_alloc_past _ _ _ _ (by simpa using hn), World.setCell_alloc_past _ _ _ _ (by simpa using hn), World.setCell_alloc_past _ _ _ _ (by simpa using hn)]
theorem SMm.pushA {W0 W : World} {n : Nat} {rs : List Rw} (h : SMm W0 W n rs) {G k : Nat} (hG : W0.heap.size = G) (hl : rs.length = k) (hk : k < n) (lo hi wear : Int) (u : Value) (t : Th) (ht : ThAt W u t) :
    SMm W0 (((((W.setCell ⟨G, k * 4, none⟩ (.int .i64 lo)).setCell ⟨G, k * 4 + 1, none⟩ (.int .i64 hi)).setCell ⟨G, k * 4 + 2, none⟩ (.int .i64 wear)).setCell ⟨G, k * 4 + 3, none⟩ (.slice (some ⟨W.heap.size, 0, none⟩) 1 1)).alloc (.cells #[u] 148)) n (rs ++ [⟨⟨⟨lo, hi, wear, [t]⟩, some ⟨W.heap.size, 0, none⟩, 1⟩, [(u, t)]⟩]) := by
  have := h.push1 hG hl hk lo hi wear u t ht
  rwa [sets_past W _ G (k * 4) (hG ▸ h.lt)] at this
theorem SMm.pushB {W0 W : World} {n : Nat} {rs : List Rw} (h : SMm W0 W n rs) {G k : Nat} (hG : W0.heap.size = G) (hl : rs.length = k) (hk : k < n) (lo hi wear : Int) (u : Value) (t : Th) (ht : ThAt W u t) (Y : Obj) :
    SMm W0 ((((((W.setCell ⟨G, k * 4, none⟩ (.int .i64 lo)).setCell ⟨G, k * 4 + 1, none⟩ (.int .i64 hi)).setCell ⟨G, k * 4 + 2, none⟩ (.int .i64 wear)).setCell ⟨G, k * 4 + 3, none⟩ (.slice (some ⟨W.heap.size + 1, 0, none⟩) 1 1)).alloc Y).alloc (.cells #[u] 148)) n (rs ++ [⟨⟨⟨lo, hi, wear, [t]⟩, some ⟨W.heap.size + 1, 0, none⟩, 1⟩, [(u, t)]⟩]) := by
  have := (h.keep (below_al W Y)).pushA hG hl hk lo hi wear u t (ht.keep (below_al _ _))
  rw [World.size_alloc] at this
  rwa [sets_past W _ G (k * 4) (hG ▸ h.lt)] at this
def dTh : Th := ⟨0, 0, 0, 0⟩
/-- The last year of a spell. -/
def hiP (ts : List Th) (i : Nat) : Int := if i + 1 < ts.length then (ts.getD (i + 1) dTh).year - 1 else 4000
/-- A spell, with some of the proofs. -/
def spP (c : Ch) (ts : List Th) (pp : List Pf) (i : Nat) : Spl := ⟨(ts.getD i dTh).year, hiP ts i, c.wear, ts.getD i dTh :: (pp.filter fun p => p.ch == c.id && decide (cntU (ts.map (·.year)) p.year = i + 1)).map Pf.th⟩
theorem OT.cells {W : World} {B n cap g : Nat} {l : List (Value × Th)} (h : OT W B (.slice (some ⟨g, 0, none⟩) n cap) l) : ∀ j p, l[j]? = some p → W.cell? ⟨g, j, none⟩ = some p.1 ∧ ThAt W p.1 p.2 := by
  intro j p hp
  have hj : j < l.length := (List.getElem?_eq_some_iff.1 hp).1
  refine ⟨?_, h.at' p (List.mem_of_getElem? hp)⟩
  obtain ⟨h1, ⟨e, h2⟩ | ⟨g', cap', cur, e, hB, hc, h3, h4, h5, h6⟩⟩ := h.own
  · cases e
  · injection e with e _ _
    injection e with e
    injection e with e
    subst e
    have k1 : (l.map (·.1))[j]? = some p.1 := by rw [List.getElem?_map, hp]; rfl
    rw [← h6, List.getElem?_take_of_lt (by omega)] at k1
    simpa [World.cell?, hc] using k1
theorem getD_some {α : Type} {l : List α} {i : Nat} {d x : α} (h : l[i]? = some x) : l.getD i d = x := by simp [List.getD, h]
/-- The things of a spell lie in a block from B on. -/
def ThsN (B : Nat) (W : World) (q : Option Addr) (ts : List Th) : Prop := ∃ g, q = some ⟨g, 0, none⟩ ∧ B ≤ g ∧ g < W.heap.size ∧ ∀ (j : Nat) (t : Th), ts[j]? = some t → ∃ v, W.cell? ⟨g, j, none⟩ = some v ∧ ThAt W v t
theorem ThsN.ths {B : Nat} {W : World} {q : Option Addr} {ts : List Th} (h : ThsN B W q ts) : ThsAt W q ts := by
  obtain ⟨g, h1, h2, h3, h4⟩ := h
  exact .inr ⟨g, 0, h1, h3, fun j t ht => by rw [Nat.zero_add]; exact h4 j t ht⟩
theorem ThsN.base {B C : Nat} {W : World} {q : Option Addr} {ts : List Th} (h : ThsN B W q ts) (hc : C ≤ B) : ThsN C W q ts := by
  obtain ⟨g, h1, h2, h3, h4⟩ := h
  exact ⟨g, h1, Nat.le_trans hc h2, h3, h4⟩
theorem ThsN.keep {B : Nat} {W W' : World} {q : Option Addr} {ts : List Th} (h : ThsN B W q ts) (hb : Below W.heap.size W W') : ThsN B W' q ts := by
  obtain ⟨g, h1, h2, h3, h4⟩ := h
  refine ⟨g, h1, h2, Nat.lt_of_lt_of_le h3 hb.size, fun j t ht => ?_⟩
  obtain ⟨v, hv, ha⟩ := h4 j t ht
  exact ⟨v, (hb.cell (p := ⟨g, j, none⟩) h3).trans hv, ha.keep hb⟩
/-- They stay when an older block is written whose fourth cell is a slice. -/
theorem ThsN.grownX {B R : Nat} {W W' : World} {q : Option Addr} {ts : List Th} (h : ThsN B W q ts) (hR : R < B) (hg : W.grownBy W' (some R)) (hi : ∃ q a c, W.cell? ⟨R, 3, none⟩ = some (.slice q a c)) : ThsN B W' q ts := by
  obtain ⟨g, h1, h2, h3, h4⟩ := h
  refine ⟨g, h1, h2, Nat.lt_of_lt_of_le h3 hg.size, fun j t ht => ?_⟩
  obtain ⟨v, hv, ha⟩ := h4 j t ht
  exact ⟨v, (World.cell?_of_block (a := ⟨g, j, none⟩) (hg.block g h3 (fun e => by injection e with e; omega))).trans hv, ha.grownX hg hi⟩
/-- One thing more: what becomes of the row. -/
theorem appT2 {B : Nat} {q : Option Addr} {c : Nat} {l : List (Value × Th)} {W : World} (hP : OT W B (.slice q l.length c) l) (h0 : 0 < l.length) (hw : B ≤ W.heap.size) (u : Value) (t : Th) (ht : ThAt W u t) (hl : l.length ≤ 1000000) {ops : Array Oper} {rest : List Oper} {o : Oper} {a : Act} {Q : Exit → Act → World → Prop} (hgd : o.guard = none) (s y : Operand)
    (ho : o.op = .call { callee := .builtin .append, args := #[s, y], argTypes := #[109, 109] }) (hs : a.eval s = .slice q l.length c) (hx : a.eval y = .slice (some ⟨W.heap.size, 0, none⟩) 1 1)
    (h : ∀ q' c' w', OT w' B (.slice q' (l.length + 1) c') (l ++ [(u, t)]) → l.length + 1 ≤ c' ∧ c' ≤ maxLen → W.grownBy w' (Value.slice q l.length c).ownBlock →
      ((Value.slice q' (l.length + 1) c').ownBlock = (Value.slice q l.length c).ownBlock ∨ (Value.slice q' (l.length + 1) c').ownBlock = some (W.heap.size + 1)) → wpList Tryz.prog ops Q rest (a.put o.dst (.slice q' (l.length + 1) c')) w') : wpList Tryz.prog ops Q (o :: rest) a (W.alloc (.cells #[u] 148)) := by
  obtain ⟨i0, hi, hz0, hz1, hz2⟩ := info_parts inf148
  obtain ⟨ty, uu, rfl⟩ := ht.iface
  refine wpList_append_own_at _ hgd s y 109 ho B 148 i0 .nilIface 1 16 Tryz.underlying109 hi hz0 hz1 hz2 rfl (by decide) (.slice q l.length c) l.length (l.map (·.1)) hs (hP.own.alloc _) ⟨W.heap.size, 0, none⟩ 1 1 [.iface ty uu] hx rfl ?_ ?_ ?_ ?_ ?_ ?_
  · intro j u hu
    match j, hu with
    | 0, hu =>
      obtain rfl : Value.iface ty uu = u := by simpa using hu
      exact new_at W _ 148 0 _ rfl
  · intro u hu; obtain rfl : u = .iface ty uu := by simpa using hu
    rfl
  · unfold maxLen; omega
  · omega
  · simp; omega
  · intro v' w' ho' hg _ hb
    have hG : W.grownBy w' (Value.slice q l.length c).ownBlock := ⟨hg.os, hg.tape, hg.output, by have := hg.size; simp at this; omega, fun k hk hne => (hg.block k (by simp; omega) hne).trans (Below.heap_alloc W _ k hk)⟩
    have hO : OT w' B v' (l ++ [(.iface ty uu, t)]) := by
      refine ⟨?_, fun p hp => ?_⟩
      · rw [List.length_append, List.map_append]; exact ho'
      · rcases List.mem_append.1 hp with hp | hp
        · exact (hP.at' p hp).grownG hG (hP.first h0)
        · obtain rfl : p = (.iface ty uu, t) := by simpa using hp
          exact ht.grownG hG (hP.first h0)
    obtain ⟨g, cap, rfl, h1, h2, h3, h4⟩ := hO.sh (by simp)
    rw [show (l ++ [(Value.iface ty uu, t)]).length = l.length + 1 from by simp] at *
    rw [World.size_alloc] at hb
    exact h _ _ _ hO ⟨h3, h4⟩ hG hb
theorem spP_step (c : Ch) (ts : List Th) (pp : List Pf) (p : Pf) (a : Nat) : spP c ts (pp ++ [p]) a = if (p.ch == c.id && decide (cntU (ts.map (·.year)) p.year = a + 1)) = true then { spP c ts pp a with ths := (spP c ts pp a).ths ++ [p.th] } else spP c ts pp a := by
  unfold spP
  rw [List.filter_append, List.map_append]
  by_cases e : (p.ch == c.id && decide (cntU (ts.map (·.year)) p.year = a + 1)) = true
  · rw [if_pos e]; simp [e]
  · rw [if_neg e]; simp [e]
set_option maxRecDepth 100000 in
set_option maxHeartbeats 6400000 in
theorem spells_any (x : WA) (c : Ch) (w : World) (h : x.At w) (hy : ∀ p ∈ x.ps, p.ch = c.id → c.year ≤ p.year) (hty : ∀ t ∈ begs x.rs c, 0 ≤ t.year ∧ t.year ≤ 4000) :
    Calls Tryz.prog 115 #[x.v, c.v] w fun e w' => (∃ (G n : Nat) (ts : List Th) (xs : List SV), e = .returned (.slice (some ⟨G, 0, none⟩) n n) ∧ ts.Perm (begs x.rs c) ∧ ts.Pairwise (fun a b => a.year ≤ b.year) ∧ ts.length = n ∧ xs.length = n ∧ G < w'.heap.size ∧
      (xs.map (·.s) = (List.range n).map (spP c ts x.ps)) ∧ ∀ (i : Nat) (sv : SV), xs[i]? = some sv → SpC w' G (i * 4) sv ∧ ThsN w.heap.size w' sv.q sv.s.ths ∧ sv.s.ths.length ≤ sv.cap ∧ sv.cap ≤ maxLen) ∧ Below w.heap.size w w' := by
  have n2 := h.n2
  have K1 := fun W (hb : Below w.heap.size w W) => beginnings_any x c W (h.keep hb)
  have H := Lib.hid h.ps
  have n3 := h.n3
  have HY := Lib.hid hy
  have HTY := Lib.hid hty
  clear h hy hty
  obtain ⟨cs, ps, rs, q1, q2, q3, c1, c2, c3⟩ := x
  simp only [WA.v] at *
  go_enter Tryz.func115, Tryz.ntmps115
  go_wp2_with fail
  obtain ⟨W0, hW0⟩ : ∃ W0, ((w).alloc (.cells #[.slice q1 cs.length c1, .slice q2 ps.length c2, .slice q3 rs.length c3] 26)).alloc (.cells #[.int .i64 c.id, .int .i64 c.year, .int .i64 c.lo, .int .i64 c.hi, .int .i64 c.wear] 90) = W0 := ⟨_, rfl⟩
  have S0 : St w W0 [(w.heap.size + 1, 0, .int .i64 c.id), (w.heap.size + 1, 1, .int .i64 c.year), (w.heap.size + 1, 2, .int .i64 c.lo), (w.heap.size + 1, 3, .int .i64 c.hi), (w.heap.size + 1, 4, .int .i64 c.wear), (w.heap.size, 0, .slice q1 cs.length c1), (w.heap.size, 1, .slice q2 ps.length c2), (w.heap.size, 2, .slice q3 rs.length c3)] := by rw [← hW0]; exact (((St.nil w)).box #[.slice q1 cs.length c1, .slice q2 ps.length c2, .slice q3 rs.length c3] 26 (w.heap.size) (by simp)).box #[.int .i64 c.id, .int .i64 c.year, .int .i64 c.lo, .int .i64 c.hi, .int .i64 c.wear] 90 (w.heap.size + 1) (by simp)
  rw [hW0]
  clear hW0
  obtain ⟨C, hC0, HC, LC, BC, hne⟩ := cls S0
  haveI := hne
  obtain ⟨c0, rfl⟩ : ∃ n : Wd C, W0 = n.w := ⟨⟨_, hC0⟩, rfl⟩
  have fC0 : ∀ n : Wd C, n.w.cell? ⟨w.heap.size + 1, 0, none⟩ = some (.int .i64 c.id) := fun n => (LC.out n).1.2.1
  have fC1 : ∀ n : Wd C, n.w.cell? ⟨w.heap.size + 1, 1, none⟩ = some (.int .i64 c.year) := fun n => (LC.out n).2.1.2.1
  have fC2 : ∀ n : Wd C, n.w.cell? ⟨w.heap.size + 1, 2, none⟩ = some (.int .i64 c.lo) := fun n => (LC.out n).2.2.1.2.1
  have fC3 : ∀ n : Wd C, n.w.cell? ⟨w.heap.size + 1, 3, none⟩ = some (.int .i64 c.hi) := fun n => (LC.out n).2.2.2.1.2.1
  have fC4 : ∀ n : Wd C, n.w.cell? ⟨w.heap.size + 1, 4, none⟩ = some (.int .i64 c.wear) := fun n => (LC.out n).2.2.2.2.1.2.1
  have fC5 : ∀ n : Wd C, n.w.cell? ⟨w.heap.size, 0, none⟩ = some (.slice q1 cs.length c1) := fun n => (LC.out n).2.2.2.2.2.1.2.1
  have fC6 : ∀ n : Wd C, n.w.cell? ⟨w.heap.size, 1, none⟩ = some (.slice q2 ps.length c2) := fun n => (LC.out n).2.2.2.2.2.2.1.2.1
  have fC7 : ∀ n : Wd C, n.w.cell? ⟨w.heap.size, 2, none⟩ = some (.slice q3 rs.length c3) := fun n => (LC.out n).2.2.2.2.2.2.2.1.2.1
  clear S0 hC0
  go_wp2_with fail
  refine (K1 _ (BC.out _)).mono ?_
  rintro e w1 ⟨⟨g, cap, m, rfl, l, hlm, hm0, hmc, hcm, hperm, hsort, hO⟩, hb⟩
  have S1 : St w w1 [(w.heap.size + 1, 0, .int .i64 c.id), (w.heap.size + 1, 1, .int .i64 c.year), (w.heap.size + 1, 2, .int .i64 c.lo), (w.heap.size + 1, 3, .int .i64 c.hi), (w.heap.size + 1, 4, .int .i64 c.wear), (w.heap.size, 0, .slice q1 cs.length c1), (w.heap.size, 1, .slice q2 ps.length c2), (w.heap.size, 2, .slice q3 rs.length c3)] := ⟨(BC.out _).trans (hb.mono (BC.out _).size), (LC.out _).keep hb⟩
  clear hb K1 HC LC BC fC0 fC1 fC2 fC3 fC4 fC5 fC6 fC7 hne
  have hm : m ≤ 1001 := by
    have := hperm.length_eq
    rw [List.length_map] at this
    rw [← hlm, this]
    unfold begs
    have := List.length_filter_le (fun r : Pf => r.ch == c.id) rs
    simp
    omega
  have HP := Lib.hid (And.intro hperm hsort)
  have HL := Lib.hid hlm
  have HOC := Lib.hid hO.cells
  have HUP : Hid (upB ((l.map (·.2)).map (·.year))) := by
    unfold Hid upB
    rw [List.map_map, List.pairwise_map]
    exact hsort
  clear hperm hsort hO hlm hcm
  have hmk := make158 w1 m (by omega)
  go_wp2_with fail
  have S0 := SMm.start w1 m hm0
  obtain ⟨wk, hwk⟩ : ∃ wk, w1.alloc (.cells (madeCells #[.int .i64 0, .int .i64 0, .int .i64 0, .slice none 0 0] (m * 4)) 111) = wk := ⟨_, rfl⟩
  rw [hwk] at S0 ⊢
  have HS0 := Lib.hid S0
  have HS1 := Lib.hid S1
  obtain ⟨G, hG⟩ : ∃ G, w1.heap.size = G := ⟨_, rfl⟩
  have HG := Lib.hid hG
  rw [hG]
  clear hwk S0 S1 hmk hG
  go_loopw [22] (fun i wr => ∃ (k : Nat) (rws : List Rw), SMm w1 wr m rws ∧ rws.map (·.x.s) = (List.range k).map (spP c (l.map (·.2)) []) ∧ (∀ r ∈ rws, r.l.length ≤ 1 ∧ r.l.length ≤ r.x.cap ∧ r.x.cap ≤ maxLen) ∧ i = .int .i64 (k : Int) ∧ k ≤ m) (fun i wr => m - (intOf i).toNat)
  case atStart => exact ⟨0, [], HS0.out, rfl, fun r hr => by simp at hr, rfl, Nat.zero_le _⟩
  case round =>
    obtain ⟨k, rws, hS, hR, hR1, rfl, hk⟩ := hrel
    have HS := Lib.hid hS
    have HR := Lib.hid hR
    have HR1 := Lib.hid hR1
    have hrl : rws.length = k := by have := congrArg List.length hR; simpa using this
    have HRL := Lib.hid hrl
    clear hR hR1 HS0 hrl
    by_cases hlt : k < m
    · obtain ⟨p, hp⟩ : ∃ p, l[k]? = some p := ⟨_, List.getElem?_eq_getElem (by have := HL.out; omega)⟩
      obtain ⟨pc, pt⟩ := HOC.out k p hp
      have b0 := (hS.b.cell (p := ⟨g, k, none⟩) (World.block_lt_of_cell? w1 _ pc)).trans pc
      have HPT : Hid (ThAt wr p.1 p.2) := pt.keep hS.b
      have HPK := Lib.hid hp
      have hlt' : (k : Int) < (m : Int) := by omega
      have kS := HS1.out.c.keep hS.b
      obtain ⟨⟨-, g0, -⟩, ⟨-, g1, -⟩, ⟨-, g2, -⟩, ⟨-, g3, -⟩, ⟨-, g4, -⟩, -⟩ := kS
      obtain ⟨pv, pth⟩ := p
      simp only at b0 HPT HPK
      obtain ⟨pty, pu, rfl⟩ := HPT.out.iface
      clear pc pt hp hS
      have hz : w.heap.size + 1 < wr.heap.size := Nat.lt_of_lt_of_le HS1.out.c.1.1 HS.out.b.size
      by_cases hlt2 : k + 1 < m
      · have hnl : (k : Int) + 1 < (m : Int) := by omega
        obtain ⟨p2, hp2⟩ : ∃ p, l[k + 1]? = some p := ⟨_, List.getElem?_eq_getElem (by have := HL.out; omega)⟩
        obtain ⟨pc, pt⟩ := HOC.out (k + 1) p2 hp2
        obtain ⟨pv2, pth2⟩ := p2
        obtain ⟨pty2, pu2, rfl⟩ := pt.iface
        have b2 := (HS.out.b.cell (p := ⟨g, k + 1, none⟩) (World.block_lt_of_cell? w1 _ pc)).trans pc
        have HPT2 : Hid (ThAt wr (.iface pty2 pu2) pth2) := pt.keep HS.out.b
        have HPK2 := Lib.hid hp2
        have hyr : wrap64 (pth2.year - 1) = pth2.year - 1 := by
          refine w64 ?_
          have hm2 : pth2 ∈ begs rs c := HP.out.1.subset (List.mem_map.2 ⟨_, List.mem_of_getElem? hp2, rfl⟩)
          have := HTY.out _ hm2
          omega
        clear pc pt hp2
        go_wp2_with (first
          | (refine wpList_year HPT.out rfl _ rfl rfl ?_; intro w2 hg; have HG2 := Lib.hid hg.below; have e4 := (hg.below.cell (p := ⟨w.heap.size + 1, 4, none⟩) hz).trans g4; have e5 := (hg.below.cell (p := ⟨g, k + 1, none⟩) (World.block_lt_of_cell? wr _ b2)).trans b2; have HPT3 := Lib.hid (HPT2.out.keep (hg.below.trans ((below_al w2 (.cells #[.int .i64 pth.year, .int .i64 4000] 30)).mono hg.below.size))); have hz2 := Nat.lt_of_lt_of_le hz hg.below.size; clear hg g0 g1 g2 g3 g4 b0)
          | (refine wpList_year HPT3.out rfl _ rfl rfl ?_; intro w3 hg; have HB3 : Hid (Below wr.heap.size wr w3) := HG2.out.trans (((below_al w2 (.cells #[.int .i64 pth.year, .int .i64 4000] 30)).trans (hg.below.mono (by simp))).mono HG2.out.size); obtain ⟨⟨hY, y0, yz0⟩, ⟨-, y1, yz1⟩, -⟩ := (cs_blk w2 #[.int .i64 pth.year, .int .i64 4000] 30 _ 0 rfl).keep hg.below; have e6 := (((below_al w2 (.cells #[.int .i64 pth.year, .int .i64 4000] 30)).trans (hg.below.mono (by simp))).cell (p := ⟨w.heap.size + 1, 4, none⟩) hz2).trans e4; obtain ⟨v0, v1, v2, v3, ⟨o0, o1, o2, o3⟩, z0, z1, z2, z3⟩ := (HS.out.keep HB3.out).cellsAt HG.out k hlt; have hGY : G < w2.heap.size := HG.out ▸ Nat.lt_of_lt_of_le HS.out.lt HG2.out.size; have hGW : G < w3.heap.size := HG.out ▸ Nat.lt_of_lt_of_le HS.out.lt HB3.out.size; have hGn : G ≠ w2.heap.size := Nat.ne_of_lt hGY; clear hg e4 e5))
        go_roundw
        case rel =>
          have hbx : Below wr.heap.size wr (w3.setCell ⟨w2.heap.size, 1, none⟩ (.int .i64 (pth2.year - 1))) := HB3.out.setCell (p := ⟨w2.heap.size, 1, none⟩) HG2.out.size _
          have h3 := (HS.out.keep hbx).pushA HG.out HRL.out hlt pth.year (pth2.year - 1) c.wear (.iface pty pu) pth (HPT.out.keep hbx)
          rw [show (w3.setCell ⟨w2.heap.size, 1, none⟩ (.int .i64 (pth2.year - 1))).heap.size = w3.heap.size from by simp] at h3
          refine ⟨k + 1, _, h3, ?_, ?_, by simp, hlt⟩
          · rw [List.map_append, HR.out, List.range_succ, List.map_append]
            congr 1
            have hk3 : (l.map (·.2)).getD k dTh = pth := getD_some (by rw [List.getElem?_map, HPK.out]; rfl)
            have hk4 : (l.map (·.2)).getD (k + 1) dTh = pth2 := getD_some (by rw [List.getElem?_map, HPK2.out]; rfl)
            simp only [List.map_cons, List.map_nil, spP, hiP, hk3, hk4, List.length_map, HL.out, if_pos hlt2, List.filter_nil]
          · intro r hr
            rcases List.mem_append.1 hr with hr | hr
            · exact HR1.out r hr
            · obtain rfl := List.mem_singleton.1 hr
              exact ⟨Nat.le_refl _, Nat.le_refl _, by show 1 ≤ maxLen; unfold maxLen; omega⟩
        case measure => simp [intOf]; omega
      · have hnl : ¬ ((k : Int) + 1 < (m : Int)) := by omega
        have hz : w.heap.size + 1 < wr.heap.size := Nat.lt_of_lt_of_le HS1.out.c.1.1 HS.out.b.size
        go_wp2_with (first
          | (refine wpList_year HPT.out rfl _ rfl rfl ?_; intro w2 hg; have HG2 := Lib.hid hg.below; have HS2 := Lib.hid (HS.out.keep hg.below); have e4 := (hg.below.cell (p := ⟨w.heap.size + 1, 4, none⟩) hz).trans g4; obtain ⟨v0, v1, v2, v3, ⟨o0, o1, o2, o3⟩, z0, z1, z2, z3⟩ := HS2.out.cellsAt HG.out k hlt; have hGW : G < w2.heap.size := HG.out ▸ HS2.out.lt; clear hg g0 g1 g2 g3 g4 b0))
        go_roundw
        case rel =>
          have h3 := HS2.out.pushB HG.out HRL.out hlt pth.year 4000 c.wear (.iface pty pu) pth (HPT.out.keep HG2.out) (.cells #[.int .i64 pth.year, .int .i64 4000] 30)
          refine ⟨k + 1, _, h3, ?_, ?_, by simp, hlt⟩
          · rw [List.map_append, HR.out, List.range_succ, List.map_append]
            congr 1
            have hk3 : (l.map (·.2)).getD k dTh = pth := getD_some (by rw [List.getElem?_map, HPK.out]; rfl)
            simp only [List.map_cons, List.map_nil, spP, hiP, hk3, List.length_map, HL.out, if_neg hlt2, List.filter_nil]
          · intro r hr
            rcases List.mem_append.1 hr with hr | hr
            · exact HR1.out r hr
            · obtain rfl := List.mem_singleton.1 hr
              exact ⟨Nat.le_refl _, Nat.le_refl _, by show 1 ≤ maxLen; unfold maxLen; omega⟩
        case measure => simp [intOf]; omega
    · obtain rfl : k = m := by omega
      have kS := HS1.out.c.keep hS.b
      obtain ⟨⟨-, g0, -⟩, ⟨-, g1, -⟩, ⟨-, g2, -⟩, ⟨-, g3, -⟩, ⟨-, g4, -⟩, ⟨-, g5, -⟩, ⟨-, g6, -⟩, ⟨-, g7, -⟩, -⟩ := kS
      clear hS
      go_wp2_with fail
      clear g0 g1 g2 g3 g4 g5 g6 g7
      have HR2 : Hid (rws.map (·.x.s) = (List.range k).map (spP c (l.map (·.2)) (ps.take 0))) := HR.out
      have HR3 : Hid (∀ r ∈ rws, r.l.length ≤ 0 + 1 ∧ r.l.length ≤ r.x.cap ∧ r.x.cap ≤ maxLen) := HR1.out
      clear HR HR1
      go_loopw [56] (fun i wr => ∃ (j : Nat) (rws : List Rw), SMm w1 wr k rws ∧ rws.map (·.x.s) = (List.range k).map (spP c (l.map (·.2)) (ps.take j)) ∧ (∀ r ∈ rws, r.l.length ≤ j + 1 ∧ r.l.length ≤ r.x.cap ∧ r.x.cap ≤ maxLen) ∧ i = .int .i64 (j : Int) ∧ j ≤ ps.length) (fun i wr => ps.length - (intOf i).toNat)
      case atStart => exact ⟨0, rws, HS.out, HR2.out, HR3.out, rfl, Nat.zero_le _⟩
      case round =>
        clear HS HR2 HR3 HRL
        obtain ⟨j, rws, hS, hR, hR1, rfl, hj⟩ := hrel
        have HS := Lib.hid hS
        have HR := Lib.hid hR
        have HR1 := Lib.hid hR1
        have hrl : rws.length = k := by have := congrArg List.length hR; simpa using this
        have HRL := Lib.hid hrl
        clear hR hR1 hrl
        have kS := HS1.out.c.keep hS.b
        obtain ⟨⟨-, g0, -⟩, ⟨-, g1, -⟩, ⟨-, g2, -⟩, ⟨-, g3, -⟩, ⟨-, g4, -⟩, ⟨-, g5, -⟩, ⟨-, g6, -⟩, ⟨-, g7, -⟩, -⟩ := kS
        by_cases hlt : j < ps.length
        · rcases (H.out.keep HS1.out.b) with h0' | ⟨b, o, he, hb, hc⟩
          · exact absurd hlt (by simp [show ps = [] from h0'])
          obtain rfl : q2 = some ⟨b, o, none⟩ := he
          obtain ⟨c1, c2, c3, c4, c5⟩ := hc j ps[j] (List.getElem?_eq_getElem hlt)
          have b1 := (hS.b.cell (p := ⟨b, o + j * 5, none⟩) hb).trans c1
          have b2 := (hS.b.cell (p := ⟨b, o + j * 5 + 1, none⟩) hb).trans c2
          have b3 := (hS.b.cell (p := ⟨b, o + j * 5 + 2, none⟩) hb).trans c3
          have b4 := (hS.b.cell (p := ⟨b, o + j * 5 + 3, none⟩) hb).trans c4
          have b5 := (hS.b.cell (p := ⟨b, o + j * 5 + 4, none⟩) hb).trans c5
          have HM : Hid (ps[j] ∈ ps) := List.getElem_mem hlt
          have HTK : Hid (ps.take (j + 1) = ps.take j ++ [ps[j]]) := take_snocG ps j hlt
          obtain ⟨p, hp⟩ : ∃ p, ps[j] = p := ⟨_, rfl⟩
          rw [hp] at b1 b2 b3 b4 b5 HM HTK
          have hlt' : (j : Int) < (ps.length : Int) := by omega
          clear c1 c2 c3 c4 c5 hc hb hS hp
          by_cases he : p.ch = c.id
          · have e1 : (p.ch == c.id) = true := by simpa using he
            have hcnt : 0 < cntU (l.map fun x => x.2.year) p.year := by
              unfold cntU
              rw [List.countP_pos_iff]
              have h1 : c.th ∈ l.map (·.2) := HP.out.1.symm.subset (by unfold begs; exact List.mem_cons_self)
              obtain ⟨x, hx, ex⟩ := List.mem_map.1 h1
              refine ⟨x.2.year, List.mem_map.2 ⟨x, hx, rfl⟩, ?_⟩
              rw [ex]
              exact decide_eq_true (HY.out p HM.out he)
            obtain ⟨i, hi⟩ : ∃ i, cntU (l.map fun x => x.2.year) p.year = i + 1 := ⟨cntU (l.map fun x => x.2.year) p.year - 1, by omega⟩
            have him : i < k := by
              have := cntU_le (l.map fun x => x.2.year) p.year
              rw [List.length_map, HL.out] at this
              omega
            have HI := Lib.hid hi
            obtain ⟨r, hr⟩ : ∃ r, rws[i]? = some r := ⟨_, List.getElem?_eq_getElem (by have := HRL.out; omega)⟩
            have HRI := Lib.hid hr
            have CL : ∀ W, Below wr.heap.size wr W → Calls Tryz.prog 177 #[.slice (some ⟨g, 0, none⟩) k cap, .int .i64 p.year, .func (.func 178) #[] #[]] W fun e w' => e = .returned (.int .i64 (i : Int)) ∧ Gr W w' := fun W hW => by
              have := lastT_any g 0 k cap l p.year W HL.out (by omega) (fun jj pp hjj => by
                obtain ⟨k1, k2⟩ := HOC.out jj pp hjj
                have hb := HS.out.b.trans (hW.mono (Nat.le_of_lt HS.out.lt))
                rw [Nat.zero_add]
                exact ⟨(hb.cell (World.block_lt_of_cell? w1 _ k1)).trans k1, k2.keep hb⟩) (by have := HUP.out; rwa [List.map_map] at this)
              rw [hi] at this
              rwa [show ((i + 1 : Nat) : Int) - 1 = (i : Int) from by omega] at this
            have him' : (i : Int) < (k : Int) := by omega
            obtain ⟨rx, rl⟩ := r
            obtain ⟨⟨rlo, rhi, rwe, rths⟩, rq, rc⟩ := rx
            clear hcnt hi hr he
            have HNT := Lib.hid (ThAt.new (W := wr.alloc (.cells #[.int .i64 p.id, .int .i64 p.ch, .int .i64 p.year, .int .i64 p.lo, .int .i64 p.hi] 94)) p 217 220 (.inl rfl))
            go_wp2_with fail
            refine (CL _ ((below_al _ _).trans ((below_al _ _).mono (by simp)))).mono ?_
            rintro e w3 ⟨rfl, hg⟩
            have HB3 : Hid (Below wr.heap.size wr w3) := ((below_al _ _).trans ((below_al _ _).mono (by simp))).trans (hg.below.mono (by simp; omega))
            have HNT3 : Hid (ThAt w3 (.iface 220 (.pointer (some ⟨wr.heap.size + 1, 0, none⟩))) p.th) := by
              have := HNT.out.keep hg.below
              rwa [World.size_alloc] at this
            have HS3 := Lib.hid (HS.out.keep HB3.out)
            clear HNT hg CL
            obtain ⟨s0, s1, s2, s3⟩ := HS3.out.sp i _ HRI.out
            obtain ⟨t1, t2⟩ := HS3.out.th i _ HRI.out
            have hot := HS3.out.ot i _ HRI.out
            rw [HG.out] at s0 s1 s2 s3
            simp only at s0 s1 s2 s3 t1 t2 hot
            rw [t1, List.length_map] at s3
            obtain ⟨v0, v1, v2, v3, ⟨o0, o1, o2, o3⟩, z0, z1, z2, z3⟩ := HS3.out.cellsAt HG.out i him
            have HOT := Lib.hid hot
            have HT2 := Lib.hid t2
            have HTH := Lib.hid t1
            have HLn : Hid (rl.length ≤ 1000000) := by
              have := (HR1.out _ (List.mem_of_getElem? HRI.out)).1
              simp only at this
              unfold Hid; omega
            have HGW : Hid (w1.heap.size + 1 ≤ w3.heap.size) := HS3.out.lt
            have HNE : Hid (some G ≠ (Value.slice rq rl.length rc).ownBlock) := by
              obtain ⟨gi, e, h1, h2⟩ := HOT.out.blk HT2.out
              have := HG.out
              rw [e]
              simp only [Value.ownBlock]
              intro e
              injection e with e
              omega
            clear hot t1 t2 o0 o1 o2 o3 z0 z1 z2 g0 g1 g2 g3 g4 g5 g6 g7 b1 b2 b3 b4 b5 s0 s1 s2
            go_wp2_with (at_builtin; refine appT2 HOT.out HT2.out HGW.out (.iface 220 (.pointer (some ⟨wr.heap.size + 1, 0, none⟩))) p.th HNT3.out HLn.out rfl _ _ rfl rfl rfl ?_; intro q' c' w4 hO4 hcc hg4 hb4; have HO4 := Lib.hid hO4; have HCC := Lib.hid hcc; have HG4 := Lib.hid hg4; have HB4 := Lib.hid hb4; have hne := HNE.out; have s4 := (World.cell?_of_block (a := ⟨G, i * 4 + 3, none⟩) (hg4.block G (HG.out ▸ HS3.out.lt) hne)).trans s3; have z4 := (World.frozen?_of_block (a := ⟨G, i * 4 + 3, none⟩) (hg4.block G (HG.out ▸ HS3.out.lt) hne)).trans z3; clear hO4 hcc hg4 hb4 hne s3 z3)
            go_roundw
            case rel =>
              have h4 := HS3.out.turn i _ HRI.out him _ _ q' c' HG4.out HO4.out HB4.out
              rw [HG.out] at h4
              refine ⟨j + 1, _, h4, ?_, fun r hr => ?_, by simp, hlt⟩
              · have hsp := HR.out
                rw [List.map_set, hsp, HTK.out]
                apply List.ext_getElem
                · simp
                · intro a ha1 ha2
                  have hak : a < k := by simpa using ha2
                  rw [List.getElem_set]
                  simp only [List.getElem_map, List.getElem_range]
                  rw [spP_step]
                  by_cases e : i = a
                  · subst e
                    have hcn : cntU ((l.map (·.2)).map (·.year)) p.year = i + 1 := by rw [List.map_map]; exact HI.out
                    have hri : spP c (l.map (·.2)) (ps.take j) i = ⟨rlo, rhi, rwe, rths⟩ := by
                      have h5 : (rws.map (·.x.s))[i]? = some ⟨rlo, rhi, rwe, rths⟩ := by rw [List.getElem?_map, HRI.out]; rfl
                      rw [hsp, List.getElem?_map, List.getElem?_range hak] at h5
                      exact Option.some.inj h5
                    rw [if_pos rfl, if_pos (by rw [e1, hcn]; simp), hri]
                  · have hcn : cntU ((l.map (·.2)).map (·.year)) p.year = i + 1 := by rw [List.map_map]; exact HI.out
                    rw [if_neg e, if_neg (by rw [hcn]; simp; omega)]
              · rcases List.mem_or_eq_of_mem_set hr with hr | rfl
                · obtain ⟨x1, x2⟩ := HR1.out r hr
                  exact ⟨by omega, x2⟩
                · obtain ⟨x1, x2⟩ := HR1.out _ (List.mem_of_getElem? HRI.out)
                  simp only at x1
                  exact ⟨by simp; omega, by simpa using HCC.out.1, HCC.out.2⟩
            case measure => simp [intOf]; omega
          · have e1 : (p.ch == c.id) = false := by simpa using he
            clear he
            go_wp2_with fail
            go_roundw
            case rel =>
              refine ⟨j + 1, rws, HS.out.keep (below_al _ _), ?_, fun r hr => ?_, by simp, hlt⟩
              · rw [HR.out, HTK.out]
                apply List.map_congr_left
                intro a _
                rw [spP_step, if_neg (by rw [e1]; simp)]
              · obtain ⟨x1, x2⟩ := HR1.out r hr
                exact ⟨by omega, x2⟩
            case measure => simp [intOf]; omega
        · obtain rfl : j = ps.length := by omega
          rw [List.take_length] at HR
          have HB := Lib.hid (HS1.out.b.trans (hS.b.mono HS1.out.b.size))
          clear hS g0 g1 g2 g3 g4 g5 g6 g7
          go_wp2_with fail
          go_ret
          refine ⟨⟨G, k, l.map (·.2), rws.map (·.x), rfl, HP.out.1, ?_, by rw [List.length_map, HL.out], by rw [List.length_map, HRL.out], HG.out ▸ HS.out.lt, ?_, fun i sv hsv => ?_⟩, HB.out⟩
          · rw [List.pairwise_map]; exact HP.out.2
          · rw [List.map_map]; exact HR.out
          · rw [List.getElem?_map] at hsv
            obtain ⟨r, hr, rfl⟩ := Option.map_eq_some_iff.1 hsv
            have h1 := HS.out.sp i r hr
            have h2 := HS.out.ot i r hr
            obtain ⟨h3, h4⟩ := HS.out.th i r hr
            obtain ⟨-, h5, h6⟩ := HR1.out r (List.mem_of_getElem? hr)
            rw [HG.out] at h1
            refine ⟨h1, ?_, by rw [h3, List.length_map]; exact h5, h6⟩
            obtain ⟨gi, e, h8, h7⟩ := h2.blk h4
            refine ⟨gi, e, by have := HS1.out.b.size; omega, h7, fun jj t ht => ?_⟩
            rw [h3, List.getElem?_map] at ht
            obtain ⟨pp, hpp, rfl⟩ := Option.map_eq_some_iff.1 ht
            rw [e] at h2
            exact ⟨pp.1, h2.cells jj pp hpp⟩
end Go.Proofs.YtcejmfgbfdhflaaGreat
namespace Go.Proofs.YtcejmfgbfdhflaaGreat
open Go.RowKit Go.Shelf Go.BigFrame Go.Sort
attribute [local go_sem] World.cell?_alloc_some
/-- What is known of checked works. -/
structure OkW (x : WA) : Prop where
  c20 : x.cs.length ≤ 20
  n60 : x.ps.length + x.rs.length ≤ 60
  ch : ∀ c ∈ x.cs, okCh c = true
  pf : ∀ p ∈ x.ps, okPf x.cs p = true
  rp : ∀ r ∈ x.rs, okRp x.cs r = true
  ry : x.rs.Pairwise fun a b => ¬ (a.ch = b.ch ∧ a.year = b.year)
theorem chkCs_ok : ∀ (l pre : List Ch), chkCs pre l = 0 → ∀ c ∈ l, okCh c = true
  | [], _, _, c, hc => by simp at hc
  | d :: l, pre, h, c, hc => by
    unfold chkCs at h
    by_cases h1 : okCh d = false
    · rw [if_pos h1] at h; cases h
    · rw [if_neg h1] at h
      by_cases h2 : (chF pre d.id).isSome = true
      · rw [if_pos h2] at h; cases h
      · rw [if_neg h2] at h
        rcases List.mem_cons.1 hc with rfl | hc
        · simpa using h1
        · exact chkCs_ok l _ h c hc
theorem chkPs_ok (cs : List Ch) : ∀ (l : List Pf) (pre : List Int), chkPs cs pre l = 0 → ∀ p ∈ l, okPf cs p = true
  | [], _, _, c, hc => by simp at hc
  | d :: l, pre, h, c, hc => by
    unfold chkPs at h
    by_cases h1 : okPf cs d = false
    · rw [if_pos h1] at h; cases h
    · rw [if_neg h1] at h
      by_cases h2 : pre.contains d.id = true
      · rw [if_pos h2] at h; cases h
      · rw [if_neg h2] at h
        rcases List.mem_cons.1 hc with rfl | hc
        · simpa using h1
        · exact chkPs_ok cs l _ h c hc
theorem chkRs_ok (cs : List Ch) : ∀ (l : List Pf) (ids : List Int) (pre : List Pf), chkRs cs ids pre l = 0 → (∀ p ∈ l, okRp cs p = true) ∧ (∀ p ∈ l, ∀ q ∈ pre, ¬ (q.ch = p.ch ∧ q.year = p.year)) ∧ l.Pairwise fun a b => ¬ (a.ch = b.ch ∧ a.year = b.year)
  | [], _, _, _ => ⟨by simp, by simp, List.Pairwise.nil⟩
  | d :: l, ids, pre, h => by
    unfold chkRs at h
    by_cases h1 : okRp cs d = false
    · rw [if_pos h1] at h; cases h
    · rw [if_neg h1] at h
      by_cases h2 : (ids.contains d.id || repB pre d) = true
      · rw [if_pos h2] at h; cases h
      · rw [if_neg h2] at h
        obtain ⟨k1, k2, k3⟩ := chkRs_ok cs l _ _ h
        have h3 : ∀ q ∈ pre, ¬ (q.ch = d.ch ∧ q.year = d.year) := fun q hq e => h2 (by
          rw [Bool.or_eq_true]
          right
          unfold repB
          rw [List.any_eq_true]
          exact ⟨q, hq, by simp [e.1, e.2]⟩)
        refine ⟨fun p hp => ?_, fun p hp q hq => ?_, List.pairwise_cons.2 ⟨fun p hp => ?_, k3⟩⟩
        · rcases List.mem_cons.1 hp with rfl | hp
          · simpa using h1
          · exact k1 p hp
        · rcases List.mem_cons.1 hp with rfl | hp
          · exact h3 q hq
          · exact k2 p hp q (List.mem_append_left _ hq)
        · exact k2 p hp d (List.mem_append_right _ (List.mem_singleton_self d))
theorem okW_of {x : WA} (h : chk x = 0) : OkW x := by
  unfold chk at h
  by_cases h1 : (decide (20 < x.cs.length) || decide (60 < x.ps.length + x.rs.length)) = true
  · rw [if_pos h1] at h; cases h
  · rw [if_neg h1] at h
    by_cases h2 : chkCs [] x.cs = 0
    · rw [if_neg (by simpa using h2)] at h
      by_cases h3 : chkPs x.cs [] x.ps = 0
      · rw [if_neg (by simpa using h3)] at h
        obtain ⟨k1, _, k3⟩ := chkRs_ok _ _ _ _ h
        simp at h1
        exact ⟨by omega, by omega, chkCs_ok _ _ h2, chkPs_ok _ _ _ h3, k1, k3⟩
      · rw [if_pos h3] at h; exact absurd h h3
    · rw [if_pos h2] at h; exact absurd h h2
theorem chF_mem {l : List Ch} {id : Int} {c : Ch} (h : chF l id = some c) : c ∈ l ∧ c.id = id := by
  unfold chF at h
  exact ⟨List.mem_of_find?_eq_some h, by have := List.find?_some h; simpa using this⟩
theorem chOr_some {l : List Ch} {id : Int} {c : Ch} (h : chF l id = some c) : chOr l id = c := by unfold chOr; rw [h]; rfl
theorem okCh_iff {c : Ch} : okCh c = true ↔ okId c.id = true ∧ (0 ≤ c.year ∧ c.year ≤ 4000) ∧ (c.lo ≤ c.hi ∧ 9000 ≤ c.lo ∧ c.hi ≤ 12000) ∧ (0 ≤ c.wear ∧ c.wear ≤ 1000) := by
  simp [okCh, inB, okLong, insB]
theorem okPf_iff {cs : List Ch} {p : Pf} : okPf cs p = true ↔ (chF cs p.ch).isSome = true ∧ okId p.id = true ∧ ((chOr cs p.ch).year ≤ p.year ∧ p.year ≤ 4000) ∧ (p.lo ≤ p.hi ∧ 9000 ≤ p.lo ∧ p.hi ≤ 12000) := by
  simp [okPf, inB, okLong, insB]
theorem okRp_iff {cs : List Ch} {p : Pf} : okRp cs p = true ↔ (chF cs p.ch).isSome = true ∧ okId p.id = true ∧ ((chOr cs p.ch).year ≤ p.year ∧ p.year ≤ 4000) ∧ (chOr cs p.ch).year < p.year ∧ (p.lo ≤ p.hi ∧ 9000 ≤ p.lo ∧ p.hi ≤ 12000) := by
  simp [okRp, inB, okLong, insB]
/-- What is known of a chain of checked works. -/
structure OkC (x : WA) (c : Ch) : Prop where
  ok : okCh c = true
  py : ∀ p ∈ x.ps, p.ch = c.id → c.year ≤ p.year ∧ okTh p.th = true
  rb : ∀ r ∈ x.rs, r.ch = c.id → c.year < r.year ∧ okTh r.th = true
theorem okC_of {x : WA} (h : OkW x) {id : Int} {c : Ch} (hc : chF x.cs id = some c) : OkC x c := by
  obtain ⟨h1, h2⟩ := chF_mem hc
  have hk := h.ch c h1
  have hk2 := okCh_iff.1 hk
  refine ⟨hk, fun p hp e => ?_, fun p hp e => ?_⟩
  · have k := okPf_iff.1 (h.pf p hp)
    rw [e, h2, chOr_some hc] at k
    exact ⟨k.2.2.1.1, okTh_iff.2 ⟨⟨by show 0 ≤ p.year; omega, k.2.2.1.2⟩, k.2.2.2⟩⟩
  · have k := okRp_iff.1 (h.rp p hp)
    rw [e, h2, chOr_some hc] at k
    exact ⟨k.2.2.2.1, okTh_iff.2 ⟨⟨by show 0 ≤ p.year; omega, k.2.2.1.2⟩, k.2.2.2.2⟩⟩
theorem begs_ok {x : WA} {c : Ch} (h : OkC x c) : ∀ t ∈ begs x.rs c, okTh t = true ∧ c.year ≤ t.year := by
  intro t ht
  unfold begs at ht
  rcases List.mem_cons.1 ht with rfl | ht
  · have := okCh_iff.1 h.ok
    exact ⟨okTh_iff.2 ⟨this.2.1, this.2.2.1⟩, Int.le_refl _⟩
  · obtain ⟨r, hr, rfl⟩ := List.mem_map.1 ht
    obtain ⟨h1, h2⟩ := List.mem_filter.1 hr
    obtain ⟨k1, k2⟩ := h.rb r h1 (by simpa using h2)
    exact ⟨k2, Int.le_of_lt k1⟩
theorem begs_ne {x : WA} {c : Ch} (hw : OkW x) (h : OkC x c) : (begs x.rs c).Pairwise fun a b => a.year ≠ b.year := by
  unfold begs
  rw [List.pairwise_cons]
  constructor
  · intro t ht
    obtain ⟨r, hr, rfl⟩ := List.mem_map.1 ht
    obtain ⟨h1, h2⟩ := List.mem_filter.1 hr
    have := (h.rb r h1 (by simpa using h2)).1
    show c.year ≠ r.year
    omega
  · rw [List.pairwise_map]
    refine (hw.ry.filter _).imp_of_mem fun {a b} ha hb hab e => ?_
    have e1 := (List.mem_filter.1 ha).2
    have e2 := (List.mem_filter.1 hb).2
    simp only [beq_iff_eq] at e1 e2
    exact hab ⟨by rw [e1, e2], e⟩
/-- Things by their years. -/
def srtB (l : List Th) : List Th := l.mergeSort fun a b => decide (a.year ≤ b.year)
theorem srtB_perm (l : List Th) : (srtB l).Perm l := List.mergeSort_perm _ _
theorem srtB_up (l : List Th) : (srtB l).Pairwise fun a b => a.year ≤ b.year := by
  have := List.pairwise_mergeSort (le := fun a b : Th => decide (a.year ≤ b.year)) (fun a b c h1 h2 => by simp only [decide_eq_true_eq] at *; omega) (fun a b => by simp only [Bool.or_eq_true, decide_eq_true_eq]; omega) l
  exact this.imp fun h => by simpa using h
theorem pairwise_mem_eq {l : List Th} (h : l.Pairwise fun a b => a.year ≠ b.year) : ∀ a ∈ l, ∀ b ∈ l, a.year = b.year → a = b := by
  induction l with
  | nil => intro a ha; simp at ha
  | cons d l ih =>
    rw [List.pairwise_cons] at h
    intro a ha b hb e
    rcases List.mem_cons.1 ha with e1 | h1
    · rcases List.mem_cons.1 hb with e2 | h2
      · rw [e1, e2]
      · rw [e1] at e; exact absurd e (h.1 b h2)
    · rcases List.mem_cons.1 hb with e2 | h2
      · rw [e2] at e; exact absurd e.symm (h.1 a h1)
      · exact ih h.2 a h1 b h2 e
theorem srtB_uniq {l ts : List Th} (hne : l.Pairwise fun a b => a.year ≠ b.year) (hp : ts.Perm l) (hs : ts.Pairwise fun a b => a.year ≤ b.year) : ts = srtB l := by
  refine List.Perm.eq_of_pairwise (le := fun a b : Th => a.year ≤ b.year) (fun a b ha hb h1 h2 => ?_) hs (srtB_up l) (hp.trans (srtB_perm l).symm)
  exact pairwise_mem_eq hne a (hp.subset ha) b ((srtB_perm l).subset hb) (by omega)
end Go.Proofs.YtcejmfgbfdhflaaGreat
namespace Go.Proofs.YtcejmfgbfdhflaaGreat
open Go.RowKit Go.Shelf Go.BigFrame Go.Sort
attribute [local go_sem] World.cell?_alloc_some
def tsO (x : WA) (c : Ch) : List Th := srtB (begs x.rs c)
def ixO (x : WA) (c : Ch) (y : Int) : Nat := cntU ((tsO x c).map (·.year)) y - 1
/-- The spell of a chain that contains a year. -/
def spO (x : WA) (c : Ch) (y : Int) : Spl := spP c (tsO x c) x.ps (ixO x c y)
/-- The error of Spell. -/
def sE (x : WA) (ch y : Int) : Int :=
  if chk x ≠ 0 then chk x else if (chF x.cs ch).isSome = false then 5 else if inB (chOr x.cs ch).year 4000 y = false then 1 else 0
theorem cnt_pos {x : WA} {c : Ch} {y : Int} (hy : c.year ≤ y) : cntU ((tsO x c).map (·.year)) y = ixO x c y + 1 := by
  have : 0 < cntU ((tsO x c).map (·.year)) y := by
    unfold cntU
    rw [List.countP_pos_iff]
    refine ⟨c.year, List.mem_map.2 ⟨c.th, (srtB_perm _).symm.subset ?_, rfl⟩, by simpa using hy⟩
    unfold begs; exact List.mem_cons_self
  unfold ixO; omega
theorem ix_lt {x : WA} {c : Ch} {y : Int} (hy : c.year ≤ y) : ixO x c y < (tsO x c).length := by
  have h1 := cnt_pos (x := x) hy
  have h2 := cntU_le ((tsO x c).map (·.year)) y
  rw [List.length_map] at h2
  omega
abbrev noSp : Value := .agg #[.int .i64 0, .int .i64 0, .int .i64 0, .slice none 0 0]
/-- What Spell finds. -/
structure SpRes (x : WA) (c : Ch) (E y : Int) (B : Nat) (W : World) (v : Value) : Prop where
  no : E ≠ 0 → v = noSp
  ok : E = 0 → ∃ sv : SV, v = sv.v ∧ sv.s = spO x c y ∧ ThsN B W sv.q sv.s.ths ∧ sv.s.ths.length ≤ sv.cap ∧ sv.cap ≤ maxLen
theorem SpRes.keep {x : WA} {c : Ch} {E y : Int} {B : Nat} {W W' : World} {v : Value} (h : SpRes x c E y B W v) (hb : Below W.heap.size W W') : SpRes x c E y B W' v :=
  ⟨h.no, fun e => by
    obtain ⟨sv, h1, h2, h3, h4⟩ := h.ok e
    exact ⟨sv, h1, h2, h3.keep hb, h4⟩⟩
set_option maxRecDepth 100000 in
set_option maxHeartbeats 6400000 in
theorem spellIn_any (x : WA) (ch y : Int) (w : World) (h : x.At w) :
    Calls Tryz.prog 70 #[x.v, .int .i64 ch, .int .i64 y] w fun e w' => (∃ v, e = .returned (.tuple #[v, .int .i64 (sE x ch y)]) ∧ SpRes x (chOr x.cs ch) (sE x ch y) y w.heap.size w' v) ∧ Below w.heap.size w w' := by
  have K1 := fun W (hb : Below w.heap.size w W) => Check_any x W (h.keep hb)
  have K2 := fun W (hb : Below w.heap.size w W) => chainOf_any x.q1 x.c1 x.cs ch W h.n1 (h.cs.keep hb)
  obtain ⟨E, hE⟩ : ∃ E, sE x ch y = E := ⟨_, rfl⟩
  rw [hE]
  obtain ⟨k, hk⟩ : ∃ k, chk x = k := ⟨_, rfl⟩
  obtain ⟨c, hc⟩ : ∃ c, chOr x.cs ch = c := ⟨_, rfl⟩
  obtain ⟨z1, h1⟩ : ∃ z, (chF x.cs ch).isSome = z := ⟨_, rfl⟩
  obtain ⟨z2, h2⟩ : ∃ z, inB c.year 4000 y = z := ⟨_, rfl⟩
  have hS := hE
  unfold sE at hS
  rw [hk, hc, h1, h2] at hS
  simp only [hk] at K1
  simp only [hc, h1] at K2
  rw [hc]
  have K3 := fun W => yearsOf_any c W
  have K4 := fun W => within_any c.year 4000 y W
  simp only [h2] at K4
  have K5 : k = 0 → z1 = true → z2 = true → ∀ W, Below w.heap.size w W → Calls Tryz.prog 115 #[x.v, c.v] W fun e w' => (∃ (G n : Nat) (xs : List SV), e = .returned (.slice (some ⟨G, 0, none⟩) n n) ∧ n ≤ 1001 ∧
      Hid (∀ W', Below w'.heap.size w' W' → Calls Tryz.prog 137 #[.slice (some ⟨G, 0, none⟩) n n, .int .i64 y] W' fun e w'' => (∃ sv : SV, e = .returned sv.v ∧ sv.s = spO x c y ∧ ThsN W.heap.size w'' sv.q sv.s.ths ∧ sv.s.ths.length ≤ sv.cap ∧ sv.cap ≤ maxLen) ∧ Below W'.heap.size W' w'')) ∧ Below W.heap.size W w' := fun e1 e2 e3 W hb => by
    have hw := okW_of (hk.trans e1)
    obtain ⟨c', hc'⟩ := Option.isSome_iff_exists.1 (h1.trans e2)
    have : c' = c := by rw [← hc, chOr_some hc']
    subst this
    have hkc := okC_of hw hc'
    have hyy := inB_iff.1 (h2.trans e3)
    have hok := begs_ok hkc
    refine (spells_any x c' W (h.keep hb) (fun p hp e => (hkc.py p hp e).1) (fun t ht => (okTh_iff.1 (hok t ht).1).1)).mono ?_
    rintro e w' ⟨⟨G, n, ts, xs, rfl, hp, hs, hl1, hl2, hG, hmap, hat⟩, hb2⟩
    have hts : ts = tsO x c' := srtB_uniq (begs_ne hw hkc) hp hs
    have hn : n ≤ 1001 := by
      rw [← hl1, hp.length_eq]
      have := List.length_filter_le (fun r : Pf => r.ch == c'.id) x.rs
      have := h.n3
      unfold begs
      simp
      omega
    refine ⟨⟨G, n, xs, rfl, hn, fun W' hb3 => ?_⟩, hb2⟩
    have hlo : (xs.map fun x => x.s.lo) = ts.map (·.year) := by
      have e4 : (xs.map fun x => x.s.lo) = (xs.map (·.s)).map (·.lo) := by rw [List.map_map]; rfl
      rw [e4, hmap, List.map_map]
      apply List.ext_getElem
      · simp [hl1]
      · intro j h5 h6
        have : j < ts.length := by simpa using h6
        simp [spP, List.getElem?_eq_getElem this]
    have hup : upB (xs.map fun x => x.s.lo) := by
      rw [hlo]; unfold upB; rw [List.pairwise_map]; exact hs
    have hcn : cntU (xs.map fun x => x.s.lo) y = ixO x c' y + 1 := by rw [hlo, hts]; exact cnt_pos hyy.1
    have hix : ixO x c' y < xs.length := by
      have := ix_lt (x := x) hyy.1
      rw [← hts, hl1] at this
      omega
    obtain ⟨sv, hsv⟩ : ∃ sv, xs[ixO x c' y]? = some sv := ⟨_, List.getElem?_eq_getElem hix⟩
    obtain ⟨-, q2, q3, q4⟩ := hat _ _ hsv
    have hss : sv.s = spO x c' y := by
      have h5 : (xs.map (·.s))[ixO x c' y]? = some sv.s := by rw [List.getElem?_map, hsv]; rfl
      rw [hmap, List.getElem?_map, List.getElem?_range (by omega), hts] at h5
      exact (Option.some.inj h5).symm
    refine (spellOf_any G 0 n n xs y W' hl2 (by omega) (Nat.lt_of_lt_of_le hG hb3.size) (fun j sv hj => by rw [Nat.zero_add]; exact ((hat j sv hj).1).keep hb3) hup _ sv hcn hsv).mono ?_
    rintro e w'' ⟨rfl, hb4⟩
    exact ⟨⟨sv, rfl, hss, q2.keep (hb3.trans (hb4.mono hb3.size)), q3, q4⟩, hb4⟩
  have HS := Lib.hid hS
  have HK5 := Lib.hid K5
  clear h hE hS hk hc h1 h2 K5
  obtain ⟨cs, ps, rs, q1, q2, q3, c1, c2, c3⟩ := x
  simp only [WA.v] at *
  go_enter Tryz.func70, Tryz.ntmps70
  go_wp2_with fail
  obtain ⟨W0, hW0⟩ : ∃ W0, ((w).alloc (.cells #[.slice q1 cs.length c1, .slice q2 ps.length c2, .slice q3 rs.length c3] 26)).alloc (.cells #[.int .i64 0, .int .i64 0, .int .i64 0, .slice none 0 0] 111) = W0 := ⟨_, rfl⟩
  have S0 : St w W0 [(w.heap.size + 1, 0, .int .i64 0), (w.heap.size + 1, 1, .int .i64 0), (w.heap.size + 1, 2, .int .i64 0), (w.heap.size + 1, 3, .slice none 0 0), (w.heap.size, 0, .slice q1 cs.length c1), (w.heap.size, 1, .slice q2 ps.length c2), (w.heap.size, 2, .slice q3 rs.length c3)] := by rw [← hW0]; exact (((St.nil w)).box #[.slice q1 cs.length c1, .slice q2 ps.length c2, .slice q3 rs.length c3] 26 (w.heap.size) (by simp)).box #[.int .i64 0, .int .i64 0, .int .i64 0, .slice none 0 0] 111 (w.heap.size + 1) (by simp)
  rw [hW0]
  clear hW0
  obtain ⟨C, hC0, HC, LC, BC, hne⟩ := cls S0
  haveI := hne
  obtain ⟨c0, rfl⟩ : ∃ n : Wd C, W0 = n.w := ⟨⟨_, hC0⟩, rfl⟩
  have fC0 : ∀ n : Wd C, n.w.cell? ⟨w.heap.size + 1, 0, none⟩ = some (.int .i64 0) := fun n => (LC.out n).1.2.1
  have zC0 : ∀ n : Wd C, n.w.frozen? ⟨w.heap.size + 1, 0, none⟩ = false := fun n => (LC.out n).1.2.2
  have fC1 : ∀ n : Wd C, n.w.cell? ⟨w.heap.size + 1, 1, none⟩ = some (.int .i64 0) := fun n => (LC.out n).2.1.2.1
  have zC1 : ∀ n : Wd C, n.w.frozen? ⟨w.heap.size + 1, 1, none⟩ = false := fun n => (LC.out n).2.1.2.2
  have fC2 : ∀ n : Wd C, n.w.cell? ⟨w.heap.size + 1, 2, none⟩ = some (.int .i64 0) := fun n => (LC.out n).2.2.1.2.1
  have zC2 : ∀ n : Wd C, n.w.frozen? ⟨w.heap.size + 1, 2, none⟩ = false := fun n => (LC.out n).2.2.1.2.2
  have fC3 : ∀ n : Wd C, n.w.cell? ⟨w.heap.size + 1, 3, none⟩ = some (.slice none 0 0) := fun n => (LC.out n).2.2.2.1.2.1
  have zC3 : ∀ n : Wd C, n.w.frozen? ⟨w.heap.size + 1, 3, none⟩ = false := fun n => (LC.out n).2.2.2.1.2.2
  have fC4 : ∀ n : Wd C, n.w.cell? ⟨w.heap.size, 0, none⟩ = some (.slice q1 cs.length c1) := fun n => (LC.out n).2.2.2.2.1.2.1
  have fC5 : ∀ n : Wd C, n.w.cell? ⟨w.heap.size, 1, none⟩ = some (.slice q2 ps.length c2) := fun n => (LC.out n).2.2.2.2.2.1.2.1
  have fC6 : ∀ n : Wd C, n.w.cell? ⟨w.heap.size, 2, none⟩ = some (.slice q3 rs.length c3) := fun n => (LC.out n).2.2.2.2.2.2.1.2.1
  clear S0 hC0
  have D1 := cinL HC BC K1
  have D2 := cinL HC BC K2
  clear K1 K2
  by_cases hk0 : k = 0
  · subst hk0
    rw [if_neg (by simp)] at HS
    go_wp2_with (first | first | (go_at_call 23; with_reducible refine (D1 _).out.mono ?_; rintro e w' ⟨rfl, n, rfl⟩))
    refine (D2 _).out.mono ?_
    rintro e w' ⟨rfl, m, rfl⟩
    go_upto_region 5 with fail
    obtain ⟨W0, hW0⟩ : ∃ W0, (m.w).alloc (.cells #[.int .i64 c.id, .int .i64 c.year, .int .i64 c.lo, .int .i64 c.hi, .int .i64 c.wear] 90) = W0 := ⟨_, rfl⟩
    have S0 : St w W0 [(m.w.heap.size, 0, .int .i64 c.id), (m.w.heap.size, 1, .int .i64 c.year), (m.w.heap.size, 2, .int .i64 c.lo), (m.w.heap.size, 3, .int .i64 c.hi), (m.w.heap.size, 4, .int .i64 c.wear), (w.heap.size + 1, 0, .int .i64 0), (w.heap.size + 1, 1, .int .i64 0), (w.heap.size + 1, 2, .int .i64 0), (w.heap.size + 1, 3, .slice none 0 0), (w.heap.size, 0, .slice q1 cs.length c1), (w.heap.size, 1, .slice q2 ps.length c2), (w.heap.size, 2, .slice q3 rs.length c3)] := by rw [← hW0]; exact ((⟨BC.out m, LC.out m⟩ : St w m.w _)).box #[.int .i64 c.id, .int .i64 c.year, .int .i64 c.lo, .int .i64 c.hi, .int .i64 c.wear] 90 (m.w.heap.size) (by simp)
    rw [hW0]
    clear hW0
    obtain ⟨kD, hkk⟩ : ∃ k, m.w.heap.size = k := ⟨_, rfl⟩
    have gkD : w.heap.size ≤ kD := by rw [← hkk]; exact (BC.out m).size
    rw [hkk] at S0 ⊢
    have eD1 : kD ≠ w.heap.size + 1 := by have h := (LC.out m).1.1; omega
    have dD1 : w.heap.size + 1 ≠ kD := Ne.symm eD1
    clear hkk
    obtain ⟨D, hC0, HD, LD, BD, hne⟩ := cls S0
    haveI := hne
    obtain ⟨d0, rfl⟩ : ∃ n : Wd D, W0 = n.w := ⟨⟨_, hC0⟩, rfl⟩
    have fD0 : ∀ n : Wd D, n.w.cell? ⟨kD, 0, none⟩ = some (.int .i64 c.id) := fun n => (LD.out n).1.2.1
    have fD1 : ∀ n : Wd D, n.w.cell? ⟨kD, 1, none⟩ = some (.int .i64 c.year) := fun n => (LD.out n).2.1.2.1
    have fD2 : ∀ n : Wd D, n.w.cell? ⟨kD, 2, none⟩ = some (.int .i64 c.lo) := fun n => (LD.out n).2.2.1.2.1
    have fD3 : ∀ n : Wd D, n.w.cell? ⟨kD, 3, none⟩ = some (.int .i64 c.hi) := fun n => (LD.out n).2.2.2.1.2.1
    have fD4 : ∀ n : Wd D, n.w.cell? ⟨kD, 4, none⟩ = some (.int .i64 c.wear) := fun n => (LD.out n).2.2.2.2.1.2.1
    have fD5 : ∀ n : Wd D, n.w.cell? ⟨w.heap.size + 1, 0, none⟩ = some (.int .i64 0) := fun n => (LD.out n).2.2.2.2.2.1.2.1
    have zD5 : ∀ n : Wd D, n.w.frozen? ⟨w.heap.size + 1, 0, none⟩ = false := fun n => (LD.out n).2.2.2.2.2.1.2.2
    have fD6 : ∀ n : Wd D, n.w.cell? ⟨w.heap.size + 1, 1, none⟩ = some (.int .i64 0) := fun n => (LD.out n).2.2.2.2.2.2.1.2.1
    have zD6 : ∀ n : Wd D, n.w.frozen? ⟨w.heap.size + 1, 1, none⟩ = false := fun n => (LD.out n).2.2.2.2.2.2.1.2.2
    have fD7 : ∀ n : Wd D, n.w.cell? ⟨w.heap.size + 1, 2, none⟩ = some (.int .i64 0) := fun n => (LD.out n).2.2.2.2.2.2.2.1.2.1
    have zD7 : ∀ n : Wd D, n.w.frozen? ⟨w.heap.size + 1, 2, none⟩ = false := fun n => (LD.out n).2.2.2.2.2.2.2.1.2.2
    have fD8 : ∀ n : Wd D, n.w.cell? ⟨w.heap.size + 1, 3, none⟩ = some (.slice none 0 0) := fun n => (LD.out n).2.2.2.2.2.2.2.2.1.2.1
    have zD8 : ∀ n : Wd D, n.w.frozen? ⟨w.heap.size + 1, 3, none⟩ = false := fun n => (LD.out n).2.2.2.2.2.2.2.2.1.2.2
    have fD9 : ∀ n : Wd D, n.w.cell? ⟨w.heap.size, 0, none⟩ = some (.slice q1 cs.length c1) := fun n => (LD.out n).2.2.2.2.2.2.2.2.2.1.2.1
    have fD10 : ∀ n : Wd D, n.w.cell? ⟨w.heap.size, 1, none⟩ = some (.slice q2 ps.length c2) := fun n => (LD.out n).2.2.2.2.2.2.2.2.2.2.1.2.1
    have fD11 : ∀ n : Wd D, n.w.cell? ⟨w.heap.size, 2, none⟩ = some (.slice q3 rs.length c3) := fun n => (LD.out n).2.2.2.2.2.2.2.2.2.2.2.1.2.1
    clear S0 hC0
    clear D1 D2
    have hkw : w.heap.size + 1 < d0.w.heap.size := (LD.out d0).2.2.2.2.2.1.1
    cases z1
    · rw [if_pos rfl] at HS
      obtain rfl : 5 = E := HS.out
      go_wp2_with fail
      refine bodyPost_ret (v := .tuple #[noSp, .int .i64 5]) (by simp [results, Tryz.results70, go_sem, fD5, fD6, fD7, fD8]) rfl ?_
      exact ⟨⟨noSp, rfl, ⟨fun _ => rfl, fun e => by cases e⟩⟩, set4 (BD.out _) (Nat.le_succ _) _ _ _ _⟩
    · rw [if_neg (by simp)] at HS
      have E1 := cin HD fun W => Calls.be (K3 W)
      have E2 := cin HD fun W => Calls.be (K4 W)
      clear K3 K4
      go_wp2_with fail
      refine (E1 _).out.mono ?_
      rintro e w' ⟨rfl, n1, rfl⟩
      go_wp2_with fail
      refine (E2 _).out.mono ?_
      rintro e w' ⟨rfl, n2, rfl⟩
      clear E1 E2
      cases z2
      · rw [if_pos rfl] at HS
        obtain rfl : 1 = E := HS.out
        go_wp2_with fail
        refine bodyPost_ret (v := .tuple #[noSp, .int .i64 1]) (by simp [results, Tryz.results70, go_sem, fD5, fD6, fD7, fD8]) rfl ?_
        exact ⟨⟨noSp, rfl, ⟨fun _ => rfl, fun e => by cases e⟩⟩, set4 (BD.out _) (Nat.le_succ _) _ _ _ _⟩
      · rw [if_neg (by simp)] at HS
        obtain rfl : 0 = E := HS.out
        go_wp2_with fail
        have HKW : Hid (w.heap.size + 1 < n2.w.heap.size) := (LD.out n2).2.2.2.2.2.1.1
        have HKW2 : Hid (w.heap.size ≤ n2.w.heap.size) := (BD.out n2).size
        refine (HK5.out (by first | rfl | trivial) (by first | rfl | trivial) (by first | rfl | trivial) _ (BD.out _)).mono ?_
        rintro e w3 ⟨⟨G, n, xs, rfl, hn, hcall⟩, hb⟩
        obtain ⟨n3, rfl⟩ : ∃ n : Wd D, w3 = n.w := ⟨⟨_, HD.out _ _ (Wd.h _) hb⟩, rfl⟩
        clear hb
        go_wp2_with fail
        refine (hcall.out _ (Below.refl _ _)).mono ?_
        rintro e w4 ⟨⟨sv, rfl, hsv, hth, hcap, hcm⟩, hb⟩
        obtain ⟨n4, rfl⟩ : ∃ n : Wd D, w4 = n.w := ⟨⟨_, HD.out _ _ (Wd.h _) hb⟩, rfl⟩
        obtain ⟨⟨slo, shi, swe, sth⟩, sq, sc⟩ := sv
        have HH := Lib.hid (And.intro hsv (And.intro hth (And.intro hcap hcm)))
        clear hb hcall hsv hth hcap hcm
        go_wp2_with fail
        refine bodyPost_ret (v := .tuple #[.agg #[.int .i64 slo, .int .i64 shi, .int .i64 swe, .slice sq sth.length sc], .int .i64 0]) (by simp [results, Tryz.results70, go_sem, fD5, fD6, fD7, fD8]) rfl ?_
        have hg := grown_trans (grown_trans (grown_trans (set_grown n4.w (w.heap.size + 1) 0 (.int .i64 slo)) (set_grown _ (w.heap.size + 1) 1 (.int .i64 shi))) (set_grown _ (w.heap.size + 1) 2 (.int .i64 swe))) (set_grown _ (w.heap.size + 1) 3 (.slice sq sth.length sc))
        exact ⟨⟨_, rfl, ⟨fun e => absurd rfl e, fun _ => ⟨⟨⟨slo, shi, swe, sth⟩, sq, sc⟩, rfl, HH.out.1, (HH.out.2.1.grownX HKW.out hg ⟨none, 0, 0, fD8 n4⟩).base HKW2.out, HH.out.2.2.1, HH.out.2.2.2⟩⟩⟩, set4 (BD.out _) (Nat.le_succ _) _ _ _ _⟩
  · have hb : (k != 0) = true := by simpa using hk0
    have HK := Lib.hid hk0
    obtain rfl : k = E := by have := HS.out; rwa [if_pos hk0] at this
    clear hk0
    go_wp2_with (first | first | (go_at_call 23; with_reducible refine (D1 _).out.mono ?_; rintro e w' ⟨rfl, n, rfl⟩))
    refine bodyPost_ret (v := .tuple #[noSp, .int .i64 k]) (by simp [results, Tryz.results70, go_sem, fC0, fC1, fC2, fC3]) rfl ?_
    exact ⟨⟨noSp, rfl, ⟨fun _ => rfl, fun e => absurd e HK.out⟩⟩, set4 (BC.out _) (Nat.le_succ _) _ _ _ _⟩
end Go.Proofs.YtcejmfgbfdhflaaGreat
namespace Go.Proofs.YtcejmfgbfdhflaaGreat
open Go.RowKit Go.Shelf Go.BigFrame Go.Sort
attribute [local go_sem] World.cell?_alloc_some
/-- The least of numbers. -/
def mnL (l : List Int) : Int := mns (l.headD 0) l
theorem mns_take (l : List Int) (a : Int) (k : Nat) (h : k < l.length) : mns a (l.take (k + 1)) = min (mns a (l.take k)) l[k] := by rw [take_snocG l k h, mns_snoc]
set_option maxRecDepth 100000 in
set_option maxHeartbeats 1600000 in
theorem minI_any (q : Option Addr) (cap : Nat) (l : List Int) (n : Nat) (hn : l.length = n) (h0 : 0 < n) (w : World) (hl : n ≤ 1000000) (h : IntsAt w q l) :
    Calls Tryz.prog 164 #[.slice q n cap] w fun e w' => e = .returned (.int .i64 (mnL l)) ∧ w = w' := by
  rcases h with rfl | ⟨b, o, rfl, hb, hc⟩
  · simp at hn; omega
  have HC := Lib.hid hc
  have c0 := hc 0 l[0] (List.getElem?_eq_getElem (by omega))
  rw [Nat.add_zero] at c0
  have HM : Hid (mnL l = mns l[0] (l.take n)) := by
    unfold Hid mnL
    rw [List.take_of_length_le (by omega)]
    cases l with
    | nil => simp at hn; omega
    | cons a l => rfl
  have H1 : Hid (mns l[0] (l.take 1) = l[0]) := by
    unfold Hid
    rw [mns_take l _ 0 (by omega)]
    simp [mns]
  obtain ⟨a, ha⟩ : ∃ a, l[0] = a := ⟨_, rfl⟩
  rw [ha] at c0 HM H1
  have hn1 : ¬ ((n : Int) < 1) := by omega
  have hn2 : (0 : Int) < (n : Int) := by omega
  clear hc ha
  go_enter Tryz.func164, Tryz.ntmps164
  go_wp2_with fail
  go_loop [3, 4] (fun v i => ∃ k : Nat, 1 ≤ k ∧ k ≤ n ∧ i = .int .i64 (k : Int) ∧ v = .int .i64 (mns a (l.take k))) (fun _ i => n - (intOf i).toNat)
  case atStart => exact ⟨1, Nat.le_refl _, h0, rfl, by rw [H1.out]⟩
  case round =>
    obtain ⟨k, hk1, hk, rfl, rfl⟩ := hrel
    by_cases hlt : k < n
    · have c1 := HC.out k l[k] (List.getElem?_eq_getElem (by omega))
      have HN : Hid (mns a (l.take (k + 1)) = min (mns a (l.take k)) l[k]) := mns_take l a k (by omega)
      obtain ⟨x, hx⟩ : ∃ x, l[k] = x := ⟨_, rfl⟩
      obtain ⟨m, hm⟩ : ∃ m, mns a (l.take k) = m := ⟨_, rfl⟩
      rw [hx] at c1 HN
      rw [hm] at HN ⊢
      have hlt' : (k : Int) < (n : Int) := by omega
      clear hx hm
      go_wp2_with fail
      all_goals
        go_round
        case rel => exact ⟨k + 1, by omega, hlt, by go_num, by rw [HN.out, ← ifmin]⟩
        case measure => simp [intOf]; omega
    · obtain rfl : k = n := by omega
      go_wp2_with fail
      go_ret
      exact ⟨ret_int (by rw [HM.out]), rfl⟩
set_option maxRecDepth 100000 in
set_option maxHeartbeats 1600000 in
theorem clos103_any (lo hi wear : Int) (q : Option Addr) (nn cap : Nat) (v : Value) (t : Th) (y a b : Int) (S Y L : Nat) (w : World) (ht : okTh t = true) (hw : 0 ≤ wear ∧ wear ≤ 1000) (hy : 0 ≤ y ∧ y ≤ 4000) (hv : ThAt w v t)
    (hS : Cs w [(S, 0, .int .i64 lo), (S, 1, .int .i64 hi), (S, 2, .int .i64 wear), (S, 3, .slice q nn cap)]) (hY : Cs w [(Y, 0, .int .i64 y)]) (hL : Cs w [(L, 0, .int .i64 a), (L, 1, .int .i64 b)]) :
    Calls Tryz.prog 103 #[v, .pointer (some ⟨S, 0, none⟩), .pointer (some ⟨Y, 0, none⟩), .pointer (some ⟨L, 0, none⟩)] w fun e w' => e = .returned (.bool (decide (lowT wear t y = a))) ∧ Gr w w' := by
  have C1 := fun W (h : Gr w W) => lowBy_any lo hi wear q nn cap v t y W ht hw hy (hv.keep h.below)
  obtain ⟨C, hC0, HC, LC, BC, hne⟩ := clsG (StG.nil w)
  haveI := hne
  have k : ∀ (a : Addr) (u : Value), w.cell? a = some u → ∀ n : Wd C, n.w.cell? a = some u := fun a u h n => ((BC.out n).below.cell (World.block_lt_of_cell? w _ h)).trans h
  have f0 := k _ _ hS.1.2.1
  have f1 := k _ _ hS.2.1.2.1
  have f2 := k _ _ hS.2.2.1.2.1
  have f3 := k _ _ hS.2.2.2.1.2.1
  have f4 := k _ _ hY.1.2.1
  have f5 := k _ _ hL.1.2.1
  have f6 := k _ _ hL.2.1.2.1
  obtain ⟨x, hx⟩ : ∃ x, lowT wear t y = x := ⟨_, rfl⟩
  rw [hx] at C1
  rw [hx]
  have D1 := cinGL HC BC C1
  have HB := Lib.hid (fun n : Wd C => BC.out n)
  obtain ⟨c0, rfl⟩ : ∃ n : Wd C, w = n.w := ⟨⟨_, hC0⟩, rfl⟩
  clear hS hY hL C1 k hC0 hv hx ht hw hy
  go_enter Tryz.func103, Tryz.ntmps103
  go_wp2_with fail
  refine wp_region_in C (HC.out _ _ (Wd.h _) (Gr.dr _)) (by kernel_rfl) (by kernel_rfl) ?_
  repeat (go_big_quiet_step (first | with_reducible exact (D1 _).out))
  refine wpQuiet_nil ?_
  intro wx hwx
  obtain ⟨n, rfl⟩ : ∃ n : Wd C, wx = n.w := ⟨⟨wx, hwx⟩, rfl⟩
  clear hwx
  go_wp2_with fail
  go_ret
  exact ⟨ret_bool (by rw [Bool.eq_iff_iff]; simp), HB.out _⟩
set_option maxRecDepth 100000 in
set_option maxHeartbeats 3200000 in
theorem leastNo103_any (s : Spl) (q : Option Addr) (cap : Nat) (y a b : Int) (S Y L : Nat) (w : World) (hs : okS s = true) (hcap : s.ths.length ≤ cap) (_ : cap ≤ maxLen) (hy : 0 ≤ y ∧ y ≤ 4000) (h : ThsAt w q s.ths)
    (hS : Cs w [(S, 0, .int .i64 s.lo), (S, 1, .int .i64 s.hi), (S, 2, .int .i64 s.wear), (S, 3, .slice q s.ths.length cap)]) (hY : Cs w [(Y, 0, .int .i64 y)]) (hL : Cs w [(L, 0, .int .i64 a), (L, 1, .int .i64 b)])
    (hex : ∃ t ∈ s.ths, lowT s.wear t y = a) :
    Calls Tryz.prog 102 #[s.v q cap, .func (.func 103) #[] #[.pointer (some ⟨S, 0, none⟩), .pointer (some ⟨Y, 0, none⟩), .pointer (some ⟨L, 0, none⟩)]] w fun e w' => e = .returned (.int .i64 (mnL ((s.ths.filter fun t => decide (lowT s.wear t y = a)).map (·.num)))) ∧ Below w.heap.size w w' := by
  obtain ⟨s1, s2, s3⟩ := okS_iff.1 hs
  obtain ⟨lo, hi, wear, ths⟩ := s
  simp only [Spl.v] at *
  have H := Lib.hid h
  have H2 := Lib.hid s2
  have H3 := Lib.hid s3
  have HY := Lib.hid hy
  have HCC := Lib.hid (And.intro hS (And.intro hY hL))
  have hl : ths.length ≤ 1000 := s1
  have HX : Hid (0 < ((ths.filter fun t => decide (lowT wear t y = a)).map (·.num)).length) := by
    obtain ⟨t, ht, he⟩ := hex
    have : t ∈ ths.filter fun t => decide (lowT wear t y = a) := List.mem_filter.2 ⟨ht, by simpa using he⟩
    unfold Hid
    rw [List.length_map]
    exact List.length_pos_of_mem this
  clear h s1 s2 s3 hs hy hS hY hL hex

  go_enter Tryz.func102, Tryz.ntmps102
  go_wp2_with fail
  obtain ⟨W0, hW0⟩ : ∃ W0, (w).alloc (.cells #[.int .i64 lo, .int .i64 hi, .int .i64 wear, .slice q ths.length cap] 111) = W0 := ⟨_, rfl⟩
  have S0 : St w W0 [(w.heap.size, 0, .int .i64 lo), (w.heap.size, 1, .int .i64 hi), (w.heap.size, 2, .int .i64 wear), (w.heap.size, 3, .slice q ths.length cap)] := by rw [← hW0]; exact ((St.nil w)).box #[.int .i64 lo, .int .i64 hi, .int .i64 wear, .slice q ths.length cap] 111 (w.heap.size) (by simp)
  rw [hW0]
  clear hW0
  obtain ⟨C, hC0, HC, LC, BC, hne⟩ := cls S0
  haveI := hne
  obtain ⟨c0, rfl⟩ : ∃ n : Wd C, W0 = n.w := ⟨⟨_, hC0⟩, rfl⟩
  have fC0 : ∀ n : Wd C, n.w.cell? ⟨w.heap.size, 0, none⟩ = some (.int .i64 lo) := fun n => (LC.out n).1.2.1
  have fC1 : ∀ n : Wd C, n.w.cell? ⟨w.heap.size, 1, none⟩ = some (.int .i64 hi) := fun n => (LC.out n).2.1.2.1
  have fC2 : ∀ n : Wd C, n.w.cell? ⟨w.heap.size, 2, none⟩ = some (.int .i64 wear) := fun n => (LC.out n).2.2.1.2.1
  have fC3 : ∀ n : Wd C, n.w.cell? ⟨w.heap.size, 3, none⟩ = some (.slice q ths.length cap) := fun n => (LC.out n).2.2.2.1.2.1
  clear S0 hC0
  go_wp2_with fail
  go_loopw [5, 11] (fun v i wr => ∃ (k : Nat), St w wr [(w.heap.size, 0, .int .i64 lo), (w.heap.size, 1, .int .i64 hi), (w.heap.size, 2, .int .i64 wear), (w.heap.size, 3, .slice q ths.length cap)] ∧ i = .int .i64 (k : Int) ∧ k ≤ ths.length ∧ OI wr (w.heap.size + 1) v (((ths.take k).filter fun t => decide (lowT wear t y = a)).map (·.num))) (fun v i wr => ths.length - (intOf i).toNat)
  case atStart => exact ⟨0, ⟨BC.out _, LC.out _⟩, rfl, Nat.zero_le _, World.ownsRow_nil _ _ _ _⟩
  case round =>
    obtain ⟨k, hS, rfl, hk, hO⟩ := hrel
    have HO := Lib.hid hO
    have HB := Lib.hid hS.b
    have HS := Lib.hid hS
    clear fC0 fC1 fC2 fC3 hO
    by_cases hlt : k < ths.length
    · rcases H.out with h0 | ⟨b2, o, rfl, hb, hc⟩
      · exact absurd hlt (by simp [h0])
      · obtain ⟨tv, htv, hth⟩ := hc k ths[k] (List.getElem?_eq_getElem hlt)
        have c1 := (hS.b.cell (p := ⟨b2, o + k, none⟩) hb).trans htv
        have CL := clos103_any lo hi wear (some ⟨b2, o, none⟩) ths.length cap tv ths[k] y a b S Y L wr (H3.out _ (List.getElem_mem hlt)) H2.out HY.out (hth.keep hS.b) (HCC.out.1.keep hS.b) (HCC.out.2.1.keep hS.b) (HCC.out.2.2.keep hS.b)
        have HN : Hid (((ths.take (k + 1)).filter fun t => decide (lowT wear t y = a)).map (·.num) = ((ths.take k).filter fun t => decide (lowT wear t y = a)).map (·.num) ++ (if decide (lowT wear ths[k] y = a) = true then [ths[k].num] else [])) := by
          unfold Hid
          rw [take_snocG ths k hlt, List.filter_append, List.map_append]
          congr 1
          by_cases e : lowT wear ths[k] y = a <;> simp [e]
        have HLn : Hid ((((ths.take k).filter fun t => decide (lowT wear t y = a)).map (·.num)).length ≤ 1000000) := by
          unfold Hid
          have := List.length_filter_le (fun t => decide (lowT wear t y = a)) (ths.take k)
          rw [List.length_map]; simp at this; omega
        have HTA := Lib.hid (hth.keep hS.b)
        obtain ⟨t, ht⟩ : ∃ t, ths[k] = t := ⟨_, rfl⟩
        rw [ht] at CL HN HTA
        obtain ⟨z, hz⟩ : ∃ z, decide (lowT wear t y = a) = z := ⟨_, rfl⟩
        rw [hz] at CL HN
        have hlt' : (k : Int) < (ths.length : Int) := by omega
        obtain ⟨f0, f1, f2, f3, -⟩ := hS.c
        obtain ⟨-, f0, -⟩ := f0
        obtain ⟨-, f1, -⟩ := f1
        obtain ⟨-, f2, -⟩ := f2
        obtain ⟨-, f3, -⟩ := f3
        have HSz := Lib.hid hS.c.1.1
        clear hc htv hth hb hS ht hz
        cases z
        · go_wp2_with (go_at_call 103; refine CL.mono ?_; rintro e w1 ⟨rfl, hg⟩; have HG := Lib.hid hg.below; clear hg CL)
          go_roundw
          case rel => exact ⟨k + 1, HS.out.next HG.out, by simp, hlt, by rw [HN.out]; simp only [Bool.false_eq_true, if_false, List.append_nil]; exact ownsRow_keep HO.out HG.out⟩
          case measure => simp [intOf]; omega
        · go_wp2_with (first
            | (go_at_call 103; refine CL.mono ?_; rintro e w1 ⟨rfl, hg⟩; have HG := Lib.hid hg.below; have N1 := number_any tv t w1 (HTA.out.keep hg.below); clear hg CL)
            | (go_at_call 163; with_reducible refine N1.mono ?_; rintro e w' ⟨rfl, rfl⟩; clear N1)
            | (at_builtin; refine appI (ownsRow_keep HO.out HG.out) (Nat.le_trans (Nat.succ_le_of_lt HSz.out) HG.out.size) t.num HLn.out rfl _ _ rfl rfl rfl ?_; intro v' w2 hO2 hg2))
          go_roundw
          case rel => exact ⟨k + 1, (HS.out.next HG.out).grown (ownsRow_keep HO.out HG.out) hg2 (Nat.le_succ _) (by simp), by simp, hlt, by rw [HN.out]; simp only [if_true]; exact hO2⟩
          case measure => simp [intOf]; omega
    · obtain rfl : k = ths.length := by omega
      rw [List.take_length] at HO
      obtain ⟨q2, cap2, rfl, hI, -⟩ := OI.ints HO.out
      have hlen : ((ths.filter fun t => decide (lowT wear t y = a)).map (·.num)).length ≤ 1000000 := by
        have := List.length_filter_le (fun t => decide (lowT wear t y = a)) ths
        rw [List.length_map]; omega
      have CG := minI_any q2 cap2 _ _ rfl HX.out wr hlen hI
      obtain ⟨N, hN⟩ : ∃ N, ((ths.filter fun t => decide (lowT wear t y = a)).map (·.num)).length = N := ⟨_, rfl⟩
      rw [hN] at CG ⊢
      clear hI HO hS hN hlen
      go_wp2_with (go_at_call 164; refine CG.mono ?_; rintro e w1 ⟨rfl, rfl⟩)
      go_ret
      exact ⟨rfl, HB.out⟩
set_option maxRecDepth 100000 in
set_option maxHeartbeats 1600000 in
theorem clos105_any (lo hi wear : Int) (q : Option Addr) (nn cap : Nat) (v : Value) (t : Th) (y a b : Int) (S Y L : Nat) (w : World) (ht : okTh t = true) (hw : 0 ≤ wear ∧ wear ≤ 1000) (hy : 0 ≤ y ∧ y ≤ 4000) (hv : ThAt w v t)
    (hS : Cs w [(S, 0, .int .i64 lo), (S, 1, .int .i64 hi), (S, 2, .int .i64 wear), (S, 3, .slice q nn cap)]) (hY : Cs w [(Y, 0, .int .i64 y)]) (hL : Cs w [(L, 0, .int .i64 a), (L, 1, .int .i64 b)]) :
    Calls Tryz.prog 105 #[v, .pointer (some ⟨S, 0, none⟩), .pointer (some ⟨Y, 0, none⟩), .pointer (some ⟨L, 0, none⟩)] w fun e w' => e = .returned (.bool (decide (highT wear t y = b))) ∧ Gr w w' := by
  have C1 := fun W (h : Gr w W) => highBy_any lo hi wear q nn cap v t y W ht hw hy (hv.keep h.below)
  obtain ⟨C, hC0, HC, LC, BC, hne⟩ := clsG (StG.nil w)
  haveI := hne
  have k : ∀ (a : Addr) (u : Value), w.cell? a = some u → ∀ n : Wd C, n.w.cell? a = some u := fun a u h n => ((BC.out n).below.cell (World.block_lt_of_cell? w _ h)).trans h
  have f0 := k _ _ hS.1.2.1
  have f1 := k _ _ hS.2.1.2.1
  have f2 := k _ _ hS.2.2.1.2.1
  have f3 := k _ _ hS.2.2.2.1.2.1
  have f4 := k _ _ hY.1.2.1
  have f5 := k _ _ hL.1.2.1
  have f6 := k _ _ hL.2.1.2.1
  obtain ⟨x, hx⟩ : ∃ x, highT wear t y = x := ⟨_, rfl⟩
  rw [hx] at C1
  rw [hx]
  have D1 := cinGL HC BC C1
  have HB := Lib.hid (fun n : Wd C => BC.out n)
  obtain ⟨c0, rfl⟩ : ∃ n : Wd C, w = n.w := ⟨⟨_, hC0⟩, rfl⟩
  clear hS hY hL C1 k hC0 hv hx ht hw hy
  go_enter Tryz.func105, Tryz.ntmps105
  go_wp2_with fail
  refine wp_region_in C (HC.out _ _ (Wd.h _) (Gr.dr _)) (by kernel_rfl) (by kernel_rfl) ?_
  repeat (go_big_quiet_step (first | with_reducible exact (D1 _).out))
  refine wpQuiet_nil ?_
  intro wx hwx
  obtain ⟨n, rfl⟩ : ∃ n : Wd C, wx = n.w := ⟨⟨wx, hwx⟩, rfl⟩
  clear hwx
  go_wp2_with fail
  go_ret
  exact ⟨ret_bool (by rw [Bool.eq_iff_iff]; simp), HB.out _⟩
set_option maxRecDepth 100000 in
set_option maxHeartbeats 3200000 in
theorem leastNo105_any (s : Spl) (q : Option Addr) (cap : Nat) (y a b : Int) (S Y L : Nat) (w : World) (hs : okS s = true) (hcap : s.ths.length ≤ cap) (_ : cap ≤ maxLen) (hy : 0 ≤ y ∧ y ≤ 4000) (h : ThsAt w q s.ths)
    (hS : Cs w [(S, 0, .int .i64 s.lo), (S, 1, .int .i64 s.hi), (S, 2, .int .i64 s.wear), (S, 3, .slice q s.ths.length cap)]) (hY : Cs w [(Y, 0, .int .i64 y)]) (hL : Cs w [(L, 0, .int .i64 a), (L, 1, .int .i64 b)])
    (hex : ∃ t ∈ s.ths, highT s.wear t y = b) :
    Calls Tryz.prog 102 #[s.v q cap, .func (.func 105) #[] #[.pointer (some ⟨S, 0, none⟩), .pointer (some ⟨Y, 0, none⟩), .pointer (some ⟨L, 0, none⟩)]] w fun e w' => e = .returned (.int .i64 (mnL ((s.ths.filter fun t => decide (highT s.wear t y = b)).map (·.num)))) ∧ Below w.heap.size w w' := by
  obtain ⟨s1, s2, s3⟩ := okS_iff.1 hs
  obtain ⟨lo, hi, wear, ths⟩ := s
  simp only [Spl.v] at *
  have H := Lib.hid h
  have H2 := Lib.hid s2
  have H3 := Lib.hid s3
  have HY := Lib.hid hy
  have HCC := Lib.hid (And.intro hS (And.intro hY hL))
  have hl : ths.length ≤ 1000 := s1
  have HX : Hid (0 < ((ths.filter fun t => decide (highT wear t y = b)).map (·.num)).length) := by
    obtain ⟨t, ht, he⟩ := hex
    have : t ∈ ths.filter fun t => decide (highT wear t y = b) := List.mem_filter.2 ⟨ht, by simpa using he⟩
    unfold Hid
    rw [List.length_map]
    exact List.length_pos_of_mem this
  clear h s1 s2 s3 hs hy hS hY hL hex

  go_enter Tryz.func102, Tryz.ntmps102
  go_wp2_with fail
  obtain ⟨W0, hW0⟩ : ∃ W0, (w).alloc (.cells #[.int .i64 lo, .int .i64 hi, .int .i64 wear, .slice q ths.length cap] 111) = W0 := ⟨_, rfl⟩
  have S0 : St w W0 [(w.heap.size, 0, .int .i64 lo), (w.heap.size, 1, .int .i64 hi), (w.heap.size, 2, .int .i64 wear), (w.heap.size, 3, .slice q ths.length cap)] := by rw [← hW0]; exact ((St.nil w)).box #[.int .i64 lo, .int .i64 hi, .int .i64 wear, .slice q ths.length cap] 111 (w.heap.size) (by simp)
  rw [hW0]
  clear hW0
  obtain ⟨C, hC0, HC, LC, BC, hne⟩ := cls S0
  haveI := hne
  obtain ⟨c0, rfl⟩ : ∃ n : Wd C, W0 = n.w := ⟨⟨_, hC0⟩, rfl⟩
  have fC0 : ∀ n : Wd C, n.w.cell? ⟨w.heap.size, 0, none⟩ = some (.int .i64 lo) := fun n => (LC.out n).1.2.1
  have fC1 : ∀ n : Wd C, n.w.cell? ⟨w.heap.size, 1, none⟩ = some (.int .i64 hi) := fun n => (LC.out n).2.1.2.1
  have fC2 : ∀ n : Wd C, n.w.cell? ⟨w.heap.size, 2, none⟩ = some (.int .i64 wear) := fun n => (LC.out n).2.2.1.2.1
  have fC3 : ∀ n : Wd C, n.w.cell? ⟨w.heap.size, 3, none⟩ = some (.slice q ths.length cap) := fun n => (LC.out n).2.2.2.1.2.1
  clear S0 hC0
  go_wp2_with fail
  go_loopw [5, 11] (fun v i wr => ∃ (k : Nat), St w wr [(w.heap.size, 0, .int .i64 lo), (w.heap.size, 1, .int .i64 hi), (w.heap.size, 2, .int .i64 wear), (w.heap.size, 3, .slice q ths.length cap)] ∧ i = .int .i64 (k : Int) ∧ k ≤ ths.length ∧ OI wr (w.heap.size + 1) v (((ths.take k).filter fun t => decide (highT wear t y = b)).map (·.num))) (fun v i wr => ths.length - (intOf i).toNat)
  case atStart => exact ⟨0, ⟨BC.out _, LC.out _⟩, rfl, Nat.zero_le _, World.ownsRow_nil _ _ _ _⟩
  case round =>
    obtain ⟨k, hS, rfl, hk, hO⟩ := hrel
    have HO := Lib.hid hO
    have HB := Lib.hid hS.b
    have HS := Lib.hid hS
    clear fC0 fC1 fC2 fC3 hO
    by_cases hlt : k < ths.length
    · rcases H.out with h0 | ⟨b2, o, rfl, hb, hc⟩
      · exact absurd hlt (by simp [h0])
      · obtain ⟨tv, htv, hth⟩ := hc k ths[k] (List.getElem?_eq_getElem hlt)
        have c1 := (hS.b.cell (p := ⟨b2, o + k, none⟩) hb).trans htv
        have CL := clos105_any lo hi wear (some ⟨b2, o, none⟩) ths.length cap tv ths[k] y a b S Y L wr (H3.out _ (List.getElem_mem hlt)) H2.out HY.out (hth.keep hS.b) (HCC.out.1.keep hS.b) (HCC.out.2.1.keep hS.b) (HCC.out.2.2.keep hS.b)
        have HN : Hid (((ths.take (k + 1)).filter fun t => decide (highT wear t y = b)).map (·.num) = ((ths.take k).filter fun t => decide (highT wear t y = b)).map (·.num) ++ (if decide (highT wear ths[k] y = b) = true then [ths[k].num] else [])) := by
          unfold Hid
          rw [take_snocG ths k hlt, List.filter_append, List.map_append]
          congr 1
          by_cases e : highT wear ths[k] y = b <;> simp [e]
        have HLn : Hid ((((ths.take k).filter fun t => decide (highT wear t y = b)).map (·.num)).length ≤ 1000000) := by
          unfold Hid
          have := List.length_filter_le (fun t => decide (highT wear t y = b)) (ths.take k)
          rw [List.length_map]; simp at this; omega
        have HTA := Lib.hid (hth.keep hS.b)
        obtain ⟨t, ht⟩ : ∃ t, ths[k] = t := ⟨_, rfl⟩
        rw [ht] at CL HN HTA
        obtain ⟨z, hz⟩ : ∃ z, decide (highT wear t y = b) = z := ⟨_, rfl⟩
        rw [hz] at CL HN
        have hlt' : (k : Int) < (ths.length : Int) := by omega
        obtain ⟨f0, f1, f2, f3, -⟩ := hS.c
        obtain ⟨-, f0, -⟩ := f0
        obtain ⟨-, f1, -⟩ := f1
        obtain ⟨-, f2, -⟩ := f2
        obtain ⟨-, f3, -⟩ := f3
        have HSz := Lib.hid hS.c.1.1
        clear hc htv hth hb hS ht hz
        cases z
        · go_wp2_with (go_at_call 105; refine CL.mono ?_; rintro e w1 ⟨rfl, hg⟩; have HG := Lib.hid hg.below; clear hg CL)
          go_roundw
          case rel => exact ⟨k + 1, HS.out.next HG.out, by simp, hlt, by rw [HN.out]; simp only [Bool.false_eq_true, if_false, List.append_nil]; exact ownsRow_keep HO.out HG.out⟩
          case measure => simp [intOf]; omega
        · go_wp2_with (first
            | (go_at_call 105; refine CL.mono ?_; rintro e w1 ⟨rfl, hg⟩; have HG := Lib.hid hg.below; have N1 := number_any tv t w1 (HTA.out.keep hg.below); clear hg CL)
            | (go_at_call 163; with_reducible refine N1.mono ?_; rintro e w' ⟨rfl, rfl⟩; clear N1)
            | (at_builtin; refine appI (ownsRow_keep HO.out HG.out) (Nat.le_trans (Nat.succ_le_of_lt HSz.out) HG.out.size) t.num HLn.out rfl _ _ rfl rfl rfl ?_; intro v' w2 hO2 hg2))
          go_roundw
          case rel => exact ⟨k + 1, (HS.out.next HG.out).grown (ownsRow_keep HO.out HG.out) hg2 (Nat.le_succ _) (by simp), by simp, hlt, by rw [HN.out]; simp only [if_true]; exact hO2⟩
          case measure => simp [intOf]; omega
    · obtain rfl : k = ths.length := by omega
      rw [List.take_length] at HO
      obtain ⟨q2, cap2, rfl, hI, -⟩ := OI.ints HO.out
      have hlen : ((ths.filter fun t => decide (highT wear t y = b)).map (·.num)).length ≤ 1000000 := by
        have := List.length_filter_le (fun t => decide (highT wear t y = b)) ths
        rw [List.length_map]; omega
      have CG := minI_any q2 cap2 _ _ rfl HX.out wr hlen hI
      obtain ⟨N, hN⟩ : ∃ N, ((ths.filter fun t => decide (highT wear t y = b)).map (·.num)).length = N := ⟨_, rfl⟩
      rw [hN] at CG ⊢
      clear hI HO hS hN hlen
      go_wp2_with (go_at_call 164; refine CG.mono ?_; rintro e w1 ⟨rfl, rfl⟩)
      go_ret
      exact ⟨rfl, HB.out⟩
end Go.Proofs.YtcejmfgbfdhflaaGreat
namespace Go.Proofs.YtcejmfgbfdhflaaGreat
open Go.RowKit Go.Shelf Go.BigFrame Go.Sort
attribute [local go_sem] World.cell?_alloc_some
theorem sE_zero {x : WA} {ch y : Int} (h : sE x ch y = 0) : chk x = 0 ∧ (∃ c, chF x.cs ch = some c ∧ chOr x.cs ch = c) ∧ (chOr x.cs ch).year ≤ y ∧ y ≤ 4000 := by
  unfold sE at h
  by_cases h1 : chk x = 0
  · rw [if_neg (by simpa using h1)] at h
    cases h2 : chF x.cs ch with
    | none => rw [h2] at h; simp at h
    | some c =>
      rw [h2] at h
      rw [if_neg (by simp)] at h
      cases h3 : inB (chOr x.cs ch).year 4000 y with
      | false => rw [h3] at h; simp at h
      | true => exact ⟨h1, ⟨c, rfl, chOr_some h2⟩, inB_iff.1 h3⟩
  · rw [if_pos h1] at h; exact absurd h h1
theorem spP_ok {x : WA} {c : Ch} (hw : OkW x) (hc : OkC x c) (i : Nat) (hi : i < (tsO x c).length) : okS (spP c (tsO x c) x.ps i) = true := by
  have hk := okCh_iff.1 hc.ok
  refine okS_iff.2 ⟨?_, hk.2.2.2, fun t ht => ?_⟩
  · unfold spP
    simp only [List.length_cons, List.length_map]
    have := List.length_filter_le (fun p : Pf => p.ch == c.id && decide (cntU ((tsO x c).map (·.year)) p.year = i + 1)) x.ps
    have := hw.n60
    omega
  · unfold spP at ht
    rcases List.mem_cons.1 ht with rfl | ht
    · refine (begs_ok hc _ ?_).1
      refine (srtB_perm _).subset ?_
      show (tsO x c).getD i dTh ∈ tsO x c
      rw [List.getD_eq_getElem?_getD, List.getElem?_eq_getElem hi]
      exact List.getElem_mem hi
    · obtain ⟨p, hp, rfl⟩ := List.mem_map.1 ht
      obtain ⟨h1, h2⟩ := List.mem_filter.1 hp
      simp only [Bool.and_eq_true, beq_iff_eq] at h2
      exact (hc.py p h1 h2.1).2
theorem spO_ok {x : WA} {ch y : Int} (h : sE x ch y = 0) : okS (spO x (chOr x.cs ch) y) = true ∧ 0 ≤ y ∧ y ≤ 4000 := by
  obtain ⟨h1, ⟨c, h2, h3⟩, h4, h5⟩ := sE_zero h
  have hw := okW_of h1
  have hc := okC_of hw h2
  rw [h3] at h4 ⊢
  have hk := okCh_iff.1 hc.ok
  exact ⟨spP_ok hw hc _ (ix_lt h4), by omega, h5⟩
/-- The error of Long. -/
def agE (x : WA) (ch y : Int) : Int := if sE x ch y ≠ 0 then sE x ch y else if clS (spO x (chOr x.cs ch) y) = [] then 0 else 9
theorem agE_zero {x : WA} {ch y : Int} (h : agE x ch y = 0) : sE x ch y = 0 ∧ clS (spO x (chOr x.cs ch) y) = [] := by
  unfold agE at h
  by_cases h1 : sE x ch y = 0
  · rw [if_neg (by simpa using h1)] at h
    by_cases h2 : clS (spO x (chOr x.cs ch) y) = []
    · exact ⟨h1, h2⟩
    · rw [if_neg h2] at h; cases h
  · rw [if_pos h1] at h; exact absurd h h1
set_option maxRecDepth 100000 in
set_option maxHeartbeats 6400000 in
theorem agreedIn_any (x : WA) (ch y : Int) (w : World) (h : x.At w) :
    Calls Tryz.prog 99 #[x.v, .int .i64 ch, .int .i64 y] w fun e w' => (∃ v, e = .returned (.tuple #[v, .int .i64 (agE x ch y)]) ∧ SpRes x (chOr x.cs ch) (agE x ch y) y w.heap.size w' v) ∧ Below w.heap.size w w' := by
  have K1 := fun W (hb : Below w.heap.size w W) => spellIn_any x ch y W (h.keep hb)
  have HOK : Hid (sE x ch y = 0 → okS (spO x (chOr x.cs ch) y) = true) := fun e => (spO_ok e).1
  obtain ⟨E, hE⟩ : ∃ E, agE x ch y = E := ⟨_, rfl⟩
  rw [hE]
  have hS := hE
  unfold agE at hS
  obtain ⟨k, hk⟩ : ∃ k, sE x ch y = k := ⟨_, rfl⟩
  obtain ⟨c, hc⟩ : ∃ c, chOr x.cs ch = c := ⟨_, rfl⟩
  rw [hk, hc] at hS HOK
  rw [hc]
  simp only [hk, hc] at K1
  have HS := Lib.hid hS
  clear h hE hS hk hc
  obtain ⟨X, hX⟩ : ∃ X, x = X := ⟨_, rfl⟩
  have HX := Lib.hid hX
  rw [hX] at HOK HS ⊢
  simp only [hX] at K1
  have K2 := K1
  clear K1 hX HX
  obtain ⟨cs, ps, rs, q1, q2, q3, c1, c2, c3⟩ := X
  simp only [WA.v] at K2 ⊢
  go_enter Tryz.func99, Tryz.ntmps99
  go_wp2_with fail
  obtain ⟨W0, hW0⟩ : ∃ W0, ((w).alloc (.cells #[.slice q1 cs.length c1, .slice q2 ps.length c2, .slice q3 rs.length c3] 26)).alloc (.cells #[.int .i64 0, .int .i64 0, .int .i64 0, .slice none 0 0] 111) = W0 := ⟨_, rfl⟩
  have S0 : St w W0 [(w.heap.size + 1, 0, .int .i64 0), (w.heap.size + 1, 1, .int .i64 0), (w.heap.size + 1, 2, .int .i64 0), (w.heap.size + 1, 3, .slice none 0 0), (w.heap.size, 0, .slice q1 cs.length c1), (w.heap.size, 1, .slice q2 ps.length c2), (w.heap.size, 2, .slice q3 rs.length c3)] := by rw [← hW0]; exact (((St.nil w)).box #[.slice q1 cs.length c1, .slice q2 ps.length c2, .slice q3 rs.length c3] 26 (w.heap.size) (by simp)).box #[.int .i64 0, .int .i64 0, .int .i64 0, .slice none 0 0] 111 (w.heap.size + 1) (by simp)
  rw [hW0]
  clear hW0
  obtain ⟨C, hC0, HC, LC, BC, hne⟩ := cls S0
  haveI := hne
  obtain ⟨c0, rfl⟩ : ∃ n : Wd C, W0 = n.w := ⟨⟨_, hC0⟩, rfl⟩
  have fC0 : ∀ n : Wd C, n.w.cell? ⟨w.heap.size + 1, 0, none⟩ = some (.int .i64 0) := fun n => (LC.out n).1.2.1
  have zC0 : ∀ n : Wd C, n.w.frozen? ⟨w.heap.size + 1, 0, none⟩ = false := fun n => (LC.out n).1.2.2
  have fC1 : ∀ n : Wd C, n.w.cell? ⟨w.heap.size + 1, 1, none⟩ = some (.int .i64 0) := fun n => (LC.out n).2.1.2.1
  have zC1 : ∀ n : Wd C, n.w.frozen? ⟨w.heap.size + 1, 1, none⟩ = false := fun n => (LC.out n).2.1.2.2
  have fC2 : ∀ n : Wd C, n.w.cell? ⟨w.heap.size + 1, 2, none⟩ = some (.int .i64 0) := fun n => (LC.out n).2.2.1.2.1
  have zC2 : ∀ n : Wd C, n.w.frozen? ⟨w.heap.size + 1, 2, none⟩ = false := fun n => (LC.out n).2.2.1.2.2
  have fC3 : ∀ n : Wd C, n.w.cell? ⟨w.heap.size + 1, 3, none⟩ = some (.slice none 0 0) := fun n => (LC.out n).2.2.2.1.2.1
  have zC3 : ∀ n : Wd C, n.w.frozen? ⟨w.heap.size + 1, 3, none⟩ = false := fun n => (LC.out n).2.2.2.1.2.2
  have fC4 : ∀ n : Wd C, n.w.cell? ⟨w.heap.size, 0, none⟩ = some (.slice q1 cs.length c1) := fun n => (LC.out n).2.2.2.2.1.2.1
  have fC5 : ∀ n : Wd C, n.w.cell? ⟨w.heap.size, 1, none⟩ = some (.slice q2 ps.length c2) := fun n => (LC.out n).2.2.2.2.2.1.2.1
  have fC6 : ∀ n : Wd C, n.w.cell? ⟨w.heap.size, 2, none⟩ = some (.slice q3 rs.length c3) := fun n => (LC.out n).2.2.2.2.2.2.1.2.1
  clear S0 hC0
  go_wp2_with fail
  refine (K2 _ (BC.out _)).mono ?_
  rintro e w1 ⟨⟨v, rfl, hv⟩, hb⟩
  have HKW : Hid (w.heap.size + 1 < c0.w.heap.size) := (LC.out c0).1.1
  have HKW2 : Hid (w.heap.size ≤ c0.w.heap.size) := (BC.out c0).size
  have S1 : St w1 w1 [(w.heap.size + 1, 0, .int .i64 0), (w.heap.size + 1, 1, .int .i64 0), (w.heap.size + 1, 2, .int .i64 0), (w.heap.size + 1, 3, .slice none 0 0), (w.heap.size, 0, .slice q1 cs.length c1), (w.heap.size, 1, .slice q2 ps.length c2), (w.heap.size, 2, .slice q3 rs.length c3)] := ⟨Below.refl _ _, (LC.out _).keep hb⟩
  have hW : Hid (Below w.heap.size w w1) := (BC.out _).trans (hb.mono (BC.out _).size)
  obtain ⟨B, hB⟩ : ∃ B, c0.w.heap.size = B := ⟨_, rfl⟩
  rw [hB] at hv HKW HKW2
  clear hb K2 HC LC BC fC0 fC1 fC2 fC3 fC4 fC5 fC6 zC0 zC1 zC2 zC3 hne hB
  obtain ⟨K, hC0, HK, LK, BK, hne⟩ := cls S1
  haveI := hne
  obtain ⟨k0, rfl⟩ : ∃ n : Wd K, w1 = n.w := ⟨⟨_, hC0⟩, rfl⟩
  have fK0 : ∀ n : Wd K, n.w.cell? ⟨w.heap.size + 1, 0, none⟩ = some (.int .i64 0) := fun n => (LK.out n).1.2.1
  have fK1 : ∀ n : Wd K, n.w.cell? ⟨w.heap.size + 1, 1, none⟩ = some (.int .i64 0) := fun n => (LK.out n).2.1.2.1
  have fK2 : ∀ n : Wd K, n.w.cell? ⟨w.heap.size + 1, 2, none⟩ = some (.int .i64 0) := fun n => (LK.out n).2.2.1.2.1
  have fK3 : ∀ n : Wd K, n.w.cell? ⟨w.heap.size + 1, 3, none⟩ = some (.slice none 0 0) := fun n => (LK.out n).2.2.2.1.2.1
  have fK4 : ∀ n : Wd K, n.w.cell? ⟨w.heap.size, 0, none⟩ = some (.slice q1 cs.length c1) := fun n => (LK.out n).2.2.2.2.1.2.1
  have fK5 : ∀ n : Wd K, n.w.cell? ⟨w.heap.size, 1, none⟩ = some (.slice q2 ps.length c2) := fun n => (LK.out n).2.2.2.2.2.1.2.1
  have fK6 : ∀ n : Wd K, n.w.cell? ⟨w.heap.size, 2, none⟩ = some (.slice q3 rs.length c3) := fun n => (LK.out n).2.2.2.2.2.2.1.2.1
  have zK0 : ∀ n : Wd K, n.w.frozen? ⟨w.heap.size + 1, 0, none⟩ = false := fun n => (LK.out n).1.2.2
  have zK1 : ∀ n : Wd K, n.w.frozen? ⟨w.heap.size + 1, 1, none⟩ = false := fun n => (LK.out n).2.1.2.2
  have zK2 : ∀ n : Wd K, n.w.frozen? ⟨w.heap.size + 1, 2, none⟩ = false := fun n => (LK.out n).2.2.1.2.2
  have zK3 : ∀ n : Wd K, n.w.frozen? ⟨w.heap.size + 1, 3, none⟩ = false := fun n => (LK.out n).2.2.2.1.2.2
  clear S1 hC0
  have hR : w.heap.size + 1 < k0.w.heap.size := (LK.out k0).1.1
  by_cases hk0 : k = 0
  · subst hk0
    obtain ⟨sv, rfl, hsv, hth, hcap, hcm⟩ := hv.ok rfl
    rw [if_neg (by simp)] at HS
    have hok := HOK.out rfl
    rw [← hsv] at hok
    have CA := fun W (hb : Below k0.w.heap.size k0.w W) => agrees_any sv.s sv.q sv.cap W hok hcap hcm (hth.ths.keep hb)
    have HH := Lib.hid (And.intro hsv (And.intro hth (And.intro hcap hcm)))
    rw [← hsv] at HS
    obtain ⟨⟨slo, shi, swe, sth⟩, sq, sc⟩ := sv
    obtain ⟨z, hz⟩ : ∃ z, decide (clS ⟨slo, shi, swe, sth⟩ = []) = z := ⟨_, rfl⟩
    simp only [SV.v, Spl.v] at CA ⊢
    simp only [hz] at CA
    have HZ := Lib.hid hz
    clear hsv hth hcap hcm hok hv HOK hz
    go_upto_region 2 with fail
    obtain ⟨W0, hW0⟩ : ∃ W0, (k0.w).alloc (.cells #[.int .i64 slo, .int .i64 shi, .int .i64 swe, .slice sq sth.length sc] 111) = W0 := ⟨_, rfl⟩
    have S0 : St k0.w W0 [(k0.w.heap.size, 0, .int .i64 slo), (k0.w.heap.size, 1, .int .i64 shi), (k0.w.heap.size, 2, .int .i64 swe), (k0.w.heap.size, 3, .slice sq sth.length sc), (w.heap.size + 1, 0, .int .i64 0), (w.heap.size + 1, 1, .int .i64 0), (w.heap.size + 1, 2, .int .i64 0), (w.heap.size + 1, 3, .slice none 0 0), (w.heap.size, 0, .slice q1 cs.length c1), (w.heap.size, 1, .slice q2 ps.length c2), (w.heap.size, 2, .slice q3 rs.length c3)] := by rw [← hW0]; exact ((⟨BK.out k0, LK.out k0⟩ : St k0.w k0.w _)).box #[.int .i64 slo, .int .i64 shi, .int .i64 swe, .slice sq sth.length sc] 111 (k0.w.heap.size) (by simp)
    rw [hW0]
    clear hW0
    obtain ⟨kD, hkk⟩ : ∃ k, k0.w.heap.size = k := ⟨_, rfl⟩
    have gkD : k0.w.heap.size ≤ kD := by rw [← hkk]; exact (BK.out k0).size
    rw [hkk] at S0 ⊢
    have eD1 : kD ≠ w.heap.size + 1 := by have h := (LK.out k0).1.1; omega
    have dD1 : w.heap.size + 1 ≠ kD := Ne.symm eD1
    clear hkk
    obtain ⟨D, hC0, HD, LD, BD, hne⟩ := cls S0
    haveI := hne
    obtain ⟨d0, rfl⟩ : ∃ n : Wd D, W0 = n.w := ⟨⟨_, hC0⟩, rfl⟩
    have fD0 : ∀ n : Wd D, n.w.cell? ⟨kD, 0, none⟩ = some (.int .i64 slo) := fun n => (LD.out n).1.2.1
    have fD1 : ∀ n : Wd D, n.w.cell? ⟨kD, 1, none⟩ = some (.int .i64 shi) := fun n => (LD.out n).2.1.2.1
    have fD2 : ∀ n : Wd D, n.w.cell? ⟨kD, 2, none⟩ = some (.int .i64 swe) := fun n => (LD.out n).2.2.1.2.1
    have fD3 : ∀ n : Wd D, n.w.cell? ⟨kD, 3, none⟩ = some (.slice sq sth.length sc) := fun n => (LD.out n).2.2.2.1.2.1
    have fD4 : ∀ n : Wd D, n.w.cell? ⟨w.heap.size + 1, 0, none⟩ = some (.int .i64 0) := fun n => (LD.out n).2.2.2.2.1.2.1
    have zD4 : ∀ n : Wd D, n.w.frozen? ⟨w.heap.size + 1, 0, none⟩ = false := fun n => (LD.out n).2.2.2.2.1.2.2
    have fD5 : ∀ n : Wd D, n.w.cell? ⟨w.heap.size + 1, 1, none⟩ = some (.int .i64 0) := fun n => (LD.out n).2.2.2.2.2.1.2.1
    have zD5 : ∀ n : Wd D, n.w.frozen? ⟨w.heap.size + 1, 1, none⟩ = false := fun n => (LD.out n).2.2.2.2.2.1.2.2
    have fD6 : ∀ n : Wd D, n.w.cell? ⟨w.heap.size + 1, 2, none⟩ = some (.int .i64 0) := fun n => (LD.out n).2.2.2.2.2.2.1.2.1
    have zD6 : ∀ n : Wd D, n.w.frozen? ⟨w.heap.size + 1, 2, none⟩ = false := fun n => (LD.out n).2.2.2.2.2.2.1.2.2
    have fD7 : ∀ n : Wd D, n.w.cell? ⟨w.heap.size + 1, 3, none⟩ = some (.slice none 0 0) := fun n => (LD.out n).2.2.2.2.2.2.2.1.2.1
    have zD7 : ∀ n : Wd D, n.w.frozen? ⟨w.heap.size + 1, 3, none⟩ = false := fun n => (LD.out n).2.2.2.2.2.2.2.1.2.2
    have fD8 : ∀ n : Wd D, n.w.cell? ⟨w.heap.size, 0, none⟩ = some (.slice q1 cs.length c1) := fun n => (LD.out n).2.2.2.2.2.2.2.2.1.2.1
    have fD9 : ∀ n : Wd D, n.w.cell? ⟨w.heap.size, 1, none⟩ = some (.slice q2 ps.length c2) := fun n => (LD.out n).2.2.2.2.2.2.2.2.2.1.2.1
    have fD10 : ∀ n : Wd D, n.w.cell? ⟨w.heap.size, 2, none⟩ = some (.slice q3 rs.length c3) := fun n => (LD.out n).2.2.2.2.2.2.2.2.2.2.1.2.1
    clear S0 hC0
    have E1 := cinL HD BD CA
    have hRD : w.heap.size + 1 < d0.w.heap.size := (LD.out d0).2.2.2.2.1.1
    clear CA
    go_wp2_with fail
    refine (E1 _).out.mono ?_
    rintro e w' ⟨rfl, n, rfl⟩
    have HTN : Hid (ThsN B n.w sq sth) := HH.out.2.1.keep (BD.out n)
    have HWB : Hid (Below w.heap.size w n.w) := hW.out.trans ((BD.out n).mono hW.out.size)
    clear E1
    cases z
    · rw [if_neg (of_decide_eq_false HZ.out)] at HS
      obtain rfl : 9 = E := HS.out
      go_wp2_with fail
      refine bodyPost_ret (v := .tuple #[noSp, .int .i64 9]) (by simp [results, Tryz.results99, go_sem, fD4, fD5, fD6, fD7]) rfl ?_
      exact ⟨⟨noSp, rfl, ⟨fun _ => rfl, fun e => by cases e⟩⟩, set4 HWB.out (Nat.le_succ _) _ _ _ _⟩
    · rw [if_pos (of_decide_eq_true HZ.out)] at HS
      obtain rfl : 0 = E := HS.out
      go_wp2_with fail
      refine bodyPost_ret (v := .tuple #[.agg #[.int .i64 slo, .int .i64 shi, .int .i64 swe, .slice sq sth.length sc], .int .i64 0]) (by simp [results, Tryz.results99, go_sem, fD4, fD5, fD6, fD7]) rfl ?_
      have hg := grown_trans (grown_trans (grown_trans (set_grown n.w (w.heap.size + 1) 0 (.int .i64 slo)) (set_grown _ (w.heap.size + 1) 1 (.int .i64 shi))) (set_grown _ (w.heap.size + 1) 2 (.int .i64 swe))) (set_grown _ (w.heap.size + 1) 3 (.slice sq sth.length sc))
      exact ⟨⟨_, rfl, ⟨fun e => absurd rfl e, fun _ => ⟨⟨⟨slo, shi, swe, sth⟩, sq, sc⟩, rfl, HH.out.1, (HTN.out.grownX HKW.out hg ⟨none, 0, 0, fD7 n⟩).base HKW2.out, HH.out.2.2.1, HH.out.2.2.2⟩⟩⟩, set4 HWB.out (Nat.le_succ _) _ _ _ _⟩
  · have hb : (k != 0) = true := by simpa using hk0
    have HK := Lib.hid hk0
    obtain rfl : k = E := by have := HS.out; rwa [if_pos hk0] at this
    obtain rfl := hv.no hk0
    clear hk0 hv
    go_upto_region 2 with fail
    obtain ⟨W0, hW0⟩ : ∃ W0, (k0.w).alloc (.cells #[.int .i64 0, .int .i64 0, .int .i64 0, .slice none 0 0] 111) = W0 := ⟨_, rfl⟩
    have S0 : St k0.w W0 [(k0.w.heap.size, 0, .int .i64 0), (k0.w.heap.size, 1, .int .i64 0), (k0.w.heap.size, 2, .int .i64 0), (k0.w.heap.size, 3, .slice none 0 0), (w.heap.size + 1, 0, .int .i64 0), (w.heap.size + 1, 1, .int .i64 0), (w.heap.size + 1, 2, .int .i64 0), (w.heap.size + 1, 3, .slice none 0 0), (w.heap.size, 0, .slice q1 cs.length c1), (w.heap.size, 1, .slice q2 ps.length c2), (w.heap.size, 2, .slice q3 rs.length c3)] := by rw [← hW0]; exact ((⟨BK.out k0, LK.out k0⟩ : St k0.w k0.w _)).box #[.int .i64 0, .int .i64 0, .int .i64 0, .slice none 0 0] 111 (k0.w.heap.size) (by simp)
    rw [hW0]
    clear hW0
    obtain ⟨kD, hkk⟩ : ∃ k, k0.w.heap.size = k := ⟨_, rfl⟩
    have gkD : k0.w.heap.size ≤ kD := by rw [← hkk]; exact (BK.out k0).size
    rw [hkk] at S0 ⊢
    have eD1 : kD ≠ w.heap.size + 1 := by have h := (LK.out k0).1.1; omega
    have dD1 : w.heap.size + 1 ≠ kD := Ne.symm eD1
    clear hkk
    obtain ⟨D, hC0, HD, LD, BD, hne⟩ := cls S0
    haveI := hne
    obtain ⟨d0, rfl⟩ : ∃ n : Wd D, W0 = n.w := ⟨⟨_, hC0⟩, rfl⟩
    have fD0 : ∀ n : Wd D, n.w.cell? ⟨kD, 0, none⟩ = some (.int .i64 0) := fun n => (LD.out n).1.2.1
    have fD1 : ∀ n : Wd D, n.w.cell? ⟨kD, 1, none⟩ = some (.int .i64 0) := fun n => (LD.out n).2.1.2.1
    have fD2 : ∀ n : Wd D, n.w.cell? ⟨kD, 2, none⟩ = some (.int .i64 0) := fun n => (LD.out n).2.2.1.2.1
    have fD3 : ∀ n : Wd D, n.w.cell? ⟨kD, 3, none⟩ = some (.slice none 0 0) := fun n => (LD.out n).2.2.2.1.2.1
    have fD4 : ∀ n : Wd D, n.w.cell? ⟨w.heap.size + 1, 0, none⟩ = some (.int .i64 0) := fun n => (LD.out n).2.2.2.2.1.2.1
    have zD4 : ∀ n : Wd D, n.w.frozen? ⟨w.heap.size + 1, 0, none⟩ = false := fun n => (LD.out n).2.2.2.2.1.2.2
    have fD5 : ∀ n : Wd D, n.w.cell? ⟨w.heap.size + 1, 1, none⟩ = some (.int .i64 0) := fun n => (LD.out n).2.2.2.2.2.1.2.1
    have zD5 : ∀ n : Wd D, n.w.frozen? ⟨w.heap.size + 1, 1, none⟩ = false := fun n => (LD.out n).2.2.2.2.2.1.2.2
    have fD6 : ∀ n : Wd D, n.w.cell? ⟨w.heap.size + 1, 2, none⟩ = some (.int .i64 0) := fun n => (LD.out n).2.2.2.2.2.2.1.2.1
    have zD6 : ∀ n : Wd D, n.w.frozen? ⟨w.heap.size + 1, 2, none⟩ = false := fun n => (LD.out n).2.2.2.2.2.2.1.2.2
    have fD7 : ∀ n : Wd D, n.w.cell? ⟨w.heap.size + 1, 3, none⟩ = some (.slice none 0 0) := fun n => (LD.out n).2.2.2.2.2.2.2.1.2.1
    have zD7 : ∀ n : Wd D, n.w.frozen? ⟨w.heap.size + 1, 3, none⟩ = false := fun n => (LD.out n).2.2.2.2.2.2.2.1.2.2
    have fD8 : ∀ n : Wd D, n.w.cell? ⟨w.heap.size, 0, none⟩ = some (.slice q1 cs.length c1) := fun n => (LD.out n).2.2.2.2.2.2.2.2.1.2.1
    have fD9 : ∀ n : Wd D, n.w.cell? ⟨w.heap.size, 1, none⟩ = some (.slice q2 ps.length c2) := fun n => (LD.out n).2.2.2.2.2.2.2.2.2.1.2.1
    have fD10 : ∀ n : Wd D, n.w.cell? ⟨w.heap.size, 2, none⟩ = some (.slice q3 rs.length c3) := fun n => (LD.out n).2.2.2.2.2.2.2.2.2.2.1.2.1
    clear S0 hC0
    have hRD : w.heap.size + 1 < d0.w.heap.size := (LD.out d0).2.2.2.2.1.1
    have HWB : Hid (Below w.heap.size w d0.w) := hW.out.trans ((BD.out d0).mono hW.out.size)
    go_wp2_with fail
    refine bodyPost_ret (v := .tuple #[noSp, .int .i64 k]) (by simp [results, Tryz.results99, go_sem, fD4, fD5, fD6, fD7]) rfl ?_
    exact ⟨⟨noSp, rfl, ⟨fun _ => rfl, fun e => absurd e HK.out⟩⟩, set4 HWB.out (Nat.le_succ _) _ _ _ _⟩
end Go.Proofs.YtcejmfgbfdhflaaGreat
namespace Go.Proofs.YtcejmfgbfdhflaaGreat
open Go.RowKit Go.Shelf Go.BigFrame Go.Sort
attribute [local go_sem] World.cell?_alloc_some
/-- What Long returns. -/
def lgLo (x : WA) (ch y : Int) : Int := if agE x ch y = 0 then lowS (spO x (chOr x.cs ch) y) y else 0
def lgHi (x : WA) (ch y : Int) : Int := if agE x ch y = 0 then highS (spO x (chOr x.cs ch) y) y else 0
theorem set2 {n b : Nat} {w W : World} (h : Below n w W) (hb : n ≤ b) (v0 v1 : Value) : Below n w ((W.setCell ⟨b, 0, none⟩ v0).setCell ⟨b, 1, none⟩ v1) :=
  (h.setCell (p := ⟨b, 0, none⟩) hb _).setCell (p := ⟨b, 1, none⟩) hb _
set_option maxRecDepth 100000 in
set_option maxHeartbeats 6400000 in
theorem Long_any (x : WA) (ch y : Int) (w : World) (h : x.At w) :
    Calls Tryz.prog 30 #[x.v, .int .i64 ch, .int .i64 y] w fun e w' => e = .returned (.tuple #[spv (lgLo x ch y) (lgHi x ch y), .int .i64 (agE x ch y)]) ∧ Below w.heap.size w w' := by
  have K1 := fun W (hb : Below w.heap.size w W) => agreedIn_any x ch y W (h.keep hb)
  have HOK : Hid (agE x ch y = 0 → okS (spO x (chOr x.cs ch) y) = true ∧ 0 ≤ y ∧ y ≤ 4000) := fun e => spO_ok (agE_zero e).1
  obtain ⟨A, hA⟩ : ∃ A, lgLo x ch y = A := ⟨_, rfl⟩
  obtain ⟨B1, hB1⟩ : ∃ B, lgHi x ch y = B := ⟨_, rfl⟩
  obtain ⟨k, hk⟩ : ∃ k, agE x ch y = k := ⟨_, rfl⟩
  obtain ⟨c, hc⟩ : ∃ c, chOr x.cs ch = c := ⟨_, rfl⟩
  obtain ⟨s, hs⟩ : ∃ s, spO x c y = s := ⟨_, rfl⟩
  rw [hA, hB1]
  unfold lgLo at hA
  unfold lgHi at hB1
  rw [hk, hc, hs] at hA hB1 HOK
  simp only [hk, hc] at K1
  rw [hk]
  have HS := Lib.hid hs
  have HA := Lib.hid hA
  have HB1 := Lib.hid hB1
  clear h hk hc hA hB1
  obtain ⟨X, hX⟩ : ∃ X, x = X := ⟨_, rfl⟩
  rw [hX] at HS ⊢
  simp only [hX] at K1
  have K2 := K1
  clear K1 hX hs
  obtain ⟨cs, ps, rs, q1, q2, q3, c1, c2, c3⟩ := X
  simp only [WA.v] at K2 ⊢
  go_enter Tryz.func30, Tryz.ntmps30
  go_wp2_with fail
  obtain ⟨W0, hW0⟩ : ∃ W0, ((w).alloc (.cells #[.slice q1 cs.length c1, .slice q2 ps.length c2, .slice q3 rs.length c3] 26)).alloc (.cells #[.int .i64 0, .int .i64 0] 30) = W0 := ⟨_, rfl⟩
  have S0 : St w W0 [(w.heap.size + 1, 0, .int .i64 0), (w.heap.size + 1, 1, .int .i64 0), (w.heap.size, 0, .slice q1 cs.length c1), (w.heap.size, 1, .slice q2 ps.length c2), (w.heap.size, 2, .slice q3 rs.length c3)] := by rw [← hW0]; exact (((St.nil w)).box #[.slice q1 cs.length c1, .slice q2 ps.length c2, .slice q3 rs.length c3] 26 (w.heap.size) (by simp)).box #[.int .i64 0, .int .i64 0] 30 (w.heap.size + 1) (by simp)
  rw [hW0]
  clear hW0
  obtain ⟨C, hC0, HC, LC, BC, hne⟩ := cls S0
  haveI := hne
  obtain ⟨c0, rfl⟩ : ∃ n : Wd C, W0 = n.w := ⟨⟨_, hC0⟩, rfl⟩
  have fC0 : ∀ n : Wd C, n.w.cell? ⟨w.heap.size + 1, 0, none⟩ = some (.int .i64 0) := fun n => (LC.out n).1.2.1
  have zC0 : ∀ n : Wd C, n.w.frozen? ⟨w.heap.size + 1, 0, none⟩ = false := fun n => (LC.out n).1.2.2
  have fC1 : ∀ n : Wd C, n.w.cell? ⟨w.heap.size + 1, 1, none⟩ = some (.int .i64 0) := fun n => (LC.out n).2.1.2.1
  have zC1 : ∀ n : Wd C, n.w.frozen? ⟨w.heap.size + 1, 1, none⟩ = false := fun n => (LC.out n).2.1.2.2
  have fC2 : ∀ n : Wd C, n.w.cell? ⟨w.heap.size, 0, none⟩ = some (.slice q1 cs.length c1) := fun n => (LC.out n).2.2.1.2.1
  have fC3 : ∀ n : Wd C, n.w.cell? ⟨w.heap.size, 1, none⟩ = some (.slice q2 ps.length c2) := fun n => (LC.out n).2.2.2.1.2.1
  have fC4 : ∀ n : Wd C, n.w.cell? ⟨w.heap.size, 2, none⟩ = some (.slice q3 rs.length c3) := fun n => (LC.out n).2.2.2.2.1.2.1
  clear S0 hC0
  go_wp2_with fail
  refine (K2 _ (BC.out _)).mono ?_
  rintro e w1 ⟨⟨v, rfl, hv⟩, hb⟩
  have S1 : St w1 w1 [(w.heap.size + 1, 0, .int .i64 0), (w.heap.size + 1, 1, .int .i64 0), (w.heap.size, 0, .slice q1 cs.length c1), (w.heap.size, 1, .slice q2 ps.length c2), (w.heap.size, 2, .slice q3 rs.length c3)] := ⟨Below.refl _ _, (LC.out _).keep hb⟩
  have hW : Hid (Below w.heap.size w w1) := (BC.out _).trans (hb.mono (BC.out _).size)
  clear hb K2 HC BC fC0 fC1 fC2 fC3 fC4 zC0 zC1 hne
  obtain ⟨K, hC0, HK, LK, BK, hne⟩ := cls S1
  haveI := hne
  obtain ⟨k0, rfl⟩ : ∃ n : Wd K, w1 = n.w := ⟨⟨_, hC0⟩, rfl⟩
  have fK0 : ∀ n : Wd K, n.w.cell? ⟨w.heap.size + 1, 0, none⟩ = some (.int .i64 0) := fun n => (LK.out n).1.2.1
  have fK1 : ∀ n : Wd K, n.w.cell? ⟨w.heap.size + 1, 1, none⟩ = some (.int .i64 0) := fun n => (LK.out n).2.1.2.1
  have fK2 : ∀ n : Wd K, n.w.cell? ⟨w.heap.size, 0, none⟩ = some (.slice q1 cs.length c1) := fun n => (LK.out n).2.2.1.2.1
  have fK3 : ∀ n : Wd K, n.w.cell? ⟨w.heap.size, 1, none⟩ = some (.slice q2 ps.length c2) := fun n => (LK.out n).2.2.2.1.2.1
  have fK4 : ∀ n : Wd K, n.w.cell? ⟨w.heap.size, 2, none⟩ = some (.slice q3 rs.length c3) := fun n => (LK.out n).2.2.2.2.1.2.1
  have zK0 : ∀ n : Wd K, n.w.frozen? ⟨w.heap.size + 1, 0, none⟩ = false := fun n => (LK.out n).1.2.2
  have zK1 : ∀ n : Wd K, n.w.frozen? ⟨w.heap.size + 1, 1, none⟩ = false := fun n => (LK.out n).2.1.2.2
  clear S1 hC0
  have hR : w.heap.size + 1 < k0.w.heap.size := (LK.out k0).1.1
  by_cases hk0 : k = 0
  · subst hk0
    obtain ⟨sv, rfl, hsv, hth, hcap, hcm⟩ := hv.ok rfl
    obtain ⟨hok, hy⟩ := HOK.out rfl
    have hss : sv.s = s := hsv.trans HS.out
    rw [← hss] at hok HA HB1
    have CA := fun W (hb : Below k0.w.heap.size k0.w W) => long_any sv.s sv.q sv.cap y W hok hy (hth.ths.keep hb)
    rw [if_pos rfl] at HA HB1
    simp only [HA.out, HB1.out] at CA
    obtain ⟨⟨slo, shi, swe, sth⟩, sq, sc⟩ := sv
    simp only [SV.v, Spl.v] at CA ⊢
    clear hsv hth hcap hcm hok hv HOK hss HA HB1
    go_upto_region 2 with fail
    obtain ⟨W0, hW0⟩ : ∃ W0, (k0.w).alloc (.cells #[.int .i64 slo, .int .i64 shi, .int .i64 swe, .slice sq sth.length sc] 111) = W0 := ⟨_, rfl⟩
    have S0 : St k0.w W0 [(k0.w.heap.size, 0, .int .i64 slo), (k0.w.heap.size, 1, .int .i64 shi), (k0.w.heap.size, 2, .int .i64 swe), (k0.w.heap.size, 3, .slice sq sth.length sc), (w.heap.size + 1, 0, .int .i64 0), (w.heap.size + 1, 1, .int .i64 0), (w.heap.size, 0, .slice q1 cs.length c1), (w.heap.size, 1, .slice q2 ps.length c2), (w.heap.size, 2, .slice q3 rs.length c3)] := by rw [← hW0]; exact ((⟨BK.out k0, LK.out k0⟩ : St k0.w k0.w _)).box #[.int .i64 slo, .int .i64 shi, .int .i64 swe, .slice sq sth.length sc] 111 (k0.w.heap.size) (by simp)
    rw [hW0]
    clear hW0
    obtain ⟨kD, hkk⟩ : ∃ k, k0.w.heap.size = k := ⟨_, rfl⟩
    have gkD : k0.w.heap.size ≤ kD := by rw [← hkk]; exact (BK.out k0).size
    rw [hkk] at S0 ⊢
    have eD1 : kD ≠ w.heap.size + 1 := by have h := (LK.out k0).1.1; omega
    have dD1 : w.heap.size + 1 ≠ kD := Ne.symm eD1
    clear hkk
    obtain ⟨D, hC0, HD, LD, BD, hne⟩ := cls S0
    haveI := hne
    obtain ⟨d0, rfl⟩ : ∃ n : Wd D, W0 = n.w := ⟨⟨_, hC0⟩, rfl⟩
    have fD0 : ∀ n : Wd D, n.w.cell? ⟨kD, 0, none⟩ = some (.int .i64 slo) := fun n => (LD.out n).1.2.1
    have fD1 : ∀ n : Wd D, n.w.cell? ⟨kD, 1, none⟩ = some (.int .i64 shi) := fun n => (LD.out n).2.1.2.1
    have fD2 : ∀ n : Wd D, n.w.cell? ⟨kD, 2, none⟩ = some (.int .i64 swe) := fun n => (LD.out n).2.2.1.2.1
    have fD3 : ∀ n : Wd D, n.w.cell? ⟨kD, 3, none⟩ = some (.slice sq sth.length sc) := fun n => (LD.out n).2.2.2.1.2.1
    have fD4 : ∀ n : Wd D, n.w.cell? ⟨w.heap.size + 1, 0, none⟩ = some (.int .i64 0) := fun n => (LD.out n).2.2.2.2.1.2.1
    have zD4 : ∀ n : Wd D, n.w.frozen? ⟨w.heap.size + 1, 0, none⟩ = false := fun n => (LD.out n).2.2.2.2.1.2.2
    have fD5 : ∀ n : Wd D, n.w.cell? ⟨w.heap.size + 1, 1, none⟩ = some (.int .i64 0) := fun n => (LD.out n).2.2.2.2.2.1.2.1
    have zD5 : ∀ n : Wd D, n.w.frozen? ⟨w.heap.size + 1, 1, none⟩ = false := fun n => (LD.out n).2.2.2.2.2.1.2.2
    have fD6 : ∀ n : Wd D, n.w.cell? ⟨w.heap.size, 0, none⟩ = some (.slice q1 cs.length c1) := fun n => (LD.out n).2.2.2.2.2.2.1.2.1
    have fD7 : ∀ n : Wd D, n.w.cell? ⟨w.heap.size, 1, none⟩ = some (.slice q2 ps.length c2) := fun n => (LD.out n).2.2.2.2.2.2.2.1.2.1
    have fD8 : ∀ n : Wd D, n.w.cell? ⟨w.heap.size, 2, none⟩ = some (.slice q3 rs.length c3) := fun n => (LD.out n).2.2.2.2.2.2.2.2.1.2.1
    clear S0 hC0
    have E1 := cinL HD BD CA
    have hRD : w.heap.size + 1 < d0.w.heap.size := (LD.out d0).2.2.2.2.1.1
    clear CA
    go_wp2_with fail
    refine (E1 _).out.mono ?_
    rintro e w' ⟨rfl, n, rfl⟩
    have HWB : Hid (Below w.heap.size w n.w) := hW.out.trans ((BD.out n).mono hW.out.size)
    clear E1
    go_wp2_with fail
    refine bodyPost_ret (v := .tuple #[spv A B1, .int .i64 0]) (by simp [results, Tryz.results30, go_sem, fD4, fD5]) rfl ⟨rfl, ?_⟩
    exact set2 HWB.out (Nat.le_succ _) _ _
  · have hb : (k != 0) = true := by simpa using hk0
    rw [if_neg hk0] at HA HB1
    obtain rfl : 0 = A := HA.out
    obtain rfl : 0 = B1 := HB1.out
    obtain rfl := hv.no hk0
    clear hk0 hv
    go_upto_region 2 with fail
    obtain ⟨W0, hW0⟩ : ∃ W0, (k0.w).alloc (.cells #[.int .i64 0, .int .i64 0, .int .i64 0, .slice none 0 0] 111) = W0 := ⟨_, rfl⟩
    have S0 : St k0.w W0 [(k0.w.heap.size, 0, .int .i64 0), (k0.w.heap.size, 1, .int .i64 0), (k0.w.heap.size, 2, .int .i64 0), (k0.w.heap.size, 3, .slice none 0 0), (w.heap.size + 1, 0, .int .i64 0), (w.heap.size + 1, 1, .int .i64 0), (w.heap.size, 0, .slice q1 cs.length c1), (w.heap.size, 1, .slice q2 ps.length c2), (w.heap.size, 2, .slice q3 rs.length c3)] := by rw [← hW0]; exact ((⟨BK.out k0, LK.out k0⟩ : St k0.w k0.w _)).box #[.int .i64 0, .int .i64 0, .int .i64 0, .slice none 0 0] 111 (k0.w.heap.size) (by simp)
    rw [hW0]
    clear hW0
    obtain ⟨kD, hkk⟩ : ∃ k, k0.w.heap.size = k := ⟨_, rfl⟩
    have gkD : k0.w.heap.size ≤ kD := by rw [← hkk]; exact (BK.out k0).size
    rw [hkk] at S0 ⊢
    have eD1 : kD ≠ w.heap.size + 1 := by have h := (LK.out k0).1.1; omega
    have dD1 : w.heap.size + 1 ≠ kD := Ne.symm eD1
    clear hkk
    obtain ⟨D, hC0, HD, LD, BD, hne⟩ := cls S0
    haveI := hne
    obtain ⟨d0, rfl⟩ : ∃ n : Wd D, W0 = n.w := ⟨⟨_, hC0⟩, rfl⟩
    have fD0 : ∀ n : Wd D, n.w.cell? ⟨kD, 0, none⟩ = some (.int .i64 0) := fun n => (LD.out n).1.2.1
    have fD1 : ∀ n : Wd D, n.w.cell? ⟨kD, 1, none⟩ = some (.int .i64 0) := fun n => (LD.out n).2.1.2.1
    have fD2 : ∀ n : Wd D, n.w.cell? ⟨kD, 2, none⟩ = some (.int .i64 0) := fun n => (LD.out n).2.2.1.2.1
    have fD3 : ∀ n : Wd D, n.w.cell? ⟨kD, 3, none⟩ = some (.slice none 0 0) := fun n => (LD.out n).2.2.2.1.2.1
    have fD4 : ∀ n : Wd D, n.w.cell? ⟨w.heap.size + 1, 0, none⟩ = some (.int .i64 0) := fun n => (LD.out n).2.2.2.2.1.2.1
    have zD4 : ∀ n : Wd D, n.w.frozen? ⟨w.heap.size + 1, 0, none⟩ = false := fun n => (LD.out n).2.2.2.2.1.2.2
    have fD5 : ∀ n : Wd D, n.w.cell? ⟨w.heap.size + 1, 1, none⟩ = some (.int .i64 0) := fun n => (LD.out n).2.2.2.2.2.1.2.1
    have zD5 : ∀ n : Wd D, n.w.frozen? ⟨w.heap.size + 1, 1, none⟩ = false := fun n => (LD.out n).2.2.2.2.2.1.2.2
    have fD6 : ∀ n : Wd D, n.w.cell? ⟨w.heap.size, 0, none⟩ = some (.slice q1 cs.length c1) := fun n => (LD.out n).2.2.2.2.2.2.1.2.1
    have fD7 : ∀ n : Wd D, n.w.cell? ⟨w.heap.size, 1, none⟩ = some (.slice q2 ps.length c2) := fun n => (LD.out n).2.2.2.2.2.2.2.1.2.1
    have fD8 : ∀ n : Wd D, n.w.cell? ⟨w.heap.size, 2, none⟩ = some (.slice q3 rs.length c3) := fun n => (LD.out n).2.2.2.2.2.2.2.2.1.2.1
    clear S0 hC0
    have hRD : w.heap.size + 1 < d0.w.heap.size := (LD.out d0).2.2.2.2.1.1
    have HWB : Hid (Below w.heap.size w d0.w) := hW.out.trans ((BD.out d0).mono hW.out.size)
    go_wp2_with fail
    refine bodyPost_ret (v := .tuple #[spv 0 0, .int .i64 k]) (by simp [results, Tryz.results30, go_sem, fD4, fD5]) rfl ⟨rfl, ?_⟩
    exact set2 HWB.out (Nat.le_succ _) _ _
/-- What Spell returns. -/
def slLo (x : WA) (ch y : Int) : Int := if sE x ch y = 0 then (spO x (chOr x.cs ch) y).lo else 0
def slHi (x : WA) (ch y : Int) : Int := if sE x ch y = 0 then (spO x (chOr x.cs ch) y).hi else 0
set_option maxRecDepth 100000 in
set_option maxHeartbeats 6400000 in
theorem Spell_any (x : WA) (ch y : Int) (w : World) (h : x.At w) :
    Calls Tryz.prog 21 #[x.v, .int .i64 ch, .int .i64 y] w fun e w' => e = .returned (.tuple #[spv (slLo x ch y) (slHi x ch y), .int .i64 (sE x ch y)]) ∧ Below w.heap.size w w' := by
  have K1 := fun W (hb : Below w.heap.size w W) => spellIn_any x ch y W (h.keep hb)
  obtain ⟨A, hA⟩ : ∃ A, slLo x ch y = A := ⟨_, rfl⟩
  obtain ⟨B1, hB1⟩ : ∃ B, slHi x ch y = B := ⟨_, rfl⟩
  obtain ⟨k, hk⟩ : ∃ k, sE x ch y = k := ⟨_, rfl⟩
  obtain ⟨c, hc⟩ : ∃ c, chOr x.cs ch = c := ⟨_, rfl⟩
  obtain ⟨s, hs⟩ : ∃ s, spO x c y = s := ⟨_, rfl⟩
  rw [hA, hB1]
  unfold slLo at hA
  unfold slHi at hB1
  rw [hk, hc, hs] at hA hB1
  simp only [hk, hc] at K1
  rw [hk]
  have K2 : ∀ W, Below w.heap.size w W → Calls Tryz.prog 70 #[x.v, .int .i64 ch, .int .i64 y] W fun e w' => (∃ sw sq sn sc, e = .returned (.tuple #[.agg #[.int .i64 A, .int .i64 B1, .int .i64 sw, .slice sq sn sc], .int .i64 k])) ∧ Below W.heap.size W w' := fun W hb => (K1 W hb).mono (by
    rintro e w' ⟨⟨v, rfl, hv⟩, hb2⟩
    refine ⟨?_, hb2⟩
    by_cases e : k = 0
    · obtain ⟨sv, rfl, hsv, -⟩ := hv.ok e
      rw [if_pos e] at hA hB1
      have hss : sv.s = s := hsv.trans hs
      refine ⟨sv.s.wear, sv.q, sv.s.ths.length, sv.cap, ?_⟩
      rw [← hA, ← hB1, ← hss]
    · obtain rfl := hv.no e
      rw [if_neg e] at hA hB1
      exact ⟨0, none, 0, 0, by rw [← hA, ← hB1]⟩)
  clear h hk hc hA hB1 K1 hs
  obtain ⟨cs, ps, rs, q1, q2, q3, c1, c2, c3⟩ := x
  simp only [WA.v] at *
  go_enter Tryz.func21, Tryz.ntmps21
  go_wp2_with fail
  obtain ⟨W0, hW0⟩ : ∃ W0, ((w).alloc (.cells #[.slice q1 cs.length c1, .slice q2 ps.length c2, .slice q3 rs.length c3] 26)).alloc (.cells #[.int .i64 0, .int .i64 0] 30) = W0 := ⟨_, rfl⟩
  have S0 : St w W0 [(w.heap.size + 1, 0, .int .i64 0), (w.heap.size + 1, 1, .int .i64 0), (w.heap.size, 0, .slice q1 cs.length c1), (w.heap.size, 1, .slice q2 ps.length c2), (w.heap.size, 2, .slice q3 rs.length c3)] := by rw [← hW0]; exact (((St.nil w)).box #[.slice q1 cs.length c1, .slice q2 ps.length c2, .slice q3 rs.length c3] 26 (w.heap.size) (by simp)).box #[.int .i64 0, .int .i64 0] 30 (w.heap.size + 1) (by simp)
  rw [hW0]
  clear hW0
  obtain ⟨C, hC0, HC, LC, BC, hne⟩ := cls S0
  haveI := hne
  obtain ⟨c0, rfl⟩ : ∃ n : Wd C, W0 = n.w := ⟨⟨_, hC0⟩, rfl⟩
  have fC0 : ∀ n : Wd C, n.w.cell? ⟨w.heap.size + 1, 0, none⟩ = some (.int .i64 0) := fun n => (LC.out n).1.2.1
  have zC0 : ∀ n : Wd C, n.w.frozen? ⟨w.heap.size + 1, 0, none⟩ = false := fun n => (LC.out n).1.2.2
  have fC1 : ∀ n : Wd C, n.w.cell? ⟨w.heap.size + 1, 1, none⟩ = some (.int .i64 0) := fun n => (LC.out n).2.1.2.1
  have zC1 : ∀ n : Wd C, n.w.frozen? ⟨w.heap.size + 1, 1, none⟩ = false := fun n => (LC.out n).2.1.2.2
  have fC2 : ∀ n : Wd C, n.w.cell? ⟨w.heap.size, 0, none⟩ = some (.slice q1 cs.length c1) := fun n => (LC.out n).2.2.1.2.1
  have fC3 : ∀ n : Wd C, n.w.cell? ⟨w.heap.size, 1, none⟩ = some (.slice q2 ps.length c2) := fun n => (LC.out n).2.2.2.1.2.1
  have fC4 : ∀ n : Wd C, n.w.cell? ⟨w.heap.size, 2, none⟩ = some (.slice q3 rs.length c3) := fun n => (LC.out n).2.2.2.2.1.2.1
  clear S0 hC0
  go_wp2_with fail
  refine (K2 _ (BC.out _)).mono ?_
  rintro e w1 ⟨⟨sw, sq, sn, sc, rfl⟩, hb⟩
  obtain ⟨m, rfl⟩ : ∃ m : Wd C, w1 = m.w := ⟨⟨_, HC.out _ _ (Wd.h _) hb⟩, rfl⟩
  clear hb K2
  go_upto_region 2 with fail
  obtain ⟨W0, hW0⟩ : ∃ W0, (m.w).alloc (.cells #[.int .i64 A, .int .i64 B1, .int .i64 sw, .slice sq sn sc] 111) = W0 := ⟨_, rfl⟩
  have S0 : St w W0 [(m.w.heap.size, 0, .int .i64 A), (m.w.heap.size, 1, .int .i64 B1), (m.w.heap.size, 2, .int .i64 sw), (m.w.heap.size, 3, .slice sq sn sc), (w.heap.size + 1, 0, .int .i64 0), (w.heap.size + 1, 1, .int .i64 0), (w.heap.size, 0, .slice q1 cs.length c1), (w.heap.size, 1, .slice q2 ps.length c2), (w.heap.size, 2, .slice q3 rs.length c3)] := by rw [← hW0]; exact ((⟨BC.out m, LC.out m⟩ : St w m.w _)).box #[.int .i64 A, .int .i64 B1, .int .i64 sw, .slice sq sn sc] 111 (m.w.heap.size) (by simp)
  rw [hW0]
  clear hW0
  obtain ⟨kD, hkk⟩ : ∃ k, m.w.heap.size = k := ⟨_, rfl⟩
  have gkD : w.heap.size ≤ kD := by rw [← hkk]; exact (BC.out m).size
  rw [hkk] at S0 ⊢
  have eD1 : kD ≠ w.heap.size + 1 := by have h := (LC.out m).1.1; omega
  have dD1 : w.heap.size + 1 ≠ kD := Ne.symm eD1
  clear hkk
  obtain ⟨D, hC0, HD, LD, BD, hne⟩ := cls S0
  haveI := hne
  obtain ⟨d0, rfl⟩ : ∃ n : Wd D, W0 = n.w := ⟨⟨_, hC0⟩, rfl⟩
  have fD0 : ∀ n : Wd D, n.w.cell? ⟨kD, 0, none⟩ = some (.int .i64 A) := fun n => (LD.out n).1.2.1
  have fD1 : ∀ n : Wd D, n.w.cell? ⟨kD, 1, none⟩ = some (.int .i64 B1) := fun n => (LD.out n).2.1.2.1
  have fD2 : ∀ n : Wd D, n.w.cell? ⟨kD, 2, none⟩ = some (.int .i64 sw) := fun n => (LD.out n).2.2.1.2.1
  have fD3 : ∀ n : Wd D, n.w.cell? ⟨kD, 3, none⟩ = some (.slice sq sn sc) := fun n => (LD.out n).2.2.2.1.2.1
  have fD4 : ∀ n : Wd D, n.w.cell? ⟨w.heap.size + 1, 0, none⟩ = some (.int .i64 0) := fun n => (LD.out n).2.2.2.2.1.2.1
  have zD4 : ∀ n : Wd D, n.w.frozen? ⟨w.heap.size + 1, 0, none⟩ = false := fun n => (LD.out n).2.2.2.2.1.2.2
  have fD5 : ∀ n : Wd D, n.w.cell? ⟨w.heap.size + 1, 1, none⟩ = some (.int .i64 0) := fun n => (LD.out n).2.2.2.2.2.1.2.1
  have zD5 : ∀ n : Wd D, n.w.frozen? ⟨w.heap.size + 1, 1, none⟩ = false := fun n => (LD.out n).2.2.2.2.2.1.2.2
  have fD6 : ∀ n : Wd D, n.w.cell? ⟨w.heap.size, 0, none⟩ = some (.slice q1 cs.length c1) := fun n => (LD.out n).2.2.2.2.2.2.1.2.1
  have fD7 : ∀ n : Wd D, n.w.cell? ⟨w.heap.size, 1, none⟩ = some (.slice q2 ps.length c2) := fun n => (LD.out n).2.2.2.2.2.2.2.1.2.1
  have fD8 : ∀ n : Wd D, n.w.cell? ⟨w.heap.size, 2, none⟩ = some (.slice q3 rs.length c3) := fun n => (LD.out n).2.2.2.2.2.2.2.2.1.2.1
  clear S0 hC0
  have hRD : w.heap.size + 1 < d0.w.heap.size := (LD.out d0).2.2.2.2.1.1
  go_wp2_with fail
  refine bodyPost_ret (v := .tuple #[spv A B1, .int .i64 k]) (by simp [results, Tryz.results21, go_sem, fD4, fD5]) rfl ⟨rfl, ?_⟩
  exact set2 (BD.out _) (Nat.le_succ _) _ _
end Go.Proofs.YtcejmfgbfdhflaaGreat
