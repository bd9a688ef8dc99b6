import Derived.RangeFuncNested
import Derived.RangeFuncBox
import Derived.RangeFuncBound
import Derived.RangeFuncCalls
import Derived.RangeFuncLeaves
import Derived.Shelf.Abstract
import Derived.Shelf.RegionOpen
import Derived.BigRegionIn
import Derived.Stop.RegionWithIn
import Derived.WalkKit
import Derived.OwnWalkIn
import Derived.TacticsInMore
import Derived.LoopNIn
import Derived.LoopIn
import Derived.Lib.Hide
import Derived.IntWalk
import Derived.Deep.QuietTactic
import Derived.Deep.RegionHeld3
import Derived.Deep.RegionLaw
import Derived.StillTailTactics
import Derived.WalkSmall
import Derived.Deep.DeepMust
import Derived.BigQuiet
import Derived.WalkLawsBesides
import Derived.WalkSpells
import Derived.LoopTactic
import Derived.Test.YtdefpcjlbganpaaShelf
import Derived.Test.YtdefpcjlbganpaaSidesLaw
import Derived.Deep.DeepCutAuto
import Derived.Deep.CutBlock
namespace Go.Proofs.Ytdefpcjlbganpaa
open Go.RowKit Go.Shelf Go.BigFrame Go.Sort
attribute [local go_sem] Oper.semAt_some
attribute [local go_sem] World.cell?_alloc_some
instance : Inhabited Pt := ⟨⟨0, 0⟩⟩
/-- A point's cells. -/
def encP (p : Pt) : List Value := [.int .i64 p.x, .int .i64 p.y]
theorem flatK_flatP (l : List Pt) : (flatK encP 2 l.toArray).toList = flatP l := by
  apply List.ext_getElem?
  intro t
  have hsz : (flatK encP 2 l.toArray).size = l.length * 2 := by rw [size_flatK]; simp
  by_cases ht : t < l.length * 2
  · have hq : t / 2 < l.length := by omega
    obtain ⟨g1, g2⟩ := flatP_get (List.getElem?_eq_getElem hq)
    have e1 : (flatK encP 2 l.toArray)[t]! = (encP (l.toArray)[t / 2]!)[t % 2]! := get_flatK _ _ _ _ (by simpa using ht)
    have e2 : (l.toArray)[t / 2]! = l[t / 2] := by rw [getElem!_pos _ _ (by simpa using hq)]; simp
    have e3 : (flatK encP 2 l.toArray).toList[t]? = some ((flatK encP 2 l.toArray)[t]!) := by rw [getElem!_pos _ _ (by omega)]; simp [hsz, ht]
    rw [e3, e1, e2]
    obtain ⟨q, hqq⟩ : ∃ q, l[t / 2] = q := ⟨_, rfl⟩
    rw [hqq] at g1 g2 ⊢
    rcases Nat.mod_two_eq_zero_or_one t with h | h
    · rw [show t / 2 * 2 = t from by omega] at g1
      rw [h, g1]; rfl
    · rw [show t / 2 * 2 + 1 = t from by omega] at g2
      rw [h, g2]; rfl
  · rw [List.getElem?_eq_none (by simp [hsz]; omega), List.getElem?_eq_none (by rw [flatP_len]; omega)]
theorem PO.turn {w B L v v' l W W'} {s : List Pt} (h : PO w B L v l W) (hg : W.grownBy W' v.ownBlock) (ho : W'.ownsRow B 23 2 v' s.length (flatP s)) : PO w B L v' s W' := by
  refine ⟨⟨?_, h.st.c.grown hg (fun x hx e => ?_)⟩, h.lo, h.wB, Nat.le_trans h.BW hg.size, ho⟩
  · refine h.st.b.trans ⟨hg.os, hg.tape, hg.output, hg.size, fun k hk => hg.block k (Nat.lt_of_lt_of_le hk h.st.b.size) (fun e => ?_)⟩
    have := ownBlock_lo h.own e.symm
    have := h.wB
    omega
  · have := ownBlock_lo h.own e.symm
    have := h.lo x hx
    omega
/-- The world with a row of points laid anew. -/
theorem heap_put (W : World) (g : Nat) (cur : Array Value) (e : TypeId) (fr : Nat × Nat) (hg : W.heap[g]? = some (.cells cur e fr)) (F : Array Value) (n : Nat) (os : Array Obj) :
    W.grownBy (grow (putRow id (Sort.ahead W n) g 0 F) os) (some g) ∧ (grow (putRow id (Sort.ahead W n) g 0 F) os).heap[g]? = some (.cells (putCells id 0 F cur) e fr) := by
  have hlt : g < W.heap.size := (Array.getElem?_eq_some_iff.1 hg).1
  refine ⟨⟨rfl, rfl, rfl, ?_, fun k hk hne => ?_⟩, ?_⟩
  · simp [grow, putRow, mapBlock, Sort.ahead]
  · have : g ≠ k := fun e => hne (by rw [e])
    simp [grow, putRow, mapBlock, Sort.ahead, Array.getElem?_append, hk, Array.getElem_modify, this]
  · have h2 := (Array.getElem?_eq_some_iff.1 hg).2
    simp [grow, putRow, mapBlock, Sort.ahead, Array.getElem?_append, hlt, Array.getElem_modify, onCells, h2]
theorem putCells_take (F cur : Array Value) (h : F.size ≤ cur.size) : (putCells id 0 F cur).toList.take F.size = F.toList := by
  apply List.ext_getElem?
  intro t
  by_cases ht : t < F.size
  · rw [List.getElem?_take_of_lt ht]
    have h1 : t < cur.size := by omega
    simp [putCells, ht, h1]
  · rw [List.getElem?_eq_none (by simp; omega), List.getElem?_eq_none (by simp; omega)]
theorem ownsRow_put {W : World} {B g cap : Nat} {l s : List Pt} (h : W.ownsRow B 23 2 (.slice (some ⟨g, 0, none⟩) l.length cap) l.length (flatP l)) (hs : s.length = l.length) (n : Nat) (os : Array Obj) :
    W.grownBy (grow (putRow id (Sort.ahead W n) g 0 (flatK encP 2 s.toArray)) os) (some g) ∧ (grow (putRow id (Sort.ahead W n) g 0 (flatK encP 2 s.toArray)) os).ownsRow B 23 2 (.slice (some ⟨g, 0, none⟩) s.length cap) s.length (flatP s) := by
  obtain ⟨h1, ⟨e, _⟩ | ⟨g', cap', cur, e, hB, hc, h3, h4, h5, h6⟩⟩ := h
  · cases e
  · injection e with e1 e2 e3
    injection e1 with e1
    injection e1 with e1
    subst e1 e3
    obtain ⟨k1, k2⟩ := heap_put W g cur 23 (0, 0) hc (flatK encP 2 s.toArray) n os
    have hsz : (flatK encP 2 s.toArray).size = s.length * 2 := by rw [size_flatK]; simp
    refine ⟨k1, by rw [flatP_len], .inr ⟨g, cap, _, rfl, hB, k2, by omega, h4, by simp [putCells, h5], ?_⟩⟩
    rw [← hsz, putCells_take _ _ (by rw [hsz, h5, hs]; omega), flatK_flatP]
theorem holdsK_own {W : World} {B g cap : Nat} {l : List Pt} (h : W.ownsRow B 23 2 (.slice (some ⟨g, 0, none⟩) l.length cap) l.length (flatP l)) : HoldsK encP 2 W g 0 l.toArray ∧ g < W.heap.size := by
  obtain ⟨h1, ⟨e, _⟩ | ⟨g', cap', cur, e, hB, hc, h3, h4, h5, h6⟩⟩ := h
  · cases e
  · injection e with e1 e2 e3
    injection e1 with e1
    injection e1 with e1
    subst e1 e3
    refine ⟨fun j hj => ?_, (Array.getElem?_eq_some_iff.1 hc).1⟩
    have hsz : (flatK encP 2 l.toArray).size = l.length * 2 := by rw [size_flatK]; simp
    have hj2 : j < (flatK encP 2 l.toArray).toList.length := by simpa using hj
    have e1 : (flatK encP 2 l.toArray).toList[j]? = some ((flatK encP 2 l.toArray)[j]!) := by rw [getElem!_pos (flatK encP 2 l.toArray) j hj]; simp
    rw [flatK_flatP, ← h6, List.getElem?_take_of_lt (by omega)] at e1
    rw [Nat.zero_add]
    have e2 : cur[j]? = some ((flatK encP 2 l.toArray)[j]!) := by simpa using e1
    exact ⟨by simpa [World.cell?, hc] using e2, by simp [World.frozen?, hc]⟩
theorem cm_lt (a b : Int) : cm a b < 0 ↔ a < b := by unfold cm; split <;> (try split) <;> omega
theorem cm_zero (a b : Int) : cm a b = 0 ↔ a = b := by unfold cm; split <;> (try split) <;> omega
theorem lt_cmpP (p q : Pt) : ltOf cmpP p q = true ↔ p.x < q.x ∨ p.x = q.x ∧ p.y < q.y := by
  unfold ltOf cmpP
  rw [decide_eq_true_iff]
  have h1 := cm_lt p.x q.x
  have h2 := cm_zero p.x q.x
  have h3 := cm_lt p.y q.y
  have h4 := cm_zero p.y q.y
  simp only [orI]
  split
  · rename_i h; split
    · rename_i h'; omega
    · omega
  · omega
theorem swoP : SWO (ltOf cmpP) := by
  refine ⟨fun x => ?_, fun x y z h k => ?_, fun x y z h k => ?_⟩
  · rw [Bool.eq_false_iff, ne_eq, lt_cmpP]; omega
  · rw [lt_cmpP] at *; omega
  · rw [Bool.eq_false_iff, ne_eq, lt_cmpP] at *; omega
theorem totP (x y : Pt) (h : ltOf cmpP x y = false) (k : ltOf cmpP y x = false) : x = y := by
  rw [Bool.eq_false_iff, ne_eq, lt_cmpP] at h k
  obtain ⟨a, b⟩ := x
  obtain ⟨c, d⟩ := y
  simp only at h k
  obtain rfl : a = c := by omega
  obtain rfl : b = d := by omega
  rfl
/-- Points in their order. -/
def srtP (l : List Pt) : List Pt := l.mergeSort fun x y => !(ltOf cmpP) y x
theorem srtP_len (l : List Pt) : (srtP l).length = l.length := List.length_mergeSort l
theorem sortP_any {w : World} {B : Nat} {L : List (Nat × Nat × Value)} {g cap : Nat} {l : List Pt} {W : World} (h : PO w B L (.slice (some ⟨g, 0, none⟩) l.length cap) l W) (hl : l.length ≤ 1000000) :
    Calls Try.prog 104 #[.slice (some ⟨g, 0, none⟩) l.length cap, .func (.func 105) #[] #[]] W fun e w' => e = .returned (.tuple #[]) ∧ PO w B L (.slice (some ⟨g, 0, none⟩) l.length cap) (srtP l) w' := by
  obtain ⟨hH, hlt⟩ := holdsK_own h.own
  have K := AnyQ.slices_SortFunc_total Try.sortP 2 (fun w => by exact Try.isAgg23 w) (fun w => by exact Try.sizeOf23 w) encP (fun _ => rfl) (fun x v hv => by simp [encP] at hv; rcases hv with rfl | rfl <;> rfl) cmpP swoP 105 #[] g 0 cap l.toArray W
    (enters_of Try.func105 (by kernel_rfl) rfl) (fun m os dk _ x y => by exact hull1_any x y _) hH hlt (by simp; omega) totP
  simp only [List.size_toArray] at K
  refine K.mono ?_
  rintro e w' ⟨rfl, n, os, rfl⟩
  refine ⟨rfl, ?_⟩
  have e1 : (srtP l).length = l.length := srtP_len l
  obtain ⟨k1, k2⟩ := ownsRow_put (s := srtP l) h.own e1 n os
  have := h.turn (s := srtP l) k1 k2
  rw [e1] at this
  exact this
/-- The points of a list, turned round. -/
theorem revP_any {w : World} {B : Nat} {L : List (Nat × Nat × Value)} {g cap : Nat} {l : List Pt} {W : World} (h : PO w B L (.slice (some ⟨g, 0, none⟩) l.length cap) l W) (hl : l.length ≤ 1000000) :
    Calls Try.prog 109 #[.slice (some ⟨g, 0, none⟩) l.length cap] W fun e w' => e = .returned (.tuple #[]) ∧ PO w B L (.slice (some ⟨g, 0, none⟩) l.length cap) l.reverse w' ∧ W.grownBy w' (some g) := by
  obtain ⟨hH, hlt⟩ := holdsK_own h.own
  have K := AnyQ.slices_Reverse Try.revP 2 (fun w => by exact Try.isAgg23 w) (fun w => by exact Try.sizeOf23 w) encP (fun _ => rfl) (fun x v hv => by simp [encP] at hv; rcases hv with rfl | rfl <;> rfl) g 0 cap l.toArray W hH (by simp; omega)
  simp only [List.size_toArray, List.reverse_toArray] at K
  refine K.mono ?_
  rintro e w' ⟨rfl, n, rfl⟩
  refine ⟨rfl, ?_⟩
  obtain ⟨k1, k2⟩ := ownsRow_put (s := l.reverse) h.own (by simp) n #[]
  rw [grow_empty] at k1 k2
  have := h.turn (s := l.reverse) k1 k2
  rw [List.length_reverse] at this
  exact ⟨this, k1⟩
end Go.Proofs.Ytdefpcjlbganpaa
namespace Go.Proofs.Ytdefpcjlbganpaa
open Go.RowKit Go.Shelf Go.BigFrame Go.Sort
attribute [local go_sem] Oper.semAt_some
attribute [local go_sem] World.cell?_alloc_some
theorem PO.shape {w B L v l W} (h : PO w B L v l W) (h0 : 0 < l.length) : ∃ g cap, v = .slice (some ⟨g, 0, none⟩) l.length cap ∧ B ≤ g ∧ l.length ≤ cap ∧ cap ≤ maxLen := by
  obtain ⟨h1, ⟨_, h2⟩ | ⟨g, cap, cur, rfl, hg, hc, h3, h4, h5, h6⟩⟩ := h.own
  · omega
  · exact ⟨g, cap, rfl, hg, h3, h4⟩
theorem PO.of_own {w W : World} {B n : Nat} {v : Value} {l : List Pt} (hb : Below w.heap.size w W) (ho : W.ownsRow B 23 2 v n (flatP l)) (hn : n = l.length) (hB : w.heap.size ≤ B) : PO w w.heap.size [] v l W := by
  subst hn
  refine ⟨⟨hb, trivial⟩, by simp, Nat.le_refl _, hb.size, ho.1, ?_⟩
  rcases ho.2 with h | ⟨g, cap, cur, h1, h2, h3⟩
  · exact .inl h
  · exact .inr ⟨g, cap, cur, h1, by omega, h3⟩
theorem flat_cells {W : World} {b o : Nat} {l : List Pt} (hp : PtsAt W (some ⟨b, o, none⟩) l) (t : Nat) (u : Value) (hu : (flatP l)[t]? = some u) : W.cell? ⟨b, o + t, none⟩ = some u := by
  rcases hp with rfl | ⟨b', o', e, _, hc⟩
  · simp [flatP] at hu
  · injection e with e
    injection e with e1 e2
    subst e1 e2
    have ht : t < l.length * 2 := by have := (List.getElem?_eq_some_iff.1 hu).1; rwa [flatP_len] at this
    have hq : t / 2 < l.length := by omega
    obtain ⟨c1, c2⟩ := hc (t / 2) _ (List.getElem?_eq_getElem hq)
    obtain ⟨g1, g2⟩ := flatP_get (List.getElem?_eq_getElem hq)
    rcases Nat.mod_two_eq_zero_or_one t with h | h
    · rw [show t / 2 * 2 = t from by omega] at g1 c1
      rw [hu] at g1
      rw [c1, Option.some.inj g1]
    · rw [show t / 2 * 2 + 1 = t from by omega] at g2
      rw [show o + t / 2 * 2 + 1 = o + t from by omega] at c2
      rw [hu] at g2
      rw [c2, Option.some.inj g2]
/-- Points, all of them appended. -/
theorem appM {w : World} {B : Nat} {L : List (Nat × Nat × Value)} {v : Value} {l : List Pt} {W : World} (hP : PO w B L v l W) (m : List Pt) (hl : l.length + m.length ≤ 1000000) (b of c : Nat) (hm : PtsAt W (some ⟨b, of, none⟩) m) {ops : Array Oper} {rest : List Oper} {o : Oper} {a : Act} {Q : Exit → Act → World → Prop} (hgd : o.guard = none) (s x : Operand)
    (ho : o.op = .call { callee := .builtin .append, args := #[s, x], argTypes := #[35, 35] }) (hs : a.eval s = v) (hx : a.eval x = .slice (some ⟨b, of, none⟩) m.length c)
    (h : ∀ v' w', PO w B L v' (l ++ m) w' → wpList Try.prog ops Q rest (a.put o.dst v') w') : wpList Try.prog ops Q (o :: rest) a W := by
  obtain ⟨i0, hi, hz0, hz1, hz2⟩ := info_parts Try.inf23
  refine wpList_append_own _ hgd s x 35 ho B 23 i0 (.agg #[.int .i64 0, .int .i64 0]) 2 16 Try.underlying35 hi hz0 hz1 hz2 rfl (by decide) v l.length (flatP l) hs hP.own ⟨b, of, none⟩ m.length c (flatP m) hx (flatP_len m) ?_ flatP_one ?_ ?_ hP.BW ?_
  · intro j u hu
    rw [Addr.add_lit]
    exact flat_cells hm j u hu
  · unfold maxLen; omega
  · omega
  · intro v' w' ho' hg _
    exact h v' w' (hP.app (m := m) hg ho')
theorem cloneP_any (b o cap : Nat) (l : List Pt) (w : World) (hl : l.length ≤ 1000000) (hp : PtsAt w (some ⟨b, o, none⟩) l) :
    Calls Try.prog 103 #[.slice (some ⟨b, o, none⟩) l.length cap] w fun e w' => ∃ v, e = .returned v ∧ PO w w.heap.size [] v l w' := by
  obtain ⟨i0, hi, hz0, hz1, hz2⟩ := info_parts Try.inf23
  refine (AnyE.slices_Clone Try.cloneP i0 (.agg #[.int .i64 0, .int .i64 0]) 2 16 hi hz0 hz1 hz2 rfl (by decide) (fun w => by exact Try.sizeOf23 w) b o l.length cap (flatP l) w (flatP_len l) (by unfold maxLen; omega) (by omega) (fun j u hu => flat_cells hp j u hu) flatP_one).mono ?_
  rintro e w' ⟨v, rfl, ho, _, hb⟩
  exact ⟨v, rfl, PO.of_own hb ho rfl (Nat.le_refl _)⟩
theorem popR_ne (p : Pt) : ∀ st : List Pt, st ≠ [] → popR p st ≠ []
  | [], h => absurd rfl h
  | [a], _ => by simp [popR]
  | b :: a :: r, _ => by
    unfold popR
    split
    · exact popR_ne p (a :: r) (by simp)
    · simp
theorem ltR_two (l : List Pt) (h : 2 ≤ l.length) : 2 ≤ (ltR l).length := by
  have hne : l ≠ [] := fun e => by rw [e] at h; cases h
  obtain ⟨m, x, rfl⟩ : ∃ m x, l = m ++ [x] := ⟨l.dropLast, l.getLast hne, (List.dropLast_concat_getLast hne).symm⟩
  have hm : m ≠ [] := fun e => by rw [e] at h; simp at h
  obtain ⟨m', x', rfl⟩ : ∃ m' x', m = m' ++ [x'] := ⟨m.dropLast, m.getLast hm, (List.dropLast_concat_getLast hm).symm⟩
  rw [ltR_snoc]
  have : popR x (ltR (m' ++ [x'])) ≠ [] := popR_ne _ _ (by rw [ltR_snoc]; simp)
  have := List.length_pos_iff.2 this
  simp only [List.length_cons]; omega
/-- The corners of the hull of points in their order. -/
def hullL (s : List Pt) : List Pt := (ltR s).reverse.dropLast ++ (ltR s.reverse).reverse.dropLast
set_option maxRecDepth 100000 in
set_option maxHeartbeats 8000000 in
theorem Hull_distinct (b o cap : Nat) (l : List Pt) (w : World) (h2 : 2 ≤ l.length) (hl : l.length ≤ 200) (hok : l.all okP = true) (hd : ∀ (k : Nat) (x y : Pt), (srtP l)[k]? = some x → (srtP l)[k + 1]? = some y → x ≠ y) (hp : PtsAt w (some ⟨b, o, none⟩) l) :
    Calls Try.prog 39 #[.slice (some ⟨b, o, none⟩) l.length cap] w fun e w' => ∃ v, e = .returned (.tuple #[v, .int .i64 0]) ∧ PO w w.heap.size [] v (hullL (srtP l)) w' := by
  have C0 := checkPoints_any 1 (some ⟨b, o, none⟩) cap l w (by omega) hp
  rw [ck_all (by omega) hok] at C0
  have HC0 := Lib.hid C0
  have HP := Lib.hid hp
  obtain ⟨s, hs⟩ : ∃ s, srtP l = s := ⟨_, rfl⟩
  have hs1 : s.length = l.length := by rw [← hs]; exact srtP_len l
  rw [hs] at hd ⊢
  have HSRT := Lib.hid hs
  have HS1 := Lib.hid hs1
  clear hs hs1
  have HD := Lib.hid hd
  have HL := Lib.hid (And.intro h2 hl)
  have hgd : ¬ (l.length : Int) = 1 := by omega
  have hgd' : ((l.length : Int) == 1) = false := by simpa using hgd
  clear C0 hp hd hok h2 hl
  go_enter Try.func39, Try.ntmps39
  go_wp2_with (go_at_call 102; refine HC0.out.mono ?_; rintro e w1 ⟨rfl, hb1⟩)
  have HB1 := Lib.hid hb1
  clear hb1
  go_at_call 103
  refine (cloneP_any b o cap l w1 (by have := HL.out; omega) (HP.out.keep HB1.out)).mono ?_
  rintro e w2 ⟨v2, rfl, P2⟩
  obtain ⟨g, cap2, rfl, hg, hcap, hmax⟩ := P2.shape (by have := HL.out; omega)
  have HP2 := Lib.hid P2
  have HG := Lib.hid (And.intro hg (And.intro hcap hmax))
  clear P2 hg hcap hmax
  go_wp2_with fail
  refine (sortP_any HP2.out (by have := HL.out; omega)).mono ?_
  rintro e w3 ⟨rfl, P3⟩
  rw [HSRT.out] at P3
  have HP3 := Lib.hid P3
  have HQ3 : Hid (PtsAt w3 (some ⟨g, 0, none⟩) s) := by
    obtain ⟨a, c, e, hq⟩ := P3.pts
    injection e with e1
    rw [← e1] at hq
    exact hq
  clear P3 HP2
  have CC := compact_distinct (some ⟨g, 0, none⟩) cap2 s w3 (by have := HL.out; have := HS1.out; omega) HD.out HQ3.out
  rw [HS1.out] at CC
  have HCC := Lib.hid CC
  clear CC
  go_wp2_with (go_at_call 107; refine HCC.out.mono ?_; rintro e w4 ⟨rfl, hb4⟩)
  have HP4 := Lib.hid (HP3.out.next hb4)
  have HQ4 := Lib.hid (HQ3.out.keep hb4)
  clear HCC HQ3 HP3 hb4
  have CL := leftTurns_any (some ⟨g, 0, none⟩) cap2 s w4 (by have := HL.out; have := HS1.out; omega) HQ4.out
  rw [HS1.out] at CL
  refine CL.mono ?_
  rintro e w5 ⟨vb, rfl, P5⟩
  clear CL
  have hB5 : Below w4.heap.size w4 w5 := P5.st.b
  have HP5 := Lib.hid (HP4.out.next hB5)
  have hlen5 : 2 ≤ (ltR s).reverse.length := by rw [List.length_reverse]; exact ltR_two s (by have := HL.out; have := HS1.out; omega)
  have HRES0 : Hid (hullL s = (ltR s).reverse.dropLast ++ (ltR s.reverse).reverse.dropLast) := rfl
  obtain ⟨A, hA⟩ : ∃ A, (ltR s).reverse = A := ⟨_, rfl⟩
  have HA200 : Hid ((ltR s).reverse.length ≤ 1000) := by unfold Hid; rw [List.length_reverse]; have := ltR_len _ s rfl; have := HL.out; have := HS1.out; omega
  rw [hA] at P5 hlen5 HRES0 HA200
  clear hA
  obtain ⟨g5, cap5, rfl, hg5, hcap5, hmax5⟩ := P5.shape (by omega)
  have HG5 := Lib.hid (And.intro hg5 (And.intro hcap5 hmax5))
  have HW4 : Hid (w.heap.size ≤ w4.heap.size) := Nat.le_trans HB1.out.size HP4.out.st.b.size
  have hgl : g < w4.heap.size := by have h := HP4.out.own; rw [← HS1.out] at h; exact (holdsK_own h).2
  have HNE : Hid (g5 ≠ g) := by unfold Hid; omega
  have HO5 := Lib.hid P5.own
  have HLN5 := Lib.hid hlen5
  clear P5 HP4 HQ4 hB5 hg5 hcap5 hmax5 hgl hlen5
  have CR := revP_any (l := s) (cap := cap2) (g := g) (by have h := HP5.out; rw [← HS1.out] at h; exact h) (by have := HL.out; have := HS1.out; omega)
  rw [HS1.out] at CR
  have HCR := Lib.hid CR
  clear CR
  go_wp2_with (go_at_call 109; refine HCR.out.mono ?_; rintro e w6 ⟨rfl, P6, hg6⟩)
  have HO6 : Hid (w6.ownsRow w4.heap.size 23 2 (.slice (some ⟨g5, 0, none⟩) A.length cap5) A.length (flatP A)) := World.ownsRow.kept HO5.out hg6 (.inr (fun e => HNE.out (by simpa [Value.ownBlock] using e)))
  have HSR : Hid (s.reverse.length = l.length) := by unfold Hid; rw [List.length_reverse]; exact HS1.out
  have HP6 := Lib.hid P6
  have HQ6 : Hid (PtsAt w6 (some ⟨g, 0, none⟩) s.reverse) := by
    obtain ⟨a, c, e, hq⟩ := P6.pts
    injection e with e1
    rw [← e1] at hq
    exact hq
  clear P6 HO5 HP5 hg6
  have CL := leftTurns_any (some ⟨g, 0, none⟩) cap2 s.reverse w6 (by have := HL.out; have := HSR.out; omega) HQ6.out
  rw [HSR.out] at CL
  refine CL.mono ?_
  rintro e w7 ⟨va, rfl, P7⟩
  clear CL
  have hB7 : Below w6.heap.size w6 w7 := P7.st.b
  have HO7 := Lib.hid (ownsRow_keep HO6.out hB7)
  have hlen7 : 2 ≤ (ltR s.reverse).reverse.length := by rw [List.length_reverse]; exact ltR_two _ (by have := HL.out; have := HSR.out; omega)
  obtain ⟨g7, cap7, rfl, hg7, hcap7, hmax7⟩ := P7.shape (by omega)
  have HG7 := Lib.hid (And.intro hg7 (And.intro hcap7 hmax7))
  have HP7 := Lib.hid P7
  have HLN7 := Lib.hid hlen7
  have HBB : Hid (Below w.heap.size w w7) := (HB1.out).trans (((HP6.out.st.b).trans (hB7.mono HP6.out.st.b.size)).mono HB1.out.size)
  have HBW : Hid (w.heap.size ≤ w4.heap.size) := HW4
  clear P7 hB7 HO6 hg7 hcap7 hmax7 hlen7 HP6 HQ6
  obtain ⟨Z, hZ⟩ : ∃ A, (ltR s.reverse).reverse = A := ⟨_, rfl⟩
  have HZ200 : Hid ((ltR s.reverse).reverse.length ≤ 1000) := by unfold Hid; rw [List.length_reverse]; have := ltR_len _ s.reverse rfl; have := HL.out; have := HSR.out; omega
  rw [hZ] at HLN7 HG7 HP7 HZ200
  have HRES : Hid (hullL s = A.dropLast ++ Z.dropLast) := by unfold Hid; rw [HRES0.out, hZ]
  simp only [hZ]
  clear hZ HRES0
  have HPA : Hid (PO w w.heap.size [] (.slice (some ⟨g5, 0, none⟩) (A.length - 1) cap5) A.dropLast w7) := by
    unfold Hid
    rw [List.dropLast_eq_take]
    exact (PO.of_own HBB.out HO7.out rfl HBW.out).take (A.length - 1) (by omega) (by have := HLN5.out; omega)
  have HPZ : Hid (PtsAt w7 (some ⟨g7, 0, none⟩) Z.dropLast) := by
    unfold Hid
    rw [List.dropLast_eq_take]
    obtain ⟨a, c, e, hq⟩ := (HP7.out.take (Z.length - 1) (by omega) (by have := HLN7.out; omega)).pts
    injection e with e1
    rw [← e1] at hq
    exact hq
  have HLAZ : Hid (A.dropLast.length + Z.dropLast.length ≤ 1000000) := by unfold Hid; rw [List.length_dropLast, List.length_dropLast]; have := HA200.out; have := HZ200.out; omega
  go_wp2_with (first | (go_at_call 110; with_reducible refine (withoutLast_any g5 0 A.length cap5 _ (by have := HLN5.out; omega) HG5.out.2.1 HG5.out.2.2).mono ?_; rintro e w' ⟨rfl, rfl⟩) | (go_at_call 110; with_reducible refine (withoutLast_any g7 0 Z.length cap7 _ (by have := HLN7.out; omega) HG7.out.2.1 HG7.out.2.2).mono ?_; rintro e w' ⟨rfl, rfl⟩) | (at_builtin; refine appM HPA.out Z.dropLast HLAZ.out g7 0 cap7 HPZ.out rfl _ _ rfl rfl (by rw [List.length_dropLast]; rfl) ?_; intro v' w' hPO))
  go_ret2
  refine ⟨_, rfl, ?_⟩
  rw [HRES.out]
  exact hPO
end Go.Proofs.Ytdefpcjlbganpaa
namespace Go.Proofs.Ytdefpcjlbganpaa
open Go.RowKit Go.Shelf Go.BigFrame Go.Sort
attribute [local go_sem] Oper.semAt_some
attribute [local go_sem] World.cell?_alloc_some
set_option maxRecDepth 100000 in
set_option maxHeartbeats 4000000 in
theorem sameP_any (q : Option Addr) (cap : Nat) (l : List Pt) (q2 : Option Addr) (cap2 : Nat) (m : List Pt) (w : World) (hl : l.length ≤ 1000000) (_ : m.length ≤ 1000000) (hp : PtsAt w q l) (hp2 : PtsAt w q2 m) :
    Calls Try.prog 43 #[.slice q l.length cap, .slice q2 m.length cap2] w fun e w' => e = .returned (.bool (decide (l = m))) ∧ Below w.heap.size w w' := by
  have HP := Lib.hid hp
  have HM := Lib.hid hp2
  clear hp hp2
  by_cases hlen : l.length = m.length
  · have S : St w w [] := ⟨Below.refl _ _, trivial⟩
    obtain ⟨C, hC0, HC, LC, BC, hne⟩ := cls S
    haveI := hne
    obtain ⟨c0, hc0⟩ : ∃ n : Wd C, w = n.w := ⟨⟨_, hC0⟩, rfl⟩
    have HC0 := Lib.hid hc0
    clear S hC0 hc0
    obtain ⟨N, hN⟩ : ∃ N, l.length = N := ⟨_, rfl⟩
    have HN := Lib.hid (And.intro hN (hlen.symm.trans hN))
    rw [← hlen, hN]
    rw [hN] at hl
    clear hlen hN
    have HR : Hid (∀ b : Bool, (∀ j : Nat, j < N → l[j]? = m[j]?) → b = true → Value.bool b = Value.bool (decide (l = m))) := fun b h hb => by
      rw [hb]
      congr 1
      symm
      rw [decide_eq_true_iff]
      apply List.ext_getElem?
      intro j
      by_cases hj : j < N
      · exact h j hj
      · rw [List.getElem?_eq_none (by have := HN.out.1; omega), List.getElem?_eq_none (by have := HN.out.2; omega)]
    have HF : Hid (∀ (j : Nat) (x y : Pt), l[j]? = some x → m[j]? = some y → x ≠ y → decide (l = m) = false) := fun j x y h1 h2 h3 => decide_eq_false (fun e => h3 (by rw [e, h2] at h1; exact (Option.some.inj h1).symm))
    go_enter Try.func43, Try.ntmps43
    go_wp2_with fail
    go_loopw [5] (fun i wr => ∃ (k : Nat) (n : Wd C), wr = n.w ∧ i = .int .i64 (k : Int) ∧ k ≤ N ∧ ∀ j : Nat, j < k → l[j]? = m[j]?) (fun i wr => N - (intOf i).toNat)
    case atStart => exact ⟨0, c0, HC0.out, rfl, by omega, fun j h => absurd h (by omega)⟩
    case round =>
      obtain ⟨k, n, rfl, rfl, hk, ha⟩ := hrel
      have HA := Lib.hid ha
      clear ha
      by_cases hlt : k < N
      · obtain ⟨x, hx⟩ : ∃ p, l[k]? = some p := ⟨_, List.getElem?_eq_getElem (by have := HN.out.1; omega)⟩
        obtain ⟨y, hy⟩ : ∃ p, m[k]? = some p := ⟨_, List.getElem?_eq_getElem (by have := HN.out.2; omega)⟩
        rcases HP.out with hnil | ⟨b, o, rfl, hbl, hc⟩
        · rw [hnil] at hx; simp at hx
        · rcases HM.out with hnil | ⟨b', o', rfl, hbl', hc'⟩
          · rw [hnil] at hy; simp at hy
          · have u := hc _ _ hx
            have v := hc' _ _ hy
            have g1 : ∀ n : Wd C, n.w.cell? ⟨b, o + k * 2, none⟩ = some (.int .i64 x.x) := fun n => ((BC.out n).cell (p := ⟨b, o + k * 2, none⟩) hbl).trans u.1
            have g2 : ∀ n : Wd C, n.w.cell? ⟨b, o + k * 2 + 1, none⟩ = some (.int .i64 x.y) := fun n => ((BC.out n).cell (p := ⟨b, o + k * 2 + 1, none⟩) hbl).trans u.2
            have g3 : ∀ n : Wd C, n.w.cell? ⟨b', o' + k * 2, none⟩ = some (.int .i64 y.x) := fun n => ((BC.out n).cell (p := ⟨b', o' + k * 2, none⟩) hbl').trans v.1
            have g4 : ∀ n : Wd C, n.w.cell? ⟨b', o' + k * 2 + 1, none⟩ = some (.int .i64 y.y) := fun n => ((BC.out n).cell (p := ⟨b', o' + k * 2 + 1, none⟩) hbl').trans v.2
            have ke := fun W => neP_run x y W
            obtain ⟨z, hz⟩ : ∃ z, ptE x y = z := ⟨_, rfl⟩
            rw [hz] at ke
            have HZ := Lib.hid hz
            have HXY := Lib.hid (And.intro hx hy)
            clear u v hx hy hc hc' hz
            cases z
            · go_wp2_with fail
              refine wp_region_in C (HC.out _ _ (Wd.h _) (below_dr _)) (by kernel_rfl) (by kernel_rfl) ?_
              repeat (go_big_quiet_step (first | fail))
              refine wpQuiet_nil ?_
              intro wx hwx
              obtain ⟨n2, rfl⟩ : ∃ n : Wd C, wx = n.w := ⟨⟨wx, hwx⟩, rfl⟩
              clear hwx
              go_wp2_with fail
              go_ret
              exact ⟨ret_bool (HF.out k x y HXY.out.1 HXY.out.2 (by have h := HZ.out; unfold ptE at h; simpa using h)).symm, BC.out _⟩
            · go_wp2_with fail
              refine wp_region_in C (HC.out _ _ (Wd.h _) (below_dr _)) (by kernel_rfl) (by kernel_rfl) ?_
              repeat (go_big_quiet_step (first | fail))
              refine wpQuiet_nil ?_
              intro wx hwx
              obtain ⟨n2, rfl⟩ : ∃ n : Wd C, wx = n.w := ⟨⟨wx, hwx⟩, rfl⟩
              clear hwx
              go_wp2_with fail
              go_roundw
              case rel => exact ⟨k + 1, n2, rfl, by simp, by omega, fun j hj => by
                by_cases e : j = k
                · subst e
                  have h := HZ.out
                  unfold ptE at h
                  rw [HXY.out.1, HXY.out.2, of_decide_eq_true h]
                · exact HA.out j (by omega)⟩
              case measure => simp [intOf]; omega
      · have HK : Hid (k = N) := by unfold Hid; omega
        go_wp2_with fail
        go_ret
        refine ⟨?_, BC.out _⟩
        have := HR.out true (fun j hj => HA.out j (by have := HK.out; omega)) rfl
        rw [← this]
        rfl
  · have hf : decide (l = m) = false := decide_eq_false (fun e => hlen (by rw [e]))
    rw [hf]
    have hb : ((l.length : Int) != (m.length : Int)) = true := by simp; omega
    have hne : ¬ (l.length : Int) = (m.length : Int) := by omega
    go_enter Try.func43, Try.ntmps43
    go_wp2_with fail
    go_ret
    exact ⟨rfl, Below.refl _ _⟩
set_option maxRecDepth 100000 in
set_option maxHeartbeats 4000000 in
theorem sameI_any (q : Option Addr) (cap : Nat) (l : List Int) (q2 : Option Addr) (cap2 : Nat) (m : List Int) (w : World) (hl : l.length ≤ 1000000) (_ : m.length ≤ 1000000) (hp : IntsAt w q l) (hp2 : IntsAt w q2 m) :
    Calls Try.prog 44 #[.slice q l.length cap, .slice q2 m.length cap2] w fun e w' => e = .returned (.bool (decide (l = m))) ∧ Below w.heap.size w w' := by
  have HP := Lib.hid hp
  have HM := Lib.hid hp2
  clear hp hp2
  by_cases hlen : l.length = m.length
  · have S : St w w [] := ⟨Below.refl _ _, trivial⟩
    obtain ⟨C, hC0, HC, LC, BC, hne⟩ := cls S
    haveI := hne
    obtain ⟨c0, hc0⟩ : ∃ n : Wd C, w = n.w := ⟨⟨_, hC0⟩, rfl⟩
    have HC0 := Lib.hid hc0
    clear S hC0 hc0
    obtain ⟨N, hN⟩ : ∃ N, l.length = N := ⟨_, rfl⟩
    have HN := Lib.hid (And.intro hN (hlen.symm.trans hN))
    rw [← hlen, hN]
    rw [hN] at hl
    clear hlen hN
    have HR : Hid (∀ b : Bool, (∀ j : Nat, j < N → l[j]? = m[j]?) → b = true → Value.bool b = Value.bool (decide (l = m))) := fun b h hb => by
      rw [hb]
      congr 1
      symm
      rw [decide_eq_true_iff]
      apply List.ext_getElem?
      intro j
      by_cases hj : j < N
      · exact h j hj
      · rw [List.getElem?_eq_none (by have := HN.out.1; omega), List.getElem?_eq_none (by have := HN.out.2; omega)]
    have HF : Hid (∀ (j : Nat) (x y : Int), l[j]? = some x → m[j]? = some y → x ≠ y → decide (l = m) = false) := fun j x y h1 h2 h3 => decide_eq_false (fun e => h3 (by rw [e, h2] at h1; exact (Option.some.inj h1).symm))
    go_enter Try.func44, Try.ntmps44
    go_wp2_with fail
    go_loopw [5] (fun i wr => ∃ (k : Nat) (n : Wd C), wr = n.w ∧ i = .int .i64 (k : Int) ∧ k ≤ N ∧ ∀ j : Nat, j < k → l[j]? = m[j]?) (fun i wr => N - (intOf i).toNat)
    case atStart => exact ⟨0, c0, HC0.out, rfl, by omega, fun j h => absurd h (by omega)⟩
    case round =>
      obtain ⟨k, n, rfl, rfl, hk, ha⟩ := hrel
      have HA := Lib.hid ha
      clear ha
      by_cases hlt : k < N
      · obtain ⟨x, hx⟩ : ∃ p, l[k]? = some p := ⟨_, List.getElem?_eq_getElem (by have := HN.out.1; omega)⟩
        obtain ⟨y, hy⟩ : ∃ p, m[k]? = some p := ⟨_, List.getElem?_eq_getElem (by have := HN.out.2; omega)⟩
        rcases HP.out with hnil | ⟨b, o, rfl, hbl, hc⟩
        · rw [hnil] at hx; simp at hx
        · rcases HM.out with hnil | ⟨b', o', rfl, hbl', hc'⟩
          · rw [hnil] at hy; simp at hy
          · have u := hc _ _ hx
            have v := hc' _ _ hy
            have g1 : ∀ n : Wd C, n.w.cell? ⟨b, o + k, none⟩ = some (.int .i64 x) := fun n => ((BC.out n).cell (p := ⟨b, o + k, none⟩) hbl).trans u
            have g3 : ∀ n : Wd C, n.w.cell? ⟨b', o' + k, none⟩ = some (.int .i64 y) := fun n => ((BC.out n).cell (p := ⟨b', o' + k, none⟩) hbl').trans v
            have HXY := Lib.hid (And.intro hx hy)
            clear u v hx hy hc hc'
            by_cases hxy : x = y
            · have hb : (x != y) = false := by simpa using hxy
              have HE := Lib.hid hxy
              clear hxy
              go_wp2_with fail
              refine wp_region_in C (HC.out _ _ (Wd.h _) (below_dr _)) (by kernel_rfl) (by kernel_rfl) ?_
              repeat (go_big_quiet_step (first | fail))
              refine wpQuiet_nil ?_
              intro wx hwx
              obtain ⟨n2, rfl⟩ : ∃ n : Wd C, wx = n.w := ⟨⟨wx, hwx⟩, rfl⟩
              clear hwx
              go_wp2_with fail
              go_roundw
              case rel => exact ⟨k + 1, n2, rfl, by simp, by omega, fun j hj => by
                by_cases e : j = k
                · subst e
                  rw [HXY.out.1, HXY.out.2, HE.out]
                · exact HA.out j (by omega)⟩
              case measure => simp [intOf]; omega
            · have hb : (x != y) = true := by simpa using hxy
              have HE := Lib.hid hxy
              clear hxy
              go_wp2_with fail
              refine wp_region_in C (HC.out _ _ (Wd.h _) (below_dr _)) (by kernel_rfl) (by kernel_rfl) ?_
              repeat (go_big_quiet_step (first | fail))
              refine wpQuiet_nil ?_
              intro wx hwx
              obtain ⟨n2, rfl⟩ : ∃ n : Wd C, wx = n.w := ⟨⟨wx, hwx⟩, rfl⟩
              clear hwx
              go_wp2_with fail
              go_ret
              exact ⟨ret_bool (HF.out k x y HXY.out.1 HXY.out.2 HE.out).symm, BC.out _⟩
      · have HK : Hid (k = N) := by unfold Hid; omega
        go_wp2_with fail
        go_ret
        refine ⟨?_, BC.out _⟩
        have := HR.out true (fun j hj => HA.out j (by have := HK.out; omega)) rfl
        rw [← this]
        rfl
  · have hf : decide (l = m) = false := decide_eq_false (fun e => hlen (by rw [e]))
    rw [hf]
    have hb : ((l.length : Int) != (m.length : Int)) = true := by simp; omega
    have hne : ¬ (l.length : Int) = (m.length : Int) := by omega
    go_enter Try.func44, Try.ntmps44
    go_wp2_with fail
    go_ret
    exact ⟨rfl, Below.refl _ _⟩
end Go.Proofs.Ytdefpcjlbganpaa
namespace Go.Proofs.Ytdefpcjlbganpaa
open Go.RowKit Go.Shelf Go.BigFrame Go.Sort
attribute [local go_sem] Oper.semAt_some
attribute [local go_sem] World.cell?_alloc_some
set_option maxRecDepth 100000 in
set_option maxHeartbeats 4000000 in
theorem indexP_any (q : Option Addr) (cap : Nat) (l : List Pt) (p : Pt) (w : World) (hl : l.length ≤ 1000000) (hp : PtsAt w q l) :
    Calls Try.prog 140 #[.slice q l.length cap, p.v] w fun e w' => (∃ n : Int, e = .returned (.int .i64 n) ∧ (0 ≤ n ↔ p ∈ l)) ∧ Below w.heap.size w w' := by
  have HP := Lib.hid hp
  clear hp
  have HR : Hid (∀ (k : Nat), l[k]? = some p → ∃ n : Int, Ending.returned (.int .i64 (k : Int)) = .returned (.int .i64 n) ∧ (0 ≤ n ↔ p ∈ l)) := fun k hk => ⟨k, rfl, ⟨fun _ => List.mem_of_getElem? hk, fun _ => by omega⟩⟩
  have HF : Hid ((∀ (j : Nat), j < l.length → l[j]? ≠ some p) → ∃ n : Int, Ending.returned (.int .i64 (-1)) = .returned (.int .i64 n) ∧ (0 ≤ n ↔ p ∈ l)) := fun h => ⟨-1, rfl, ⟨fun h' => by omega, fun h' => by
    obtain ⟨j, hj⟩ := List.getElem?_of_mem h'
    exact absurd hj (h j (List.getElem?_eq_some_iff.1 hj).1)⟩⟩
  go_enter Try.func140, Try.ntmps140
  go_wp2_with fail
  obtain ⟨W0, hW0⟩ : ∃ W0, (w).alloc (.cells #[.int .i64 p.x, .int .i64 p.y] 23) = W0 := ⟨_, rfl⟩
  have S0 : St w W0 [(w.heap.size, 0, .int .i64 p.x), (w.heap.size, 1, .int .i64 p.y)] := by rw [← hW0]; exact ((St.nil w)).box #[.int .i64 p.x, .int .i64 p.y] 23 (w.heap.size) (by simp)
  rw [hW0]
  clear hW0
  obtain ⟨C, hC0, HC, LC, BC, hne⟩ := cls S0
  haveI := hne
  obtain ⟨c0, rfl⟩ : ∃ n : Wd C, W0 = n.w := ⟨⟨_, hC0⟩, rfl⟩
  have fC0 : ∀ n : Wd C, n.w.cell? ⟨w.heap.size, 0, none⟩ = some (.int .i64 p.x) := fun n => (LC.out n).1.2.1
  have fC1 : ∀ n : Wd C, n.w.cell? ⟨w.heap.size, 1, none⟩ = some (.int .i64 p.y) := fun n => (LC.out n).2.1.2.1
  clear S0 hC0
  have HC00 : Hid (∃ n : Wd C, n.w = c0.w) := ⟨c0, rfl⟩
  go_loopw [8] (fun i wr => ∃ (k : Nat) (n : Wd C), wr = n.w ∧ i = .int .i64 (k : Int) ∧ k ≤ l.length ∧ ∀ j : Nat, j < k → l[j]? ≠ some p) (fun i wr => l.length - (intOf i).toNat)
  case atStart => exact ⟨0, c0, rfl, rfl, by omega, fun j h => absurd h (by omega)⟩
  case round =>
    obtain ⟨k, n, rfl, rfl, hk, ha⟩ := hrel
    have HA := Lib.hid ha
    clear ha
    by_cases hlt : k < l.length
    · obtain ⟨x, hx⟩ : ∃ p, l[k]? = some p := ⟨_, List.getElem?_eq_getElem hlt⟩
      rcases HP.out with hnil | ⟨b, o, rfl, hbl, hc⟩
      · rw [hnil] at hx; simp at hx
      · have u := hc _ _ hx
        have g1 : ∀ n : Wd C, n.w.cell? ⟨b, o + k * 2, none⟩ = some (.int .i64 x.x) := fun n => ((BC.out n).cell (p := ⟨b, o + k * 2, none⟩) hbl).trans u.1
        have g2 : ∀ n : Wd C, n.w.cell? ⟨b, o + k * 2 + 1, none⟩ = some (.int .i64 x.y) := fun n => ((BC.out n).cell (p := ⟨b, o + k * 2 + 1, none⟩) hbl).trans u.2
        have ke := fun W => eqP_run p x W
        obtain ⟨z, hz⟩ : ∃ z, ptE p x = z := ⟨_, rfl⟩
        rw [hz] at ke
        have HZ := Lib.hid hz
        have HX := Lib.hid hx
        clear u hx hc hz
        cases z
        · go_wp2_with fail
          refine wp_region_in C (HC.out _ _ (Wd.h _) (below_dr _)) (by kernel_rfl) (by kernel_rfl) ?_
          repeat (go_big_quiet_step (first | fail))
          refine wpQuiet_nil ?_
          intro wx hwx
          obtain ⟨n2, rfl⟩ : ∃ n : Wd C, wx = n.w := ⟨⟨wx, hwx⟩, rfl⟩
          clear hwx
          go_wp2_with fail
          go_roundw
          case rel => exact ⟨k + 1, n2, rfl, by simp, by omega, fun j hj => by
            by_cases e : j = k
            · subst e
              rw [HX.out]
              have h := HZ.out
              unfold ptE at h
              intro e
              exact of_decide_eq_false h (Option.some.inj e).symm
            · exact HA.out j (by omega)⟩
          case measure => simp [intOf]; omega
        · go_wp2_with fail
          refine wp_region_in C (HC.out _ _ (Wd.h _) (below_dr _)) (by kernel_rfl) (by kernel_rfl) ?_
          repeat (go_big_quiet_step (first | fail))
          refine wpQuiet_nil ?_
          intro wx hwx
          obtain ⟨n2, rfl⟩ : ∃ n : Wd C, wx = n.w := ⟨⟨wx, hwx⟩, rfl⟩
          clear hwx
          go_wp2_with fail
          go_ret
          refine ⟨HR.out k ?_, BC.out _⟩
          have h := HZ.out
          unfold ptE at h
          rw [HX.out, of_decide_eq_true h]
    · have HK : Hid (k = l.length) := by unfold Hid; omega
      go_wp2_with fail
      go_ret
      exact ⟨HF.out (fun j hj => HA.out j (by have := HK.out; omega)), BC.out _⟩
set_option maxHeartbeats 1000000 in
theorem hasP_any (q : Option Addr) (cap : Nat) (l : List Pt) (p : Pt) (w : World) (hl : l.length ≤ 1000000) (hp : PtsAt w q l) :
    Calls Try.prog 111 #[.slice q l.length cap, p.v] w fun e w' => e = .returned (.bool (decide (p ∈ l))) ∧ Below w.heap.size w w' := by
  have C1 := indexP_any q cap l p (w.alloc (.cells #[.int .i64 p.x, .int .i64 p.y] 23)) hl (hp.keep (below_al _ _))
  obtain ⟨r, hr⟩ : ∃ r, decide (p ∈ l) = r := ⟨_, rfl⟩
  rw [hr]
  have HC1 := Lib.hid C1
  have HB : Hid (Below w.heap.size w (w.alloc (.cells #[.int .i64 p.x, .int .i64 p.y] 23))) := below_al _ _
  clear C1
  go_enter Try.func111, Try.ntmps111
  go_wp2_with (go_at_call 140; refine HC1.out.mono ?_; rintro e w1 ⟨⟨n, rfl, hn⟩, hb1⟩)
  go_ret
  refine ⟨ret_bool ?_, HB.out.trans (hb1.mono (by simp))⟩
  rw [← hr, Bool.eq_iff_iff]
end Go.Proofs.Ytdefpcjlbganpaa
