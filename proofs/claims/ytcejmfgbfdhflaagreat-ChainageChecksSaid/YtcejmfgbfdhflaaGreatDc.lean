import Derived.Test.YtcejmfgbfdhflaaGreatDb
import Derived.WalkKit
import Derived.LoopTactic
import Derived.WalkSpells
import Derived.WalkLawsBesides
import Derived.Lib.Hide
import Derived.BigQuiet
import Derived.IntWalk
import Derived.Deep.DeepMust
import Derived.WalkSmall
import Derived.StillTailTactics
import Derived.Deep.RegionLaw
import Derived.Deep.RegionHeld3
import Derived.Deep.QuietTactic
namespace Go.Proofs.YtcejmfgbfdhflaaGreat
open Go.RowKit Go.Shelf Go.BigFrame Go.Sort
attribute [local go_sem] World.cell?_alloc_some
/-- How two pairs compare. -/
def cmP (p q : Int × Int) : Int := if cm p.1 q.1 = 0 then cm p.2 q.2 else cm p.1 q.1
set_option maxRecDepth 100000 in
set_option maxHeartbeats 1600000 in
theorem cmpP_any (p q : Int × Int) (B1 B2 : Nat) (w : World) (h1 : w.cell? ⟨B1, 0, none⟩ = some (.int .i64 p.1)) (h2 : w.cell? ⟨B1, 1, none⟩ = some (.int .i64 p.2)) (h3 : w.cell? ⟨B2, 0, none⟩ = some (.int .i64 q.1)) (h4 : w.cell? ⟨B2, 1, none⟩ = some (.int .i64 q.2)) :
    Calls Tryz.prog 168 #[.slice (some ⟨B1, 0, none⟩) 2 2, .slice (some ⟨B2, 0, none⟩) 2 2] w fun e w' => e = .returned (.int .i64 (cmP p q)) ∧ w = w' := by
  have C1 := compare_any p.1 q.1
  have C2 := compare_any p.2 q.2
  obtain ⟨x, hx⟩ : ∃ x, cm p.1 q.1 = x := ⟨_, rfl⟩
  obtain ⟨y, hy⟩ : ∃ y, cm p.2 q.2 = y := ⟨_, rfl⟩
  rw [hx] at C1
  rw [hy] at C2
  rw [show cmP p q = if x = 0 then y else x from by rw [cmP, hx, hy]]
  clear hx hy
  obtain ⟨p1, p2⟩ := p
  obtain ⟨q1, q2⟩ := q
  simp only at *
  have HC1 := Lib.hid C1
  have HC2 := Lib.hid C2
  clear C1 C2
  go_enter Tryz.func168, Tryz.ntmps168
  go_wp2_with fail
  go_loopw [11] (fun i wr => w = wr ∧ (i = .int .i64 0 ∨ i = .int .i64 1 ∧ x = 0 ∨ i = .int .i64 2 ∧ x = 0 ∧ y = 0)) (fun i _ => 2 - (intOf i).toNat)
  case atStart => exact ⟨rfl, .inl rfl⟩
  case round =>
    obtain ⟨rfl, rfl | ⟨rfl, rfl⟩ | ⟨rfl, rfl, rfl⟩⟩ := hrel
    · by_cases h0 : x = 0
      · subst h0
        go_wp2_with (go_at_call 152; refine (HC1.out _).mono ?_; rintro e w' ⟨rfl, rfl⟩)
        go_roundw
        case rel => exact ⟨by first | rfl | trivial, .inr (.inl ⟨by simp, by first | rfl | trivial⟩)⟩
        case measure => simp [intOf]
      · have hb : (x != 0) = true := by simpa using h0
        have HH := Lib.hid h0
        clear h0
        go_wp2_with (go_at_call 152; refine (HC1.out _).mono ?_; rintro e w' ⟨rfl, rfl⟩)
        go_ret
        exact ⟨ret_int (by first | rfl | rw [if_neg HH.out]), rfl⟩
    · by_cases h0 : y = 0
      · subst h0
        go_wp2_with (go_at_call 152; refine (HC2.out _).mono ?_; rintro e w' ⟨rfl, rfl⟩)
        go_roundw
        case rel => exact ⟨by first | rfl | trivial, .inr (.inr ⟨by simp, by first | rfl | trivial, by first | rfl | trivial⟩)⟩
        case measure => simp [intOf]
      · have hb : (y != 0) = true := by simpa using h0
        have HH := Lib.hid h0
        clear h0
        go_wp2_with (go_at_call 152; refine (HC2.out _).mono ?_; rintro e w' ⟨rfl, rfl⟩)
        go_ret
        exact ⟨ret_int (by first | rfl | simp), rfl⟩
    · go_wp2_with fail
      go_ret
      exact ⟨ret_int (by first | rfl | simp), rfl⟩
theorem grow_ex2 (w : World) (a b : Obj) : ∃ k os, ((w.alloc a).alloc b).drew = grow (w.drewN k) os := by
  refine ⟨1, #[a, b], ?_⟩
  rw [alloc_eq_grow, alloc_eq_grow, grow_grow]; rfl
set_option maxRecDepth 100000 in
set_option maxHeartbeats 2000000 in
theorem pair_any (p q : Int × Int) (w : World) :
    Calls Tryz.prog 167 #[.agg #[.int .i64 p.1, .int .i64 p.2], .agg #[.int .i64 q.1, .int .i64 q.2]] w fun e w' => e = .returned (.int .i64 (cmP p q)) ∧ Gr w w' := by
  have CO := fun W h1 h2 h3 h4 => Lib.hid (cmpP_any p q w.heap.size (w.heap.size + 1) W h1 h2 h3 h4)
  obtain ⟨x, hx⟩ : ∃ x, cmP p q = x := ⟨_, rfl⟩
  simp only [hx] at CO
  rw [hx]
  clear hx
  obtain ⟨p1, p2⟩ := p
  obtain ⟨q1, q2⟩ := q
  simp only at *
  go_enter Tryz.func167, Tryz.ntmps167
  go_wp2_with fail
  have g1 := new_at (w.alloc (.cells #[.int .i64 p1, .int .i64 p2] 56)) #[.int .i64 q1, .int .i64 q2] 56 0 _ rfl
  have g2 := new_at (w.alloc (.cells #[.int .i64 p1, .int .i64 p2] 56)) #[.int .i64 q1, .int .i64 q2] 56 1 _ rfl
  have e1 : (w.alloc (.cells #[.int .i64 p1, .int .i64 p2] 56)).heap.size = w.heap.size + 1 := by simp
  have BA := below_al (w.alloc (.cells #[.int .i64 p1, .int .i64 p2] 56)) (.cells #[.int .i64 q1, .int .i64 q2] 56)
  have g3 := (BA.cell (p := ⟨w.heap.size, 0, none⟩) (by rw [e1]; exact Nat.lt_succ_self _)).trans (new_at w #[.int .i64 p1, .int .i64 p2] 56 0 _ rfl)
  have g4 := (BA.cell (p := ⟨w.heap.size, 1, none⟩) (by rw [e1]; exact Nat.lt_succ_self _)).trans (new_at w #[.int .i64 p1, .int .i64 p2] 56 1 _ rfl)
  rw [e1] at g1 g2
  have CC := CO ((w.alloc (.cells #[.int .i64 p1, .int .i64 p2] 56)).alloc (.cells #[.int .i64 q1, .int .i64 q2] 56)).drew g3 g4 g1 g2
  clear CO BA g1 g2 g3 g4 e1
  refine wp_region_still_tail 3 (by kernel_rfl) (by kernel_rfl) ?_
  simp only [List.take_succ_cons, List.take_zero, List.drop_succ_cons, List.drop_zero]
  change wpStill _ _ ((w.alloc (.cells #[.int .i64 p1, .int .i64 p2] 56)).alloc (.cells #[.int .i64 q1, .int .i64 q2] 56)).drew (fun a' => wpList _ _ _ _ a' ((w.alloc (.cells #[.int .i64 p1, .int .i64 p2] 56)).alloc (.cells #[.int .i64 q1, .int .i64 q2] 56)).drew) _ _
  repeat still_step
  still_call (CC.out.mono fun _ _ h => ⟨h.1, h.2.symm⟩)
  refine wpStill_nil ?_
  go_wp2_with fail
  go_ret
  exact ⟨rfl, grow_ex2 _ _ _⟩
/-- A pair's cells. -/
def encQ (p : Int × Int) : List Value := [.int .i64 p.1, .int .i64 p.2]
theorem flat2_len : ∀ l : List (Int × Int), (flat2 l).length = l.length * 2
  | [] => rfl
  | p :: l => by simp only [flat2, List.length_cons, flat2_len l]; omega
theorem flatK_flat2 (l : List (Int × Int)) : (flatK encQ 2 l.toArray).toList = flat2 l := by
  apply List.ext_getElem?
  intro t
  have hsz : (flatK encQ 2 l.toArray).size = l.length * 2 := by rw [size_flatK]; simp
  by_cases ht : t < l.length * 2
  · have hq : t / 2 < l.length := by omega
    obtain ⟨g1, g2⟩ := flat2_get (List.getElem?_eq_getElem hq)
    have e1 : (flatK encQ 2 l.toArray)[t]! = (encQ (l.toArray)[t / 2]!)[t % 2]! := get_flatK _ _ _ _ (by simpa using ht)
    have e2 : (l.toArray)[t / 2]! = l[t / 2] := by rw [getElem!_pos _ _ (by simpa using hq)]; simp
    have e3 : (flatK encQ 2 l.toArray).toList[t]? = some ((flatK encQ 2 l.toArray)[t]!) := by rw [getElem!_pos _ _ (by omega)]; simp [hsz, ht]
    rw [e3, e1, e2]
    obtain ⟨q, hqq⟩ : ∃ q, l[t / 2] = q := ⟨_, rfl⟩
    rw [hqq] at g1 g2 ⊢
    rcases Nat.mod_two_eq_zero_or_one t with h | h
    · rw [show t / 2 * 2 = t from by omega] at g1
      rw [h, g1]; rfl
    · rw [show t / 2 * 2 + 1 = t from by omega] at g2
      rw [h, g2]; rfl
  · rw [List.getElem?_eq_none (by simp [hsz]; omega), List.getElem?_eq_none (by rw [flat2_len]; omega)]
/-- The world with a row of pairs laid anew. -/
theorem heap_put (W : World) (g : Nat) (cur : Array Value) (e : TypeId) (fr : Nat × Nat) (hg : W.heap[g]? = some (.cells cur e fr)) (F : Array Value) (n : Nat) (os : Array Obj) :
    W.grownBy (grow (putRow id (Sort.ahead W n) g 0 F) os) (some g) ∧ (grow (putRow id (Sort.ahead W n) g 0 F) os).heap[g]? = some (.cells (putCells id 0 F cur) e fr) := by
  have hlt : g < W.heap.size := (Array.getElem?_eq_some_iff.1 hg).1
  refine ⟨⟨rfl, rfl, rfl, ?_, fun k hk hne => ?_⟩, ?_⟩
  · simp [grow, putRow, mapBlock, Sort.ahead]
  · have : g ≠ k := fun e => hne (by rw [e])
    simp [grow, putRow, mapBlock, Sort.ahead, Array.getElem?_append, hk, Array.getElem_modify, this]
  · have h2 := (Array.getElem?_eq_some_iff.1 hg).2
    simp [grow, putRow, mapBlock, Sort.ahead, Array.getElem?_append, hlt, Array.getElem_modify, onCells, h2]
theorem putCells_take (F cur : Array Value) (h : F.size ≤ cur.size) : (putCells id 0 F cur).toList.take F.size = F.toList := by
  apply List.ext_getElem?
  intro t
  by_cases ht : t < F.size
  · rw [List.getElem?_take_of_lt ht]
    have h1 : t < cur.size := by omega
    simp [putCells, ht, h1]
  · rw [List.getElem?_eq_none (by simp; omega), List.getElem?_eq_none (by simp; omega)]
theorem ownsRow_put {W : World} {B g cap : Nat} {l s : List (Int × Int)} (h : OP W B (.slice (some ⟨g, 0, none⟩) l.length cap) l) (hs : s.length = l.length) (n : Nat) (os : Array Obj) :
    W.grownBy (grow (putRow id (Sort.ahead W n) g 0 (flatK encQ 2 s.toArray)) os) (some g) ∧ OP (grow (putRow id (Sort.ahead W n) g 0 (flatK encQ 2 s.toArray)) os) B (.slice (some ⟨g, 0, none⟩) s.length cap) s := by
  obtain ⟨h1, ⟨e, _⟩ | ⟨g', cap', cur, e, hB, hc, h3, h4, h5, h6⟩⟩ := h
  · cases e
  · injection e with e1 e2 e3
    injection e1 with e1
    injection e1 with e1
    subst e1 e3
    obtain ⟨k1, k2⟩ := heap_put W g cur 56 (0, 0) hc (flatK encQ 2 s.toArray) n os
    have hsz : (flatK encQ 2 s.toArray).size = s.length * 2 := by rw [size_flatK]; simp
    refine ⟨k1, by rw [flat2_len], .inr ⟨g, cap, _, rfl, hB, k2, by omega, h4, by simp [putCells, h5], ?_⟩⟩
    rw [← hsz, putCells_take _ _ (by rw [hsz, h5, hs]; omega), flatK_flat2]
theorem holdsK_own {W : World} {B g cap : Nat} {l : List (Int × Int)} (h : OP W B (.slice (some ⟨g, 0, none⟩) l.length cap) l) : HoldsK encQ 2 W g 0 l.toArray ∧ g < W.heap.size := by
  obtain ⟨h1, ⟨e, _⟩ | ⟨g', cap', cur, e, hB, hc, h3, h4, h5, h6⟩⟩ := h
  · cases e
  · injection e with e1 e2 e3
    injection e1 with e1
    injection e1 with e1
    subst e1 e3
    refine ⟨fun j hj => ?_, (Array.getElem?_eq_some_iff.1 hc).1⟩
    have hsz : (flatK encQ 2 l.toArray).size = l.length * 2 := by rw [size_flatK]; simp
    have hj2 : j < (flatK encQ 2 l.toArray).toList.length := by simpa using hj
    have e1 : (flatK encQ 2 l.toArray).toList[j]? = some ((flatK encQ 2 l.toArray)[j]!) := by rw [getElem!_pos (flatK encQ 2 l.toArray) j hj]; simp
    rw [flatK_flat2, ← h6, List.getElem?_take_of_lt (by omega)] at e1
    rw [Nat.zero_add]
    have e2 : cur[j]? = some ((flatK encQ 2 l.toArray)[j]!) := by simpa using e1
    exact ⟨by simpa [World.cell?, hc] using e2, by simp [World.frozen?, hc]⟩
theorem cm_zero (a b : Int) : cm a b = 0 ↔ a = b := by unfold cm; split <;> (try split) <;> omega
theorem lt_cmP (p q : Int × Int) : ltOf cmP p q = true ↔ p.1 < q.1 ∨ p.1 = q.1 ∧ p.2 < q.2 := by
  unfold ltOf cmP
  rw [decide_eq_true_iff]
  have h1 := cm_lt p.1 q.1
  have h2 := cm_zero p.1 q.1
  have h3 := cm_lt p.2 q.2
  split
  · rename_i h; omega
  · omega
theorem swoQ : SWO (ltOf cmP) := by
  refine ⟨fun x => ?_, fun x y z h k => ?_, fun x y z h k => ?_⟩
  · rw [Bool.eq_false_iff, ne_eq, lt_cmP]; omega
  · rw [lt_cmP] at *; omega
  · rw [Bool.eq_false_iff, ne_eq, lt_cmP] at *; omega
theorem totQ (x y : Int × Int) (h : ltOf cmP x y = false) (k : ltOf cmP y x = false) : x = y := by
  rw [Bool.eq_false_iff, ne_eq, lt_cmP] at h k
  obtain ⟨a, b⟩ := x
  obtain ⟨c, d⟩ := y
  simp only at h k
  obtain rfl : a = c := by omega
  obtain rfl : b = d := by omega
  rfl
/-- Pairs in their order. -/
def srtQ (l : List (Int × Int)) : List (Int × Int) := l.mergeSort fun x y => !(ltOf cmP) y x
theorem srtQ_len (l : List (Int × Int)) : (srtQ l).length = l.length := List.length_mergeSort l
theorem sortQ_any {B g cap : Nat} {l : List (Int × Int)} {W : World} (h : OP W B (.slice (some ⟨g, 0, none⟩) l.length cap) l) (hl : l.length ≤ 1000000) :
    Calls Tryz.prog 166 #[.slice (some ⟨g, 0, none⟩) l.length cap, .func (.func 167) #[] #[]] W fun e w' => e = .returned (.tuple #[]) ∧ OP w' B (.slice (some ⟨g, 0, none⟩) l.length cap) (srtQ l) ∧ W.grownBy w' (some g) := by
  obtain ⟨hH, hlt⟩ := holdsK_own h
  have K := AnyQ.slices_SortFunc_total Tryz.sortP2 2 (fun w => by exact Tryz.isAgg56 w) (fun w => by exact Tryz.sizeOf56 w) encQ (fun _ => rfl) (fun x v hv => by simp [encQ] at hv; rcases hv with rfl | rfl <;> rfl) cmP swoQ 167 #[] g 0 cap l.toArray W
    (enters_of Tryz.func167 (by kernel_rfl) rfl) (fun m os dk _ x y => by exact pair_any x y _) hH hlt (by simp; omega) totQ
  simp only [List.size_toArray] at K
  refine K.mono ?_
  rintro e w' ⟨rfl, n, os, rfl⟩
  have e1 : (srtQ l).length = l.length := srtQ_len l
  obtain ⟨k1, k2⟩ := ownsRow_put (s := srtQ l) h e1 n os
  rw [e1] at k2
  exact ⟨rfl, k2, k1⟩
end Go.Proofs.YtcejmfgbfdhflaaGreat
