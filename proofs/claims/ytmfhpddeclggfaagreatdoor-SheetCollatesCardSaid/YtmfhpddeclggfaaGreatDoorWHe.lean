import Derived.RangeFuncNested
import Derived.RangeFuncBound
import Derived.RangeFuncCalls
import Derived.RangeFuncLeaves
import Derived.Test.YtmfhpddeclggfaaGreatDoorWHd
import Derived.RangeFuncBox
import Derived.Shelf.Abstract
import Derived.Shelf.RegionOpen
import Derived.OwnWalkIn
import Derived.TacticsInMore
import Derived.LoopNIn
import Derived.LoopIn
import Derived.Maps.AppendAt
import Derived.Maps.OwnIn
import Derived.RegionIn
import Derived.BigRegionIn
import Derived.Stop.RegionWithIn
import Derived.WalkKit
import Derived.LoopTactic
import Derived.WalkSpells
import Derived.WalkLawsBesides
import Derived.Lib.Hide
import Derived.BigQuiet
import Derived.IntWalk
import Derived.Deep.DeepMust
import Derived.WalkSmall
import Derived.StillTailTactics
import Derived.Deep.RegionLaw
import Derived.Deep.QuietTactic
import Derived.Deep.Cut
import Derived.Deep.DeepCutAuto
import Derived.Deep.LoopGhost
import Derived.Laws.AppendOwn
namespace Go.Proofs.YtmfhpddeclggfaaGreatDoor
open Go.RowKit
/-! The reference's readings: plain, and how they lie. -/
open Go.Shelf
/-- One reading more, of the copy with the index i. -/
def rdS (i : Int) : List (List ByteArray × List Int) → List ByteArray → List (List ByteArray × List Int)
  | [], ws => [(ws, [i])]
  | y :: st, ws => if y.1 = ws then (y.1, addL y.2 i) :: st else y :: rdS i st ws
theorem rdS_new (i : Int) (ws : List ByteArray) : ∀ (st : List (List ByteArray × List Int)), (∀ j, j < st.length → (st.getD j default).1 ≠ ws) → rdS i st ws = st ++ [(ws, [i])]
  | [], _ => rfl
  | y :: st, h => by
    have h0 : y.1 ≠ ws := h 0 (Nat.zero_lt_succ _)
    have h1 := rdS_new i ws st (fun j hj => h (j + 1) (Nat.succ_lt_succ hj))
    rw [rdS, if_neg h0, h1]; rfl
theorem rdS_at (i : Int) (ws : List ByteArray) : ∀ (st : List (List ByteArray × List Int)) (k : Nat), k < st.length → (st.getD k default).1 = ws → (∀ j, j < k → (st.getD j default).1 ≠ ws) → rdS i st ws = st.set k (ws, addL (st.getD k default).2 i)
  | [], _, hk, _, _ => absurd hk (Nat.not_lt_zero _)
  | y :: st, 0, _, h, _ => by
    have h' : y.1 = ws := h
    rw [rdS, if_pos h', h']; rfl
  | y :: st, k + 1, hk, h, hn => by
    have h0 : y.1 ≠ ws := hn 0 (Nat.zero_lt_succ _)
    have h1 := rdS_at i ws st k (Nat.lt_of_succ_lt_succ hk) h (fun j hj => hn (j + 1) (Nat.succ_lt_succ hj))
    rw [rdS, if_neg h0, h1]; rfl
/-- One line more: only those of this number count. -/
def stR (n i : Int) (st : List (List ByteArray × List Int)) (g : GL) : List (List ByteArray × List Int) := if g.n = n then rdS i st g.ws else st
def rdP (n i : Int) (st : List (List ByteArray × List Int)) (ls : List GL) : List (List ByteArray × List Int) := ls.foldl (stR n i) st
/-- The readings of a number, of the first k copies. -/
def rdC (n : Int) (ss : List SS) : Nat → List (List ByteArray × List Int)
  | 0 => []
  | k + 1 => rdP n k (rdC n ss k) (ss.getD k default).ls
theorem rdP_snoc (n i : Int) (st : List (List ByteArray × List Int)) (ls : List GL) (k : Nat) (h : k < ls.length) : rdP n i st (ls.take (k + 1)) = stR n i (rdP n i st (ls.take k)) (ls.getD k default) := by
  unfold rdP
  rw [List.take_succ_eq_append_getElem h, List.foldl_append, List.getD, List.getElem?_eq_getElem h]
  rfl
theorem rdS_len (i : Int) (ws : List ByteArray) : ∀ st : List (List ByteArray × List Int), (rdS i st ws).length ≤ st.length + 1
  | [] => Nat.le_refl _
  | y :: st => by
    have := rdS_len i ws st
    rw [rdS]; split
    · simp
    · simp only [List.length_cons]; omega
theorem rdP_len (n i : Int) : ∀ (ls : List GL) (st : List (List ByteArray × List Int)), (rdP n i st ls).length ≤ st.length + ls.length
  | [], _ => Nat.le_refl _
  | g :: ls, st => by
    have h2 := rdP_len n i ls (stR n i st g)
    have h1 : (stR n i st g).length ≤ st.length + 1 := by
      unfold stR; split
      · exact rdS_len i g.ws st
      · exact Nat.le_succ _
    have e : rdP n i st (g :: ls) = rdP n i (stR n i st g) ls := rfl
    rw [e, List.length_cons]; omega
theorem rdC_len (n : Int) (ss : List SS) (M : Nat) (h : ∀ j, (ss.getD j default).ls.length ≤ M) : ∀ k, (rdC n ss k).length ≤ k * M
  | 0 => Nat.zero_le _
  | k + 1 => by
    have h1 := rdC_len n ss M h k
    have h2 := rdP_len n k (ss.getD k default).ls (rdC n ss k)
    have h3 := h k
    rw [rdC, Nat.succ_mul]; omega
/-- The cells of readings. -/
def flatF : List (FL × List Int) → List Value
  | [] => []
  | f :: fs => .int .i64 f.1.g.n :: .slice f.1.g.p f.1.g.ws.length f.1.g.cap :: .slice f.1.cp f.1.cn f.1.cc :: .bool f.1.rs :: flatF fs
theorem flatF_snoc : ∀ (fs gs : List (FL × List Int)), flatF (fs ++ gs) = flatF fs ++ flatF gs
  | [], _ => rfl
  | f :: fs, gs => by simp [flatF, flatF_snoc fs gs]
theorem flatF_len : ∀ fs : List (FL × List Int), (flatF fs).length = fs.length * 4
  | [] => rfl
  | f :: fs => by have := flatF_len fs; simp only [flatF, List.length_cons]; omega
theorem flatF_at : ∀ (fs : List (FL × List Int)) (k : Nat), k < fs.length → (flatF fs)[k * 4]? = some (.int .i64 (fs.getD k default).1.g.n) ∧ (flatF fs)[k * 4 + 1]? = some (.slice (fs.getD k default).1.g.p (fs.getD k default).1.g.ws.length (fs.getD k default).1.g.cap) ∧ (flatF fs)[k * 4 + 2]? = some (.slice (fs.getD k default).1.cp (fs.getD k default).1.cn (fs.getD k default).1.cc) ∧ (flatF fs)[k * 4 + 3]? = some (.bool (fs.getD k default).1.rs)
  | [], _, h => absurd h (Nat.not_lt_zero _)
  | f :: fs, 0, _ => ⟨rfl, rfl, rfl, rfl⟩
  | f :: fs, k + 1, h => by
    have := flatF_at fs k (Nat.lt_of_succ_lt_succ h)
    have e : (k + 1) * 4 = k * 4 + 1 + 1 + 1 + 1 := by omega
    rw [e]
    exact this
theorem flatF_set (q : Option Addr) (m d : Nat) (zs : List Int) : ∀ (fs : List (FL × List Int)) (k : Nat), k < fs.length → (flatF fs).set (k * 4 + 2) (.slice q m d) = flatF (fs.set k ({ (fs.getD k default).1 with cp := q, cn := m, cc := d }, zs))
  | [], _, h => absurd h (Nat.not_lt_zero _)
  | f :: fs, 0, _ => rfl
  | f :: fs, k + 1, h => by
    have := flatF_set q m d zs fs k (Nat.lt_of_succ_lt_succ h)
    have e : (k + 1) * 4 + 2 = k * 4 + 2 + 1 + 1 + 1 + 1 := by omega
    rw [e]
    simp only [flatF, List.set_cons_succ, List.getD_cons_succ, this]
/-- Readings in a slice of one's own. -/
structure RRd (B0 : Nat) (w W : World) (v : Value) (fs : List (FL × List Int)) : Prop where
  bel : Below w.heap.size w W
  row : W.ownsRow w.heap.size 87 4 v fs.length (flatF fs)
  wds : ∀ k, k < fs.length → StrsAt w (fs.getD k default).1.g.p (fs.getD k default).1.g.ws ∧ ((fs.getD k default).1.g.ws = [] ∨ ∀ ad, (fs.getD k default).1.g.p = some ad → ad.block < B0)
  cps : ∀ k, k < fs.length → IntsAt W (fs.getD k default).1.cp (fs.getD k default).2 ∧ (fs.getD k default).1.cn = (fs.getD k default).2.length ∧ ∀ ad, (fs.getD k default).1.cp = some ad → ad.block < W.heap.size ∧ some ad.block ≠ v.ownBlock
  nw : ∀ k, k < fs.length → PFrom w.heap.size (fs.getD k default).1.cp
theorem RRd.mk0 {B0 : Nat} (w : World) : RRd B0 w w (.slice none 0 0) [] :=
  ⟨Below.refl _ _, World.ownsRow_nil _ _ _ _, fun _ h => absurd h (Nat.not_lt_zero _), fun _ h => absurd h (Nat.not_lt_zero _), fun _ h => absurd h (Nat.not_lt_zero _)⟩
theorem RRd.next {B0 : Nat} {w W W' : World} {v : Value} {fs : List (FL × List Int)} (h : RRd B0 w W v fs) (hb : Below W.heap.size W W') : RRd B0 w W' v fs :=
  ⟨h.bel.trans (hb.mono h.bel.size), ownsRow_keep h.row hb, h.wds, fun k hk => ⟨(h.cps k hk).1.below hb, (h.cps k hk).2.1, fun ad e => ⟨Nat.lt_of_lt_of_le ((h.cps k hk).2.2 ad e).1 hb.size, ((h.cps k hk).2.2 ad e).2⟩⟩, h.nw⟩
theorem RRd.app {B0 : Nat} {w W W' : World} {v v' : Value} {fs : List (FL × List Int)} {g : GL} (h : RRd B0 w W v fs) (hg : StrsAt w g.p g.ws ∧ (g.ws = [] ∨ ∀ ad, g.p = some ad → ad.block < B0))
    (hown : W'.ownsRow w.heap.size 87 4 v' (fs.length + 1) (flatF fs ++ flatF [(⟨g, none, 0, 0, false⟩, [])])) (hgr : W.grownBy W' v.ownBlock) (hat : v'.ownBlock = v.ownBlock ∨ v'.ownBlock = some W.heap.size) : RRd B0 w W' v' (fs ++ [(⟨g, none, 0, 0, false⟩, [])]) := by
  refine ⟨h.bel.grown hgr h.bel.size (fun k e => (h.row.lt k e).1), by rw [flatF_snoc, List.length_append]; exact hown, fun k hk => ?_, fun k hk => ?_, fun k hk => ?_⟩
  · by_cases hlt : k < fs.length
    · rw [List.getD, List.getElem?_append_left hlt]; exact h.wds k hlt
    · obtain rfl : k = fs.length := by rw [List.length_append] at hk; simp at hk; omega
      rw [List.getD, List.getElem?_append_right (Nat.le_refl _), Nat.sub_self]; exact hg
  · by_cases hlt : k < fs.length
    · rw [List.getD, List.getElem?_append_left hlt]
      obtain ⟨g1, g2, g3⟩ := h.cps k hlt
      refine ⟨g1.keep hgr.size (fun ad e i => World.cell?_of_block (a := ⟨ad.block, i, none⟩) (hgr.block _ (g3 ad e).1 (g3 ad e).2)), g2, fun ad e => ⟨Nat.lt_of_lt_of_le (g3 ad e).1 hgr.size, ?_⟩⟩
      have g4 := g3 ad e
      rcases hat with hat | hat <;> rw [hat]
      · exact g4.2
      · exact fun e => by have := Option.some.inj e; omega
    · obtain rfl : k = fs.length := by rw [List.length_append] at hk; simp at hk; omega
      rw [List.getD, List.getElem?_append_right (Nat.le_refl _), Nat.sub_self]
      exact ⟨.inl rfl, rfl, fun ad e => by cases e⟩
  · by_cases hlt : k < fs.length
    · rw [List.getD, List.getElem?_append_left hlt]; exact h.nw k hlt
    · obtain rfl : k = fs.length := by rw [List.length_append] at hk; simp at hk; omega
      rw [List.getD, List.getElem?_append_right (Nat.le_refl _), Nat.sub_self]
      exact fun ad e => by cases e
theorem RRd.upd {B0 : Nat} {w W W' : World} {b cap k : Nat} {fs : List (FL × List Int)} {q' : Option Addr} {d' : Nat} {zs : List Int} (h : RRd B0 w W (.slice (some ⟨b, 0, none⟩) fs.length cap) fs) (hk : k < fs.length) (hb : Below W.heap.size W W') (hz : zs ≠ []) (hi : IntsAt W' q' zs) (hq : q' = (fs.getD k default).1.cp ∨ PFrom W.heap.size q') :
    RRd B0 w (W'.setCell ⟨b, k * 4 + 2, none⟩ (.slice q' zs.length d')) (.slice (some ⟨b, 0, none⟩) fs.length cap) (fs.set k ({ (fs.getD k default).1 with cp := q', cn := zs.length, cc := d' }, zs)) := by
  have H := h.next hb
  have hbl := H.row.lt b rfl
  have hbl0 := h.row.lt b rfl
  have hD : ∀ ad, q' = some ad → ad.block < W'.heap.size ∧ ad.block ≠ b := fun ad e => by
    have hlt : ad.block < W'.heap.size := by
      rcases hi with h | ⟨b, o, h1, h2, -⟩
      · exact absurd h hz
      · rw [e] at h1; cases h1; exact h2
    rcases hq with hq | hq
    · rw [hq] at e
      exact ⟨hlt, fun e' => ((h.cps k hk).2.2 ad e).2 (by rw [e']; rfl)⟩
    · have g := hq ad e
      exact ⟨hlt, by omega⟩
  refine ⟨H.bel.setCell (p := ⟨b, k * 4 + 2, none⟩) hbl.1 _, ?_, fun j hj => ?_, fun j hj => ?_, fun j hj => ?_⟩
  · rw [List.length_set, ← flatF_set q' zs.length d' zs fs k hk]
    exact (H.row.stored (k * 4 + 2) _).1
  · rw [List.length_set] at hj
    rw [List.getD, List.getElem?_set]
    split
    · rename_i e
      subst e
      exact h.wds _ hj
    · exact h.wds j hj
  · rw [List.length_set] at hj
    rw [List.getD, List.getElem?_set, World.size_setCell]
    split
    · rename_i e
      subst e
      refine ⟨hi.keep (by rw [World.size_setCell]; exact Nat.le_refl _) (fun ad e i => ?_), rfl, fun ad e => ⟨(hD ad e).1, fun e' => (hD ad e).2 (Option.some.inj e')⟩⟩
      rw [World.cell?_setCell_other _ _ _ _ (fun e' => by have e2 := congrArg Addr.block e'; exact (hD ad e).2 (by first | exact e2 | exact e2.symm))]
    · obtain ⟨g1, g2, g3⟩ := H.cps j hj
      refine ⟨g1.keep (by rw [World.size_setCell]; exact Nat.le_refl _) (fun ad e i => ?_), g2, g3⟩
      rw [World.cell?_setCell_other _ _ _ _ (fun e' => by have e2 := congrArg Addr.block e'; exact (g3 ad e).2 (congrArg some (by first | exact e2 | exact e2.symm)))]
  · rw [List.length_set] at hj
    rw [List.getD, List.getElem?_set]
    split
    · rename_i e
      subst e
      rcases hq with hq | hq
      · show PFrom w.heap.size q'
        rw [hq]
        exact h.nw _ hj
      · exact fun ad e => Nat.le_trans h.bel.size (hq ad e)
    · exact h.nw j hj
theorem RRd.founds {B0 : Nat} {w W : World} {v : Value} {fs : List (FL × List Int)} (h : RRd B0 w W v fs) : ∃ p cap, v = .slice p fs.length cap ∧ FoundsC W p fs := by
  obtain ⟨h1, ⟨rfl, h2⟩ | ⟨g, cap, cur, rfl, hg, hc, h3, h4, h5, h6⟩⟩ := h.row
  · have hl : fs = [] := List.length_eq_zero_iff.1 h2
    subst hl
    exact ⟨none, 0, rfl, ⟨.inl rfl, fun j hj => absurd hj (Nat.not_lt_zero _)⟩, fun j hj => absurd hj (Nat.not_lt_zero _)⟩
  · refine ⟨some ⟨g, 0, none⟩, cap, rfl, ⟨.inr ⟨g, 0, rfl, (Array.getElem?_eq_some_iff.1 hc).1, fun j hj => ?_⟩, fun j hj => ?_⟩, fun j hj => ⟨(h.cps j (by simpa using hj)).1, (h.cps j (by simpa using hj)).2.1⟩⟩
    · have hj' : j < fs.length := by simpa using hj
      obtain ⟨g0, g1, g2, g3⟩ := flatF_at fs j hj'
      rw [Nat.zero_add, fst_at hj']
      rw [← g0, ← g1, ← g2, ← g3]
      exact ⟨h.row.cellAt _ (by omega), h.row.cellAt _ (by omega), h.row.cellAt _ (by omega), h.row.cellAt _ (by omega)⟩
    · have hj' : j < fs.length := by simpa using hj
      rw [fst_at hj']
      exact (h.wds j hj').1.below h.bel
/-- The lists of copies are short. -/
def FewI (i : Nat) (st : List (List ByteArray × List Int)) : Prop := ∀ y ∈ st, y.2.length ≤ i ∨ (y.2.getLast? = some (i : Int) ∧ y.2.length ≤ i + 1)
theorem addL_few {i : Nat} {zs : List Int} (h : zs.length ≤ i ∨ (zs.getLast? = some (i : Int) ∧ zs.length ≤ i + 1)) : (addL zs i).length ≤ i ∨ ((addL zs i).getLast? = some (i : Int) ∧ (addL zs i).length ≤ i + 1) := by
  refine .inr ⟨addL_last zs i, ?_⟩
  rcases h with h | ⟨h1, h2⟩
  · have := addL_le zs i; omega
  · rw [addL, if_pos h1]; exact h2
theorem rdS_few (i : Nat) (ws : List ByteArray) : ∀ (st : List (List ByteArray × List Int)), FewI i st → FewI i (rdS i st ws)
  | [], _ => fun y hy => by
    rw [rdS, List.mem_singleton] at hy
    subst hy
    exact .inr ⟨rfl, by simp⟩
  | z :: st, h => fun y hy => by
    have h1 := rdS_few i ws st (fun y hy => h y (List.mem_cons_of_mem _ hy))
    have h0 := h z List.mem_cons_self
    rw [rdS] at hy
    split at hy <;> rcases List.mem_cons.1 hy with e | e
    · subst e; exact addL_few h0
    · exact h y (List.mem_cons_of_mem _ e)
    · subst e; exact h0
    · exact h1 y e
theorem rdP_few (n : Int) (i : Nat) : ∀ (ls : List GL) (st : List (List ByteArray × List Int)), FewI i st → FewI i (rdP n i st ls)
  | [], _, h => h
  | g :: ls, st, h => by
    have h1 : FewI i (stR n i st g) := by
      unfold stR; split
      · exact rdS_few i g.ws st h
      · exact h
    exact rdP_few n i ls (stR n i st g) h1
theorem rdC_few (n : Int) (ss : List SS) : ∀ k, FewI k (rdC n ss k)
  | 0 => fun y hy => by cases hy
  | k + 1 => fun y hy => by
    rcases rdP_few n k (ss.getD k default).ls (rdC n ss k) (rdC_few n ss k) y hy with h | h
    · exact .inl (Nat.le_succ_of_le h)
    · exact .inl h.2
theorem FewI.at {i : Nat} {st : List (List ByteArray × List Int)} (h : FewI i st) (k : Nat) : (st.getD k default).2.length ≤ i + 1 := by
  by_cases hk : k < st.length
  · have hm : st.getD k default ∈ st := by rw [List.getD, List.getElem?_eq_getElem hk]; exact List.getElem_mem hk
    have := h _ hm
    omega
  · rw [List.getD, List.getElem?_eq_none (by omega)]
    exact Nat.zero_le _
theorem sameB_true {n m : Int} {ws vs : List ByteArray} (h : sameB n m ws vs = true) : ws = vs := by
  unfold sameB at h
  have h2 := (Bool.and_eq_true _ _ |>.mp h).2
  have h3 := eq_of_beq h2
  exact List.map_inj_right (fun a b e => ByteArray.ext (Array.toList_inj.1 e)) |>.mp h3
theorem sameB_false {n : Int} {ws vs : List ByteArray} (h : sameB n n ws vs = false) : ws ≠ vs := fun e => by
  subst e
  rw [sameB_self] at h
  cases h
/-- By what readings of one number are told apart, and their copies. -/
def kF (f : FL × List Int) : List ByteArray × List Int := (f.1.g.ws, f.2)
/-- Readings of a number, as the plain ones say. -/
structure RK (B0 : Nat) (w W : World) (v : Value) (fs : List (FL × List Int)) (n : Int) (st : List (List ByteArray × List Int)) : Prop where
  r : RRd B0 w W v fs
  ks : fs.map kF = st
  ns : ∀ k, k < fs.length → (fs.getD k default).1.g.n = n ∧ (fs.getD k default).1.rs = false
theorem RK.len {B0 : Nat} {w W : World} {v : Value} {fs : List (FL × List Int)} {n : Int} {st : List (List ByteArray × List Int)} (h : RK B0 w W v fs n st) : st.length = fs.length := by rw [← h.ks, List.length_map]
theorem RK.key {B0 : Nat} {w W : World} {v : Value} {fs : List (FL × List Int)} {n : Int} {st : List (List ByteArray × List Int)} (h : RK B0 w W v fs n st) {k : Nat} (hk : k < fs.length) : st.getD k default = ((fs.getD k default).1.g.ws, (fs.getD k default).2) := by
  rw [← h.ks, List.getD, List.getD, List.getElem?_map, List.getElem?_eq_getElem hk]; rfl
theorem RK.next {B0 : Nat} {w W W' : World} {v : Value} {fs : List (FL × List Int)} {n : Int} {st : List (List ByteArray × List Int)} (h : RK B0 w W v fs n st) (hb : Below W.heap.size W W') : RK B0 w W' v fs n st := ⟨h.r.next hb, h.ks, h.ns⟩
theorem RK.mk0 {B0 : Nat} (w : World) (n : Int) : RK B0 w w (.slice none 0 0) [] n [] := ⟨RRd.mk0 w, rfl, fun _ h => absurd h (Nat.not_lt_zero _)⟩
theorem RK.app {B0 : Nat} {w W W' : World} {v v' : Value} {fs : List (FL × List Int)} {n : Int} {st : List (List ByteArray × List Int)} {g : GL} (h : RK B0 w W v fs n st) (hg : StrsAt w g.p g.ws ∧ (g.ws = [] ∨ ∀ ad, g.p = some ad → ad.block < B0)) (hn : g.n = n)
    (hown : W'.ownsRow w.heap.size 87 4 v' (fs.length + 1) (flatF fs ++ flatF [(⟨g, none, 0, 0, false⟩, [])])) (hgr : W.grownBy W' v.ownBlock) (hat : v'.ownBlock = v.ownBlock ∨ v'.ownBlock = some W.heap.size) : RK B0 w W' v' (fs ++ [(⟨g, none, 0, 0, false⟩, [])]) n (st ++ [(g.ws, [])]) := by
  refine ⟨h.r.app hg hown hgr hat, by rw [List.map_append, h.ks]; rfl, fun k hk => ?_⟩
  by_cases hlt : k < fs.length
  · rw [List.getD, List.getElem?_append_left hlt]; exact h.ns k hlt
  · obtain rfl : k = fs.length := by rw [List.length_append] at hk; simp at hk; omega
    rw [List.getD, List.getElem?_append_right (Nat.le_refl _), Nat.sub_self]
    exact ⟨hn, rfl⟩
theorem RK.upd {B0 : Nat} {w W W' : World} {b cap k m : Nat} {fs : List (FL × List Int)} {n : Int} {st : List (List ByteArray × List Int)} {q' : Option Addr} {d' : Nat} {zs : List Int} (h : RK B0 w W (.slice (some ⟨b, 0, none⟩) m cap) fs n st) (hm : m = fs.length) (hk : k < fs.length) (hb : Below W.heap.size W W') (hz : zs ≠ []) (hi : IntsAt W' q' zs) (hq : q' = (fs.getD k default).1.cp ∨ PFrom W.heap.size q') :
    RK B0 w (W'.setCell ⟨b, k * 4 + 2, none⟩ (.slice q' zs.length d')) (.slice (some ⟨b, 0, none⟩) m cap) (fs.set k ({ (fs.getD k default).1 with cp := q', cn := zs.length, cc := d' }, zs)) n (st.set k ((st.getD k default).1, zs)) := by
  subst hm
  refine ⟨h.r.upd hk hb hz hi hq, ?_, fun j hj => ?_⟩
  · rw [h.key hk, ← h.ks, List.map_set]; rfl
  · rw [List.length_set] at hj
    rw [List.getD, List.getElem?_set]
    split
    · rename_i e
      subst e
      exact h.ns _ hj
    · exact h.ns j hj
/-- The words of all readings are few. -/
def WsL (M : Nat) (st : List (List ByteArray × List Int)) : Prop := ∀ y ∈ st, y.1.length ≤ M
theorem rdS_ws (M : Nat) (i : Int) (ws : List ByteArray) (hw : ws.length ≤ M) : ∀ (st : List (List ByteArray × List Int)), WsL M st → WsL M (rdS i st ws)
  | [], _ => fun y hy => by
    rw [rdS, List.mem_singleton] at hy
    subst hy
    exact hw
  | z :: st, h => fun y hy => by
    have h1 := rdS_ws M i ws hw st (fun y hy => h y (List.mem_cons_of_mem _ hy))
    have h0 := h z List.mem_cons_self
    rw [rdS] at hy
    split at hy <;> rcases List.mem_cons.1 hy with e | e
    · subst e; exact h0
    · exact h y (List.mem_cons_of_mem _ e)
    · subst e; exact h0
    · exact h1 y e
theorem rdP_ws (M : Nat) (n : Int) (i : Int) : ∀ (ls : List GL) (st : List (List ByteArray × List Int)), (∀ g ∈ ls, g.ws.length ≤ M) → WsL M st → WsL M (rdP n i st ls)
  | [], _, _, h => h
  | g :: ls, st, hg, h => by
    have h1 : WsL M (stR n i st g) := by
      unfold stR; split
      · exact rdS_ws M i g.ws (hg g List.mem_cons_self) st h
      · exact h
    exact rdP_ws M n i ls (stR n i st g) (fun x hx => hg x (List.mem_cons_of_mem _ hx)) h1
theorem rdC_ws (M : Nat) (n : Int) (ss : List SS) (h : ∀ j, ∀ g ∈ (ss.getD j default).ls, g.ws.length ≤ M) : ∀ k, WsL M (rdC n ss k)
  | 0 => fun y hy => by cases hy
  | k + 1 => rdP_ws M n k (ss.getD k default).ls (rdC n ss k) (h k) (rdC_ws M n ss h k)
theorem RK.words {B0 : Nat} {w W : World} {v : Value} {fs : List (FL × List Int)} {n : Int} {st : List (List ByteArray × List Int)} {M : Nat} (h : RK B0 w W v fs n st) (hw : WsL M st) (j : Nat) : ((fs.map Prod.fst).getD j default).g.ws.length ≤ M := by
  by_cases hj : j < fs.length
  · rw [fst_at hj]
    have hm : st.getD j default ∈ st := by rw [List.getD, List.getElem?_eq_getElem (by rw [h.len]; exact hj)]; exact List.getElem_mem _
    have := hw _ hm
    rw [h.key hj] at this
    exact this
  · rw [List.getD, List.getElem?_eq_none (by rw [List.length_map]; omega)]
    exact Nat.zero_le _
theorem RK.known {B0 : Nat} {w W : World} {v : Value} {fs : List (FL × List Int)} {n : Int} {st : List (List ByteArray × List Int)} {k : Nat} {ws : List ByteArray} (h : RK B0 w W v fs n st) (hk : k < fs.length) (hs : sameB ((fs.map Prod.fst).getD k default).g.n n ((fs.map Prod.fst).getD k default).g.ws ws = true)
    (hn : ∀ j, j < k → sameB ((fs.map Prod.fst).getD j default).g.n n ((fs.map Prod.fst).getD j default).g.ws ws = false) (i : Int) : rdS i st ws = st.set k ((st.getD k default).1, addL (fs.getD k default).2 i) := by
  have hkey := h.key hk
  have h1 : (st.getD k default).1 = ws := by
    rw [fst_at hk] at hs
    rw [hkey]
    exact sameB_true hs
  rw [rdS_at i ws st k (by rw [h.len]; exact hk) h1 (fun j hj => ?_), h1, hkey]
  have h2 := hn j hj
  rw [fst_at (Nat.lt_trans hj hk), (h.ns j (Nat.lt_trans hj hk)).1] at h2
  rw [h.key (Nat.lt_trans hj hk)]
  exact sameB_false h2
theorem RK.unknown {B0 : Nat} {w W : World} {v : Value} {fs : List (FL × List Int)} {n : Int} {st : List (List ByteArray × List Int)} {ws : List ByteArray} (h : RK B0 w W v fs n st)
    (hn : ∀ j, j < fs.length → sameB ((fs.map Prod.fst).getD j default).g.n n ((fs.map Prod.fst).getD j default).g.ws ws = false) (i : Int) : rdS i st ws = st ++ [(ws, [i])] := by
  refine rdS_new i ws st (fun j hj => ?_)
  rw [h.len] at hj
  have h2 := hn j hj
  rw [fst_at hj, (h.ns j hj).1] at h2
  rw [h.key hj]
  exact sameB_false h2
theorem RK.full {B0 : Nat} {w W : World} {v : Value} {fs : List (FL × List Int)} {n : Int} {st : List (List ByteArray × List Int)} (h : RK B0 w W v fs n st) (hf : 0 < fs.length) : ∃ b c, v = .slice (some ⟨b, 0, none⟩) fs.length c := by
  obtain ⟨-, ⟨-, h2⟩ | ⟨g, cap', cur, rfl, -⟩⟩ := h.r.row
  · omega
  · exact ⟨g, cap', rfl⟩
theorem RK.cell {B0 : Nat} {w W : World} {b c m k : Nat} {fs : List (FL × List Int)} {n : Int} {st : List (List ByteArray × List Int)} (h : RK B0 w W (.slice (some ⟨b, 0, none⟩) m c) fs n st) (hm : m = fs.length) (hk : k < fs.length) :
    W.cell? ⟨b, k * 4 + 2, none⟩ = some (.slice (fs.getD k default).1.cp (fs.getD k default).2.length (fs.getD k default).1.cc) ∧ W.frozen? ⟨b, k * 4 + 2, none⟩ = false ∧ b < W.heap.size ∧ IntsAt W (fs.getD k default).1.cp (fs.getD k default).2 := by
  subst hm
  have h1 := (flatF_at fs k hk).2.2.1
  obtain ⟨g1, g2, -⟩ := h.r.cps k hk
  rw [g2] at h1
  exact ⟨(h.r.row.cellAt _ (show k * 4 + 2 < fs.length * 4 by omega)).trans h1, h.r.row.frozenAt _, (h.r.row.lt b rfl).2, g1⟩
end Go.Proofs.YtmfhpddeclggfaaGreatDoor
