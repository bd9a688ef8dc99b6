import Derived.Test.YtcejmfgbfdhflaaGreatCh
import Derived.WalkKit
import Derived.LoopTactic
import Derived.WalkSpells
import Derived.WalkLawsBesides
import Derived.Lib.Hide
import Derived.BigQuiet
import Derived.IntWalk
import Derived.Deep.DeepMust
import Derived.WalkSmall
import Derived.StillTailTactics
import Derived.Deep.RegionLaw
import Derived.Deep.RegionHeld3
import Derived.Deep.QuietTactic
namespace Go.Proofs.YtcejmfgbfdhflaaGreat
open Go.RowKit Go.Shelf Go.BigFrame Go.Sort
attribute [local go_sem] World.cell?_alloc_some
theorem ext_all {α : Type} (a : Array α) (n : Nat) (h : a.size = n) : a.extract 0 n = a := by subst h; simp
theorem cm_lt (a b : Int) : cm a b < 0 ↔ a < b := by unfold cm; split <;> (try split) <;> omega
theorem sw_grown {α : Type} [Inhabited α] (enc : α → Value) (W : World) (g off m : Nat) (dk : Array α) (os : Array Obj) : W.grownBy (sortWorld enc W g off m dk os) (some g) :=
  ⟨rfl, rfl, rfl, by simp [sortWorld, grow, putRow, mapBlock, Sort.ahead], fun k hk hne => by
    have : g ≠ k := fun e => hne (by rw [e])
    simp [sortWorld, grow, putRow, mapBlock, Sort.ahead, Array.getElem?_append, hk, Array.getElem_modify, this]⟩
theorem sw_heap {α : Type} [Inhabited α] (enc : α → Value) (W : World) (g m : Nat) (dk : Array α) (os : Array Obj) (cur : Array Value) (e : TypeId) (fr : Nat × Nat) (hg : W.heap[g]? = some (.cells cur e fr)) :
    (sortWorld enc W g 0 m dk os).heap[g]? = some (.cells (putCells enc 0 dk cur) e fr) := by
  have hlt : g < W.heap.size := (Array.getElem?_eq_some_iff.1 hg).1
  have h2 := (Array.getElem?_eq_some_iff.1 hg).2
  simp [sortWorld, grow, putRow, mapBlock, Sort.ahead, Array.getElem?_append, hlt, Array.getElem_modify, onCells, h2]
/-- Things that the call owns. -/
structure OT (W : World) (B : Nat) (v : Value) (l : List (Value × Th)) : Prop where
  own : W.ownsRow B 148 1 v l.length (l.map (·.1))
  at' : ∀ p ∈ l, ThAt W p.1 p.2
theorem ThAt.iface {W : World} {v : Value} {t : Th} (h : ThAt W v t) : ∃ ty u, v = .iface ty u := by
  rcases h with ⟨id, wear, rfl, -⟩ | ⟨b, ch, ty, -, rfl, -⟩
  · exact ⟨_, _, rfl⟩
  · exact ⟨_, _, rfl⟩
/-- A thing stays when a row of things has turned. -/
theorem ThAt.grownG {W W' : World} {v : Value} {t : Th} (h : ThAt W v t) {row : Option Nat} (hg : W.grownBy W' row) (hi : ∀ g, row = some g → ∃ ty u, W.cell? ⟨g, 0, none⟩ = some (.iface ty u)) : ThAt W' v t := by
  rcases h with h | ⟨b, ch, ty, h1, h2, h3⟩
  · exact .inl h
  · have hne : ∀ g, row = some g → g ≠ b := fun g hr e => by
      subst e
      obtain ⟨ty', u, hc⟩ := hi g hr
      have := h3.1.2.1
      rw [hc] at this
      cases this
    exact .inr ⟨b, ch, ty, h1, h2, h3.grown hg (fun x hx e => by
      have : x.1 = b := by simp at hx; rcases hx with rfl | rfl | rfl | rfl | rfl <;> rfl
      exact hne x.1 e.symm this)⟩
theorem OT.first {W : World} {B : Nat} {v : Value} {l : List (Value × Th)} (h : OT W B v l) (h0 : 0 < l.length) : ∀ g, v.ownBlock = some g → ∃ ty u, W.cell? ⟨g, 0, none⟩ = some (.iface ty u) := by
  intro g hg
  obtain ⟨h1, ⟨e, h2⟩ | ⟨g', cap, cur, rfl, hB, hc, h3, h4, h5, h6⟩⟩ := h.own
  · omega
  · injection hg with hg
    subst hg
    obtain ⟨ty, u, e⟩ := (h.at' l[0] (List.getElem_mem h0)).iface
    have k1 : (l.map (·.1))[0]? = some (.iface ty u) := by rw [List.getElem?_map, List.getElem?_eq_getElem h0]; simp [e]
    rw [← h6, List.getElem?_take_of_lt (by omega)] at k1
    exact ⟨ty, u, by simpa [World.cell?, hc] using k1⟩
theorem OT.keep {W W' : World} {B : Nat} {v : Value} {l : List (Value × Th)} (h : OT W B v l) (hb : Below W.heap.size W W') : OT W' B v l :=
  ⟨ownsRow_keep h.own hb, fun p hp => (h.at' p hp).keep hb⟩
theorem swoT (l : List (Value × Th)) : SWO (ltOf fun i j : Fin l.length => cm l[i].2.year l[j].2.year) := by
  refine ⟨fun x => ?_, fun x y z h k => ?_, fun x y z h k => ?_⟩
  · simp only [ltOf, decide_eq_false_iff_not, cm_lt]; omega
  · simp only [ltOf, decide_eq_true_eq, cm_lt] at *; omega
  · simp only [ltOf, decide_eq_false_iff_not, cm_lt] at *; omega
set_option maxHeartbeats 1600000 in
theorem sortT_any {W : World} {B g cap : Nat} {l : List (Value × Th)} (h : OT W B (.slice (some ⟨g, 0, none⟩) l.length cap) l) (h0 : 0 < l.length) (hl : l.length ≤ 1000000) :
    Calls Tryz.prog 209 #[.slice (some ⟨g, 0, none⟩) l.length cap, .func (.func 210) #[] #[]] W fun e w' => e = .returned (.tuple #[]) ∧ (∃ m, m.Perm l ∧ m.Pairwise (fun a b => a.2.year ≤ b.2.year) ∧ OT w' B (.slice (some ⟨g, 0, none⟩) l.length cap) m) ∧ W.grownBy w' (some g) := by
  haveI : Inhabited (Fin l.length) := ⟨⟨0, h0⟩⟩
  have hf := h.first h0 g rfl
  obtain ⟨h1, ⟨e, h2⟩ | ⟨g', cap', cur, e, hB, hc, h3, h4, h5, h6⟩⟩ := h.own
  · omega
  injection e with e1 e2 e3
  injection e1 with e1
  injection e1 with e1
  subst e1 e3
  have hgW : g < W.heap.size := (Array.getElem?_eq_some_iff.1 hc).1
  have hH : Holds (fun i : Fin l.length => l[i].1) W g 0 (List.finRange l.length).toArray := fun j hj => by
    have hj' : j < l.length := by simpa using hj
    have e : (List.finRange l.length).toArray[j]! = ⟨j, hj'⟩ := by rw [getElem!_pos _ j hj]; simp
    rw [e, Nat.zero_add]
    have k1 : (l.map (·.1))[j]? = some l[j].1 := by rw [List.getElem?_map, List.getElem?_eq_getElem hj']; rfl
    rw [← h6, List.getElem?_take_of_lt (by omega)] at k1
    exact ⟨by simpa [World.cell?, hc] using k1, by simp [World.frozen?, hc]⟩
  have hcmp : CmpLays1 Tryz.prog 210 #[] (fun i : Fin l.length => l[i].1) (fun i j : Fin l.length => cm l[i].2.year l[j].2.year) g 0 (List.finRange l.length).toArray.size W := fun m os dk _ x y => by
    have far : ∀ i : Fin l.length, ThAt (sortWorld (fun i : Fin l.length => l[i].1) W g 0 m dk os) l[i].1 l[i].2 := fun i => (h.at' _ (List.getElem_mem i.isLt)).grownG (sw_grown _ W g 0 m dk os) (fun g' e => by injection e with e; subst e; exact hf)
    exact begCmp_any _ _ _ _ _ (far x) (far y)
  have K := Any.slices_SortFunc Tryz.sortT (fun i : Fin l.length => l[i].1) (fun i => by obtain ⟨ty, u, e⟩ := (h.at' _ (List.getElem_mem i.isLt)).iface; show (l[i.val].1).oneCell' = true; rw [e]; rfl) (fun i j : Fin l.length => cm l[i].2.year l[j].2.year) (swoT l) 210 #[] g 0 cap (List.finRange l.length).toArray W
    (enters_of Tryz.func210 (by kernel_rfl) rfl) hcmp hH hgW (by simp; omega)
  rw [show (List.finRange l.length).toArray.size = l.length from by simp] at K
  refine K.mono ?_
  rintro e w' ⟨rfl, d', n, os, ⟨p1, p2, p3⟩, hs, rfl⟩
  have hsz : d'.size = l.length := by simpa using p1
  refine ⟨rfl, ⟨d'.toList.map fun i => l[i], ?_, ?_, ?_, ?_⟩, sw_grown _ W g 0 n d' os⟩
  · have p4 : d'.toList.Perm (List.finRange l.length) := by
      have e1 : d'.extract 0 l.length = d' := ext_all d' _ hsz
      have e2 : (List.finRange l.length).toArray.extract 0 l.length = (List.finRange l.length).toArray := ext_all _ _ (by simp)
      rw [e1, e2] at p3
      simpa using p3
    have e3 : (List.finRange l.length).map (fun i => l[i]) = l := by
      apply List.ext_getElem
      · simp
      · intro j h1 h2; simp
    have := p4.map (fun i : Fin l.length => l[i])
    rwa [e3] at this
  · rw [List.pairwise_iff_getElem]
    intro i j hi hj hij
    simp only [List.getElem_map, Array.getElem_toList]
    have hi' : i < d'.size := by simpa using hi
    have hj' : j < d'.size := by simpa using hj
    have := hs i j (Nat.zero_le _) hij (by omega)
    rw [getElem!_pos d' i hi', getElem!_pos d' j hj'] at this
    simp only [ltOf, decide_eq_false_iff_not, cm_lt] at this
    omega
  · have hh := sw_heap (fun i : Fin l.length => l[i].1) W g n d' os cur 148 (0, 0) hc
    refine ⟨by simp [hsz], .inr ⟨g, cap, _, by simp [hsz], hB, hh, by simp [hsz]; omega, h4, by simp [putCells, h5], ?_⟩⟩
    apply List.ext_getElem?
    intro t
    by_cases ht : t < d'.size
    · rw [List.getElem?_take_of_lt (by simp; omega)]
      have h7 : t < cur.size := by omega
      simp [putCells, ht, h7]
    · rw [List.getElem?_eq_none (by simp; omega), List.getElem?_eq_none (by simp; omega)]
  · intro p hp
    obtain ⟨i, -, rfl⟩ := List.mem_map.1 hp
    exact (h.at' _ (List.getElem_mem i.isLt)).grownG (sw_grown _ W g 0 n d' os) (fun g' e => by injection e with e; subst e; exact hf)
end Go.Proofs.YtcejmfgbfdhflaaGreat
