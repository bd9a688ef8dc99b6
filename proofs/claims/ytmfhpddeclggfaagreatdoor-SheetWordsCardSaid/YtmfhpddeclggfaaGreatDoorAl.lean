import Derived.Test.YtmfhpddeclggfaaGreatDoorSc
import Derived.Test.YtmfhpddeclggfaaGreatDoorSheet
import Derived.WalkKit
import Derived.LoopTactic
import Derived.WalkSpells
import Derived.WalkLawsBesides
import Derived.Lib.Hide
import Derived.BigQuiet
import Derived.IntWalk
import Derived.Deep.DeepMust
import Derived.WalkSmall
import Derived.StillTailTactics
import Derived.Deep.RegionLaw
import Derived.Deep.QuietTactic
namespace Go.Proofs.YtmfhpddeclggfaaGreatDoor
open Go.RowKit
/-- Scraps lie at a slice, from the block B on. -/
def ScAt (B : Nat) (W : World) (p : Option Addr) (l : List Sc) : Prop := l = [] ∨ ∃ g, p = some ⟨g, 0, none⟩ ∧ B ≤ g ∧ g < W.heap.size ∧ ∀ j s, l[j]? = some s → W.cell? ⟨g, j * 3, none⟩ = some (.int .i64 s.n) ∧ W.cell? ⟨g, j * 3 + 1, none⟩ = some (.string s.t) ∧ W.cell? ⟨g, j * 3 + 2, none⟩ = some (.bool s.b)
theorem ScAt.below {B : Nat} {W W' : World} {p : Option Addr} {l : List Sc} (h : ScAt B W p l) (hb : Below W.heap.size W W') : ScAt B W' p l := by
  rcases h with h | ⟨g, h1, h2, h3, h4⟩
  · exact .inl h
  · refine .inr ⟨g, h1, h2, Nat.lt_of_lt_of_le h3 hb.size, fun j s hj => ?_⟩
    obtain ⟨a, b, c⟩ := h4 j s hj
    exact ⟨(hb.cell (p := ⟨g, j * 3, none⟩) h3).trans a, (hb.cell (p := ⟨g, j * 3 + 1, none⟩) h3).trans b, (hb.cell (p := ⟨g, j * 3 + 2, none⟩) h3).trans c⟩
theorem ScAt.base {B C : Nat} {W : World} {p : Option Addr} {l : List Sc} (h : ScAt B W p l) (hc : C ≤ B) : ScAt C W p l := by
  rcases h with h | ⟨g, h1, h2, h3⟩
  · exact .inl h
  · exact .inr ⟨g, h1, Nat.le_trans hc h2, h3⟩
theorem ScAt.store {B : Nat} {W : World} {p : Option Addr} {l : List Sc} (h : ScAt B W p l) (b o : Nat) (v : Value) (hb : b < B) : ScAt B (W.setCell ⟨b, o, none⟩ v) p l := by
  rcases h with h | ⟨g, h1, h2, h3, h4⟩
  · exact .inl h
  · have hne : ∀ k, (⟨b, o, none⟩ : Addr) ≠ ⟨g, k, none⟩ := fun k e => by have := congrArg Addr.block e; simp at this; omega
    refine .inr ⟨g, h1, h2, by simpa using h3, fun j s hj => ?_⟩
    obtain ⟨a, b, c⟩ := h4 j s hj
    exact ⟨by rw [World.cell?_setCell_other _ _ _ _ (hne _)]; exact a, by rw [World.cell?_setCell_other _ _ _ _ (hne _)]; exact b, by rw [World.cell?_setCell_other _ _ _ _ (hne _)]; exact c⟩
theorem scAt_own {B : Nat} {W : World} {v : Value} {l : List Sc} (h : W.ownsRow B 224 3 v l.length (flatSc l)) : ∃ p cap, v = .slice p l.length cap ∧ ScAt B W p l := by
  obtain ⟨h1, ⟨rfl, h2⟩ | ⟨g, cap, cur, rfl, hg, hc, h3, h4, h5, h6⟩⟩ := h
  · exact ⟨none, 0, by rw [h2], .inl (List.length_eq_zero_iff.1 h2)⟩
  · refine ⟨some ⟨g, 0, none⟩, cap, rfl, .inr ⟨g, rfl, hg, (Array.getElem?_eq_some_iff.1 hc).1, fun j q hq => ?_⟩⟩
    have hj : j < l.length := (List.getElem?_eq_some_iff.1 hq).1
    obtain ⟨g1, g2, g3⟩ := flatSc_get hq
    rw [← h6, List.getElem?_take_of_lt (by omega)] at g1 g2 g3
    exact ⟨by simpa [World.cell?, hc] using g1, by simpa [World.cell?, hc] using g2, by simpa [World.cell?, hc] using g3⟩
theorem info179 : (Tryz.prog.info? 179).map (fun i => (i.zero, i.size, i.bytes)) = some (some (.slice none 0 0), 1, 24) := by kernel_rfl
theorem und169 : Tryz.prog.underlying 169 = some (.slice 179) := by kernel_rfl
theorem make169 (u : World) (n : Nat) (h : n ≤ 1000000) : (Instr.makeSlice 169 (.int .i64 (n : Int)) (.int .i64 (n : Int))).run Tryz.prog u = .ok (.slice (some ⟨u.heap.size, 0, none⟩) n n) (u.alloc (.cells (madeCells #[.slice none 0 0] n) 179)) := by
  have hi := info179
  cases h0 : Tryz.prog.info? 179 with
  | none => rw [h0] at hi; cases hi
  | some i =>
    rw [h0] at hi
    simp only [Option.map_some, Option.some.injEq, Prod.mk.injEq] at hi
    obtain ⟨h1, h2, h3⟩ := hi
    have := run_make (P := Tryz.prog) u 169 179 i _ und169 h0 h1 .i64 .i64 n n (by omega) (Int.le_refl _) (by rw [h3]; omega) (by omega)
    rw [h2] at this
    simpa [Value.cells] using this
/-- The scraps laid so far. -/
structure ShM (w W : World) (cs : List ByteArray) (k : Nat) : Prop where
  bel : Below w.heap.size w W
  lt : w.heap.size < W.heap.size
  fr : ∀ o, W.frozen? ⟨w.heap.size, o, none⟩ = false
  old : ∀ o, o < cs.length → ∃ v, W.cell? ⟨w.heap.size, o, none⟩ = some v
  new : ∀ j, j < k → ∃ p c, W.cell? ⟨w.heap.size, j, none⟩ = some (.slice p (scL (cs.getD j ByteArray.empty)).length c) ∧ ScAt (w.heap.size + 1) W p (scL (cs.getD j ByteArray.empty))
theorem ShM.start (w : World) (cs : List ByteArray) : ShM w (w.alloc (.cells (madeCells #[.slice none 0 0] cs.length) 179)) cs 0 :=
  ⟨below_alloc1 _ _, by simp, fun o => frozen_new w _ _ o, fun o h => made_some w _ _ _ o h, fun j h => absurd h (Nat.not_lt_zero _)⟩
theorem ShM.call {w W W' : World} {cs : List ByteArray} {k : Nat} (h : ShM w W cs k) (hb : Below W.heap.size W W') : ShM w W' cs k := by
  refine ⟨h.bel.trans (hb.mono (Nat.le_of_lt h.lt)), Nat.lt_of_lt_of_le h.lt hb.size, fun o => (hb.frozen (p := ⟨w.heap.size, o, none⟩) h.lt).trans (h.fr o), fun o ho => ?_, fun j hj => ?_⟩
  · obtain ⟨v, hv⟩ := h.old o ho
    exact ⟨v, (hb.cell (p := ⟨w.heap.size, o, none⟩) h.lt).trans hv⟩
  · obtain ⟨p, c, h1, h2⟩ := h.new j hj
    exact ⟨p, c, (hb.cell (p := ⟨w.heap.size, j, none⟩) h.lt).trans h1, h2.below hb⟩
theorem ShM.next {w W : World} {cs : List ByteArray} {k : Nat} (h : ShM w W cs k) (hk : k < cs.length) (p : Option Addr) (c : Nat) (hs : ScAt (w.heap.size + 1) W p (scL (cs.getD k ByteArray.empty))) :
    ShM w (W.setCell ⟨w.heap.size, k, none⟩ (.slice p (scL (cs.getD k ByteArray.empty)).length c)) cs (k + 1) := by
  obtain ⟨v0, h0⟩ := h.old k hk
  refine ⟨h.bel.setCell (p := ⟨w.heap.size, k, none⟩) (Nat.le_refl _) _, by simpa using h.lt, fun o => ?_, fun o ho => ?_, fun j hj => ?_⟩
  · rw [World.frozen?_setCell]; exact h.fr o
  · by_cases e0 : k = o
    · subst e0
      exact ⟨_, World.cell?_setCell_same _ _ _ h0⟩
    · rw [World.cell?_setCell_other _ _ _ _ (addr_ne e0)]
      exact h.old o ho
  · by_cases e : j = k
    · subst e
      exact ⟨p, c, World.cell?_setCell_same _ _ _ h0, hs.store _ _ _ (Nat.lt_succ_self _)⟩
    · obtain ⟨p', c', h1, h2⟩ := h.new j (by omega)
      exact ⟨p', c', by rw [World.cell?_setCell_other _ _ _ _ (addr_ne (by omega))]; exact h1, h2.store _ _ _ (Nat.lt_succ_self _)⟩
/-- The shelf that the copies make. -/
def ShelfP (w : World) (cs : List ByteArray) (e : Ending) (w' : World) : Prop := e = .returned (.tuple #[.slice (some ⟨w.heap.size, 0, none⟩) cs.length cs.length, .int .i64 0]) ∧ ShM w w' cs cs.length
set_option maxRecDepth 100000 in
set_option maxHeartbeats 2000000 in
theorem allScraps0 (p : Option Addr) (cap : Nat) (cs : List ByteArray) (w : World) (hn : cs.length ≤ 8) (hs : ∀ j, (cs.getD j ByteArray.empty).size ≤ 262144) (hp : StrsAt w p cs) (he : Env w) :
    Calls Tryz.prog 107 #[.slice p cs.length cap] w (ShelfP w cs) := by
  have HP := Lib.hid hp
  have HE := Lib.hid he
  have HS := Lib.hid hs
  clear hp he hs
  have mk := make169 w cs.length (by omega)
  have S0 := Lib.hid (ShM.start w cs)
  have hn' : ¬ (8 < (cs.length : Int)) := by omega
  go_enter Tryz.func107, Tryz.ntmps107
  go_wp2_with fail
  go_loop [14] (fun i => ∃ k : Nat, k ≤ cs.length ∧ i = .int .i64 k) (fun i => cs.length - (intOf i).toNat)
  case atStart => exact ⟨0, Nat.zero_le _, rfl⟩
  case round =>
    obtain ⟨k, hk, rfl⟩ := hrel
    by_cases hlt : k < cs.length
    · obtain ⟨b, o, rfl, c1⟩ : ∃ b o, p = some ⟨b, o, none⟩ ∧ w.cell? ⟨b, o + k, none⟩ = some (.string (cs.getD k ByteArray.empty)) := by
        rcases HP.out with h | ⟨b, o, e1, e2, e3⟩
        · rw [h] at hlt; exact absurd hlt (by simp)
        · exact ⟨b, o, e1, e3 k hlt⟩
      have hz := HS.out k
      obtain ⟨x, hx⟩ : ∃ x, cs.getD k ByteArray.empty = x := ⟨_, rfl⟩
      rw [hx] at c1 hz
      have hz' : ¬ (262144 < (x.size : Int)) := by omega
      have hlt' : (k : Int) < (cs.length : Int) := by omega
      clear hx S0 mk
      go_wp2_with fail
      go_round
      case rel => exact ⟨k + 1, hlt, by go_num⟩
      case measure => simp [intOf]; omega
    · obtain rfl : k = cs.length := by omega
      go_wp2_with fail
      go_loopw [27] (fun i wr => ∃ k : Nat, k ≤ cs.length ∧ i = .int .i64 k ∧ Hid (ShM w wr cs k)) (fun i _ => cs.length - (intOf i).toNat)
      case atStart => exact ⟨0, Nat.zero_le _, rfl, S0⟩
      case round =>
        clear S0 mk
        obtain ⟨k, hk, rfl, S⟩ := hrel
        by_cases hlt : k < cs.length
        · obtain ⟨b, o, rfl, c1⟩ : ∃ b o, p = some ⟨b, o, none⟩ ∧ wr.cell? ⟨b, o + k, none⟩ = some (.string (cs.getD k ByteArray.empty)) := by
            rcases HP.out.below S.out.bel with h | ⟨b, o, e1, e2, e3⟩
            · rw [h] at hlt; exact absurd hlt (by simp)
            · exact ⟨b, o, e1, e3 k hlt⟩
          have CS := scraps0 (cs.getD k ByteArray.empty) wr (by have := HS.out k; omega) (HE.out.next S.out.bel)
          obtain ⟨x, hx⟩ : ∃ x, cs.getD k ByteArray.empty = x := ⟨_, rfl⟩
          rw [hx] at c1 CS
          have HX := Lib.hid hx
          have hlt' : (k : Int) < (cs.length : Int) := by omega
          clear hx
          go_wp2_with fail
          refine CS.mono ?_
          rintro e w1 ⟨hb, v, rfl, hO⟩
          obtain ⟨p1, c1', rfl, hsc⟩ := scAt_own hO
          have HSc := Lib.hid (hsc.base S.out.lt)
          have S1 := Lib.hid (S.out.call hb)
          have f0 := S1.out.fr k
          obtain ⟨v0, d0⟩ := S1.out.old k hlt
          clear hb hO hsc CS c1
          go_wp2_with fail
          refine ⟨⟨k + 1, by omega, by go_num, ?_⟩, by simp [intOf]; omega⟩
          have := S1.out.next hlt p1 c1' (by rw [HX.out]; exact HSc.out)
          rw [HX.out] at this
          exact this
        · obtain rfl : k = cs.length := by omega
          go_wp2_with fail
          go_ret2
          exact ⟨rfl, S.out⟩
end Go.Proofs.YtmfhpddeclggfaaGreatDoor
