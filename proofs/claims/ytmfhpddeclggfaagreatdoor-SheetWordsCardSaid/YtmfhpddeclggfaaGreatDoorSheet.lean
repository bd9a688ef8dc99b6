import Derived.Test.YtmfhpddeclggfaaGreatDoorWriteAll
import Derived.WalkKit
import Derived.LoopTactic
import Derived.WalkSpells
import Derived.WalkLawsBesides
import Derived.Lib.Hide
import Derived.BigQuiet
import Derived.IntWalk
import Derived.Deep.DeepMust
import Derived.WalkSmall
import Derived.StillTailTactics
import Derived.Lib.SlBytesConst
import Derived.Deep.RegionLaw
import Derived.Deep.QuietTactic
namespace Go.Proofs.YtmfhpddeclggfaaGreatDoor
open Go.RowKit
theorem info39 : (Tryz.prog.info? 39).map (fun i => (i.zero, i.size, i.bytes)) = some (some (.agg #[.int .i64 0, .slice none 0 0]), 2, 32) := by kernel_rfl
theorem und55 : Tryz.prog.underlying 55 = some (.slice 39) := by kernel_rfl
theorem make39 (u : World) (n : Nat) (h : n ≤ 1000000) : (Instr.makeSlice 55 (.int .i64 (n : Int)) (.int .i64 (n : Int))).run Tryz.prog u = .ok (.slice (some ⟨u.heap.size, 0, none⟩) n n) (u.alloc (.cells (madeCells #[.int .i64 0, .slice none 0 0] (n * 2)) 39)) := by
  have hi := info39
  cases h0 : Tryz.prog.info? 39 with
  | none => rw [h0] at hi; cases hi
  | some i =>
    rw [h0] at hi
    simp only [Option.map_some, Option.some.injEq, Prod.mk.injEq] at hi
    obtain ⟨h1, h2, h3⟩ := hi
    have := run_make (P := Tryz.prog) u 55 39 i _ und55 h0 h1 .i64 .i64 n n (by omega) (Int.le_refl _) (by rw [h3]; omega) (by omega)
    rw [h2] at this
    simpa [Value.cells] using this
theorem made_some (w : World) (z : Array Value) (n : Nat) (e : TypeId) (o : Nat) (h : o < n) : ∃ v, (w.alloc (.cells (madeCells z n) e)).cell? ⟨w.heap.size, o, none⟩ = some v := by
  have h1 : o < (madeCells z n).size := by rw [size_madeCells]; exact h
  have h2 := cells_new w (madeCells z n) e o _ (by rw [Array.getElem?_toList]; exact Array.getElem?_eq_getElem h1)
  rw [show (⟨w.heap.size, 0, none⟩ : Addr).add o = ⟨w.heap.size, o, none⟩ from by simp [Addr.add]; omega] at h2
  exact ⟨_, h2⟩
/-- Word lists as they lie in a slice of slices. -/
def ListsAt (W : World) (p : Option Addr) (ls : List GL) : Prop :=
  (ls = [] ∨ ∃ b o, p = some ⟨b, o, none⟩ ∧ b < W.heap.size ∧ ∀ j, j < ls.length → W.cell? ⟨b, o + j, none⟩ = some (.slice (ls.getD j default).p (ls.getD j default).ws.length (ls.getD j default).cap)) ∧
  ∀ j, j < ls.length → StrsAt W (ls.getD j default).p (ls.getD j default).ws
theorem ListsAt.below {w w' : World} {p : Option Addr} {ls : List GL} (h : ListsAt w p ls) (hb : Below w.heap.size w w') : ListsAt w' p ls := by
  obtain ⟨h1, h2⟩ := h
  refine ⟨?_, fun j hj => (h2 j hj).below hb⟩
  rcases h1 with h | ⟨b, o, h1, h3, h4⟩
  · exact Or.inl h
  · refine Or.inr ⟨b, o, h1, Nat.lt_of_lt_of_le h3 hb.size, fun j hj => ?_⟩
    rw [hb.cell (p := ⟨b, o + j, none⟩) h3]
    exact h4 j hj
set_option maxRecDepth 100000 in
set_option maxHeartbeats 1000000 in
theorem sSheet_long (p : Option Addr) (n cap : Nat) (w : World) (hn : 400 < (n : Int)) :
    Calls Tryz.prog 38 #[.slice p n cap] w fun e w' => e = .returned (.tuple #[.string ⟨#[]⟩, .int .i64 2]) ∧ w = w' := by
  go_enter Tryz.func38, Tryz.ntmps38
  go_wp2_with fail
  go_ret2
  exact ⟨rfl, rfl⟩
def numbered (ls : List GL) : List GL := (List.range ls.length).map fun (j : Nat) => ⟨(j : Int) + 1, (ls.getD j default).p, (ls.getD j default).cap, (ls.getD j default).ws⟩
theorem numbered_len (ls : List GL) : (numbered ls).length = ls.length := by simp [numbered]
theorem numbered_at (ls : List GL) (j : Nat) (h : j < ls.length) : (numbered ls).getD j default = ⟨(j : Int) + 1, (ls.getD j default).p, (ls.getD j default).cap, (ls.getD j default).ws⟩ := by
  unfold numbered
  rw [List.getD, List.getElem?_map, List.getElem?_range h]
  rfl
/-- The lines made so far. -/
structure SM (w W : World) (ls : List GL) (k : Nat) : Prop where
  bel : Below w.heap.size w W
  lt : w.heap.size < W.heap.size
  fr : ∀ o, W.frozen? ⟨w.heap.size, o, none⟩ = false
  old : ∀ o, o < ls.length * 2 → ∃ v, W.cell? ⟨w.heap.size, o, none⟩ = some v
  new : ∀ j, j < k → W.cell? ⟨w.heap.size, j * 2, none⟩ = some (.int .i64 ((j : Int) + 1)) ∧ W.cell? ⟨w.heap.size, j * 2 + 1, none⟩ = some (.slice (ls.getD j default).p (ls.getD j default).ws.length (ls.getD j default).cap)
theorem SM.start (w : World) (ls : List GL) : SM w (w.alloc (.cells (madeCells #[.int .i64 0, .slice none 0 0] (ls.length * 2)) 39)) ls 0 :=
  ⟨below_alloc1 _ _, by simp, fun o => frozen_new w _ _ o, fun o h => made_some w _ _ _ o h, fun j h => absurd h (Nat.not_lt_zero _)⟩
theorem addr_ne {b o1 o2 : Nat} (h : o1 ≠ o2) : (⟨b, o1, none⟩ : Addr) ≠ ⟨b, o2, none⟩ := fun e => h (congrArg Addr.off e)
theorem SM.next {w W : World} {ls : List GL} {k : Nat} (h : SM w W ls k) (hk : k < ls.length) :
    SM w ((W.setCell ⟨w.heap.size, k * 2, none⟩ (.int .i64 ((k : Int) + 1))).setCell ⟨w.heap.size, k * 2 + 1, none⟩ (.slice (ls.getD k default).p (ls.getD k default).ws.length (ls.getD k default).cap)) ls (k + 1) := by
  obtain ⟨v0, h0⟩ := h.old (k * 2) (by omega)
  obtain ⟨v1, h1⟩ := h.old (k * 2 + 1) (by omega)
  have h1' : (W.setCell ⟨w.heap.size, k * 2, none⟩ (.int .i64 ((k : Int) + 1))).cell? ⟨w.heap.size, k * 2 + 1, none⟩ = some v1 := by
    rw [World.cell?_setCell_other _ _ _ _ (addr_ne (by omega))]; exact h1
  refine ⟨(h.bel.setCell (p := ⟨w.heap.size, k * 2, none⟩) (Nat.le_refl _) _).setCell (p := ⟨w.heap.size, k * 2 + 1, none⟩) (Nat.le_refl _) _, by simpa using h.lt, fun o => ?_, fun o ho => ?_, fun j hj => ?_⟩
  · rw [World.frozen?_setCell, World.frozen?_setCell]; exact h.fr o
  · by_cases e1 : k * 2 + 1 = o
    · subst e1
      exact ⟨_, World.cell?_setCell_same _ _ _ h1'⟩
    · rw [World.cell?_setCell_other _ _ _ _ (addr_ne e1)]
      by_cases e0 : k * 2 = o
      · subst e0
        exact ⟨_, World.cell?_setCell_same _ _ _ h0⟩
      · rw [World.cell?_setCell_other _ _ _ _ (addr_ne e0)]
        exact h.old o ho
  · by_cases e : j = k
    · subst e
      refine ⟨?_, World.cell?_setCell_same _ _ _ h1'⟩
      rw [World.cell?_setCell_other _ _ _ _ (addr_ne (by omega))]
      exact World.cell?_setCell_same _ _ _ h0
    · have := h.new j (by omega)
      rw [World.cell?_setCell_other _ _ _ _ (addr_ne (by omega)), World.cell?_setCell_other _ _ _ _ (addr_ne (by omega)), World.cell?_setCell_other _ _ _ _ (addr_ne (by omega)), World.cell?_setCell_other _ _ _ _ (addr_ne (by omega))]
      exact this
set_option maxRecDepth 100000 in
set_option maxHeartbeats 1000000 in
theorem sSheet_ok (p : Option Addr) (cap : Nat) (ls : List GL) (w : World) (hn : ls.length ≤ 400) (hs : ∀ j, j < ls.length → (ls.getD j default).small) (hp : ListsAt w p ls) (he : Env w) :
    Calls Tryz.prog 38 #[.slice p ls.length cap] w fun e w' => e = .returned (waRes (numbered ls)) ∧ Below w.heap.size w w' := by
  have HP := Lib.hid hp
  have HE := Lib.hid he
  have HS := Lib.hid hs
  clear hp he hs
  have mk := make39 w ls.length (by omega)
  have S0 := Lib.hid (SM.start w ls)
  have hn' : ¬ (400 < (ls.length : Int)) := by omega
  go_enter Tryz.func38, Tryz.ntmps38
  go_wp2_with fail
  go_loopw [15] (fun i wr => ∃ k : Nat, k ≤ ls.length ∧ i = .int .i64 k ∧ Hid (SM w wr ls k)) (fun i _ => ls.length - (intOf i).toNat)
  case atStart => exact ⟨0, Nat.zero_le _, rfl, S0⟩
  case round =>
    clear S0
    obtain ⟨k, hk, rfl, S⟩ := hrel
    by_cases hlt : k < ls.length
    · obtain ⟨n, q, c, ws, hg⟩ : ∃ n q c ws, Hid (ls.getD k default = ⟨n, q, c, ws⟩) := ⟨_, _, _, _, rfl⟩
      obtain ⟨b, o, rfl, hc0⟩ : ∃ b o, p = some ⟨b, o, none⟩ ∧ wr.cell? ⟨b, o + k, none⟩ = some (.slice q ws.length c) := by
        rcases (HP.out.below S.out.bel).1 with h | ⟨b, o, e1, e2, e3⟩
        · rw [h] at hlt; exact absurd hlt (by simp)
        · have := e3 k hlt
          rw [hg.out] at this
          exact ⟨b, o, e1, this⟩
      have f0 := S.out.fr (k * 2)
      have f1 := S.out.fr (k * 2 + 1)
      obtain ⟨v0, d0⟩ := S.out.old (k * 2) (by omega)
      obtain ⟨v1, d1⟩ := S.out.old (k * 2 + 1) (by omega)
      go_wp2_with fail
      refine ⟨⟨k + 1, by omega, by go_num, ?_⟩, by simp [intOf]; omega⟩
      have := S.out.next hlt
      rw [hg.out] at this
      exact this
    · obtain rfl : k = ls.length := by omega
      have hln : LinesAt wr (some ⟨w.heap.size, 0, none⟩) (numbered ls) := by
        refine ⟨Or.inr ⟨_, 0, rfl, S.out.lt, fun j hj => ?_⟩, fun j hj => ?_⟩
        · rw [numbered_len] at hj
          rw [numbered_at ls j hj]
          have := S.out.new j hj
          rw [Nat.zero_add]
          exact this
        · rw [numbered_len] at hj
          rw [numbered_at ls j hj]
          exact (HP.out.2 j hj).below S.out.bel
      have C := sWriteAll (some ⟨w.heap.size, 0, none⟩) ls.length (numbered ls) wr (by rw [numbered_len]; omega) (fun j hj => by rw [numbered_len] at hj; rw [numbered_at ls j hj]; exact HS.out j hj) hln (HE.out.next S.out.bel)
      rw [numbered_len] at C
      have C1 := Lib.hid C
      clear C hln
      go_wp2_with fail
      refine C1.out.mono ?_
      rintro e w3 ⟨rfl, hb3⟩
      have hB : Below w.heap.size w w3 := S.out.bel.trans (hb3.mono (Nat.le_of_lt S.out.lt))
      have HB := Lib.hid hB
      clear hb3 hB
      by_cases h0 : waErr (numbered ls) = 0
      · have hR : waRes (numbered ls) = .tuple #[.string (bs (waText (numbered ls))), .int .i64 0] := by unfold waRes; rw [if_pos h0]
        rw [hR]
        have HR := Lib.hid hR
        clear h0 hR
        go_wp2_with fail
        go_ret2
        exact ⟨by rw [HR.out]; rfl, HB.out⟩
      · have hR : waRes (numbered ls) = .tuple #[.string ⟨#[]⟩, .int .i64 (waErr (numbered ls))] := by unfold waRes; rw [if_neg h0]
        rw [hR]
        have HR := Lib.hid hR
        clear h0 hR
        go_wp2_with fail
        go_ret2
        exact ⟨by rw [HR.out]; rfl, HB.out⟩
end Go.Proofs.YtmfhpddeclggfaaGreatDoor
