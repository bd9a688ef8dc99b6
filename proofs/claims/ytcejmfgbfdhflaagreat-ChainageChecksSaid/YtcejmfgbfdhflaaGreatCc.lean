import Derived.Test.YtcejmfgbfdhflaaGreatCb
import Derived.WalkKit
import Derived.LoopTactic
import Derived.WalkSpells
import Derived.WalkLawsBesides
import Derived.Lib.Hide
import Derived.BigQuiet
import Derived.IntWalk
import Derived.Deep.DeepMust
import Derived.WalkSmall
import Derived.StillTailTactics
import Derived.Deep.RegionLaw
import Derived.Deep.RegionHeld3
import Derived.Deep.QuietTactic
namespace Go.Proofs.YtcejmfgbfdhflaaGreat
open Go.RowKit Go.BigFrame Go.Sort
attribute [local go_sem] World.cell?_alloc_some
set_option maxHeartbeats 800000 in
theorem idxI_any (q : Option Addr) (cap : Nat) (l : List Int) (x : Int) (n : Nat) (hn : l.length = n) (w : World) (hl : n ≤ 1000000) (h : IntsAt w q l) :
    Calls Tryz.prog 140 #[.slice q n cap, .int .i64 x] w fun e w' => (∃ m : Int, e = .returned (.int .i64 m) ∧ (0 ≤ m ↔ x ∈ l)) ∧ w = w' := by
  have H := Lib.hid h
  have HN := Lib.hid hn
  have HR : Hid (∀ k : Nat, l[k]? = some x → (0 ≤ (k : Int) ↔ x ∈ l)) := fun k hk => by
    have : x ∈ l := List.mem_of_getElem? hk
    simp [this]
  have HF : Hid ((∀ j, (hj : j < l.length) → l[j] ≠ x) → (0 ≤ (-1 : Int) ↔ x ∈ l)) := fun h => by
    have : x ∉ l := fun hx => by
      obtain ⟨j, hj, e⟩ := List.getElem_of_mem hx
      exact h j hj e
    simp [this]
  clear h hn
  go_enter Tryz.func140, Tryz.ntmps140
  go_wp2_with fail
  go_loop [8] (fun i => ∃ k : Nat, k ≤ n ∧ i = .int .i64 (k : Int) ∧ ∀ j, (hj : j < l.length) → j < k → l[j] ≠ x) (fun i => n - (intOf i).toNat)
  case atStart => exact ⟨0, Nat.zero_le _, rfl, fun j _ h => absurd h (by omega)⟩
  case round =>
    obtain ⟨k, hk, rfl, ha⟩ := hrel
    have HA := Lib.hid ha
    clear ha
    by_cases hlt : k < n
    · have hlt2 : k < l.length := by have := HN.out; omega
      rcases H.out with rfl | ⟨b, o, rfl, hb, hc⟩
      · exact absurd hlt2 (Nat.not_lt_zero _)
      · have c1 := hc k l[k] (List.getElem?_eq_getElem hlt2)
        have HX : Hid (l[k]? = some l[k]) := List.getElem?_eq_getElem hlt2
        obtain ⟨y, hy⟩ : ∃ y, l[k] = y := ⟨_, rfl⟩
        have HY := Lib.hid hy
        rw [hy] at c1 HX
        have hlt' : (k : Int) < (n : Int) := by omega
        clear hy hc
        by_cases he : x = y
        · have HE := Lib.hid he
          have hb : (x == y) = true := by simpa using he
          clear he
          go_wp2_with fail
          go_ret
          exact ⟨⟨k, rfl, HR.out k (by rw [HX.out, HE.out])⟩, rfl⟩
        · have HE := Lib.hid he
          have hb : (x == y) = false := by simpa using he
          clear he
          go_wp2_with fail
          go_round
          case rel => exact ⟨k + 1, hlt, by go_num, fun j hj h => by
            by_cases e : j = k
            · subst e; rw [HY.out]; exact fun e => HE.out e.symm
            · exact HA.out j hj (by omega)⟩
          case measure => simp [intOf]; omega
    · have HK : Hid (k = n) := by unfold Hid; omega
      go_wp2_with fail
      go_ret
      exact ⟨⟨-1, rfl, HF.out fun j hj => HA.out j hj (by have := HK.out; have := HN.out; omega)⟩, rfl⟩
set_option maxHeartbeats 800000 in
theorem hasI_any (q : Option Addr) (cap : Nat) (l : List Int) (x : Int) (n : Nat) (hn : l.length = n) (w : World) (hl : n ≤ 1000000) (h : IntsAt w q l) :
    Calls Tryz.prog 78 #[.slice q n cap, .int .i64 x] w fun e w' => e = .returned (.bool (l.contains x)) ∧ w = w' := by
  have C1 := idxI_any q cap l x n hn w hl h
  have HB : Hid (∀ m : Int, (0 ≤ m ↔ x ∈ l) → decide (0 ≤ m) = l.contains x) := fun m h => by rw [Bool.eq_iff_iff]; simp [h]
  obtain ⟨b, hb⟩ : ∃ b, l.contains x = b := ⟨_, rfl⟩
  rw [hb] at HB ⊢
  clear h hb
  go_enter Tryz.func78, Tryz.ntmps78
  go_wp2_with fail
  refine C1.mono ?_
  rintro e w' ⟨⟨m, rfl, hm⟩, rfl⟩
  have HM := Lib.hid hm
  clear hm C1
  go_wp2_with fail
  go_ret
  exact ⟨ret_bool (by rw [← HB.out _ HM.out]), rfl⟩
set_option maxRecDepth 100000 in
set_option maxHeartbeats 800000 in
theorem tooMany_any (x : WA) (w : World) (h : x.At w) : Calls Tryz.prog 74 #[x.v] w fun e w' => e = .returned (.bool (decide (20 < x.cs.length) || decide (60 < x.ps.length + x.rs.length))) ∧ Below w.heap.size w w' := by
  have n1 := h.n1
  have n2 := h.n2
  have n3 := h.n3
  clear h
  obtain ⟨cs, ps, rs, q1, q2, q3, c1, c2, c3⟩ := x
  simp only [WA.v] at *
  go_enter Tryz.func74, Tryz.ntmps74
  by_cases h1 : (20 : Int) < cs.length
  · go_wp2_with fail
    go_ret
    exact ⟨ret_bool (by simp; omega), (Gr.al _ _).below⟩
  · by_cases h2 : (60 : Int) < (ps.length : Int) + rs.length
    · go_wp2_with fail
      go_ret
      exact ⟨ret_bool (by simp; omega), (Gr.al _ _).below⟩
    · go_wp2_with fail
      go_ret
      exact ⟨ret_bool (by simp; omega), (Gr.al _ _).below⟩
end Go.Proofs.YtcejmfgbfdhflaaGreat
