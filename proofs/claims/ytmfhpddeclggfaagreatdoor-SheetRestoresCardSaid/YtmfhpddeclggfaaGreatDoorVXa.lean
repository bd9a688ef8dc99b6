import Derived.Test.YtmfhpddeclggfaaGreatDoorVUd
import Derived.Test.YtmfhpddeclggfaaGreatDoorVTa
import Derived.Test.YtmfhpddeclggfaaGreatDoorVc
import Derived.Laws.RangeAny
import Derived.Laws.RangeString
import Derived.Lib.OthersKept
import Derived.Lib.ConvBytes
import Derived.Laws.IdiomStrings
import Derived.WalkKit
import Derived.LoopTactic
import Derived.WalkSpells
import Derived.WalkLawsBesides
import Derived.Lib.Hide
import Derived.BigQuiet
import Derived.IntWalk
import Derived.Deep.DeepMust
import Derived.WalkSmall
import Derived.StillTailTactics
import Derived.Deep.RegionLaw
import Derived.Deep.QuietTactic
import Derived.Deep.Cut
import Derived.Deep.DeepCutAuto
import Derived.Deep.LoopGhost
import Derived.Deep.RegionHeld3
import Derived.Laws.OwnMore
namespace Go.Proofs.YtmfhpddeclggfaaGreatDoor
open Go Go.RowKit
/-! What is seen of a line: the law's blots. -/
/-- Each byte of a text is a rune of its own, or none. -/
def OneB (c : ByteArray) : Prop := ∀ p, p < c.size → (Utf8.decode c p).2 = 1
theorem getD_ix (c : ByteArray) (p : Nat) (h : p < c.size) : c.data.toList.getD p 0 = c[p]'h := by
  rw [List.getD, List.getElem?_eq_getElem (by simpa using h)]
  simp
  rfl
theorem OneB.of {c : ByteArray} (h : ∀ p, p + 1 < c.size → c.data.toList.getD p 0 < 128 ∨ c.data.toList.getD (p + 1) 0 < 128) : OneB c := fun p hp => by
  by_cases ha : (c[p]'hp).toNat < 128
  · rw [decode_ascii c p hp ha]
  · have h1 : (decide (p + 1 < c.size) && ((c.get! (p + 1)).toNat / 64 == 2)) = false := by
      by_cases h2 : p + 1 < c.size
      · have h3 : (c.get! (p + 1)).toNat < 128 := by
          have e : c.get! (p + 1) = c[p + 1]'h2 := by
            simp [ByteArray.get!, getElem!_pos, h2]
            rfl
          rw [e]
          rcases h p h2 with h | h
          · rw [getD_ix c p hp] at h
            exact absurd (UInt8.lt_iff_toNat_lt.1 h) ha
          · rw [getD_ix c (p + 1) h2] at h
            exact UInt8.lt_iff_toNat_lt.1 h
        have h4 : ((c.get! (p + 1)).toNat / 64 == 2) = false := by rw [beq_eq_false_iff_ne]; omega
        rw [h4, Bool.and_false]
      · rw [decide_eq_false h2, Bool.false_and]
    unfold Utf8.decode
    dsimp only
    simp only [h1, Bool.and_false, Bool.false_and]
    split <;> rfl
def blB (c s : ByteArray) : Bool := decide (c.size = s.size) && decide (∀ p, p < c.size → c.data.toList.getD p 0 = 63 ∨ c.data.toList.getD p 0 = s.data.toList.getD p 0)
theorem below_iterAt {B : Nat} {w W : World} (h : Below B w W) {k : Nat} (hk : B ≤ k) (c : ByteArray) (p : Nat) : Below B w (W.iterAt k c p) :=
  ⟨h.os, h.tape, h.output, by
    have := h.size
    unfold World.iterAt
    simpa using this, fun b hb => by
    have := h.block b hb
    unfold World.iterAt
    show (W.heap.setIfInBounds k _)[b]? = _
    rw [Array.getElem?_setIfInBounds_ne (by omega)]
    exact this⟩
set_option maxRecDepth 100000 in
set_option maxHeartbeats 4000000 in
theorem blots_any (c s : ByteArray) (w : World) (hc : OneB c) :
    Calls Tryz.prog 69 #[.string c, .string s] w fun e w' => e = .returned (.bool (blB c s)) ∧ Below w.heap.size w w' := by
  go_enter Tryz.func69, Tryz.ntmps69
  by_cases hz : c.size = s.size
  · have hzb : ((c.size : Int) == (s.size : Int)) = true := by rw [beq_iff_eq, hz]
    go_wp2_with fail
    clear hzb
    go_loopw [] (fun wr => ∃ pos : Nat, Hid (wr.heap[w.heap.size]? = some (.stringIter c pos)) ∧ Hid (Below w.heap.size w wr) ∧ pos ≤ c.size ∧ Hid (∀ p, p < pos → c.data.toList.getD p 0 = 63 ∨ c.data.toList.getD p 0 = s.data.toList.getD p 0)) (fun wr => c.size - wr.iterPos w.heap.size)
    case atStart => exact ⟨0, World.iter_heap w c 0, below_alloc1 _ _, Nat.zero_le _, fun p hp => absurd hp (Nat.not_lt_zero _)⟩
    case round =>
      obtain ⟨pos, HI, HB, hle, HQ⟩ := hrel
      obtain ⟨V, rfl⟩ : ∃ V, V = wr := ⟨_, rfl⟩
      have hip := iterPos_of HI.out
      by_cases hp : pos < c.size
      · have hnx : ∀ ty, (Instr.next (.pointer (some ⟨w.heap.size, 0, none⟩)) true ty).run Tryz.prog V = _ := fun ty => Lib.run_next_any_at V w.heap.size c pos ty HI.out hp
        rw [hc pos hp] at hnx
        have hps : pos < s.size := by omega
        have h0 : (0 : Int) ≤ (pos : Int) := by omega
        have hpI : (pos : Int) < (c.size : Int) := by omega
        have hpJ : (pos : Int) < (s.size : Int) := by omega
        have eC := Lib.hid (getD_ix c pos hp)
        have eS := Lib.hid (getD_ix s pos hps)
        have HB1 : Hid (Below w.heap.size w (V.iterAt w.heap.size c (pos + 1))) := below_iterAt HB.out (Nat.le_refl _) _ _
        have HI1 : Hid ((V.iterAt w.heap.size c (pos + 1)).heap[w.heap.size]? = some (.stringIter c (pos + 1))) := Lib.iterAt_heap _ _ _ _ _ HI.out
        obtain ⟨x, hx9⟩ : ∃ x, c[pos] = x := ⟨_, rfl⟩
        have hx := Lib.hid hx9
        clear hx9
        obtain ⟨y, hy9⟩ : ∃ y, s[pos] = y := ⟨_, rfl⟩
        have hy := Lib.hid hy9
        clear hy9
        by_cases h63 : x = 63
        · have g1 : ((c[pos].toNat : Int) == 63) = true := by rw [hx.out, h63]; rfl
          have g1' : ((c[pos].toNat : Int) != 63) = false := by rw [bne, g1]; rfl
          have HN : Hid (∀ p, p < pos + 1 → c.data.toList.getD p 0 = 63 ∨ c.data.toList.getD p 0 = s.data.toList.getD p 0) := fun p hp' => by
            rcases Nat.lt_succ_iff_lt_or_eq.1 hp' with h | rfl
            · exact HQ.out p h
            · left; rw [eC.out, hx.out, h63]
          clear h63
          go_wp2_with fail
          go_quiet (fail)
          go_wp2_with fail
          exact ⟨⟨pos + 1, HI1.out, below_drewN HB1.out _, hp, HN⟩, by rw [hip]; show c.size - (V.iterAt w.heap.size c (pos + 1)).iterPos w.heap.size < _; rw [iterPos_of HI1.out]; omega⟩
        · have hb : ¬ ((c[pos].toNat : Int) = 63) := fun e => h63 (u8_eq (by rw [hx.out] at e; show x.toNat = 63; omega))
          have g1 : ((c[pos].toNat : Int) == 63) = false := by rw [beq_eq_false_iff_ne]; exact hb
          have g1' : ((c[pos].toNat : Int) != 63) = true := by rw [bne_iff_ne]; exact hb
          clear hb
          by_cases hsm : x = y
          · have g2 : ((c[pos].toNat : Int) == (s[pos].toNat : Int)) = true := by rw [hx.out, hy.out, hsm]; simp
            have HN : Hid (∀ p, p < pos + 1 → c.data.toList.getD p 0 = 63 ∨ c.data.toList.getD p 0 = s.data.toList.getD p 0) := fun p hp' => by
              rcases Nat.lt_succ_iff_lt_or_eq.1 hp' with h | rfl
              · exact HQ.out p h
              · right; rw [eC.out, hx.out, hsm, eS.out, hy.out]
            clear h63 hsm
            go_wp2_with fail
            go_quiet (fail)
            go_wp2_with fail
            exact ⟨⟨pos + 1, HI1.out, below_drewN HB1.out _, hp, HN⟩, by rw [hip]; show c.size - (V.iterAt w.heap.size c (pos + 1)).iterPos w.heap.size < _; rw [iterPos_of HI1.out]; omega⟩
          · have g2 : ((c[pos].toNat : Int) == (s[pos].toNat : Int)) = false := by rw [beq_eq_false_iff_ne, hx.out, hy.out]; exact fun e => hsm (u8_eq (by omega))
            have g2' : ((c[pos].toNat : Int) != (s[pos].toNat : Int)) = true := by rw [bne, g2]; rfl
            have hres : blB c s = false := by
              unfold blB
              rw [Bool.and_eq_false_iff, decide_eq_false_iff_not, decide_eq_false_iff_not]
              right
              intro h
              rcases h pos hp with h | h
              · rw [eC.out, hx.out] at h; exact h63 h
              · rw [eC.out, hx.out, eS.out, hy.out] at h; exact hsm h
            clear h63 hsm
            go_wp2_with fail
            go_quiet (fail)
            go_wp2_with fail
            go_ret
            exact ⟨by rw [hres]; rfl, below_drewN HB1.out _⟩
      · have hnx : ∀ ty, (Instr.next (.pointer (some ⟨w.heap.size, 0, none⟩)) true ty).run Tryz.prog V = _ := fun ty => Lib.run_next_end_at V w.heap.size c pos ty HI.out hp
        obtain rfl : pos = c.size := by omega
        have hres : blB c s = true := by unfold blB; simp only [Bool.and_eq_true, decide_eq_true_eq]; exact ⟨hz, HQ.out⟩
        go_wp2_with fail
        go_ret
        exact ⟨by rw [hres]; rfl, HB.out⟩
  · have hzb : ((c.size : Int) == (s.size : Int)) = false := by rw [beq_eq_false_iff_ne]; omega
    have hzc : ((c.size : Int) != (s.size : Int)) = true := by rw [bne, hzb]; rfl
    have hres : blB c s = false := by unfold blB; rw [decide_eq_false hz]; rfl
    go_wp2_with fail
    go_ret
    exact ⟨by rw [hres]; rfl, Below.refl _ _⟩
end Go.Proofs.YtmfhpddeclggfaaGreatDoor
