import Derived.Test.YtmfhpddeclggfaaGreatDoorCo
import Derived.WalkKit
import Derived.LoopTactic
import Derived.WalkSpells
import Derived.WalkLawsBesides
import Derived.Lib.Hide
import Derived.BigQuiet
import Derived.IntWalk
import Derived.Deep.DeepMust
import Derived.WalkSmall
import Derived.StillTailTactics
import Derived.Deep.RegionLaw
import Derived.Deep.QuietTactic
namespace Go.Proofs.YtmfhpddeclggfaaGreatDoor
open Go.RowKit
def sanT1 : ByteArray := bs (lineT 1 [⟨#[111, 97, 107]⟩, ⟨#[55]⟩])
def sanT2 : ByteArray := bs (lineT 2 [])
theorem scL_one : scL sanT = [⟨1, sanT1, true⟩, ⟨2, sanT2, true⟩] := by kernel_rfl
theorem scL_two : scL (sanT.extract 1 sanT.size) = [⟨2, sanT2, true⟩] := by kernel_rfl
theorem sanT_size : sanT.size = 26 := by decide +kernel
theorem sanT1_size : sanT1.size ≤ 1000000 := by decide +kernel
theorem sanT2_size : sanT2.size ≤ 1000000 := by decide +kernel
/-- The shelf of the two copies that are tried. -/
theorem shelf_san (W : World) (p : Option Addr) (cap : Nat) (he : Env W) (hs : StrsAt W p [sanT, sanT.extract 1 sanT.size]) :
    Calls Tryz.prog 107 #[.slice p 2 cap] W fun e w' => e = .returned (.tuple #[.slice (some ⟨W.heap.size, 0, none⟩) 2 2, .int .i64 0]) ∧ Below W.heap.size W w' ∧
      ∃ p0 c0 p1 c1, w'.cell? ⟨W.heap.size, 0, none⟩ = some (.slice p0 2 c0) ∧ w'.cell? ⟨W.heap.size, 1, none⟩ = some (.slice p1 1 c1) ∧ ScAt (W.heap.size + 1) w' p0 [⟨1, sanT1, true⟩, ⟨2, sanT2, true⟩] ∧ ScAt (W.heap.size + 1) w' p1 [⟨2, sanT2, true⟩] := by
  have hz : ∀ j, (([sanT, sanT.extract 1 sanT.size] : List ByteArray).getD j ByteArray.empty).size ≤ 262144 := fun j => match j with
    | 0 => by show sanT.size ≤ _; rw [sanT_size]; decide
    | 1 => by show (sanT.extract 1 sanT.size).size ≤ _; rw [ByteArray.size_extract, sanT_size]; decide
    | j + 2 => by show ByteArray.empty.size ≤ _; decide
  refine (allScraps0 p cap [sanT, sanT.extract 1 sanT.size] W (by simp) hz hs he).mono ?_
  rintro e w' ⟨rfl, h⟩
  obtain ⟨p0, c0, a0, b0⟩ := h.new 0 (by simp)
  obtain ⟨p1, c1, a1, b1⟩ := h.new 1 (by simp)
  rw [show ([sanT, sanT.extract 1 sanT.size] : List ByteArray).getD 0 ByteArray.empty = sanT from rfl, scL_one] at a0 b0
  rw [show ([sanT, sanT.extract 1 sanT.size] : List ByteArray).getD 1 ByteArray.empty = sanT.extract 1 sanT.size from rfl, scL_two] at a1 b1
  exact ⟨rfl, h.bel, p0, c0, p1, c1, a0, a1, b0, b1⟩
theorem bookP_mk {W w' : World} {b c k1 k2 : Nat} {q1 q2 : Option Addr} (h : Below W.heap.size W w') (hl : b < w'.heap.size) (h2 : w'.cell? ⟨b, 2, none⟩ = some (.slice q1 1 k1)) (h6 : w'.cell? ⟨b, 6, none⟩ = some (.slice q2 2 k2)) :
    BookP W (.returned (.tuple #[.agg #[.slice (some ⟨b, 0, none⟩) 2 c, .slice none 0 0, .slice none 0 0], .int .i64 0])) w' := by
  refine ⟨h, b, 0, c, 0, 0, k1, k2, none, none, q1, q2, rfl, hl, ?_, ?_⟩
  · rw [Nat.zero_add]; exact h2
  · rw [Nat.zero_add]; exact h6
set_option maxRecDepth 100000 in
set_option maxHeartbeats 1000000 in
theorem collate_book (W : World) (p : Option Addr) (cap : Nat) (he : Env W) (hs : StrsAt W p [sanT, sanT.extract 1 sanT.size]) : Calls Tryz.prog 53 #[.slice p 2 cap] W (BookP W) := by
  have SH := Lib.hid (shelf_san (W.alloc (.cells #[.slice none 0 0, .slice none 0 0, .slice none 0 0] 78)) p cap (he.next (below_alloc1 _ _)) (hs.below (below_alloc1 _ _)))
  have HE := Lib.hid he
  have hr0 : ∀ V, Below (W.alloc (.cells #[.slice none 0 0, .slice none 0 0, .slice none 0 0] 78)).heap.size (W.alloc (.cells #[.slice none 0 0, .slice none 0 0, .slice none 0 0] 78)) V → V.cell? ⟨W.heap.size, 0, none⟩ = some (.slice none 0 0) ∧ V.cell? ⟨W.heap.size, 1, none⟩ = some (.slice none 0 0) ∧ V.cell? ⟨W.heap.size, 2, none⟩ = some (.slice none 0 0) ∧ ∀ o, V.frozen? ⟨W.heap.size, o, none⟩ = false := fun V hb =>
    ⟨(hb.cell (p := ⟨W.heap.size, 0, none⟩) (by simp)).trans (nw_at W _ 78 0 _ rfl), (hb.cell (p := ⟨W.heap.size, 1, none⟩) (by simp)).trans (nw_at W _ 78 1 _ rfl), (hb.cell (p := ⟨W.heap.size, 2, none⟩) (by simp)).trans (nw_at W _ 78 2 _ rfl), fun o => (hb.frozen (p := ⟨W.heap.size, o, none⟩) (by simp)).trans (frozen_new W _ _ o)⟩
  have HR0 := Lib.hid hr0
  clear he hs hr0
  go_enter Tryz.func53, Tryz.ntmps53
  go_wp2_with fail
  refine SH.out.mono ?_
  rintro e W1 ⟨rfl, hb, p0, c0, p1, c1, h0, h1, s0, s1⟩
  have HB := Lib.hid hb
  have hbW : Hid (Below W.heap.size W W1) := (below_alloc1 W _).trans (hb.mono (by simp))
  have CO := Lib.hid (collate_san sanT1 sanT2 (W.alloc (.cells #[.slice none 0 0, .slice none 0 0, .slice none 0 0] 78)).heap.size p0 p1 c0 c1 _ W1 (HE.out.next hbW.out) sanT1_size sanT2_size h0 h1 s0 s1)
  rw [World.size_alloc] at CO
  clear SH hb h0 h1 s0 s1
  go_wp2_with fail
  refine CO.out.mono ?_
  rintro e W2 ⟨hb2, b, c, k1, k2, q1, q2, rfl, hbl, u2, u6⟩
  obtain ⟨r0, r1, r2, r3⟩ := HR0.out _ (HB.out.trans (hb2.mono HB.out.size))
  have f0 := r3 0
  have f1 := r3 1
  have f2 := r3 2
  have hbW2 : Hid (Below W.heap.size W W2) := hbW.out.trans (hb2.mono hbW.out.size)
  have hl1 : W.heap.size + 1 ≤ W1.heap.size := by have := HB.out.size; simpa using this
  have U2 := Lib.hid u2
  have U6 := Lib.hid u6
  have HBL := Lib.hid hbl
  clear CO hb2 u2 u6 hbl r3
  go_wp2_with fail
  refine bodyPost_ret (v := .tuple #[.agg #[.slice (some ⟨b, 0, none⟩) 2 c, .slice none 0 0, .slice none 0 0], .int .i64 0]) (by simp [results, Tryz.results53, go_sem, r0, r1, r2]) rfl ?_
  have nb0 : W.heap.size ≠ b := fun e => by
    have := U2.out
    rw [← e, r2] at this
    simp at this
  have nb : ∀ (o j : Nat), (⟨W.heap.size, o, none⟩ : Addr) ≠ ⟨b, j, none⟩ := fun o j e => nb0 (by have := congrArg Addr.block e; simpa using this)
  exact bookP_mk (((hbW2.out.setCell (p := ⟨W.heap.size, 0, none⟩) (Nat.le_refl _) _).setCell (p := ⟨W.heap.size, 1, none⟩) (Nat.le_refl _) _).setCell (p := ⟨W.heap.size, 2, none⟩) (Nat.le_refl _) _)
    (by simp only [World.size_setCell]; exact HBL.out)
    ((World.cell?_setCell_other _ _ _ _ (nb _ _)).trans ((World.cell?_setCell_other _ _ _ _ (nb _ _)).trans ((World.cell?_setCell_other _ _ _ _ (nb _ _)).trans U2.out)))
    ((World.cell?_setCell_other _ _ _ _ (nb _ _)).trans ((World.cell?_setCell_other _ _ _ _ (nb _ _)).trans ((World.cell?_setCell_other _ _ _ _ (nb _ _)).trans U6.out)))
theorem sanity_any (w : World) (he : Env w) : Calls Tryz.prog 19 #[] w fun e w' => e = .returned (.bool true) ∧ Below w.heap.size w w' :=
  sanity_of w he (Lib.hid fun W p cap h1 h2 => collate_book W p cap h1 h2)
end Go.Proofs.YtmfhpddeclggfaaGreatDoor
