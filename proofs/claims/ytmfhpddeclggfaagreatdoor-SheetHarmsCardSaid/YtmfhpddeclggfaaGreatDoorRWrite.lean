import Derived.Test.YtmfhpddeclggfaaGreatDoorRFour
import Derived.WalkKit
import Derived.LoopTactic
import Derived.WalkSpells
import Derived.WalkLawsBesides
import Derived.Lib.Hide
import Derived.BigQuiet
import Derived.IntWalk
import Derived.Deep.DeepMust
import Derived.WalkSmall
import Derived.StillTailTactics
import Derived.Lib.SlBytesConst
import Derived.Deep.RegionLaw
import Derived.Deep.QuietTactic
namespace Go.Proofs.YtmfhpddeclggfaaGreatDoor
open Go.RowKit
/-- The reference's answer to the writing of a line. -/
def wrAgg (n : Int) (ws : List ByteArray) : Value := if lineErr n ws = 0 then .agg #[.string (bs (lineT n ws)), .int .i64 0] else .agg #[.string ⟨#[]⟩, .int .i64 (lineErr n ws)]
set_option maxRecDepth 100000 in
set_option maxHeartbeats 1000000 in
theorem rWrite (n : Int) (p : Option Addr) (cap : Nat) (ws : List ByteArray) (w : World) (hl : ws.length ≤ maxLen) (hs : ∀ j, (ws.getD j ByteArray.empty).size ≤ maxLen) (hp : StrsAt w p ws) :
    Calls Tryz.prog 32 #[.agg #[.int .i64 n, .slice p ws.length cap]] w fun e w' => e = .returned (wrAgg n ws) ∧ Below w.heap.size w w' := by
  have hA : Below w.heap.size w (w.alloc (.cells #[.int .i64 n, .slice p ws.length cap] 39)) := below_alloc1 _ _
  have hB : Below w.heap.size w ((w.alloc (.cells #[.int .i64 n, .slice p ws.length cap] 39)).alloc (.cells #[.string ⟨#[]⟩, .int .i64 0] 32)) := hA.alloc (by simp) _
  have C := rCheckLine n p cap ws ((w.alloc (.cells #[.int .i64 n, .slice p ws.length cap] 39)).alloc (.cells #[.string ⟨#[]⟩, .int .i64 0] 32)) hl hs (hp.below hB)
  have K0 := (K2.new w (.int .i64 n) (.slice p ws.length cap) 39).keep (below_alloc1 _ (.cells #[.string ⟨#[]⟩, .int .i64 0] 32))
  have R0 := K2.new (w.alloc (.cells #[.int .i64 n, .slice p ws.length cap] 39)) (.string ⟨#[]⟩) (.int .i64 0) 32
  have F0 : ∀ o, ((w.alloc (.cells #[.int .i64 n, .slice p ws.length cap] 39)).alloc (.cells #[.string ⟨#[]⟩, .int .i64 0] 32)).frozen? ⟨w.heap.size + 1, o, none⟩ = false := fun o => by
    have := frozen_new (w.alloc (.cells #[.int .i64 n, .slice p ws.length cap] 39)) #[.string ⟨#[]⟩, .int .i64 0] 32 o
    rw [World.size_alloc] at this
    exact this
  rw [World.size_alloc] at R0
  have HC := Lib.hid C
  have HB := Lib.hid hB
  have HP := Lib.hid hp
  have HK := Lib.hid K0
  have HR := Lib.hid R0
  have HF := Lib.hid F0
  have hsz : ((w.alloc (.cells #[.int .i64 n, .slice p ws.length cap] 39)).alloc (.cells #[.string ⟨#[]⟩, .int .i64 0] 32)).heap.size = w.heap.size + 2 := by simp
  have HSZ := Lib.hid hsz
  clear C hA hB hp K0 R0 F0 hs hl hsz
  by_cases h0 : lineErr n ws = 0
  · have HW : Hid (wrAgg n ws = .agg #[.string (bs (lineT n ws)), .int .i64 0]) := by unfold Hid wrAgg; rw [if_pos h0]
    have H0 := Lib.hid h0
    rw [h0] at HC
    clear h0
    go_enter Tryz.func32, Tryz.ntmps32
    go_wp2_with fail
    refine HC.out.mono ?_
    rintro e w1 ⟨rfl, hb⟩
    have B1 : Hid (Below w.heap.size w w1) := HB.out.trans (hb.mono HB.out.size)
    have K1 := Lib.hid (HK.out.keep hb)
    have R1 := Lib.hid (HR.out.keep hb)
    have F1 : Hid (∀ o, w1.frozen? ⟨w.heap.size + 1, o, none⟩ = false) := fun o => by
      rw [hb.frozen (p := ⟨w.heap.size + 1, o, none⟩) (by show w.heap.size + 1 < _; have := HSZ.out; omega)]; exact HF.out o
    clear hb HC HK HR HF HSZ
    have k0 := K1.out.2.1
    have k1 := K1.out.2.2
    go_wp2_with fail
    refine (rHead n p cap ws w1 H0.out (HP.out.below B1.out)).mono ?_
    rintro e w2 ⟨rfl, hb⟩
    have B2 : Hid (Below w.heap.size w w2) := B1.out.trans (hb.mono B1.out.size)
    have R2 := Lib.hid (R1.out.keep hb)
    have f0 : w2.frozen? ⟨w.heap.size + 1, 0, none⟩ = false := by rw [hb.frozen (p := ⟨w.heap.size + 1, 0, none⟩) R1.out.1]; exact F1.out 0
    have f1 : w2.frozen? ⟨w.heap.size + 1, 1, none⟩ = false := by rw [hb.frozen (p := ⟨w.heap.size + 1, 1, none⟩) R1.out.1]; exact F1.out 1
    have r0 := R2.out.2.1
    have r1 := R2.out.2.2
    clear hb k0 k1 K1 R1 F1 B1
    have hT := lineT_size H0.out
    have hH : (headL n ws).length + 5 ≤ 6000 := by
      have h4 := four_len (chk (headL n ws)) (by have := chk_lt (headL n ws); omega)
      rw [bs_size] at hT
      unfold lineT at hT
      simp only [List.length_append, List.length_cons, List.length_nil, h4] at hT
      omega
    have hc := chk_lt (headL n ws)
    have h4 := four_len (chk (headL n ws)) (by omega)
    obtain ⟨HD, hHD⟩ : ∃ HD, Hid (bs (headL n ws) = HD) := ⟨_, rfl⟩
    have hHs : HD.size ≤ 5995 := by rw [← hHD.out, bs_size]; omega
    rw [hHD.out]
    obtain ⟨c, hcc⟩ : ∃ c, Hid (chk (headL n ws) = c) := ⟨_, rfl⟩
    rw [hcc.out] at hc h4
    have C3 : Hid (∀ W, Calls Tryz.prog 36 #[.string HD] W fun e w' => e = .returned (.int .i64 c) ∧ W = w') := fun W => by
      refine (rCheck HD W (by unfold maxLen; omega)).mono ?_
      rintro e w' ⟨rfl, h⟩
      refine ⟨by rw [← hHD.out, bs_list, hcc.out], ?_⟩
      first | exact h | exact h.symm
    have C4 : Hid (∀ W, Calls Tryz.prog 92 #[.int .i64 c] W fun e w' => e = .returned (.string (bs (four c))) ∧ W = w') := fun W => rFour c W (by omega)
    have s4 : (bs (four c)).size = 4 := by rw [bs_size, h4]
    have a1 : ¬ 9223372036854775807 < HD.size + 1 := by omega
    have a2 : ¬ 9223372036854775807 < HD.size + 1 + 4 := by omega
    clear hT hH h4
    go_wp2_with fail
    refine (C3.out _).mono ?_
    rintro e w' ⟨rfl, rfl⟩
    go_wp2_with fail
    refine (C4.out _).mono ?_
    rintro e w' ⟨rfl, rfl⟩
    go_wp2_with fail
    refine bodyPost_ret (v := .agg #[.string (HD ++ ⟨#[32]⟩ ++ bs (four c)), .int .i64 0]) (by simp [results, Tryz.results32, go_sem, r0, r1]) rfl ⟨?_, ?_⟩
    · rw [HW.out]
      have : bs (lineT n ws) = HD ++ ⟨#[32]⟩ ++ bs (four c) := by
        rw [← hHD.out, ← hcc.out]
        apply ByteArray.ext
        simp [bs, ByteArray.data_append, lineT]
      rw [this]
    · exact (B2.out.setCell (p := ⟨w.heap.size + 1, 0, none⟩) (Nat.le_succ _) _).setCell (p := ⟨w.heap.size + 1, 1, none⟩) (Nat.le_succ _) _
  · have HW : Hid (wrAgg n ws = .agg #[.string ⟨#[]⟩, .int .i64 (lineErr n ws)]) := by unfold Hid wrAgg; rw [if_neg h0]
    have h1 : (lineErr n ws != 0) = true := bne_iff_ne.2 h0
    clear h0
    go_enter Tryz.func32, Tryz.ntmps32
    go_wp2_with fail
    refine HC.out.mono ?_
    rintro e w1 ⟨rfl, hb⟩
    have B1 : Hid (Below w.heap.size w w1) := HB.out.trans (hb.mono HB.out.size)
    have r := HR.out.keep hb
    have r0 := r.2.1
    have r1 := r.2.2
    have f0 : w1.frozen? ⟨w.heap.size + 1, 0, none⟩ = false := by rw [hb.frozen (p := ⟨w.heap.size + 1, 0, none⟩) (by show w.heap.size + 1 < _; have := HSZ.out; omega)]; exact HF.out 0
    have f1 : w1.frozen? ⟨w.heap.size + 1, 1, none⟩ = false := by rw [hb.frozen (p := ⟨w.heap.size + 1, 1, none⟩) (by show w.heap.size + 1 < _; have := HSZ.out; omega)]; exact HF.out 1
    clear hb HC HK HR HF HSZ r
    go_wp2_with fail
    refine bodyPost_ret (v := .agg #[.string ⟨#[]⟩, .int .i64 (lineErr n ws)]) (by simp [results, Tryz.results32, go_sem, r0, r1]) rfl ⟨?_, ?_⟩
    · rw [HW.out]
    · exact (B1.out.setCell (p := ⟨w.heap.size + 1, 0, none⟩) (Nat.le_succ _) _).setCell (p := ⟨w.heap.size + 1, 1, none⟩) (Nat.le_succ _) _
end Go.Proofs.YtmfhpddeclggfaaGreatDoor
