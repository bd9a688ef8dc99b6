import Derived.Test.YtmfhpddeclggfaaGreatDoorRCheckLine
import Derived.WalkKit
import Derived.LoopTactic
import Derived.WalkSpells
import Derived.WalkLawsBesides
import Derived.Lib.Hide
import Derived.BigQuiet
import Derived.IntWalk
import Derived.Deep.DeepMust
import Derived.WalkSmall
import Derived.StillTailTactics
import Derived.Lib.SlBytesConst
import Derived.Deep.RegionLaw
import Derived.Deep.QuietTactic
namespace Go.Proofs.YtmfhpddeclggfaaGreatDoor
open Go.RowKit
set_option maxRecDepth 100000 in
set_option maxHeartbeats 1000000 in
theorem rHead (n : Int) (p : Option Addr) (cap : Nat) (ws : List ByteArray) (w : World) (h0 : lineErr n ws = 0) (hp : StrsAt w p ws) :
    Calls Tryz.prog 91 #[.agg #[.int .i64 n, .slice p ws.length cap]] w fun e w' => e = .returned (.string (bs (headL n ws))) ∧ Below w.heap.size w w' := by
  have HP := Lib.hid hp
  have HO := Lib.hid (lineErr_ok h0)
  have hn := HO.out.1
  have hn2 := HO.out.2.1
  have hwl := HO.out.2.2.1
  have hpre : Hid (∀ k, (wordsL (ws.take k)).length ≤ 121 * 40) := by
    intro k
    have := wordsL_len (ws.take k) fun s hs => wordsOk_size HO.out.2.2.2 s (List.mem_of_mem_take hs)
    have h2 : (ws.take k).length ≤ 40 := by rw [List.length_take]; omega
    have := Nat.mul_le_mul_left 121 h2
    omega
  obtain ⟨X, hX⟩ : ∃ X, Hid (bs (Lib.itoa n) = X) := ⟨_, rfl⟩
  obtain ⟨Y, hY⟩ : ∃ Y, Hid (bs (Lib.itoa ws.length) = Y) := ⟨_, rfl⟩
  have hXs : X.size ≤ 20 := by rw [← hX.out, bs_size]; exact (itoa_len n (by omega) (by omega)).2
  have hYs : Y.size ≤ 20 := by rw [← hY.out, bs_size]; exact (itoa_len (ws.length : Int) (by omega) (by omega)).2
  have C1 : Hid (∀ W, Calls Tryz.prog 29 #[.int .i64 n] W fun e w' => e = .returned (.string X) ∧ w' = W) := fun W => by
    have := rInt n W (i64_small (by omega) (by omega)); rw [hX.out] at this; exact this.mono fun _ _ h => ⟨h.1, h.2.symm⟩
  have C2 : Hid (∀ W, Calls Tryz.prog 29 #[.int .i64 ws.length] W fun e w' => e = .returned (.string Y) ∧ w' = W) := fun W => by
    have := rInt ws.length W (i64_small (by omega) (by omega)); rw [hY.out] at this; exact this.mono fun _ _ h => ⟨h.1, h.2.symm⟩
  clear h0 hp
  have z64 : (ByteArray.mk #[64]).size = 1 := rfl
  have z32 : (ByteArray.mk #[32]).size = 1 := rfl
  have a1 : ¬ 9223372036854775807 < (ByteArray.mk #[64]).size + X.size := by omega
  have a2 : ¬ 9223372036854775807 < (ByteArray.mk #[64]).size + X.size + (ByteArray.mk #[32]).size := by omega
  have a3 : ¬ 9223372036854775807 < (ByteArray.mk #[64]).size + X.size + (ByteArray.mk #[32]).size + Y.size := by omega
  have a4 : ¬ 9223372036854775807 < 1 + X.size := by omega
  have a5 : ¬ 9223372036854775807 < 1 + X.size + 1 := by omega
  have a6 : ¬ 9223372036854775807 < 1 + X.size + 1 + Y.size := by omega
  clear z64 z32
  go_enter Tryz.func91, Tryz.ntmps91
  go_wp2_with fail
  go_quiet ((go_at_call 29; first | (with_reducible exact Calls.quiet_of_same (C1.out _)) | (with_reducible exact Calls.quiet_of_same (C2.out _))))
  obtain ⟨W1, hW1⟩ : ∃ W1, (w.alloc (.cells #[.int .i64 n, .slice p ws.length cap] 39)).drewN nq = W1 := ⟨_, rfl⟩
  have hB : Below w.heap.size w W1 := by rw [← hW1]; exact below_drewN (below_alloc1 _ _) nq
  have c1 : W1.cell? ⟨w.heap.size, 1, none⟩ = some (.slice p ws.length cap) := by
    rw [← hW1]; exact new_at w #[.int .i64 n, .slice p ws.length cap] 39 1 _ rfl
  rw [hW1]
  have HB := Lib.hid hB
  have HP1 := Lib.hid (HP.out.below hB)
  obtain ⟨V0, hV0⟩ : ∃ V0, ByteArray.mk #[64] ++ X ++ ByteArray.mk #[32] ++ Y = V0 := ⟨_, rfl⟩
  rw [hV0]
  have HV : Hid (V0.data.toList = [64] ++ Lib.itoa n ++ [32] ++ Lib.itoa ws.length ++ wordsL (ws.take 0)) := by
    unfold Hid
    rw [← hV0, ← hX.out, ← hY.out, show wordsL (ws.take 0) = [] from rfl, List.append_nil]
    simp [ByteArray.data_append, bs]
  have hl0 : ([64] ++ Lib.itoa n ++ [32] ++ Lib.itoa ws.length : List UInt8).length ≤ 42 := by
    have h1 := (itoa_len n (by omega) (by omega)).2
    have h2 := (itoa_len (ws.length : Int) (by omega) (by omega)).2
    simp only [List.length_append, List.length_cons, List.length_nil]; omega
  have HL := Lib.hid hl0
  clear a1 a2 a3 a4 a5 a6 C1 C2 hX hY hXs hYs hV0 hW1 hB hl0
  go_wp2_with fail
  go_loopw [3, 4] (fun v i wr => ∃ (k : Nat) (V : ByteArray), k ≤ ws.length ∧ i = .int .i64 k ∧ v = .string V ∧ Hid (V.data.toList = [64] ++ Lib.itoa n ++ [32] ++ Lib.itoa ws.length ++ wordsL (ws.take k)) ∧ W1 = wr) (fun _ i _ => ws.length - (intOf i).toNat)
  case atStart => exact ⟨0, V0, Nat.zero_le _, rfl, rfl, HV, rfl⟩
  case round =>
    clear HV
    obtain ⟨k, V, hk, rfl, rfl, HV, rfl⟩ := hrel
    by_cases hlt : k < ws.length
    · obtain ⟨b, o, s, rfl, hc, hs⟩ : ∃ b o s, p = some ⟨b, o, none⟩ ∧ W1.cell? ⟨b, o + k, none⟩ = some (.string s) ∧ Hid (ws.getD k ByteArray.empty = s) := by
        rcases HP1.out with h | ⟨b, o, e1, e2, e3⟩
        · rw [h] at hlt; exact absurd hlt (by simp)
        · exact ⟨b, o, _, e1, e3 k hlt, rfl⟩
      have hss : s.size ≤ 120 := by
        have := wordsOk_size HO.out.2.2.2 (ws[k]) (List.getElem_mem _)
        have e := hs.out
        rw [List.getD, List.getElem?_eq_getElem hlt] at e
        rw [← e]; exact this
      have hVs : V.size ≤ 5000 := by
        rw [Lib.size_eq, HV.out, List.length_append]
        have := hpre.out k
        have := HL.out
        omega
      have a1 : ¬ 9223372036854775807 < V.size + 1 := by omega
      have a2 : ¬ 9223372036854775807 < V.size + 1 + s.size := by omega
      go_wp2_with fail
      refine ⟨⟨k + 1, _, by omega, by go_num, rfl, ?_, trivial⟩, by simp [intOf]; omega⟩
      unfold Hid
      rw [ByteArray.data_append, ByteArray.data_append, Array.toList_append, Array.toList_append, HV.out, wordsL_snoc ws k hlt, hs.out]
      simp only [List.append_assoc]
    · obtain rfl : k = ws.length := by omega
      rw [List.take_length] at HV
      go_wp2_with fail
      go_ret
      refine ⟨?_, HB.out⟩
      have : V = bs (headL n ws) := by
        have h := HV.out
        unfold headL bs
        rw [← h]
      rw [← this]; rfl
end Go.Proofs.YtmfhpddeclggfaaGreatDoor
