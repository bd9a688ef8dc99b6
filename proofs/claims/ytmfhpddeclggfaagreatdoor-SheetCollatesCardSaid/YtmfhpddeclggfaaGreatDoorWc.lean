import Derived.Test.YtmfhpddeclggfaaGreatDoorKg
import Derived.WalkKit
import Derived.LoopTactic
import Derived.WalkSpells
import Derived.WalkLawsBesides
import Derived.Lib.Hide
import Derived.BigQuiet
import Derived.IntWalk
import Derived.Deep.DeepMust
import Derived.WalkSmall
import Derived.StillTailTactics
import Derived.Lib.SlBytesConst
import Derived.Deep.RegionLaw
import Derived.Deep.QuietTactic
import Derived.Deep.Cut
import Derived.Deep.DeepCutAuto
import Derived.Deep.LoopGhost
import Derived.Laws.AppendOwn
import Derived.Test.YtmfhpddeclggfaaGreatDoorKm
import Derived.Test.YtmfhpddeclggfaaGreatDoorKf
import Derived.RangeFuncNested
import Derived.RangeFuncBound
import Derived.RangeFuncCalls
import Derived.RangeFuncLeaves
import Derived.RangeFuncBox
import Derived.Shelf.Abstract
import Derived.Shelf.RegionOpen
import Derived.OwnWalkIn
import Derived.TacticsInMore
import Derived.LoopNIn
import Derived.LoopIn
import Derived.Maps.AppendAt
import Derived.Maps.OwnIn
import Derived.RegionIn
import Derived.BigRegionIn
import Derived.Stop.RegionWithIn
import Derived.Lib.SliceRun
import Derived.Lib.Walk
namespace Go.Proofs.YtmfhpddeclggfaaGreatDoor
open Go.RowKit
set_option maxRecDepth 100000 in
set_option maxHeartbeats 1000000 in
theorem rCheckLine (n : Int) (p : Option Addr) (cap : Nat) (ws : List ByteArray) (w : World) (hl : ws.length ≤ maxLen) (hs : ∀ j, (ws.getD j ByteArray.empty).size ≤ maxLen) (hp : StrsAt w p ws) :
    Calls Tryz.prog 90 #[.agg #[.int .i64 n, .slice p ws.length cap]] w fun e w' => e = .returned (.int .i64 (lineErr n ws)) ∧ Below w.heap.size w w' := by
  have HS := Lib.hid hs
  have HP := Lib.hid hp
  clear hs hp
  unfold maxLen at hl
  by_cases h1 : n < 1
  · have HR : Hid (lineErr n ws = 1) := by unfold Hid lineErr; rw [if_pos (Or.inl h1)]
    go_enter Tryz.func90, Tryz.ntmps90
    go_wp2_with fail
    refine (in_no n 1 400 _ (Or.inl h1)).mono ?_
    rintro e w' ⟨rfl, rfl⟩
    go_wp2_with fail
    go_ret
    exact ⟨ret_int HR.out.symm, below_alloc1 _ _⟩
  by_cases h2 : 400 < n
  · have HR : Hid (lineErr n ws = 1) := by unfold Hid lineErr; rw [if_pos (Or.inr h2)]
    go_enter Tryz.func90, Tryz.ntmps90
    go_wp2_with fail
    refine (in_no n 1 400 _ (Or.inr h2)).mono ?_
    rintro e w' ⟨rfl, rfl⟩
    go_wp2_with fail
    go_ret
    exact ⟨ret_int HR.out.symm, below_alloc1 _ _⟩
  by_cases h3 : 40 < ws.length
  · have HR : Hid (lineErr n ws = 2) := by unfold Hid lineErr; rw [if_neg (by omega), if_pos h3]
    go_enter Tryz.func90, Tryz.ntmps90
    go_wp2_with fail
    refine (in_yes n 1 400 _ (by omega) (by omega)).mono ?_
    rintro e w' ⟨rfl, rfl⟩
    go_wp2_with fail
    go_ret
    exact ⟨ret_int HR.out.symm, below_alloc1 _ _⟩
  have HR : Hid (lineErr n ws = if wordsOk ws then 0 else 10) := by unfold Hid lineErr; rw [if_neg (by omega), if_neg h3]
  go_enter Tryz.func90, Tryz.ntmps90
  go_wp2_with fail
  refine (in_yes n 1 400 _ (by omega) (by omega)).mono ?_
  rintro e w' ⟨rfl, rfl⟩
  go_wp2_with fail
  go_loop [3] (fun i => ∃ k : Nat, k ≤ ws.length ∧ i = .int .i64 k ∧ Hid (wordsOk (ws.take k) = true)) (fun i => ws.length - (intOf i).toNat)
  case atStart => exact ⟨0, Nat.zero_le _, rfl, rfl⟩
  case round =>
    obtain ⟨k, hk, rfl, ha⟩ := hrel
    by_cases hlt : k < ws.length
    · obtain ⟨b, o, s, rfl, hb, hc, hs⟩ : ∃ b o s, p = some ⟨b, o, none⟩ ∧ b < w.heap.size ∧ w.cell? ⟨b, o + k, none⟩ = some (.string s) ∧ Hid (ws.getD k ByteArray.empty = s) := by
        rcases HP.out with h | ⟨b, o, e1, e2, e3⟩
        · rw [h] at hlt; exact absurd hlt (by simp)
        · exact ⟨b, o, _, e1, e2, e3 k hlt, rfl⟩
      have hz : Hid (s.size ≤ maxLen) := by have := HS.out k; rw [hs.out] at this; exact this
      cases hwd : wordL s.data.toList with
      | false =>
        have W := (rWord s (w.alloc (.cells #[.int .i64 n, .slice (some ⟨b, o, none⟩) ws.length cap] 39)) hz.out)
        rw [hwd] at W
        have HW := Lib.hid W
        have hn : Hid (wordsOk ws = false) := words_not ws k hlt (by rw [hs.out]; exact hwd)
        clear W hwd
        go_wp2_with fail
        refine HW.out.mono ?_
        rintro e w' ⟨rfl, rfl⟩
        clear HW
        go_wp2_with fail
        go_ret
        exact ⟨ret_int (by rw [HR.out, hn.out]; rfl), below_alloc1 _ _⟩
      | true =>
        have W := (rWord s (w.alloc (.cells #[.int .i64 n, .slice (some ⟨b, o, none⟩) ws.length cap] 39)) hz.out)
        rw [hwd] at W
        have HW := Lib.hid W
        have hn : Hid (wordsOk (ws.take (k + 1)) = true) := words_snoc ws k hlt ha.out (by rw [hs.out]; exact hwd)
        clear W hwd
        go_wp2_with fail
        refine HW.out.mono ?_
        rintro e w' ⟨rfl, rfl⟩
        clear HW
        go_wp2_with fail
        go_round
        case rel => exact ⟨k + 1, by omega, by go_num, hn⟩
        case measure => simp [intOf]; omega
    · obtain rfl : k = ws.length := by omega
      go_wp2_with fail
      go_ret
      refine ⟨ret_int ?_, below_alloc1 _ _⟩
      have := ha.out
      rw [List.take_length] at this
      rw [HR.out, this]; rfl
end Go.Proofs.YtmfhpddeclggfaaGreatDoor

namespace Go.Proofs.YtmfhpddeclggfaaGreatDoor
open Go.RowKit
set_option maxRecDepth 100000 in
set_option maxHeartbeats 1000000 in
theorem rHead (n : Int) (p : Option Addr) (cap : Nat) (ws : List ByteArray) (w : World) (h0 : lineErr n ws = 0) (hp : StrsAt w p ws) :
    Calls Tryz.prog 91 #[.agg #[.int .i64 n, .slice p ws.length cap]] w fun e w' => e = .returned (.string (bs (headL n ws))) ∧ Below w.heap.size w w' := by
  have HP := Lib.hid hp
  have HO := Lib.hid (lineErr_ok h0)
  have hn := HO.out.1
  have hn2 := HO.out.2.1
  have hwl := HO.out.2.2.1
  have hpre : Hid (∀ k, (wordsL (ws.take k)).length ≤ 121 * 40) := by
    intro k
    have := wordsL_len (ws.take k) fun s hs => wordsOk_size HO.out.2.2.2 s (List.mem_of_mem_take hs)
    have h2 : (ws.take k).length ≤ 40 := by rw [List.length_take]; omega
    have := Nat.mul_le_mul_left 121 h2
    omega
  obtain ⟨X, hX⟩ : ∃ X, Hid (bs (Lib.itoa n) = X) := ⟨_, rfl⟩
  obtain ⟨Y, hY⟩ : ∃ Y, Hid (bs (Lib.itoa ws.length) = Y) := ⟨_, rfl⟩
  have hXs : X.size ≤ 20 := by rw [← hX.out, bs_size]; exact (itoa_len n (by omega) (by omega)).2
  have hYs : Y.size ≤ 20 := by rw [← hY.out, bs_size]; exact (itoa_len (ws.length : Int) (by omega) (by omega)).2
  have C1 : Hid (∀ W, Calls Tryz.prog 29 #[.int .i64 n] W fun e w' => e = .returned (.string X) ∧ w' = W) := fun W => by
    have := rInt n W (i64_small (by omega) (by omega)); rw [hX.out] at this; exact this.mono fun _ _ h => ⟨h.1, h.2.symm⟩
  have C2 : Hid (∀ W, Calls Tryz.prog 29 #[.int .i64 ws.length] W fun e w' => e = .returned (.string Y) ∧ w' = W) := fun W => by
    have := rInt ws.length W (i64_small (by omega) (by omega)); rw [hY.out] at this; exact this.mono fun _ _ h => ⟨h.1, h.2.symm⟩
  clear h0 hp
  have z64 : (ByteArray.mk #[64]).size = 1 := rfl
  have z32 : (ByteArray.mk #[32]).size = 1 := rfl
  have a1 : ¬ 9223372036854775807 < (ByteArray.mk #[64]).size + X.size := by omega
  have a2 : ¬ 9223372036854775807 < (ByteArray.mk #[64]).size + X.size + (ByteArray.mk #[32]).size := by omega
  have a3 : ¬ 9223372036854775807 < (ByteArray.mk #[64]).size + X.size + (ByteArray.mk #[32]).size + Y.size := by omega
  have a4 : ¬ 9223372036854775807 < 1 + X.size := by omega
  have a5 : ¬ 9223372036854775807 < 1 + X.size + 1 := by omega
  have a6 : ¬ 9223372036854775807 < 1 + X.size + 1 + Y.size := by omega
  clear z64 z32
  go_enter Tryz.func91, Tryz.ntmps91
  go_wp2_with fail
  go_quiet ((go_at_call 29; first | (with_reducible exact Calls.quiet_of_same (C1.out _)) | (with_reducible exact Calls.quiet_of_same (C2.out _))))
  obtain ⟨W1, hW1⟩ : ∃ W1, (w.alloc (.cells #[.int .i64 n, .slice p ws.length cap] 39)).drewN nq = W1 := ⟨_, rfl⟩
  have hB : Below w.heap.size w W1 := by rw [← hW1]; exact below_drewN (below_alloc1 _ _) nq
  have c1 : W1.cell? ⟨w.heap.size, 1, none⟩ = some (.slice p ws.length cap) := by
    rw [← hW1]; exact new_at w #[.int .i64 n, .slice p ws.length cap] 39 1 _ rfl
  rw [hW1]
  have HB := Lib.hid hB
  have HP1 := Lib.hid (HP.out.below hB)
  obtain ⟨V0, hV0⟩ : ∃ V0, ByteArray.mk #[64] ++ X ++ ByteArray.mk #[32] ++ Y = V0 := ⟨_, rfl⟩
  rw [hV0]
  have HV : Hid (V0.data.toList = [64] ++ Lib.itoa n ++ [32] ++ Lib.itoa ws.length ++ wordsL (ws.take 0)) := by
    unfold Hid
    rw [← hV0, ← hX.out, ← hY.out, show wordsL (ws.take 0) = [] from rfl, List.append_nil]
    simp [ByteArray.data_append, bs]
  have hl0 : ([64] ++ Lib.itoa n ++ [32] ++ Lib.itoa ws.length : List UInt8).length ≤ 42 := by
    have h1 := (itoa_len n (by omega) (by omega)).2
    have h2 := (itoa_len (ws.length : Int) (by omega) (by omega)).2
    simp only [List.length_append, List.length_cons, List.length_nil]; omega
  have HL := Lib.hid hl0
  clear a1 a2 a3 a4 a5 a6 C1 C2 hX hY hXs hYs hV0 hW1 hB hl0
  go_wp2_with fail
  go_loopw [3, 4] (fun v i wr => ∃ (k : Nat) (V : ByteArray), k ≤ ws.length ∧ i = .int .i64 k ∧ v = .string V ∧ Hid (V.data.toList = [64] ++ Lib.itoa n ++ [32] ++ Lib.itoa ws.length ++ wordsL (ws.take k)) ∧ W1 = wr) (fun _ i _ => ws.length - (intOf i).toNat)
  case atStart => exact ⟨0, V0, Nat.zero_le _, rfl, rfl, HV, rfl⟩
  case round =>
    clear HV
    obtain ⟨k, V, hk, rfl, rfl, HV, rfl⟩ := hrel
    by_cases hlt : k < ws.length
    · obtain ⟨b, o, s, rfl, hc, hs⟩ : ∃ b o s, p = some ⟨b, o, none⟩ ∧ W1.cell? ⟨b, o + k, none⟩ = some (.string s) ∧ Hid (ws.getD k ByteArray.empty = s) := by
        rcases HP1.out with h | ⟨b, o, e1, e2, e3⟩
        · rw [h] at hlt; exact absurd hlt (by simp)
        · exact ⟨b, o, _, e1, e3 k hlt, rfl⟩
      have hss : s.size ≤ 120 := by
        have := wordsOk_size HO.out.2.2.2 (ws[k]) (List.getElem_mem _)
        have e := hs.out
        rw [List.getD, List.getElem?_eq_getElem hlt] at e
        rw [← e]; exact this
      have hVs : V.size ≤ 5000 := by
        rw [Lib.size_eq, HV.out, List.length_append]
        have := hpre.out k
        have := HL.out
        omega
      have a1 : ¬ 9223372036854775807 < V.size + 1 := by omega
      have a2 : ¬ 9223372036854775807 < V.size + 1 + s.size := by omega
      go_wp2_with fail
      refine ⟨⟨k + 1, _, by omega, by go_num, rfl, ?_, trivial⟩, by simp [intOf]; omega⟩
      unfold Hid
      rw [ByteArray.data_append, ByteArray.data_append, Array.toList_append, Array.toList_append, HV.out, wordsL_snoc ws k hlt, hs.out]
      simp only [List.append_assoc]
    · obtain rfl : k = ws.length := by omega
      rw [List.take_length] at HV
      go_wp2_with fail
      go_ret
      refine ⟨?_, HB.out⟩
      have : V = bs (headL n ws) := by
        have h := HV.out
        unfold headL bs
        rw [← h]
      rw [← this]; rfl
end Go.Proofs.YtmfhpddeclggfaaGreatDoor

namespace Go.Proofs.YtmfhpddeclggfaaGreatDoor
open Go.RowKit
theorem four_parts2 : ∀ a b : Fin 100, four (100 * a.val + b.val) = Lib.decDigits ((100 * a.val + b.val) / 1000 % 10) ++ Lib.decDigits ((100 * a.val + b.val) / 100 % 10) ++ Lib.decDigits ((100 * a.val + b.val) / 10 % 10) ++ Lib.decDigits ((100 * a.val + b.val) % 10) := by decide +kernel
theorem four_parts (n : Nat) (h : n < 10000) : four n = Lib.decDigits (n / 1000 % 10) ++ Lib.decDigits (n / 100 % 10) ++ Lib.decDigits (n / 10 % 10) ++ Lib.decDigits (n % 10) := by
  have := four_parts2 ⟨n / 100, by omega⟩ ⟨n % 100, by omega⟩
  simp only at this
  rw [show 100 * (n / 100) + n % 100 = n from by omega] at this
  exact this
theorem digit_len2 : ∀ d : Fin 10, (Lib.decDigits d.val).length = 1 := by decide +kernel
theorem digit_len (d : Nat) (h : d < 10) : (Lib.decDigits d).length = 1 := digit_len2 ⟨d, h⟩
set_option maxRecDepth 100000 in
set_option maxHeartbeats 1000000 in
theorem rFour (n : Nat) (w : World) (hn : n < 10000) :
    Calls Tryz.prog 92 #[.int .i64 (n : Int)] w fun e w' => e = .returned (.string (bs (four n))) ∧ w = w' := by
  have HF := Lib.hid (four_parts n hn)
  have l1 := digit_len (n / 1000 % 10) (by omega)
  have l2 := digit_len (n / 100 % 10) (by omega)
  have l3 := digit_len (n / 10 % 10) (by omega)
  have l4 := digit_len (n % 10) (by omega)
  obtain ⟨d1, h1⟩ : ∃ d, Hid (Lib.decDigits (n / 1000 % 10) = d) := ⟨_, rfl⟩
  obtain ⟨d2, h2⟩ : ∃ d, Hid (Lib.decDigits (n / 100 % 10) = d) := ⟨_, rfl⟩
  obtain ⟨d3, h3⟩ : ∃ d, Hid (Lib.decDigits (n / 10 % 10) = d) := ⟨_, rfl⟩
  obtain ⟨d4, h4⟩ : ∃ d, Hid (Lib.decDigits (n % 10) = d) := ⟨_, rfl⟩
  rw [h1.out] at l1
  rw [h2.out] at l2
  rw [h3.out] at l3
  rw [h4.out] at l4
  have C1 : Hid (Calls Tryz.prog 84 #[.int .i64 (-((n : Int) / 1000 % 10))] w fun e w' => e = .returned (.string (bs d1)) ∧ w = w') := by
    have := digits_any (n / 1000 % 10) w (by omega); rw [h1.out] at this
    rw [Hid, show (-((n : Int) / 1000 % 10)) = -((n / 1000 % 10 : Nat) : Int) from by omega]; exact this
  have C2 : Hid (Calls Tryz.prog 84 #[.int .i64 (-((n : Int) / 100 % 10))] w fun e w' => e = .returned (.string (bs d2)) ∧ w = w') := by
    have := digits_any (n / 100 % 10) w (by omega); rw [h2.out] at this
    rw [Hid, show (-((n : Int) / 100 % 10)) = -((n / 100 % 10 : Nat) : Int) from by omega]; exact this
  have C3 : Hid (Calls Tryz.prog 84 #[.int .i64 (-((n : Int) / 10 % 10))] w fun e w' => e = .returned (.string (bs d3)) ∧ w = w') := by
    have := digits_any (n / 10 % 10) w (by omega); rw [h3.out] at this
    rw [Hid, show (-((n : Int) / 10 % 10)) = -((n / 10 % 10 : Nat) : Int) from by omega]; exact this
  have C4 : Hid (Calls Tryz.prog 84 #[.int .i64 (-((n : Int) % 10))] w fun e w' => e = .returned (.string (bs d4)) ∧ w = w') := by
    have := digits_any (n % 10) w (by omega); rw [h4.out] at this
    rw [Hid, show (-((n : Int) % 10)) = -((n % 10 : Nat) : Int) from by omega]; exact this
  have s1 : (bs d1).size = 1 := by rw [bs_size, l1]
  have s2 : (bs d2).size = 1 := by rw [bs_size, l2]
  have s3 : (bs d3).size = 1 := by rw [bs_size, l3]
  have s4 : (bs d4).size = 1 := by rw [bs_size, l4]
  clear l1 l2 l3 l4
  go_enter Tryz.func92, Tryz.ntmps92
  go_wp2_with fail
  refine C1.out.mono ?_
  rintro e w' ⟨rfl, rfl⟩
  go_wp2_with fail
  refine C2.out.mono ?_
  rintro e w' ⟨rfl, rfl⟩
  go_wp2_with fail
  refine C3.out.mono ?_
  rintro e w' ⟨rfl, rfl⟩
  go_wp2_with fail
  refine C4.out.mono ?_
  rintro e w' ⟨rfl, rfl⟩
  go_wp2_with fail
  go_ret
  refine ⟨?_, rfl⟩
  have : bs d1 ++ bs d2 ++ bs d3 ++ bs d4 = bs (four n) := by
    rw [HF.out, h1.out, h2.out, h3.out, h4.out]
    apply ByteArray.ext
    simp [bs, ByteArray.data_append]
  rw [← this]; rfl
end Go.Proofs.YtmfhpddeclggfaaGreatDoor

namespace Go.Proofs.YtmfhpddeclggfaaGreatDoor
open Go.RowKit
/-- The reference's answer to the writing of a line. -/
def wrAgg (n : Int) (ws : List ByteArray) : Value := if lineErr n ws = 0 then .agg #[.string (bs (lineT n ws)), .int .i64 0] else .agg #[.string ⟨#[]⟩, .int .i64 (lineErr n ws)]
set_option maxRecDepth 100000 in
set_option maxHeartbeats 1000000 in
theorem rWrite (n : Int) (p : Option Addr) (cap : Nat) (ws : List ByteArray) (w : World) (hl : ws.length ≤ maxLen) (hs : ∀ j, (ws.getD j ByteArray.empty).size ≤ maxLen) (hp : StrsAt w p ws) :
    Calls Tryz.prog 32 #[.agg #[.int .i64 n, .slice p ws.length cap]] w fun e w' => e = .returned (wrAgg n ws) ∧ Below w.heap.size w w' := by
  have hA : Below w.heap.size w (w.alloc (.cells #[.int .i64 n, .slice p ws.length cap] 39)) := below_alloc1 _ _
  have hB : Below w.heap.size w ((w.alloc (.cells #[.int .i64 n, .slice p ws.length cap] 39)).alloc (.cells #[.string ⟨#[]⟩, .int .i64 0] 32)) := hA.alloc (by simp) _
  have C := rCheckLine n p cap ws ((w.alloc (.cells #[.int .i64 n, .slice p ws.length cap] 39)).alloc (.cells #[.string ⟨#[]⟩, .int .i64 0] 32)) hl hs (hp.below hB)
  have K0 := (K2.new w (.int .i64 n) (.slice p ws.length cap) 39).keep (below_alloc1 _ (.cells #[.string ⟨#[]⟩, .int .i64 0] 32))
  have R0 := K2.new (w.alloc (.cells #[.int .i64 n, .slice p ws.length cap] 39)) (.string ⟨#[]⟩) (.int .i64 0) 32
  have F0 : ∀ o, ((w.alloc (.cells #[.int .i64 n, .slice p ws.length cap] 39)).alloc (.cells #[.string ⟨#[]⟩, .int .i64 0] 32)).frozen? ⟨w.heap.size + 1, o, none⟩ = false := fun o => by
    have := frozen_new (w.alloc (.cells #[.int .i64 n, .slice p ws.length cap] 39)) #[.string ⟨#[]⟩, .int .i64 0] 32 o
    rw [World.size_alloc] at this
    exact this
  rw [World.size_alloc] at R0
  have HC := Lib.hid C
  have HB := Lib.hid hB
  have HP := Lib.hid hp
  have HK := Lib.hid K0
  have HR := Lib.hid R0
  have HF := Lib.hid F0
  have hsz : ((w.alloc (.cells #[.int .i64 n, .slice p ws.length cap] 39)).alloc (.cells #[.string ⟨#[]⟩, .int .i64 0] 32)).heap.size = w.heap.size + 2 := by simp
  have HSZ := Lib.hid hsz
  clear C hA hB hp K0 R0 F0 hs hl hsz
  by_cases h0 : lineErr n ws = 0
  · have HW : Hid (wrAgg n ws = .agg #[.string (bs (lineT n ws)), .int .i64 0]) := by unfold Hid wrAgg; rw [if_pos h0]
    have H0 := Lib.hid h0
    rw [h0] at HC
    clear h0
    go_enter Tryz.func32, Tryz.ntmps32
    go_wp2_with fail
    refine HC.out.mono ?_
    rintro e w1 ⟨rfl, hb⟩
    have B1 : Hid (Below w.heap.size w w1) := HB.out.trans (hb.mono HB.out.size)
    have K1 := Lib.hid (HK.out.keep hb)
    have R1 := Lib.hid (HR.out.keep hb)
    have F1 : Hid (∀ o, w1.frozen? ⟨w.heap.size + 1, o, none⟩ = false) := fun o => by
      rw [hb.frozen (p := ⟨w.heap.size + 1, o, none⟩) (by show w.heap.size + 1 < _; have := HSZ.out; omega)]; exact HF.out o
    clear hb HC HK HR HF HSZ
    have k0 := K1.out.2.1
    have k1 := K1.out.2.2
    go_wp2_with fail
    refine (rHead n p cap ws w1 H0.out (HP.out.below B1.out)).mono ?_
    rintro e w2 ⟨rfl, hb⟩
    have B2 : Hid (Below w.heap.size w w2) := B1.out.trans (hb.mono B1.out.size)
    have R2 := Lib.hid (R1.out.keep hb)
    have f0 : w2.frozen? ⟨w.heap.size + 1, 0, none⟩ = false := by rw [hb.frozen (p := ⟨w.heap.size + 1, 0, none⟩) R1.out.1]; exact F1.out 0
    have f1 : w2.frozen? ⟨w.heap.size + 1, 1, none⟩ = false := by rw [hb.frozen (p := ⟨w.heap.size + 1, 1, none⟩) R1.out.1]; exact F1.out 1
    have r0 := R2.out.2.1
    have r1 := R2.out.2.2
    clear hb k0 k1 K1 R1 F1 B1
    have hT := lineT_size H0.out
    have hH : (headL n ws).length + 5 ≤ 6000 := by
      have h4 := four_len (chk (headL n ws)) (by have := chk_lt (headL n ws); omega)
      rw [bs_size] at hT
      unfold lineT at hT
      simp only [List.length_append, List.length_cons, List.length_nil, h4] at hT
      omega
    have hc := chk_lt (headL n ws)
    have h4 := four_len (chk (headL n ws)) (by omega)
    obtain ⟨HD, hHD⟩ : ∃ HD, Hid (bs (headL n ws) = HD) := ⟨_, rfl⟩
    have hHs : HD.size ≤ 5995 := by rw [← hHD.out, bs_size]; omega
    rw [hHD.out]
    obtain ⟨c, hcc⟩ : ∃ c, Hid (chk (headL n ws) = c) := ⟨_, rfl⟩
    rw [hcc.out] at hc h4
    have C3 : Hid (∀ W, Calls Tryz.prog 36 #[.string HD] W fun e w' => e = .returned (.int .i64 c) ∧ W = w') := fun W => by
      refine (rCheck HD W (by unfold maxLen; omega)).mono ?_
      rintro e w' ⟨rfl, h⟩
      refine ⟨by rw [← hHD.out, bs_list, hcc.out], ?_⟩
      first | exact h | exact h.symm
    have C4 : Hid (∀ W, Calls Tryz.prog 92 #[.int .i64 c] W fun e w' => e = .returned (.string (bs (four c))) ∧ W = w') := fun W => rFour c W (by omega)
    have s4 : (bs (four c)).size = 4 := by rw [bs_size, h4]
    have a1 : ¬ 9223372036854775807 < HD.size + 1 := by omega
    have a2 : ¬ 9223372036854775807 < HD.size + 1 + 4 := by omega
    clear hT hH h4
    go_wp2_with fail
    refine (C3.out _).mono ?_
    rintro e w' ⟨rfl, rfl⟩
    go_wp2_with fail
    refine (C4.out _).mono ?_
    rintro e w' ⟨rfl, rfl⟩
    go_wp2_with fail
    refine bodyPost_ret (v := .agg #[.string (HD ++ ⟨#[32]⟩ ++ bs (four c)), .int .i64 0]) (by simp [results, Tryz.results32, go_sem, r0, r1]) rfl ⟨?_, ?_⟩
    · rw [HW.out]
      have : bs (lineT n ws) = HD ++ ⟨#[32]⟩ ++ bs (four c) := by
        rw [← hHD.out, ← hcc.out]
        apply ByteArray.ext
        simp [bs, ByteArray.data_append, lineT]
      rw [this]
    · exact (B2.out.setCell (p := ⟨w.heap.size + 1, 0, none⟩) (Nat.le_succ _) _).setCell (p := ⟨w.heap.size + 1, 1, none⟩) (Nat.le_succ _) _
  · have HW : Hid (wrAgg n ws = .agg #[.string ⟨#[]⟩, .int .i64 (lineErr n ws)]) := by unfold Hid wrAgg; rw [if_neg h0]
    have h1 : (lineErr n ws != 0) = true := bne_iff_ne.2 h0
    clear h0
    go_enter Tryz.func32, Tryz.ntmps32
    go_wp2_with fail
    refine HC.out.mono ?_
    rintro e w1 ⟨rfl, hb⟩
    have B1 : Hid (Below w.heap.size w w1) := HB.out.trans (hb.mono HB.out.size)
    have r := HR.out.keep hb
    have r0 := r.2.1
    have r1 := r.2.2
    have f0 : w1.frozen? ⟨w.heap.size + 1, 0, none⟩ = false := by rw [hb.frozen (p := ⟨w.heap.size + 1, 0, none⟩) (by show w.heap.size + 1 < _; have := HSZ.out; omega)]; exact HF.out 0
    have f1 : w1.frozen? ⟨w.heap.size + 1, 1, none⟩ = false := by rw [hb.frozen (p := ⟨w.heap.size + 1, 1, none⟩) (by show w.heap.size + 1 < _; have := HSZ.out; omega)]; exact HF.out 1
    clear hb HC HK HR HF HSZ r
    go_wp2_with fail
    refine bodyPost_ret (v := .agg #[.string ⟨#[]⟩, .int .i64 (lineErr n ws)]) (by simp [results, Tryz.results32, go_sem, r0, r1]) rfl ⟨?_, ?_⟩
    · rw [HW.out]
    · exact (B1.out.setCell (p := ⟨w.heap.size + 1, 0, none⟩) (Nat.le_succ _) _).setCell (p := ⟨w.heap.size + 1, 1, none⟩) (Nat.le_succ _) _
end Go.Proofs.YtmfhpddeclggfaaGreatDoor

namespace Go.Proofs.YtmfhpddeclggfaaGreatDoor
open Go.RowKit
end Go.Proofs.YtmfhpddeclggfaaGreatDoor

namespace Go.Proofs.YtmfhpddeclggfaaGreatDoor
open Go.RowKit
end Go.Proofs.YtmfhpddeclggfaaGreatDoor

namespace Go.Proofs.YtmfhpddeclggfaaGreatDoor
open Go.RowKit
theorem snoc_ind {P : List UInt8 → Prop} (h0 : P []) (h1 : ∀ l c, P l → P (l ++ [c])) (l : List UInt8) : P l := by
  have : ∀ (r : List UInt8), P r.reverse := by
    intro r
    induction r with
    | nil => exact h0
    | cons c r ih => rw [List.reverse_cons]; exact h1 _ _ ih
  have h := this l.reverse
  rwa [List.reverse_reverse] at h
theorem lastB_63 (l : List UInt8) : lastB l = 63 → ∀ c ∈ l, c = 63 := by
  induction l using snoc_ind with
  | h0 => simp
  | h1 l c ih =>
    rw [lastB_snoc]
    by_cases h : c = 63
    · rw [if_pos h]
      intro hl x hx
      rcases List.mem_append.1 hx with h2 | h2
      · exact ih hl x h2
      · rw [List.mem_singleton.1 h2]; exact h
    · rw [if_neg h]; intro e; exact absurd e h
theorem count_two (a : UInt8) (ha : a ≠ 63) (l : List UInt8) : l.count a + l.count 63 ≤ l.length ∧ (l.count a + l.count 63 = l.length ↔ ∀ c ∈ l, c = 63 ∨ c = a) := by
  induction l with
  | nil => simp
  | cons c r ih =>
    obtain ⟨h1, h2⟩ := ih
    rw [List.count_cons, List.count_cons, List.length_cons]
    have hb : (a == (63 : UInt8)) = false := beq_eq_false_iff_ne.2 ha
    by_cases e1 : c = a
    · subst e1
      rw [hb]
      simp only [beq_self_eq_true, if_true, Bool.false_eq_true, if_false]
      refine ⟨by omega, ?_⟩
      constructor
      · intro h x hx
        rcases List.mem_cons.1 hx with h3 | h3
        · exact Or.inr h3
        · exact h2.1 (by omega) x h3
      · intro h
        have := h2.2 fun x hx => h x (List.mem_cons_of_mem _ hx)
        omega
    · have e1' : (c == a) = false := beq_eq_false_iff_ne.2 e1
      by_cases e2 : c = 63
      · subst e2
        rw [e1']
        simp only [beq_self_eq_true, if_true, Bool.false_eq_true, if_false]
        refine ⟨by omega, ?_⟩
        constructor
        · intro h x hx
          rcases List.mem_cons.1 hx with h3 | h3
          · exact Or.inl h3
          · exact h2.1 (by omega) x h3
        · intro h
          have := h2.2 fun x hx => h x (List.mem_cons_of_mem _ hx)
          omega
      · have e2' : (c == (63 : UInt8)) = false := beq_eq_false_iff_ne.2 e2
        rw [e1', e2']
        simp only [Bool.false_eq_true, if_false]
        refine ⟨by omega, ?_⟩
        constructor
        · intro h; omega
        · intro h
          rcases h c List.mem_cons_self with h3 | h3
          · exact absurd h3 e2
          · exact absurd h3 e1
theorem oneB_iff (l : List UInt8) : oneB l = true ↔ ∀ c ∈ l, c = 63 ∨ c = lastB l := by
  unfold oneB
  by_cases h : lastB l = 63
  · simp only [h, decide_true, Bool.true_or, true_iff]
    intro c hc
    exact Or.inl (lastB_63 l h c hc)
  · rw [decide_eq_false h, Bool.false_or, decide_eq_true_iff]
    exact (count_two (lastB l) h l).2
/-- One byte more of a column, as the reference lays it. -/
def stepC (m c : UInt8) : Option UInt8 := if m = 63 then some c else if c ≠ 63 ∧ c ≠ m then none else some m
theorem one_step (l : List UInt8) (c : UInt8) (h : oneB l = true) : stepC (lastB l) c = if oneB (l ++ [c]) = true then some (lastB (l ++ [c])) else none := by
  have hl := (oneB_iff l).1 h
  have hs := oneB_iff (l ++ [c])
  rw [lastB_snoc] at hs ⊢
  unfold stepC
  by_cases h1 : lastB l = 63
  · have h2 := lastB_63 l h1
    rw [if_pos h1]
    have : oneB (l ++ [c]) = true := by
      rw [hs]
      intro x hx
      rcases List.mem_append.1 hx with h3 | h3
      · exact Or.inl (h2 x h3)
      · rw [List.mem_singleton.1 h3]
        by_cases hc : c = 63
        · exact Or.inl hc
        · rw [if_neg hc]; exact Or.inr rfl
    rw [if_pos this]
    by_cases hc : c = 63
    · rw [if_pos hc, h1, hc]
    · rw [if_neg hc]
  · rw [if_neg h1]
    by_cases hc : c = 63
    · rw [if_neg (fun e => e.1 hc)]
      have : oneB (l ++ [c]) = true := by
        rw [hs, if_pos hc]
        intro x hx
        rcases List.mem_append.1 hx with h3 | h3
        · exact hl x h3
        · rw [List.mem_singleton.1 h3]; exact Or.inl hc
      rw [if_pos this, if_pos hc]
    · rw [if_neg hc] at hs ⊢
      by_cases hm : c = lastB l
      · rw [if_neg (fun e => e.2 hm)]
        have : oneB (l ++ [c]) = true := by
          rw [hs]
          intro x hx
          rcases List.mem_append.1 hx with h3 | h3
          · rw [hm]; exact hl x h3
          · rw [List.mem_singleton.1 h3]; exact Or.inr rfl
        rw [if_pos this, hm]
      · rw [if_pos ⟨hc, hm⟩]
        rw [if_neg]
        intro e
        have h3 := hs.1 e
        -- lastB l occurs in l
        have hmem : lastB l ∈ l := by
          have : ∀ l : List UInt8, lastB l ≠ 63 → lastB l ∈ l := by
            intro l
            induction l using snoc_ind with
            | h0 => intro h; exact absurd rfl h
            | h1 l c ih =>
              rw [lastB_snoc]
              by_cases h : c = 63
              · rw [if_pos h]; intro h2; exact List.mem_append_left _ (ih h2)
              · rw [if_neg h]; intro _; exact List.mem_append_right _ (List.mem_singleton.2 rfl)
          exact this l h1
        rcases h3 (lastB l) (List.mem_append_left _ hmem) with h4 | h4
        · exact h1 h4
        · exact hm h4.symm
theorem one_prefix (l r : List UInt8) (h : oneB (l ++ r) = true) : oneB l = true := by
  induction r using snoc_ind with
  | h0 => rwa [List.append_nil] at h
  | h1 r c ih =>
    apply ih
    rw [← List.append_assoc] at h
    have hs := (oneB_iff _).1 h
    rw [oneB_iff]
    intro x hx
    rw [lastB_snoc] at hs
    by_cases hc : c = 63
    · rw [if_pos hc] at hs; exact hs x (List.mem_append_left _ hx)
    · rw [if_neg hc] at hs
      by_cases hL : lastB (l ++ r) = 63
      · exact Or.inl (lastB_63 _ hL x hx)
      · have hmem : lastB (l ++ r) ∈ l ++ r := by
          have : ∀ l : List UInt8, lastB l ≠ 63 → lastB l ∈ l := by
            intro l
            induction l using snoc_ind with
            | h0 => intro h; exact absurd rfl h
            | h1 l c ih =>
              rw [lastB_snoc]
              by_cases h : c = 63
              · rw [if_pos h]; intro h2; exact List.mem_append_left _ (ih h2)
              · rw [if_neg h]; intro _; exact List.mem_append_right _ (List.mem_singleton.2 rfl)
          exact this _ hL
        rcases hs _ (List.mem_append_left _ hmem) with h4 | h4
        · exact absurd h4 hL
        · rw [h4]; exact hs x (List.mem_append_left _ hx)
theorem below_bytes (w : World) (e : TypeId) (s : ByteArray) : Below w.heap.size w (Lib.bytesWorld w e s) :=
  ⟨rfl, rfl, rfl, by rw [Lib.bytesWorld_size]; omega, fun i hi => Lib.bytesWorld_at_old w e s i hi⟩
theorem frozen_bytes (w : World) (e : TypeId) (s : ByteArray) (o : Nat) (h : o < s.size) : (Lib.bytesWorld w e s).frozen? ⟨w.heap.size, o, none⟩ = false := by
  have h1 := Lib.bytesWorld_at_new w e s
  have h2 : o < (Lib.bytesCells w e s).size := by
    unfold Lib.bytesCells
    rw [Array.size_append, Array.size_map]
    exact Nat.lt_of_lt_of_le h (Nat.le_add_right _ _)
  unfold World.frozen?
  rw [h1]
  simp
  omega
/-- How the world stands while the reference lays texts over each other: up to column k with i + 1 texts, behind it with i. -/
structure RO (w W : World) (ts : List ByteArray) (n i k : Nat) : Prop where
  bel : Below w.heap.size w W
  lt : w.heap.size < W.heap.size
  fr : ∀ o, o < n → W.frozen? ⟨w.heap.size, o, none⟩ = false
  row : ∀ o, o < n → W.cell? ⟨w.heap.size, o, none⟩ = some (.int .u8 (lastB ((colOf ts o).take (if o < k then i + 1 else i))).toNat)
theorem RO.over {w W : World} {ts : List ByteArray} {n i : Nat} (h : RO w W ts n i n) : RO w W ts n (i + 1) 0 :=
  ⟨h.bel, h.lt, h.fr, fun o ho => by rw [h.row o ho, if_pos ho, if_neg (Nat.not_lt_zero _)]⟩
theorem RO.keep {w W : World} {ts : List ByteArray} {n i k : Nat} (h : RO w W ts n i k) (e : lastB ((colOf ts k).take (i + 1)) = lastB ((colOf ts k).take i)) : RO w W ts n i (k + 1) :=
  ⟨h.bel, h.lt, h.fr, fun o ho => by
    rw [h.row o ho]
    by_cases h1 : o < k
    · rw [if_pos h1, if_pos (by omega)]
    · by_cases h2 : o = k
      · subst h2; rw [if_neg h1, if_pos (Nat.lt_succ_self _), e]
      · rw [if_neg h1, if_neg (by omega)]⟩
theorem RO.set {w W : World} {ts : List ByteArray} {n i k : Nat} (h : RO w W ts n i k) (hk : k < n) (c : UInt8) (e : lastB ((colOf ts k).take (i + 1)) = c) : RO w (W.setCell ⟨w.heap.size, k, none⟩ (.int .u8 c.toNat)) ts n i (k + 1) := by
  refine ⟨h.bel.setCell (p := ⟨w.heap.size, k, none⟩) (Nat.le_refl _) _, by simpa using h.lt, fun o ho => by rw [World.frozen?_setCell]; exact h.fr o ho, fun o ho => ?_⟩
  by_cases h2 : k = o
  · subst h2
    rw [if_pos (Nat.lt_succ_self _), e]
    exact World.cell?_setCell_same _ _ _ (h.row k hk)
  · rw [World.cell?_setCell_other _ _ _ _ (addr_ne h2), h.row o ho]
    by_cases h1 : o < k
    · rw [if_pos h1, if_pos (by omega)]
    · rw [if_neg h1, if_neg (by omega)]
theorem RO.start (w : World) (ts : List ByteArray) (h0 : 0 < ts.length) : RO w (Lib.bytesWorld w 5 (ts.getD 0 ByteArray.empty)) ts (ts.getD 0 ByteArray.empty).size 1 0 := by
  refine ⟨below_bytes _ _ _, by rw [Lib.bytesWorld_size]; omega, fun o ho => frozen_bytes _ _ _ _ ho, fun o ho => ?_⟩
  rw [Lib.bytesWorld_cell _ _ _ _ ho, if_neg (Nat.not_lt_zero _)]
  have h1 := col_snoc ts o 0 _ h0 rfl
  rw [h1, List.take_zero, List.nil_append]
  have h2 : ∀ c : UInt8, lastB [c] = c := fun c => by
    unfold lastB
    by_cases hc : c = 63
    · simp [hc]
    · simp [hc]
  rw [h2]
theorem one_first (ts : List ByteArray) (o : Nat) (h0 : 0 < ts.length) : oneB ((colOf ts o).take 1) = true := by
  rw [col_snoc ts o 0 _ h0 rfl, List.take_zero, List.nil_append, oneB_iff]
  intro c hc
  rw [List.mem_singleton.1 hc]
  unfold lastB
  by_cases h : (ts.getD 0 ByteArray.empty).data.toList.getD o 0 = 63
  · exact Or.inl h
  · exact Or.inr (by simp)
theorem col_one_of (ts : List ByteArray) (o i : Nat) (h : oneB (colOf ts o) = true) : oneB ((colOf ts o).take i) = true :=
  one_prefix _ ((colOf ts o).drop i) (by rw [List.take_append_drop]; exact h)
set_option maxRecDepth 100000 in
set_option maxHeartbeats 2000000 in
theorem rOverlay_same (p : Option Addr) (cap n : Nat) (ts : List ByteArray) (w : World) (h0 : 0 < ts.length) (hts : ts.length ≤ 1000000) (hn : n ≤ 1000000) (hk : ∀ j, j < ts.length → (ts.getD j ByteArray.empty).size = n) (hp : StrsAt w p ts) :
    Calls Tryz.prog 51 #[.slice p ts.length cap] w fun e w' => e = .returned (ovVal ts n) ∧ Below w.heap.size w w' := by
  have HP := Lib.hid hp
  have HK := Lib.hid hk
  have hne : ((ts.length : Int) == 0) = false := by rw [beq_eq_false_iff_ne]; omega
  obtain ⟨b, o, rfl, hbw, hc00⟩ : ∃ b o, p = some ⟨b, o, none⟩ ∧ b < w.heap.size ∧ w.cell? ⟨b, o, none⟩ = some (.string (ts.getD 0 ByteArray.empty)) := by
    rcases hp with h | ⟨b, o, e1, e2, e3⟩
    · rw [h] at h0; exact absurd h0 (by simp)
    · exact ⟨b, o, e1, e2, e3 0 h0⟩
  have HBW := Lib.hid hbw
  have R0 := RO.start w ts h0
  have hsz0 := hk 0 h0
  rw [hsz0] at R0
  obtain ⟨s0, hs0⟩ : ∃ s0, ts.getD 0 ByteArray.empty = s0 := ⟨_, rfl⟩
  rw [hs0] at hc00 R0 hsz0
  have hcv := Lib.run_convert_string_bytes (P := Tryz.prog) w 9 106 5 s0 Tryz.underlying9 und106 Tryz.underlying5
  obtain ⟨W0, hW0⟩ : ∃ W0, Lib.bytesWorld w 5 s0 = W0 := ⟨_, rfl⟩
  rw [hW0] at hcv R0
  rw [hsz0] at hcv
  obtain ⟨gc, hgc⟩ : ∃ gc, grownCap w n 0 5 = gc := ⟨_, rfl⟩
  rw [hgc] at hcv
  have R := Lib.hid R0
  have H1 : Hid (∀ o, o < n → oneB ((colOf ts o).take 1) = true) := fun o _ => one_first ts o h0
  clear hp hk hbw R0 hW0 hgc hs0 hsz0
  go_enter Tryz.func51, Tryz.ntmps51
  go_wp2_with fail
  go_loopw [5] (fun i wr => ∃ j : Nat, 1 ≤ j ∧ j ≤ ts.length ∧ i = .int .i64 j ∧ Hid (∀ o, o < n → oneB ((colOf ts o).take j) = true) ∧ Hid (RO w wr ts n j 0)) (fun i _ => ts.length - (intOf i).toNat)
  case atStart => exact ⟨1, Nat.le_refl _, by omega, rfl, H1, R⟩
  case round =>
    clear R H1 hcv hc00
    obtain ⟨i, h1i, hi, rfl, HA, R⟩ := hrel
    by_cases hlt : i < ts.length
    · obtain ⟨s, hc0, hs⟩ : ∃ s, Hid (∀ W, Below w.heap.size w W → W.cell? ⟨b, o + i, none⟩ = some (.string s)) ∧ Hid (ts.getD i ByteArray.empty = s) := by
        rcases HP.out with h | ⟨b, o, e1, e2, e3⟩
        · rw [h] at hlt; exact absurd hlt (by simp)
        · cases e1
          exact ⟨_, fun W hW => by rw [hW.cell (p := ⟨b, o + i, none⟩) e2]; exact e3 i hlt, rfl⟩
      have hsz : s.size = n := by rw [← hs.out]; exact HK.out i hlt
      have hcs := hc0.out _ R.out.bel
      go_wp2_with fail
      go_loopw [6] (fun q wz => ∃ k : Nat, k ≤ n ∧ q = .int .i64 k ∧ Hid (∀ o, o < k → oneB ((colOf ts o).take (i + 1)) = true) ∧ Hid (RO w wz ts n i k)) (fun q _ => n - (intOf q).toNat)
      case atStart => exact ⟨0, Nat.zero_le _, rfl, fun o h => absurd h (Nat.not_lt_zero _), R⟩
      case round =>
        clear R hcs
        obtain ⟨k, hkn, rfl, HB, R⟩ := hrel
        by_cases hk2 : k < n
        · have hcs := hc0.out _ R.out.bel
          obtain ⟨m, hm⟩ : ∃ m, lastB ((colOf ts k).take i) = m := ⟨_, rfl⟩
          have rk := R.out.row k hk2
          rw [if_neg (Nat.lt_irrefl _), hm] at rk
          have rf := R.out.fr k hk2
          have hks : k < s.size := by omega
          obtain ⟨c, hc⟩ : ∃ c, s[k] = c := ⟨_, rfl⟩
          have hsn := col_snoc ts k i c hlt (by rw [hs.out, List.getD, List.getElem?_eq_getElem (by simpa using hks)]; exact hc)
          have hst := one_step ((colOf ts k).take i) c (HA.out k hk2)
          rw [← hsn, hm] at hst
          have HST := Lib.hid hst
          have HM := Lib.hid hm
          have hml := m.toNat_lt
          have hcl := c.toNat_lt
          have j63 : ∀ x : UInt8, x ≠ 63 → ((x.toNat : Int) == 63) = false := fun x hx => by
            rw [beq_eq_false_iff_ne]
            exact fun h => hx (UInt8.toNat_inj.1 (by have : (63 : UInt8).toNat = 63 := rfl; omega))
          have good : ∀ r, stepC m c = some r → oneB ((colOf ts k).take (i + 1)) = true ∧ lastB ((colOf ts k).take (i + 1)) = r := fun r hr => by
            rw [HST.out] at hr
            by_cases ho : oneB ((colOf ts k).take (i + 1)) = true
            · rw [if_pos ho] at hr; exact ⟨ho, Option.some.inj hr⟩
            · rw [if_neg ho] at hr; cases hr
          have more : oneB ((colOf ts k).take (i + 1)) = true → Hid (∀ o, o < k + 1 → oneB ((colOf ts o).take (i + 1)) = true) := fun h => by
            intro o ho
            by_cases e : o = k
            · rw [e]; exact h
            · exact HB.out o (by omega)
          clear hst hm hsn
          by_cases m63 : m = 63
          · have g := good c (by unfold stepC; rw [if_pos m63])
            have HB2 := more g.1
            have R2 := Lib.hid (R.out.set hk2 c g.2)
            have t63 : ((m.toNat : Int) == 63) = true := by rw [m63]; rfl
            by_cases c63 : c = 63
            · have u63 : ((c.toNat : Int) != 63) = false := by rw [c63]; rfl
              clear good more j63 g HB R HST HM m63 c63
              go_wp2_with fail
              exact ⟨⟨k + 1, by omega, by go_num, HB2, R2⟩, by simp [intOf]; omega⟩
            · have u63 : ((c.toNat : Int) != 63) = true := by rw [bne, j63 c c63]; rfl
              clear good more j63 g HB R HST HM m63 c63
              go_wp2_with fail
              exact ⟨⟨k + 1, by omega, by go_num, HB2, R2⟩, by simp [intOf]; omega⟩
          · have t63 := j63 m m63
            by_cases c63 : c = 63
            · have g := good m (by unfold stepC; rw [if_neg m63, if_neg (fun e => e.1 c63)])
              have HB2 := more g.1
              have R2 := Lib.hid (R.out.keep (by rw [g.2, HM.out]))
              have u63 : ((c.toNat : Int) != 63) = false := by rw [c63]; rfl
              clear good more j63 g HB R HST HM m63 c63
              go_wp2_with fail
              exact ⟨⟨k + 1, by omega, by go_num, HB2, R2⟩, by simp [intOf]; omega⟩
            · have u63 : ((c.toNat : Int) != 63) = true := by rw [bne, j63 c c63]; rfl
              by_cases cm : c = m
              · have g := good m (by unfold stepC; rw [if_neg m63, if_neg (fun e => e.2 cm)])
                have HB2 := more g.1
                have R2 := Lib.hid (R.out.keep (by rw [g.2, HM.out]))
                have v : ((c.toNat : Int) != (m.toNat : Int)) = false := by rw [cm]; simp
                clear good more j63 g HB R HST HM m63 c63 cm
                go_wp2_with fail
                exact ⟨⟨k + 1, by omega, by go_num, HB2, R2⟩, by simp [intOf]; omega⟩
              · have v : ((c.toNat : Int) != (m.toNat : Int)) = true := by
                  rw [bne_iff_ne]; exact fun h => cm (UInt8.toNat_inj.1 (by omega))
                have HR : Hid (ovVal ts n = .tuple #[.string ⟨#[]⟩, .bool false]) := by
                  unfold ovVal Hid
                  rw [if_neg]
                  intro h
                  have h2 := col_one_of ts k (i + 1) (List.all_eq_true.1 h k (List.mem_range.2 hk2))
                  have h3 := HST.out
                  unfold stepC at h3
                  rw [if_neg m63, if_pos ⟨c63, cm⟩, if_pos h2] at h3
                  cases h3
                have HBL := Lib.hid R.out.bel
                clear good more j63 HB R HST HM m63 c63 cm
                go_wp2_with fail
                go_ret2
                exact ⟨by rw [HR.out]; rfl, HBL.out⟩
        · obtain rfl : k = n := by omega
          have R2 := Lib.hid R.out.over
          clear R HA
          go_wp2_with fail
          exact ⟨⟨i + 1, by omega, by omega, by go_num, HB, R2⟩, by simp [intOf]; omega⟩
    · obtain rfl : i = ts.length := by omega
      have hfull : ∀ o, (colOf ts o).take ts.length = colOf ts o := fun o => List.take_of_length_le (Nat.le_of_eq (colOf_len ts o))
      have HR : Hid (ovVal ts n = .tuple #[.string (bs ((List.range n).map fun k => lastB (colOf ts k))), .bool true]) := by
        unfold ovVal Hid
        rw [if_pos (List.all_eq_true.2 fun k hk => by have := HA.out k (List.mem_range.1 hk); rwa [hfull] at this)]
      have hconv := run_convert_bytes_arg (P := Tryz.prog) wr 106 5 und106 Tryz.underlying5 w.heap.size 0 n gc (((List.range n).map fun k => lastB (colOf ts k)).map fun b => (b.toNat : Int)) (by simp) (fun i hi => by
        rw [Nat.zero_add, R.out.row i hi, if_neg (Nat.not_lt_zero _), hfull]
        simp [List.getD, hi]) 9 Tryz.underlying9
      rw [strOfNums_bytes] at hconv
      have HB := Lib.hid R.out.bel
      clear R HA hfull
      go_wp2_with fail
      go_ret2
      exact ⟨by rw [HR.out]; rfl, HB.out⟩
/-- The same, of which no more is known than that bytes lie there. -/
structure RX (w W : World) (n : Nat) : Prop where
  bel : Below w.heap.size w W
  lt : w.heap.size < W.heap.size
  fr : ∀ o, o < n → W.frozen? ⟨w.heap.size, o, none⟩ = false
  row : ∀ o, o < n → ∃ m : UInt8, W.cell? ⟨w.heap.size, o, none⟩ = some (.int .u8 m.toNat)
theorem RX.set {w W : World} {n k : Nat} (h : RX w W n) (hk : k < n) (c : UInt8) : RX w (W.setCell ⟨w.heap.size, k, none⟩ (.int .u8 c.toNat)) n := by
  refine ⟨h.bel.setCell (p := ⟨w.heap.size, k, none⟩) (Nat.le_refl _) _, by simpa using h.lt, fun o ho => by rw [World.frozen?_setCell]; exact h.fr o ho, fun o ho => ?_⟩
  by_cases h2 : k = o
  · subst h2
    obtain ⟨m, hm⟩ := h.row k hk
    exact ⟨c, World.cell?_setCell_same _ _ _ hm⟩
  · obtain ⟨m, hm⟩ := h.row o ho
    exact ⟨m, by rw [World.cell?_setCell_other _ _ _ _ (addr_ne h2)]; exact hm⟩
theorem RX.start (w : World) (s : ByteArray) : RX w (Lib.bytesWorld w 5 s) s.size :=
  ⟨below_bytes _ _ _, by rw [Lib.bytesWorld_size]; omega, fun o ho => frozen_bytes _ _ _ _ ho, fun o ho => ⟨_, Lib.bytesWorld_cell _ _ _ _ ho⟩⟩
set_option maxRecDepth 100000 in
set_option maxHeartbeats 1000000 in
theorem rOverlay_none (p : Option Addr) (cap : Nat) (w : World) :
    Calls Tryz.prog 51 #[.slice p 0 cap] w fun e w' => e = .returned (.tuple #[.string ⟨#[]⟩, .bool false]) ∧ w = w' := by
  go_enter Tryz.func51, Tryz.ntmps51
  go_wp2_with fail
  go_ret2
  exact ⟨rfl, rfl⟩
set_option maxRecDepth 100000 in
set_option maxHeartbeats 2000000 in
theorem rOverlay_diff (p : Option Addr) (cap n d : Nat) (ts : List ByteArray) (w : World) (h0 : 0 < d) (hd : d < ts.length) (hts : ts.length ≤ 1000000) (hn : n ≤ 1000000) (hk : ∀ j, j < d → (ts.getD j ByteArray.empty).size = n) (hdd : (ts.getD d ByteArray.empty).size ≠ n) (hdm : (ts.getD d ByteArray.empty).size ≤ 1000000) (hp : StrsAt w p ts) :
    Calls Tryz.prog 51 #[.slice p ts.length cap] w fun e w' => e = .returned (.tuple #[.string ⟨#[]⟩, .bool false]) ∧ Below w.heap.size w w' := by
  have HP := Lib.hid hp
  have HK := Lib.hid hk
  have HD := Lib.hid hdd
  have HDM := Lib.hid hdm
  have hne : ((ts.length : Int) == 0) = false := by rw [beq_eq_false_iff_ne]; omega
  obtain ⟨b, o, rfl, hbw, hc00⟩ : ∃ b o, p = some ⟨b, o, none⟩ ∧ b < w.heap.size ∧ w.cell? ⟨b, o, none⟩ = some (.string (ts.getD 0 ByteArray.empty)) := by
    rcases hp with h | ⟨b, o, e1, e2, e3⟩
    · rw [h] at hd; exact absurd hd (by simp)
    · exact ⟨b, o, e1, e2, e3 0 (by omega)⟩
  have hsz0 := hk 0 h0
  obtain ⟨s0, hs0⟩ : ∃ s0, ts.getD 0 ByteArray.empty = s0 := ⟨_, rfl⟩
  rw [hs0] at hc00 hsz0
  have R0 := RX.start w s0
  rw [hsz0] at R0
  have hcv := Lib.run_convert_string_bytes (P := Tryz.prog) w 9 106 5 s0 Tryz.underlying9 und106 Tryz.underlying5
  obtain ⟨W0, hW0⟩ : ∃ W0, Lib.bytesWorld w 5 s0 = W0 := ⟨_, rfl⟩
  rw [hW0] at hcv R0
  rw [hsz0] at hcv
  obtain ⟨gc, hgc⟩ : ∃ gc, grownCap w n 0 5 = gc := ⟨_, rfl⟩
  rw [hgc] at hcv
  have R := Lib.hid R0
  clear hp hk hbw R0 hW0 hgc hs0 hsz0 hdd hdm
  go_enter Tryz.func51, Tryz.ntmps51
  go_wp2_with fail
  go_loopw [5] (fun i wr => ∃ j : Nat, 1 ≤ j ∧ j ≤ d ∧ i = .int .i64 j ∧ Hid (RX w wr n)) (fun i _ => ts.length - (intOf i).toNat)
  case atStart => exact ⟨1, Nat.le_refl _, by omega, rfl, R⟩
  case round =>
    clear R hcv hc00
    obtain ⟨i, h1i, hi, rfl, R⟩ := hrel
    have hlt : i < ts.length := by omega
    obtain ⟨s, hc0, hs⟩ : ∃ s, Hid (∀ W, Below w.heap.size w W → W.cell? ⟨b, o + i, none⟩ = some (.string s)) ∧ Hid (ts.getD i ByteArray.empty = s) := by
      rcases HP.out with h | ⟨b, o, e1, e2, e3⟩
      · rw [h] at hlt; exact absurd hlt (by simp)
      · cases e1
        exact ⟨_, fun W hW => by rw [hW.cell (p := ⟨b, o + i, none⟩) e2]; exact e3 i hlt, rfl⟩
    have hcs := hc0.out _ R.out.bel
    by_cases hid : i = d
    · have hsd : ¬ (s.size : Int) = n := by
        have h1 := HD.out
        rw [← hid, hs.out] at h1
        omega
      have hsm : s.size ≤ 1000000 := by rw [← hs.out, hid]; exact HDM.out
      have HB := Lib.hid R.out.bel
      clear R hid
      go_wp2_with fail
      go_ret2
      exact ⟨rfl, HB.out⟩
    · have hsz : s.size = n := by rw [← hs.out]; exact HK.out i (by omega)
      go_wp2_with fail
      go_loopw [6] (fun q wz => ∃ k : Nat, k ≤ n ∧ q = .int .i64 k ∧ Hid (RX w wz n)) (fun q _ => n - (intOf q).toNat)
      case atStart => exact ⟨0, Nat.zero_le _, rfl, R⟩
      case round =>
        clear R hcs
        obtain ⟨k, hkn, rfl, R⟩ := hrel
        by_cases hk2 : k < n
        · have hcs := hc0.out _ R.out.bel
          obtain ⟨m, rk⟩ := R.out.row k hk2
          have rf := R.out.fr k hk2
          have hks : k < s.size := by omega
          obtain ⟨c, hc⟩ : ∃ c, s[k] = c := ⟨_, rfl⟩
          have hml := m.toNat_lt
          have hcl := c.toNat_lt
          have R2 := Lib.hid (R.out.set hk2 c)
          have HB := Lib.hid R.out.bel
          cases t63 : ((m.toNat : Int) == 63) with
          | true =>
            cases u63 : ((c.toNat : Int) != 63) with
            | true =>
              go_wp2_with fail
              exact ⟨⟨k + 1, by omega, by go_num, R2⟩, by simp [intOf]; omega⟩
            | false =>
              go_wp2_with fail
              exact ⟨⟨k + 1, by omega, by go_num, R2⟩, by simp [intOf]; omega⟩
          | false =>
            cases u63 : ((c.toNat : Int) != 63) with
            | false =>
              go_wp2_with fail
              exact ⟨⟨k + 1, by omega, by go_num, R⟩, by simp [intOf]; omega⟩
            | true =>
              cases v : ((c.toNat : Int) != (m.toNat : Int)) with
              | false =>
                go_wp2_with fail
                exact ⟨⟨k + 1, by omega, by go_num, R⟩, by simp [intOf]; omega⟩
              | true =>
                go_wp2_with fail
                go_ret2
                exact ⟨rfl, HB.out⟩
        · obtain rfl : k = n := by omega
          go_wp2_with fail
          exact ⟨⟨i + 1, by omega, by omega, by go_num, R⟩, by simp [intOf]; omega⟩
theorem sameSz_not {ts : List ByteArray} (h : sameSz ts = false) : ∃ d, 0 < d ∧ d < ts.length ∧ (ts.getD d ByteArray.empty).size ≠ (ts.getD 0 ByteArray.empty).size ∧ ∀ j, j < d → (ts.getD j ByteArray.empty).size = (ts.getD 0 ByteArray.empty).size := by
  have hex : ∃ d, d < ts.length ∧ (ts.getD d ByteArray.empty).size ≠ (ts.getD 0 ByteArray.empty).size := by
    obtain ⟨s, hs1, hs2⟩ := List.all_eq_false.1 h
    obtain ⟨d, hd, hd2⟩ := List.getElem_of_mem hs1
    refine ⟨d, hd, fun e => hs2 (beq_iff_eq.2 ?_)⟩
    rw [← e, List.getD, List.getElem?_eq_getElem hd]
    show s.size = ts[d].size
    rw [hd2]
  have hmin : ∀ n d, d ≤ n → d < ts.length → (ts.getD d ByteArray.empty).size ≠ (ts.getD 0 ByteArray.empty).size → ∃ d, d < ts.length ∧ (ts.getD d ByteArray.empty).size ≠ (ts.getD 0 ByteArray.empty).size ∧ ∀ j, j < d → (ts.getD j ByteArray.empty).size = (ts.getD 0 ByteArray.empty).size := by
    intro n
    induction n with
    | zero =>
      intro d hd h1 h2
      obtain rfl : d = 0 := by omega
      exact absurd rfl h2
    | succ n ih =>
      intro d hd h1 h2
      by_cases hj : ∃ j, j < d ∧ (ts.getD j ByteArray.empty).size ≠ (ts.getD 0 ByteArray.empty).size
      · obtain ⟨j, h3, h4⟩ := hj
        exact ih j (by omega) (by omega) h4
      · refine ⟨d, h1, h2, fun j h3 => ?_⟩
        by_cases e : (ts.getD j ByteArray.empty).size = (ts.getD 0 ByteArray.empty).size
        · exact e
        · exact absurd ⟨j, h3, e⟩ hj
  obtain ⟨d, h1, h2⟩ := hex
  obtain ⟨d, h3, h4, h5⟩ := hmin d d (Nat.le_refl _) h1 h2
  refine ⟨d, ?_, h3, h4, h5⟩
  rcases Nat.eq_zero_or_pos d with h | h
  · subst h; exact absurd rfl h4
  · exact h
/-- The reference's Overlay. -/
theorem rOverlay (p : Option Addr) (cap : Nat) (ts : List ByteArray) (w : World) (hts : ts.length ≤ 1000000) (hk : ∀ j, j < ts.length → (ts.getD j ByteArray.empty).size ≤ 1000000) (hp : StrsAt w p ts) :
    Calls Tryz.prog 51 #[.slice p ts.length cap] w fun e w' => e = .returned (ovRes ts) ∧ Below w.heap.size w w' := by
  by_cases h0 : ts = []
  · subst h0
    refine (rOverlay_none p cap w).mono ?_
    rintro e w' ⟨rfl, rfl⟩
    exact ⟨by rw [ovRes, if_pos rfl], Below.refl _ _⟩
  · have hl : 0 < ts.length := List.length_pos_iff.2 h0
    cases hs : sameSz ts with
    | true =>
      have hR : ovRes ts = ovVal ts (ts.getD 0 ByteArray.empty).size := by rw [ovRes, if_neg h0, if_pos hs]
      rw [hR]
      exact rOverlay_same p cap _ ts w hl hts (hk 0 hl) (fun j hj => by
        have := List.all_eq_true.1 hs _ (getD_mem hj)
        exact eq_of_beq this) hp
    | false =>
      have hR : ovRes ts = .tuple #[.string ⟨#[]⟩, .bool false] := by rw [ovRes, if_neg h0, if_neg (by rw [hs]; decide)]
      rw [hR]
      obtain ⟨d, h1, h2, h3, h4⟩ := sameSz_not hs
      exact rOverlay_diff p cap _ d ts w h1 h2 hts (hk 0 hl) h4 h3 (hk d h2) hp
end Go.Proofs.YtmfhpddeclggfaaGreatDoor

namespace Go.Proofs.YtmfhpddeclggfaaGreatDoor
open Go.RowKit
theorem lastB_mem (l : List UInt8) : lastB l ≠ 63 → lastB l ∈ l := by
  induction l using snoc_ind with
  | h0 => intro h; exact absurd rfl h
  | h1 l c ih =>
    rw [lastB_snoc]
    by_cases h : c = 63
    · rw [if_pos h]; intro h2; exact List.mem_append_left _ (ih h2)
    · rw [if_neg h]; intro _; exact List.mem_append_right _ (List.mem_singleton.2 rfl)
theorem lastB_char {l : List UInt8} {a : UInt8} (h : ∀ c ∈ l, c = 63 ∨ c = a) (ha : a = 63 ∨ a ∈ l) : lastB l = a := by
  by_cases h1 : lastB l = 63
  · rcases ha with h2 | h2
    · rw [h1, h2]
    · rw [h1, lastB_63 l h1 a h2]
  · rcases h _ (lastB_mem l h1) with h2 | h2
    · exact absurd h2 h1
    · exact h2
/-- What a column shows is a matter of its bytes, not of their order. -/
theorem one_perm {l r : List UInt8} (hm : ∀ c, c ∈ l ↔ c ∈ r) (h : oneB l = true) : oneB r = true ∧ lastB r = lastB l := by
  have h1 := (oneB_iff l).1 h
  have h2 : ∀ c ∈ r, c = 63 ∨ c = lastB l := fun c hc => h1 c ((hm c).2 hc)
  have h3 : lastB r = lastB l := lastB_char h2 (by
    by_cases e : lastB l = 63
    · exact Or.inl e
    · exact Or.inr ((hm _).1 (lastB_mem l e)))
  exact ⟨(oneB_iff r).2 (by rw [h3]; exact h2), h3⟩
theorem one_perm_eq {l r : List UInt8} (hm : ∀ c, c ∈ l ↔ c ∈ r) : oneB l = oneB r := by
  cases h : oneB l with
  | true => exact (one_perm hm h).1.symm
  | false =>
    cases h2 : oneB r with
    | false => rfl
    | true => rw [(one_perm (fun c => (hm c).symm) h2).1] at h; cases h
theorem colOf_rev (ts : List ByteArray) (k c) : c ∈ colOf ts k ↔ c ∈ colOf ts.reverse k := by simp [colOf]
theorem ovVal_rev (ts : List ByteArray) (n : Nat) : ovVal ts.reverse n = ovVal ts n := by
  unfold ovVal
  have h1 : ∀ k, oneB (colOf ts.reverse k) = oneB (colOf ts k) := fun k => (one_perm_eq (colOf_rev ts k)).symm
  have h2 : (List.range n).all (fun k => oneB (colOf ts.reverse k)) = (List.range n).all (fun k => oneB (colOf ts k)) := by
    congr 1; funext k; exact h1 k
  rw [h2]
  by_cases h : (List.range n).all (fun k => oneB (colOf ts k)) = true
  · rw [if_pos h, if_pos h]
    congr 4
    have : (List.range n).map (fun k => lastB (colOf ts.reverse k)) = (List.range n).map (fun k => lastB (colOf ts k)) := by
      apply List.map_congr_left
      intro k hk
      exact (one_perm (colOf_rev ts k) (List.all_eq_true.1 h k hk)).2
    rw [this]
  · rw [if_neg h, if_neg h]
theorem sameSz_iff (ts : List ByteArray) : sameSz ts = true ↔ ∀ s ∈ ts, ∀ t ∈ ts, s.size = t.size := by
  unfold sameSz
  rw [List.all_eq_true]
  constructor
  · intro h s hs t ht
    rw [eq_of_beq (h s hs), eq_of_beq (h t ht)]
  · intro h s hs
    have hl : 0 < ts.length := List.length_pos_of_mem hs
    exact beq_iff_eq.2 (h s hs _ (getD_mem hl))
theorem ovRes_rev (ts : List ByteArray) : ovRes ts.reverse = ovRes ts := by
  by_cases h0 : ts = []
  · subst h0; rfl
  · have h0' : ts.reverse ≠ [] := by simpa using h0
    have hs : sameSz ts.reverse = sameSz ts := by
      have h1 := sameSz_iff ts
      have h2 := sameSz_iff ts.reverse
      simp only [List.mem_reverse] at h2
      cases h3 : sameSz ts with
      | true => exact h2.2 (h1.1 h3)
      | false =>
        cases h4 : sameSz ts.reverse with
        | false => rfl
        | true => rw [h1.2 (h2.1 h4)] at h3; cases h3
    unfold ovRes
    rw [if_neg h0, if_neg h0', hs]
    by_cases h : sameSz ts = true
    · rw [if_pos h, if_pos h, ovVal_rev]
      have hl : 0 < ts.length := List.length_pos_iff.2 h0
      have hl' : 0 < ts.reverse.length := List.length_pos_iff.2 h0'
      rw [(sameSz_iff ts).1 h _ (List.mem_reverse.1 (getD_mem hl')) _ (getD_mem hl)]
    · rw [if_neg h, if_neg h]
/-- The line that texts show, laid over one of them, stays. -/
theorem over_one (col : List UInt8) (t : UInt8) (h : oneB col = true) (ht : t ∈ col) : oneB [lastB col, t] = true ∧ lastB [lastB col, t] = lastB col := by
  have h1 := (oneB_iff col).1 h
  have h2 : ∀ c ∈ [lastB col, t], c = 63 ∨ c = lastB col := by
    intro c hc
    rcases List.mem_cons.1 hc with e | e
    · exact Or.inr e
    · rw [List.mem_singleton.1 e]; exact h1 t ht
  have h3 : lastB [lastB col, t] = lastB col := lastB_char h2 (Or.inr List.mem_cons_self)
  exact ⟨(oneB_iff _).2 (by rw [h3]; exact h2), h3⟩
theorem over_again (ts : List ByteArray) (n : Nat) (hn : ∀ s ∈ ts, s.size = n) (h : (List.range n).all (fun k => oneB (colOf ts k)) = true) (t : ByteArray) (ht : t ∈ ts) :
    ovRes [bs ((List.range n).map fun k => lastB (colOf ts k)), t] = .tuple #[.string (bs ((List.range n).map fun k => lastB (colOf ts k))), .bool true] := by
  obtain ⟨X, hX⟩ : ∃ X, bs ((List.range n).map fun k => lastB (colOf ts k)) = X := ⟨_, rfl⟩
  have hXd : X.data.toList = (List.range n).map fun k => lastB (colOf ts k) := by rw [← hX]; exact bs_list _
  have hXs : X.size = n := by rw [← hX, bs_size]; simp
  rw [hX]
  have hcol : ∀ k, k < n → colOf [X, t] k = [lastB (colOf ts k), t.data.toList.getD k 0] := fun k hk => by
    simp only [colOf, List.map_cons, List.map_nil, hXd]
    rw [List.getD, List.getElem?_map, List.getElem?_range hk]
    rfl
  have hone : ∀ k, k < n → oneB (colOf [X, t] k) = true ∧ lastB (colOf [X, t] k) = lastB (colOf ts k) := fun k hk => by
    rw [hcol k hk]
    exact over_one _ _ (List.all_eq_true.1 h k (List.mem_range.2 hk)) (by unfold colOf; exact List.mem_map.2 ⟨t, ht, rfl⟩)
  have hss : sameSz [X, t] = true := by
    rw [sameSz_iff]
    have hall : ∀ s ∈ [X, t], s.size = n := fun s hs => by
      rcases List.mem_cons.1 hs with e | e
      · rw [e, hXs]
      · rw [List.mem_singleton.1 e, hn t ht]
    intro a ha b hb
    rw [hall a ha, hall b hb]
  unfold ovRes
  rw [if_neg (by simp), if_pos hss]
  show ovVal [X, t] X.size = _
  rw [hXs]
  unfold ovVal
  rw [if_pos (List.all_eq_true.2 fun k hk => (hone k (List.mem_range.1 hk)).1)]
  have : (List.range n).map (fun k => lastB (colOf [X, t] k)) = (List.range n).map (fun k => lastB (colOf ts k)) := by
    apply List.map_congr_left
    intro k hk
    exact (hone k (List.mem_range.1 hk)).2
  rw [this, hX]
end Go.Proofs.YtmfhpddeclggfaaGreatDoor

namespace Go.Proofs.YtmfhpddeclggfaaGreatDoor
open Go.RowKit
/-! The law of overlays. -/
theorem sumL_le : ∀ (ts : List ByteArray) (B : Nat), (∀ s ∈ ts, s.size ≤ B) → sumL ts ≤ ((ts.length * B : Nat) : Int)
  | [], B, _ => by simp [sumL]
  | t :: ts, B, h => by
    have ih := sumL_le ts B (fun s hs => h s (List.mem_cons_of_mem _ hs))
    have h1 := h t List.mem_cons_self
    unfold sumL at ih ⊢
    simp only [List.map_cons, List.sum_cons, List.length_cons, Nat.add_mul]
    omega
theorem le_sumL : ∀ (ts : List ByteArray) (s : ByteArray), s ∈ ts → (s.size : Int) ≤ sumL ts
  | t :: ts, s, h => by
    unfold sumL
    simp only [List.map_cons, List.sum_cons]
    rcases List.mem_cons.1 h with rfl | h
    · omega
    · have := le_sumL ts s h
      unfold sumL at this
      omega
abbrev strsV (l : List ByteArray) : List Value := l.map Value.string
theorem inf9 : (Tryz.prog.info? 9).map (fun i => (i.zero, i.size, i.bytes)) = some (some (.string ⟨#[]⟩), 1, 16) := by kernel_rfl
theorem strs_own {W : World} {B : Nat} {v : Value} {l : List ByteArray} (h : W.ownsRow B 9 1 v l.length (strsV l)) : ∃ q cap, v = .slice q l.length cap ∧ StrsAt W q l := by
  obtain ⟨h1, ⟨rfl, h2⟩ | ⟨g, cap, cur, rfl, hg, hc, h3, h4, h5, h6⟩⟩ := h
  · exact ⟨none, 0, by rw [h2], .inl (List.length_eq_zero_iff.1 h2)⟩
  · refine ⟨some ⟨g, 0, none⟩, cap, rfl, .inr ⟨g, 0, rfl, (Array.getElem?_eq_some_iff.1 hc).1, fun j hj => ?_⟩⟩
    have g1 : (strsV l)[j]? = some (.string (l.getD j ByteArray.empty)) := by
      rw [strsV, List.getElem?_map, List.getD, List.getElem?_eq_getElem hj]; rfl
    rw [← h6, List.getElem?_take_of_lt (by omega)] at g1
    rw [Nat.zero_add]
    simpa [World.cell?, hc] using g1
end Go.Proofs.YtmfhpddeclggfaaGreatDoor

namespace Go.Proofs.YtmfhpddeclggfaaGreatDoor
open Go.RowKit
/-! Splitting at a byte: the reference's. -/
def spL (c : UInt8) : List UInt8 → List (List UInt8)
  | [] => [[]]
  | x :: l => if x = c then [] :: spL c l else match spL c l with
    | [] => [[x]]
    | p :: ps => (x :: p) :: ps
theorem spL_ne (c : UInt8) : ∀ l, spL c l ≠ []
  | [] => by simp [spL]
  | x :: l => by
    unfold spL
    by_cases h : x = c
    · simp [h]
    · rw [if_neg h]
      cases spL c l <;> simp
theorem spL_none {c : UInt8} : ∀ {p : List UInt8}, (∀ x ∈ p, x ≠ c) → spL c p = [p]
  | [], _ => rfl
  | x :: p, h => by
    unfold spL
    rw [if_neg (h x List.mem_cons_self), spL_none (fun y hy => h y (List.mem_cons_of_mem _ hy))]
theorem spL_cut {c : UInt8} : ∀ {p : List UInt8} (r : List UInt8), (∀ x ∈ p, x ≠ c) → spL c (p ++ c :: r) = p :: spL c r
  | [], r, _ => by simp [spL]
  | x :: p, r, h => by
    rw [List.cons_append]
    show (if x = c then [] :: spL c (p ++ c :: r) else match spL c (p ++ c :: r) with
      | [] => [[x]]
      | q :: ps => (x :: q) :: ps) = (x :: p) :: spL c r
    rw [if_neg (h x List.mem_cons_self), spL_cut r (fun y hy => h y (List.mem_cons_of_mem _ hy))]
/-- Where the walk stands: what is cut off, where the piece begins that is looked at. -/
def SpAt (s : ByteArray) (c : UInt8) (ps : List ByteArray) (f k : Nat) : Prop :=
  f ≤ k ∧ k ≤ s.size ∧ spL c s.data.toList = ps.map (·.data.toList) ++ spL c (s.data.toList.drop f) ∧ ∀ x ∈ (s.data.toList.drop f).take (k - f), x ≠ c
theorem SpAt.start (s : ByteArray) (c : UInt8) : SpAt s c [] 0 0 := ⟨Nat.le_refl _, Nat.zero_le _, by simp, by simp⟩
theorem drop_split (l : List UInt8) (f k : Nat) (hf : f ≤ k) (hk : k < l.length) : l.drop f = (l.drop f).take (k - f) ++ l[k] :: l.drop (k + 1) := by
  conv => lhs; rw [← List.take_append_drop (k - f) (l.drop f)]
  rw [List.drop_drop, show f + (k - f) = k from by omega, ← List.getElem_cons_drop hk]
theorem SpAt.cut {s : ByteArray} {c : UInt8} {ps : List ByteArray} {f k : Nat} (h : SpAt s c ps f k) (hk : k < s.size) (e : s[k] = c) : SpAt s c (ps ++ [s.extract f k]) (k + 1) (k + 1) := by
  obtain ⟨h1, h2, h3, h4⟩ := h
  have hl : k < s.data.toList.length := by simpa using hk
  have e2 : s.data.toList[k] = c := by rw [← e]; have := at_list s k hk; rw [List.getElem?_eq_getElem hl] at this; exact Option.some.inj this
  refine ⟨Nat.le_refl _, hk, ?_, by simp⟩
  rw [h3, drop_split _ f k h1 hl, e2, spL_cut _ h4]
  simp [List.map_append]
theorem SpAt.go {s : ByteArray} {c : UInt8} {ps : List ByteArray} {f k : Nat} (h : SpAt s c ps f k) (hk : k < s.size) (e : s[k] ≠ c) : SpAt s c ps f (k + 1) := by
  obtain ⟨h1, h2, h3, h4⟩ := h
  have hl : k < s.data.toList.length := by simpa using hk
  have e2 : s.data.toList[k] = s[k] := by have := at_list s k hk; rw [List.getElem?_eq_getElem hl] at this; exact Option.some.inj this
  refine ⟨by omega, hk, h3, fun x hx => ?_⟩
  rw [show k + 1 - f = k - f + 1 from by omega, List.take_succ_eq_append_getElem (by rw [List.length_drop]; omega)] at hx
  rcases List.mem_append.1 hx with h | h
  · exact h4 x h
  · obtain rfl := List.mem_singleton.1 h
    rw [List.getElem_drop]
    have : s.data.toList[f + (k - f)]'(by omega) = s[k] := by rw [← e2]; congr 1; omega
    rw [this]; exact e
theorem SpAt.done {s : ByteArray} {c : UInt8} {ps : List ByteArray} {f : Nat} (h : SpAt s c ps f s.size) : (ps ++ [s.extract f s.size]).map (·.data.toList) = spL c s.data.toList := by
  obtain ⟨h1, h2, h3, h4⟩ := h
  rw [List.take_of_length_le (by simp)] at h4
  rw [h3, spL_none h4, List.map_append]
  have e : (s.extract f s.size).data.toList = s.data.toList.drop f := Lib.extract_to_end s f
  simp only [List.map_cons, List.map_nil, e]
theorem SpAt.len {s : ByteArray} {c : UInt8} {ps : List ByteArray} {f k : Nat} (h : SpAt s c ps f k) : ps.length ≤ s.size := by
  have hl : ∀ l : List UInt8, (spL c l).length ≤ l.length + 1 := fun l => by
    induction l with
    | nil => simp [spL]
    | cons x l ih =>
      unfold spL
      by_cases hx : x = c
      · rw [if_pos hx]; simp; omega
      · rw [if_neg hx]
        cases hp : spL c l with
        | nil => simp
        | cons p q => rw [hp] at ih; simp at ih ⊢; omega
  obtain ⟨h1, h2, h3, h4⟩ := h
  have := hl s.data.toList
  rw [h3, List.length_append, List.length_map] at this
  have h5 : 0 < (spL c (s.data.toList.drop f)).length := List.length_pos_iff.2 (spL_ne c _)
  simp at this
  omega
set_option maxRecDepth 100000 in
set_option maxHeartbeats 4000000 in
theorem rSplit (s : ByteArray) (c : UInt8) (w : World) (hs : s.size ≤ 1000000) :
    Calls Tryz.prog 100 #[.string s, .int .u8 (c.toNat : Int)] w fun e w' => ∃ (ps : List ByteArray) (v : Value), e = .returned v ∧ w'.ownsRow w.heap.size 9 1 v ps.length (strsV ps) ∧ Below w.heap.size w w' ∧ Hid (ps.map (·.data.toList) = spL c s.data.toList) := by
  have HS := Lib.hid hs
  obtain ⟨i0, hi, hz0, hz1, hz4⟩ := info_parts inf9
  go_enter Tryz.func100, Tryz.ntmps100
  go_wp2_with fail
  go_loopw [5, 6, 7] (fun v f i wr => ∃ (k g : Nat) (ps : List ByteArray), i = .int .i64 k ∧ f = .int .i64 g ∧ Hid (SpAt s c ps g k) ∧ Hid (wr.ownsRow w.heap.size 9 1 v ps.length (strsV ps)) ∧ Hid (Below w.heap.size w wr)) (fun _ _ i _ => s.size - (intOf i).toNat)
  case atStart => exact ⟨0, 0, [], rfl, rfl, SpAt.start s c, World.ownsRow_nil _ _ _ _, Below.refl _ _⟩
  case round =>
    obtain ⟨k, g, ps, rfl, rfl, P, O, B⟩ := hrel
    have hgk := P.out.1
    have hks := P.out.2.1
    by_cases hlt : k < s.size
    · by_cases he : s[k] = c
      · have h3 : ((s[k].toNat : Int) == (c.toNat : Int)) = true := by rw [he]; simp
        have P1 := Lib.hid (P.out.cut hlt he)
        have hpl : ps.length ≤ 1000000 := by have := P.out.len; omega
        have HNW : Hid (∀ j u, ([.string (s.extract g k)] : List Value)[j]? = some u → (wr.alloc (.cells #[.string (s.extract g k)] 9)).cell? ((⟨wr.heap.size, 0, none⟩ : Addr).add j) = some u) := cells_new wr #[.string (s.extract g k)] 9
        have HK1 : Hid (ps.length + 1 ≤ maxLen) := by unfold Hid maxLen; omega
        have HK2 : Hid ((ps.length + 1) * 16 ≤ 140737488355328) := by unfold Hid; omega
        have HK3 : Hid (w.heap.size ≤ (wr.alloc (.cells #[.string (s.extract g k)] 9)).heap.size) := by have := B.out.size; unfold Hid; simp; omega
        clear he P hpl
        go_wp2_with (at_builtin; refine wpList_append_own _ rfl (.tmp 19) (.tmp 24) 37 rfl w.heap.size 9 i0 (.string ⟨#[]⟩) 1 16 Tryz.underlying37 hi hz0 hz1 hz4 rfl (by decide) u5 ps.length (strsV ps) rfl (O.out.alloc _) ⟨wr.heap.size, 0, none⟩ 1 1 [.string (s.extract g k)] rfl rfl HNW.out (by simp [Value.oneCell']) HK1.out HK2.out HK3.out ?_; intro v' w4 hown hgrow _)
        refine ⟨⟨k + 1, k + 1, ps ++ [s.extract g k], by go_num, by go_num, P1, ?_, ?_⟩, by simp [intOf]; omega⟩
        · rw [List.length_append, strsV, List.map_append]
          exact hown
        · exact (B.out.alloc B.out.size _).grown hgrow HK3.out (fun g hg => (O.out.lt g hg).1)
      · have h3 : ((s[k].toNat : Int) == (c.toNat : Int)) = false := by rw [beq_eq_false_iff_ne]; exact fun e => he (u8_eq (by omega))
        have P1 := Lib.hid (P.out.go hlt he)
        clear he P
        go_wp2_with fail
        exact ⟨⟨k + 1, g, ps, by go_num, rfl, P1, O, B⟩, by simp [intOf]; omega⟩
    · obtain rfl : k = s.size := by omega
      have P1 := Lib.hid P.out.done
      have hpl : ps.length ≤ 1000000 := by have := P.out.len; omega
      have HNW : Hid (∀ j u, ([.string (s.extract g s.size)] : List Value)[j]? = some u → (wr.alloc (.cells #[.string (s.extract g s.size)] 9)).cell? ((⟨wr.heap.size, 0, none⟩ : Addr).add j) = some u) := cells_new wr #[.string (s.extract g s.size)] 9
      have HK1 : Hid (ps.length + 1 ≤ maxLen) := by unfold Hid maxLen; omega
      have HK2 : Hid ((ps.length + 1) * 16 ≤ 140737488355328) := by unfold Hid; omega
      have HK3 : Hid (w.heap.size ≤ (wr.alloc (.cells #[.string (s.extract g s.size)] 9)).heap.size) := by have := B.out.size; unfold Hid; simp; omega
      clear P hpl
      go_wp2_with (at_builtin; refine wpList_append_own _ rfl (.tmp 28) (.tmp 32) 37 rfl w.heap.size 9 i0 (.string ⟨#[]⟩) 1 16 Tryz.underlying37 hi hz0 hz1 hz4 rfl (by decide) u5 ps.length (strsV ps) rfl (O.out.alloc _) ⟨wr.heap.size, 0, none⟩ 1 1 [.string (s.extract g s.size)] rfl rfl HNW.out (by simp [Value.oneCell']) HK1.out HK2.out HK3.out ?_; intro v' w4 hown hgrow _)
      go_ret
      refine ⟨ps ++ [s.extract g s.size], v', rfl, ?_, ?_, P1⟩
      · rw [List.length_append, strsV, List.map_append]
        exact hown
      · exact (B.out.alloc B.out.size _).grown hgrow HK3.out (fun g hg => (O.out.lt g hg).1)
end Go.Proofs.YtmfhpddeclggfaaGreatDoor

namespace Go.Proofs.YtmfhpddeclggfaaGreatDoor
open Go Go.RowKit
/-! What the reference takes for a line. -/
theorem join_spL : ∀ (ps : List (List UInt8)) (p : List UInt8), NoSp p → (∀ q ∈ ps, NoSp q) → spL 32 (joinS p ps) = p :: ps
  | [], p, hp, _ => by
    have e : joinS p [] = p := by simp [joinS]
    rw [e]; exact spL_none hp
  | q :: qs, p, hp, hq => by
    have e : joinS p (q :: qs) = p ++ 32 :: joinS q qs := by simp [joinS]
    rw [e, spL_cut _ hp, join_spL qs q (hq q List.mem_cons_self) (fun x hx => hq x (List.mem_cons_of_mem _ hx))]
theorem spL_join (c : UInt8) : ∀ (l : List UInt8), ∃ p ps, spL c l = p :: ps ∧ l = p ++ ps.flatMap (c :: ·)
  | [] => ⟨[], [], rfl, rfl⟩
  | x :: l => by
    obtain ⟨p, ps, h1, h2⟩ := spL_join c l
    unfold spL
    by_cases h : x = c
    · rw [if_pos h]
      exact ⟨[], spL c l, rfl, by rw [h1, h]; simp [← h2]⟩
    · rw [if_neg h, h1]
      exact ⟨x :: p, ps, rfl, by rw [h2]; rfl⟩
/-- The shape of a line's text, without its check: the head, a blank, four bytes. -/
def Shp (s : ByteArray) (n : Int) (ws : List ByteArray) : Prop := lineErr n ws = 0 ∧ 5 ≤ s.size ∧ s.data.toList.take (s.size - 4) = headL n ws ++ [32]
theorem headL_len (n : Int) (ws : List ByteArray) : 1 ≤ (headL n ws).length := by simp [headL]
theorem shp_body {s : ByteArray} {n : Int} {ws : List ByteArray} (h : Shp s n ws) : lineN s = n ∧ lineWs s = ws ∧ splitOk s = true ∧ sameHead s = true := by
  obtain ⟨h1, h2, h3⟩ := h
  obtain ⟨n1, n2, hl, hw⟩ := lineErr_ok h1
  have hb : (bodyOf s).data.toList = headL n ws ++ [32] := by unfold bodyOf; rw [Lib.extract_from_zero]; exact h3
  have hsuf : Lib.hasSuffix (headL n ws ++ [32]) [32] = true := by
    unfold Lib.hasSuffix
    rw [List.isSuffixOf_iff_suffix]
    exact ⟨_, rfl⟩
  have t2 : hasSp s = true := by unfold hasSp; rw [hb]; exact hsuf
  have t1 : trimmed s = bs (headL n ws) := by
    unfold trimmed
    rw [hb]
    unfold Lib.trimSuffix
    rw [if_pos hsuf]
    show (⟨((headL n ws ++ [32]).take ((headL n ws ++ [32]).length - 1)).toArray⟩ : ByteArray) = _
    rw [List.length_append, show (headL n ws).length + [(32 : UInt8)].length - 1 = (headL n ws).length from by simp, List.take_left' rfl]
    rfl
  have hp := parts_line n ws (words_wsOk hw) hl
  have h64 : Lib.hasPrefix (64 :: Lib.itoa n) [64] = true := by simp [Lib.hasPrefix, List.isPrefixOf]
  have hrd := rdInt_itoa n (by omega) (by omega)
  have p0 : partN s 0 = bs (64 :: Lib.itoa n) := by unfold partN; rw [t1, hp]; rfl
  have e1 : lineN s = n := by
    unfold lineN mkN
    rw [p0, bs_list, mk64_at, hrd]; rfl
  have e2 : lineWs s = ws := by unfold lineWs; rw [t1, hp]; rfl
  refine ⟨e1, e2, ?_, ?_⟩
  · unfold splitOk mkOk
    rw [p0, t1, t2, hp, bs_list, mk64_at, hrd, h64]
    simp
    omega
  · unfold sameHead headOf again
    rw [e1, e2]
    have a1 : ((bs (lineT n ws)).extract 0 ((bs (lineT n ws)).size - 4)).data.toList = headL n ws ++ [32] := body_line n ws
    have a2 : (s.extract 0 (s.size - 4)).data.toList = headL n ws ++ [32] := hb
    exact str_beq_true (by rw [a1, a2])
theorem shp_of {s : ByteArray} (h1 : splitOk s = true) (h2 : lineErr (lineN s) (lineWs s) = 0) (h3 : sameHead s = true) : Shp s (lineN s) (lineWs s) := by
  have h4 : 4 ≤ s.size := by
    unfold splitOk at h1
    rw [Bool.and_eq_true] at h1
    exact of_decide_eq_true h1.1
  have e := toList_eq h3
  have e2 := congrArg (fun b : ByteArray => b.data.toList) e
  have a1 : (headOf (again s)).data.toList = headL (lineN s) (lineWs s) ++ [32] := body_line _ _
  have a2 : (headOf s).data.toList = s.data.toList.take (s.size - 4) := by unfold headOf; exact Lib.extract_from_zero _ _
  simp only [a1, a2] at e2
  refine ⟨h2, ?_, e2.symm⟩
  have := congrArg List.length e2
  rw [List.length_append, List.length_take, ← Lib.size_eq] at this
  have := headL_len (lineN s) (lineWs s)
  simp at *
  omega
/-- The program's error, by the shape. -/
theorem readErr_shp {s : ByteArray} {n : Int} {ws : List ByteArray} (h : Shp s n ws) : readErr s = if bs (lineT n ws) = s then 0 else 11 := by
  obtain ⟨e1, e2, e3, e4⟩ := shp_body h
  unfold readErr
  rw [e3, e4, e1, e2, h.1]
  have : again s = bs (lineT n ws) := by unfold again; rw [e1, e2]
  rw [this]
  by_cases hb : bs (lineT n ws) = s
  · rw [if_pos hb, hb]; simp
  · have h9 : ¬ ((bs (lineT n ws)).toList == s.toList) = true := fun e => hb (toList_eq e)
    rw [if_neg hb]
    simp [h9]
theorem readErr_no {s : ByteArray} (h : ∀ n ws, ¬ Shp s n ws) : readErr s = 7 := by
  unfold readErr
  by_cases h1 : splitOk s = false
  · rw [if_pos h1]
  · rw [if_neg h1]
    by_cases h2 : lineErr (lineN s) (lineWs s) ≠ 0
    · rw [if_pos h2]
    · rw [if_neg h2]
      by_cases h3 : sameHead s = false
      · rw [if_pos h3]
      · exact absurd (shp_of (by simpa using h1) (by simpa using h2) (by simpa using h3)) (h _ _)
/-- The piece that the reference splits. -/
def midOf (s : ByteArray) : ByteArray := s.extract 1 (s.size - 5)
theorem mid_data (s : ByteArray) : (midOf s).data.toList = (s.data.toList.take (s.size - 5)).drop 1 := by
  unfold midOf
  rw [Lib.extract_data, ← List.drop_take]
theorem shp_take {s : ByteArray} {n : Int} {ws : List ByteArray} (h : Shp s n ws) : s.data.toList.take (s.size - 5) = headL n ws ∧ s.data.toList[s.size - 5]? = some 32 := by
  obtain ⟨h1, h2, h3⟩ := h
  have hl := congrArg List.length h3
  rw [List.length_append, List.length_take, ← Lib.size_eq] at hl
  have hl2 : (headL n ws).length = s.size - 5 := by simp at hl; omega
  constructor
  · have := congrArg (List.take (s.size - 5)) h3
    rw [List.take_take, Nat.min_eq_left (by omega), ← hl2, List.take_left' rfl] at this
    rw [← hl2]; exact this
  · have := congrArg (fun l => l[s.size - 5]?) h3
    rw [List.getElem?_take_of_lt (by omega), ← hl2, List.getElem?_append_right (by omega)] at this
    rw [← hl2]
    simpa using this
theorem shp_parts {s : ByteArray} {n : Int} {ws : List ByteArray} (h : Shp s n ws) : 5 ≤ s.size ∧ s.data.toList[0]? = some 64 ∧ s.data.toList[s.size - 5]? = some 32 ∧ ∀ ps : List ByteArray, ps.map (·.data.toList) = spL 32 (midOf s).data.toList → ps = bs (Lib.itoa n) :: bs (Lib.itoa ws.length) :: ws := by
  obtain ⟨t1, t2⟩ := shp_take h
  obtain ⟨-, -, hl, hw⟩ := lineErr_ok h.1
  have e : headL n ws = 64 :: joinS (Lib.itoa n) (Lib.itoa ws.length :: ws.map (·.data.toList)) := by rw [headL_join]; rfl
  have hlen : 0 < s.size - 5 := by
    have h5 := congrArg List.length t1
    have h6 := headL_len n ws
    rw [List.length_take, ← Lib.size_eq] at h5
    omega
  refine ⟨h.2.1, ?_, t2, fun ps hps => map_data_inj ?_⟩
  · have := congrArg (fun l => l[0]?) t1
    rw [List.getElem?_take_of_lt hlen, e] at this
    exact this
  · rw [hps, mid_data, t1, e]
    show spL 32 (joinS _ _) = _
    rw [join_spL _ _ (itoa_noSp n)]
    · rfl
    · intro q hq
      rcases List.mem_cons.1 hq with rfl | hq
      · exact itoa_noSp _
      · obtain ⟨x, hx, rfl⟩ := List.mem_map.1 hq
        exact words_wsOk hw x hx
theorem shp_mk {s : ByteArray} {n k : Int} {p0 p1 : ByteArray} {ws : List ByteArray} (h5 : 5 ≤ s.size) (h0 : s.data.toList[0]? = some 64) (h32 : s.data.toList[s.size - 5]? = some 32) (hps : (p0 :: p1 :: ws).map (·.data.toList) = spL 32 (midOf s).data.toList)
    (hn : bs (Lib.itoa n) = p0) (hk : bs (Lib.itoa k) = p1) (hl : k = ws.length) (he : lineErr n ws = 0) : Shp s n ws := by
  obtain ⟨p, ps, g1, g2⟩ := spL_join 32 (midOf s).data.toList
  rw [g1] at hps
  simp only [List.map_cons, List.cons.injEq] at hps
  obtain ⟨rfl, hps2⟩ := hps
  subst hl
  have hsz : s.size = s.data.toList.length := Lib.size_eq s
  have hpos : 0 < s.size - 5 ∨ s.size - 5 = 0 := by omega
  have h6 : s.data.toList.take (s.size - 5) = headL n ws := by
    rw [mid_data] at g2
    have e0 : p0.data.toList = Lib.itoa n := by rw [← hn]; rfl
    have e1 : p1.data.toList = Lib.itoa ws.length := by rw [← hk]; rfl
    rw [← hps2, e0, e1] at g2
    have hne : s.data.toList.take (s.size - 5) ≠ [] := by
      intro hh
      rw [hh] at g2
      have : Lib.itoa n ≠ [] := fun hi => by
        have := (itoa_len n (by obtain ⟨a, b, -⟩ := lineErr_ok he; omega) (by obtain ⟨a, b, -⟩ := lineErr_ok he; omega)).1
        rw [hi] at this; simp at this
      cases hi : Lib.itoa n with
      | nil => exact this hi
      | cons x l => rw [hi] at g2; simp at g2
    cases ht : s.data.toList.take (s.size - 5) with
    | nil => exact absurd ht hne
    | cons x l =>
      have hx : x = 64 := by
        have := congrArg (fun l => l[0]?) ht
        have hlen : 0 < s.size - 5 := by
          have := congrArg List.length ht
          rw [List.length_take] at this
          simp at this; omega
        rw [List.getElem?_take_of_lt hlen, h0] at this
        simpa using this.symm
      rw [ht] at g2
      subst hx
      have g3 : l = Lib.itoa n ++ (Lib.itoa ws.length :: ws.map (·.data.toList)).flatMap (32 :: ·) := by simpa using g2
      rw [g3, headL_join]
      rfl
  refine ⟨he, h5, ?_⟩
  rw [show s.size - 4 = s.size - 5 + 1 from by omega, List.take_add_one, h6, h32]
  rfl
end Go.Proofs.YtmfhpddeclggfaaGreatDoor

namespace Go.Proofs.YtmfhpddeclggfaaGreatDoor
open Go.RowKit
/-- What the reference's shaped returns. -/
def ShR (s : ByteArray) (w : World) (e : Ending) (w' : World) : Prop := Below w.heap.size w w' ∧ ((e = .returned (.tuple #[.agg #[.int .i64 0, .slice none 0 0], .bool false]) ∧ ∀ n ws, ¬ Shp s n ws) ∨
  ∃ (n : Int) (ws : List ByteArray) (q : Option Addr) (c : Nat), e = .returned (.tuple #[.agg #[.int .i64 n, .slice q ws.length c], .bool true]) ∧ Shp s n ws ∧ StrsAt w' q ws ∧ PFrom w.heap.size q)
theorem ShR.no {s : ByteArray} {w w' : World} (hb : Below w.heap.size w w') (h : ∀ n ws, ¬ Shp s n ws) : ShR s w (.returned (.tuple #[.agg #[.int .i64 0, .slice none 0 0], .bool false])) w' := ⟨hb, .inl ⟨rfl, h⟩⟩
theorem ShR.yes {s : ByteArray} {w w' : World} {n : Int} {ws : List ByteArray} {q : Option Addr} {c : Nat} (hb : Below w.heap.size w w') (h : Shp s n ws) (hq : StrsAt w' q ws) (hf : PFrom w.heap.size q) : ShR s w (.returned (.tuple #[.agg #[.int .i64 n, .slice q ws.length c], .bool true])) w' := ⟨hb, .inr ⟨n, ws, q, c, rfl, h, hq, hf⟩⟩
set_option maxRecDepth 100000 in
set_option maxHeartbeats 4000000 in
theorem shaped_bad (s : ByteArray) (w : World) (hs : s.size ≤ 1000000) (h : s.size < 5 ∨ s.data.toList[0]? ≠ some 64 ∨ s.data.toList[s.size - 5]? ≠ some 32) : Calls Tryz.prog 95 #[.string s] w (ShR s w) := by
  have HNO : Hid (∀ n ws, ¬ Shp s n ws) := fun n ws hS => by
    obtain ⟨a, b, c, -⟩ := shp_parts hS
    rcases h with h | h | h
    · omega
    · exact h b
    · exact h c
  have Z := Lib.hid (ZC.mk0 w)
  have c0 := Z.out.c0
  have c1 := Z.out.c1
  have f0 := Z.out.f0
  have f1 := Z.out.f1
  by_cases h1 : (s.size : Int) < 5
  · clear h
    go_enter Tryz.func95, Tryz.ntmps95
    go_wp2_with fail
    refine bodyPost_ret (v := .tuple #[.agg #[.int .i64 0, .slice none 0 0], .bool false]) (by simp [results, Tryz.results95, go_sem]) rfl (ShR.no Z.out.bel HNO.out)
  · have h5 : 5 ≤ s.size := by omega
    have h00 : 0 < s.size := by omega
    by_cases h2 : s[0] = 64
    · have h3 : s[s.size - 5] ≠ 32 := by
        intro e
        rcases h with h | h | h
        · omega
        · exact h (by rw [at_list s 0 h00, h2])
        · exact h (by rw [at_list s (s.size - 5) (by omega), e])
      have e0 : ((s[0].toNat : Int) == 64) = true := by rw [h2]; rfl
      have e0' : ((s[0].toNat : Int) != 64) = false := by rw [h2]; rfl
      have e1 : ((s[s.size - 5].toNat : Int) == 32) = false := by rw [beq_eq_false_iff_ne]; exact fun e => h3 (u8_eq (by simpa using (by omega : s[s.size - 5].toNat = 32)))
      have e1' : ((s[s.size - 5].toNat : Int) != 32) = true := by rw [bne, e1]; rfl
      have g1 : ((s.size : Int) - 5).toNat = s.size - 5 := by omega
      have g2 : (s.size : Int) - 5 < (s.size : Int) := by omega
      have g3 : (0 : Int) ≤ (s.size : Int) - 5 := by omega
      clear h h2 h3
      go_enter Tryz.func95, Tryz.ntmps95
      go_wp2_with fail
      refine bodyPost_ret (v := .tuple #[.agg #[.int .i64 0, .slice none 0 0], .bool false]) (by simp [results, Tryz.results95, go_sem]) rfl (ShR.no Z.out.bel HNO.out)
    · have e0 : ((s[0].toNat : Int) == 64) = false := by rw [beq_eq_false_iff_ne]; exact fun e => h2 (u8_eq (by simpa using (by omega : s[0].toNat = 64)))
      have e0' : ((s[0].toNat : Int) != 64) = true := by rw [bne, e0]; rfl
      clear h h2
      go_enter Tryz.func95, Tryz.ntmps95
      go_wp2_with fail
      refine bodyPost_ret (v := .tuple #[.agg #[.int .i64 0, .slice none 0 0], .bool false]) (by simp [results, Tryz.results95, go_sem]) rfl (ShR.no Z.out.bel HNO.out)
theorem spL_len (c : UInt8) : ∀ (l : List UInt8), ∀ p ∈ spL c l, p.length ≤ l.length
  | [], p, h => by simp [spL] at h; simp [h]
  | x :: l, p, h => by
    unfold spL at h
    have ih := spL_len c l
    by_cases hx : x = c
    · rw [if_pos hx] at h
      rcases List.mem_cons.1 h with rfl | h
      · simp
      · have := ih p h; simp; omega
    · rw [if_neg hx] at h
      cases hs : spL c l with
      | nil => rw [hs] at h; simp at h; simp [h]
      | cons q qs =>
        rw [hs] at h ih
        rcases List.mem_cons.1 h with rfl | h
        · have := ih q List.mem_cons_self; simp; omega
        · have := ih p (List.mem_cons_of_mem _ h); simp; omega
theorem own_from {W : World} {B : Nat} {q : Option Addr} {n k cap : Nat} {xs : List Value} (h : W.ownsRow B 9 1 (.slice q n cap) k xs) : PFrom B q := by
  intro a ha
  obtain ⟨-, ⟨h3, -⟩ | ⟨g, cap', cur, h3, hg, -⟩⟩ := h
  · injection h3 with e1 e2 e3; rw [e1] at ha; cases ha
  · injection h3 with e1 e2 e3; rw [e1] at ha; cases ha; exact hg
theorem pf_some {B b o : Nat} (h : B ≤ b) : PFrom B (some ⟨b, o, none⟩) := fun a e => by cases e; exact h
theorem strs_own2 {W : World} {B : Nat} {v : Value} {l : List ByteArray} (h : W.ownsRow B 9 1 v l.length (strsV l)) : ∃ q cap, v = .slice q l.length cap ∧ StrsAt W q l ∧ l.length ≤ cap ∧ cap ≤ maxLen := by
  obtain ⟨q, cap, e, hst⟩ := strs_own h
  refine ⟨q, cap, e, hst, ?_⟩
  obtain ⟨h1, ⟨h3, h2⟩ | ⟨g, cap', cur, h3, hg, hc, h4, h5, h6⟩⟩ := h
  · rw [e] at h3; injection h3 with e1 e2 e3; rw [h2, e3]; exact ⟨Nat.le_refl _, Nat.zero_le _⟩
  · rw [e] at h3; injection h3 with e1 e2 e3; rw [e3]; exact ⟨h4, h5⟩
theorem rdn_pair (s : ByteArray) : ∃ a e, Hid (rdNum s.data.toList = .agg #[.int .i64 a, .int .i64 e]) ∧ Hid (e = 0 → I64 a ∧ bs (Lib.itoa a) = s) ∧ Hid (∀ n : Int, I64 n → s = bs (Lib.itoa n) → e = 0 ∧ a = n) := by
  cases h : rdInt s.data.toList with
  | none =>
    refine ⟨0, 7, by unfold Hid rdNum; rw [h]; rfl, fun e => absurd e (by decide), fun n hn e => ?_⟩
    rw [e, bs_list, rdInt_itoa n hn.1 hn.2] at h
    cases h
  | some a =>
    obtain ⟨h1, h2, h3⟩ := rdInt_some h
    refine ⟨a, 0, by unfold Hid rdNum; rw [h]; rfl, fun _ => ⟨⟨h2, h3⟩, by rw [h1]; rfl⟩, fun n hn e => ?_⟩
    rw [e, bs_list, rdInt_itoa n hn.1 hn.2] at h
    exact ⟨rfl, (Option.some.inj h).symm⟩
theorem strs_set {W : World} {q : Option Addr} {vs : List ByteArray} {B : Nat} (h : StrsAt W q vs) (c0 : W.cell? ⟨B, 0, none⟩ = some (.int .i64 0)) (c1 : W.cell? ⟨B, 1, none⟩ = some (.slice none 0 0)) (x y : Value) : StrsAt ((W.setCell ⟨B, 0, none⟩ x).setCell ⟨B, 1, none⟩ y) q vs := by
  rcases h with h | ⟨b, o, e, hl, hc⟩
  · exact .inl h
  · refine .inr ⟨b, o, e, by simpa using hl, fun j hj => ?_⟩
    have hj2 := hc j hj
    have n0 : (⟨B, 0, none⟩ : Addr) ≠ ⟨b, o + j, none⟩ := fun e => by rw [← e, c0] at hj2; simp at hj2
    have n1 : (⟨B, 1, none⟩ : Addr) ≠ ⟨b, o + j, none⟩ := fun e => by rw [← e, c1] at hj2; simp at hj2
    rw [World.cell?_setCell_other _ _ _ _ n1, World.cell?_setCell_other _ _ _ _ n0]
    exact hj2
/-- What stands behind the line that the reference has taken. -/
structure RQ (w W : World) (g5 g6 g7 : Nat) (a0 r0 a1 r1 : Int) (q5 : Option Addr) (N c5 : Nat) (vs : List ByteArray) : Prop where
  z : ZC w W
  a : K2 W g5 (.int .i64 a0) (.int .i64 r0)
  b : K2 W g6 (.int .i64 a1) (.int .i64 r1)
  l : K2 W g7 (.int .i64 a0) (.slice q5 N c5)
  st : StrsAt W q5 vs
theorem rq_mk {w W3 : World} {g5 g6 : Nat} {a0 r0 a1 r1 : Int} {N : Nat} {vs : List ByteArray} (q5 : Option Addr) (c5 : Nat) (z : ZC w W3) (a : K2 W3 g5 (.int .i64 a0) (.int .i64 r0)) (b : K2 W3 g6 (.int .i64 a1) (.int .i64 r1)) (st : StrsAt W3 q5 vs) :
    RQ w (W3.alloc (.cells #[.int .i64 a0, .slice q5 N c5] 39)).drew g5 g6 W3.heap.size a0 r0 a1 r1 q5 N c5 vs := by
  have hb : Below W3.heap.size W3 (W3.alloc (.cells #[.int .i64 a0, .slice q5 N c5] 39)).drew := (below_alloc1 _ _).drew
  exact ⟨z.next hb, a.keep hb, b.keep hb, K2.new W3 _ _ 39, st.below hb⟩
set_option maxRecDepth 100000 in
set_option maxHeartbeats 8000000 in
theorem shaped_good (s : ByteArray) (w : World) (hs : s.size ≤ 1000000) (h5 : 5 ≤ s.size) (h0 : s.data.toList[0]? = some 64) (h32 : s.data.toList[s.size - 5]? = some 32) : Calls Tryz.prog 95 #[.string s] w (ShR s w) := by
  have HS := Lib.hid hs
  have H5 := Lib.hid h5
  have H0 := Lib.hid h0
  have H32 := Lib.hid h32
  have h00 : 0 < s.size := by omega
  have Z := Lib.hid (ZC.mk0 w)
  have h2 : s[0] = 64 := by rw [at_list s 0 h00] at h0; exact Option.some.inj h0
  have h3 : s[s.size - 5] = 32 := by rw [at_list s (s.size - 5) (by omega)] at h32; exact Option.some.inj h32
  have e0 : ((s[0].toNat : Int) == 64) = true := by rw [h2]; rfl
  have e0' : ((s[0].toNat : Int) != 64) = false := by rw [h2]; rfl
  have e1 : ((s[s.size - 5].toNat : Int) == 32) = true := by rw [h3]; rfl
  have e1' : ((s[s.size - 5].toNat : Int) != 32) = false := by rw [h3]; rfl
  have g1 : ((s.size : Int) - 5).toNat = s.size - 5 := by omega
  have g2 : (s.size : Int) - 5 < (s.size : Int) := by omega
  have g3 : (0 : Int) ≤ (s.size : Int) - 5 := by omega
  have h15 : (1 : Int) ≤ (s.size : Int) - 5 := by
    by_cases h6 : s.size = 5
    · rw [h6] at h32
      rw [h0] at h32
      exact absurd (Option.some.inj h32) (by decide)
    · omega
  have hmz : (midOf s).size ≤ 1000000 := by unfold midOf; rw [ByteArray.size_extract]; omega
  obtain ⟨M, hM⟩ : ∃ M, s.extract 1 (s.size - 5) = M := ⟨_, rfl⟩
  have SP := rSplit M 32 (w.alloc (.cells #[.int .i64 0, .slice none 0 0] 39)) (by rw [← hM]; exact hmz)
  have HM : Hid (midOf s = M) := hM
  have DSP := Lib.hid SP
  clear h0 h32 h2 h3 hmz SP
  go_enter Tryz.func95, Tryz.ntmps95
  go_wp2_with fail
  refine DSP.out.mono ?_
  rintro e w1 ⟨ps, v, rfl, hown, hb, hps⟩
  have hne : ps ≠ [] := fun e => by
    have := hps.out
    rw [e] at this
    exact spL_ne _ _ this.symm
  obtain ⟨q, cap, rfl, hst, hcap, hcm⟩ := strs_own2 hown
  have HPF := Lib.hid (own_from hown)
  have Z1 := Lib.hid (Z.out.next hb)
  have c0 := Z1.out.c0
  have c1 := Z1.out.c1
  have f0 := Z1.out.f0
  have f1 := Z1.out.f1
  clear DSP hown hb
  have HPS : Hid (ps.map (·.data.toList) = spL 32 (midOf s).data.toList) := by rw [HM.out]; exact hps.out
  clear hps
  match ps, hne, HPS, hst, hcap with
  | [p0], _, HPS, hst, _ =>
    have HNO : Hid (∀ n ws, ¬ Shp s n ws) := fun n ws hS => by
      obtain ⟨-, -, -, d⟩ := shp_parts hS
      exact absurd (d _ HPS.out) (by simp)
    clear hst HPS
    go_wp2_with fail
    refine bodyPost_ret (v := .tuple #[.agg #[.int .i64 0, .slice none 0 0], .bool false]) (by simp [results, Tryz.results95, go_sem, c0, c1]) rfl (ShR.no ?_ HNO.out)
    first | exact Z1.out.bel | exact Z1.out.set _ _
  | p0 :: p1 :: vs, _, HPS, hst, hcap =>
    obtain ⟨b, o, rfl, hbl, cc0⟩ := str_at hst (k := 0) (by simp)
    obtain ⟨b2, o2, e2, -, cc1⟩ := str_at hst (k := 1) (by simp)
    cases e2
    have HBF : Hid (w.heap.size ≤ b) := by
      have := HPF.out _ rfl
      rw [World.size_alloc] at this
      unfold Hid; exact Nat.le_trans (Nat.le_succ _) this
    have hsz : ∀ x ∈ p0 :: p1 :: vs, x.size ≤ 1000000 := fun x hx => by
      have h7 : x.data.toList ∈ spL 32 (midOf s).data.toList := by rw [← HPS.out]; exact List.mem_map.2 ⟨x, hx, rfl⟩
      have h8 := spL_len 32 _ _ h7
      rw [← Lib.size_eq, ← Lib.size_eq] at h8
      have h9 : (midOf s).size ≤ s.size := by unfold midOf; rw [ByteArray.size_extract]; omega
      have := HS.out
      omega
    have HVZ : Hid (∀ j, (vs.getD j ByteArray.empty).size ≤ maxLen) := fun j => by
      rw [List.getD]
      cases hj : vs[j]? with
      | none => exact Nat.zero_le _
      | some x => have := hsz x (List.mem_cons_of_mem _ (List.mem_cons_of_mem _ (List.mem_of_getElem? hj))); show x.size ≤ maxLen; unfold maxLen; omega
    have hz0 := hsz p0 List.mem_cons_self
    have hz1 := hsz p1 (List.mem_cons_of_mem _ List.mem_cons_self)
    obtain ⟨a0, r0, P0, I0, J0⟩ := rdn_pair p0
    obtain ⟨a1, r1, P1, I1, J1⟩ := rdn_pair p1
    have R0 : Hid (∀ W, Calls Tryz.prog 21 #[.string p0] W fun e w' => e = .returned (.agg #[.int .i64 a0, .int .i64 r0]) ∧ Below W.heap.size W w') := fun W => by
      have := rReadInt p0 W (by unfold maxLen; omega); rwa [P0.out] at this
    have R1 : Hid (∀ W, Calls Tryz.prog 21 #[.string p1] W fun e w' => e = .returned (.agg #[.int .i64 a1, .int .i64 r1]) ∧ Below W.heap.size W w') := fun W => by
      have := rReadInt p1 W (by unfold maxLen; omega); rwa [P1.out] at this
    have HNO : Hid (¬ (r0 = 0 ∧ r1 = 0 ∧ a1 = vs.length ∧ lineErr a0 vs = 0) → ∀ n ws, ¬ Shp s n ws) := fun hh n ws hS => by
      obtain ⟨-, -, -, d⟩ := shp_parts hS
      have e := d _ HPS.out
      simp only [List.cons.injEq] at e
      obtain ⟨x1, x2, x3⟩ := e
      obtain ⟨n1, n2, nl, -⟩ := lineErr_ok hS.1
      obtain ⟨y1, y2⟩ := J0.out n (by unfold I64; omega) x1
      obtain ⟨y3, y4⟩ := J1.out ws.length (by unfold I64; omega) x2
      exact hh ⟨y1, y3, by rw [y4, x3], by rw [y2, x3]; exact hS.1⟩
    have HYES : Hid (r0 = 0 → r1 = 0 → a1 = vs.length → lineErr a0 vs = 0 → Shp s a0 vs) := fun q1 q2 q3 q4 =>
      shp_mk H5.out H0.out H32.out HPS.out (I0.out q1).2 (I1.out q2).2 q3 q4
    have hstv : StrsAt w1 (if cap = 2 then none else some ⟨b, o + 2, none⟩) vs := by
      by_cases hc : cap = 2
      · left
        have : vs.length = 0 := by simp at hcap; omega
        exact List.length_eq_zero_iff.1 this
      · rw [if_neg hc]
        refine .inr ⟨b, o + 2, rfl, hbl, fun j hj => ?_⟩
        obtain ⟨b3, o3, e3, -, cj⟩ := str_at hst (k := j + 2) (by simp; omega)
        cases e3
        rw [show o + 2 + j = o + (j + 2) from by omega]
        exact cj
    have HSTV : Hid (StrsAt w1 (some ⟨b, o + 2, none⟩) vs ∨ vs = []) := by
      by_cases hc : cap = 2
      · right
        have : vs.length = 0 := by simp at hcap; omega
        exact List.length_eq_zero_iff.1 this
      · left; rwa [if_neg hc] at hstv
    obtain ⟨N, hN⟩ : ∃ N, Hid (vs.length = N) := ⟨_, rfl⟩
    have hcap2 : N + 2 ≤ cap := by have := hN.out; simp at hcap; omega
    have hN0 : ¬ ((N + 2 : Nat) : Int) < 2 := by omega
    have HBL := Lib.hid hbl
    rw [show (p0 :: p1 :: vs).length = N + 2 from by simp [hN.out]]
    rw [show (p0 :: p1 :: vs).getD 0 ByteArray.empty = p0 from rfl, Nat.add_zero] at cc0
    rw [show (p0 :: p1 :: vs).getD 1 ByteArray.empty = p1 from rfl] at cc1
    have HC0 := Lib.hid cc0
    have HC1 := Lib.hid cc1
    clear hst hstv hsz hz0 hz1 P0 P1 hcap hbl cc1
    go_wp2_with fail
    refine (R0.out w1).mono ?_
    rintro e w2 ⟨rfl, hb⟩
    have hbl2 : b < w2.heap.size := Nat.lt_of_lt_of_le HBL.out hb.size
    have Z2 := Lib.hid ((Z1.out.next hb).next (below_alloc1 w2 (.cells #[.int .i64 a0, .int .i64 r0] 27)))
    have A2 := Lib.hid (K2.new w2 (.int .i64 a0) (.int .i64 r0) 27)
    have cc1 : (w2.alloc (.cells #[.int .i64 a0, .int .i64 r0] 27)).cell? ⟨b, o + 1, none⟩ = some (.string p1) := cell_al ((hb.cell (p := ⟨b, o + 1, none⟩) HBL.out).trans HC1.out) _
    have HB2 : Hid (Below w1.heap.size w1 (w2.alloc (.cells #[.int .i64 a0, .int .i64 r0] 27))) := hb.alloc hb.size _
    clear hb R0 cc0 c0 c1 f0 f1
    go_wp2_with fail
    refine (R1.out _).mono ?_
    rintro e w3 ⟨rfl, hb⟩
    have Z3 := Lib.hid ((Z2.out.next hb).next (below_alloc1 w3 (.cells #[.int .i64 a1, .int .i64 r1] 27)))
    have A3 := Lib.hid ((A2.out.keep hb).keep (below_alloc1 w3 (.cells #[.int .i64 a1, .int .i64 r1] 27)))
    have B3 := Lib.hid (K2.new w3 (.int .i64 a1) (.int .i64 r1) 27)
    have HB3 : Hid (Below w1.heap.size w1 (w3.alloc (.cells #[.int .i64 a1, .int .i64 r1] 27))) := (HB2.out.trans (hb.mono HB2.out.size)).alloc (by have := HB2.out.size; have := hb.size; omega) _
    obtain ⟨W3, hW3⟩ : ∃ W3, w3.alloc (.cells #[.int .i64 a1, .int .i64 r1] 27) = W3 := ⟨_, rfl⟩
    have hz3 : W3.heap.size = w3.heap.size + 1 := by rw [← hW3]; simp
    obtain ⟨g5, hg5⟩ : ∃ g5, w2.heap.size = g5 := ⟨_, rfl⟩
    obtain ⟨g6, hg6⟩ : ∃ g6, w3.heap.size = g6 := ⟨_, rfl⟩
    rw [hW3] at Z3 A3 B3 HB3
    rw [hg5] at A3
    rw [hg6] at B3
    have k0 := A3.out.2.1
    have k0a := cell_al k0 (.cells #[.int .i64 0, .slice none 0 0] 39)
    clear hb R1 cc1 Z2 A2 HB2
    go_upto_region 8 with (fail)
    clear hW3 hg5 hg6 hz3
    have HBW : Hid (∀ q5, StrsAt w1 q5 vs → StrsAt W3 q5 vs) := fun q5 h => h.below HB3.out
    go_cut [7] from 43 (fun s7 wx => ∃ (g7 : Nat) (q5 : Option Addr) (c5 : Nat), s7 = .pointer (some ⟨g7, 0, none⟩) ∧ Hid (RQ w wx g5 g6 g7 a0 r0 a1 r1 q5 N c5 vs) ∧ Hid (PFrom w.heap.size q5))
    case first =>
      by_cases hc : cap = 2
      · have hvs : vs = [] := by
          have := hN.out
          exact List.length_eq_zero_iff.1 (by omega)
        have hst2 : Hid (∀ q5, StrsAt W3 q5 vs) := fun q5 => .inl hvs
        obtain rfl : N = 0 := by omega
        subst hc
        clear hvs
        go_region
        all_goals
          go_wp2_with fail
          go_meet
          case rel => exact ⟨_, _, _, rfl, rq_mk _ _ Z3.out A3.out B3.out (hst2.out _), pf_some HBF.out⟩
      · have hst2 : Hid (StrsAt W3 (some ⟨b, o + 2, none⟩) vs) := by
          rcases HSTV.out with h | h
          · exact HBW.out _ h
          · exact .inl h
        have hc2 : ¬ cap - 2 = 0 := by omega
        go_region
        all_goals
          go_wp2_with fail
          go_meet
          case rel => exact ⟨_, _, _, rfl, rq_mk _ _ Z3.out A3.out B3.out hst2.out, pf_some HBF.out⟩
    case rest =>
      obtain ⟨g7, q5, c5, rfl, R, PF⟩ := hcut
      have c0 := R.out.z.c0
      have c1 := R.out.z.c1
      have f0 := R.out.z.f0
      have f1 := R.out.z.f1
      have RZ := Lib.hid R.out.z
      have y1 := R.out.a.2.2
      have y2 := R.out.b.2.1
      have y3 := R.out.b.2.2
      have y4 := R.out.l.2.1
      have y5 := R.out.l.2.2
      have RL := Lib.hid R.out.l
      have RS := Lib.hid R.out.st
      clear R Z3 A3 B3 k0 k0a HSTV HBW Z1
      by_cases q1 : r0 = 0
      · by_cases q2 : r1 = 0
        · by_cases q3 : a1 = N
          · have CL := rCheckLine a0 q5 c5 vs wc (by have := hN.out; unfold maxLen at hcm ⊢; omega) HVZ.out RS.out
            obtain ⟨er, her⟩ : ∃ er, Hid (lineErr a0 vs = er) := ⟨_, rfl⟩
            rw [her.out, hN.out] at CL
            have DCL := Lib.hid CL
            have HY2 : Hid (er = 0 → Shp s a0 vs) := fun e => HYES.out q1 q2 (by rw [q3, hN.out]) (by rw [her.out]; exact e)
            have HN2 : Hid (¬ er = 0 → ∀ n ws, ¬ Shp s n ws) := fun e => HNO.out (fun h => e (by rw [← her.out]; exact h.2.2.2))
            subst q1 q2 q3
            clear CL HYES HNO her
            go_wp2_with fail
            refine DCL.out.mono ?_
            rintro e w5 ⟨rfl, hb⟩
            have RZ2 := Lib.hid (RZ.out.next hb)
            have RL2 := Lib.hid (RL.out.keep hb)
            have RS2 := Lib.hid (RS.out.below hb)
            have c0 := RZ2.out.c0
            have c1 := RZ2.out.c1
            have f0 := RZ2.out.f0
            have f1 := RZ2.out.f1
            have y4 := RL2.out.2.1
            have y5 := RL2.out.2.2
            clear DCL hb RZ RL RS
            by_cases q4 : er = 0
            · have HY3 := Lib.hid (HY2.out q4)
              subst q4
              clear HY2 HN2
              go_wp2_with fail
              have fin := ShR.yes (w := w) (c := c5) (RZ2.out.set (.int .i64 a0) (.slice q5 vs.length c5)) HY3.out (strs_set RS2.out c0 c1 (.int .i64 a0) (.slice q5 vs.length c5)) PF.out
              rw [hN.out] at fin
              refine bodyPost_ret (v := .tuple #[.agg #[.int .i64 a0, .slice q5 N c5], .bool true]) (by simp [results, Tryz.results95, go_sem, c0, c1]) rfl fin
            · have HN3 := Lib.hid (HN2.out q4)
              have q5' : ((er : Int) == 0) = false := by rw [beq_eq_false_iff_ne]; exact q4
              have q6' : ((er : Int) != 0) = true := by rw [bne, q5']; rfl
              clear HY2 HN2 q4
              go_wp2_with fail
              refine bodyPost_ret (v := .tuple #[.agg #[.int .i64 0, .slice none 0 0], .bool false]) (by simp [results, Tryz.results95, go_sem, c0, c1]) rfl (ShR.no ?_ HN3.out)
              first | exact RZ2.out.bel | exact RZ2.out.set _ _
          · have HF := Lib.hid (HNO.out (fun h => q3 (by rw [h.2.2.1, hN.out])))
            have q5' : ((a1 : Int) == (N : Int)) = false := by rw [beq_eq_false_iff_ne]; exact q3
            have q6' : ((a1 : Int) != (N : Int)) = true := by rw [bne, q5']; rfl
            subst q1 q2
            clear HNO HYES q3
            go_wp2_with fail
            refine bodyPost_ret (v := .tuple #[.agg #[.int .i64 0, .slice none 0 0], .bool false]) (by simp [results, Tryz.results95, go_sem, c0, c1]) rfl (ShR.no ?_ HF.out)
            first | exact RZ.out.bel | exact RZ.out.set _ _
        · have HF := Lib.hid (HNO.out (fun h => q2 h.2.1))
          have q5' : ((r1 : Int) == 0) = false := by rw [beq_eq_false_iff_ne]; exact q2
          have q6' : ((r1 : Int) != 0) = true := by rw [bne, q5']; rfl
          subst q1
          clear HNO HYES q2
          go_wp2_with fail
          refine bodyPost_ret (v := .tuple #[.agg #[.int .i64 0, .slice none 0 0], .bool false]) (by simp [results, Tryz.results95, go_sem, c0, c1]) rfl (ShR.no ?_ HF.out)
          first | exact RZ.out.bel | exact RZ.out.set _ _
      · have HF := Lib.hid (HNO.out (fun h => q1 h.1))
        have q5' : ((r0 : Int) == 0) = false := by rw [beq_eq_false_iff_ne]; exact q1
        have q6' : ((r0 : Int) != 0) = true := by rw [bne, q5']; rfl
        clear HNO HYES q1
        go_wp2_with fail
        refine bodyPost_ret (v := .tuple #[.agg #[.int .i64 0, .slice none 0 0], .bool false]) (by simp [results, Tryz.results95, go_sem, c0, c1]) rfl (ShR.no ?_ HF.out)
        first | exact RZ.out.bel | exact RZ.out.set _ _
theorem rShaped (s : ByteArray) (w : World) (hs : s.size ≤ 1000000) : Calls Tryz.prog 95 #[.string s] w (ShR s w) := by
  by_cases h : s.size < 5 ∨ s.data.toList[0]? ≠ some 64 ∨ s.data.toList[s.size - 5]? ≠ some 32
  · exact shaped_bad s w hs h
  · simp only [not_or, Decidable.not_not, ne_eq] at h
    exact shaped_good s w hs (by omega) h.2.1 h.2.2
end Go.Proofs.YtmfhpddeclggfaaGreatDoor

namespace Go.Proofs.YtmfhpddeclggfaaGreatDoor
open Go.RowKit
/-- What the reference's reading returns. -/
def RrP (s : ByteArray) (w : World) (e : Ending) (w' : World) : Prop := Below w.heap.size w w' ∧ ∃ (n : Int) (ws : List ByteArray) (q : Option Addr) (c : Nat), e = .returned (.agg #[.int .i64 n, .slice q ws.length c, .int .i64 (readErr s)]) ∧ StrsAt w' q ws ∧ (readErr s = 0 → n = lineN s ∧ ws = lineWs s) ∧ (readErr s ≠ 0 → n = 0 ∧ ws = []) ∧ PFrom w.heap.size q
theorem RrP.bad {s : ByteArray} {w w' : World} (er : Int) (hb : Below w.heap.size w w') (h : readErr s = er) (h0 : er ≠ 0) : RrP s w (.returned (.agg #[.int .i64 0, .slice none 0 0, .int .i64 er])) w' := by
  subst h
  exact ⟨hb, 0, [], none, 0, rfl, .inl rfl, fun e => absurd e h0, fun _ => ⟨rfl, rfl⟩, fun a e => by cases e⟩
theorem RrP.good {s : ByteArray} {w w' : World} {n : Int} {ws : List ByteArray} {q : Option Addr} {c : Nat} (hb : Below w.heap.size w w') (h : readErr s = 0) (h1 : n = lineN s) (h2 : ws = lineWs s) (hq : StrsAt w' q ws) (hf : PFrom w.heap.size q) : RrP s w (.returned (.agg #[.int .i64 n, .slice q ws.length c, .int .i64 0])) w' :=
  ⟨hb, n, ws, q, c, by rw [h], hq, fun _ => ⟨h1, h2⟩, fun e => absurd h e, hf⟩
/-- Three fresh cells, after calls. -/
structure T3 (w W : World) : Prop where
  c0 : W.cell? ⟨w.heap.size, 0, none⟩ = some (.int .i64 0)
  c1 : W.cell? ⟨w.heap.size, 1, none⟩ = some (.slice none 0 0)
  c2 : W.cell? ⟨w.heap.size, 2, none⟩ = some (.int .i64 0)
  fz : ∀ o, W.frozen? ⟨w.heap.size, o, none⟩ = false
  bel : Below w.heap.size w W
  lt : w.heap.size < W.heap.size
theorem T3.mk0 (w : World) : T3 w (w.alloc (.cells #[.int .i64 0, .slice none 0 0, .int .i64 0] 46)) :=
  ⟨nw_at w _ 46 0 _ rfl, nw_at w _ 46 1 _ rfl, nw_at w _ 46 2 _ rfl, fun o => frozen_new w _ _ o, below_alloc1 _ _, by simp⟩
theorem T3.next {w W W' : World} (h : T3 w W) (hb : Below W.heap.size W W') : T3 w W' :=
  ⟨(hb.cell (p := ⟨w.heap.size, 0, none⟩) h.lt).trans h.c0, (hb.cell (p := ⟨w.heap.size, 1, none⟩) h.lt).trans h.c1, (hb.cell (p := ⟨w.heap.size, 2, none⟩) h.lt).trans h.c2, fun o => (hb.frozen (p := ⟨w.heap.size, o, none⟩) h.lt).trans (h.fz o), h.bel.trans (hb.mono (Nat.le_of_lt h.lt)), Nat.lt_of_lt_of_le h.lt hb.size⟩
theorem T3.set {w W : World} (h : T3 w W) (x y z : Value) : Below w.heap.size w (((W.setCell ⟨w.heap.size, 0, none⟩ x).setCell ⟨w.heap.size, 1, none⟩ y).setCell ⟨w.heap.size, 2, none⟩ z) :=
  ((h.bel.setCell (p := ⟨w.heap.size, 0, none⟩) (Nat.le_refl _) _).setCell (p := ⟨w.heap.size, 1, none⟩) (Nat.le_refl _) _).setCell (p := ⟨w.heap.size, 2, none⟩) (Nat.le_refl _) _
theorem strs_set3 {W : World} {q : Option Addr} {vs : List ByteArray} {B : Nat} (h : StrsAt W q vs) (c0 : W.cell? ⟨B, 0, none⟩ = some (.int .i64 0)) (c1 : W.cell? ⟨B, 1, none⟩ = some (.slice none 0 0)) (c2 : W.cell? ⟨B, 2, none⟩ = some (.int .i64 0)) (x y z : Value) : StrsAt (((W.setCell ⟨B, 0, none⟩ x).setCell ⟨B, 1, none⟩ y).setCell ⟨B, 2, none⟩ z) q vs := by
  rcases h with h | ⟨b, o, e, hl, hc⟩
  · exact .inl h
  · refine .inr ⟨b, o, e, by simpa using hl, fun j hj => ?_⟩
    have hj2 := hc j hj
    have n0 : (⟨B, 0, none⟩ : Addr) ≠ ⟨b, o + j, none⟩ := fun e => by rw [← e, c0] at hj2; simp at hj2
    have n1 : (⟨B, 1, none⟩ : Addr) ≠ ⟨b, o + j, none⟩ := fun e => by rw [← e, c1] at hj2; simp at hj2
    have n2 : (⟨B, 2, none⟩ : Addr) ≠ ⟨b, o + j, none⟩ := fun e => by rw [← e, c2] at hj2; simp at hj2
    rw [World.cell?_setCell_other _ _ _ _ n2, World.cell?_setCell_other _ _ _ _ n1, World.cell?_setCell_other _ _ _ _ n0]
    exact hj2
theorem fld32 (a : ByteArray) (b : Int) (w : World) : Sem.run Tryz.prog (Instr.field 32 (.agg #[.string a, .int .i64 b]) 0) w = .ok (.string a) w := by kernel_rfl
set_option maxRecDepth 100000 in
set_option maxHeartbeats 4000000 in
theorem rRead (s : ByteArray) (w : World) (hs : s.size ≤ 1000000) : Calls Tryz.prog 34 #[.string s] w (RrP s w) := by
  have Z := Lib.hid (T3.mk0 w)
  have SH := Lib.hid (rShaped s (w.alloc (.cells #[.int .i64 0, .slice none 0 0, .int .i64 0] 46)) hs)
  go_enter Tryz.func34, Tryz.ntmps34
  go_wp2_with fail
  refine SH.out.mono ?_
  rintro e w1 ⟨hb, ⟨rfl, hno⟩ | ⟨n, ws, q, c, rfl, hS, hst, hpf⟩⟩
  · have Z1 := Lib.hid (Z.out.next hb)
    have HE : Hid (readErr s = 7) := readErr_no hno
    have c0 := cell_al Z1.out.c0 (.cells #[.int .i64 0, .slice none 0 0] 39)
    have c1 := cell_al Z1.out.c1 (.cells #[.int .i64 0, .slice none 0 0] 39)
    have c2 := cell_al Z1.out.c2 (.cells #[.int .i64 0, .slice none 0 0] 39)
    have Z2 := Lib.hid (Z1.out.next (below_alloc1 w1 (.cells #[.int .i64 0, .slice none 0 0] 39)))
    have f0 := Z2.out.fz 0
    have f1 := Z2.out.fz 1
    have f2 := Z2.out.fz 2
    clear SH hb hno
    go_wp2_with fail
    refine bodyPost_ret (v := .agg #[.int .i64 0, .slice none 0 0, .int .i64 7]) (by simp [results, Tryz.results34, go_sem, c0, c1, c2]) rfl (RrP.bad 7 (Z2.out.set _ _ _) HE.out (by decide))
  · obtain ⟨k1, k2, k3, -⟩ := shp_body hS
    have HPF : Hid (PFrom w.heap.size q) := fun a e => by have := hpf a e; rw [World.size_alloc] at this; exact Nat.le_trans (Nat.le_succ _) this
    clear hpf
    have HE := Lib.hid (readErr_shp hS)
    obtain ⟨l1, l2, l3, l4⟩ := lineErr_ok hS.1
    have hz6 : ∀ j, (ws.getD j ByteArray.empty).size ≤ maxLen := fun j => by
      rw [List.getD]
      cases hj : ws[j]? with
      | none => exact Nat.zero_le _
      | some z => have := wordsOk_size l4 z (List.mem_of_getElem? hj); show z.size ≤ maxLen; unfold maxLen; omega
    have Z1 := Lib.hid (Z.out.next hb)
    have Z2 := Lib.hid (Z1.out.next (below_alloc1 w1 (.cells #[.int .i64 n, .slice q ws.length c] 39)))
    have ST2 := Lib.hid (hst.below (below_alloc1 w1 (.cells #[.int .i64 n, .slice q ws.length c] 39)))
    have A2 := Lib.hid (K2.new w1 (.int .i64 n) (.slice q ws.length c) 39)
    have CW := rWrite n q c ws (w1.alloc (.cells #[.int .i64 n, .slice q ws.length c] 39)) (by unfold maxLen; omega) hz6 ST2.out
    rw [wrAgg, if_pos hS.1] at CW
    obtain ⟨T, hT⟩ : ∃ T, bs (lineT n ws) = T := ⟨_, rfl⟩
    rw [hT] at CW HE
    have DCW := Lib.hid CW
    have HK1 := Lib.hid k1
    have HK2 := Lib.hid k2
    have kf := fun W : World => fld32 T 0 W
    obtain ⟨N, hN⟩ : ∃ N, Hid (ws.length = N) := ⟨_, rfl⟩
    rw [hN.out] at A2 DCW Z2 ST2 ⊢
    clear SH hb hst hS k1 k2 k3 l1 l2 l3 l4 hz6 CW hT Z
    go_wp2_with fail
    refine DCW.out.mono ?_
    rintro e w2 ⟨rfl, hb⟩
    have Z3 := Lib.hid (Z2.out.next hb)
    have A3 := Lib.hid (A2.out.keep hb)
    have ST3 := Lib.hid (ST2.out.below hb)
    have c0 := Z3.out.c0
    have c1 := Z3.out.c1
    have c2 := Z3.out.c2
    have f0 := Z3.out.fz 0
    have f1 := Z3.out.fz 1
    have f2 := Z3.out.fz 2
    have y0 := A3.out.2.1
    have y1 := A3.out.2.2
    clear DCW hb A2 ST2 Z2
    by_cases he : T = s
    · have HR : Hid (readErr s = 0) := by rw [HE.out, if_pos he]; rfl
      have e1 : (T.toList == s.toList) = true := by rw [he]; simp
      have e2 : (T.toList != s.toList) = false := by rw [bne, e1]; rfl
      clear he HE
      go_wp2_with fail
      have fin := RrP.good (c := c) (Z3.out.set (.int .i64 n) (.slice q ws.length c) (.int .i64 0)) HR.out HK1.out.symm HK2.out.symm (strs_set3 ST3.out c0 c1 c2 (.int .i64 n) (.slice q ws.length c) (.int .i64 0)) HPF.out
      rw [hN.out] at fin
      refine bodyPost_ret (v := .agg #[.int .i64 n, .slice q N c, .int .i64 0]) (by simp [results, Tryz.results34, go_sem, c0, c1, c2]) rfl ?_
      exact fin
    · have HR : Hid (readErr s = 11) := by rw [HE.out, if_neg he]; rfl
      have e1 : (T.toList == s.toList) = false := Bool.eq_false_iff.2 (fun e => he (toList_eq e))
      have e2 : (T.toList != s.toList) = true := by rw [bne, e1]; rfl
      clear he HE
      go_wp2_with fail
      refine bodyPost_ret (v := .agg #[.int .i64 0, .slice none 0 0, .int .i64 11]) (by simp [results, Tryz.results34, go_sem, c0, c1, c2]) rfl (RrP.bad 11 ?_ HR.out (by decide))
      exact Z3.out.set _ _ _
end Go.Proofs.YtmfhpddeclggfaaGreatDoor

namespace Go.Proofs.YtmfhpddeclggfaaGreatDoor
open Go.RowKit
end Go.Proofs.YtmfhpddeclggfaaGreatDoor

namespace Go.Proofs.YtmfhpddeclggfaaGreatDoor
open Go.RowKit
/-! The law of writing. -/
end Go.Proofs.YtmfhpddeclggfaaGreatDoor

namespace Go.Proofs.YtmfhpddeclggfaaGreatDoor
open Go.RowKit
/-! SheetCuts: the reference's pieces, and the comparison of two lists of texts. -/
/-- The pieces of a copy. -/
def pcsL (ps : List ByteArray) : List ByteArray := ps.filter fun p => p.size != 0
theorem pcs_take (ps : List ByteArray) (k : Nat) (h : k < ps.length) : pcsL (ps.take (k + 1)) = if (ps.getD k ByteArray.empty).size = 0 then pcsL (ps.take k) else pcsL (ps.take k) ++ [ps.getD k ByteArray.empty] := by
  have e : ps.getD k ByteArray.empty = ps[k] := by rw [List.getD, List.getElem?_eq_getElem h]; rfl
  rw [e, pcsL, List.take_succ_eq_append_getElem h, List.filter_append]
  by_cases hz : ps[k].size = 0
  · rw [if_pos hz]; simp [hz, pcsL]
  · rw [if_neg hz]; simp [hz, pcsL]
theorem pcs_len (ps : List ByteArray) (k : Nat) : (pcsL (ps.take k)).length ≤ ps.length := by
  have := List.length_filter_le (fun p : ByteArray => p.size != 0) (ps.take k)
  rw [List.length_take] at this
  unfold pcsL
  omega
theorem spL_count (c : UInt8) : ∀ l : List UInt8, (spL c l).length ≤ l.length + 1 := fun l => by
  induction l with
  | nil => simp [spL]
  | cons x l ih =>
    unfold spL
    by_cases hx : x = c
    · rw [if_pos hx]; simp; omega
    · rw [if_neg hx]
      cases hp : spL c l with
      | nil => simp
      | cons p q => rw [hp] at ih; simp at ih ⊢; omega
theorem str_nil {t : ByteArray} (hz : t.size = 0) : t.toList.isEmpty = true := by
  rw [ByteArray.toList_eq]
  have h3 : t.data.toList.length = t.size := by simp
  rw [hz] at h3
  rw [List.length_eq_zero_iff.1 h3]; rfl
theorem str_not_nil {t : ByteArray} (hz : ¬ t.size = 0) : t.toList.isEmpty = false := by
  rw [ByteArray.toList_eq, Bool.eq_false_iff]
  intro e
  have h3 : t.data.toList.length = t.size := by simp
  rw [List.isEmpty_iff.1 e] at h3
  exact hz h3.symm
theorem strs_cell {W : World} {q : Option Addr} {l : List ByteArray} (h : StrsAt W q l) (hne : l ≠ []) : ∃ b o, q = some ⟨b, o, none⟩ ∧ b < W.heap.size ∧ ∀ j, j < l.length → W.cell? ⟨b, o + j, none⟩ = some (.string (l.getD j ByteArray.empty)) := by
  rcases h with h | h
  · exact absurd h hne
  · exact h
set_option maxRecDepth 100000 in
set_option maxHeartbeats 4000000 in
theorem rPieces (s : ByteArray) (w : World) (hs : s.size ≤ 1000000) :
    Calls Tryz.prog 46 #[.string s] w fun e w' => ∃ (ps : List ByteArray) (q : Option Addr) (cap : Nat), e = .returned (.slice q (pcsL ps).length cap) ∧ StrsAt w' q (pcsL ps) ∧ Below w.heap.size w w' ∧ Hid (ps.map (·.data.toList) = spL 10 s.data.toList) := by
  obtain ⟨i0, hi, hz0, hz1, hz4⟩ := info_parts inf9
  have SP := Lib.hid (rSplit s 10 w hs)
  go_enter Tryz.func46, Tryz.ntmps46
  go_wp2_with fail
  refine SP.out.mono ?_
  rintro e w1 ⟨ps, v, rfl, hown, hb, hps⟩
  clear SP
  have hne : ps ≠ [] := fun e => by
    have := hps.out
    rw [e] at this
    exact spL_ne _ _ this.symm
  have hpl : Hid (ps.length ≤ 1000001) := by
    have h1 := congrArg List.length hps.out
    have h2 := spL_count 10 s.data.toList
    rw [List.length_map] at h1
    have h3 : s.data.toList.length = s.size := by simp
    unfold Hid; omega
  obtain ⟨q, cap, rfl, hst⟩ := strs_own hown
  obtain ⟨b, o, rfl, hbl, hcl⟩ := strs_cell hst hne
  have HBL := Lib.hid hbl
  have HCL := Lib.hid hcl
  have HB1 := Lib.hid hb
  obtain ⟨N, hN⟩ : ∃ N, Hid (ps.length = N) := ⟨_, rfl⟩
  have hNl : N ≤ 1000001 := by have := hpl.out; have := hN.out; omega
  clear hown hb hst hbl hcl hne
  rw [hN.out]
  go_wp2_with fail
  go_loopw [4, 5] (fun v i wr => ∃ k : Nat, k ≤ N ∧ i = .int .i64 k ∧ Hid (wr.ownsRow w1.heap.size 9 1 v (pcsL (ps.take k)).length (strsV (pcsL (ps.take k)))) ∧ Hid (Below w1.heap.size w1 wr)) (fun _ i _ => N - (intOf i).toNat)
  case atStart => exact ⟨0, Nat.zero_le _, rfl, World.ownsRow_nil _ _ _ _, Below.refl _ _⟩
  case round =>
    obtain ⟨k, hk, rfl, O, B⟩ := hrel
    have hw1 : Hid (w.heap.size ≤ w1.heap.size) := HB1.out.size
    by_cases hlt : k < N
    · have hkl : k < ps.length := by rw [hN.out]; exact hlt
      have hcl := HCL.out k hkl
      have c0 : wr.cell? ⟨b, o + k, none⟩ = some (.string (ps.getD k ByteArray.empty)) := (B.out.cell (p := ⟨b, o + k, none⟩) HBL.out).trans hcl
      have TK := pcs_take ps k hkl
      obtain ⟨t, ht⟩ : ∃ t, Hid (ps.getD k ByteArray.empty = t) := ⟨_, rfl⟩
      rw [ht.out] at c0 TK
      have hlt' : (k : Int) < (N : Int) := by omega
      by_cases hz : t.size = 0
      · rw [if_pos hz] at TK
        have TK1 := Lib.hid TK
        have e1 := str_nil hz
        clear TK hcl hz
        go_wp2_with fail
        refine ⟨⟨k + 1, by omega, by go_num, ?_, B⟩, by simp [intOf]; omega⟩
        rw [TK1.out]
        exact O
      · rw [if_neg hz] at TK
        have TK1 := Lib.hid TK
        have e1 := str_not_nil hz
        have hpq := pcs_len ps k
        have hpl1 := hpl.out
        obtain ⟨l, hl⟩ : ∃ l, pcsL (ps.take k) = l := ⟨_, rfl⟩
        rw [hl] at O TK1 hpq
        have HNW : Hid (∀ j u, ([.string t] : List Value)[j]? = some u → (wr.alloc (.cells #[.string t] 9)).cell? ((⟨wr.heap.size, 0, none⟩ : Addr).add j) = some u) := cells_new wr #[.string t] 9
        have HK1 : Hid (l.length + 1 ≤ maxLen) := by unfold Hid maxLen; omega
        have HK2 : Hid ((l.length + 1) * 16 ≤ 140737488355328) := by unfold Hid; omega
        have HK3 : Hid (w1.heap.size ≤ (wr.alloc (.cells #[.string t] 9)).heap.size) := by have := B.out.size; unfold Hid; simp; omega
        clear TK hcl hz hpq hpl1 hl
        go_wp2_with (at_builtin; refine wpList_append_own _ rfl (.tmp 19) (.tmp 24) 37 rfl w1.heap.size 9 i0 (.string ⟨#[]⟩) 1 16 Tryz.underlying37 hi hz0 hz1 hz4 rfl (by decide) u4 l.length (strsV l) rfl (O.out.alloc _) ⟨wr.heap.size, 0, none⟩ 1 1 [.string t] rfl rfl HNW.out (by simp [Value.oneCell']) HK1.out HK2.out HK3.out ?_; intro v' w4 hown hgrow _)
        refine ⟨⟨k + 1, by omega, by go_num, ?_, ?_⟩, by simp [intOf]; omega⟩
        · rw [TK1.out, List.length_append, strsV, List.map_append]
          exact hown
        · exact (B.out.alloc B.out.size _).grown hgrow HK3.out (fun g hg => (O.out.lt g hg).1)
    · obtain rfl : k = N := by omega
      have e := O.out
      rw [List.take_of_length_le (by have := hN.out; omega)] at e
      have E := Lib.hid e
      clear e
      go_wp2_with fail
      obtain ⟨q, cap, rfl, hst⟩ := strs_own E.out
      go_ret
      exact ⟨ps, q, cap, rfl, hst, HB1.out.trans (B.out.mono HB1.out.size), hps⟩
theorem sp_split : ∀ l : List UInt8, NoSp l ∨ ∃ p x, l = p ++ 32 :: x ∧ NoSp p
  | [] => .inl (fun c h => absurd h (by simp))
  | b :: l => by
    by_cases hb : b = 32
    · exact .inr ⟨[], l, by rw [hb]; rfl, fun c h => absurd h (by simp)⟩
    · rcases sp_split l with h | ⟨p, x, rfl, h⟩
      · exact .inl (fun c hc => by rcases List.mem_cons.1 hc with rfl | h2; exact hb; exact h c h2)
      · exact .inr ⟨b :: p, x, rfl, fun c hc => by rcases List.mem_cons.1 hc with rfl | h2; exact hb; exact h c h2⟩
theorem cut_none {l : List UInt8} (h : NoSp l) : cutH l = l ∧ cutF l = false := by
  unfold cutH cutF Lib.cut
  rw [index_none l h]
  exact ⟨rfl, rfl⟩
theorem cut_some {p : List UInt8} (x : List UInt8) (h : NoSp p) : cutH (p ++ 32 :: x) = p ∧ cutF (p ++ 32 :: x) = true := by
  unfold cutH cutF Lib.cut
  rw [index_at p x h, if_pos (by omega)]
  exact ⟨by simp, rfl⟩
theorem hp64 (l : List UInt8) : Lib.hasPrefix l [64] = (l.head? == some 64) := by
  unfold Lib.hasPrefix
  cases l with
  | nil => rfl
  | cons b l =>
    show (64 == b && true) = (some b == some 64)
    rw [Bool.and_true]
    by_cases h : b = 64
    · rw [h]; rfl
    · rw [beq_eq_false_iff_ne.2 (fun e => h e.symm), beq_eq_false_iff_ne.2 (fun e => h (Option.some.inj e))]
theorem spk_bad {l : List UInt8} (h : l.head? ≠ some 64) : spk l = none := by
  have h1 : Lib.hasPrefix (cutH l) [64] = false := by
    rw [hp64, beq_eq_false_iff_ne]
    rcases sp_split l with h2 | ⟨p, x, rfl, h2⟩
    · rw [(cut_none h2).1]; exact h
    · rw [(cut_some x h2).1]
      cases p with
      | nil => exact fun e => by cases e
      | cons b p => simpa using h
  unfold spk spkv
  rw [h1, Bool.false_and, if_neg (by simp)]
theorem spk_good {r h : List UInt8} {ps : List (List UInt8)} (hs : spL 32 r = h :: ps) : spk (64 :: r) = spkv (!ps.isEmpty) (rdInt h).isSome ((rdInt h).getD 0) := by
  have k : ∀ l : List UInt8, mk64 (64 :: l) = l := fun l => by
    unfold mk64 Lib.trimPrefix
    rw [hp64, if_pos (by rfl)]; rfl
  have n64 : ∀ p : List UInt8, NoSp p → NoSp (64 :: p) := fun p hp c hc => by
    rcases List.mem_cons.1 hc with rfl | h2
    · decide
    · exact hp c h2
  rcases sp_split r with h2 | ⟨p, x, rfl, h2⟩
  · rw [spL_none (fun c hc => h2 c hc)] at hs
    obtain ⟨rfl, rfl⟩ := List.cons.inj hs
    obtain ⟨c1, c2⟩ := cut_none (n64 r h2)
    unfold spk
    rw [c1, c2, k, hp64]
    rfl
  · rw [spL_cut x (fun c hc => h2 c hc)] at hs
    obtain ⟨rfl, rfl⟩ := List.cons.inj hs
    obtain ⟨c1, c2⟩ := cut_some x (n64 p h2)
    rw [List.cons_append] at c1 c2
    unfold spk
    rw [c1, c2, k, hp64]
    have : spL 32 x ≠ [] := spL_ne 32 x
    cases hx : spL 32 x with
    | nil => exact absurd hx this
    | cons a b => rfl
end Go.Proofs.YtmfhpddeclggfaaGreatDoor

namespace Go.Proofs.YtmfhpddeclggfaaGreatDoor
open Go.RowKit
theorem nil_or (s : ByteArray) : s.size = 0 ∨ ∃ h : 0 < s.size, s.data.toList.head? = some s[0] := by
  by_cases h : s.size = 0
  · exact .inl h
  · refine .inr ⟨by omega, ?_⟩
    have := at_list s 0 (by omega)
    rw [← this, List.head?_eq_getElem?]
set_option maxRecDepth 100000 in
set_option maxHeartbeats 4000000 in
/-- The reference's Speaks. -/
theorem rSpeaks (s : ByteArray) (w : World) (hs : s.size ≤ 1000000) :
    Calls Tryz.prog 43 #[.string s] w fun e w' => e = .returned (spRes (spk s.data.toList)) ∧ Below w.heap.size w w' := by
  have HS := Lib.hid hs
  rcases nil_or s with hz | ⟨h0, hh⟩
  · have e1 := str_nil hz
    have HR : Hid (spk s.data.toList = none) := spk_bad (by
      have h3 : s.data.toList.length = s.size := by simp
      rw [hz] at h3
      rw [List.length_eq_zero_iff.1 h3]; decide)
    go_enter Tryz.func43, Tryz.ntmps43
    go_wp2_with fail
    refine bodyPost_ret (v := .tuple #[.int .i64 0, .bool false]) (by simp [results, Tryz.results43, go_sem]) rfl ⟨?_, Below.refl _ _⟩
    rw [HR.out]; rfl
  · have e1 := str_not_nil (show ¬ s.size = 0 by omega)
    by_cases h64 : s[0] = 64
    · have e2 : ((s[0].toNat : Int) != 64) = false := by rw [h64]; rfl
      obtain ⟨r, hr⟩ : ∃ r, s.extract 1 s.size = r := ⟨_, rfl⟩
      have hl : Hid (s.data.toList = 64 :: r.data.toList) := by
        rw [← hr, show (s.extract 1 s.size).data.toList = s.data.toList.drop 1 from Lib.extract_to_end s 1]
        cases hc : s.data.toList with
        | nil => rw [hc] at hh; cases hh
        | cons b l => rw [hc] at hh; rw [h64] at hh; rw [Option.some.inj hh]; rfl
      have hrz : r.size ≤ 1000000 := by rw [← hr, ByteArray.size_extract]; omega
      have SP := Lib.hid (rSplit r 32 w hrz)
      clear hh h64
      go_enter Tryz.func43, Tryz.ntmps43
      go_wp2_with fail
      refine SP.out.mono ?_
      rintro e w1 ⟨ps, v, rfl, hown, hb, hps⟩
      have hne : ps ≠ [] := fun e => by
        have := hps.out
        rw [e] at this
        exact spL_ne _ _ this.symm
      obtain ⟨q, cap, rfl, hst⟩ := strs_own hown
      clear SP hown
      have HB := Lib.hid hb
      match ps, hne, hps, hst with
      | p0 :: vs, _, HPS, hst =>
        obtain ⟨b, o, rfl, hbl, cc0⟩ := str_at hst (k := 0) (by simp)
        have hz0 : p0.size ≤ 1000000 := by
          have h7 : p0.data.toList ∈ spL 32 r.data.toList := by rw [← HPS.out]; exact List.mem_map.2 ⟨p0, List.mem_cons_self, rfl⟩
          have h8 := spL_len 32 _ _ h7
          rw [← Lib.size_eq, ← Lib.size_eq] at h8
          omega
        have HSP : Hid (spk s.data.toList = spkv (!(vs.map (·.data.toList)).isEmpty) (rdInt p0.data.toList).isSome ((rdInt p0.data.toList).getD 0)) := by
          rw [hl.out]
          exact spk_good (by rw [← HPS.out]; rfl)
        have cc1 : w1.cell? ⟨b, o, none⟩ = some (.string p0) := cc0
        have RD := Lib.hid (rReadInt p0 w1 (by unfold maxLen; omega))
        obtain ⟨a0, r0, P0, I0, J0⟩ : ∃ a0 r0, Hid (rdNum p0.data.toList = .agg #[.int .i64 a0, .int .i64 r0]) ∧ Hid (a0 = (rdInt p0.data.toList).getD 0) ∧ Hid (r0 = if (rdInt p0.data.toList).isSome then 0 else 7) := ⟨_, _, rfl, rfl, rfl⟩
        rw [P0.out] at RD
        obtain ⟨N, hN⟩ : ∃ N, Hid (vs.length + 1 = N) := ⟨_, rfl⟩
        have hNe : (p0 :: vs).length = N := hN
        rw [hNe]
        have hN1 : 1 ≤ N := by have := hN.out; omega
        clear cc0 hst hps hbl hNe hb
        go_wp2_with fail
        refine RD.out.mono ?_
        rintro e w2 ⟨rfl, hb2⟩
        have BB : Hid (Below w.heap.size w (w2.alloc (.cells #[.int .i64 a0, .int .i64 r0] 27))) := ((HB.out.trans (hb2.mono HB.out.size))).alloc (by have := HB.out.size; have := hb2.size; omega) _
        have c0 : (w2.alloc (.cells #[.int .i64 a0, .int .i64 r0] 27)).cell? ⟨w2.heap.size, 0, none⟩ = some (.int .i64 a0) := nw_at w2 _ 27 0 _ rfl
        have c1 : (w2.alloc (.cells #[.int .i64 a0, .int .i64 r0] 27)).cell? ⟨w2.heap.size, 1, none⟩ = some (.int .i64 r0) := nw_at w2 _ 27 1 _ rfl
        clear RD hb2
        by_cases hN2 : N < 2
        · have hN2' : (N : Int) < 2 := by omega
          have HR : Hid (spk s.data.toList = none) := by
            rw [HSP.out]
            have : vs = [] := List.length_eq_zero_iff.1 (by have := hN.out; omega)
            rw [this]
            unfold spkv; rw [if_neg (by simp)]; rfl
          go_wp2_with fail
          refine bodyPost_ret (v := .tuple #[.int .i64 0, .bool false]) (by simp [results, Tryz.results43, go_sem]) rfl ⟨?_, BB.out⟩
          rw [HR.out]; rfl
        · have hN2' : ¬ (N : Int) < 2 := by omega
          have hve : (!(vs.map (·.data.toList)).isEmpty) = true := by
            have := hN.out
            cases vs with
            | nil => simp at this; omega
            | cons x y => rfl
          rw [hve] at HSP
          by_cases hr : r0 = 0
          · have hi : (rdInt p0.data.toList).isSome = true := by
              cases hx : (rdInt p0.data.toList).isSome with
              | true => rfl
              | false => have h9 := J0.out; rw [hx, hr] at h9; exact absurd h9 (by decide)
            rw [hi, ← I0.out] at HSP
            have hr0 : (r0 != 0) = false := by rw [hr]; rfl
            by_cases ha : 1 ≤ a0 ∧ a0 ≤ 400
            · have HR : Hid (spk s.data.toList = some a0) := by rw [HSP.out]; unfold spkv; rw [if_pos ⟨rfl, rfl, ha.1, ha.2⟩]; rfl
              have HIN := fun W => Lib.hid (in_yes a0 1 400 W ha.1 ha.2)
              clear hi hve ha hr
              go_wp2_with (refine (HIN _).out.mono ?_; rintro e w3 ⟨rfl, rfl⟩)
              refine bodyPost_ret (v := .tuple #[.int .i64 a0, .bool true]) (by simp [results, Tryz.results43, go_sem]) rfl ⟨?_, BB.out⟩
              rw [HR.out]; rfl
            · have HR : Hid (spk s.data.toList = none) := by rw [HSP.out]; unfold spkv; rw [if_neg (fun h => ha ⟨h.2.2.1, h.2.2.2⟩)]; rfl
              have HIN := fun W => Lib.hid (in_no a0 1 400 W (by omega))
              clear hi hve ha hr
              go_wp2_with (refine (HIN _).out.mono ?_; rintro e w3 ⟨rfl, rfl⟩)
              refine bodyPost_ret (v := .tuple #[.int .i64 0, .bool false]) (by simp [results, Tryz.results43, go_sem]) rfl ⟨?_, BB.out⟩
              rw [HR.out]; rfl
          · have hi : (rdInt p0.data.toList).isSome = false := by
              cases hx : (rdInt p0.data.toList).isSome with
              | false => rfl
              | true => have h9 := J0.out; rw [hx] at h9; exact absurd h9 hr
            rw [hi] at HSP
            have HR : Hid (spk s.data.toList = none) := by rw [HSP.out]; unfold spkv; rw [if_neg (by simp)]; rfl
            have hr0 : (r0 != 0) = true := by rw [bne, beq_eq_false_iff_ne.2 hr]; rfl
            have hr0' : ¬ r0 = 0 := hr
            clear hi hve
            go_wp2_with fail
            refine bodyPost_ret (v := .tuple #[.int .i64 0, .bool false]) (by simp [results, Tryz.results43, go_sem]) rfl ⟨?_, BB.out⟩
            rw [HR.out]; rfl
    · have e2 : ((s[0].toNat : Int) != 64) = true := by
        rw [bne, Bool.not_eq_true', beq_eq_false_iff_ne]
        exact fun e => h64 (u8_eq (by have : ((64 : UInt8).toNat : Int) = 64 := rfl; omega))
      have HR : Hid (spk s.data.toList = none) := spk_bad (by rw [hh]; exact fun e => h64 (Option.some.inj e))
      clear hh h64
      go_enter Tryz.func43, Tryz.ntmps43
      go_wp2_with fail
      refine bodyPost_ret (v := .tuple #[.int .i64 0, .bool false]) (by simp [results, Tryz.results43, go_sem]) rfl ⟨?_, Below.refl _ _⟩
      rw [HR.out]; rfl

end Go.Proofs.YtmfhpddeclggfaaGreatDoor

namespace Go.Proofs.YtmfhpddeclggfaaGreatDoor
open Go.RowKit

/-! The program's pieces and lines. -/
open Go.Shelf
attribute [local go_sem] Oper.semAt_some
theorem strsV_app (a b : List ByteArray) : strsV (a ++ b) = strsV a ++ strsV b := by simp [strsV]
theorem strsV_one {l : List ByteArray} : ∀ u ∈ strsV l, u.oneCell' = true := fun u hu => by
  obtain ⟨p, -, rfl⟩ := List.mem_map.1 hu
  rfl
end Go.Proofs.YtmfhpddeclggfaaGreatDoor

namespace Go.Proofs.YtmfhpddeclggfaaGreatDoor
open Go.RowKit
/-! The program's Lines. -/
open Go.Shelf
attribute [local go_sem] Oper.semAt_some
end Go.Proofs.YtmfhpddeclggfaaGreatDoor

namespace Go.Proofs.YtmfhpddeclggfaaGreatDoor
open Go.RowKit
/-! The comparison of two lists of lines. -/
theorem lines_cell {W : World} {p : Option Addr} {gs : List GL} (h : LinesAt W p gs) {k : Nat} (hk : k < gs.length) : ∃ b o, p = some ⟨b, o, none⟩ ∧ b < W.heap.size ∧ W.cell? ⟨b, o + k * 2, none⟩ = some (.int .i64 (gs.getD k default).n) ∧ W.cell? ⟨b, o + k * 2 + 1, none⟩ = some (.slice (gs.getD k default).p (gs.getD k default).ws.length (gs.getD k default).cap) ∧ StrsAt W (gs.getD k default).p (gs.getD k default).ws := by
  obtain ⟨h | ⟨b, o, h1, h2, h3⟩, h4⟩ := h
  · rw [h] at hk; exact absurd hk (by simp)
  · exact ⟨b, o, h1, h2, (h3 k hk).1, (h3 k hk).2, h4 k hk⟩
end Go.Proofs.YtmfhpddeclggfaaGreatDoor

namespace Go.Proofs.YtmfhpddeclggfaaGreatDoor
open Go.RowKit
/-! Books of readings: what lies there, and copies of lists of words. -/
open Go.Shelf
/-- A reading as it lies in a slice of readings. -/
structure FL where
  g : GL
  cp : Option Addr
  cn : Nat
  cc : Nat
  rs : Bool
instance : Inhabited FL := ⟨⟨default, none, 0, 0, false⟩⟩
/-- These readings lie there. -/
def FoundsAt (W : World) (p : Option Addr) (fs : List FL) : Prop :=
  (fs = [] ∨ ∃ b o, p = some ⟨b, o, none⟩ ∧ b < W.heap.size ∧ ∀ j, j < fs.length → W.cell? ⟨b, o + j * 4, none⟩ = some (.int .i64 (fs.getD j default).g.n) ∧ W.cell? ⟨b, o + j * 4 + 1, none⟩ = some (.slice (fs.getD j default).g.p (fs.getD j default).g.ws.length (fs.getD j default).g.cap) ∧ W.cell? ⟨b, o + j * 4 + 2, none⟩ = some (.slice (fs.getD j default).cp (fs.getD j default).cn (fs.getD j default).cc) ∧ W.cell? ⟨b, o + j * 4 + 3, none⟩ = some (.bool (fs.getD j default).rs)) ∧
  ∀ j, j < fs.length → StrsAt W (fs.getD j default).g.p (fs.getD j default).g.ws
theorem FoundsAt.below {w w' : World} {p : Option Addr} {fs : List FL} (h : FoundsAt w p fs) (hb : Below w.heap.size w w') : FoundsAt w' p fs := by
  obtain ⟨h1, h2⟩ := h
  refine ⟨?_, fun j hj => (h2 j hj).below hb⟩
  rcases h1 with h | ⟨b, o, h1, h3, h4⟩
  · exact Or.inl h
  · refine Or.inr ⟨b, o, h1, Nat.lt_of_lt_of_le h3 hb.size, fun j hj => ?_⟩
    rw [hb.cell (p := ⟨b, o + j * 4, none⟩) h3, hb.cell (p := ⟨b, o + j * 4 + 1, none⟩) h3, hb.cell (p := ⟨b, o + j * 4 + 2, none⟩) h3, hb.cell (p := ⟨b, o + j * 4 + 3, none⟩) h3]
    exact h4 j hj
theorem fd_at {W : World} {p : Option Addr} {fs : List FL} (h : FoundsAt W p fs) {k : Nat} (hk : k < fs.length) {n : Int} {q : Option Addr} {c : Nat} {ws : List ByteArray} {cp : Option Addr} {cn cc : Nat} {rs : Bool} (hg : fs.getD k default = ⟨⟨n, q, c, ws⟩, cp, cn, cc, rs⟩) :
    ∃ b o, p = some ⟨b, o, none⟩ ∧ b < W.heap.size ∧ W.cell? ⟨b, o + k * 4, none⟩ = some (.int .i64 n) ∧ W.cell? ⟨b, o + k * 4 + 1, none⟩ = some (.slice q ws.length c) ∧ W.cell? ⟨b, o + k * 4 + 2, none⟩ = some (.slice cp cn cc) ∧ W.cell? ⟨b, o + k * 4 + 3, none⟩ = some (.bool rs) ∧ StrsAt W q ws := by
  obtain ⟨h | ⟨b, o, h1, h2, h3⟩, h4⟩ := h
  · rw [h] at hk; exact absurd hk (by simp)
  · have e1 := h3 k hk
    have e2 := h4 k hk
    rw [hg] at e1 e2
    exact ⟨b, o, h1, h2, e1.1, e1.2.1, e1.2.2.1, e1.2.2.2, e2⟩
theorem fl_cases (f : FL) : ∃ n q c ws cp cn cc rs, f = ⟨⟨n, q, c, ws⟩, cp, cn, cc, rs⟩ := ⟨_, _, _, _, _, _, _, _, rfl⟩
def bookV (p : Option Addr) (n c : Nat) (q1 : Option Addr) (n1 c1 : Nat) (q2 : Option Addr) (n2 c2 : Nat) : Value := .agg #[.slice p n c, .slice q1 n1 c1, .slice q2 n2 c2]
theorem strs_ownF {W : World} {B : Nat} {v : Value} {l : List ByteArray} (h : W.ownsRow B 9 1 v l.length (strsV l)) : ∃ q cap, v = .slice q l.length cap ∧ StrsAt W q l ∧ PFrom B q := by
  obtain ⟨q, cap, rfl, hs⟩ := strs_own h
  refine ⟨q, cap, rfl, hs, fun a ha => ?_⟩
  subst ha
  obtain ⟨h1, ⟨h0, h2⟩ | ⟨g, cap', cur, h0, hg, -⟩⟩ := h
  · cases h0
  · cases h0; exact hg
end Go.Proofs.YtmfhpddeclggfaaGreatDoor

namespace Go.Proofs.YtmfhpddeclggfaaGreatDoor
open Go.RowKit
/-! Whole. -/
open Go.Shelf
end Go.Proofs.YtmfhpddeclggfaaGreatDoor

namespace Go.Proofs.YtmfhpddeclggfaaGreatDoor
open Go.RowKit
/-! The reference's Whole. -/
open Go.Shelf
end Go.Proofs.YtmfhpddeclggfaaGreatDoor

namespace Go.Proofs.YtmfhpddeclggfaaGreatDoor
open Go.RowKit
/-! Fair. -/
open Go.Shelf
end Go.Proofs.YtmfhpddeclggfaaGreatDoor

namespace Go.Proofs.YtmfhpddeclggfaaGreatDoor
open Go.RowKit
/-! The reference's Fair. -/
open Go.Shelf
end Go.Proofs.YtmfhpddeclggfaaGreatDoor

namespace Go.Proofs.YtmfhpddeclggfaaGreatDoor
open Go.RowKit
/-! The law SheetFinishes. -/
open Go.Shelf
/-- A book in its box. -/
structure BX (w W : World) (a b c : Value) : Prop where
  bel : Below w.heap.size w W
  lt : w.heap.size < W.heap.size
  c0 : W.cell? ⟨w.heap.size, 0, none⟩ = some a
  c1 : W.cell? ⟨w.heap.size, 1, none⟩ = some b
  c2 : W.cell? ⟨w.heap.size, 2, none⟩ = some c
theorem BX.start (w : World) (a b c : Value) (t : TypeId) : BX w (w.alloc (.cells #[a, b, c] t)) a b c :=
  ⟨below_alloc1 _ _, by simp, nw_at w _ t 0 _ rfl, nw_at w _ t 1 _ rfl, nw_at w _ t 2 _ rfl⟩
theorem BX.keep {w W W' : World} {a b c : Value} (h : BX w W a b c) (hb : Below W.heap.size W W') : BX w W' a b c :=
  ⟨h.bel.trans (hb.mono h.bel.size), Nat.lt_of_lt_of_le h.lt hb.size, (hb.cell (p := ⟨w.heap.size, 0, none⟩) h.lt).trans h.c0, (hb.cell (p := ⟨w.heap.size, 1, none⟩) h.lt).trans h.c1, (hb.cell (p := ⟨w.heap.size, 2, none⟩) h.lt).trans h.c2⟩
end Go.Proofs.YtmfhpddeclggfaaGreatDoor

