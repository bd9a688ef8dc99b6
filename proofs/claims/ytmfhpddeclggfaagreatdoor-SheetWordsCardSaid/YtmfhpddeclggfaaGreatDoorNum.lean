import Derived.Test.YtmfhpddeclggfaaGreatDoorEnv
import Derived.WalkKit
import Derived.Lib.ItoaLen

import Derived.LoopTactic
import Derived.WalkSpells
import Derived.WalkLawsBesides
import Derived.Lib.Hide
import Derived.BigQuiet
import Derived.Deep.QuietTactic
namespace Go.Proofs.YtmfhpddeclggfaaGreatDoor
open Go.RowKit
set_option maxHeartbeats 400000 in
theorem in_any (n lo hi : Int) (w : World) :
   Calls Tryz.prog 77 #[.int .i64 n, .int .i64 lo, .int .i64 hi] w fun e w' => e = .returned (.bool (decide (lo ≤ n) && decide (n ≤ hi))) ∧ w = w' := by
  go_enter Tryz.func77, Tryz.ntmps77
  go_wp2
  all_goals (go_ret; refine ⟨ret_bool ?_, rfl⟩; simp <;> omega)
theorem enc_digit_fin : ∀ d : Fin 10, Utf8.encode (48 + ((d.val : Nat) : Int)) = bs [UInt8.ofNat (48 + d.val)] := by decide +kernel
theorem enc_digit (u : Nat) : Utf8.encode (48 + (u : Int) % 10) = bs [UInt8.ofNat (48 + u % 10)] := by
  have := enc_digit_fin ⟨u % 10, by omega⟩
  simpa using this
theorem bs_append (a b : List UInt8) : bs a ++ bs b = bs (a ++ b) := by
  apply ByteArray.ext
  simp [bs]
set_option maxHeartbeats 400000 in
theorem digits_any (u : Nat) : ∀ (w : World), (u : Int) ≤ 9223372036854775808 →
    Calls Tryz.prog 84 #[.int .i64 (-(u : Int))] w fun e w' => e = .returned (.string (bs (Lib.decDigits u))) ∧ w = w' := by
  induction u using Nat.strongRecOn with
  | _ u ih =>
    intro w h
    have IH := Lib.hid ih
    clear ih
    have hq : Hid (Lib.decDigits u = if u < 10 then [UInt8.ofNat (48 + u % 10)] else Lib.decDigits (u / 10) ++ [UInt8.ofNat (48 + u % 10)]) := by
      unfold Hid
      by_cases hu : u < 10
      · rw [if_pos hu, Lib.decDigits_one hu, Nat.mod_eq_of_lt hu]
      · rw [if_neg hu]
        rw [Lib.decDigits, dif_neg hu]
    by_cases hu : u < 10
    · go_enter Tryz.func84, Tryz.ntmps84
      go_wp2_with fail
      go_ret
      exact ⟨ret_str (by rw [hq.out, if_pos hu]; exact enc_digit u), rfl⟩
    · go_enter Tryz.func84, Tryz.ntmps84
      go_wp2_with fail
      rw [show ((u : Int) / 10) = ((u / 10 : Nat) : Int) from by omega]
      refine (IH.out (u / 10) (by omega) _ (by omega)).mono ?_
      rintro e w' ⟨rfl, rfl⟩
      have hl : (bs (Lib.decDigits (u / 10))).size ≤ 20 := by
        rw [bs_size, Lib.decDigits_length]
        exact Lib.nDigits_le20 _ (by omega)
      have hl2 : (Utf8.encode (48 + (u : Int) % 10)).size ≤ 1 := by rw [enc_digit, bs_size]; simp
      clear h
      go_wp2_with fail
      go_ret
      exact ⟨ret_str (by rw [hq.out, if_neg hu, ← bs_append, enc_digit]), rfl⟩
set_option maxHeartbeats 400000 in
theorem rInt (n : Int) (w : World) (hn : I64 n) :
    Calls Tryz.prog 29 #[.int .i64 n] w fun e w' => e = .returned (.string (bs (Lib.itoa n))) ∧ w = w' := by
  unfold I64 at hn
  by_cases h0 : n < 0
  · obtain ⟨u, rfl⟩ : ∃ u : Nat, n = -(u : Int) := ⟨n.natAbs, by omega⟩
    have hu : 1 ≤ u := by omega
    have hb : (u : Int) ≤ 9223372036854775808 := by omega
    clear hn
    go_enter Tryz.func29, Tryz.ntmps29
    go_wp2_with fail
    refine (digits_any u _ hb).mono ?_
    rintro e w' ⟨rfl, rfl⟩
    have hl : (bs (Lib.decDigits u)).size ≤ 20 := by
      rw [bs_size, Lib.decDigits_length]
      exact Lib.nDigits_le20 _ (by omega)
    clear hb
    go_wp2_with fail
    go_ret
    exact ⟨ret_str (by rw [Lib.itoa_neg u hu]; rfl), rfl⟩
  · obtain ⟨u, rfl⟩ : ∃ u : Nat, n = (u : Int) := ⟨n.toNat, by omega⟩
    have hb : (u : Int) ≤ 9223372036854775807 := by omega
    clear hn
    go_enter Tryz.func29, Tryz.ntmps29
    go_wp2_with fail
    refine (digits_any u _ (by omega)).mono ?_
    rintro e w' ⟨rfl, rfl⟩
    clear hb
    go_wp2_with fail
    go_ret
    exact ⟨ret_str (by rw [Lib.itoa_nonneg u]), rfl⟩

theorem str_beq_true {a b : ByteArray} (h : a.data.toList = b.data.toList) : (a.toList == b.toList) = true := by
  rw [ByteArray.toList_eq, ByteArray.toList_eq, h]; simp
theorem str_beq_false {a b : ByteArray} (h : a.data.toList ≠ b.data.toList) : (a.toList == b.toList) = false := by
  rw [ByteArray.toList_eq, ByteArray.toList_eq]; simpa using h
/-- sheet.ReadInt. -/
def rdRes (l : List UInt8) : Value := .tuple #[.int .i64 ((rdInt l).getD 0), .int .i64 (if (rdInt l).isSome then 0 else 7)]
set_option maxHeartbeats 400000 in
theorem sReadInt (s : ByteArray) (w : World) (hs : s.size ≤ 1000000) (he : Env w) :
    Calls Tryz.prog 20 #[.string s] w fun e w' => e = .returned (rdRes s.data.toList) ∧ Below w.heap.size w w' := by
  have HE := Lib.hid he
  clear he
  cases ha : Lib.atoiAll s.data.toList with
  | ok v =>
    have HA := Lib.hid ha
    have HV : Hid (I64 v) := Lib.atoiAll_bounds ha
    clear ha
    go_enter Tryz.func20, Tryz.ntmps20
    go_wp2_with fail
    refine (Tryz.strconv_Atoi_ok s (by omega) v HA.out w).mono ?_
    rintro e w1 ⟨rfl, hw⟩
    have hb : Below w.heap.size w w1 := by
      rcases hw with rfl | ⟨t, rfl⟩
      · exact Below.refl _ _
      · exact Lib.bytesWorld_below _ _ _
    have HE1 := Lib.hid (HE.out.next hb)
    clear hw
    go_wp2_with fail
    refine (sInt v _ HV.out HE1.out).mono ?_
    rintro e w2 ⟨rfl, hb2⟩
    have HB := Lib.hid (hb.trans (hb2.mono hb.size))
    clear hb hb2 HE1
    by_cases hv : Lib.itoa v = s.data.toList
    · have e2 : ((bs (Lib.itoa v)).toList == s.toList) = true := str_beq_true hv
      have HR : Hid (rdInt s.data.toList = some v) := by unfold Hid rdInt; rw [HA.out]; simp [hv]
      clear hv
      go_wp2_with fail
      go_ret2
      exact ⟨by unfold rdRes; rw [HR.out]; rfl, HB.out⟩
    · have e2 : ((bs (Lib.itoa v)).toList == s.toList) = false := str_beq_false hv
      have HR : Hid (rdInt s.data.toList = none) := by unfold Hid rdInt; rw [HA.out]; simp [hv]
      clear hv
      go_wp2_with fail
      go_ret2
      exact ⟨by unfold rdRes; rw [HR.out]; rfl, HB.out⟩
  | «syntax» =>
    have HA := Lib.hid ha
    have HR : Hid (rdInt s.data.toList = none) := by unfold Hid rdInt; rw [HA.out]
    clear ha
    obtain ⟨tp, p, hv⟩ := HE.out.syn
    have HV := Lib.hid hv
    clear hv
    go_enter Tryz.func20, Tryz.ntmps20
    go_wp2_with fail
    refine (Tryz.strconv_Atoi_syntax_var s (by omega) HA.out tp p w HV.out).mono ?_
    rintro e w1 ⟨N, rfl, _, _, hb⟩
    have HB := Lib.hid hb
    clear hb
    go_wp2_with fail
    go_ret2
    exact ⟨by unfold rdRes; rw [HR.out]; rfl, HB.out⟩
  | range =>
    have HA := Lib.hid ha
    have HR : Hid (rdInt s.data.toList = none) := by unfold Hid rdInt; rw [HA.out]
    clear ha
    obtain ⟨tp, p, hv⟩ := HE.out.rng
    have HV := Lib.hid hv
    clear hv
    go_enter Tryz.func20, Tryz.ntmps20
    go_wp2_with fail
    refine (Tryz.strconv_Atoi_range_var s (by omega) HA.out tp p w HV.out).mono ?_
    rintro e w1 ⟨N, rfl, _, _, hb⟩
    have HB := Lib.hid hb
    clear hb
    go_wp2_with fail
    go_ret2
    exact ⟨by unfold rdRes; rw [HR.out]; rfl, HB.out⟩
