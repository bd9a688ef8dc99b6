import Derived.Test.YtmfhpddeclggfaaGreatDoorNum
import Derived.Test.YtmfhpddeclggfaaGreatDoorPlain2
import Derived.WalkKit
import Derived.LoopTactic
import Derived.WalkSpells
import Derived.WalkLawsBesides
import Derived.Lib.Hide
import Derived.BigQuiet
import Derived.Deep.QuietTactic
namespace Go.Proofs.YtmfhpddeclggfaaGreatDoor
open Go.RowKit
theorem in_yes (n lo hi : Int) (w : World) (h1 : lo ≤ n) (h2 : n ≤ hi) :
   Calls Tryz.prog 77 #[.int .i64 n, .int .i64 lo, .int .i64 hi] w fun e w' => e = .returned (.bool true) ∧ w = w' :=
  (in_any n lo hi w).mono fun e w' ⟨a, b⟩ => ⟨by rw [a]; simp [h1, h2], b⟩
theorem in_no (n lo hi : Int) (w : World) (h : n < lo ∨ hi < n) :
   Calls Tryz.prog 77 #[.int .i64 n, .int .i64 lo, .int .i64 hi] w fun e w' => e = .returned (.bool false) ∧ w = w' :=
  (in_any n lo hi w).mono fun e w' ⟨a, b⟩ => ⟨by rw [a]; simp; omega, b⟩
theorem rfold_mono (l : List UInt8) (k n : Nat) (h : rfold l k = none) (hn : k ≤ n) : rfold l n = none := by
  induction n with
  | zero => rw [show (0 : Nat) = k by omega]; exact h
  | succ n ih =>
    by_cases e : k = n + 1
    · rw [← e]; exact h
    · rw [rfold, ih (by omega)]
theorem at_list (s : ByteArray) (k : Nat) (h : k < s.size) : s.data.toList[k]? = some s[k] := by
  rw [List.getElem?_eq_getElem (by simpa using h)]; rfl
theorem wrap_byte (c : UInt8) : wrap64 (c.toNat : Int) = c.toNat := by have := c.toNat_lt; unfold wrap64; omega
theorem rfold_go (s : ByteArray) (k : Nat) (m : Int) (hk : k < s.size) (h : rfold s.data.toList k = some m) (h0 : ¬ (k = 0 ∧ s.data.toList[0]? = some 45))
    (hd : (!decide (48 ≤ wrap64 (s[k].toNat : Int))) = false ∧ (!decide (wrap64 (s[k].toNat : Int) ≤ 57)) = false) :
    rfold s.data.toList (k + 1) = some (wrap64 (wrap64 (m * 10) - ((s[k].toNat : Int) - 48) % 256)) := by
  rw [wrap_byte] at hd
  rw [rfold, h]
  simp only
  rw [if_neg h0, at_list s k hk]
  simp only [rstep]
  simp at hd
  rw [if_pos (by omega)]
  congr 2
  omega
theorem rfold_stop (s : ByteArray) (k : Nat) (m : Int) (hk : k < s.size) (h : rfold s.data.toList k = some m) (h0 : ¬ (k = 0 ∧ s.data.toList[0]? = some 45))
    (hd : (!decide (48 ≤ wrap64 (s[k].toNat : Int))) = true ∨ (!decide (wrap64 (s[k].toNat : Int) ≤ 57)) = true) :
    rfold s.data.toList s.data.toList.length = none := by
  rw [wrap_byte] at hd
  refine rfold_mono _ (k + 1) _ ?_ (by simp; omega)
  rw [rfold, h]
  simp only
  rw [if_neg h0, at_list s k hk]
  simp only [rstep]
  simp at hd
  rw [if_neg (by omega)]
theorem is45 (s : ByteArray) (h : 0 < s.size) (e : ((s[0].toNat : Int) == 45) = true) : s.data.toList[0]? = some 45 := by
  rw [at_list s 0 h]
  have e1 : (s[0].toNat : Int) = 45 := by simpa using e
  have : s[0].toNat = 45 := by omega
  exact congrArg some (UInt8.toNat_inj.1 this)
theorem not45 (s : ByteArray) (h : 0 < s.size) (e : ((s[0].toNat : Int) == 45) = false) : ¬ s.data.toList[0]? = some 45 := by
  rw [at_list s 0 h]
  intro e2
  injection e2 with e2
  rw [e2] at e
  simp at e
theorem rfold_sign (s : ByteArray) (m : Int) (h : rfold s.data.toList 0 = some m) (h45 : s.data.toList[0]? = some 45) : rfold s.data.toList (0 + 1) = some m := by
  have e : rfold s.data.toList (0 + 1) = match rfold s.data.toList 0 with
    | none => none
    | some n => if (0 : Nat) = 0 ∧ s.data.toList[0]? = some 45 then some n
      else match s.data.toList[0]? with
        | none => none
        | some c => rstep c n := rfl
  rw [e, h]
  exact if_pos ⟨rfl, h45⟩
def rdNum (l : List UInt8) : Value := .agg #[.int .i64 ((rdInt l).getD 0), .int .i64 (if (rdInt l).isSome then 0 else 7)]
theorem rdNum_none {l : List UInt8} (h : rdInt l = none) : rdNum l = .agg #[.int .i64 0, .int .i64 7] := by unfold rdNum; rw [h]; rfl
theorem rdNum_some {l : List UInt8} {v : Int} (h : rdInt l = some v) : rdNum l = .agg #[.int .i64 v, .int .i64 0] := by unfold rdNum; rw [h]; rfl
set_option maxHeartbeats 1000000 in
theorem rReadInt (s : ByteArray) (w : World) (hs : s.size ≤ maxLen) :
    Calls Tryz.prog 21 #[.string s] w fun e w' => e = .returned (rdNum s.data.toList) ∧ Below w.heap.size w w' := by
  unfold maxLen at hs
  by_cases h12 : 1 ≤ s.size ∧ s.size ≤ 20
  · obtain ⟨h1, h2⟩ := h12
    go_enter Tryz.func21, Tryz.ntmps21
    go_wp2_with (go_at_call 77; refine (in_yes _ _ _ _ (by omega) (by omega)).mono ?_; rintro e w' ⟨rfl, rfl⟩)
    go_loop [3, 4] (fun n i => ∃ (k : Nat) (m : Int), k ≤ s.size ∧ i = .int .i64 k ∧ n = .int .i64 m ∧ Hid (rfold s.data.toList k = some m)) (fun _ i => s.size - (intOf i).toNat)
    case atStart => exact ⟨0, 0, Nat.zero_le _, rfl, rfl, rfl⟩
    case round =>
      obtain ⟨k, m, hk, rfl, rfl, hr⟩ := hrel
      by_cases hlt : k < s.size
      · by_cases h0 : k = 0
        · subst h0
          go_wp2_with (go_at_call 77; refine (in_any _ _ _ _).mono ?_; rintro e w' ⟨rfl, rfl⟩)
          · go_round
            case rel => exact ⟨1, m, by omega, rfl, rfl, rfold_sign s m hr.out (is45 s hlt ‹_›)⟩
            case measure => simp [intOf]; omega
          · refine bodyPost_ret (v := .agg #[.int .i64 0, .int .i64 7]) (by simp [results, Tryz.results21, go_sem]) rfl ⟨?_, below_alloc1 _ _⟩
            rw [rdNum_none (rdInt_of_fold_none (rfold_stop s 0 m hlt hr.out (fun e => not45 s hlt ‹_› e.2) ‹_›))]
          · go_round
            case rel => exact ⟨1, _, by omega, rfl, rfl, rfold_go s 0 m hlt hr.out (fun e => not45 s hlt ‹_› e.2) ‹_›⟩
            case measure => simp [intOf]; omega
        · have h0' : ((k : Int) == 0) = false := by simpa using h0
          have hn0 : Hid (¬ (k = 0 ∧ s.data.toList[0]? = some 45)) := fun e => h0 e.1
          go_wp2_with (go_at_call 77; refine (in_any _ _ _ _).mono ?_; rintro e w' ⟨rfl, rfl⟩)
          · refine bodyPost_ret (v := .agg #[.int .i64 0, .int .i64 7]) (by simp [results, Tryz.results21, go_sem]) rfl ⟨?_, below_alloc1 _ _⟩
            rw [rdNum_none (rdInt_of_fold_none (rfold_stop s k m hlt hr.out hn0.out ‹_›))]
          · go_round
            case rel => exact ⟨k + 1, _, by omega, by go_num, rfl, rfold_go s k m hlt hr.out hn0.out ‹_›⟩
            case measure => simp [intOf]; omega
      · obtain rfl : k = s.size := by omega
        have hB := rfin_bounds hr.out
        have hr' : rfold s.data.toList s.data.toList.length = some m := by simpa using hr.out
        have HR := Lib.hid hr'
        have HB := Lib.hid hB
        clear hr hr' hB
        by_cases h45 : s.data.toList[0]? = some 45
        · have h46 : ((s[0].toNat : Int) != 45) = false := by
            have := at_list s 0 (by omega)
            rw [this] at h45
            injection h45 with h45
            rw [h45]; rfl
          have hf : rfin s.data.toList m = m := by unfold rfin; rw [if_pos h45]
          have HF := Lib.hid hf
          clear hf h45
          go_wp2_with fail
          refine (rInt m _ (by have := HB.out; rw [HF.out] at this; exact this)).mono ?_
          rintro e w' ⟨rfl, rfl⟩
          by_cases hv : Lib.itoa m = s.data.toList
          · have e2 : ((bs (Lib.itoa m)).toList == s.toList) = true := str_beq_true hv
            have HV := Lib.hid hv
            clear hv
            go_wp2_with fail
            refine bodyPost_ret (v := .agg #[.int .i64 m, .int .i64 0]) (by simp [results, Tryz.results21, go_sem]) rfl ⟨?_, below_alloc1 _ _⟩
            have := rdInt_of_fold_yes HR.out (by rw [HF.out]; exact HV.out)
            rw [rdNum_some this, HF.out]
          · have e2 : ((bs (Lib.itoa m)).toList == s.toList) = false := str_beq_false hv
            have HV := Lib.hid hv
            clear hv
            go_wp2_with fail
            refine bodyPost_ret (v := .agg #[.int .i64 0, .int .i64 7]) (by simp [results, Tryz.results21, go_sem]) rfl ⟨?_, below_alloc1 _ _⟩
            have := rdInt_of_fold_no HR.out (by rw [HF.out]; exact HV.out)
            rw [rdNum_none this]
        · have h46 : ((s[0].toNat : Int) != 45) = true := by
            have := at_list s 0 (by omega)
            rw [this] at h45
            rw [bne_iff_ne]
            intro e
            exact h45 (congrArg some (UInt8.toNat_inj.1 (show s[0].toNat = 45 by omega)))
          have hf : rfin s.data.toList m = wrap64 (-m) := by unfold rfin; rw [if_neg h45]
          have HF := Lib.hid hf
          clear hf h45
          go_wp2_with fail
          refine (rInt (wrap64 (-m)) _ (by have := HB.out; rw [HF.out] at this; exact this)).mono ?_
          rintro e w' ⟨rfl, rfl⟩
          by_cases hv : Lib.itoa (wrap64 (-m)) = s.data.toList
          · have e2 : ((bs (Lib.itoa (wrap64 (-m)))).toList == s.toList) = true := str_beq_true hv
            have HV := Lib.hid hv
            clear hv
            go_wp2_with fail
            refine bodyPost_ret (v := .agg #[.int .i64 (wrap64 (-m)), .int .i64 0]) (by simp [results, Tryz.results21, go_sem]) rfl ⟨?_, below_alloc1 _ _⟩
            have := rdInt_of_fold_yes HR.out (by rw [HF.out]; exact HV.out)
            rw [rdNum_some this, HF.out]
          · have e2 : ((bs (Lib.itoa (wrap64 (-m)))).toList == s.toList) = false := str_beq_false hv
            have HV := Lib.hid hv
            clear hv
            go_wp2_with fail
            refine bodyPost_ret (v := .agg #[.int .i64 0, .int .i64 7]) (by simp [results, Tryz.results21, go_sem]) rfl ⟨?_, below_alloc1 _ _⟩
            have := rdInt_of_fold_no HR.out (by rw [HF.out]; exact HV.out)
            rw [rdNum_none this]
  · go_enter Tryz.func21, Tryz.ntmps21
    go_wp2_with (go_at_call 77; refine (in_no _ _ _ _ (by omega)).mono ?_; rintro e w' ⟨rfl, rfl⟩)
    refine bodyPost_ret (v := .agg #[.int .i64 0, .int .i64 7]) (by simp [results, Tryz.results21, go_sem]) rfl ⟨?_, below_alloc1 _ _⟩
    rw [rdNum_none (rdInt_long (by simp; omega))]
end Go.Proofs.YtmfhpddeclggfaaGreatDoor
