/-
  Plain facts on decimal numerals: what is read of what is written. No condition.
-/
import Derived.Lib.Itoa
import Derived.Lib.ItoaNum
import Derived.Lib.ItoaMem
import Derived.Lib.AtoiAll
import Derived.Lib.AtoiAllCases
namespace Go.Proofs.YtmfhpddeclggfaaGreatDoor
open Go Go.Lib

theorem toNat_digit (d : Nat) (h : d < 10) : (UInt8.ofNat (48 + d)).toNat = 48 + d := by
  simp [UInt8.toNat_ofNat']; omega

/-- One more digit at the end. -/
theorem parse_snoc : ∀ (l : List UInt8) (a v d : Nat), parseUint10 a l = .ok v → d < 10 → v * 10 + d < 18446744073709551616 →
    parseUint10 a (l ++ [UInt8.ofNat (48 + d)]) = .ok (v * 10 + d)
  | [], a, v, d, h, hd, hv => by
    simp only [parseUint10] at h
    injection h with h
    subst h
    have e := toNat_digit d hd
    simp only [List.nil_append, parseUint10, e]
    rw [if_pos (by omega), if_neg (by omega), if_neg (by omega)]
    congr 1
    omega
  | c :: r, a, v, d, h, hd, hv => by
    simp only [parseUint10] at h
    simp only [List.cons_append, parseUint10]
    split at h
    · rename_i hc
      rw [if_pos hc]
      split at h
      · cases h
      · rename_i h1
        rw [if_neg h1]
        split at h
        · cases h
        · rename_i h2
          rw [if_neg h2]
          exact parse_snoc r _ v d h hd hv
    · cases h

theorem parse_decDigits (u : Nat) (h : u < 18446744073709551616) : parseUint10 0 (decDigits u) = .ok u := by
  induction u using Nat.strongRecOn with
  | _ u ih =>
    by_cases hu : u < 10
    · rw [decDigits_one hu]
      have := parse_snoc [] 0 0 u (by simp [parseUint10]) hu (by omega)
      simpa using this
    · rw [decDigits, dif_neg hu]
      have := parse_snoc _ 0 (u / 10) (u % 10) (ih (u / 10) (by omega) (by omega)) (by omega) (by omega)
      rw [this]
      congr 1
      omega

theorem decDigits_ne (u : Nat) : decDigits u ≠ [] := by
  intro e
  have := decDigits_length u
  rw [e] at this
  have := nDigits_pos u
  simp at *
  omega

theorem decDigits_byte (u : Nat) : ∀ c ∈ decDigits u, 48 ≤ c.toNat ∧ c.toNat ≤ 57 := by
  induction u using Nat.strongRecOn with
  | _ u ih =>
    intro c hc
    by_cases hu : u < 10
    · rw [decDigits_one hu] at hc
      simp only [List.mem_singleton] at hc
      subst hc
      rw [toNat_digit u hu]; omega
    · rw [decDigits, dif_neg hu] at hc
      rcases List.mem_append.1 hc with hc | hc
      · exact ih (u / 10) (by omega) c hc
      · simp only [List.mem_singleton] at hc
        subst hc
        rw [toNat_digit _ (by omega)]; omega

theorem parseMag_decDigits (u : Nat) (h : u < 18446744073709551616) : parseMag (decDigits u) = .ok u := by
  unfold parseMag
  rw [if_neg (decDigits_ne u), parse_decDigits u h]

/-- Atoi of Itoa. -/
theorem atoi_itoa (n : Int) (h0 : -9223372036854775808 ≤ n) (h1 : n ≤ 9223372036854775807) : atoiAll (itoa n) = .ok n := by
  by_cases hn : n < 0
  · have e : itoa n = 45 :: decDigits n.natAbs := by unfold itoa; rw [if_pos hn]
    rw [e, atoiAll]
    have h45 : (45 : UInt8).toNat = 45 := rfl
    simp only [h45]
    rw [if_pos (Or.inr trivial), parseMag_decDigits _ (by omega)]
    simp only
    rw [if_neg (by simp), if_neg (by omega)]
    simp only [if_true]
    congr 1
    omega
  · have e : itoa n = decDigits n.toNat := by unfold itoa; rw [if_neg hn]
    rw [e]
    cases hd : decDigits n.toNat with
    | nil => exact absurd hd (decDigits_ne _)
    | cons c r =>
      have hc := decDigits_byte n.toNat c (by rw [hd]; simp)
      rw [atoiAll]
      rw [if_neg (by omega), ← hd, parseMag_decDigits _ (by omega)]
      simp only
      rw [if_neg (by omega), if_neg (by omega), if_neg (by omega)]
      congr 1
      omega

theorem itoa_inj {n m : Int} (hn0 : -9223372036854775808 ≤ n) (hn1 : n ≤ 9223372036854775807) (hm0 : -9223372036854775808 ≤ m) (hm1 : m ≤ 9223372036854775807)
    (h : itoa n = itoa m) : n = m := by
  have a := atoi_itoa n hn0 hn1
  rw [h, atoi_itoa m hm0 hm1] at a
  injection a with a
  exact a.symm

/-- The integer that a word is. -/
def rdInt (l : List UInt8) : Option Int :=
  match atoiAll l with
  | .ok v => if itoa v = l then some v else none
  | _ => none

theorem rdInt_itoa (n : Int) (h0 : -9223372036854775808 ≤ n) (h1 : n ≤ 9223372036854775807) : rdInt (itoa n) = some n := by
  unfold rdInt; rw [atoi_itoa n h0 h1]; simp

theorem rdInt_some {l : List UInt8} {v : Int} (h : rdInt l = some v) : itoa v = l ∧ -9223372036854775808 ≤ v ∧ v ≤ 9223372036854775807 := by
  unfold rdInt at h
  cases ha : atoiAll l with
  | ok u =>
    rw [ha] at h
    simp only at h
    split at h
    · rename_i he
      injection h with h
      subst h
      exact ⟨he, atoiAll_bounds ha⟩
    · cases h
  | «syntax» => rw [ha] at h; cases h
  | range => rw [ha] at h; cases h

theorem rdInt_none {l : List UInt8} (h : rdInt l = none) (v : Int) (h0 : -9223372036854775808 ≤ v) (h1 : v ≤ 9223372036854775807) : itoa v ≠ l := by
  intro e
  rw [← e, rdInt_itoa v h0 h1] at h
  cases h
end Go.Proofs.YtmfhpddeclggfaaGreatDoor
