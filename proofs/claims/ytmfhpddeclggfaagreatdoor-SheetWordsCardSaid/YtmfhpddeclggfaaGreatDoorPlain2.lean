/-
  Plain facts on reading numerals by wrapping sums. No condition.
-/
import Derived.Test.YtmfhpddeclggfaaGreatDoorPlain
import Derived.RowKit
import Derived.Lib.ItoaLen
namespace Go.Proofs.YtmfhpddeclggfaaGreatDoor
open Go Go.Lib Go.RowKit
def rstep (c : UInt8) (n : Int) : Option Int :=
  if 48 ≤ c.toNat ∧ c.toNat ≤ 57 then some (wrap64 (wrap64 (n * 10) - ((c.toNat : Int) - 48))) else none
def racc : List UInt8 → Int → Option Int
  | [], n => some n
  | c :: r, n => (rstep c n).bind (racc r)
theorem racc_append : ∀ (a b : List UInt8) (n : Int), racc (a ++ b) n = (racc a n).bind (racc b)
  | [], b, n => rfl
  | c :: r, b, n => by
    simp only [List.cons_append, racc]
    cases rstep c n with
    | none => rfl
    | some m => exact racc_append r b m
theorem racc_dec (u : Nat) (h : u ≤ 9223372036854775808) : racc (decDigits u) 0 = some (-(u : Int)) := by
  induction u using Nat.strongRecOn with
  | _ u ih =>
    have st : ∀ (q d : Nat), d < 10 → q * 10 + d ≤ 9223372036854775808 → racc [UInt8.ofNat (48 + d)] (-(q : Int)) = some (-((q * 10 + d : Nat) : Int)) := by
      intro q d hd hq
      have e := toNat_digit d hd
      simp only [racc, rstep, e]
      rw [if_pos (by omega)]
      simp only [Option.bind_some]
      congr 1
      unfold wrap64
      omega
    by_cases hu : u < 10
    · rw [decDigits_one hu]
      have := st 0 u hu (by omega)
      simpa using this
    · rw [decDigits, dif_neg hu, racc_append, ih (u / 10) (by omega) (by omega)]
      simp only [Option.bind_some]
      rw [st (u / 10) (u % 10) (by omega) (by omega)]
      congr 2
      omega
/-- The loop of the specification, k bytes along. -/
def rfold (l : List UInt8) : Nat → Option Int
  | 0 => some 0
  | k + 1 => match rfold l k with
    | none => none
    | some n => if k = 0 ∧ l[0]? = some 45 then some n
      else match l[k]? with
        | none => none
        | some c => rstep c n
theorem rfold_minus (r : List UInt8) : ∀ k, k ≤ r.length → rfold (45 :: r) (k + 1) = racc (r.take k) 0
  | 0, _ => by simp [rfold, racc]
  | k + 1, h => by
    rw [rfold, rfold_minus r k (by omega)]
    rw [List.take_succ_eq_append_getElem (by omega), racc_append]
    cases racc (r.take k) 0 with
    | none => rfl
    | some n =>
      simp only [Option.bind_some, racc]
      rw [if_neg (by omega)]
      simp only [List.getElem?_cons_succ]
      rw [List.getElem?_eq_getElem (by omega)]
      simp only
      cases rstep r[k] n <;> rfl
theorem rfold_plain (l : List UInt8) (h0 : l[0]? ≠ some 45) : ∀ k, k ≤ l.length → rfold l k = racc (l.take k) 0
  | 0, _ => by simp [rfold, racc]
  | k + 1, h => by
    rw [rfold, rfold_plain l h0 k (by omega)]
    rw [List.take_succ_eq_append_getElem (by omega), racc_append]
    cases racc (l.take k) 0 with
    | none => rfl
    | some n =>
      simp only [Option.bind_some, racc]
      rw [if_neg (by intro e; exact h0 e.2)]
      rw [List.getElem?_eq_getElem (by omega)]
      simp only
      cases rstep l[k] n <;> rfl
/-- What the loop comes to, with its sign. -/
def rfin (l : List UInt8) (m : Int) : Int := if l[0]? = some 45 then m else wrap64 (-m)
theorem rfold_itoa (v : Int) (h0 : -9223372036854775808 ≤ v) (h1 : v ≤ 9223372036854775807) : ∃ m, rfold (itoa v) (itoa v).length = some m ∧ rfin (itoa v) m = v := by
  by_cases hv : v < 0
  · obtain ⟨u, rfl⟩ : ∃ u : Nat, v = -(u : Int) := ⟨v.natAbs, by omega⟩
    rw [itoa_neg u (by omega)]
    refine ⟨-(u : Int), ?_, by simp [rfin]⟩
    rw [List.length_cons, rfold_minus _ _ (Nat.le_refl _), List.take_length, racc_dec u (by omega)]
  · obtain ⟨u, rfl⟩ : ∃ u : Nat, v = (u : Int) := ⟨v.toNat, by omega⟩
    rw [itoa_nonneg u]
    have hne : (decDigits u)[0]? ≠ some 45 := by
      intro e
      have := decDigits_byte u 45 (List.mem_of_getElem? e)
      simp at this
    refine ⟨-(u : Int), ?_, ?_⟩
    · rw [rfold_plain _ hne _ (Nat.le_refl _), List.take_length, racc_dec u (by omega)]
    · unfold rfin
      rw [if_neg hne]
      unfold wrap64
      omega
theorem rfold_bounds (l : List UInt8) : ∀ k m, rfold l k = some m → -9223372036854775808 ≤ m ∧ m ≤ 9223372036854775807
  | 0, m, h => by simp only [rfold, Option.some.injEq] at h; omega
  | k + 1, m, h => by
    simp only [rfold] at h
    cases hk : rfold l k with
    | none => rw [hk] at h; cases h
    | some n =>
      rw [hk] at h
      simp only at h
      split at h
      · injection h with h; subst h; exact rfold_bounds l k n hk
      · cases hc : l[k]? with
        | none => rw [hc] at h; cases h
        | some c =>
          rw [hc] at h
          simp only [rstep] at h
          split at h
          · injection h with h; subst h; unfold wrap64; omega
          · cases h
theorem rfin_bounds {l : List UInt8} {k : Nat} {m : Int} (h : rfold l k = some m) : -9223372036854775808 ≤ rfin l m ∧ rfin l m ≤ 9223372036854775807 := by
  unfold rfin
  split
  · exact rfold_bounds l k m h
  · unfold wrap64; omega
theorem rdInt_of_fold_none {l : List UInt8} (h : rfold l l.length = none) : rdInt l = none := by
  cases hr : rdInt l with
  | none => rfl
  | some v =>
    obtain ⟨e, b0, b1⟩ := rdInt_some hr
    obtain ⟨m, hm, _⟩ := rfold_itoa v b0 b1
    rw [e] at hm
    rw [h] at hm
    cases hm
theorem rdInt_of_fold_yes {l : List UInt8} {m : Int} (h : rfold l l.length = some m) (he : itoa (rfin l m) = l) : rdInt l = some (rfin l m) := by
  obtain ⟨b0, b1⟩ := rfin_bounds h
  have := rdInt_itoa _ b0 b1
  rwa [he] at this
theorem rdInt_of_fold_no {l : List UInt8} {m : Int} (h : rfold l l.length = some m) (he : itoa (rfin l m) ≠ l) : rdInt l = none := by
  cases hr : rdInt l with
  | none => rfl
  | some v =>
    obtain ⟨e, b0, b1⟩ := rdInt_some hr
    obtain ⟨m', hm, hf⟩ := rfold_itoa v b0 b1
    rw [e] at hm hf
    rw [h] at hm
    injection hm with hm
    subst hm
    rw [hf] at he
    exact absurd e he
theorem itoa_len (v : Int) (h0 : -9223372036854775808 ≤ v) (h1 : v ≤ 9223372036854775807) : 1 ≤ (itoa v).length ∧ (itoa v).length ≤ 20 := by
  have nd : ∀ u : Nat, u < 10 ^ 19 → nDigits u ≤ 19 := by
    intro u hu
    by_cases hs : 10 ^ 18 ≤ u
    · rw [nDigits_unique 18 u hs hu]; omega
    · have : ∀ k u, u < 10 ^ (k + 1) → nDigits u ≤ k + 1 := by
        intro k
        induction k with
        | zero => intro u h; rw [nDigits_small (by simpa using h)]; omega
        | succ k ih =>
          intro u h
          by_cases hb : u < 10 ^ (k + 1)
          · have := ih u hb; omega
          · rw [nDigits_unique (k + 1) u (by omega) h]; omega
      have := this 17 u (by omega)
      omega
  by_cases hv : v < 0
  · obtain ⟨u, rfl⟩ : ∃ u : Nat, v = -(u : Int) := ⟨v.natAbs, by omega⟩
    rw [itoa_neg u (by omega), List.length_cons, decDigits_length]
    have := nd u (by omega)
    omega
  · obtain ⟨u, rfl⟩ : ∃ u : Nat, v = (u : Int) := ⟨v.toNat, by omega⟩
    rw [itoa_nonneg u, decDigits_length]
    have := nd u (by omega)
    have := nDigits_pos u
    omega
theorem rdInt_long {l : List UInt8} (h : ¬ (1 ≤ l.length ∧ l.length ≤ 20)) : rdInt l = none := by
  cases hr : rdInt l with
  | none => rfl
  | some v =>
    obtain ⟨e, b0, b1⟩ := rdInt_some hr
    have := itoa_len v b0 b1
    rw [e] at this
    exact absurd this h
end Go.Proofs.YtmfhpddeclggfaaGreatDoor
