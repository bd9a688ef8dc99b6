import Derived.Test.YtmfhpddeclggfaaGreatDoorROverlay
import Derived.WalkKit
import Derived.LoopTactic
import Derived.WalkSpells
import Derived.WalkLawsBesides
import Derived.Lib.Hide
import Derived.BigQuiet
import Derived.IntWalk
import Derived.Deep.DeepMust
import Derived.WalkSmall
import Derived.StillTailTactics
import Derived.Lib.SlBytesConst
import Derived.Deep.RegionLaw
import Derived.Deep.QuietTactic
namespace Go.Proofs.YtmfhpddeclggfaaGreatDoor
open Go.RowKit
theorem lastB_mem (l : List UInt8) : lastB l ≠ 63 → lastB l ∈ l := by
  induction l using snoc_ind with
  | h0 => intro h; exact absurd rfl h
  | h1 l c ih =>
    rw [lastB_snoc]
    by_cases h : c = 63
    · rw [if_pos h]; intro h2; exact List.mem_append_left _ (ih h2)
    · rw [if_neg h]; intro _; exact List.mem_append_right _ (List.mem_singleton.2 rfl)
theorem lastB_char {l : List UInt8} {a : UInt8} (h : ∀ c ∈ l, c = 63 ∨ c = a) (ha : a = 63 ∨ a ∈ l) : lastB l = a := by
  by_cases h1 : lastB l = 63
  · rcases ha with h2 | h2
    · rw [h1, h2]
    · rw [h1, lastB_63 l h1 a h2]
  · rcases h _ (lastB_mem l h1) with h2 | h2
    · exact absurd h2 h1
    · exact h2
/-- What a column shows is a matter of its bytes, not of their order. -/
theorem one_perm {l r : List UInt8} (hm : ∀ c, c ∈ l ↔ c ∈ r) (h : oneB l = true) : oneB r = true ∧ lastB r = lastB l := by
  have h1 := (oneB_iff l).1 h
  have h2 : ∀ c ∈ r, c = 63 ∨ c = lastB l := fun c hc => h1 c ((hm c).2 hc)
  have h3 : lastB r = lastB l := lastB_char h2 (by
    by_cases e : lastB l = 63
    · exact Or.inl e
    · exact Or.inr ((hm _).1 (lastB_mem l e)))
  exact ⟨(oneB_iff r).2 (by rw [h3]; exact h2), h3⟩
theorem one_perm_eq {l r : List UInt8} (hm : ∀ c, c ∈ l ↔ c ∈ r) : oneB l = oneB r := by
  cases h : oneB l with
  | true => exact (one_perm hm h).1.symm
  | false =>
    cases h2 : oneB r with
    | false => rfl
    | true => rw [(one_perm (fun c => (hm c).symm) h2).1] at h; cases h
theorem colOf_rev (ts : List ByteArray) (k c) : c ∈ colOf ts k ↔ c ∈ colOf ts.reverse k := by simp [colOf]
theorem ovVal_rev (ts : List ByteArray) (n : Nat) : ovVal ts.reverse n = ovVal ts n := by
  unfold ovVal
  have h1 : ∀ k, oneB (colOf ts.reverse k) = oneB (colOf ts k) := fun k => (one_perm_eq (colOf_rev ts k)).symm
  have h2 : (List.range n).all (fun k => oneB (colOf ts.reverse k)) = (List.range n).all (fun k => oneB (colOf ts k)) := by
    congr 1; funext k; exact h1 k
  rw [h2]
  by_cases h : (List.range n).all (fun k => oneB (colOf ts k)) = true
  · rw [if_pos h, if_pos h]
    congr 4
    have : (List.range n).map (fun k => lastB (colOf ts.reverse k)) = (List.range n).map (fun k => lastB (colOf ts k)) := by
      apply List.map_congr_left
      intro k hk
      exact (one_perm (colOf_rev ts k) (List.all_eq_true.1 h k hk)).2
    rw [this]
  · rw [if_neg h, if_neg h]
theorem sameSz_iff (ts : List ByteArray) : sameSz ts = true ↔ ∀ s ∈ ts, ∀ t ∈ ts, s.size = t.size := by
  unfold sameSz
  rw [List.all_eq_true]
  constructor
  · intro h s hs t ht
    rw [eq_of_beq (h s hs), eq_of_beq (h t ht)]
  · intro h s hs
    have hl : 0 < ts.length := List.length_pos_of_mem hs
    exact beq_iff_eq.2 (h s hs _ (getD_mem hl))
theorem ovRes_rev (ts : List ByteArray) : ovRes ts.reverse = ovRes ts := by
  by_cases h0 : ts = []
  · subst h0; rfl
  · have h0' : ts.reverse ≠ [] := by simpa using h0
    have hs : sameSz ts.reverse = sameSz ts := by
      have h1 := sameSz_iff ts
      have h2 := sameSz_iff ts.reverse
      simp only [List.mem_reverse] at h2
      cases h3 : sameSz ts with
      | true => exact h2.2 (h1.1 h3)
      | false =>
        cases h4 : sameSz ts.reverse with
        | false => rfl
        | true => rw [h1.2 (h2.1 h4)] at h3; cases h3
    unfold ovRes
    rw [if_neg h0, if_neg h0', hs]
    by_cases h : sameSz ts = true
    · rw [if_pos h, if_pos h, ovVal_rev]
      have hl : 0 < ts.length := List.length_pos_iff.2 h0
      have hl' : 0 < ts.reverse.length := List.length_pos_iff.2 h0'
      rw [(sameSz_iff ts).1 h _ (List.mem_reverse.1 (getD_mem hl')) _ (getD_mem hl)]
    · rw [if_neg h, if_neg h]
/-- The line that texts show, laid over one of them, stays. -/
theorem over_one (col : List UInt8) (t : UInt8) (h : oneB col = true) (ht : t ∈ col) : oneB [lastB col, t] = true ∧ lastB [lastB col, t] = lastB col := by
  have h1 := (oneB_iff col).1 h
  have h2 : ∀ c ∈ [lastB col, t], c = 63 ∨ c = lastB col := by
    intro c hc
    rcases List.mem_cons.1 hc with e | e
    · exact Or.inr e
    · rw [List.mem_singleton.1 e]; exact h1 t ht
  have h3 : lastB [lastB col, t] = lastB col := lastB_char h2 (Or.inr List.mem_cons_self)
  exact ⟨(oneB_iff _).2 (by rw [h3]; exact h2), h3⟩
theorem over_again (ts : List ByteArray) (n : Nat) (hn : ∀ s ∈ ts, s.size = n) (h : (List.range n).all (fun k => oneB (colOf ts k)) = true) (t : ByteArray) (ht : t ∈ ts) :
    ovRes [bs ((List.range n).map fun k => lastB (colOf ts k)), t] = .tuple #[.string (bs ((List.range n).map fun k => lastB (colOf ts k))), .bool true] := by
  obtain ⟨X, hX⟩ : ∃ X, bs ((List.range n).map fun k => lastB (colOf ts k)) = X := ⟨_, rfl⟩
  have hXd : X.data.toList = (List.range n).map fun k => lastB (colOf ts k) := by rw [← hX]; exact bs_list _
  have hXs : X.size = n := by rw [← hX, bs_size]; simp
  rw [hX]
  have hcol : ∀ k, k < n → colOf [X, t] k = [lastB (colOf ts k), t.data.toList.getD k 0] := fun k hk => by
    simp only [colOf, List.map_cons, List.map_nil, hXd]
    rw [List.getD, List.getElem?_map, List.getElem?_range hk]
    rfl
  have hone : ∀ k, k < n → oneB (colOf [X, t] k) = true ∧ lastB (colOf [X, t] k) = lastB (colOf ts k) := fun k hk => by
    rw [hcol k hk]
    exact over_one _ _ (List.all_eq_true.1 h k (List.mem_range.2 hk)) (by unfold colOf; exact List.mem_map.2 ⟨t, ht, rfl⟩)
  have hss : sameSz [X, t] = true := by
    rw [sameSz_iff]
    have hall : ∀ s ∈ [X, t], s.size = n := fun s hs => by
      rcases List.mem_cons.1 hs with e | e
      · rw [e, hXs]
      · rw [List.mem_singleton.1 e, hn t ht]
    intro a ha b hb
    rw [hall a ha, hall b hb]
  unfold ovRes
  rw [if_neg (by simp), if_pos hss]
  show ovVal [X, t] X.size = _
  rw [hXs]
  unfold ovVal
  rw [if_pos (List.all_eq_true.2 fun k hk => (hone k (List.mem_range.1 hk)).1)]
  have : (List.range n).map (fun k => lastB (colOf [X, t] k)) = (List.range n).map (fun k => lastB (colOf ts k)) := by
    apply List.map_congr_left
    intro k hk
    exact (hone k (List.mem_range.1 hk)).2
  rw [this, hX]
end Go.Proofs.YtmfhpddeclggfaaGreatDoor
