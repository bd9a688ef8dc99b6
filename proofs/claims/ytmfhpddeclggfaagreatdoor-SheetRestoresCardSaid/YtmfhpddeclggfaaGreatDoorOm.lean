import Derived.Test.YtmfhpddeclggfaaGreatDoorKm
namespace Go.Proofs.YtmfhpddeclggfaaGreatDoor
open Go Go.RowKit
/-! One mistake: the plain facts. -/
theorem split_at (l : List UInt8) (i : Nat) (h : i < l.length) : l = l.take i ++ l[i] :: l.drop (i + 1) := by
  rw [List.getElem_cons_drop, List.take_append_drop]
theorem set_at (l : List UInt8) (i : Nat) (c : UInt8) (h : i < l.length) : l.set i c = l.take i ++ c :: l.drop (i + 1) := by
  rw [List.set_eq_take_append_cons_drop, if_pos h]
theorem one_iff {s : ByteArray} (h : readErr s = 0) (i : Nat) (c : UInt8) (hi : i < s.data.toList.length) : readErr (bs (s.data.toList.set i c)) = 0 ↔ s.data.toList[i] = c := by
  constructor
  · intro h2
    have h3 := lined_of h
    have h4 := lined_of h2
    rw [bs_list, set_at _ _ _ hi] at h4
    rw [split_at _ i hi] at h3
    exact lined_one h3 h4
  · intro e
    have : s.data.toList.set i c = s.data.toList := by rw [set_at _ _ _ hi, ← e]; exact (split_at _ i hi).symm
    rw [this]; exact h
def swp (l : List UInt8) (k : Nat) : List UInt8 := (l.set k (l.getD (k + 1) 0)).set (k + 1) (l.getD k 0)
theorem split_two (l : List UInt8) (k : Nat) (h : k + 1 < l.length) : l = l.take k ++ l.getD k 0 :: l.getD (k + 1) 0 :: l.drop (k + 2) := by
  have e1 : l.getD k 0 = l[k] := by rw [List.getD, List.getElem?_eq_getElem (by omega)]; rfl
  have e2 : l.getD (k + 1) 0 = l[k + 1] := by rw [List.getD, List.getElem?_eq_getElem h]; rfl
  rw [e1, e2, List.getElem_cons_drop (h := h), List.getElem_cons_drop (h := by omega), List.take_append_drop]
theorem swp_at (l : List UInt8) (k : Nat) (h : k + 1 < l.length) : swp l k = l.take k ++ l.getD (k + 1) 0 :: l.getD k 0 :: l.drop (k + 2) := by
  unfold swp
  rw [List.set_eq_take_append_cons_drop, List.length_set, if_pos h, List.drop_set_of_lt (by omega), List.take_set, List.set_eq_take_append_cons_drop, List.length_take, if_pos (by omega), List.take_take, List.drop_take]
  simp only [Nat.min_def, if_pos (Nat.le_succ k)]
  rw [show k + 1 - (k + 1) = 0 from by omega]
  simp
theorem two_iff {s : ByteArray} (h : readErr s = 0) (k : Nat) (hk : k + 1 < s.data.toList.length) : readErr (bs (swp s.data.toList k)) = 0 ↔ s.data.toList.getD k 0 = s.data.toList.getD (k + 1) 0 := by
  constructor
  · intro h2
    have h3 := lined_of h
    have h4 := lined_of h2
    rw [bs_list, swp_at _ _ hk] at h4
    rw [split_two _ k hk] at h3
    exact lined_two h3 h4
  · intro e
    have : swp s.data.toList k = s.data.toList := by
      rw [swp_at _ _ hk, ← e]
      conv => rhs; rw [split_two s.data.toList k hk]
      rw [← e]
    rw [this]; exact h
theorem cut_no {s : ByteArray} (h : readErr s = 0) (i : Nat) (hi : i < s.data.toList.length) : readErr (s.extract 0 i) ≠ 0 := by
  intro h2
  have e : s.data.toList = (s.extract 0 i).data.toList ++ s.data.toList.drop i := by
    rw [Lib.extract_from_zero, List.take_append_drop]
  have := read_cut h h2 e
  have := congrArg List.length this
  simp only [List.length_drop, List.length_nil] at this
  omega
end Go.Proofs.YtmfhpddeclggfaaGreatDoor
