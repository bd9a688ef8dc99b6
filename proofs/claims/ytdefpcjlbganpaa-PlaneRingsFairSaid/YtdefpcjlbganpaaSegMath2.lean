import Derived.Test.YtdefpcjlbganpaaSegMath
namespace Go.Proofs.Ytdefpcjlbganpaa
open Go.RowKit Go.BigFrame
theorem onR_iff {a b p : Pt} : (((decide (min a.x b.x ≤ p.x) && decide (p.x ≤ max a.x b.x)) && (decide (min a.y b.y ≤ p.y) && decide (p.y ≤ max a.y b.y))) && decide (ar a b p = 0)) = true ↔ onL a b p := by
  rw [Bool.and_eq_true, Bool.and_eq_true, Bool.and_eq_true, Bool.and_eq_true]
  exact ⟨fun ⟨⟨⟨h1, h2⟩, h3, h4⟩, h5⟩ => ⟨of_decide_eq_true h5, ⟨of_decide_eq_true h1, of_decide_eq_true h2⟩, of_decide_eq_true h3, of_decide_eq_true h4⟩,
    fun ⟨h5, ⟨h1, h2⟩, h3, h4⟩ => ⟨⟨⟨decide_eq_true h1, decide_eq_true h2⟩, decide_eq_true h3, decide_eq_true h4⟩, decide_eq_true h5⟩⟩
/-- Does a valid point lie on the segment of two? -/
def onR (a b p : Pt) : Bool := ((decide (min a.x b.x ≤ p.x) && decide (p.x ≤ max a.x b.x)) && (decide (min a.y b.y ≤ p.y) && decide (p.y ≤ max a.y b.y))) && decide (ar a b p = 0)
theorem onR_on {a b p : Pt} : onR a b p = true ↔ onL a b p := onR_iff
theorem memR {s t : Sg} {p : Pt} : p ∈ (((if onR t.a t.b s.a then [s.a] else []) ++ (if onR t.a t.b s.b then [s.b] else [])) ++ (if onR s.a s.b t.a then [t.a] else [])) ++ (if onR s.a s.b t.b then [t.b] else []) ↔ IsEnd s t p := by
  have one : ∀ {c : Bool} {x : Pt} {P : Prop}, (c = true ↔ P) → (p ∈ (if c then [x] else []) ↔ p = x ∧ P) := by
    intro c x P h
    cases c
    · simp only [Bool.false_eq_true, if_false, List.not_mem_nil, false_iff]
      exact fun hh => absurd (h.2 hh.2) (by simp)
    · simp only [if_true, List.mem_singleton]
      exact ⟨fun e => ⟨e, h.1 rfl⟩, fun e => e.1⟩
  rw [List.mem_append, List.mem_append, List.mem_append, one onR_on, one onR_on, one onR_on, one onR_on]
  unfold IsEnd
  simp only [or_assoc]
theorem r3 {s t : Sg} {p q : Pt} (hs : okG s = true) (ht : okG t = true) (hp : IsEnd s t p) (hq : IsEnd s t q) (h : p ≠ q) : mtg s t = 3 := by
  obtain ⟨_, _, a3⟩ := okG_iff.1 hs
  obtain ⟨_, _, b3⟩ := okG_iff.1 ht
  by_cases hc : Col s t
  · rw [mtg_col hs ht hc, along_yes hs ht (ends_box (isEnd_iff.2 ⟨p, hp⟩)), if_neg]
    intro hh
    have h1 := isEnd_in hp
    have h2 := isEnd_in hq
    apply h
    obtain ⟨px, py⟩ := p
    obtain ⟨qx, qy⟩ := q
    simp only at h1 h2
    rw [Pt.mk.injEq]
    omega
  · exact absurd (isEnd_same a3 b3 hc hp hq) h
theorem same_y {a b p q : Pt} (hn : a.x ≠ b.x) (hp : ar a b p = 0) (hq : ar a b q = 0) (h : p.x = q.x) : p.y = q.y := by
  unfold ar at hp hq
  have e : (b.x - a.x) * (p.y - q.y) = 0 := by rw [h] at hp; clear h hn; grind
  rcases Int.mul_eq_zero.1 e with e | e <;> omega
theorem slope {p u v : Pt} (h : ar p u v = 0) (h1 : u.x < p.x) (h2 : p.x < v.x) : (u.y ≤ p.y ∧ p.y ≤ v.y) ∨ (v.y ≤ p.y ∧ p.y ≤ u.y) := by
  unfold ar at h
  rcases Int.lt_trichotomy (u.y - p.y) 0 with g | g | g
  · -- u below
    have k1 := Int.mul_neg_of_neg_of_pos g (show 0 < v.x - p.x by omega)
    rcases Int.lt_or_le (v.y - p.y) 0 with k | k
    · have := Int.mul_pos_of_neg_of_neg (show u.x - p.x < 0 by omega) k; omega
    · omega
  · rw [g, Int.zero_mul, Int.sub_zero] at h
    rcases Int.mul_eq_zero.1 h with k | k <;> omega
  · have k1 := Int.mul_pos g (show 0 < v.x - p.x by omega)
    rcases Int.lt_or_le 0 (v.y - p.y) with k | k
    · have := Int.mul_neg_of_neg_of_pos (show u.x - p.x < 0 by omega) k; omega
    · omega
theorem touch1 {a b c d : Int} (h1 : a ≠ b) (h2 : c ≠ d) (hl : max (min a b) (min c d) = min (max a b) (max c d)) :
    ((a < b ∧ b = c ∧ c < d) ∨ (a < b ∧ b = d ∧ d < c) ∨ (b < a ∧ a = c ∧ c < d) ∨ (b < a ∧ a = d ∧ d < c)) ∨
      ((c < d ∧ d = a ∧ a < b) ∨ (c < d ∧ d = b ∧ b < a) ∨ (d < c ∧ c = a ∧ a < b) ∨ (d < c ∧ c = b ∧ b < a)) := by
  rcases Int.lt_or_gt_of_ne h1 with h1 | h1 <;> rcases Int.lt_or_gt_of_ne h2 with h2 | h2
  · rw [Int.min_eq_left (by omega), Int.min_eq_left (by omega), Int.max_eq_right (show a ≤ b by omega), Int.max_eq_right (show c ≤ d by omega)] at hl
    omega
  · rw [Int.min_eq_left (by omega), Int.min_eq_right (show d ≤ c by omega), Int.max_eq_right (show a ≤ b by omega), Int.max_eq_left (show d ≤ c by omega)] at hl
    omega
  · rw [Int.min_eq_right (show b ≤ a by omega), Int.min_eq_left (show c ≤ d by omega), Int.max_eq_left (show b ≤ a by omega), Int.max_eq_right (show c ≤ d by omega)] at hl
    omega
  · rw [Int.min_eq_right (show b ≤ a by omega), Int.min_eq_right (show d ≤ c by omega), Int.max_eq_left (show b ≤ a by omega), Int.max_eq_left (show d ≤ c by omega)] at hl
    omega
theorem keyY {u p q v : Int} (hy : max (min u p) (min q v) ≤ min (max u p) (max q v)) (e : p = q) (k : (u ≤ p ∧ p ≤ v) ∨ (v ≤ p ∧ p ≤ u)) : max (min u p) (min q v) = min (max u p) (max q v) := by
  subst e
  rcases k with ⟨k1, k2⟩ | ⟨k1, k2⟩
  · rw [Int.min_eq_left k1, Int.min_eq_left k2, Int.max_eq_right k1, Int.max_eq_right k2]; omega
  · rw [Int.min_eq_right k2, Int.min_eq_right k1, Int.max_eq_left k2, Int.max_eq_left k1]; omega
theorem touchY {s t : Sg} (hs : s.a ≠ s.b) (ht : t.a ≠ t.b) (hc : Col s t) (hx : s.a.x ≠ s.b.x) (hl : (mxG s t).x.lo = (mxG s t).x.hi) (hy : (mxG s t).y.lo ≤ (mxG s t).y.hi) : (mxG s t).y.lo = (mxG s t).y.hi := by
  have hx2 : t.a.x ≠ t.b.x := fun h => hx ((col_x hs ht hc).2 h)
  obtain ⟨c1, c2⟩ := hc
  obtain ⟨d1, d2⟩ := Col.sym ht ⟨c1, c2⟩
  have ta := ar_a s.a s.b
  have tb := ar_b s.a s.b
  -- u: the other end of the left one, p: where they touch, v: the other end of the right one
  have key : ∀ {u p q v : Pt}, ar s.a s.b u = 0 → ar s.a s.b p = 0 → ar s.a s.b q = 0 → ar s.a s.b v = 0 → u.x < p.x → p.x = q.x → q.x < v.x → max (min u.y p.y) (min q.y v.y) ≤ min (max u.y p.y) (max q.y v.y) → max (min u.y p.y) (min q.y v.y) = min (max u.y p.y) (max q.y v.y) := by
    intro u p q v hu hp hq hv h1 h2 h3 h4
    exact keyY h4 (same_y hx hp hq h2) (slope (col3 hs hp hu hv) h1 (by omega))
  simp only [mxG, mxB, mxS, bxOf] at hl hy ⊢
  rcases touch1 hx hx2 hl with (⟨h1, h2, h3⟩ | ⟨h1, h2, h3⟩ | ⟨h1, h2, h3⟩ | ⟨h1, h2, h3⟩) | (⟨h1, h2, h3⟩ | ⟨h1, h2, h3⟩ | ⟨h1, h2, h3⟩ | ⟨h1, h2, h3⟩)
  · exact key ta tb d1 d2 h1 h2 h3 hy
  · rw [Int.min_comm t.a.y t.b.y, Int.max_comm t.a.y t.b.y] at hy ⊢
    exact key ta tb d2 d1 h1 h2 h3 hy
  · rw [Int.min_comm s.a.y s.b.y, Int.max_comm s.a.y s.b.y] at hy ⊢
    exact key tb ta d1 d2 h1 h2 h3 hy
  · rw [Int.min_comm s.a.y s.b.y, Int.max_comm s.a.y s.b.y, Int.min_comm t.a.y t.b.y, Int.max_comm t.a.y t.b.y] at hy ⊢
    exact key tb ta d2 d1 h1 h2 h3 hy
  · rw [Int.max_comm (min _ _) (min _ _), Int.min_comm (max _ _) (max _ _)] at hy ⊢
    exact key d1 d2 ta tb h1 h2 h3 hy
  · rw [Int.min_comm s.a.y s.b.y, Int.max_comm s.a.y s.b.y, Int.max_comm (min _ _) (min _ _), Int.min_comm (max _ _) (max _ _)] at hy ⊢
    exact key d1 d2 tb ta h1 h2 h3 hy
  · rw [Int.min_comm t.a.y t.b.y, Int.max_comm t.a.y t.b.y, Int.max_comm (min _ _) (min _ _), Int.min_comm (max _ _) (max _ _)] at hy ⊢
    exact key d2 d1 ta tb h1 h2 h3 hy
  · rw [Int.min_comm s.a.y s.b.y, Int.max_comm s.a.y s.b.y, Int.min_comm t.a.y t.b.y, Int.max_comm t.a.y t.b.y, Int.max_comm (min _ _) (min _ _), Int.min_comm (max _ _) (max _ _)] at hy ⊢
    exact key d2 d1 tb ta h1 h2 h3 hy
theorem r1 {s t : Sg} {p : Pt} (hs : okG s = true) (ht : okG t = true) (hp : IsEnd s t p) (h : ∀ q, IsEnd s t q → q = p) : mtg s t = 1 := by
  obtain ⟨_, _, a3⟩ := okG_iff.1 hs
  obtain ⟨_, _, b3⟩ := okG_iff.1 ht
  have hE := isEnd_iff.2 ⟨p, hp⟩
  by_cases hc : Col s t
  · have hm := ends_box hE
    rw [mtg_col hs ht hc, along_yes hs ht hm, if_pos]
    by_cases hx : s.a.x = s.b.x
    · obtain ⟨u, hu, gu⟩ := endY a3 b3 hc hx hm.2 (.inl rfl)
      obtain ⟨v, hv, gv⟩ := endY a3 b3 hc hx hm.2 (.inr rfl)
      rw [h u gu] at hu
      rw [h v gv] at hv
      have hx2 := (col_x a3 b3 hc).1 hx
      refine ⟨?_, by omega⟩
      have := hm.1
      simp only [mxG, mxB, mxS, bxOf] at this ⊢
      omega
    · obtain ⟨u, hu, gu⟩ := endX a3 b3 hc hx hm.1 (.inl rfl)
      obtain ⟨v, hv, gv⟩ := endX a3 b3 hc hx hm.1 (.inr rfl)
      rw [h u gu] at hu
      rw [h v gv] at hv
      have e : (mxG s t).x.lo = (mxG s t).x.hi := by omega
      exact ⟨e, touchY a3 b3 hc hx e hm.2⟩
  · rw [mtg_else hs ht hc (cross_no hE), if_pos hE]
theorem r0 {s t : Sg} (hs : okG s = true) (ht : okG t = true) (h : ∀ q, ¬ IsEnd s t q) : (Cross s t → mtg s t = 2) ∧ (¬ Cross s t → mtg s t = 0) := by
  have hE : ¬ Ends s t := fun g => by obtain ⟨p, hp⟩ := isEnd_iff.1 g; exact h p hp
  rcases mtg_cases hs ht with h' | h' | h' | h'
  · exact ⟨fun g => absurd g h'.2.2, fun _ => h'.1⟩
  · exact absurd h'.2 hE
  · exact ⟨fun _ => h'.1, fun g => absurd h'.2.2 g⟩
  · exact absurd h'.2 hE
end Go.Proofs.Ytdefpcjlbganpaa
