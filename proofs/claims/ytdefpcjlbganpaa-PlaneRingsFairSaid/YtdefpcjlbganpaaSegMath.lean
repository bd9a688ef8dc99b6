import Derived.Test.YtdefpcjlbganpaaFairLaw
namespace Go.Proofs.Ytdefpcjlbganpaa
open Go.RowKit Go.BigFrame
theorem sg_zero {n : Int} : sg n = 0 ↔ n = 0 := by unfold sg; split <;> (try split) <;> omega
theorem sg_mul_neg {a b : Int} : sg a * sg b < 0 ↔ (0 < a ∧ b < 0) ∨ (a < 0 ∧ 0 < b) := by
  unfold sg; split <;> split <;> (try split) <;> (try split) <;> simp <;> omega
theorem sg_mul_pos {a b : Int} : 0 < sg a * sg b ↔ (0 < a ∧ 0 < b) ∨ (a < 0 ∧ b < 0) := by
  unfold sg; split <;> split <;> (try split) <;> (try split) <;> simp <;> omega
theorem cross0 {dx dy ux uy vx vy : Int} (hd : dx ≠ 0 ∨ dy ≠ 0) (h1 : dx * uy = dy * ux) (h2 : dx * vy = dy * vx) : ux * vy = uy * vx := by
  rcases hd with h | h
  · have e : dx * (ux * vy - uy * vx) = 0 := by grind
    rcases Int.mul_eq_zero.1 e with e | e
    · exact absurd e h
    · omega
  · have e : dy * (ux * vy - uy * vx) = 0 := by grind
    rcases Int.mul_eq_zero.1 e with e | e
    · exact absurd e h
    · omega
theorem pt_ne {a b : Pt} (h : a ≠ b) : b.x - a.x ≠ 0 ∨ b.y - a.y ≠ 0 := by
  obtain ⟨a1, a2⟩ := a
  obtain ⟨b1, b2⟩ := b
  simp only [ne_eq, Pt.mk.injEq] at h
  simp only
  omega
/-- Two points of a line that are not the same: what is on their line. -/
theorem col {a b c d : Pt} (hcd : c ≠ d) (h1 : ar c d a = 0) (h2 : ar c d b = 0) : ar a b c = 0 ∧ ar a b d = 0 := by
  have hd := pt_ne hcd
  unfold ar at h1 h2
  have e1 := cross0 hd (ux := a.x - c.x) (uy := a.y - c.y) (vx := b.x - c.x) (vy := b.y - c.y) (by omega) (by omega)
  have e2 := cross0 hd (ux := a.x - d.x) (uy := a.y - d.y) (vx := b.x - d.x) (vy := b.y - d.y) (by grind) (by grind)
  unfold ar
  exact ⟨by grind, by grind⟩
theorem okG_iff {s : Sg} : okG s = true ↔ okP s.a = true ∧ okP s.b = true ∧ s.a ≠ s.b := by
  unfold okG; simp
theorem trn_ok {a b c : Pt} (ha : okP a = true) (hb : okP b = true) (hc : okP c = true) : trn a b c = sg (ar a b c) := by
  unfold trn; rw [ha, hb, hc]; rfl
/-- Does a point lie on the segment of two points? -/
def onL (a b p : Pt) : Prop := ar a b p = 0 ∧ (min a.x b.x ≤ p.x ∧ p.x ≤ max a.x b.x) ∧ (min a.y b.y ≤ p.y ∧ p.y ≤ max a.y b.y)
theorem onL_ok {a b p : Pt} (h : onL a b p) (ha : okP a = true) (hb : okP b = true) : okP p = true := by
  obtain ⟨_, h1, h2⟩ := h
  rw [okP_iff] at *
  omega
theorem okC_of {n : Int} (h : -1048576 ≤ n ∧ n ≤ 1048576) : okC n = true := okC_iff.2 h
theorem okS_iff {s : Sp} : okS s = true ↔ s.lo ≤ s.hi ∧ okC s.lo = true ∧ okC s.hi = true := by unfold okS; simp
theorem okB_iff {b : Bx} : okB b = true ↔ okS b.x = true ∧ okS b.y = true := by unfold okB; simp
theorem bxOf_ok {s : Sg} (ha : okP s.a = true) (hb : okP s.b = true) : okB (bxOf s) = true := by
  obtain ⟨a1, a2⟩ := okP_iff.1 ha
  obtain ⟨b1, b2⟩ := okP_iff.1 hb
  exact okB_iff.2 ⟨okS_iff.2 ⟨by simp only [bxOf]; omega, okC_of (by simp only [bxOf]; omega), okC_of (by simp only [bxOf]; omega)⟩, okS_iff.2 ⟨by simp only [bxOf]; omega, okC_of (by simp only [bxOf]; omega), okC_of (by simp only [bxOf]; omega)⟩⟩
theorem onS_iff {s : Sg} {p : Pt} : onS s p = true ↔ okG s = true ∧ onL s.a s.b p := by
  unfold onS
  rw [Bool.and_eq_true]
  constructor
  · rintro ⟨hg, h⟩
    obtain ⟨ha, hb, hn⟩ := okG_iff.1 hg
    rw [Bool.and_eq_true, hds, Bool.and_eq_true, Bool.and_eq_true] at h
    obtain ⟨⟨_, hx, hy⟩, ht⟩ := h
    have ht := of_decide_eq_true ht
    simp only [inS, bxOf, Bool.and_eq_true] at hx hy
    have hx1 := of_decide_eq_true hx.1
    have hx2 := of_decide_eq_true hx.2
    have hy1 := of_decide_eq_true hy.1
    have hy2 := of_decide_eq_true hy.2
    have hp : okP p = true := by
      rw [okP_iff] at *; omega
    rw [trn_ok ha hb hp, sg_zero] at ht
    exact ⟨hg, ht, ⟨hx1, hx2⟩, hy1, hy2⟩
  · rintro ⟨hg, h⟩
    obtain ⟨ha, hb, hn⟩ := okG_iff.1 hg
    have hp := onL_ok h ha hb
    obtain ⟨h0, hx, hy⟩ := h
    refine ⟨hg, ?_⟩
    rw [Bool.and_eq_true, hds, bxOf_ok ha hb, trn_ok ha hb hp, h0]
    simp only [inS, bxOf, Bool.and_eq_true, true_and]
    exact ⟨⟨⟨decide_eq_true hx.1, decide_eq_true hx.2⟩, decide_eq_true hy.1, decide_eq_true hy.2⟩, decide_eq_true (sg_zero.2 rfl)⟩
/-- What lies between two points of a line, by one of its coordinates. -/
theorem mid {D N E M : Int} (h : M * D = E * N) (h0 : D ≠ 0) (h1 : min 0 D ≤ N) (h2 : N ≤ max 0 D) : min 0 E ≤ M ∧ M ≤ max 0 E := by
  rcases Int.lt_or_gt_of_ne h0 with hD | hD
  · -- D < 0
    have hN1 : D ≤ N := by omega
    have hN2 : N ≤ 0 := by omega
    rcases Int.le_total 0 E with hE | hE
    · have a1 : E * D ≤ M * D := by rw [h]; exact Int.mul_le_mul_of_nonneg_left hN1 hE
      have a2 : M * D ≤ 0 := by rw [h]; exact Int.mul_nonpos_of_nonneg_of_nonpos hE hN2
      have b1 : M ≤ E := Int.le_of_mul_le_mul_right (show M * -D ≤ E * -D by rw [Int.mul_neg, Int.mul_neg]; omega) (by omega)
      have b2 : 0 ≤ M := Int.le_of_mul_le_mul_right (show 0 * -D ≤ M * -D by rw [Int.mul_neg, Int.mul_neg]; omega) (show 0 < -D by omega)
      omega
    · have a1 : M * D ≤ E * D := by rw [h]; exact Int.mul_le_mul_of_nonpos_left hE hN1
      have a2 : 0 ≤ M * D := by rw [h]; exact Int.mul_nonneg_of_nonpos_of_nonpos hE hN2
      have b1 : E ≤ M := Int.le_of_mul_le_mul_right (show E * -D ≤ M * -D by rw [Int.mul_neg, Int.mul_neg]; omega) (by omega)
      have b2 : M ≤ 0 := Int.le_of_mul_le_mul_right (show M * -D ≤ 0 * -D by rw [Int.mul_neg, Int.mul_neg]; omega) (show 0 < -D by omega)
      omega
  · have hN1 : 0 ≤ N := by omega
    have hN2 : N ≤ D := by omega
    rcases Int.le_total 0 E with hE | hE
    · have a1 : M * D ≤ E * D := by rw [h]; exact Int.mul_le_mul_of_nonneg_left hN2 hE
      have a2 : 0 ≤ M * D := by rw [h]; exact Int.mul_nonneg hE hN1
      have b1 : M ≤ E := Int.le_of_mul_le_mul_right a1 hD
      have b2 : 0 ≤ M := Int.le_of_mul_le_mul_right (by simpa using a2) hD
      omega
    · have a1 : E * D ≤ M * D := by rw [h]; exact Int.mul_le_mul_of_nonpos_left hE hN2
      have a2 : M * D ≤ 0 := by rw [h]; exact Int.mul_nonpos_of_nonpos_of_nonneg hE hN1
      have b1 : E ≤ M := Int.le_of_mul_le_mul_right a1 hD
      have b2 : M ≤ 0 := Int.le_of_mul_le_mul_right (by simpa using a2) hD
      omega
theorem onL_x {a b p : Pt} (h : ar a b p = 0) (hn : a.x ≠ b.x) (h1 : min a.x b.x ≤ p.x) (h2 : p.x ≤ max a.x b.x) : onL a b p := by
  have := mid (D := b.x - a.x) (N := p.x - a.x) (E := b.y - a.y) (M := p.y - a.y) (by unfold ar at h; grind) (by omega) (by omega) (by omega)
  exact ⟨h, ⟨h1, h2⟩, by omega, by omega⟩
theorem onL_y {a b p : Pt} (h : ar a b p = 0) (hn : a.y ≠ b.y) (h1 : min a.y b.y ≤ p.y) (h2 : p.y ≤ max a.y b.y) : onL a b p := by
  have := mid (D := b.y - a.y) (N := p.y - a.y) (E := b.x - a.x) (M := p.x - a.x) (by unfold ar at h; grind) (by omega) (by omega) (by omega)
  exact ⟨h, by omega, h1, h2⟩
theorem mtg_off {s t : Sg} (h : okG s = false ∨ okG t = false) : mtg s t = 0 := by
  unfold mtg; rcases h with h | h <;> simp [h]
/-- Do two segments lie on one line? -/
def Col (s t : Sg) : Prop := ar t.a t.b s.a = 0 ∧ ar t.a t.b s.b = 0
theorem Col.sym {s t : Sg} (ht : t.a ≠ t.b) (h : Col s t) : Col t s := col ht h.1 h.2
/-- Is an end of one a point of the other? -/
def Ends (s t : Sg) : Prop := onL s.a s.b t.a ∨ onL s.a s.b t.b ∨ onL t.a t.b s.a ∨ onL t.a t.b s.b
/-- Do they cross? -/
def Cross (s t : Sg) : Prop := sg (ar t.a t.b s.a) * sg (ar t.a t.b s.b) < 0 ∧ sg (ar s.a s.b t.a) * sg (ar s.a s.b t.b) < 0
theorem mtg_col {s t : Sg} (hs : okG s = true) (ht : okG t = true) (h : Col s t) : mtg s t = mtAlong s t := by
  obtain ⟨a1, a2, a3⟩ := okG_iff.1 hs
  obtain ⟨b1, b2, b3⟩ := okG_iff.1 ht
  unfold mtg
  rw [hs, ht, trn_ok b1 b2 a1, trn_ok b1 b2 a2, h.1, h.2]
  simp [sg]
theorem mtg_cross {s t : Sg} (hs : okG s = true) (ht : okG t = true) (h : ¬ Col s t) (hc : Cross s t) : mtg s t = 2 := by
  unfold Cross at hc
  obtain ⟨a1, a2, a3⟩ := okG_iff.1 hs
  obtain ⟨b1, b2, b3⟩ := okG_iff.1 ht
  unfold mtg
  rw [hs, ht, trn_ok b1 b2 a1, trn_ok b1 b2 a2, trn_ok a1 a2 b1, trn_ok a1 a2 b2, if_pos (by rfl), if_neg (by rw [sg_zero, sg_zero]; exact h), if_pos hc]
open Classical in
theorem mtg_else {s t : Sg} (hs : okG s = true) (ht : okG t = true) (h : ¬ Col s t) (hc : ¬ Cross s t) : mtg s t = if Ends s t then 1 else 0 := by
  unfold Cross at hc
  obtain ⟨a1, a2, a3⟩ := okG_iff.1 hs
  obtain ⟨b1, b2, b3⟩ := okG_iff.1 ht
  unfold mtg
  rw [hs, ht, trn_ok b1 b2 a1, trn_ok b1 b2 a2, trn_ok a1 a2 b1, trn_ok a1 a2 b2, if_pos (by rfl), if_neg (by rw [sg_zero, sg_zero]; exact h), if_neg hc]
  have e : (onS s t.a || (onS s t.b || (onS t s.a || onS t s.b))) = true ↔ Ends s t := by
    simp only [Bool.or_eq_true, onS_iff, hs, ht, true_and, Ends]
  by_cases hE : Ends s t
  · rw [if_pos hE, if_pos (e.2 hE)]
  · rw [if_neg hE, if_neg (fun h => hE (e.1 h))]
theorem quad {ux uy vx vy dx dy : Int} (hA : uy * vy ≤ 0) (hC : ux * vx ≤ 0) (hu : ux * vy = uy * vx) : (dx * uy - dy * ux) * (dx * vy - dy * vx) ≤ 0 := by
  have e : (dx * uy - dy * ux) * (dx * vy - dy * vx) = dx * dx * (uy * vy) - 2 * (dx * dy * (ux * vy)) + dy * dy * (ux * vx) := by clear hA hC; grind
  rw [e]
  clear e
  rcases Int.lt_or_eq_of_le hA with hA | hA
  · have k : (uy * vy) * (dx * dx * (uy * vy) - 2 * (dx * dy * (ux * vy)) + dy * dy * (ux * vx)) = (uy * vy * dx - ux * vy * dy) * (uy * vy * dx - ux * vy * dy) := by clear hA hC; grind
    have k2 := sq_nn (uy * vy * dx - ux * vy * dy)
    rw [← k] at k2
    rcases Int.lt_or_le 0 (dx * dx * (uy * vy) - 2 * (dx * dy * (ux * vy)) + dy * dy * (ux * vx)) with g | g
    · have := Int.mul_neg_of_neg_of_pos hA g
      omega
    · exact g
  · have hB : (ux * vy) * (ux * vy) = 0 := by
      have : (ux * vy) * (ux * vy) = (ux * vx) * (uy * vy) := by clear hA hC; grind
      rw [this, hA]; simp
    have hB0 : ux * vy = 0 := by rcases Int.mul_eq_zero.1 hB with h | h <;> exact h
    rw [hA, hB0]
    have := sq_nn dy
    have := Int.mul_nonpos_of_nonneg_of_nonpos this hC
    simpa using this
/-- A point of a segment has the segment's ends on opposite sides of each line through it. -/
theorem opp {a b p q : Pt} (h : onL a b p) : ar p q a * ar p q b ≤ 0 := by
  obtain ⟨h0, hx, hy⟩ := h
  have hA : (a.y - p.y) * (b.y - p.y) ≤ 0 := by
    rcases Int.le_total a.y b.y with h | h
    · exact Int.mul_nonpos_of_nonpos_of_nonneg (by omega) (by omega)
    · exact Int.mul_nonpos_of_nonneg_of_nonpos (by omega) (by omega)
  have hC : (a.x - p.x) * (b.x - p.x) ≤ 0 := by
    rcases Int.le_total a.x b.x with h | h
    · exact Int.mul_nonpos_of_nonpos_of_nonneg (by omega) (by omega)
    · exact Int.mul_nonpos_of_nonneg_of_nonpos (by omega) (by omega)
  have hu : (a.x - p.x) * (b.y - p.y) = (a.y - p.y) * (b.x - p.x) := by clear hx hy hA hC; unfold ar at h0; grind
  exact quad hA hC hu
theorem opp2 {a b p q : Pt} (h : onL a b q) : ar p q a * ar p q b ≤ 0 := by
  have := opp (q := p) h
  rw [show ar p q a = -ar q p a from by unfold ar; grind, show ar p q b = -ar q p b from by unfold ar; grind, Int.neg_mul_neg]
  exact this
theorem sg_mul_le {a b : Int} (h : a * b ≤ 0) : sg a * sg b ≤ 0 := by
  rcases Int.lt_or_le 0 (sg a * sg b) with g | g
  · rcases sg_mul_pos.1 g with ⟨h1, h2⟩ | ⟨h1, h2⟩
    · have := Int.mul_pos h1 h2; omega
    · have := Int.mul_pos_of_neg_of_neg h1 h2; omega
  · exact g
/-- What two segments of a line have in common. -/
def mxG (s t : Sg) : Bx := mxB (bxOf s) (bxOf t)
theorem meetB_some {s t : Sg} (hs : okG s = true) (ht : okG t = true) : meetB (bxOf s) (bxOf t) = if (mxG s t).x.lo ≤ (mxG s t).x.hi ∧ (mxG s t).y.lo ≤ (mxG s t).y.hi then some (mxG s t) else none := by
  obtain ⟨a1, a2, a3⟩ := okG_iff.1 hs
  obtain ⟨b1, b2, b3⟩ := okG_iff.1 ht
  unfold meetB
  rw [bxOf_ok a1 a2, bxOf_ok b1 b2, Bool.true_and, Bool.true_and]
  have p1 := okP_iff.1 a1
  have p2 := okP_iff.1 a2
  have p3 := okP_iff.1 b1
  have p4 := okP_iff.1 b2
  by_cases h : (mxG s t).x.lo ≤ (mxG s t).x.hi ∧ (mxG s t).y.lo ≤ (mxG s t).y.hi
  · rw [if_pos h, if_pos]
    · rfl
    · show okB (mxG s t) = true
      refine okB_iff.2 ⟨okS_iff.2 ⟨h.1, okC_of ?_, okC_of ?_⟩, okS_iff.2 ⟨h.2, okC_of ?_, okC_of ?_⟩⟩ <;> simp only [mxG, mxB, mxS, bxOf] <;> omega
  · rw [if_neg h, if_neg]
    intro g
    obtain ⟨g1, g2⟩ := okB_iff.1 g
    exact h ⟨(okS_iff.1 g1).1, (okS_iff.1 g2).1⟩
theorem mxG_comm (s t : Sg) : mxG s t = mxG t s := by
  unfold mxG mxB mxS
  rw [Int.max_comm (bxOf s).x.lo, Int.min_comm (bxOf s).x.hi, Int.max_comm (bxOf s).y.lo, Int.min_comm (bxOf s).y.hi]
theorem mtAlong_comm {s t : Sg} (hs : okG s = true) (ht : okG t = true) : mtAlong s t = mtAlong t s := by
  unfold mtAlong
  rw [meetB_some hs ht, meetB_some ht hs, mxG_comm s t]
theorem col3 {p q a b c : Pt} (h : p ≠ q) (ha : ar p q a = 0) (hb : ar p q b = 0) (hc : ar p q c = 0) : ar a b c = 0 := by
  have hd := pt_ne h
  unfold ar at ha hb hc
  have e1 := cross0 hd (ux := a.x - p.x) (uy := a.y - p.y) (vx := b.x - p.x) (vy := b.y - p.y) (by omega) (by omega)
  have e2 := cross0 hd (ux := a.x - p.x) (uy := a.y - p.y) (vx := c.x - p.x) (vy := c.y - p.y) (by omega) (by omega)
  have e3 := cross0 hd (ux := b.x - p.x) (uy := b.y - p.y) (vx := c.x - p.x) (vy := c.y - p.y) (by omega) (by omega)
  clear hd ha hb hc h
  unfold ar
  grind
theorem ar_a (a b : Pt) : ar a b a = 0 := by unfold ar; simp
theorem ar_b (a b : Pt) : ar a b b = 0 := by unfold ar; grind
/-- A point of both, that is an end of one. -/
def IsEnd (s t : Sg) (p : Pt) : Prop := (p = s.a ∧ onL t.a t.b s.a) ∨ (p = s.b ∧ onL t.a t.b s.b) ∨ (p = t.a ∧ onL s.a s.b t.a) ∨ (p = t.b ∧ onL s.a s.b t.b)
theorem isEnd_iff {s t : Sg} : Ends s t ↔ ∃ p, IsEnd s t p := by
  constructor
  · rintro (h | h | h | h)
    · exact ⟨_, .inr (.inr (.inl ⟨rfl, h⟩))⟩
    · exact ⟨_, .inr (.inr (.inr ⟨rfl, h⟩))⟩
    · exact ⟨_, .inl ⟨rfl, h⟩⟩
    · exact ⟨_, .inr (.inl ⟨rfl, h⟩)⟩
  · rintro ⟨p, ⟨_, h⟩ | ⟨_, h⟩ | ⟨_, h⟩ | ⟨_, h⟩⟩
    · exact .inr (.inr (.inl h))
    · exact .inr (.inr (.inr h))
    · exact .inl h
    · exact .inr (.inl h)
theorem isEnd_on {s t : Sg} {p : Pt} (h : IsEnd s t p) : onL s.a s.b p ∧ onL t.a t.b p := by
  rcases h with ⟨rfl, h⟩ | ⟨rfl, h⟩ | ⟨rfl, h⟩ | ⟨rfl, h⟩
  · exact ⟨⟨ar_a _ _, by omega, by omega⟩, h⟩
  · exact ⟨⟨ar_b _ _, by omega, by omega⟩, h⟩
  · exact ⟨h, ⟨ar_a _ _, by omega, by omega⟩⟩
  · exact ⟨h, ⟨ar_b _ _, by omega, by omega⟩⟩
theorem isEnd_in {s t : Sg} {p : Pt} (h : IsEnd s t p) : ((mxG s t).x.lo ≤ p.x ∧ p.x ≤ (mxG s t).x.hi) ∧ ((mxG s t).y.lo ≤ p.y ∧ p.y ≤ (mxG s t).y.hi) := by
  obtain ⟨⟨_, a1, a2⟩, ⟨_, b1, b2⟩⟩ := isEnd_on h
  simp only [mxG, mxB, mxS, bxOf]
  omega
theorem isEnd_same {s t : Sg} {p q : Pt} (hs : s.a ≠ s.b) (ht : t.a ≠ t.b) (hc : ¬ Col s t) (hp : IsEnd s t p) (hq : IsEnd s t q) : p = q := by
  rcases Classical.em (p = q) with h | h
  · exact h
  · obtain ⟨⟨p1, _⟩, ⟨p2, _⟩⟩ := isEnd_on hp
    obtain ⟨⟨q1, _⟩, ⟨q2, _⟩⟩ := isEnd_on hq
    obtain ⟨c1, c2⟩ := col hs p1 q1
    obtain ⟨d1, d2⟩ := col ht p2 q2
    exact absurd ⟨col3 h d1 d2 c1, col3 h d1 d2 c2⟩ hc
theorem col_x {s t : Sg} (hs : s.a ≠ s.b) (ht : t.a ≠ t.b) (hc : Col s t) : s.a.x = s.b.x ↔ t.a.x = t.b.x := by
  have key : ∀ {s t : Sg}, s.a ≠ s.b → t.a ≠ t.b → Col s t → t.a.x = t.b.x → s.a.x = s.b.x := by
    intro s t hs ht hc h
    have hd := pt_ne ht
    obtain ⟨h1, h2⟩ := hc
    unfold ar at h1 h2
    rw [show t.b.x - t.a.x = 0 from by omega, Int.zero_mul] at h1 h2
    have e1 : (t.b.y - t.a.y) * (s.a.x - t.a.x) = 0 := by omega
    have e2 : (t.b.y - t.a.y) * (s.b.x - t.a.x) = 0 := by omega
    rcases Int.mul_eq_zero.1 e1 with e | e
    · omega
    · rcases Int.mul_eq_zero.1 e2 with f | f <;> omega
  exact ⟨key ht hs (hc.sym ht), key hs ht hc⟩
theorem endX {s t : Sg} (hs : s.a ≠ s.b) (ht : t.a ≠ t.b) (hc : Col s t) (hx : s.a.x ≠ s.b.x) (hl : (mxG s t).x.lo ≤ (mxG s t).x.hi) {v : Int} (hv : v = (mxG s t).x.lo ∨ v = (mxG s t).x.hi) : ∃ p, p.x = v ∧ IsEnd s t p := by
  have hy : t.a.x ≠ t.b.x := fun h => hx ((col_x hs ht hc).2 h)
  obtain ⟨c1, c2⟩ := hc
  obtain ⟨d1, d2⟩ := Col.sym ht ⟨c1, c2⟩
  simp only [mxG, mxB, mxS, bxOf] at hl hv
  have h4 : (v = s.a.x ∧ min t.a.x t.b.x ≤ s.a.x ∧ s.a.x ≤ max t.a.x t.b.x) ∨ (v = s.b.x ∧ min t.a.x t.b.x ≤ s.b.x ∧ s.b.x ≤ max t.a.x t.b.x) ∨ (v = t.a.x ∧ min s.a.x s.b.x ≤ t.a.x ∧ t.a.x ≤ max s.a.x s.b.x) ∨ (v = t.b.x ∧ min s.a.x s.b.x ≤ t.b.x ∧ t.b.x ≤ max s.a.x s.b.x) := by omega
  rcases h4 with ⟨e, h1, h2⟩ | ⟨e, h1, h2⟩ | ⟨e, h1, h2⟩ | ⟨e, h1, h2⟩
  · exact ⟨s.a, e.symm, .inl ⟨rfl, onL_x c1 hy h1 h2⟩⟩
  · exact ⟨s.b, e.symm, .inr (.inl ⟨rfl, onL_x c2 hy h1 h2⟩)⟩
  · exact ⟨t.a, e.symm, .inr (.inr (.inl ⟨rfl, onL_x d1 hx h1 h2⟩))⟩
  · exact ⟨t.b, e.symm, .inr (.inr (.inr ⟨rfl, onL_x d2 hx h1 h2⟩))⟩
theorem endY {s t : Sg} (hs : s.a ≠ s.b) (ht : t.a ≠ t.b) (hc : Col s t) (hx : s.a.x = s.b.x) (hl : (mxG s t).y.lo ≤ (mxG s t).y.hi) {v : Int} (hv : v = (mxG s t).y.lo ∨ v = (mxG s t).y.hi) : ∃ p, p.y = v ∧ IsEnd s t p := by
  have hx2 := (col_x hs ht hc).1 hx
  have sy : s.a.y ≠ s.b.y := by have := pt_ne hs; omega
  have ty : t.a.y ≠ t.b.y := by have := pt_ne ht; omega
  obtain ⟨c1, c2⟩ := hc
  obtain ⟨d1, d2⟩ := Col.sym ht ⟨c1, c2⟩
  simp only [mxG, mxB, mxS, bxOf] at hl hv
  have h4 : (v = s.a.y ∧ min t.a.y t.b.y ≤ s.a.y ∧ s.a.y ≤ max t.a.y t.b.y) ∨ (v = s.b.y ∧ min t.a.y t.b.y ≤ s.b.y ∧ s.b.y ≤ max t.a.y t.b.y) ∨ (v = t.a.y ∧ min s.a.y s.b.y ≤ t.a.y ∧ t.a.y ≤ max s.a.y s.b.y) ∨ (v = t.b.y ∧ min s.a.y s.b.y ≤ t.b.y ∧ t.b.y ≤ max s.a.y s.b.y) := by omega
  rcases h4 with ⟨e, h1, h2⟩ | ⟨e, h1, h2⟩ | ⟨e, h1, h2⟩ | ⟨e, h1, h2⟩
  · exact ⟨s.a, e.symm, .inl ⟨rfl, onL_y c1 ty h1 h2⟩⟩
  · exact ⟨s.b, e.symm, .inr (.inl ⟨rfl, onL_y c2 ty h1 h2⟩)⟩
  · exact ⟨t.a, e.symm, .inr (.inr (.inl ⟨rfl, onL_y d1 sy h1 h2⟩))⟩
  · exact ⟨t.b, e.symm, .inr (.inr (.inr ⟨rfl, onL_y d2 sy h1 h2⟩))⟩
/-- Is the common part of the boxes a box? -/
def MxOk (s t : Sg) : Prop := (mxG s t).x.lo ≤ (mxG s t).x.hi ∧ (mxG s t).y.lo ≤ (mxG s t).y.hi
theorem ends_box {s t : Sg} (h : Ends s t) : MxOk s t := by
  obtain ⟨p, hp⟩ := isEnd_iff.1 h
  have := isEnd_in hp
  exact ⟨by omega, by omega⟩
theorem box_ends {s t : Sg} (hs : s.a ≠ s.b) (ht : t.a ≠ t.b) (hc : Col s t) (h : MxOk s t) : Ends s t := by
  rcases Classical.em (s.a.x = s.b.x) with e | e
  · obtain ⟨p, _, hp⟩ := endY hs ht hc e h.2 (.inl rfl)
    exact isEnd_iff.2 ⟨p, hp⟩
  · obtain ⟨p, _, hp⟩ := endX hs ht hc e h.1 (.inl rfl)
    exact isEnd_iff.2 ⟨p, hp⟩
theorem sgl_iff (b : Bx) (h : okB b = true) : sgl b = true ↔ b.x.lo = b.x.hi ∧ b.y.lo = b.y.hi := by
  unfold sgl cr
  rw [h]
  simp
theorem along_no {s t : Sg} (hs : okG s = true) (ht : okG t = true) (h : ¬ MxOk s t) : mtAlong s t = 0 := by
  unfold MxOk at h
  unfold mtAlong
  rw [meetB_some hs ht, if_neg h]
  rfl
theorem along_yes {s t : Sg} (hs : okG s = true) (ht : okG t = true) (h : MxOk s t) : mtAlong s t = if (mxG s t).x.lo = (mxG s t).x.hi ∧ (mxG s t).y.lo = (mxG s t).y.hi then 1 else 3 := by
  have hB : okB (mxG s t) = true := by
    obtain ⟨a1, a2, a3⟩ := okG_iff.1 hs
    obtain ⟨b1, b2, b3⟩ := okG_iff.1 ht
    have p1 := okP_iff.1 a1
    have p2 := okP_iff.1 a2
    have p3 := okP_iff.1 b1
    have p4 := okP_iff.1 b2
    refine okB_iff.2 ⟨okS_iff.2 ⟨h.1, okC_of ?_, okC_of ?_⟩, okS_iff.2 ⟨h.2, okC_of ?_, okC_of ?_⟩⟩ <;> simp only [mxG, mxB, mxS, bxOf] <;> omega
  have e := sgl_iff _ hB
  unfold MxOk at h
  unfold mtAlong
  rw [meetB_some hs ht, if_pos h]
  show (if sgl (mxG s t) then (1 : Int) else 3) = _
  by_cases g : (mxG s t).x.lo = (mxG s t).x.hi ∧ (mxG s t).y.lo = (mxG s t).y.hi
  · rw [if_pos g, if_pos (e.2 g)]
  · rw [if_neg g, if_neg (fun k => g (e.1 k))]
theorem cross_no {s t : Sg} (h : Ends s t) : ¬ Cross s t := by
  intro hc
  obtain ⟨c1, c2⟩ := hc
  have c1 := sg_mul_neg.1 c1
  have c2 := sg_mul_neg.1 c2
  rcases h with h | h | h | h <;> (have := h.1; omega)
/-- How two proper segments meet. -/
theorem mtg_cases {s t : Sg} (hs : okG s = true) (ht : okG t = true) :
    (mtg s t = 0 ∧ ¬ Ends s t ∧ ¬ Cross s t) ∨ (mtg s t = 1 ∧ Ends s t) ∨ (mtg s t = 2 ∧ ¬ Ends s t ∧ Cross s t) ∨ (mtg s t = 3 ∧ Ends s t) := by
  obtain ⟨_, _, a3⟩ := okG_iff.1 hs
  obtain ⟨_, _, b3⟩ := okG_iff.1 ht
  by_cases hc : Col s t
  · rw [mtg_col hs ht hc]
    by_cases hm : MxOk s t
    · rw [along_yes hs ht hm]
      have hE := box_ends a3 b3 hc hm
      split
      · exact .inr (.inl ⟨rfl, hE⟩)
      · exact .inr (.inr (.inr ⟨rfl, hE⟩))
    · refine .inl ⟨along_no hs ht hm, fun h => hm (ends_box h), fun h => ?_⟩
      have := sg_mul_neg.1 h.1
      have h1 := hc.1
      omega
  · by_cases hx : Cross s t
    · exact .inr (.inr (.inl ⟨mtg_cross hs ht hc hx, fun h => cross_no h hx, hx⟩))
    · rw [mtg_else hs ht hc hx]
      by_cases hE : Ends s t
      · rw [if_pos hE]; exact .inr (.inl ⟨rfl, hE⟩)
      · rw [if_neg hE]; exact .inl ⟨rfl, hE, hx⟩
theorem Cross.sym {s t : Sg} (h : Cross s t) : Cross t s := ⟨h.2, h.1⟩
theorem Ends.sym {s t : Sg} (h : Ends s t) : Ends t s := by
  rcases h with h | h | h | h
  · exact .inr (.inr (.inl h))
  · exact .inr (.inr (.inr h))
  · exact .inl h
  · exact .inr (.inl h)
theorem mtg_comm (s t : Sg) : mtg s t = mtg t s := by
  by_cases hs : okG s = true
  · by_cases ht : okG t = true
    · obtain ⟨_, _, a3⟩ := okG_iff.1 hs
      obtain ⟨_, _, b3⟩ := okG_iff.1 ht
      by_cases hc : Col s t
      · rw [mtg_col hs ht hc, mtg_col ht hs (hc.sym b3), mtAlong_comm hs ht]
      · have hc2 : ¬ Col t s := fun h => hc (h.sym a3)
        by_cases hx : Cross s t
        · rw [mtg_cross hs ht hc hx, mtg_cross ht hs hc2 hx.sym]
        · rw [mtg_else hs ht hc hx, mtg_else ht hs hc2 (fun h => hx h.sym)]
          by_cases hE : Ends s t
          · rw [if_pos hE, if_pos hE.sym]
          · rw [if_neg hE, if_neg (fun h => hE h.sym)]
    · have ht : okG t = false := by simpa using ht
      rw [mtg_off (.inr ht), mtg_off (.inl ht)]
  · have hs : okG s = false := by simpa using hs
    rw [mtg_off (.inl hs), mtg_off (.inr hs)]
/-- A segment, from its other end. -/
def bk (s : Sg) : Sg := ⟨s.b, s.a⟩
theorem okG_bk (s : Sg) : okG (bk s) = okG s := by
  rw [Bool.eq_iff_iff, okG_iff, okG_iff]
  exact ⟨fun ⟨a, b, c⟩ => ⟨b, a, fun e => c e.symm⟩, fun ⟨a, b, c⟩ => ⟨b, a, fun e => c e.symm⟩⟩
theorem onL_bk {a b p : Pt} (h : onL a b p) : onL b a p := by
  obtain ⟨h0, h1, h2⟩ := h
  exact ⟨by rw [ar_swap1, h0]; rfl, by omega, by omega⟩
theorem bxOf_bk (s : Sg) : bxOf (bk s) = bxOf s := by
  unfold bxOf bk
  simp only [Int.min_comm s.b.x, Int.max_comm s.b.x, Int.min_comm s.b.y, Int.max_comm s.b.y]
theorem Ends.bk {s t : Sg} (h : Ends s t) : Ends (bk s) t := by
  rcases h with h | h | h | h
  · exact .inl (onL_bk h)
  · exact .inr (.inl (onL_bk h))
  · exact .inr (.inr (.inr h))
  · exact .inr (.inr (.inl h))
theorem sg_neg' (n : Int) : sg (-n) = -sg n := sg_neg n
theorem Cross.bk {s t : Sg} (h : Cross s t) : Cross (bk s) t := by
  obtain ⟨h1, h2⟩ := h
  refine ⟨?_, ?_⟩
  · show sg (ar t.a t.b s.b) * sg (ar t.a t.b s.a) < 0
    rw [Int.mul_comm]; exact h1
  · show sg (ar s.b s.a t.a) * sg (ar s.b s.a t.b) < 0
    rw [ar_swap1 s.a s.b t.a, ar_swap1 s.a s.b t.b, sg_neg, sg_neg, Int.neg_mul_neg]; exact h2
theorem mtg_bk (s t : Sg) : mtg (bk s) t = mtg s t := by
  by_cases hs : okG s = true
  · have hs' : okG (bk s) = true := by rw [okG_bk]; exact hs
    by_cases ht : okG t = true
    · by_cases hc : Col s t
      · rw [mtg_col hs ht hc, mtg_col hs' ht ⟨hc.2, hc.1⟩, mtAlong, mtAlong, bxOf_bk]
      · have hc2 : ¬ Col (bk s) t := fun h => hc ⟨h.2, h.1⟩
        by_cases hx : Cross s t
        · rw [mtg_cross hs ht hc hx, mtg_cross hs' ht hc2 hx.bk]
        · rw [mtg_else hs ht hc hx, mtg_else hs' ht hc2 (fun h => hx h.bk)]
          by_cases hE : Ends s t
          · rw [if_pos hE, if_pos hE.bk]
          · rw [if_neg hE, if_neg (fun h => hE h.bk)]
    · have ht : okG t = false := by simpa using ht
      rw [mtg_off (.inr ht), mtg_off (.inr ht)]
  · have hs : okG s = false := by simpa using hs
    rw [mtg_off (.inl hs), mtg_off (.inl (by rw [okG_bk]; exact hs))]
theorem ends_sides {s t : Sg} (h : Ends s t) : sg (ar s.a s.b t.a) * sg (ar s.a s.b t.b) ≤ 0 := by
  rcases h with h | h | h | h
  · rw [h.1]; simp [sg]
  · rw [h.1]; simp [sg]
  · exact sg_mul_le (opp h)
  · exact sg_mul_le (opp2 h)
theorem mtg_sides {s t : Sg} (h : mtg s t ≠ 0) : trn s.a s.b t.a * trn s.a s.b t.b ≤ 0 ∧ trn t.a t.b s.a * trn t.a t.b s.b ≤ 0 := by
  by_cases hs : okG s = true
  · by_cases ht : okG t = true
    · obtain ⟨a1, a2, a3⟩ := okG_iff.1 hs
      obtain ⟨b1, b2, b3⟩ := okG_iff.1 ht
      rw [trn_ok a1 a2 b1, trn_ok a1 a2 b2, trn_ok b1 b2 a1, trn_ok b1 b2 a2]
      rcases mtg_cases hs ht with h' | ⟨_, h'⟩ | ⟨_, _, h'⟩ | ⟨_, h'⟩
      · exact absurd h'.1 h
      · exact ⟨ends_sides h', ends_sides h'.sym⟩
      · have := h'.1
        have := h'.2
        exact ⟨by omega, by omega⟩
      · exact ⟨ends_sides h', ends_sides h'.sym⟩
    · have ht : okG t = false := by simpa using ht
      exact absurd (mtg_off (.inr ht)) h
  · have hs : okG s = false := by simpa using hs
    exact absurd (mtg_off (.inl hs)) h
theorem onS_a (s : Sg) : onS s s.a = okG s := by
  rw [Bool.eq_iff_iff, onS_iff]
  exact ⟨fun h => h.1, fun h => ⟨h, ar_a _ _, by omega, by omega⟩⟩
theorem mtg_range (s t : Sg) : 0 ≤ mtg s t ∧ mtg s t ≤ 3 := by
  by_cases hs : okG s = true
  · by_cases ht : okG t = true
    · rcases mtg_cases hs ht with h' | ⟨h', _⟩ | ⟨h', _, _⟩ | ⟨h', _⟩ <;> omega
    · have ht : okG t = false := by simpa using ht
      rw [mtg_off (.inr ht)]; omega
  · have hs : okG s = false := by simpa using hs
    rw [mtg_off (.inl hs)]; omega
theorem ends_onS {s t : Sg} (hs : okG s = true) (ht : okG t = true) : (onS s t.a || (onS s t.b || (onS t s.a || onS t s.b))) = (decide (mtg s t = 1) || decide (mtg s t = 3)) := by
  rw [Bool.eq_iff_iff]
  have e : (onS s t.a || (onS s t.b || (onS t s.a || onS t s.b))) = true ↔ Ends s t := by
    simp only [Bool.or_eq_true, onS_iff, hs, ht, true_and, Ends]
  rw [e, Bool.or_eq_true]
  rcases mtg_cases hs ht with h' | h' | h' | h'
  · rw [h'.1]; exact ⟨fun h => absurd h h'.2.1, fun h => by rcases h with h | h <;> exact absurd (of_decide_eq_true h) (by decide)⟩
  · rw [h'.1]; exact ⟨fun _ => .inl rfl, fun _ => h'.2⟩
  · rw [h'.1]; exact ⟨fun h => absurd h h'.2.1, fun h => by rcases h with h | h <;> exact absurd (of_decide_eq_true h) (by decide)⟩
  · rw [h'.1]; exact ⟨fun _ => .inr rfl, fun _ => h'.2⟩
end Go.Proofs.Ytdefpcjlbganpaa
