import Derived.Test.YtdefpcjlbganpaaBase
import Derived.WalkKit
import Derived.LoopTactic
import Derived.WalkSpells
import Derived.WalkLawsBesides
import Derived.Lib.Hide
import Derived.BigQuiet
import Derived.IntWalk
import Derived.Deep.DeepMust
import Derived.WalkSmall
import Derived.StillTailTactics
import Derived.Deep.RegionLaw
import Derived.Deep.RegionHeld3
import Derived.Deep.QuietTactic
namespace Go.Proofs.Ytdefpcjlbganpaa
open Go.RowKit
/-- The corners of a list, as they lie in memory. -/
def PtsAt (W : World) (p : Option Addr) (l : List Pt) : Prop :=
  l = [] ∨ ∃ b o, p = some ⟨b, o, none⟩ ∧ b < W.heap.size ∧ ∀ (j : Nat) (q : Pt), l[j]? = some q →
    W.cell? ⟨b, o + j * 2, none⟩ = some (.int .i64 q.x) ∧ W.cell? ⟨b, o + j * 2 + 1, none⟩ = some (.int .i64 q.y)
theorem PtsAt.keep {W W' : World} {p l} (h : PtsAt W p l) (hb : Below W.heap.size W W') : PtsAt W' p l := by
  rcases h with rfl | ⟨b, o, rfl, hlt, hc⟩
  · exact Or.inl rfl
  · refine Or.inr ⟨b, o, rfl, Nat.lt_of_lt_of_le hlt hb.size, fun j q hq => ?_⟩
    rw [hb.cell (p := ⟨b, o + j * 2, none⟩) hlt, hb.cell (p := ⟨b, o + j * 2 + 1, none⟩) hlt]
    exact hc j q hq
theorem all_take {α} (f : α → Bool) (l : List α) (k : Nat) (h : ¬ k < l.length) (ht : (l.take k).all f = true) : l.all f = true := by
  rwa [List.take_of_length_le (by omega)] at ht
theorem all_take_succ {α} (f : α → Bool) (l : List α) (k : Nat) (q : α) (h : l[k]? = some q) (ht : (l.take k).all f = true) (hq : f q = true) : (l.take (k + 1)).all f = true := by
  rw [List.take_add_one, h]
  simp only [Option.toList, List.all_append, ht, List.all_cons, hq, List.all_nil, Bool.and_self]
theorem all_false {α} (f : α → Bool) (l : List α) (k : Nat) (q : α) (h : l[k]? = some q) (hq : f q = false) : l.all f = false := by
  rw [List.all_eq_false]
  exact ⟨q, List.mem_of_getElem? h, by rw [hq]; simp⟩
set_option maxHeartbeats 400000 in
theorem valid_any (p : Option Addr) (cap : Nat) (l : List Pt) (w : World) (hl : l.length ≤ 1000000) (hp : PtsAt w p l) :
   Calls Try.prog 80 #[.slice p l.length cap] w fun e w' => e = .returned (.bool (l.all okP)) ∧ Below w.heap.size w w' := by
  go_enter Try.func80, Try.ntmps80
  go_wp2_with fail
  go_loopw [3] (fun i wr => ∃ k : Nat, k ≤ l.length ∧ i = .int .i64 (k : Int) ∧ (l.take k).all okP = true ∧ Below w.heap.size w wr ∧ PtsAt wr p l) (fun i wr => l.length - (intOf i).toNat)
  case atStart => exact ⟨0, Nat.zero_le _, rfl, by simp, Below.refl _ _, hp⟩
  case round =>
    obtain ⟨k, hk, rfl, ht, hb, hw⟩ := hrel
    have hht := Lib.hid ht
    have hhb := Lib.hid hb
    have hhw := Lib.hid hw
    clear ht hb
    by_cases hlt : k < l.length
    · obtain ⟨q, hq0⟩ : ∃ q, l[k]? = some q := ⟨_, List.getElem?_eq_getElem hlt⟩
      rcases hw with rfl | ⟨b, o, rfl, hbl, hc⟩
      · simp at hlt
      · obtain ⟨c1, c2⟩ := hc k q hq0
        have hq := Lib.hid hq0
        clear hq0 hc hp
        go_wp2_with fail
        refine (rValid_any q _).mono ?_
        rintro e w1 ⟨rfl, hb1⟩
        have hhb1 := Lib.hid hb1
        clear hb1
        cases hv : okP q with
        | true =>
          go_wp2_with fail
          go_roundw
          case rel => exact ⟨k + 1, by omega, rfl, all_take_succ _ _ _ _ hq.out hht.out hv, hhb.out.trans (hhb1.out.mono hhb.out.size), hhw.out.keep hhb1.out⟩
          case measure => simp [intOf]; omega
        | false =>
          go_wp2_with fail
          go_ret
          exact ⟨ret_bool (all_false _ _ _ _ hq.out hv).symm, hhb.out.trans (hhb1.out.mono hhb.out.size)⟩
    · go_wp2_with fail
      go_ret
      exact ⟨ret_bool (all_take _ _ _ hlt hht.out).symm, hhb.out⟩
/-- The side of a line. -/
def trn (a b c : Pt) : Int := if okP a && okP b && okP c then sg (ar a b c) else 0
theorem cm_sg (n : Int) : cm n 0 = sg n := by simp [cm, sg]; omega
set_option maxHeartbeats 1000000 in
theorem Turn_any (a b c : Pt) (w : World) :
   Calls Try.prog 19 #[a.v, b.v, c.v] w fun e w' => e = .returned (.int .i64 (trn a b c)) ∧ Below w.heap.size w w' := by
  have S := Lib.hid ((((St.nil w).box2 (.int .i64 a.x) (.int .i64 a.y) 23 _ rfl).box2 (.int .i64 b.x) (.int .i64 b.y) 23 (w.heap.size + 1) (by simp)).box2 (.int .i64 c.x) (.int .i64 c.y) 23 (w.heap.size + 1 + 1) (by simp))
  have CV := fun p W => Lib.hid (Valid_any p W)
  have CA := fun W h1 h2 h3 => Lib.hid (twiceArea_any a b c W h1 h2 h3)
  obtain ⟨va, ha⟩ : ∃ v, okP a = v := ⟨_, rfl⟩
  obtain ⟨vb, hb⟩ : ∃ v, okP b = v := ⟨_, rfl⟩
  obtain ⟨vc, hc⟩ : ∃ v, okP c = v := ⟨_, rfl⟩
  go_enter Try.func19, Try.ntmps19
  go_wp2_with fail
  refine (CV a _).out.mono ?_
  rintro e w1 ⟨rfl, hb1⟩
  have S1 := Lib.hid (S.out.next hb1)
  obtain ⟨_, ⟨_, p1⟩, ⟨_, p2⟩, ⟨_, p3⟩, ⟨_, p4⟩, ⟨_, p5⟩, ⟨_, p6⟩, _⟩ := S1.out
  clear hb1 S
  rw [ha]
  cases va
  · go_wp2_with fail
    go_ret
    exact ⟨ret_int (by simp [trn, ha]), S1.out.b⟩
  · go_wp2_with fail
    refine (CV b _).out.mono ?_
    rintro e w2 ⟨rfl, hb2⟩
    have S2 := Lib.hid (S1.out.next hb2)
    clear p1 p2 p3 p4 p5 p6 hb2 S1
    obtain ⟨_, ⟨_, p1⟩, ⟨_, p2⟩, ⟨_, p3⟩, ⟨_, p4⟩, ⟨_, p5⟩, ⟨_, p6⟩, _⟩ := S2.out
    rw [hb]
    cases vb
    · go_wp2_with fail
      go_ret
      exact ⟨ret_int (by simp [trn, hb]), S2.out.b⟩
    · go_wp2_with fail
      refine (CV c _).out.mono ?_
      rintro e w3 ⟨rfl, hb3⟩
      have S3 := Lib.hid (S2.out.next hb3)
      clear p1 p2 p3 p4 p5 p6 hb3 S2
      obtain ⟨_, ⟨_, p1⟩, ⟨_, p2⟩, ⟨_, p3⟩, ⟨_, p4⟩, ⟨_, p5⟩, ⟨_, p6⟩, _⟩ := S3.out
      rw [hc]
      cases vc
      · go_wp2_with fail
        go_ret
        exact ⟨ret_int (by simp [trn, hc]), S3.out.b⟩
      · go_wp2_with fail
        refine (CA _ ha hb hc).out.mono ?_
        rintro e w4 ⟨rfl, hb4⟩
        have S4 := Lib.hid (S3.out.next hb4)
        clear p1 p2 p3 p4 p5 p6 hb4 S3
        go_wp2_with fail
        refine (compare_any _ _ _).mono ?_
        rintro e w' ⟨rfl, rfl⟩
        go_wp2_with fail
        go_ret
        exact ⟨ret_int (by simp only [trn, ha, hb, hc, cm_sg]; rfl), S4.out.b⟩
/-- The square of the distance of valid points. -/
def dst (a b : Pt) : Int := if okP a && okP b then dq a b else -1
set_option maxHeartbeats 1000000 in
theorem Dist_any (a b : Pt) (w : World) :
   Calls Try.prog 21 #[a.v, b.v] w fun e w' => e = .returned (.int .i64 (dst a b)) ∧ Below w.heap.size w w' := by
  have S := Lib.hid (((St.nil w).box2 (.int .i64 a.x) (.int .i64 a.y) 23 _ rfl).box2 (.int .i64 b.x) (.int .i64 b.y) 23 (w.heap.size + 1) (by simp))
  have CV := fun p W => Lib.hid (Valid_any p W)
  obtain ⟨va, ha⟩ : ∃ v, okP a = v := ⟨_, rfl⟩
  obtain ⟨vb, hb⟩ : ∃ v, okP b = v := ⟨_, rfl⟩
  go_enter Try.func21, Try.ntmps21
  go_wp2_with fail
  refine (CV a _).out.mono ?_
  rintro e w1 ⟨rfl, hb1⟩
  have S1 := Lib.hid (S.out.next hb1)
  obtain ⟨_, ⟨_, p1⟩, ⟨_, p2⟩, ⟨_, p3⟩, ⟨_, p4⟩, _⟩ := S1.out
  clear hb1 S
  rw [ha]
  cases va
  · go_wp2_with fail
    go_ret
    exact ⟨ret_int (by simp [dst, ha]), S1.out.b⟩
  · go_wp2_with fail
    refine (CV b _).out.mono ?_
    rintro e w2 ⟨rfl, hb2⟩
    have S2 := Lib.hid (S1.out.next hb2)
    clear p1 p2 p3 p4 hb2 S1
    obtain ⟨_, ⟨_, p1⟩, ⟨_, p2⟩, ⟨_, p3⟩, ⟨_, p4⟩, _⟩ := S2.out
    rw [hb]
    cases vb
    · go_wp2_with fail
      go_ret
      exact ⟨ret_int (by simp [dst, hb]), S2.out.b⟩
    · have E1 : Hid (wrap64 (b.x - a.x) = b.x - a.x ∧ wrap64 (b.y - a.y) = b.y - a.y ∧ (-2097152 ≤ b.x - a.x ∧ b.x - a.x ≤ 2097152) ∧ (-2097152 ≤ b.y - a.y ∧ b.y - a.y ≤ 2097152)) := by
        obtain ⟨a1, a2⟩ := okP_iff.1 ha
        obtain ⟨b1, b2⟩ := okP_iff.1 hb
        exact ⟨w64 (by omega), w64 (by omega), by omega, by omega⟩
      go_wp2_with fail
      rw [E1.out.1, E1.out.2.1]
      refine (squares_any _ _ _ E1.out.2.2.1 E1.out.2.2.2).mono ?_
      rintro e w' ⟨rfl, rfl⟩
      go_wp2_with fail
      go_ret
      exact ⟨ret_int (by simp only [dst, ha, hb]; rfl), S2.out.b⟩
theorem pts3 (W : World) (n : Nat) (hn : W.heap.size = n) (a b c : Pt) (e : TypeId) : PtsAt (W.alloc (.cells #[.int .i64 a.x, .int .i64 a.y, .int .i64 b.x, .int .i64 b.y, .int .i64 c.x, .int .i64 c.y] e)) (some ⟨n, 0, none⟩) [a, b, c] := by
  subst hn
  refine Or.inr ⟨_, 0, rfl, by simp, fun j q hq => ?_⟩
  rw [Nat.zero_add]
  match j, hq with
  | 0, rfl => exact ⟨new_at W _ _ _ _ rfl, new_at W _ _ _ _ rfl⟩
  | 1, rfl => exact ⟨new_at W _ _ _ _ rfl, new_at W _ _ _ _ rfl⟩
  | 2, rfl => exact ⟨new_at W _ _ _ _ rfl, new_at W _ _ _ _ rfl⟩
theorem pts2 (W : World) (n : Nat) (hn : W.heap.size = n) (a b : Pt) (e : TypeId) : PtsAt (W.alloc (.cells #[.int .i64 a.x, .int .i64 a.y, .int .i64 b.x, .int .i64 b.y] e)) (some ⟨n, 0, none⟩) [a, b] := by
  subst hn
  refine Or.inr ⟨_, 0, rfl, by simp, fun j q hq => ?_⟩
  rw [Nat.zero_add]
  match j, hq with
  | 0, rfl => exact ⟨new_at W _ _ _ _ rfl, new_at W _ _ _ _ rfl⟩
  | 1, rfl => exact ⟨new_at W _ _ _ _ rfl, new_at W _ _ _ _ rfl⟩
set_option maxHeartbeats 1000000 in
theorem rTurn_any (a b c : Pt) (w : World) :
   Calls Try.prog 20 #[a.v, b.v, c.v] w fun e w' => e = .returned (.int .i64 (trn a b c)) ∧ Below w.heap.size w w' := by
  have S := Lib.hid ((((St.nil w).box2 (.int .i64 a.x) (.int .i64 a.y) 23 _ rfl).box2 (.int .i64 b.x) (.int .i64 b.y) 23 (w.heap.size + 1) (by simp)).box2 (.int .i64 c.x) (.int .i64 c.y) 23 (w.heap.size + 1 + 1) (by simp))
  have CV := fun p cap W h => Lib.hid (valid_any p cap [a, b, c] W (by simp) h)
  have CA := fun W h1 h2 h3 => Lib.hid (twice_any a b c W h1 h2 h3)
  obtain ⟨v, hv⟩ : ∃ v, Hid ([a, b, c].all okP = v) := ⟨_, rfl⟩
  rw [hv.out] at CV
  go_enter Try.func20, Try.ntmps20
  go_wp2_with fail
  refine (CV _ _ _ (pts3 _ _ (by simp) a b c 23)).out.mono ?_
  rintro e w1 ⟨rfl, hb1⟩
  have S1 := Lib.hid ((S.out.al _).next hb1)
  obtain ⟨_, ⟨_, p1⟩, ⟨_, p2⟩, ⟨_, p3⟩, ⟨_, p4⟩, ⟨_, p5⟩, ⟨_, p6⟩, _⟩ := S1.out
  clear hb1 S
  cases v
  · have hv' : (okP a && okP b && okP c) = false := by have := hv.out; simpa [Bool.and_assoc] using this
    have HV := Lib.hid hv'
    clear hv hv'
    go_wp2_with fail
    go_ret
    exact ⟨ret_int (by unfold trn; rw [HV.out]; rfl), S1.out.b⟩
  · have hv' : (okP a && okP b && okP c) = true := by have := hv.out; simpa [Bool.and_assoc] using this
    have HV := Lib.hid hv'
    have h1 : Hid (okP a = true ∧ okP b = true ∧ okP c = true) := by unfold Hid; simpa [and_assoc] using hv'
    clear hv hv'
    go_wp2_with fail
    refine (CA _ h1.out.1 h1.out.2.1 h1.out.2.2).out.mono ?_
    rintro e w2 ⟨rfl, hb2⟩
    have S2 := Lib.hid (S1.out.next hb2)
    clear p1 p2 p3 p4 p5 p6 hb2 S1
    go_wp2_with fail
    refine (sign_any _ _).mono ?_
    rintro e w' ⟨rfl, rfl⟩
    go_wp2_with fail
    go_ret
    exact ⟨ret_int (by unfold trn; rw [HV.out]; rfl), S2.out.b⟩
set_option maxHeartbeats 1000000 in
theorem rDist_any (a b : Pt) (w : World) :
   Calls Try.prog 22 #[a.v, b.v] w fun e w' => e = .returned (.int .i64 (dst a b)) ∧ Below w.heap.size w w' := by
  have S := Lib.hid (((St.nil w).box2 (.int .i64 a.x) (.int .i64 a.y) 23 _ rfl).box2 (.int .i64 b.x) (.int .i64 b.y) 23 (w.heap.size + 1) (by simp))
  have CV := fun p cap W h => Lib.hid (valid_any p cap [a, b] W (by simp) h)
  have CA := fun W h1 h2 => Lib.hid (square_any a b W h1 h2)
  obtain ⟨v, hv⟩ : ∃ v, Hid ([a, b].all okP = v) := ⟨_, rfl⟩
  rw [hv.out] at CV
  go_enter Try.func22, Try.ntmps22
  go_wp2_with fail
  refine (CV _ _ _ (pts2 _ _ (by simp) a b 23)).out.mono ?_
  rintro e w1 ⟨rfl, hb1⟩
  have S1 := Lib.hid ((S.out.al _).next hb1)
  obtain ⟨_, ⟨_, p1⟩, ⟨_, p2⟩, ⟨_, p3⟩, ⟨_, p4⟩, _⟩ := S1.out
  clear hb1 S
  cases v
  · have hv' : (okP a && okP b) = false := by have := hv.out; simpa [Bool.and_assoc] using this
    have HV := Lib.hid hv'
    clear hv hv'
    go_wp2_with fail
    go_ret
    exact ⟨ret_int (by unfold dst; rw [HV.out]; rfl), S1.out.b⟩
  · have hv' : (okP a && okP b) = true := by have := hv.out; simpa [Bool.and_assoc] using this
    have HV := Lib.hid hv'
    have h1 : Hid (okP a = true ∧ okP b = true) := by unfold Hid; simpa [and_assoc] using hv'
    clear hv hv'
    go_wp2_with fail
    refine (CA _ h1.out.1 h1.out.2).out.mono ?_
    rintro e w2 ⟨rfl, hb2⟩
    have S2 := Lib.hid (S1.out.next hb2)
    clear p1 p2 p3 p4 hb2 S1
    go_wp2_with fail
    go_ret
    exact ⟨ret_int (by unfold dst; rw [HV.out]; rfl), S2.out.b⟩
end Go.Proofs.Ytdefpcjlbganpaa
