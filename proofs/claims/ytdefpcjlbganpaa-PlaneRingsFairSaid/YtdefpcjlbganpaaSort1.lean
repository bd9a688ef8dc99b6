import Derived.Test.YtdefpcjlbganpaaRingsLaw
import Derived.WalkKit
import Derived.LoopTactic
import Derived.WalkSpells
import Derived.WalkLawsBesides
import Derived.Lib.Hide
import Derived.BigQuiet
import Derived.IntWalk
import Derived.Deep.DeepMust
import Derived.WalkSmall
import Derived.StillTailTactics
import Derived.Deep.RegionLaw
import Derived.Deep.RegionHeld3
import Derived.Deep.QuietTactic
import Derived.Deep.DeepCutAuto
import Derived.Sort.Grow
import Derived.Laws.AppendOwn
import Derived.Deep.CutBlock
namespace Go.Proofs.Ytdefpcjlbganpaa
open Go.RowKit Go.BigFrame Go.Sort
attribute [local go_sem] World.cell?_alloc_some
/-- Numbers, as they lie in memory. -/
def IntsAt (W : World) (p : Option Addr) (l : List Int) : Prop :=
  l = [] ∨ ∃ b o, p = some ⟨b, o, none⟩ ∧ b < W.heap.size ∧ ∀ (j : Nat) (x : Int), l[j]? = some x → W.cell? ⟨b, o + j, none⟩ = some (.int .i64 x)
theorem IntsAt.keep {W W' : World} {p l} (h : IntsAt W p l) (hb : Below W.heap.size W W') : IntsAt W' p l := by
  rcases h with rfl | ⟨b, o, rfl, hlt, hc⟩
  · exact Or.inl rfl
  · exact Or.inr ⟨b, o, rfl, Nat.lt_of_lt_of_le hlt hb.size, fun j q hq => by rw [hb.cell (p := ⟨b, o + j, none⟩) hlt]; exact hc j q hq⟩
/-- The first that is not 0. -/
def orI : List Int → Int
  | [] => 0
  | x :: r => if x = 0 then orI r else x
theorem orI_take : ∀ {l : List Int} {k : Nat} {x : Int}, (∀ (j : Nat) (y : Int), j < k → l[j]? = some y → y = 0) → l[k]? = some x → x ≠ 0 → orI l = x
  | [], _, _, _, h, _ => by simp at h
  | y :: r, 0, x, _, h, hx => by
    obtain rfl : y = x := by simpa using h
    simp [orI, hx]
  | y :: r, k + 1, x, ha, h, hx => by
    have : y = 0 := ha 0 y (by omega) rfl
    rw [orI, if_pos this]
    exact orI_take (k := k) (fun j z hj hz => ha (j + 1) z (by omega) (by simpa using hz)) (by simpa using h) hx
theorem orI_zero : ∀ {l : List Int}, (∀ (j : Nat) (y : Int), l[j]? = some y → y = 0) → orI l = 0
  | [], _ => rfl
  | y :: r, ha => by
    rw [orI, if_pos (ha 0 y rfl)]
    exact orI_zero (fun j z hz => ha (j + 1) z (by simpa using hz))
set_option maxHeartbeats 1000000 in
theorem cmpOr_any (q : Option Addr) (cap : Nat) (l : List Int) (w : World) (hl : l.length ≤ 1000000) (hp : IntsAt w q l) :
    Calls Try.prog 106 #[.slice q l.length cap] w fun e w' => e = .returned (.int .i64 (orI l)) ∧ w = w' := by
  have HP := Lib.hid hp
  clear hp
  go_enter Try.func106, Try.ntmps106
  go_wp2_with fail
  go_loopw [8] (fun i wr => ∃ k : Nat, k ≤ l.length ∧ i = .int .i64 (k : Int) ∧ w = wr ∧ (∀ (j : Nat) (y : Int), j < k → l[j]? = some y → y = 0)) (fun i _ => l.length - (intOf i).toNat)
  case atStart => exact ⟨0, Nat.zero_le _, rfl, rfl, fun j y h => absurd h (by omega)⟩
  case round =>
    obtain ⟨k, hk, rfl, rfl, ha⟩ := hrel
    have HA := Lib.hid ha
    clear ha
    by_cases hlt : k < l.length
    · obtain ⟨x, hx⟩ : ∃ x, l[k]? = some x := ⟨_, List.getElem?_eq_getElem hlt⟩
      rcases HP.out with hl | ⟨b, o, rfl, _, hc⟩
      · rw [hl] at hlt; simp at hlt
      · have g := hc k x hx
        have HX := Lib.hid hx
        clear hc hx
        by_cases h0 : x = 0
        · subst h0
          go_wp2_with fail
          go_roundw
          case rel => exact ⟨k + 1, by omega, by simp, by first | rfl | trivial, fun j y hj hy => by
            by_cases e : j = k
            · subst e; rw [HX.out] at hy; exact (Option.some.inj hy).symm
            · exact HA.out j y (by omega) hy⟩
          case measure => simp [intOf]; omega
        · have hb : (x != 0) = true := by simpa using h0
          have HH := Lib.hid h0
          clear h0
          go_wp2_with fail
          go_ret
          exact ⟨ret_int (orI_take HA.out HX.out HH.out).symm, rfl⟩
    · obtain rfl : k = l.length := by omega
      go_wp2_with fail
      go_ret
      exact ⟨ret_int (orI_zero (fun j y hy => HA.out j y ((List.getElem?_eq_some_iff.1 hy).1) hy)).symm, rfl⟩
/-- How two points compare. -/
def cmpP (p q : Pt) : Int := orI [cm p.x q.x, cm p.y q.y]
theorem ints2 (W : World) (n : Nat) (hn : W.heap.size = n) (a b : Int) (e : TypeId) : IntsAt (W.alloc (.cells #[.int .i64 a, .int .i64 b] e)) (some ⟨n, 0, none⟩) [a, b] := by
  subst hn
  refine Or.inr ⟨_, 0, rfl, by simp, fun j q hq => ?_⟩
  rw [Nat.zero_add]
  match j, hq with
  | 0, rfl => exact new_at W _ _ _ _ rfl
  | 1, rfl => exact new_at W _ _ _ _ rfl
theorem grow_ex3 (w : World) (a b c : Obj) : ∃ k os, ((w.alloc a).alloc b).drew.alloc c = grow (w.drewN k) os := by
  refine ⟨1, #[a, b] ++ #[c], ?_⟩
  have e : ((w.alloc a).alloc b).drew = grow (w.drewN 1) #[a, b] := by
    rw [alloc_eq_grow, alloc_eq_grow, grow_grow]; rfl
  rw [e, alloc_eq_grow, grow_grow]
set_option maxRecDepth 100000 in
set_option maxHeartbeats 2000000 in
theorem hull1_any (p q : Pt) (w : World) :
    Calls Try.prog 105 #[p.v, q.v] w fun e w' => e = .returned (.int .i64 (cmpP p q)) ∧ ∃ k os, w' = grow (w.drewN k) os := by
  obtain ⟨x, hx⟩ : ∃ x, cm p.x q.x = x := ⟨_, rfl⟩
  obtain ⟨y, hy⟩ : ∃ y, cm p.y q.y = y := ⟨_, rfl⟩
  have C1 : ∀ W, Hid (Calls Try.prog 78 #[.int .i64 p.x, .int .i64 q.x] W fun e w' => e = .returned (.int .i64 x) ∧ W = w') := fun W => by rw [← hx]; exact compare_any _ _ _
  have C2 : ∀ W, Hid (Calls Try.prog 78 #[.int .i64 p.y, .int .i64 q.y] W fun e w' => e = .returned (.int .i64 y) ∧ W = w') := fun W => by rw [← hy]; exact compare_any _ _ _
  have CO := fun b W h => Lib.hid (cmpOr_any (some ⟨b, 0, none⟩) 2 [x, y] W (by simp) h)
  rw [show cmpP p q = orI [x, y] from by rw [cmpP, hx, hy]]
  obtain ⟨r, hr⟩ : ∃ r, orI [x, y] = r := ⟨_, rfl⟩
  simp only [hr] at CO ⊢
  clear hx hy hr
  go_enter Try.func105, Try.ntmps105
  go_wp2_with fail
  have S := (((St.nil w).boxP p 23 _ rfl).boxP q 23 (w.heap.size + 1) (by simp)).dr
  obtain ⟨_, ⟨_, f3, _⟩, ⟨_, f4, _⟩, ⟨_, f1, _⟩, ⟨_, f2, _⟩, _⟩ := S
  refine wp_region_still_tail 10 (by kernel_rfl) (by kernel_rfl) ?_
  simp only [List.take_succ_cons, List.take_zero, List.drop_succ_cons, List.drop_zero]
  change wpStill _ _ ((w.alloc (.cells #[.int .i64 p.x, .int .i64 p.y] 23)).alloc (.cells #[.int .i64 q.x, .int .i64 q.y] 23)).drew (fun a' => wpList _ _ _ _ a' ((w.alloc (.cells #[.int .i64 p.x, .int .i64 p.y] 23)).alloc (.cells #[.int .i64 q.x, .int .i64 q.y] 23)).drew) _ _
  obtain ⟨W1, hW1⟩ : ∃ W1, ((w.alloc (.cells #[.int .i64 p.x, .int .i64 p.y] 23)).alloc (.cells #[.int .i64 q.x, .int .i64 q.y] 23)).drew = W1 := ⟨_, rfl⟩
  rw [hW1] at f1 f2 f3 f4 ⊢
  have HW1 := Lib.hid hW1
  clear hW1
  repeat still_step
  still_call ((C1 _).out.mono fun _ _ h => ⟨h.1, h.2.symm⟩)
  repeat still_step
  still_call ((C2 _).out.mono fun _ _ h => ⟨h.1, h.2.symm⟩)
  refine wpStill_nil ?_
  go_wp2_with (go_at_call 106; refine (CO _ _ (ints2 _ _ rfl x y 3)).out.mono ?_; rintro e w' ⟨rfl, rfl⟩)
  go_ret
  rw [← HW1.out]
  exact ⟨rfl, grow_ex3 _ _ _ _⟩
end Go.Proofs.Ytdefpcjlbganpaa
