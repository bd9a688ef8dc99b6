import Derived.Test.YtcejmfgbfdhflaaGreatDe
import Derived.WalkKit
import Derived.LoopTactic
import Derived.WalkSpells
import Derived.WalkLawsBesides
import Derived.Lib.Hide
import Derived.BigQuiet
import Derived.IntWalk
import Derived.Deep.DeepMust
import Derived.WalkSmall
import Derived.StillTailTactics
import Derived.Deep.RegionLaw
import Derived.Deep.RegionHeld3
import Derived.Deep.QuietTactic
namespace Go.Proofs.YtcejmfgbfdhflaaGreat
open Go.RowKit Go.Shelf Go.BigFrame Go.Sort
attribute [local go_sem] World.cell?_alloc_some
/-- What Clashes gives. -/
def clsE (x : WA) : Int := chk x
def clsL (x : WA) : List (Int × Int) := if chk x = 0 then clA x else []
theorem ownsRow_base {W : World} {B C : Nat} {e : TypeId} {k n : Nat} {v : Value} {xs : List Value} (h : W.ownsRow B e k v n xs) (hc : C ≤ B) : W.ownsRow C e k v n xs := by
  obtain ⟨h1, h2 | ⟨g, cap, cur, rfl, hg, hc', h3, h4, h5, h6⟩⟩ := h
  · exact ⟨h1, .inl h2⟩
  · exact ⟨h1, .inr ⟨g, cap, cur, rfl, Nat.le_trans hc hg, hc', h3, h4, h5, h6⟩⟩
set_option maxRecDepth 100000 in
set_option maxHeartbeats 3200000 in
theorem Clashes_any (x : WA) (w : World) (h : x.At w) :
    Calls Tryz.prog 34 #[x.v] w fun e w' => (∃ v, e = .returned (.tuple #[v, .int .i64 (chk x)]) ∧ OP w' w.heap.size v (clsL x)) ∧ Below w.heap.size w w' := by
  have K1 := fun W (hb : Below w.heap.size w W) => Check_any x W (h.keep hb)
  have K2 : chk x = 0 → ∀ W, Below w.heap.size w W → Calls Tryz.prog 107 #[x.v] W fun e w' => (∃ v, e = .returned v ∧ OP w' (W.heap.size + 1) v (clA x)) ∧ Below W.heap.size W w' := fun e W hb => clashesW_any x W (h.keep hb) e
  obtain ⟨k, hk⟩ : ∃ k, chk x = k := ⟨_, rfl⟩
  unfold clsL
  rw [hk] at K2 ⊢
  simp only [hk] at K1
  obtain ⟨A, hA⟩ : ∃ A, clA x = A := ⟨_, rfl⟩
  rw [hA] at K2 ⊢
  obtain ⟨L, hL⟩ : ∃ L, (if k = 0 then A else []) = L := ⟨_, rfl⟩
  rw [hL]
  have HL := Lib.hid hL
  have HK2 := Lib.hid K2
  clear h hk hA K2 hL
  obtain ⟨cs, ps, rs, q1, q2, q3, c1, c2, c3⟩ := x
  simp only [WA.v] at *
  go_enter Tryz.func34, Tryz.ntmps34
  go_wp2_with fail
  obtain ⟨W0, hW0⟩ : ∃ W0, (w).alloc (.cells #[.slice q1 cs.length c1, .slice q2 ps.length c2, .slice q3 rs.length c3] 26) = W0 := ⟨_, rfl⟩
  have S0 : St w W0 [(w.heap.size, 0, .slice q1 cs.length c1), (w.heap.size, 1, .slice q2 ps.length c2), (w.heap.size, 2, .slice q3 rs.length c3)] := by rw [← hW0]; exact ((St.nil w)).box #[.slice q1 cs.length c1, .slice q2 ps.length c2, .slice q3 rs.length c3] 26 (w.heap.size) (by simp)
  rw [hW0]
  clear hW0
  obtain ⟨C, hC0, HC, LC, BC, hne⟩ := cls S0
  haveI := hne
  obtain ⟨c0, rfl⟩ : ∃ n : Wd C, W0 = n.w := ⟨⟨_, hC0⟩, rfl⟩
  have fC0 : ∀ n : Wd C, n.w.cell? ⟨w.heap.size, 0, none⟩ = some (.slice q1 cs.length c1) := fun n => (LC.out n).1.2.1
  have fC1 : ∀ n : Wd C, n.w.cell? ⟨w.heap.size, 1, none⟩ = some (.slice q2 ps.length c2) := fun n => (LC.out n).2.1.2.1
  have fC2 : ∀ n : Wd C, n.w.cell? ⟨w.heap.size, 2, none⟩ = some (.slice q3 rs.length c3) := fun n => (LC.out n).2.2.1.2.1
  clear S0 hC0
  have D1 := cinL HC BC K1
  clear K1
  by_cases hk0 : k = 0
  · subst hk0
    obtain rfl : A = L := by have := HL.out; rwa [if_pos rfl] at this
    go_wp2_with (first | first | (go_at_call 23; with_reducible refine (D1 _).out.mono ?_; rintro e w' ⟨rfl, n, rfl⟩))
    refine (HK2.out (by first | rfl | trivial) _ (BC.out _)).mono ?_
    rintro e w3 ⟨⟨v, rfl, hO⟩, hb⟩
    have HO := Lib.hid hO
    have HB := Lib.hid ((BC.out _).trans (hb.mono (BC.out _).size))
    go_wp2_with fail
    go_ret2
    exact ⟨⟨_, rfl, ownsRow_base HO.out (by have := (BC.out n).size; omega)⟩, HB.out⟩
  · have hb : (k != 0) = true := by simpa using hk0
    obtain rfl : [] = L := by have := HL.out; rwa [if_neg hk0] at this
    clear hk0
    go_wp2_with (first | first | (go_at_call 23; with_reducible refine (D1 _).out.mono ?_; rintro e w' ⟨rfl, n, rfl⟩))
    go_ret2
    exact ⟨⟨_, rfl, World.ownsRow_nil _ _ _ _⟩, BC.out _⟩
theorem OP.first {W : World} {B : Nat} {v : Value} {p : Int × Int} {l : List (Int × Int)} (h : OP W B v (p :: l)) : ∃ g cap, v = .slice (some ⟨g, 0, none⟩) (l.length + 1) cap ∧ W.cell? ⟨g, 0, none⟩ = some (.int .i64 p.1) ∧ W.cell? ⟨g, 1, none⟩ = some (.int .i64 p.2) := by
  obtain ⟨h1, ⟨rfl, h2⟩ | ⟨g, cap, cur, rfl, hB, hc, h3, h4, h5, h6⟩⟩ := h
  · simp at h2
  · have e : ∀ j, (flat2 (p :: l))[j]? = cur.toList[j]? ∨ (p :: l).length * 2 ≤ j := fun j => by
      by_cases hj : j < (p :: l).length * 2
      · left; rw [← h6, List.getElem?_take_of_lt hj]
      · right; omega
    refine ⟨g, cap, rfl, ?_, ?_⟩
    · rcases e 0 with e | e
      · have : cur.toList[0]? = some (.int .i64 p.1) := e.symm
        simpa [World.cell?, hc] using this
      · simp at e
    · rcases e 1 with e | e
      · have : cur.toList[1]? = some (.int .i64 p.2) := e.symm
        simpa [World.cell?, hc] using this
      · simp only [List.length_cons] at e; omega
/-- What Clash gives. -/
def cl1 (x : WA) : Int := (clsL x).head?.elim 0 (·.1)
def cl2 (x : WA) : Int := (clsL x).head?.elim 0 (·.2)
def clZ (x : WA) : Bool := (clsL x).head?.isSome
set_option maxRecDepth 100000 in
set_option maxHeartbeats 3200000 in
theorem Clash_any (x : WA) (w : World) (h : x.At w) :
    Calls Tryz.prog 36 #[x.v] w fun e w' => e = .returned (.tuple #[.int .i64 (cl1 x), .int .i64 (cl2 x), .bool (clZ x), .int .i64 (chk x)]) ∧ Below w.heap.size w w' := by
  have K1 := fun W (hb : Below w.heap.size w W) => Clashes_any x W (h.keep hb)
  have HZ : Hid (chk x ≠ 0 → clsL x = []) := fun e => by unfold clsL; rw [if_neg e]
  unfold cl1 cl2 clZ
  obtain ⟨k, hk⟩ : ∃ k, chk x = k := ⟨_, rfl⟩
  obtain ⟨L, hL⟩ : ∃ L, clsL x = L := ⟨_, rfl⟩
  rw [hk, hL] at HZ ⊢
  simp only [hk, hL] at K1
  clear h hk hL
  obtain ⟨cs, ps, rs, q1, q2, q3, c1, c2, c3⟩ := x
  simp only [WA.v] at *
  go_enter Tryz.func36, Tryz.ntmps36
  go_wp2_with fail
  refine (K1 _ (below_al _ _)).mono ?_
  rintro e w1 ⟨⟨v, rfl, hO⟩, hb⟩
  have HB : Hid (Below w.heap.size w w1) := (below_al _ _).trans (hb.mono (by simp))
  cases L with
  | nil =>
    obtain ⟨q, cap, rfl⟩ : ∃ q cap, v = .slice q 0 cap := by
      obtain ⟨h1, ⟨rfl, h2⟩ | ⟨g, cap, cur, rfl, _⟩⟩ := hO
      · exact ⟨_, _, rfl⟩
      · exact ⟨_, _, rfl⟩
    clear hO hb K1
    by_cases hk0 : k = 0
    · subst hk0
      go_wp2_with fail
      refine bodyPost_ret (v := .tuple #[.int .i64 0, .int .i64 0, .bool false, .int .i64 0]) (by simp [results, Tryz.results36, go_sem]) rfl ⟨rfl, HB.out⟩
    · have hbb : (k != 0) = true := by simpa using hk0
      clear hk0
      go_wp2_with fail
      refine bodyPost_ret (v := .tuple #[.int .i64 0, .int .i64 0, .bool false, .int .i64 k]) (by simp [results, Tryz.results36, go_sem]) rfl ⟨rfl, HB.out⟩
  | cons p l =>
    obtain rfl : k = 0 := by
      by_cases h0 : k = 0
      · exact h0
      · have := HZ.out h0; cases this
    obtain ⟨g, cap, rfl, g1, g2⟩ := hO.first
    have hl0 : ¬ ((l.length : Int) + 1 = 0) := by omega
    have hl0' : (((l.length : Int) + 1) == 0) = false := by simpa using hl0
    clear hO hb K1 HZ
    go_wp2_with fail
    go_quiet (fail)
    go_wp2_with fail
    refine bodyPost_ret (v := .tuple #[.int .i64 p.1, .int .i64 p.2, .bool true, .int .i64 0]) (by simp [results, Tryz.results36, go_sem]) rfl ⟨rfl, HB.out.trans ((show Gr w1 (w1.drewN nq) from ⟨nq, #[], by rw [grow_empty]⟩).below.mono HB.out.size)⟩
end Go.Proofs.YtcejmfgbfdhflaaGreat
