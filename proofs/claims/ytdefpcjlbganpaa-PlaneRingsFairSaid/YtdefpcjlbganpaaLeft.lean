import Derived.Test.YtdefpcjlbganpaaSort1
import Derived.WalkKit
import Derived.LoopTactic
import Derived.WalkSpells
import Derived.WalkLawsBesides
import Derived.Lib.Hide
import Derived.BigQuiet
import Derived.IntWalk
import Derived.Deep.DeepMust
import Derived.WalkSmall
import Derived.StillTailTactics
import Derived.Deep.RegionLaw
import Derived.Deep.RegionHeld3
import Derived.Deep.QuietTactic
import Derived.Deep.DeepCutAuto
import Derived.Sort.Grow
import Derived.Laws.AppendOwn
import Derived.Deep.CutBlock
namespace Go.Proofs.Ytdefpcjlbganpaa
open Go.RowKit Go.BigFrame Go.Sort
attribute [local go_sem] World.cell?_alloc_some
theorem PO.nil (w : World) : PO w w.heap.size [] (.slice none 0 0) [] w := ⟨St.nil w, fun _ h => by simp at h, Nat.le_refl _, Nat.le_refl _, World.ownsRow_nil w _ _ _⟩
theorem flatP_take : ∀ (l : List Pt) (k : Nat), (flatP l).take (k * 2) = flatP (l.take k)
  | [], k => by simp [flatP]
  | p :: l, 0 => by simp [flatP]
  | p :: l, k + 1 => by
    rw [show (k + 1) * 2 = k * 2 + 1 + 1 from by omega]
    simp [flatP, flatP_take l k]
theorem PO.take {w B L l W} {a : Option Addr} {n cap : Nat} (h : PO w B L (.slice a n cap) l W) (k : Nat) (hk : k ≤ l.length) (h0 : 0 < k) : PO w B L (.slice a k cap) (l.take k) W := by
  refine ⟨h.st, h.lo, h.wB, h.BW, ?_⟩
  have hlk : (l.take k).length = k := by rw [List.length_take]; omega
  obtain ⟨h1, ⟨e, h2⟩ | ⟨g, cap', cur, e, hg, hc, h3, h4, h5, h6⟩⟩ := h.own
  · omega
  · injection e with e1 e2 e3
    subst e1 e2 e3
    refine ⟨by rw [flatP_len], .inr ⟨g, cap, cur, by rw [hlk], hg, hc, by omega, h4, h5, ?_⟩⟩
    rw [hlk, ← flatP_take, ← h6, List.take_take]
    congr 1
    omega
/-- A class of worlds, in which a list of points is held, and these cells lie there. -/
theorem clsQ {w W0 : World} {B : Nat} {L : List (Nat × Nat × Value)} {v : Value} {l : List Pt} (S : PO w B [] v l W0) (T : Cs W0 L) : ∃ C : World → Prop, C W0 ∧ Hid (∀ W W', C W → Below W.heap.size W W' → C W') ∧ Hid (∀ n : Wd C, Cs n.w L) ∧ Hid (∀ n : Wd C, Below w.heap.size w n.w) ∧ Nonempty (Wd C) ∧ Hid (∀ n : Wd C, PO w B [] v l n.w) :=
  ⟨fun W => PO w B [] v l W ∧ Cs W L, ⟨S, T⟩, fun _ _ h hb => ⟨h.1.next hb, h.2.keep hb⟩, fun n => n.h.2, fun n => n.h.1.st.b, ⟨⟨W0, S, T⟩⟩, fun n => n.h.1⟩
set_option maxHeartbeats 400000 in
theorem withoutLast_any (b o n cap : Nat) (w : World) (h0 : 0 < n) (hn : n ≤ cap) (hc : cap ≤ maxLen) :
    Calls Try.prog 110 #[.slice (some ⟨b, o, none⟩) n cap] w fun e w' => e = .returned (.slice (some ⟨b, o, none⟩) (n - 1) cap) ∧ w = w' := by
  unfold maxLen at hc
  obtain ⟨m, rfl⟩ : ∃ m, n = m + 1 := ⟨n - 1, by omega⟩
  go_enter Try.func110, Try.ntmps110
  go_wp2_with fail
  go_ret
  exact ⟨rfl, rfl⟩
/-- A way, its last corner first, without the corners at which it does not turn left to a point. -/
def popR (p : Pt) : List Pt → List Pt
  | b :: a :: r => if trn a b p ≤ 0 then popR p (a :: r) else b :: a :: r
  | l => l
/-- The corners of a way that turns left. -/
def ltR (l : List Pt) : List Pt := l.foldl (fun st p => p :: popR p st) []
theorem ltR_snoc (l : List Pt) (p : Pt) : ltR (l ++ [p]) = p :: popR p (ltR l) := by simp [ltR]
theorem popR_len (p : Pt) : ∀ st : List Pt, (popR p st).length ≤ st.length
  | [] => by simp [popR]
  | [_] => by simp [popR]
  | b :: a :: r => by
    unfold popR
    split
    · have := popR_len p (a :: r); simp only [List.length_cons] at *; omega
    · exact Nat.le_refl _
theorem ltR_len : ∀ (n : Nat) (l : List Pt), l.length = n → (ltR l).length ≤ n
  | 0, l, h => by obtain rfl := List.length_eq_zero_iff.1 h; simp [ltR]
  | n + 1, l, h => by
    have hne : l ≠ [] := fun e => by rw [e] at h; cases h
    obtain ⟨m, x, rfl⟩ : ∃ m x, l = m ++ [x] := ⟨l.dropLast, l.getLast hne, (List.dropLast_concat_getLast hne).symm⟩
    have hm : m.length = n := by simpa using h
    have := ltR_len n m hm
    have := popR_len x (ltR m)
    rw [ltR_snoc, List.length_cons]; omega
set_option maxRecDepth 100000 in
set_option maxHeartbeats 8000000 in
theorem leftTurns_any (q : Option Addr) (cap : Nat) (l : List Pt) (w : World) (hl : l.length ≤ 1000) (hp : PtsAt w q l) :
    Calls Try.prog 108 #[.slice q l.length cap] w fun e w' => ∃ v, e = .returned v ∧ PO w w.heap.size [] v (ltR l).reverse w' := by
  have HP := Lib.hid hp
  clear hp
  have P0 : PO w w.heap.size [] (.slice none 0 0) ([] : List Pt) w := PO.nil w
  have HP0 := Lib.hid P0
  clear P0
  go_enter Try.func108, Try.ntmps108
  go_wp2_with fail
  go_loopw [3, 8] (fun v i wr => ∃ (k : Nat), PO w w.heap.size [] v (ltR (l.take k)).reverse wr ∧ i = .int .i64 (k : Int) ∧ k ≤ l.length) (fun v i wr => l.length - (intOf i).toNat)
  case atStart => exact ⟨0, by simpa [ltR] using HP0.out, rfl, Nat.zero_le _⟩
  case round =>
    obtain ⟨k, hPO, rfl, hk⟩ := hrel
    clear HP0
    by_cases hlt : k < l.length
    · obtain ⟨p, hpk⟩ : ∃ p, l[k]? = some p := ⟨_, List.getElem?_eq_getElem hlt⟩
      rcases HP.out with hnil | ⟨b, o, rfl, hbl, hc⟩
      · rw [hnil] at hlt; simp at hlt
      · obtain ⟨c1, c2⟩ := hc k p hpk
        have g1 := (hPO.st.b.cell (p := ⟨b, o + k * 2, none⟩) hbl).trans c1
        have g2 := (hPO.st.b.cell (p := ⟨b, o + k * 2 + 1, none⟩) hbl).trans c2
        have HT : Hid (ltR (l.take (k + 1)) = p :: popR p (ltR (l.take k))) := by unfold Hid; rw [List.take_add_one, hpk]; exact ltR_snoc _ _
        have hlen := ltR_len k (l.take k) (by rw [List.length_take]; omega)
        have HLEN := Lib.hid hlen
        obtain ⟨st0, hst0⟩ : ∃ st, ltR (l.take k) = st := ⟨_, rfl⟩
        rw [hst0] at HT hPO HLEN
        have HPO := Lib.hid hPO
        clear hc c1 c2 hpk hst0 hlen hPO
        go_wp2_with fail
        obtain ⟨W1, hW1⟩ : ∃ W1, wr.alloc (.cells #[.int .i64 p.x, .int .i64 p.y] 23) = W1 := ⟨_, rfl⟩
        have hP1 : PO w w.heap.size [] u3 st0.reverse W1 := by rw [← hW1]; exact HPO.out.next (below_al _ _)
        have hC1 : Cs W1 [(wr.heap.size, 0, .int .i64 p.x), (wr.heap.size, 1, .int .i64 p.y)] := by rw [← hW1]; exact cs_blk wr #[.int .i64 p.x, .int .i64 p.y] 23 _ 0 rfl
        obtain ⟨kb, hkb⟩ : ∃ kb, wr.heap.size = kb := ⟨_, rfl⟩
        rw [hkb] at hC1 ⊢
        rw [hW1]
        have HP1 := Lib.hid hP1
        have HC1 := Lib.hid hC1
        clear hW1 hkb hP1 hC1 HPO g1 g2
        go_loopw [3] (fun v wx => ∃ st : List Pt, PO w w.heap.size [] v st.reverse wx ∧ Cs wx [(kb, 0, .int .i64 p.x), (kb, 1, .int .i64 p.y)] ∧ popR p st = popR p st0 ∧ st.length ≤ k) (fun v _ => match v with | .slice _ n _ => n | _ => 0)
        case atStart => exact ⟨st0, HP1.out, HC1.out, rfl, HLEN.out⟩
        case round =>
          obtain ⟨st, hPO, hCs, hpop, hlen⟩ := hrel
          clear HP1 HC1 HLEN
          have HPOP := Lib.hid hpop
          have hlen1 : st.reverse.length = st.length := List.length_reverse
          obtain ⟨a4, cap4, hv4, hpts⟩ := hPO.pts
          rw [hlen1] at hv4
          subst hv4
          obtain ⟨C, hC0, HC, LC, BC, hne, PC⟩ := clsQ hPO hCs
          haveI := hne
          obtain ⟨c0, rfl⟩ : ∃ n : Wd C, wr = n.w := ⟨⟨_, hC0⟩, rfl⟩
          have f0 : ∀ n : Wd C, n.w.cell? ⟨kb, 0, none⟩ = some (.int .i64 p.x) := fun n => (LC.out n).1.2.1
          have f1 : ∀ n : Wd C, n.w.cell? ⟨kb, 1, none⟩ = some (.int .i64 p.y) := fun n => (LC.out n).2.1.2.1
          clear hC0 hPO hCs hpop hlen1 hpts
          match st, HPOP, hlen, PC with
          | [], HPOP, hlen, PC =>
            have e0 : popR p st0 = [] := by rw [← HPOP.out]; rfl
            have HT2 : Hid (ltR (l.take (k + 1)) = p :: []) := by unfold Hid; rw [HT.out, e0]
            have HLL : Hid (([] : List Pt).length ≤ 1000000) := by unfold Hid; simp
            clear e0
            go_wp2_with fail
            refine wp_region_in C (HC.out _ _ (Wd.h _) (below_dr _)) (by kernel_rfl) (by kernel_rfl) ?_
            repeat (go_big_quiet_step (first | fail))
            refine wpQuiet_nil ?_
            intro wx hwx
            obtain ⟨n2, rfl⟩ : ∃ n : Wd C, wx = n.w := ⟨⟨wx, hwx⟩, rfl⟩
            clear hwx
            go_wp2_with (at_builtin; refine app1 (PC.out _) p (by rw [List.length_reverse]; exact HLL.out) rfl _ _ rfl rfl rfl ?_; intro v' w' hPO)
            go_roundw
            case rel => exact ⟨k + 1, by rw [HT2.out]; simpa using hPO, by simp, by omega⟩
            case measure => simp [intOf]; omega
          | [x], HPOP, hlen, PC =>
            have e0 : popR p st0 = [x] := by rw [← HPOP.out]; rfl
            have HT2 : Hid (ltR (l.take (k + 1)) = p :: [x]) := by unfold Hid; rw [HT.out, e0]
            have HLL : Hid ([x].length ≤ 1000000) := by unfold Hid; simp
            clear e0
            go_wp2_with fail
            refine wp_region_in C (HC.out _ _ (Wd.h _) (below_dr _)) (by kernel_rfl) (by kernel_rfl) ?_
            repeat (go_big_quiet_step (first | fail))
            refine wpQuiet_nil ?_
            intro wx hwx
            obtain ⟨n2, rfl⟩ : ∃ n : Wd C, wx = n.w := ⟨⟨wx, hwx⟩, rfl⟩
            clear hwx
            go_wp2_with (at_builtin; refine app1 (PC.out _) p (by rw [List.length_reverse]; exact HLL.out) rfl _ _ rfl rfl rfl ?_; intro v' w' hPO)
            go_roundw
            case rel => exact ⟨k + 1, by rw [HT2.out]; simpa using hPO, by simp, by omega⟩
            case measure => simp [intOf]; omega
          | y :: x :: r, HPOP, hlen, PC =>
            obtain ⟨b2, cp2, e2, hn2, hm2⟩ : ∃ b2 cp2, (Value.slice a4 (y :: x :: r).length cap4 = .slice (some ⟨b2, 0, none⟩) (y :: x :: r).length cp2) ∧ (y :: x :: r).length ≤ cp2 ∧ cp2 ≤ maxLen := by
              obtain ⟨h1, ⟨e, h2⟩ | ⟨g, cap', cur, e, hg, hc, h3, h4, h5, h6⟩⟩ := (PC.out c0).own
              · simp at h2
              · exact ⟨g, cap', by rw [e, List.length_reverse], by rw [List.length_reverse] at h3; exact h3, h4⟩
            injection e2 with e3 e4 e5
            subst e3 e5
            have HPts : Hid (∀ n : Wd C, PtsAt n.w (some ⟨b2, 0, none⟩) (y :: x :: r).reverse) := fun n => by
              obtain ⟨a5, cap5, e5, h5⟩ := (PC.out n).pts
              injection e5 with e6 e7 e8
              subst e6
              exact h5
            have hx : (y :: x :: r).reverse[r.length]? = some x := by simp
            have hy : (y :: x :: r).reverse[r.length + 1]? = some y := by simp
            have HCL : Hid (∀ n : Wd C, (n.w.cell? ⟨b2, r.length * 2, none⟩ = some (.int .i64 x.x) ∧ n.w.cell? ⟨b2, r.length * 2 + 1, none⟩ = some (.int .i64 x.y)) ∧ n.w.cell? ⟨b2, (r.length + 1) * 2, none⟩ = some (.int .i64 y.x) ∧ n.w.cell? ⟨b2, (r.length + 1) * 2 + 1, none⟩ = some (.int .i64 y.y)) := fun n => by
              rcases HPts.out n with hl | ⟨b', o', e, _, hc⟩
              · simp at hl
              · injection e with e; injection e with e1 e2
                subst e1 e2
                have u := hc _ _ hx
                have v := hc _ _ hy
                rw [Nat.zero_add] at u v
                exact ⟨u, v⟩
            have g1 : ∀ n : Wd C, n.w.cell? ⟨b2, r.length * 2, none⟩ = some (.int .i64 x.x) := fun n => (HCL.out n).1.1
            have g2 : ∀ n : Wd C, n.w.cell? ⟨b2, r.length * 2 + 1, none⟩ = some (.int .i64 x.y) := fun n => (HCL.out n).1.2
            have g3 : ∀ n : Wd C, n.w.cell? ⟨b2, (r.length + 1) * 2, none⟩ = some (.int .i64 y.x) := fun n => (HCL.out n).2.1
            have g4 : ∀ n : Wd C, n.w.cell? ⟨b2, (r.length + 1) * 2 + 1, none⟩ = some (.int .i64 y.y) := fun n => (HCL.out n).2.2
            have D1 := cin HC (fun W => Turn_any x y p W)
            obtain ⟨t, ht⟩ : ∃ t, trn x y p = t := ⟨_, rfl⟩
            rw [ht] at D1
            have HTT := Lib.hid ht
            have hlr : r.length + 2 ≤ 1000 := by simp only [List.length_cons] at hlen; omega
            have HCAP := Lib.hid (And.intro hn2 hm2)
            have HLn := Lib.hid hlen
            clear hx hy ht hn2 hm2 HPts hlen
            simp only [List.length_cons]
            have hgd : decide ((1 : Int) < (r.length : Int) + 1 + 1) = true := decide_eq_true (by omega)
            have hw1 : IntKind.i64.wrap ((r.length : Int) + 1 + 1 - 2) = (r.length : Int) := (wrapEq _).trans ((w64 (by omega)).trans (by omega))
            have hw2 : IntKind.i64.wrap ((r.length : Int) + 1 + 1 - 1) = (r.length : Int) + 1 := (wrapEq _).trans ((w64 (by omega)).trans (by omega))
            have hw3 : ((r.length : Int) + 1).toNat = r.length + 1 := by omega
            by_cases htl : t ≤ 0
            · have HPOP2 : Hid (popR p (x :: r) = popR p st0) := by unfold Hid; rw [← HPOP.out]; conv => rhs; unfold popR; rw [if_pos (by rw [HTT.out]; exact htl)]
              go_wp2_with fail
              refine wp_region_in C (HC.out _ _ (Wd.h _) (below_dr _)) (by kernel_rfl) (by kernel_rfl) ?_
              repeat (go_big_quiet_step (first | with_reducible exact (D1 _).out))
              refine wpQuiet_nil ?_
              intro wx hwx
              obtain ⟨n2, rfl⟩ : ∃ n : Wd C, wx = n.w := ⟨⟨wx, hwx⟩, rfl⟩
              clear hwx
              go_wp2_with (go_at_call 110; refine (withoutLast_any b2 0 (r.length + 1 + 1) cap4 _ (by omega) HCAP.out.1 HCAP.out.2).mono ?_; rintro e w' ⟨rfl, rfl⟩)
              go_roundw
              case rel =>
                refine ⟨x :: r, ?_, LC.out _, HPOP2.out, by have h3 := HLn.out; simp only [List.length_cons] at h3 ⊢; omega⟩
                have h2 := (PC.out n2).take (r.length + 1) (by simp) (by omega)
                have e : (y :: x :: r).reverse.take (r.length + 1) = (x :: r).reverse := by
                  rw [List.reverse_cons, List.take_append_of_le_length (by simp)]
                  exact List.take_of_length_le (by simp)
                rw [e] at h2
                simpa using h2
              case measure => simp
            · have e0 : popR p st0 = y :: x :: r := by rw [← HPOP.out]; unfold popR; rw [if_neg (by rw [HTT.out]; exact htl)]
              have HT2 : Hid (ltR (l.take (k + 1)) = p :: y :: x :: r) := by unfold Hid; rw [HT.out, e0]
              have HLL : Hid ((y :: x :: r).length ≤ 1000000) := by unfold Hid; simp; omega
              clear e0
              go_wp2_with fail
              refine wp_region_in C (HC.out _ _ (Wd.h _) (below_dr _)) (by kernel_rfl) (by kernel_rfl) ?_
              repeat (go_big_quiet_step (first | with_reducible exact (D1 _).out))
              refine wpQuiet_nil ?_
              intro wx hwx
              obtain ⟨n2, rfl⟩ : ∃ n : Wd C, wx = n.w := ⟨⟨wx, hwx⟩, rfl⟩
              clear hwx
              go_wp2_with (at_builtin; refine app1 (PC.out _) p (by rw [List.length_reverse]; exact HLL.out) rfl _ _ rfl rfl rfl ?_; intro v' w' hPO)
              go_roundw
              case rel => exact ⟨k + 1, by rw [HT2.out]; simpa using hPO, by simp, by omega⟩
              case measure => simp [intOf]; omega
    · obtain rfl : k = l.length := by omega
      have HPO := Lib.hid hPO
      clear hPO
      go_wp2_with fail
      go_ret
      refine ⟨_, rfl, ?_⟩
      have := HPO.out
      rwa [List.take_length] at this
end Go.Proofs.Ytdefpcjlbganpaa
