import Derived.Test.YtdefpcjlbganpaaGr
import Derived.WalkKit
import Derived.LoopTactic
import Derived.WalkSpells
import Derived.WalkLawsBesides
import Derived.Lib.Hide
import Derived.BigQuiet
import Derived.IntWalk
import Derived.Deep.DeepMust
import Derived.WalkSmall
import Derived.StillTailTactics
import Derived.Deep.RegionLaw
import Derived.Deep.RegionHeld3
import Derived.Deep.QuietTactic
import Derived.Deep.DeepCutAuto
import Derived.Sort.Grow
import Derived.Laws.AppendOwn
import Derived.Deep.CutBlock
namespace Go.Proofs.Ytdefpcjlbganpaa
open Go.RowKit Go.BigFrame Go.Sort
attribute [local go_sem] World.cell?_alloc_some
/-! A region of which all but a forced end is quiet: one walk of the text's order serves. -/
section
variable {P : Program} {ops : Array Oper} {md : Region.Mode} {C : World → Prop}
/-- From here on f operations come up, each of them one of the first n, whatever the order; then L. -/
def Ahead (P : Program) (md : Region.Mode) (ops : Array Oper) (C : World → Prop) (n : Nat) (L : Array Bool → Act → Prop) : Nat → Array Bool → Act → Prop
  | 0, li, a => L li a
  | f + 1, li, a => Region.ready md ops li ≠ [] ∧ ∀ i ∈ Region.ready md ops li, i < n ∧ qOp P ops C i (Ahead P md ops C n L f (li.setIfInBounds i true)) a
theorem Ahead.any {n g : Nat} {L : Array Bool → Act → Prop} {Q : Exit → Act → World → Prop} (hL : ∀ li a w, C w → L li a → wpAny P md ops Q g li a w) :
    ∀ (f : Nat) (li : Array Bool) (a : Act) (w : World), C w → Ahead P md ops C n L f li a → wpAny P md ops Q (f + g) li a w
  | 0, li, a, w, hw, h => by rw [Nat.zero_add]; exact hL _ _ _ hw h
  | f + 1, li, a, w, hw, h => by
    rw [show f + 1 + g = f + g + 1 from by omega]
    exact ⟨fun e => absurd e h.1, fun i hi => wpOp_of_qOp hw (fun a' w' hw' k => Ahead.any hL f _ a' w' hw' k) (h.2 i hi).2⟩
theorem Ahead.pick {n i : Nat} {oi : Oper} {v : Value} {L : Array Bool → Act → Prop} (hi : ops[i]? = some oi) (hsel : ∀ (j : Nat) (o : Oper) cs b, ops[j]? = some o → o.op ≠ .select cs b)
    (hs : Region.sinkB md ops n = true) (hc : Region.chainB md ops n = true) (hn : n < ops.size) (hin : i < n) (hend : ∀ li a, L li a → ∀ j ∈ Region.ready md ops li, n ≤ j) (f : Nat) :
    ∀ (li : Array Bool) (a : Act), HeadInv md ops n li →
      (∀ j oj, ops[j]? = some oj → j ≠ i → li.getD j true = false → (∀ e ∈ oj.after, Region.binds md e = true → e.on ≠ i) → oi.apart ops oj = true) →
      i ∈ Region.ready md ops li → YieldsIn P ops C oi v a → Ahead P md ops C n L f (li.setIfInBounds i true) (a.put oi.dst v) → Ahead P md ops C n L (f + 1) li a := by
  induction f with
  | zero =>
    intro li a inv _ hr hy H
    refine ⟨fun e => absurd hr (by rw [e]; simp), fun j hj => ?_⟩
    have hjn : j < n := (Nat.lt_or_ge j n).resolve_right fun h => absurd hj (tail_waits hs hc hn inv _ i rfl hin (mem_ready.1 hr).1 j h)
    rcases Nat.decEq j i with hne | rfl
    · have := hend _ _ H j (ready_mono hj hne)
      omega
    · exact ⟨hjn, hy.qOp hi H⟩
  | succ f ih =>
    intro li a inv hap hr hy H
    refine ⟨fun e => absurd hr (by rw [e]; simp), fun j hj => ?_⟩
    have hjn : j < n := (Nat.lt_or_ge j n).resolve_right fun h => absurd hj (tail_waits hs hc hn inv _ i rfl hin (mem_ready.1 hr).1 j h)
    rcases Nat.decEq j i with hne | rfl
    · obtain ⟨hju, oj, hoj, hall⟩ := mem_ready.1 hj
      have hno : ∀ e ∈ oj.after, Region.binds md e = true → e.on ≠ i := fun e he hb heq => by
        have h1 := hall e he hb
        rw [heq, getD_both (mem_ready.1 hr).1] at h1
        cases h1
      refine ⟨hjn, qOp_mono (fun a' h3 => ih (li.setIfInBounds j true) a' (inv.set hj hjn) (fun k ok hk hki hu hno' => hap k ok hk hki ?_ hno') (ready_mono hr (Ne.symm hne)) h3.1 ?_)
        (qOp_put hoj (hap j oj hoj hne hju hno) (fun cs b => hsel i oi cs b hi) (fun cs b => hsel j oj cs b hoj) hy (H.2 j (ready_mono hj hne)).2)⟩
      · rcases Nat.decEq j k with hjk | rfl
        · rwa [getD_set_ne true hjk] at hu
        · exact hju
      · rw [Array.setIfInBounds_comm _ _ hne]; exact h3.2
    · exact ⟨hjn, hy.qOp hi H⟩
theorem Ahead.lex {n g : Nat} {Lq : Act → Prop} (hsel : Region.noSelect ops = true) (hs : Region.sinkB md ops n = true) (hc : Region.chainB md ops n = true) (hn : n < ops.size) :
    ∀ (l : List Oper) (k : Nat) (li : Array Bool) (a : Act), (∀ j, j < l.length → l[j]? = ops[k + j]?) → k + l.length = n → HeadInv md ops n li → Region.lexHead md ops g l.length k li = true →
      wpQuiet P ops C Lq l a → Ahead P md ops C n (fun li' a' => Region.seqB md ops g n li' = true ∧ Lq a') l.length li a := by
  intro l
  induction l with
  | nil =>
    intro k li a _ hk _ hB h
    obtain rfl : k = n := by simpa using hk
    exact ⟨by simpa [Region.lexHead] using hB, h⟩
  | cons o l ih =>
    intro k li a hl hk inv hB h
    have h0 : ops[k]? = some o := by simpa using (hl 0 (by simp)).symm
    simp only [List.length_cons, Region.lexHead, Bool.and_eq_true] at hB hk
    have hr : k ∈ Region.ready md ops li := by simpa using hB.1.1
    have hq : qOp P ops C k (wpQuiet P ops C Lq l) a := by unfold qOp; simp only [h0]; exact h
    obtain ⟨v, hy, hK⟩ := yieldsIn_of_qOp h0 hq
    refine Ahead.pick h0 (Region.noSelect_spec hsel) hs hc hn (by omega) (fun li' a' hL => seqB_ready hL.1) l.length li a inv (Region.free_spec h0 hB.1.2) hr hy
      (ih (k + 1) _ _ (fun j hj => ?_) (by omega) (inv.set hr (by omega)) hB.2 hK)
    have := hl (j + 1) (by simp; omega)
    simpa [Nat.add_assoc, Nat.add_comm 1 j] using this
/-- All but the end, from n on, is quiet in a class of worlds; the end's order is forced. -/
theorem wp_region_in_tail {id : Nat} {Q : Exit → Act → World → Prop} {a : Act} {w : World} {l : List Oper} (n : Nat) (C : World → Prop) (hC : C w.drew) (hm : P.follows .mixedOrders = true) (hB : Region.lexTailB .any l.toArray n = true)
    (h : wpQuiet P l.toArray (fun w' => ∃ n : Wd C, w' = n.w) (fun a' => ∀ w', C w' → wpList P l.toArray Q (l.drop n) a' w') (l.take n) a) : (Code.region id l.toArray true).wp P Q a w := by
  have e : (fun w' => ∃ n : Wd C, w' = n.w) = C := funext fun w' => propext ⟨fun ⟨n, hn⟩ => hn ▸ n.h, fun hc => ⟨⟨w', hc⟩, rfl⟩⟩
  rw [e] at h
  simp only [Region.lexTailB, Bool.and_eq_true, decide_eq_true_eq] at hB
  obtain ⟨⟨⟨⟨hsel, hn⟩, hs⟩, hc⟩, hlex⟩ := hB
  have hnl : n < l.length := by simpa using hn
  have ht : (l.take n).length = n := by rw [List.length_take]; omega
  have hg : (l.drop n).length = l.toArray.size - n := by simp
  have inv : HeadInv .any l.toArray n (Array.replicate l.toArray.size false) :=
    ⟨by simp, fun j oj _ hl => (by rw [getD_replicate_false] at hl; cases hl), fun t _ ht => getD_in (by simpa using ht) (getD_replicate_false _ _)⟩
  have H := Ahead.lex (md := .any) (g := l.toArray.size - n) hsel hs hc hn (l.take n) 0 _ a (fun j hj => by rw [ht] at hj; simp [hj]) (by omega) inv (by rw [ht]; exact hlex) h
  refine wp_region_any hm ?_
  have K := Ahead.any (Q := Q) (g := l.toArray.size - n) (fun li a' w' hw' hL => by
    have := wpAny_of_seq (md := .any) (Q' := Q) (l.drop n) n li a' w' (fun j => by simp [List.getElem?_drop]) (by rw [hg]; exact hL.1) (hL.2 w' hw')
    rwa [hg] at this) _ _ _ _ hC H
  rw [ht, show n + (l.toArray.size - n) = l.toArray.size from by omega] at K
  exact K
end
theorem clsGr (W : World) : ∃ C : World → Prop, C W ∧ Hid (∀ A B, C A → Gr A B → C B) ∧ Hid (∀ n : Wd C, Gr W n.w) ∧ Nonempty (Wd C) :=
  ⟨fun W' => Gr W W', Gr.refl W, fun _ _ h k => h.trans k, fun n => n.h, ⟨⟨W, Gr.refl W⟩⟩⟩
theorem Gr.cell {W W' : World} (h : Gr W W') {b o : Nat} {v : Value} (hc : W.cell? ⟨b, o, none⟩ = some v) : W'.cell? ⟨b, o, none⟩ = some v :=
  (h.below.cell (p := ⟨b, o, none⟩) (World.block_lt_of_cell? W _ hc)).trans hc
theorem ints4 (W : World) (n : Nat) (hn : W.heap.size = n) (a b c d : Int) (e : TypeId) : IntsAt (W.alloc (.cells #[.int .i64 a, .int .i64 b, .int .i64 c, .int .i64 d] e)) (some ⟨n, 0, none⟩) [a, b, c, d] := by
  subst hn
  refine Or.inr ⟨_, 0, rfl, by simp, fun j q hq => ?_⟩
  rw [Nat.zero_add]
  match j, hq with
  | 0, rfl => exact new_at W _ _ _ _ rfl
  | 1, rfl => exact new_at W _ _ _ _ rfl
  | 2, rfl => exact new_at W _ _ _ _ rfl
  | 3, rfl => exact new_at W _ _ _ _ rfl
/-- Which of two points is seen first. -/
def cmpA (o : Pt) (l : List Pt) (i j : Nat) : Int := orI [cm (hlf o (pt l i)) (hlf o (pt l j)), -trn o (pt l i) (pt l j), cm (dst o (pt l i)) (dst o (pt l j)), cm (i : Int) (j : Int)]
set_option maxRecDepth 100000 in
set_option maxHeartbeats 8000000 in
theorem around1_gr (o : Pt) (l : List Pt) (i j bo bl b off cap : Nat) (hi : i < l.length) (hj : j < l.length) (w : World)
    (o1 : w.cell? ⟨bo, 0, none⟩ = some (.int .i64 o.x)) (o2 : w.cell? ⟨bo, 1, none⟩ = some (.int .i64 o.y)) (s1 : w.cell? ⟨bl, 0, none⟩ = some (.slice (some ⟨b, off, none⟩) l.length cap))
    (hc : ∀ j, j < l.length → w.cell? ⟨b, off + j * 2, none⟩ = some (.int .i64 (pt l j).x) ∧ w.cell? ⟨b, off + j * 2 + 1, none⟩ = some (.int .i64 (pt l j).y)) :
    Calls Try.prog 113 #[.int .i64 (i : Int), .int .i64 (j : Int), .pointer (some ⟨bo, 0, none⟩), .pointer (some ⟨bl, 0, none⟩)] w fun e w' => e = .returned (.int .i64 (cmpA o l i j)) ∧ Gr w w' := by
  obtain ⟨p, hp⟩ : ∃ p, pt l i = p := ⟨_, rfl⟩
  obtain ⟨q, hq⟩ : ∃ q, pt l j = q := ⟨_, rfl⟩
  have hci := hc i hi
  have hcj := hc j hj
  rw [hp] at hci
  rw [hq] at hcj
  have HR : Hid (cmpA o l i j = orI [cm (hlf o p) (hlf o q), -trn o p q, cm (dst o p) (dst o q), cm (i : Int) (j : Int)]) := by unfold Hid cmpA; rw [hp, hq]
  obtain ⟨R, hR⟩ : ∃ R, cmpA o l i j = R := ⟨_, rfl⟩
  rw [hR] at HR ⊢
  clear hc hp hq hR
  have T1 := fun W => halfTurns_gr o p W
  have T2 := fun W => halfTurns_gr o q W
  have T3 := fun W => Turn_gr o p q W
  have T4 := fun W => Dist_gr o p W
  have T5 := fun W => Dist_gr o q W
  obtain ⟨u1, h1⟩ : ∃ u, hlf o p = u := ⟨_, rfl⟩
  obtain ⟨u2, h2⟩ : ∃ u, hlf o q = u := ⟨_, rfl⟩
  obtain ⟨t, h3⟩ : ∃ u, trn o p q = u := ⟨_, rfl⟩
  obtain ⟨d1, h4⟩ : ∃ u, dst o p = u := ⟨_, rfl⟩
  obtain ⟨d2, h5⟩ : ∃ u, dst o q = u := ⟨_, rfl⟩
  have hwt : wrap64 (-t) = -t := w64 (by rcases trn_cases o p q with h | h | h <;> rw [h3] at h <;> omega)
  simp only [h1] at T1
  simp only [h2] at T2
  simp only [h3] at T3
  simp only [h4] at T4
  simp only [h5] at T5
  rw [h1, h2, h3, h4, h5] at HR
  have K1 := fun W => compare_any u1 u2 W
  have K2 := fun W => compare_any d1 d2 W
  have K3 := fun W => compare_any (i : Int) (j : Int) W
  obtain ⟨x1, e1⟩ : ∃ u, cm u1 u2 = u := ⟨_, rfl⟩
  obtain ⟨x2, e2⟩ : ∃ u, cm d1 d2 = u := ⟨_, rfl⟩
  obtain ⟨x3, e3⟩ : ∃ u, cm (i : Int) (j : Int) = u := ⟨_, rfl⟩
  simp only [e1] at K1
  simp only [e2] at K2
  simp only [e3] at K3
  rw [e1, e2, e3] at HR
  clear h1 h2 h3 h4 h5 e1 e2 e3
  have CO := fun b W h => Lib.hid (cmpOr_any (some ⟨b, 0, none⟩) 4 [x1, -t, x2, x3] W (by simp) h)
  simp only [← HR.out] at CO
  obtain ⟨C, hC0, HC, BC, hne⟩ := clsGr w
  haveI := hne
  have g1 : ∀ n : Wd C, n.w.cell? ⟨bo, 0, none⟩ = some (.int .i64 o.x) := fun n => (BC.out n).cell o1
  have g2 : ∀ n : Wd C, n.w.cell? ⟨bo, 1, none⟩ = some (.int .i64 o.y) := fun n => (BC.out n).cell o2
  have g3 : ∀ n : Wd C, n.w.cell? ⟨bl, 0, none⟩ = some (.slice (some ⟨b, off, none⟩) l.length cap) := fun n => (BC.out n).cell s1
  have g4 : ∀ n : Wd C, n.w.cell? ⟨b, off + i * 2, none⟩ = some (.int .i64 p.x) := fun n => (BC.out n).cell hci.1
  have g5 : ∀ n : Wd C, n.w.cell? ⟨b, off + i * 2 + 1, none⟩ = some (.int .i64 p.y) := fun n => (BC.out n).cell hci.2
  have g6 : ∀ n : Wd C, n.w.cell? ⟨b, off + j * 2, none⟩ = some (.int .i64 q.x) := fun n => (BC.out n).cell hcj.1
  have g7 : ∀ n : Wd C, n.w.cell? ⟨b, off + j * 2 + 1, none⟩ = some (.int .i64 q.y) := fun n => (BC.out n).cell hcj.2
  have D1 := cinG HC T1
  have D2 := cinG HC T2
  have D3 := cinG HC T3
  have D4 := cinG HC T4
  have D5 := cinG HC T5
  have D6 := csame (C := C) K1
  have D7 := csame (C := C) K2
  have D8 := csame (C := C) K3
  obtain ⟨c0, hc0⟩ : ∃ n : Wd C, w = n.w := ⟨⟨_, hC0⟩, rfl⟩
  have HC0 := Lib.hid hc0
  clear T1 T2 T3 T4 T5 K1 K2 K3 o1 o2 s1 hci hcj hC0 hc0
  go_enter Try.func113, Try.ntmps113
  go_wp2_with fail
  refine wp_region_in_tail 40 C (by rw [HC0.out]; exact HC.out _ _ (Wd.h _) (Gr.dr _)) (by kernel_rfl) (by kernel_rfl) ?_
  simp only [List.take_succ_cons, List.take_zero, List.drop_succ_cons, List.drop_zero]
  repeat (go_big_quiet_step (first | with_reducible exact (D1 _).out | with_reducible exact (D2 _).out | with_reducible exact (D3 _).out | with_reducible exact (D4 _).out | with_reducible exact (D5 _).out | with_reducible exact (D6 _).out | with_reducible exact (D7 _).out | with_reducible exact (D8 _).out))
  refine wpQuiet_nil ?_
  intro wx hwx
  obtain ⟨n2, rfl⟩ : ∃ n : Wd C, wx = n.w := ⟨⟨wx, hwx⟩, rfl⟩
  clear hwx D1 D2 D3 D4 D5 D6 D7 D8 g1 g2 g3 g4 g5 g6 g7
  go_wp2_with (go_at_call 106; refine (CO _ _ (ints4 _ _ rfl x1 (-t) x2 x3 3)).out.mono ?_; rintro e w' ⟨rfl, rfl⟩)
  go_ret
  exact ⟨rfl, (BC.out _).trans (Gr.al _ _)⟩
end Go.Proofs.Ytdefpcjlbganpaa
