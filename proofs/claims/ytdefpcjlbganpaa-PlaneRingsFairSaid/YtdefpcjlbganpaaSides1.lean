import Derived.RangeFuncNested
import Derived.RangeFuncBox
import Derived.RangeFuncBound
import Derived.RangeFuncCalls
import Derived.RangeFuncLeaves
import Derived.Shelf.Abstract
import Derived.Shelf.RegionOpen
import Derived.BigRegionIn
import Derived.Stop.RegionWithIn
import Derived.WalkKit
import Derived.OwnWalkIn
import Derived.TacticsInMore
import Derived.LoopNIn
import Derived.LoopIn
import Derived.Lib.Hide
import Derived.IntWalk
import Derived.Deep.QuietTactic
import Derived.Deep.RegionHeld3
import Derived.Deep.RegionLaw
import Derived.StillTailTactics
import Derived.WalkSmall
import Derived.Deep.DeepMust
import Derived.BigQuiet
import Derived.WalkLawsBesides
import Derived.WalkSpells
import Derived.LoopTactic
import Derived.Test.YtdefpcjlbganpaaGrid
import Derived.Test.YtdefpcjlbganpaaTailIn
namespace Go.Proofs.Ytdefpcjlbganpaa
open Go.RowKit Go.Shelf Go.BigFrame
attribute [local go_sem] Oper.semAt_some
attribute [local go_sem] World.cell?_alloc_some
theorem wpIn_of_quiet_w {P : Program} {C : World → Prop} {o : Oper} {a : Act} {n : Nat} {K : Act → Prop} {K' : Act → World → Prop} {Q' : Exit → Act → World → Prop} {w : World} (hd : ∀ c, o.op ≠ .defer c) (hw : C w) (h : ∀ a w', C w' → K a → K' a w') (hh : o.quiet P a C K) :
    o.wpIn Fence.wide n P a w K' Q' := by
  obtain ⟨v, h1, h2⟩ := hh
  have h3 := h1 w hw
  unfold Oper.quietAt at h3
  unfold Oper.wpIn
  refine ⟨fun _ _ => trivial, ?_⟩
  rw [Oper.semAt_eq _ _ _ hd]
  generalize (execOp a.eval o).run P w = r at *
  cases r with
  | ok x w' =>
    cases x <;> simp only [Oper.quietUpon] at h3
    case value u =>
      obtain ⟨e1, e2⟩ := h3
      subst e1 e2
      exact h _ _ hw h2
    case skip =>
      obtain ⟨e1, e2⟩ := h3
      subst e1 e2
      exact h _ _ hw h2
    case enter f args =>
      obtain ⟨e1, hc⟩ := h3
      subst e1
      rw [Oper.uponIn_enter]
      refine ⟨(fun hx => by cases hx), (callsIn_wide.2 hc).mono ?_⟩
      rintro e w'' ⟨rfl, hw''⟩
      exact h _ _ hw'' h2
  | halt x w' => simp only [Oper.quietUpon] at h3
theorem wpAnyIn_of_quiet_w {P : Program} {md : Region.Mode} {C : World → Prop} {ops : List Oper} {n : Nat} {Q : Act → Prop} {Q' : Exit → Act → World → Prop} (hd : (ops.all fun o => match o.op with | .defer _ => false | _ => true) = true) (hQ : ∀ a w, C w → Q a → Q' .normal a w) :
    ∀ (fuel : Nat) (listed : Array Bool) (a : Act) (w : World), C w → wpAnyQ P md ops.toArray C Q fuel listed a → wpAnyIn Fence.wide n P md ops.toArray Q' fuel listed a w
  | 0, _, _, _, hw, h => ⟨h.1, hQ _ _ hw h.2⟩
  | fuel + 1, listed, a, w, hw, h => ⟨fun h0 => hQ _ _ hw (h.1 h0), fun i hi => by
      have hq := h.2 i hi
      unfold qOp at hq
      unfold wpOpIn
      cases ho : ops.toArray[i]? with
      | none => rw [ho] at hq; exact wpAnyIn_of_quiet_w hd hQ fuel _ a w hw hq
      | some o =>
        rw [ho] at hq
        dsimp only at hq ⊢
        have hm : o ∈ ops := by
          have := Array.mem_of_getElem? ho
          simpa using this
        split
        · rename_i hwn
          rw [if_pos hwn] at hq
          exact wpIn_of_quiet_w (defer_ne hd hm) hw (fun a' w' hw' hk => wpAnyIn_of_quiet_w hd hQ fuel _ a' w' hw' hk) hq
        · rename_i hwn
          rw [if_neg hwn] at hq
          exact ⟨fun _ _ => trivial, wpAnyIn_of_quiet_w hd hQ fuel _ _ w hw hq⟩⟩
/-- A region that draws its order, in no round: one walk in a class of worlds. -/
theorem wpIn_region_in_w {P : Program} {id n : Nat} {Q : Exit → Act → World → Prop} {a : Act} {w : World} {ls : List Oper} (C : World → Prop) (hC : C w.drew) (hm : P.follows .mixedOrders = true) (hB : Region.lexB .any ls.toArray = true)
    (hd : (ls.all fun o => match o.op with | .defer _ => false | _ => true) = true)
    (h : wpQuiet P ls.toArray (fun w' => ∃ n : Wd C, w' = n.w) (fun a' => ∀ w', C w' → Q .normal a' w') ls a) : (Code.region id ls.toArray true).wpIn Fence.wide n P Q a w := by
  have e : (fun w' => ∃ n : Wd C, w' = n.w) = C := funext fun w' => propext ⟨fun ⟨n, hn⟩ => hn ▸ n.h, fun hc => ⟨⟨w', hc⟩, rfl⟩⟩
  rw [e] at h
  simp only [Region.lexB, Bool.and_eq_true] at hB
  refine wpIn_region_any hm (wpAnyIn_of_quiet_w hd (Q := fun a' => ∀ w', C w' → Q .normal a' w') (fun _ w' hw' h => h w' hw') _ _ _ _ hC ?_)
  have := wpAnyQ_lex (C := C) (md := .any) hB.1 ls 0 (Array.replicate ls.toArray.size false) a (by simp) (by simpa using hB.2) h
  simpa using this
/-- The sign of a side. -/
def sdSg (n : Int) : Int := if n < 0 then 1 else if n = 0 then 2 else 4
set_option maxHeartbeats 400000 in
theorem sideSign_any (n : Int) (w : World) : Calls Try.prog 130 #[.int .i64 n] w fun e w' => e = .returned (.int .i64 (sdSg n)) ∧ w = w' := by
  by_cases h1 : n < 0
  · rw [show sdSg n = 1 from by unfold sdSg; rw [if_pos h1]]
    go_enter Try.func130, Try.ntmps130
    go_wp2_with fail
    go_ret
    exact ⟨rfl, rfl⟩
  · by_cases h2 : n = 0
    · subst h2
      go_enter Try.func130, Try.ntmps130
      go_wp2_with fail
      go_ret
      exact ⟨rfl, rfl⟩
    · rw [show sdSg n = 4 from by unfold sdSg; rw [if_neg h1, if_neg h2]]
      have hb : (n == 0) = false := by simpa using h2
      clear h2
      go_enter Try.func130, Try.ntmps130
      go_wp2_with fail
      go_ret
      exact ⟨rfl, rfl⟩
theorem okS_sm {s : Sp} (h : okS s = true) : (s.lo ≤ s.hi ∧ -1048576 ≤ s.lo) ∧ s.hi ≤ 1048576 := by
  obtain ⟨h1, h2, h3⟩ := okS_iff.1 h
  have := okC_iff.1 h2
  have := okC_iff.1 h3
  omega
set_option maxHeartbeats 400000 in
theorem long_any (s : Sp) (w : World) (h : okS s = true) : Calls Try.prog 120 #[s.v] w fun e w' => e = .returned (.int .i64 (s.hi - s.lo)) ∧ Below w.heap.size w w' := by
  have := okS_sm h
  have H : Hid (wrap64 (s.hi - s.lo) = s.hi - s.lo) := w64 (by omega)
  clear this h
  go_enter Try.func120, Try.ntmps120
  go_wp2_with fail
  go_ret
  exact ⟨ret_int H.out, ((St.nil w).al _).b⟩
/-- The signs of points, one after another. -/
def sdFold (l ps : List Pt) : Int := ps.foldl (fun s p => bits .or .i64 s (sdSg (whr l p))) 0
theorem sdFold_snoc (l ps : List Pt) (p : Pt) : sdFold l (ps ++ [p]) = bits .or .i64 (sdFold l ps) (sdSg (whr l p)) := by simp [sdFold]
/-- How many points a box has. -/
def cntB (b : Bx) : Int := (b.x.hi - b.x.lo + 1) * (b.y.hi - b.y.lo + 1)
/-- What Sides returns. -/
def sdRes (l : List Pt) (b : Bx) : Value :=
  if ck 3 l = 0 then (if okB b then (if 4096 < cntB b then .tuple #[.int .i64 0, .int .i64 2] else if smp l then .tuple #[.int .i64 (sdFold l (gridP b)), .int .i64 0] else .tuple #[.int .i64 0, .int .i64 4]) else .tuple #[.int .i64 0, .int .i64 1]) else .tuple #[.int .i64 0, .int .i64 (ck 3 l)]
theorem cntB_sm {b : Bx} (h : okB b = true) : wrap64 (wrap64 (b.x.hi - b.x.lo + 1) * wrap64 (b.y.hi - b.y.lo + 1)) = cntB b := by
  obtain ⟨h1, h2⟩ := okB_iff.1 h
  have a := okS_sm h1
  have c := okS_sm h2
  have m := mul_abs (u := b.x.hi - b.x.lo + 1) (v := b.y.hi - b.y.lo + 1) (A := 2097153) (B := 2097153) (by omega) (by omega)
  unfold cntB
  rw [w64 (n := b.x.hi - b.x.lo + 1) (by omega), w64 (n := b.y.hi - b.y.lo + 1) (by omega), w64 (by omega)]
/-- A contract under growth, in a class of worlds. -/
theorem cinB {C : World → Prop} {w : World} (H : Hid (∀ W W', C W → Below W.heap.size W W' → C W')) (B : Hid (∀ n : Wd C, Below w.heap.size w n.w)) {f : FuncId} {args : Array Value} {v : Value} (h : ∀ W, Below w.heap.size w W → Calls Try.prog f args W fun e w' => e = .returned v ∧ Below W.heap.size W w') (n : Wd C) :
    Hid (Calls Try.prog f args n.w fun e w'' => e = .returned v ∧ ∃ m : Wd C, w'' = m.w) := cinL H B h n
set_option maxRecDepth 100000 in
set_option maxHeartbeats 8000000 in
theorem Sides_early (q : Option Addr) (cap : Nat) (l : List Pt) (b : Bx) (w : World) (hl : l.length ≤ 140737488355327) (hp : PtsAt w q l) (hE : ¬ (ck 3 l = 0 ∧ okB b = true ∧ ¬ 4096 < cntB b ∧ smp l = true)) :
    Calls Try.prog 65 #[.slice q l.length cap, b.v] w fun e w' => e = .returned (sdRes l b) ∧ Below w.heap.size w w' := by
  have HP := Lib.hid hp
  obtain ⟨R, hR⟩ : ∃ R, sdRes l b = R := ⟨_, rfl⟩
  rw [hR]
  have C0 := fun W (hb : Below w.heap.size w W) => checkPolygon_any q cap l W hl (HP.out.keep hb)
  obtain ⟨c, hc⟩ : ∃ c, ck 3 l = c := ⟨_, rfl⟩
  rw [hc] at C0
  by_cases h0 : c = 0
  · subst h0
    obtain ⟨h3, h200, hall⟩ := ck_len hc
    have C1 := fun W => Proper_any b W
    cases hz : okB b
    · rw [hz] at C1
      have HR : Hid (R = .tuple #[.int .i64 0, .int .i64 1]) := by unfold Hid; rw [← hR, sdRes, if_pos hc, hz]; simp
      rw [HR.out]
      clear hR HR hc hE h3 h200 hall hp hz
      go_enter Try.func65, Try.ntmps65
      go_wp2_with fail
      obtain ⟨W0, hW0⟩ : ∃ W0, ((w).alloc (.cells #[.slice q l.length cap] 35)).alloc (.cells #[.int .i64 b.x.lo, .int .i64 b.x.hi, .int .i64 b.y.lo, .int .i64 b.y.hi] 60) = W0 := ⟨_, rfl⟩
      have S0 : St w W0 [(w.heap.size + 1, 0, .int .i64 b.x.lo), (w.heap.size + 1, 1, .int .i64 b.x.hi), (w.heap.size + 1, 2, .int .i64 b.y.lo), (w.heap.size + 1, 3, .int .i64 b.y.hi), (w.heap.size, 0, .slice q l.length cap)] := by rw [← hW0]; exact (((St.nil w)).box #[.slice q l.length cap] 35 (w.heap.size) (by simp)).box #[.int .i64 b.x.lo, .int .i64 b.x.hi, .int .i64 b.y.lo, .int .i64 b.y.hi] 60 (w.heap.size + 1) (by simp)
      rw [hW0]
      clear hW0
      obtain ⟨C, hC0, HC, LC, BC, hne⟩ := cls S0
      haveI := hne
      obtain ⟨c0, rfl⟩ : ∃ n : Wd C, W0 = n.w := ⟨⟨_, hC0⟩, rfl⟩
      have fC0 : ∀ n : Wd C, n.w.cell? ⟨w.heap.size + 1, 0, none⟩ = some (.int .i64 b.x.lo) := fun n => (LC.out n).1.2.1
      have fC1 : ∀ n : Wd C, n.w.cell? ⟨w.heap.size + 1, 1, none⟩ = some (.int .i64 b.x.hi) := fun n => (LC.out n).2.1.2.1
      have fC2 : ∀ n : Wd C, n.w.cell? ⟨w.heap.size + 1, 2, none⟩ = some (.int .i64 b.y.lo) := fun n => (LC.out n).2.2.1.2.1
      have fC3 : ∀ n : Wd C, n.w.cell? ⟨w.heap.size + 1, 3, none⟩ = some (.int .i64 b.y.hi) := fun n => (LC.out n).2.2.2.1.2.1
      have fC4 : ∀ n : Wd C, n.w.cell? ⟨w.heap.size, 0, none⟩ = some (.slice q l.length cap) := fun n => (LC.out n).2.2.2.2.1.2.1
      clear S0 hC0
      have D0 := cinL HC BC C0
      have D1 := cin HC C1
      clear C0 C1
      go_wp2_with (first | (go_at_call 90; with_reducible refine (D0 _).out.mono ?_; rintro e w' ⟨rfl, n, rfl⟩) | (go_at_call 53; with_reducible refine (D1 _).out.mono ?_; rintro e w' ⟨rfl, n, rfl⟩))
      go_ret2
      exact ⟨rfl, BC.out _⟩
    · rw [hz] at C1
      obtain ⟨k1, k2⟩ := okB_iff.1 hz
      have C2 := fun W => long_any b.x W k1
      have C3 := fun W => long_any b.y W k2
      have HCN := Lib.hid (cntB_sm hz)
      by_cases hcn : 4096 < cntB b
      · have HR : Hid (R = .tuple #[.int .i64 0, .int .i64 2]) := by unfold Hid; rw [← hR, sdRes, if_pos hc, hz, if_pos hcn]; simp
        rw [HR.out]
        obtain ⟨u, hu⟩ : ∃ u, b.x.hi - b.x.lo = u := ⟨_, rfl⟩
        obtain ⟨v, hv⟩ : ∃ v, b.y.hi - b.y.lo = v := ⟨_, rfl⟩
        simp only [hu] at C2
        simp only [hv] at C3
        rw [hu, hv] at HCN
        have hgt : 4096 < wrap64 (wrap64 (u + 1) * wrap64 (v + 1)) := by rw [HCN.out]; exact hcn
        clear hR HR hc hE h3 h200 hall hp hz hcn HCN hu hv k1 k2
        go_enter Try.func65, Try.ntmps65
        go_wp2_with fail
        obtain ⟨W0, hW0⟩ : ∃ W0, ((w).alloc (.cells #[.slice q l.length cap] 35)).alloc (.cells #[.int .i64 b.x.lo, .int .i64 b.x.hi, .int .i64 b.y.lo, .int .i64 b.y.hi] 60) = W0 := ⟨_, rfl⟩
        have S0 : St w W0 [(w.heap.size + 1, 0, .int .i64 b.x.lo), (w.heap.size + 1, 1, .int .i64 b.x.hi), (w.heap.size + 1, 2, .int .i64 b.y.lo), (w.heap.size + 1, 3, .int .i64 b.y.hi), (w.heap.size, 0, .slice q l.length cap)] := by rw [← hW0]; exact (((St.nil w)).box #[.slice q l.length cap] 35 (w.heap.size) (by simp)).box #[.int .i64 b.x.lo, .int .i64 b.x.hi, .int .i64 b.y.lo, .int .i64 b.y.hi] 60 (w.heap.size + 1) (by simp)
        rw [hW0]
        clear hW0
        obtain ⟨C, hC0, HC, LC, BC, hne⟩ := cls S0
        haveI := hne
        obtain ⟨c0, rfl⟩ : ∃ n : Wd C, W0 = n.w := ⟨⟨_, hC0⟩, rfl⟩
        have fC0 : ∀ n : Wd C, n.w.cell? ⟨w.heap.size + 1, 0, none⟩ = some (.int .i64 b.x.lo) := fun n => (LC.out n).1.2.1
        have fC1 : ∀ n : Wd C, n.w.cell? ⟨w.heap.size + 1, 1, none⟩ = some (.int .i64 b.x.hi) := fun n => (LC.out n).2.1.2.1
        have fC2 : ∀ n : Wd C, n.w.cell? ⟨w.heap.size + 1, 2, none⟩ = some (.int .i64 b.y.lo) := fun n => (LC.out n).2.2.1.2.1
        have fC3 : ∀ n : Wd C, n.w.cell? ⟨w.heap.size + 1, 3, none⟩ = some (.int .i64 b.y.hi) := fun n => (LC.out n).2.2.2.1.2.1
        have fC4 : ∀ n : Wd C, n.w.cell? ⟨w.heap.size, 0, none⟩ = some (.slice q l.length cap) := fun n => (LC.out n).2.2.2.2.1.2.1
        clear S0 hC0
        have D0 := cinL HC BC C0
        have D1 := cin HC C1
        have D2 := cin HC C2
        have D3 := cin HC C3
        clear C0 C1 C2 C3
        go_wp2_with (first | (go_at_call 90; with_reducible refine (D0 _).out.mono ?_; rintro e w' ⟨rfl, n, rfl⟩) | (go_at_call 53; with_reducible refine (D1 _).out.mono ?_; rintro e w' ⟨rfl, n, rfl⟩))
        refine wp_region_in C (HC.out _ _ (Wd.h _) (below_dr _)) (by kernel_rfl) (by kernel_rfl) ?_
        repeat (go_big_quiet_step (first | with_reducible exact (D2 _).out | with_reducible exact (D3 _).out))
        refine wpQuiet_nil ?_
        intro wx hwx
        obtain ⟨n2, rfl⟩ : ∃ n : Wd C, wx = n.w := ⟨⟨wx, hwx⟩, rfl⟩
        clear hwx
        go_wp2_with fail
        go_ret2
        exact ⟨rfl, BC.out _⟩
      · cases hs : smp l
        · have HR : Hid (R = .tuple #[.int .i64 0, .int .i64 4]) := by unfold Hid; rw [← hR, sdRes, if_pos hc, hz, if_neg hcn, hs]; simp
          rw [HR.out]
          have C4 := fun W (hb : Below w.heap.size w W) => simple_any q cap l W (by omega) (by omega) (HP.out.keep hb)
          rw [hs] at C4
          obtain ⟨u, hu⟩ : ∃ u, b.x.hi - b.x.lo = u := ⟨_, rfl⟩
          obtain ⟨v, hv⟩ : ∃ v, b.y.hi - b.y.lo = v := ⟨_, rfl⟩
          simp only [hu] at C2
          simp only [hv] at C3
          rw [hu, hv] at HCN
          have hgt : ¬ 4096 < wrap64 (wrap64 (u + 1) * wrap64 (v + 1)) := by rw [HCN.out]; exact hcn
          clear hR HR hc hE h3 h200 hall hp hz hcn HCN hu hv k1 k2 hs
          go_enter Try.func65, Try.ntmps65
          go_wp2_with fail
          obtain ⟨W0, hW0⟩ : ∃ W0, ((w).alloc (.cells #[.slice q l.length cap] 35)).alloc (.cells #[.int .i64 b.x.lo, .int .i64 b.x.hi, .int .i64 b.y.lo, .int .i64 b.y.hi] 60) = W0 := ⟨_, rfl⟩
          have S0 : St w W0 [(w.heap.size + 1, 0, .int .i64 b.x.lo), (w.heap.size + 1, 1, .int .i64 b.x.hi), (w.heap.size + 1, 2, .int .i64 b.y.lo), (w.heap.size + 1, 3, .int .i64 b.y.hi), (w.heap.size, 0, .slice q l.length cap)] := by rw [← hW0]; exact (((St.nil w)).box #[.slice q l.length cap] 35 (w.heap.size) (by simp)).box #[.int .i64 b.x.lo, .int .i64 b.x.hi, .int .i64 b.y.lo, .int .i64 b.y.hi] 60 (w.heap.size + 1) (by simp)
          rw [hW0]
          clear hW0
          obtain ⟨C, hC0, HC, LC, BC, hne⟩ := cls S0
          haveI := hne
          obtain ⟨c0, rfl⟩ : ∃ n : Wd C, W0 = n.w := ⟨⟨_, hC0⟩, rfl⟩
          have fC0 : ∀ n : Wd C, n.w.cell? ⟨w.heap.size + 1, 0, none⟩ = some (.int .i64 b.x.lo) := fun n => (LC.out n).1.2.1
          have fC1 : ∀ n : Wd C, n.w.cell? ⟨w.heap.size + 1, 1, none⟩ = some (.int .i64 b.x.hi) := fun n => (LC.out n).2.1.2.1
          have fC2 : ∀ n : Wd C, n.w.cell? ⟨w.heap.size + 1, 2, none⟩ = some (.int .i64 b.y.lo) := fun n => (LC.out n).2.2.1.2.1
          have fC3 : ∀ n : Wd C, n.w.cell? ⟨w.heap.size + 1, 3, none⟩ = some (.int .i64 b.y.hi) := fun n => (LC.out n).2.2.2.1.2.1
          have fC4 : ∀ n : Wd C, n.w.cell? ⟨w.heap.size, 0, none⟩ = some (.slice q l.length cap) := fun n => (LC.out n).2.2.2.2.1.2.1
          clear S0 hC0
          have D0 := cinL HC BC C0
          have D1 := cin HC C1
          have D2 := cin HC C2
          have D3 := cin HC C3
          have D4 := cinL HC BC C4
          clear C0 C1 C2 C3 C4
          go_wp2_with (first | (go_at_call 90; with_reducible refine (D0 _).out.mono ?_; rintro e w' ⟨rfl, n, rfl⟩) | (go_at_call 53; with_reducible refine (D1 _).out.mono ?_; rintro e w' ⟨rfl, n, rfl⟩))
          refine wp_region_in C (HC.out _ _ (Wd.h _) (below_dr _)) (by kernel_rfl) (by kernel_rfl) ?_
          repeat (go_big_quiet_step (first | with_reducible exact (D2 _).out | with_reducible exact (D3 _).out))
          refine wpQuiet_nil ?_
          intro wx hwx
          obtain ⟨n2, rfl⟩ : ∃ n : Wd C, wx = n.w := ⟨⟨wx, hwx⟩, rfl⟩
          clear hwx
          go_wp2_with (first | (go_at_call 93; with_reducible refine (D4 _).out.mono ?_; rintro e w' ⟨rfl, n, rfl⟩))
          go_ret2
          exact ⟨rfl, BC.out _⟩
        · exact absurd ⟨hc, hz, hcn, hs⟩ hE
  · have HR : Hid (R = .tuple #[.int .i64 0, .int .i64 c]) := by unfold Hid; rw [← hR, sdRes, if_neg (by rw [hc]; exact h0), hc]
    rw [HR.out]
    clear hR HR hc hE hp
    go_enter Try.func65, Try.ntmps65
    go_wp2_with fail
    obtain ⟨W0, hW0⟩ : ∃ W0, ((w).alloc (.cells #[.slice q l.length cap] 35)).alloc (.cells #[.int .i64 b.x.lo, .int .i64 b.x.hi, .int .i64 b.y.lo, .int .i64 b.y.hi] 60) = W0 := ⟨_, rfl⟩
    have S0 : St w W0 [(w.heap.size + 1, 0, .int .i64 b.x.lo), (w.heap.size + 1, 1, .int .i64 b.x.hi), (w.heap.size + 1, 2, .int .i64 b.y.lo), (w.heap.size + 1, 3, .int .i64 b.y.hi), (w.heap.size, 0, .slice q l.length cap)] := by rw [← hW0]; exact (((St.nil w)).box #[.slice q l.length cap] 35 (w.heap.size) (by simp)).box #[.int .i64 b.x.lo, .int .i64 b.x.hi, .int .i64 b.y.lo, .int .i64 b.y.hi] 60 (w.heap.size + 1) (by simp)
    rw [hW0]
    clear hW0
    obtain ⟨C, hC0, HC, LC, BC, hne⟩ := cls S0
    haveI := hne
    obtain ⟨c0, rfl⟩ : ∃ n : Wd C, W0 = n.w := ⟨⟨_, hC0⟩, rfl⟩
    have fC0 : ∀ n : Wd C, n.w.cell? ⟨w.heap.size + 1, 0, none⟩ = some (.int .i64 b.x.lo) := fun n => (LC.out n).1.2.1
    have fC1 : ∀ n : Wd C, n.w.cell? ⟨w.heap.size + 1, 1, none⟩ = some (.int .i64 b.x.hi) := fun n => (LC.out n).2.1.2.1
    have fC2 : ∀ n : Wd C, n.w.cell? ⟨w.heap.size + 1, 2, none⟩ = some (.int .i64 b.y.lo) := fun n => (LC.out n).2.2.1.2.1
    have fC3 : ∀ n : Wd C, n.w.cell? ⟨w.heap.size + 1, 3, none⟩ = some (.int .i64 b.y.hi) := fun n => (LC.out n).2.2.2.1.2.1
    have fC4 : ∀ n : Wd C, n.w.cell? ⟨w.heap.size, 0, none⟩ = some (.slice q l.length cap) := fun n => (LC.out n).2.2.2.2.1.2.1
    clear S0 hC0
    have D0 := cinL HC BC C0
    clear C0
    go_wp2_with (first | (go_at_call 90; with_reducible refine (D0 _).out.mono ?_; rintro e w' ⟨rfl, n, rfl⟩))
    go_ret2
    exact ⟨rfl, BC.out _⟩
end Go.Proofs.Ytdefpcjlbganpaa
