import Derived.RangeFuncNested
import Derived.RangeFuncBound
import Derived.RangeFuncCalls
import Derived.RangeFuncLeaves
import Derived.Test.YtmfhpddeclggfaaGreatDoorKa
import Derived.RangeFuncBox
import Derived.Shelf.Abstract
import Derived.Shelf.RegionOpen
import Derived.WalkKit
import Derived.OwnWalkIn
import Derived.TacticsInMore
import Derived.LoopNIn
import Derived.LoopIn
import Derived.Lib.Hide
import Derived.IntWalk
import Derived.Test.YtmfhpddeclggfaaGreatDoorKb
import Derived.Maps.AppendAt
/- A range over a function whose iterator writes blocks of its own between two rounds (the captured string of strings.SplitSeq): what such an iterator's contract says, and the law of the loop. -/
namespace Go.Proofs.YtmfhpddeclggfaaGreatDoor
open Go Go.RowKit
/-- It abides new blocks, and the turn of a block of Q. -/
def Abd {β : Type} (Q : Nat → Prop) (J : β → World → Prop) : Prop :=
  ∀ s W W' row, J s W → W.grownBy W' row → (∀ r, row = some r → Q r) → J s W'
/-- The blocks of Q lie as they lay. -/
def Stay (Q : Nat → Prop) (W W' : World) : Prop := ∀ k, Q k → W'.heap[k]? = W.heap[k]?
/-- The blocks of the package's variables, and those of Q. -/
def Ev (Q : Nat → Prop) : Nat → Prop := fun k => k < 8 ∨ Q k
theorem Ev.mono {Q Q' : Nat → Prop} (h : ∀ k, Q k → Q' k) : ∀ k, Ev Q k → Ev Q' k := fun k hk => hk.imp id (h k)
theorem Stay.trans {Q : Nat → Prop} {A B C : World} (h : Stay Q A B) (k : Stay Q B C) : Stay Q A C := fun i hi => (k i hi).trans (h i hi)
theorem Stay.mono {Q Q' : Nat → Prop} {A B : World} (h : Stay Q A B) (hq : ∀ k, Q' k → Q k) : Stay Q' A B := fun i hi => h i (hq i hi)
theorem Abd.mono {β : Type} {Q Q' : Nat → Prop} {J : β → World → Prop} (h : Abd Q J) (hq : ∀ k, Q' k → Q k) : Abd Q' J := fun s W W' row hs hg hr => h s W W' row hs hg (fun r e => hq r (hr r e))
/-- What an iterator does that hands out the elements of xs, and writes the blocks of Q between two rounds: all have come, or it was stopped behind some. -/
def Hands {α : Type} (F : Fence) (n : Nat) (P : Program) (g : Nat) (lb : Array Value) (enc : α → Value) (Q : Nat → Prop) (xs : List α) (W : World) : Prop :=
  ∀ (l : Nat) (J Jx : List α → World → Prop), Abd Q J → Abd Q Jx →
    (∀ pre x W1, J pre W1 → pre ++ [x] <+: xs → YieldAt F (n - 1) P l #[enc x] W1 fun e W' =>
      (e = .returned (.bool true) ∧ J (pre ++ [x]) W' ∧ Stay (Ev Q) W1 W') ∨ (e = .returned (.bool false) ∧ Jx (pre ++ [x]) W' ∧ Stay (Ev Q) W1 W')) →
    J [] W →
    CallsIn F n P g (#[.func (.yield l) #[] #[]] ++ lb) W fun e W' => (∃ v, e = .returned v) ∧ (J xs W' ∨ ∃ pre, pre <+: xs ∧ Jx pre W')
/-- The same of an iterator that makes its blocks itself: they lie from where its call begins to some N. -/
def HandsN {α : Type} (F : Fence) (n : Nat) (P : Program) (g : Nat) (lb : Array Value) (enc : α → Value) (xs : List α) (W : World) : Prop :=
  ∀ (l : Nat) (J Jx : Nat → List α → World → Prop), (∀ N, Abd (fun k => W.heap.size ≤ k ∧ k < N) (J N)) → (∀ N, Abd (fun k => W.heap.size ≤ k ∧ k < N) (Jx N)) →
    (∀ N pre x W1, W.heap.size ≤ N → J N pre W1 → pre ++ [x] <+: xs → YieldAt F (n - 1) P l #[enc x] W1 fun e W' =>
      (e = .returned (.bool true) ∧ J N (pre ++ [x]) W' ∧ Stay (Ev fun k => W.heap.size ≤ k ∧ k < N) W1 W') ∨ (e = .returned (.bool false) ∧ Jx N (pre ++ [x]) W' ∧ Stay (Ev fun k => W.heap.size ≤ k ∧ k < N) W1 W')) →
    (∀ N W1, Below W.heap.size W W1 → W.heap.size ≤ N → N ≤ W1.heap.size → J N [] W1) →
    CallsIn F n P g (#[.func (.yield l) #[] #[]] ++ lb) W fun e W' => (∃ v, e = .returned v) ∧ ∃ N, W.heap.size ≤ N ∧ (J N xs W' ∨ ∃ pre, pre <+: xs ∧ Jx N pre W')
/-- The loop's record and the block for its deferred calls. -/
structure Held (l D : Nat) (r : Loop) (W : World) : Prop where
  rcd : W.heap[l]? = some (.loop r)
  mark : W.heap[D]? = some (.deferred (some []))
theorem Held.grown {l D : Nat} {r : Loop} {W W' : World} {row : Option Nat} (h : Held l D r W) (hg : W.grownBy W' row) (h1 : row ≠ some l) (h2 : row ≠ some D) : Held l D r W' :=
  ⟨(hg.block l (Array.getElem?_eq_some_iff.1 h.rcd).1 (fun e => h1 e.symm)).trans h.rcd, (hg.block D (Array.getElem?_eq_some_iff.1 h.mark).1 (fun e => h2 e.symm)).trans h.mark⟩
theorem Held.stay {l D : Nat} {r : Loop} {W W' : World} {Q : Nat → Prop} (h : Held l D r W) (hl : Ev Q l) (hD : Ev Q D) (hk : Stay (Ev Q) W W') : Held l D r W' := ⟨(hk l hl).trans h.rcd, (hk D hD).trans h.mark⟩
theorem Held.put {l D : Nat} {r : Loop} {W : World} (h : Held l D r W) (r' : Loop) (hne : l ≠ D) : Held l D r' (W.putObj l (.loop r')) :=
  ⟨World.putObj_heap_same (Array.getElem?_eq_some_iff.1 h.rcd).1, (World.putObj_heap_other (Ne.symm hne)).trans h.mark⟩
/-- How a round may end. -/
def After {α : Type} (Q : Nat → Prop) (I Ix : List α → World → Prop) (xs : List α) (W : World) : Exit → Act → World → Prop
  | .normal, _, W' => Stay (Ev Q) W W' ∧ I xs W'
  | .ret, _, W' => Stay (Ev Q) W W' ∧ Ix xs W'
  | _, _, _ => False
theorem Abd.put {β : Type} {Q : Nat → Prop} {J : β → World → Prop} (h : Abd Q J) {s : β} {l : Nat} {W : World} (hs : J s W) (hl : Q l) (o : Obj) : J s (W.putObj l o) :=
  h s W _ (some l) hs (grownBy_putObj' W l _) (fun k e => by cases e; exact hl)
theorem Abd.al {β : Type} {Q : Nat → Prop} {J : β → World → Prop} (h : Abd Q J) {s : β} {W : World} (hs : J s W) (o : Obj) : J s (W.alloc o) :=
  h s W _ none hs (World.grownBy_alloc W o none) (fun _ e => by cases e)
theorem stay_put {Q : Nat → Prop} {l : Nat} {W : World} (o : Obj) (hl : ¬ Q l) : Stay Q W (W.putObj l o) :=
  fun _ hk => World.putObj_heap_other (fun e => hl (e ▸ hk))
variable {F : Fence} {n : Nat} {P : Program}
/-- One round. -/
theorem round_Q {α : Type} {enc : α → Value} {l D : Nat} {r : Loop} (hst : r.state = .ready) (hpe : r.pending = none) (hps : r.params.size = 1) (hF : F.fn r.fn) {Q Pv : Nat → Prop} (h8 : 8 ≤ l) (hQl : Q l) (hQD : Q D) (hne : l ≠ D) (hPQ : ∀ k, Pv k → Q k) (hPl : ¬ Pv l) {I Ix : List α → World → Prop} (hI : Abd Q I) (hIx : Abd Q Ix) {pre : List α} {x : α} {W : World} (h : Held l D r W) (hi : I pre W) (a₁ : Act)
    (hassign : ∀ (K : Act → World → Prop), K a₁ W → r.assign.wpIn (F.inRound l) n P (Exit.then K (fun _ _ _ => False)) { tmps := (r.params.zip #[enc x]).foldl (fun t (p, v) => t.setIfInBounds p v) r.tmps, defers := [] } W)
    (hbody : ∀ W, I pre W → r.body.wpIn (F.inRound l) n P (After Q I Ix (pre ++ [x]) W) a₁ W) :
    YieldAt F n P l #[enc x] W fun e W' =>
      (e = .returned (.bool true) ∧ (I (pre ++ [x]) W' ∧ Held l D r W') ∧ Stay (Ev Pv) W W') ∨ (e = .returned (.bool false) ∧ (Ix (pre ++ [x]) W' ∧ Held l D { r with state := .done, pending := some .ret } W') ∧ Stay (Ev Pv) W W') := by
  refine ⟨r.fn, _, r.assign, r.body, run_yield h.rcd (by simp [hps]), roundIn_of_wpIn hF (hassign _ ⟨_, run_beginRound h.rcd hst, ?_⟩)⟩
  have hPe : ¬ Ev Pv l := fun h => h.elim (fun h => by omega) hPl
  have h2 := h.put { r with state := .busy } hne
  refine wpIn_mono (hbody _ (hI.put hi hQl _)) ?_
  rintro e a' W3 hp
  cases e with
  | normal =>
    obtain ⟨hk, hi3⟩ := hp
    have h3 := h2.stay (Or.inr hQl) (Or.inr hQD) hk
    refine ⟨_, _, run_endRound none h3.rcd, .inl ⟨rfl, ⟨hI.put hi3 hQl _, ?_⟩, ((stay_put _ hPe).trans (hk.mono (Ev.mono hPQ))).trans (stay_put _ hPe)⟩⟩
    have h4 := h3.put { r with state := .ready, pending := none } hne
    rw [show ({ r with state := .ready, pending := none } : Loop) = r by cases r; simp_all] at h4
    have e4 : ({ ({ r with state := .busy } : Loop) with state := if (none : Option Code).isNone then .ready else .done, pending := none } : Loop) = r := by cases r; simp_all
    rw [e4]
    exact h4
  | ret =>
    obtain ⟨hk, hi3⟩ := hp
    have h3 := h2.stay (Or.inr hQl) (Or.inr hQD) hk
    exact ⟨_, _, run_endRound (some .ret) h3.rcd, .inr ⟨rfl, ⟨hIx.put hi3 hQl _, h3.put _ hne⟩, ((stay_put _ hPe).trans (hk.mono (Ev.mono hPQ))).trans (stay_put _ hPe)⟩⟩
  | exit id => exact hp.elim
  | goto t => exact hp.elim
  | panic ch => exact hp.elim
  | outgrown => exact hp.elim
/-- The record that a loop lays. -/
theorem enter_held {fn : FuncId} {tmps : Array Value} {ps : Array Tmp} {assign body : Code} {w : World} : ∃ (r : Loop) (W1 : World), r = { state := .ready, pending := none, fn := fn, tmps := tmps, params := ps, assign := assign, body := body, defers := w.heap.size } ∧
    (Instr.enterLoop fn tmps ps assign body none).run P w = .ok (w.heap.size + 1, [{ target := .collected w.heap.size, args := #[] }]) W1 ∧ Held (w.heap.size + 1) w.heap.size r W1 ∧ W1.heap.size = w.heap.size + 1 + 1 ∧ Below w.heap.size w W1 := by
  refine ⟨_, (w.alloc (.deferred (some []))).alloc (.loop { state := .ready, pending := none, fn := fn, tmps := tmps, params := ps, assign := assign, body := body, defers := w.heap.size }), rfl, run_enterLoop_outer _ _ _ _ _, ⟨?_, (Below.heap_alloc _ _ _ (by simp)).trans (World.alloc_heap_new w _)⟩, by simp, ((Below.refl _ w).alloc (Nat.le_refl _) _).alloc (by simp) _⟩
  have := World.alloc_heap_new (w.alloc (.deferred (some []))) (.loop { state := .ready, pending := none, fn := fn, tmps := tmps, params := ps, assign := assign, body := body, defers := w.heap.size })
  rwa [World.size_alloc] at this
theorem abd_held {α : Type} {Q Q' : Nat → Prop} {J : List α → World → Prop} (hJ : Abd Q' J) {l D : Nat} {r : Loop} (hl : ¬ Q l) (hD : ¬ Q D) (hQ : ∀ k, Q k → Q' k) : Abd Q (fun pre W => J pre W ∧ Held l D r W) :=
  fun s A B row hs hg hr => ⟨hJ s A B row hs.1 hg (fun k e => hQ k (hr k e)), hs.2.grown hg (fun e => hl (hr _ e)) (fun e => hD (hr _ e))⟩
/-- The loop, over an iterator whose blocks lay there before. -/
theorem wpIn_range_Q {α : Type} {g : Operand} {ps : Array Tmp} {assign body : Code} {R : Exit → Act → World → Prop} {a : Act} {w : World}
    (hro : F.round = none) (h8 : 8 ≤ w.heap.size) (h1 : 1 ≤ n) {gf : Nat} {lb : Array Value} (hg : a.eval g = .func (.func gf) #[] lb) (hFg : F.fn gf) (eg : ∀ args w, (callFunc gf args).run P w = .ok (.enter gf args) w)
    {enc : α → Value} {Pv : Nat → Prop} (hPv : ∀ k, Pv k → k < w.heap.size) {xs : List α} (hseq : ∀ W, Below w.heap.size w W → Hands F (n - 1) P gf lb enc Pv xs W) (hps : ps.size = 1)
    (Q : Nat → Prop) (hQ : ∀ k, Q k ↔ Pv k ∨ k = w.heap.size ∨ k = w.heap.size + 1)
    (I Ix : List α → World → Prop) (hI : Abd Q I) (hIx : Abd Q Ix) (h0 : ∀ W, Below w.heap.size w W → W.heap.size = w.heap.size + 1 + 1 → I [] W) (a₁ : α → Act)
    (hassign : ∀ (l : Nat) (x : α) (W : World) (K : Act → World → Prop), K (a₁ x) W →
      assign.wpIn (F.inRound l) (n - 1 - 1) P (Exit.then K (fun _ _ _ => False)) { tmps := (ps.zip #[enc x]).foldl (fun t (p, v) => t.setIfInBounds p v) a.tmps, defers := [] } W)
    (hbody : ∀ (l : Nat) (pre : List α) (x : α) (W : World), I pre W → pre ++ [x] <+: xs → body.wpIn (F.inRound l) (n - 1 - 1) P (After Q I Ix (pre ++ [x]) W) (a₁ x) W)
    (hdone : ∀ (W : World), I xs W → W.heap[w.heap.size]? = some (.deferred (some [])) → R .normal { a with defers := { target := .collected w.heap.size, args := #[] } :: a.defers } W)
    (hstop : ∀ (pre : List α) (W : World), pre <+: xs → Ix pre W → W.heap[w.heap.size]? = some (.deferred (some [])) → Code.ret.wpIn F n P R { a with defers := { target := .collected w.heap.size, args := #[] } :: a.defers } W) :
    (Code.rangeFunc g ps assign body).wpIn F n P R a w := by
  refine wpIn_rangeFunc ?_
  intro fn hfn
  rw [hro]
  obtain ⟨r, W1, hr, hen, H1, hs1, b1⟩ := enter_held (P := P) (fn := fn) (tmps := a.tmps) (ps := ps) (assign := assign) (body := body) (w := w)
  have hnl : ¬ Pv (w.heap.size + 1) := fun h => by have := hPv _ h; omega
  have hnD : ¬ Pv w.heap.size := fun h => by have := hPv _ h; omega
  have hPQ : ∀ k, Pv k → Q k := fun k h => (hQ k).2 (.inl h)
  have hQl : Q (w.heap.size + 1) := (hQ _).2 (.inr (.inr rfl))
  have hQD : Q w.heap.size := (hQ _).2 (.inr (.inl rfl))
  refine ⟨w.heap.size + 1, _, W1, { target := .fn (.func gf) lb, args := #[.func (.yield (w.heap.size + 1)) #[] #[]] }, W1, gf, #[.func (.yield (w.heap.size + 1)) #[] #[]] ++ lb, W1, hen, ?_, ?_, ?_, fun _ => h1, ?_⟩
  · simp only [resolve, hg]; simp [go_sem]
  · intro f' hf'; simp [Target.leads] at hf'; subst hf'; exact hFg
  · simp [invoke, go_sem, eg]
  refine (hseq W1 b1 (w.heap.size + 1) _ _ (abd_held hI hnl hnD hPQ (r := r)) (abd_held hIx hnl hnD hPQ (r := { r with state := .done, pending := some .ret })) ?_ ⟨h0 _ b1 hs1, H1⟩).mono ?_
  · rintro pre x W ⟨hi, hH⟩ hlen
    refine round_Q (by rw [hr]) (by rw [hr]) (by rw [hr]; exact hps) (by rw [hr]; exact hfn) (by omega) hQl hQD (by omega) hPQ hnl hI hIx hH hi (a₁ x) ?_ ?_
    · intro K hK; rw [hr]; exact hassign _ x W K hK
    · intro W' hi'; rw [hr]; exact hbody _ pre x W' hi' hlen
  · rintro e W2 ⟨⟨v, rfl⟩, (⟨hi, hH⟩ | ⟨pre, hp, hi, hH⟩)⟩
    · exact ⟨none, _, by rw [run_endLoop hH.rcd (by rw [hr]; simp), hr], hdone _ (hI.put hi hQl _) (hH.put _ (by omega)).mark⟩
    · exact ⟨some .ret, _, run_endLoop hH.rcd (by simp), hstop pre _ hp (hIx.put hi hQl _) (hH.put _ (by omega)).mark⟩
/-- The loop, over an iterator that makes its blocks itself. -/
theorem wpIn_range_N {α : Type} {g : Operand} {ps : Array Tmp} {assign body : Code} {R : Exit → Act → World → Prop} {a : Act} {w : World}
    (hro : F.round = none) (h8 : 8 ≤ w.heap.size) (h1 : 1 ≤ n) {gf : Nat} {lb : Array Value} (hg : a.eval g = .func (.func gf) #[] lb) (hFg : F.fn gf) (eg : ∀ args w, (callFunc gf args).run P w = .ok (.enter gf args) w)
    {enc : α → Value} {xs : List α} (hseq : ∀ W, Below w.heap.size w W → HandsN F (n - 1) P gf lb enc xs W) (hps : ps.size = 1)
    (I Ix : Nat → List α → World → Prop) (hI : ∀ N, Abd (fun k => w.heap.size ≤ k ∧ k < N) (I N)) (hIx : ∀ N, Abd (fun k => w.heap.size ≤ k ∧ k < N) (Ix N)) (h0 : ∀ N W, Below w.heap.size w W → w.heap.size ≤ N → N ≤ W.heap.size → I N [] W) (a₁ : α → Act)
    (hassign : ∀ (l : Nat) (x : α) (W : World) (K : Act → World → Prop), K (a₁ x) W →
      assign.wpIn (F.inRound l) (n - 1 - 1) P (Exit.then K (fun _ _ _ => False)) { tmps := (ps.zip #[enc x]).foldl (fun t (p, v) => t.setIfInBounds p v) a.tmps, defers := [] } W)
    (hbody : ∀ (l N : Nat) (pre : List α) (x : α) (W : World), w.heap.size ≤ N → I N pre W → pre ++ [x] <+: xs → body.wpIn (F.inRound l) (n - 1 - 1) P (After (fun k => w.heap.size ≤ k ∧ k < N) (I N) (Ix N) (pre ++ [x]) W) (a₁ x) W)
    (hdone : ∀ (N : Nat) (W : World), w.heap.size ≤ N → I N xs W → W.heap[w.heap.size]? = some (.deferred (some [])) → R .normal { a with defers := { target := .collected w.heap.size, args := #[] } :: a.defers } W)
    (hstop : ∀ (N : Nat) (pre : List α) (W : World), w.heap.size ≤ N → pre <+: xs → Ix N pre W → W.heap[w.heap.size]? = some (.deferred (some [])) → Code.ret.wpIn F n P R { a with defers := { target := .collected w.heap.size, args := #[] } :: a.defers } W) :
    (Code.rangeFunc g ps assign body).wpIn F n P R a w := by
  refine wpIn_rangeFunc ?_
  intro fn hfn
  rw [hro]
  obtain ⟨r, W1, hr, hen, H1, hs1, b1⟩ := enter_held (P := P) (fn := fn) (tmps := a.tmps) (ps := ps) (assign := assign) (body := body) (w := w)
  refine ⟨w.heap.size + 1, _, W1, { target := .fn (.func gf) lb, args := #[.func (.yield (w.heap.size + 1)) #[] #[]] }, W1, gf, #[.func (.yield (w.heap.size + 1)) #[] #[]] ++ lb, W1, hen, ?_, ?_, ?_, fun _ => h1, ?_⟩
  · simp only [resolve, hg]; simp [go_sem]
  · intro f' hf'; simp [Target.leads] at hf'; subst hf'; exact hFg
  · simp [invoke, go_sem, eg]
  refine (hseq W1 b1 (w.heap.size + 1) (fun N pre W => I N pre W ∧ Held (w.heap.size + 1) w.heap.size r W) (fun N pre W => Ix N pre W ∧ Held (w.heap.size + 1) w.heap.size { r with state := .done, pending := some .ret } W)
    (fun N => abd_held (hI N) (fun h => by omega) (fun h => by omega) (fun k h => ⟨by omega, h.2⟩)) (fun N => abd_held (hIx N) (fun h => by omega) (fun h => by omega) (fun k h => ⟨by omega, h.2⟩)) ?_ ?_).mono ?_
  · rintro N pre x W hN ⟨hi, hH⟩ hlen
    refine round_Q (Q := fun k => w.heap.size ≤ k ∧ k < N) (by rw [hr]) (by rw [hr]) (by rw [hr]; exact hps) (by rw [hr]; exact hfn) (by omega) (by omega) (by omega) (by omega) (fun k h => ⟨by omega, h.2⟩) (fun h => by omega) (hI N) (hIx N) hH hi (a₁ x) ?_ ?_
    · intro K hK; rw [hr]; exact hassign _ x W K hK
    · intro W' hi'; rw [hr]; exact hbody _ N pre x W' (by omega) hi' hlen
  · intro N W hb hN hN2
    exact ⟨h0 N W (b1.trans (hb.mono (by omega))) (by omega) hN2, ⟨(hb.block _ (by omega)).trans H1.rcd, (hb.block _ (by omega)).trans H1.mark⟩⟩
  · rintro e W2 ⟨⟨v, rfl⟩, N, hN, (⟨hi, hH⟩ | ⟨pre, hp, hi, hH⟩)⟩
    · exact ⟨none, _, by rw [run_endLoop hH.rcd (by rw [hr]; simp), hr], hdone N _ (by omega) ((hI N).put hi ⟨by omega, by omega⟩ _) (hH.put _ (by omega)).mark⟩
    · exact ⟨some .ret, _, run_endLoop hH.rcd (by simp), hstop N pre _ (by omega) hp ((hIx N).put hi ⟨by omega, by omega⟩ _) (hH.put _ (by omega)).mark⟩
end Go.Proofs.YtmfhpddeclggfaaGreatDoor
namespace Go.Proofs.YtmfhpddeclggfaaGreatDoor
open Go.RowKit Go.Shelf
attribute [local go_sem] Oper.semAt_some
/-- The parts of a text at its line feeds. -/
def partsF (s : ByteArray) : List ByteArray := Lib.splitB ⟨#[10]⟩ 0 s.size s
theorem stay_size {W W' : World} {Q : Nat → Prop} (h8 : 8 ≤ W.heap.size) (hk : Stay (Ev Q) W W') : 8 ≤ W'.heap.size := by
  have h := hk 7 (.inl (by decide))
  have h2 : W.heap[7]? = some W.heap[7] := Array.getElem?_eq_getElem (by omega)
  rw [h2] at h
  exact (Array.getElem?_eq_some_iff.1 h).1
theorem var?_stay {P : Program} {g : Nat} {W W' : World} {n : String} {cs : Array Value} (h : W'.heap[g]? = W.heap[g]?) (hg : P.globalNamed n = some g) (hv : W.var? P n = some cs) : W'.var? P n = some cs := by
  unfold World.var? at hv ⊢
  simp only [hg, Option.bind_some] at hv ⊢
  rw [h]
  exact hv
theorem Env.stay {W W' : World} {Q : Nat → Prop} (h : Env W) (hk : Stay (Ev Q) W W') : Env W' := by
  obtain ⟨⟨m, hm⟩, ⟨t1, p1, h1⟩, ⟨t2, p2, h2⟩, h3, h4⟩ := h
  exact ⟨⟨m, (World.cell?_of_block (a := ⟨0, 0, none⟩) (hk 0 (.inl (by decide)))).trans hm⟩, ⟨t1, p1, var?_stay (hk 1 (.inl (by decide))) gSyn h1⟩, ⟨t2, p2, var?_stay (hk 2 (.inl (by decide))) gRng h2⟩, var?_stay (hk 3 (.inl (by decide))) gPow h3, stay_size h4 hk⟩
/-- The cells that the iterator of strings.SplitSeq has captured. -/
structure SpC (W : World) (b1 b2 b3 : Nat) (s : ByteArray) : Prop where
  c1 : W.cell? ⟨b1, 0, none⟩ = some (.string ⟨#[10]⟩)
  c2 : W.cell? ⟨b2, 0, none⟩ = some (.string s)
  f2 : W.frozen? ⟨b2, 0, none⟩ = false
  c3 : W.cell? ⟨b3, 0, none⟩ = some (.int .i64 0)
theorem SpC.stay {W W' : World} {Q : Nat → Prop} {b1 b2 b3 : Nat} {s : ByteArray} (h : SpC W b1 b2 b3 s) (hk : Stay (Ev Q) W W') (q1 : Q b1) (q2 : Q b2) (q3 : Q b3) : SpC W' b1 b2 b3 s :=
  ⟨(World.cell?_of_block (a := ⟨b1, 0, none⟩) (hk b1 (.inr q1))).trans h.c1, (World.cell?_of_block (a := ⟨b2, 0, none⟩) (hk b2 (.inr q2))).trans h.c2, (World.frozen?_of_block (a := ⟨b2, 0, none⟩) (hk b2 (.inr q2))).trans h.f2, (World.cell?_of_block (a := ⟨b3, 0, none⟩) (hk b3 (.inr q3))).trans h.c3⟩
/-- How much is left. -/
def leftS (b : Nat) (W : World) : Nat := match W.cell? ⟨b, 0, none⟩ with | some (.string r) => r.size + 1 | _ => 0
theorem leftS_eq {W : World} {b : Nat} {r : ByteArray} (h : W.cell? ⟨b, 0, none⟩ = some (.string r)) : leftS b W = r.size + 1 := by unfold leftS; rw [h]
set_option maxRecDepth 100000 in
set_option maxHeartbeats 4000000 in
theorem splitSeq1 (n : Nat) (hn : 1 ≤ n) (Q : Nat → Prop) (b1 b2 b3 : Nat) (q1 : Q b1) (q2 : Q b2) (q3 : Q b3) (h12 : b1 ≠ b2) (h32 : b3 ≠ b2) (hb2 : 8 ≤ b2) (s : ByteArray) (hs : s.size ≤ 1000000) (W0 : World) (he : Env W0) (hc : SpC W0 b1 b2 b3 s) :
    Hands Fence.wide n Tryz.prog 182 #[.pointer (some ⟨b1, 0, none⟩), .pointer (some ⟨b2, 0, none⟩), .pointer (some ⟨b3, 0, none⟩)] Value.string Q (partsF s) W0 := by
  intro l J Jx hJ hJx hY h0
  have hJ' := Lib.hid hJ
  have hJx' := Lib.hid hJx
  have hY' := Lib.hid hY
  clear hJ hJx hY
  refine callsIn_of_wp Tryz.func182 rfl trivial ?_ rfl
  simp only [Tryz.ntmps182, List.size_toArray, List.length_cons, List.length_nil, Nat.reduceAdd, Nat.reduceSub, Array.replicate_succ, Array.replicate_zero, List.push_toArray, List.append_toArray, List.nil_append, List.cons_append]
  have HC := Lib.hid hc
  have HE := Lib.hid he
  obtain ⟨c1, c2, f2, c3⟩ := hc
  clear he
  gi_wp2
  gi_loopw [7, 8] (fun _ _ wr => ∃ (pre : List ByteArray) (k : Nat) (rest : ByteArray), Hid (partsF s = pre ++ Lib.splitB ⟨#[10]⟩ 0 k rest) ∧ rest.size ≤ k ∧ rest.size ≤ 1000000 ∧ J pre wr ∧ SpC wr b1 b2 b3 rest ∧ Env wr) (fun _ _ wr => leftS b2 wr)
  case atStart => exact ⟨[], s.size, s, rfl, Nat.le_refl _, hs, h0, HC.out, HE.out⟩
  case round =>
    clear c1 c2 f2 c3 HC HE h0
    obtain ⟨pre, k, rest, HP, hk, hr, hJ, hc, he⟩ := hrel
    have HJ := Lib.hid hJ
    have HC := Lib.hid hc
    have HE := Lib.hid he
    obtain ⟨c1, c2, f2, c3⟩ := hc
    obtain ⟨m, hm⟩ := he.mx
    have CI := Tryz.strings_Index rest ⟨#[10]⟩ m wr (by omega) hm
    clear hJ hm he
    rcases Lib.indexB_cases rest ⟨#[10]⟩ with hi | ⟨i, hi, hil⟩
    · have hpt : Hid (partsF s = pre ++ [rest]) := by unfold Hid; rw [HP.out, Lib.splitB_miss _ _ _ _ hi]
      rw [show Lib.index rest.data.toList (ByteArray.mk #[10]).data.toList = -1 from hi] at CI
      obtain ⟨fn, tmps, assign, body, hy, hR⟩ := hY'.out pre rest wr HJ.out (by rw [hpt.out]; exact List.prefix_refl _)
      have HR := Lib.hid hR
      clear hR hi hY' HP
      gi_wp2_with (refine ⟨trivial, ?_⟩; gi_at_call 123; refine (callsIn_wide.2 CI).mono ?_; rintro e w' ⟨rfl, rfl⟩)
      refine HR.out.mono ?_
      rintro e W3 (⟨rfl, hJ3, hk3⟩ | ⟨rfl, hJ3, -⟩)
      · have H3 := Lib.hid hJ3
        clear hJ3 hk3 c1 c2 f2 c3
        gi_wp2
        go_end0
        exact ⟨⟨_, rfl⟩, .inl (by rw [hpt.out]; exact H3.out)⟩
      · have H3 := Lib.hid hJ3
        clear hJ3 c1 c2 f2 c3
        gi_wp2
        go_end0
        exact ⟨⟨_, rfl⟩, .inr ⟨pre ++ [rest], by rw [hpt.out]; exact List.prefix_refl _, H3.out⟩⟩
    · have hil' : i + 1 ≤ rest.size := hil
      obtain ⟨k', rfl⟩ : ∃ k', k = k' + 1 := ⟨k - 1, by omega⟩
      have hpt : Hid (partsF s = (pre ++ [rest.extract 0 i]) ++ Lib.splitB ⟨#[10]⟩ 0 k' (rest.extract (i + 1) rest.size)) := by
        unfold Hid; rw [HP.out, Lib.splitB_hit _ _ _ _ _ hi]; simp; rfl
      rw [show Lib.index rest.data.toList (ByteArray.mk #[10]).data.toList = (i : Int) from hi] at CI
      obtain ⟨fn, tmps, assign, body, hy, hR⟩ := hY'.out pre (rest.extract 0 i) wr HJ.out (by rw [hpt.out]; exact List.prefix_append _ _)
      have HR := Lib.hid hR
      have hes : (rest.extract (i + 1) rest.size).size = rest.size - (i + 1) := by rw [ByteArray.size_extract]; omega
      have HES := Lib.hid hes
      clear hR hi HP hes hil
      gi_wp2_with (refine ⟨trivial, ?_⟩; gi_at_call 123; refine (callsIn_wide.2 CI).mono ?_; rintro e w' ⟨rfl, rfl⟩)
      refine HR.out.mono ?_
      rintro e W3 (⟨rfl, hJ3, hk3⟩ | ⟨rfl, hJ3, -⟩)
      · have H3 := Lib.hid hJ3
        have HC3 := Lib.hid (HC.out.stay hk3 q1 q2 q3)
        have HE3 := Lib.hid (HE.out.stay hk3)
        have hc3 := HC3.out
        obtain ⟨d1, d2, df, d3⟩ := hc3
        have HD2 := Lib.hid d2
        have HC2 := Lib.hid c2
        clear hJ3 hk3 c1 c2 f2 c3
        gi_wp2
        have hsame := World.cell?_setCell_same' W3 ⟨b2, 0, none⟩ (Value.string (rest.extract (i + 1) rest.size)) (by rw [HD2.out]; rfl)
        refine ⟨⟨_, k', _, hpt, by rw [HES.out]; omega, by rw [HES.out]; omega, hJ'.out _ _ _ (some b2) H3.out (grownBy_setCell' W3 b2 _) (fun r e => by cases e; exact q2), ⟨?_, hsame, by rw [World.frozen?_setCell]; exact df, ?_⟩, ?_⟩, ?_⟩
        · rw [World.cell?_setCell_other _ _ _ _ (fun e => h12 (congrArg Addr.block e).symm)]; exact d1
        · rw [World.cell?_setCell_other _ _ _ _ (fun e => h32 (congrArg Addr.block e).symm)]; exact d3
        · refine HE3.out.stay (Q := fun _ => False) (fun k hk => ?_)
          rcases hk with hk | hk
          · exact (grownBy_setCell' W3 b2 _).block k (by have := HE3.out.size; omega) (fun e => by cases e; omega)
          · exact hk.elim
        · rw [leftS_eq hsame, leftS_eq HC2.out, HES.out]; omega
      · have H3 := Lib.hid hJ3
        clear hJ3 c1 c2 f2 c3
        gi_wp2
        refine bodyPost_ret (results_none rfl _ _ _) rfl ?_
        exact ⟨⟨_, rfl⟩, .inr ⟨pre ++ [rest.extract 0 i], by rw [hpt.out]; exact List.prefix_append _ _, H3.out⟩⟩
end Go.Proofs.YtmfhpddeclggfaaGreatDoor
namespace Go.Proofs.YtmfhpddeclggfaaGreatDoor
open Go.RowKit Go.Shelf
attribute [local go_sem] Oper.semAt_some
theorem roundIn_any {m m' l' : Nat} {P : Program} {l : Nat} {f : FuncId} {tmps : Array Value} {assign body : Code} {w : World} {R : Ending → World → Prop}
    (h : RoundIn Fence.wide m P l f tmps assign body w R) : RoundIn (Fence.wide.inRound l') m' P l f tmps assign body w R := ⟨h.1, fun c cs _ => h.2 c cs (room_wide _)⟩
set_option maxHeartbeats 400000 in
theorem splitSeq0 (s sep : ByteArray) (w : World) : Calls Tryz.prog 165 #[.string s, .string sep, .int .i64 0] w fun e w' =>
    e = .returned (.func (.func 182) #[] #[.pointer (some ⟨w.heap.size + 1, 0, none⟩), .pointer (some ⟨w.heap.size, 0, none⟩), .pointer (some ⟨w.heap.size + 2, 0, none⟩)]) ∧ w' = ((w.alloc (.cells #[.string s] 9)).alloc (.cells #[.string sep] 9)).alloc (.cells #[.int .i64 0] 3) := by
  go_enter Tryz.func165, Tryz.ntmps165
  go_wp2_with fail
  go_ret
  exact ⟨rfl, rfl⟩
set_option maxHeartbeats 400000 in
theorem SplitSeq0 (s sep : ByteArray) (w : World) : Calls Tryz.prog 134 #[.string s, .string sep] w fun e w' =>
    e = .returned (.func (.func 182) #[] #[.pointer (some ⟨w.heap.size + 1, 0, none⟩), .pointer (some ⟨w.heap.size, 0, none⟩), .pointer (some ⟨w.heap.size + 2, 0, none⟩)]) ∧ w' = ((w.alloc (.cells #[.string s] 9)).alloc (.cells #[.string sep] 9)).alloc (.cells #[.int .i64 0] 3) := by
  go_enter Tryz.func134, Tryz.ntmps134
  go_wp2_with (go_at_call 165; refine (splitSeq0 _ _ _).mono ?_; rintro e w' ⟨rfl, rfl⟩)
  go_ret
  exact ⟨rfl, rfl⟩
set_option maxHeartbeats 400000 in
theorem pieces0 (s : ByteArray) (w : World) : Calls Tryz.prog 97 #[.string s] w fun e w' =>
    e = .returned (.func (.func 133) #[] #[.pointer (some ⟨w.heap.size, 0, none⟩)]) ∧ w' = w.alloc (.cells #[.string s] 9) := by
  go_enter Tryz.func97, Tryz.ntmps97
  go_wp2_with fail
  go_ret
  exact ⟨rfl, rfl⟩
/-- The pieces of a text. -/
def full (p : ByteArray) : Bool := !p.toList.isEmpty
def partsN (s : ByteArray) : List ByteArray := (partsF s).filter full
theorem SpC.below {W W' : World} {B b1 b2 b3 : Nat} {s : ByteArray} (h : SpC W b1 b2 b3 s) (hb : Below B W W') (q1 : b1 < B) (q2 : b2 < B) (q3 : b3 < B) : SpC W' b1 b2 b3 s :=
  ⟨(hb.cell (p := ⟨b1, 0, none⟩) q1).trans h.c1, (hb.cell (p := ⟨b2, 0, none⟩) q2).trans h.c2, (hb.frozen (p := ⟨b2, 0, none⟩) q2).trans h.f2, (hb.cell (p := ⟨b3, 0, none⟩) q3).trans h.c3⟩
theorem four_w (w : World) (v : Value) (s : ByteArray) : ∃ Wl, (((w.alloc (.cells #[v] 34)).alloc (.cells #[.string s] 9)).alloc (.cells #[.string ⟨#[10]⟩] 9)).alloc (.cells #[.int .i64 0] 3) = Wl ∧ Wl.heap.size = w.heap.size + 4 ∧ Below w.heap.size w Wl ∧
    SpC Wl (w.heap.size + 1 + 1) (w.heap.size + 1) (w.heap.size + 1 + 2) s ∧ Wl.cell? ⟨w.heap.size, 0, none⟩ = some v := by
  refine ⟨_, rfl, by simp, (((below_alloc1 w _).alloc (by simp) _).alloc (by simp; omega) _).alloc (by simp; omega) _, ⟨?_, ?_, ?_, ?_⟩, ?_⟩ <;> go_simp
set_option maxRecDepth 100000 in
set_option maxHeartbeats 4000000 in
theorem pieces1 (n : Nat) (hn : 2 ≤ n) (bp : Nat) (s : ByteArray) (hs : s.size ≤ 1000000) (W0 : World) (he : Env W0) (hc : W0.cell? ⟨bp, 0, none⟩ = some (.string s)) (hbp : bp < W0.heap.size) :
    HandsN Fence.wide n Tryz.prog 133 #[.pointer (some ⟨bp, 0, none⟩)] Value.string (partsN s) W0 := by
  intro l J Jx hJ hJx hY h0
  have hJ' := Lib.hid hJ
  have hJx' := Lib.hid hJx
  have hY' := Lib.hid hY
  have H0 := Lib.hid h0
  clear hJ hJx hY h0
  refine callsIn_of_wp_marks Tryz.func133 rfl trivial ?_ rfl
  simp only [Tryz.ntmps133, List.size_toArray, List.length_cons, List.length_nil, Nat.reduceAdd, Nat.reduceSub, Array.replicate_succ, Array.replicate_zero, List.push_toArray, List.append_toArray, List.nil_append, List.cons_append]
  have hn1 : 1 ≤ n := by omega
  have HE := Lib.hid he
  have CS := fun W => SplitSeq0 s ⟨#[10]⟩ W
  clear he
  gi_wp2_with (refine ⟨trivial, ?_⟩; gi_at_call 134; refine (callsIn_wide.2 (CS _)).mono ?_; rintro e w' ⟨rfl, rfl⟩)
  obtain ⟨Wl, hWl, hsz, hby, hsp, hyb⟩ := four_w W0 (.func (.yield l) #[] #[]) s
  have h8 := HE.out.size
  rw [hWl]
  clear hWl CS
  refine wpIn_range_Q rfl (by omega) hn1 (gf := 182) (lb := #[.pointer (some ⟨W0.heap.size + 1 + 1, 0, none⟩), .pointer (some ⟨W0.heap.size + 1, 0, none⟩), .pointer (some ⟨W0.heap.size + 1 + 2, 0, none⟩)]) rfl trivial (enters_of Tryz.func182 (by kernel_rfl) rfl)
    (enc := Value.string) (Pv := fun k => W0.heap.size + 1 ≤ k ∧ k < W0.heap.size + 4) (fun k hk => by omega) (xs := partsF s)
    (fun W hb => splitSeq1 (n - 1) (by omega) _ _ _ _ (by omega) (by omega) (by omega) (by omega) (by omega) (by omega) s hs W (HE.out.next (hby.trans (hb.mono (by omega)))) ?_) rfl
    (fun k => W0.heap.size + 1 ≤ k ∧ k < W0.heap.size + 6) (fun k => by omega)
    (fun pre W => J (W0.heap.size + 6) (pre.filter full) W ∧ W.cell? ⟨W0.heap.size, 0, none⟩ = some (.func (.yield l) #[] #[])) (fun pre W => Jx (W0.heap.size + 6) (pre.filter full) W) ?_ ?_ ?_
    (fun x => { tmps := #[Value.func (Fn.yield l) #[] #[], Value.pointer (some { block := bp, off := 0 }), Value.pointer (some { block := W0.heap.size, off := 0 }), Value.string x, Value.string s,
          Value.func (Fn.func 182) #[]
            #[Value.pointer (some { block := W0.heap.size + 1 + 1, off := 0 }),
              Value.pointer (some { block := W0.heap.size + 1, off := 0 }),
              Value.pointer (some { block := W0.heap.size + 1 + 2, off := 0 })],
          Value.string x, undef, undef, undef, undef, undef, undef, undef, undef], defers := [] }) ?assign ?body ?done ?stop
  · exact hsp.below hb (by omega) (by omega) (by omega)
  · exact fun p A B row hs hg hr => ⟨(hJ'.out _).mono (fun k hk => ⟨by omega, hk.2⟩) _ A B row hs.1 hg hr, hg.cell hs.2 (fun e => by have := hr _ e.symm; simp at this; omega)⟩
  · exact fun p A B row hs hg hr => (hJx'.out _).mono (fun k hk => ⟨by omega, hk.2⟩) _ A B row hs hg hr
  · exact fun W hb hs1 => ⟨H0.out _ W (hby.trans (hb.mono (by omega))) (by omega) (by omega), (hb.cell (p := ⟨W0.heap.size, 0, none⟩) (by show W0.heap.size < _; omega)).trans hyb⟩
  case assign =>
    intro l2 x W K hK
    gi_wp2
    exact hK
  case body =>
    rintro l2 pre x W ⟨hJp, hcy⟩ hpre
    have HJp := Lib.hid hJp
    have hpf : (pre ++ [x]).filter full <+: partsN s := hpre.filter full
    rw [List.filter_append] at hpf
    clear hJp hpre
    cases hx : full x with
    | false =>
      have hx' : x.toList = [] := by simpa [full] using hx
      have hx2 : (!x.toList.isEmpty) = false := hx
      have HX := Lib.hid hx
      clear hx
      gi_wp2
      all_goals (refine ⟨fun _ h => (by cases h), ?_⟩; gi_wp2)
      all_goals exact ⟨fun _ _ => rfl, by rw [List.filter_append, List.filter_cons, if_neg (by rw [HX.out]; decide), List.filter_nil, List.append_nil]; exact HJp.out, hcy⟩
    | true =>
      have hx' : ¬ x.toList = [] := by simpa [full] using hx
      have hx2 : (!x.toList.isEmpty) = true := hx
      obtain ⟨fn, tmps, assign, body, hy, hR⟩ := hY'.out (W0.heap.size + 6) (pre.filter full) x W (by omega) HJp.out (by rw [List.filter_cons, if_pos hx, List.filter_nil] at hpf; exact hpf)
      have HR := Lib.hid (roundIn_any (m' := n - 1 - 1 - 1) (l' := l2) hR)
      have HX := Lib.hid hx
      have HF : Hid ((pre ++ [x]).filter full = pre.filter full ++ [x]) := by unfold Hid; rw [List.filter_append, List.filter_cons, if_pos hx, List.filter_nil]
      clear hx hR hpf
      gi_wp2
      refine ⟨fun h => by simp [Fence.wide] at h, HR.out.mono ?_⟩
      rintro e W3 (⟨rfl, hJ3, hk3⟩ | ⟨rfl, hJ3, hk3⟩)
      · have H3 := Lib.hid hJ3
        have HK3 := Lib.hid hk3
        have hcy3 := (World.cell?_of_block (a := ⟨W0.heap.size, 0, none⟩) (hk3 W0.heap.size (.inr ⟨Nat.le_refl _, by omega⟩))).trans hcy
        clear hJ3 hk3
        gi_wp2
        exact ⟨HK3.out.mono (Ev.mono fun k hk => ⟨by omega, hk.2⟩), by rw [HF.out]; exact H3.out, hcy3⟩
      · have H3 := Lib.hid hJ3
        have HK3 := Lib.hid hk3
        clear hJ3 hk3
        gi_wp2
        exact ⟨HK3.out.mono (Ev.mono fun k hk => ⟨by omega, hk.2⟩), by show Jx _ ((pre ++ [x]).filter full) _; rw [HF.out]; exact H3.out⟩
  case done =>
    rintro W ⟨hi, -⟩ hK
    have HI := Lib.hid hi
    have HK := Lib.hid hK
    clear hi hK
    gi_wp2
    refine ⟨by simp, .inl ⟨_, _, rfl, run_takeDeferred HK.out, ?_⟩⟩
    refine ⟨_, results_none rfl _ _ _, ⟨_, rfl⟩, W0.heap.size + 6, by omega, .inl ?_⟩
    exact (hJ'.out _).put HI.out (by omega) _
  case stop =>
    rintro pre W hp hi hK
    have HI := Lib.hid hi
    have HK := Lib.hid hK
    clear hi hK
    gi_wp2
    refine ⟨by simp, .inl ⟨_, _, rfl, run_takeDeferred HK.out, ?_⟩⟩
    refine ⟨_, results_none rfl _ _ _, ⟨_, rfl⟩, W0.heap.size + 6, by omega, .inr ⟨_, hp.filter full, ?_⟩⟩
    exact (hJx'.out _).put HI.out (by omega) _
end Go.Proofs.YtmfhpddeclggfaaGreatDoor
namespace Go.Proofs.YtmfhpddeclggfaaGreatDoor
open Go.RowKit Go.Shelf
attribute [local go_sem] Oper.semAt_some
/-- A piece that speaks of a number. -/
structure Sc where
  n : Int
  t : ByteArray
  b : Bool
/-- The cells of scraps. -/
def flatSc : List Sc → List Value
  | [] => []
  | s :: l => .int .i64 s.n :: .string s.t :: .bool s.b :: flatSc l
theorem flatSc_app (l m : List Sc) : flatSc (l ++ m) = flatSc l ++ flatSc m := by
  induction l with
  | nil => rfl
  | cons p l ih => simp [flatSc, ih]
theorem flatSc_one : ∀ {l : List Sc}, ∀ u ∈ flatSc l, u.oneCell' = true
  | [], u, h => by simp [flatSc] at h
  | p :: l, u, h => by
    simp only [flatSc, List.mem_cons] at h
    rcases h with rfl | rfl | rfl | h
    · rfl
    · rfl
    · rfl
    · exact flatSc_one u h
theorem flatSc_get : ∀ {l : List Sc} {j : Nat} {q : Sc}, l[j]? = some q → (flatSc l)[j * 3]? = some (.int .i64 q.n) ∧ (flatSc l)[j * 3 + 1]? = some (.string q.t) ∧ (flatSc l)[j * 3 + 2]? = some (.bool q.b)
  | [], _, _, h => by simp at h
  | p :: l, 0, q, h => by
    obtain rfl : p = q := by simpa using h
    exact ⟨rfl, rfl, rfl⟩
  | p :: l, j + 1, q, h => by
    have ih := flatSc_get (l := l) (j := j) (q := q) (by simpa using h)
    rw [show (j + 1) * 3 = j * 3 + 1 + 1 + 1 from by omega]
    simpa [flatSc] using ih
def sc1 (p : ByteArray) : Option Sc := match spk p.data.toList with
  | some n => some ⟨n, p, readErr p == 0⟩
  | none => none
/-- The scraps of a copy. -/
def scL (s : ByteArray) : List Sc := (partsN s).filterMap sc1
def ScP (w : World) (ss : List Sc) (e : Ending) (w' : World) : Prop := Below w.heap.size w w' ∧ ∃ v, e = .returned v ∧ w'.ownsRow w.heap.size 224 3 v ss.length (flatSc ss)
theorem inf224 : (Tryz.prog.info? 224).map (fun i => (i.zero, i.size, i.bytes)) = some (some (.agg #[.int .i64 0, .string ⟨#[]⟩, .bool false]), 3, 32) := by kernel_rfl
theorem partsN_size {s x : ByteArray} (h : x ∈ partsN s) : x.size ≤ s.size := splitB_size _ _ _ _ x ((List.mem_filter.1 h).1)
theorem boxed_below {W W' : World} {B C : Nat} {t : TypeId} {v : Value} (h : Boxed W B t v) (hb : Below C W W') (hc : B < C) : Boxed W' B t v := (hb.block B hc).trans h
theorem stay_below {W W' : World} {Q : Nat → Prop} (hb : Below W.heap.size W W') (hQ : ∀ k, Q k → k < W.heap.size) (h8 : 8 ≤ W.heap.size) : Stay (Ev Q) W W' :=
  fun k hk => hb.block k (hk.elim (fun h => by omega) (hQ k))
theorem ownsRow_keep {W W' : World} {B : Nat} {e : TypeId} {k n : Nat} {v : Value} {xs : List Value} (h : W.ownsRow B e k v n xs) (hb : Below W.heap.size W W') : W'.ownsRow B e k v n xs := by
  obtain ⟨h1, h2 | ⟨g, cap, cur, rfl, hg, hc, h3, h4, h5, h6⟩⟩ := h
  · exact ⟨h1, .inl h2⟩
  · exact ⟨h1, .inr ⟨g, cap, cur, rfl, hg, by rw [hb.block g (Array.getElem?_eq_some_iff.1 hc).1]; exact hc, h3, h4, h5, h6⟩⟩
theorem ownsRow_base {W : World} {B C : Nat} {e : TypeId} {k n : Nat} {v : Value} {xs : List Value} (h : W.ownsRow B e k v n xs) (hb : C ≤ B) : W.ownsRow C e k v n xs := by
  obtain ⟨h1, h2 | ⟨g, cap, cur, rfl, hg, hc⟩⟩ := h
  · exact ⟨h1, .inl h2⟩
  · exact ⟨h1, .inr ⟨g, cap, cur, rfl, Nat.le_trans hb hg, hc⟩⟩
/-- What reading leaves, without what it reads. -/
theorem rd_any {w : World} {N : Int} {ws : List ByteArray} {err : Int} {e : Ending} {w' : World} (h : RdP w N ws err e w') : Below w.heap.size w w' ∧ ∃ (n : Int) (p : Option Addr) (k cap : Nat), e = .returned (.tuple #[.agg #[.int .i64 n, .slice p k cap], .int .i64 err]) := by
  obtain ⟨hb, ⟨_, rfl⟩ | ⟨rfl, p, cap, rfl, _⟩⟩ := h
  · exact ⟨hb, 0, none, 0, 0, rfl⟩
  · exact ⟨hb, N, p, _, cap, rfl⟩
theorem sc_new (W : World) (b : Nat) (s : Sc) (hb : W.heap.size = b) : ∀ j u, (flatSc [s])[j]? = some u → (W.alloc (.cells #[.int .i64 s.n, .string s.t, .bool s.b] 224)).cell? ((⟨b, 0, none⟩ : Addr).add j) = some u := by
  subst hb
  intro j u hu
  have := cells_new W #[.int .i64 s.n, .string s.t, .bool s.b] 224 j u hu
  exact this
set_option maxRecDepth 100000 in
set_option maxHeartbeats 4000000 in
theorem scraps0 (s : ByteArray) (w : World) (hs : s.size ≤ 1000000) (he : Env w) : Calls Tryz.prog 139 #[.string s] w (ScP w (scL s)) := by
  refine (callsIn_wide (n := 9)).1 ?_
  refine callsIn_of_wp_marks Tryz.func139 rfl trivial ?_ rfl
  simp only [Tryz.ntmps139, List.size_toArray, List.length_cons, List.length_nil, Nat.reduceAdd, Nat.reduceSub, Array.replicate_succ, Array.replicate_zero, List.push_toArray, List.append_toArray, List.nil_append, List.cons_append]
  have HE := Lib.hid he
  have h8 := he.size
  have HS := Lib.hid hs
  clear he hs
  gi_wp2_with (refine ⟨trivial, ?_⟩; gi_at_call 97; refine (callsIn_wide.2 (pieces0 s _)).mono ?_; rintro e w' ⟨rfl, rfl⟩)
  obtain ⟨Wl, hWl⟩ : ∃ Wl, (w.alloc (.cells #[.slice none 0 0] 179)).alloc (.cells #[.string s] 9) = Wl := ⟨_, rfl⟩
  have hsz : Wl.heap.size = w.heap.size + 2 := by rw [← hWl]; simp
  have hby : Below w.heap.size w Wl := by rw [← hWl]; exact (below_alloc1 w _).alloc (by simp) _
  have hbx : Boxed Wl w.heap.size 179 (.slice none 0 0) := by rw [← hWl]; exact (Boxed.new w 179 _).alloc _
  have hcs : Wl.cell? ⟨w.heap.size + 1, 0, none⟩ = some (.string s) := by
    have := Boxed.cell (Boxed.new (w.alloc (.cells #[.slice none 0 0] 179)) 9 (.string s))
    rw [World.size_alloc] at this
    rw [← hWl]; exact this
  rw [hWl]
  clear hWl
  refine wpIn_range_N rfl (by omega) (by decide) (gf := 133) (lb := #[.pointer (some ⟨w.heap.size + 1, 0, none⟩)]) rfl trivial (enters_of Tryz.func133 (by kernel_rfl) rfl)
    (enc := Value.string) (xs := partsN s) (fun W hb => pieces1 8 (by decide) (w.heap.size + 1) s HS.out W (HE.out.next (hby.trans (hb.mono (by omega)))) ((hb.cell (p := ⟨w.heap.size + 1, 0, none⟩) (by show w.heap.size + 1 < _; omega)).trans hcs) (by have := hb.size; omega)) rfl
    (fun N pre W => (∃ v, Boxed W w.heap.size 179 v ∧ W.ownsRow N 224 3 v (pre.filterMap sc1).length (flatSc (pre.filterMap sc1))) ∧ Below w.heap.size w W ∧ N ≤ W.heap.size) (fun _ _ _ => False) ?_ (fun _ _ _ _ _ h => h.elim) ?_
    (fun x => { tmps := #[Value.string s, undef, Value.slice none 0 0, Value.pointer (some { block := w.heap.size, off := 0 }), Value.string x,
          undef, undef, undef, undef, Value.string s,
          Value.func (Fn.func 133) #[] #[Value.pointer (some { block := w.heap.size + 1, off := 0 })], Value.string x, undef,
          undef, undef, undef, undef, undef, undef, undef, undef, undef, undef, undef, undef, undef, undef, undef,
          undef, undef, undef, undef], defers := [] }) ?assign ?body ?done (fun _ _ _ _ _ h => h.elim)
  · rintro N p A B row ⟨⟨v, hv, hr⟩, hb, hNs⟩ hg hrow
    refine ⟨⟨v, hv.kept hg (fun e => by have := hrow _ e.symm; omega), hr.kept hg ?_⟩, hb.grown hg (by have := hb.size; omega) (fun k e => by have := hrow _ e; omega), Nat.le_trans hNs hg.size⟩
    cases hvb : v.ownBlock with
    | none => exact .inl rfl
    | some g => exact .inr (fun e => by have h1 := (hr.lt g hvb).1; have h2 := hrow g e.symm; omega)
  · intro N W hb _ hNs
    exact ⟨⟨_, boxed_below hbx hb (by omega), World.ownsRow_nil _ _ _ _⟩, hby.trans (hb.mono (by omega)), hNs⟩
  case assign =>
    intro l2 x W K hK
    gi_wp2
    exact hK
  case body =>
    rintro l2 N pre x W hN ⟨⟨v, hv, hr⟩, hb, hNs⟩ hpre
    have hxs : x.size ≤ 1000000 := Nat.le_trans (partsN_size (hpre.subset (by simp))) HS.out
    have CS := sSpeaks x W hxs (HE.out.next hb)
    have HV := Lib.hid hv
    have HR := Lib.hid hr
    have HB := Lib.hid hb
    have HP := Lib.hid hpre
    clear hv hr hb hpre
    cases ho : spk x.data.toList with
    | none =>
      rw [ho] at CS
      simp only [spRes, Option.getD_none, Option.isSome_none] at CS
      have HF : Hid ((pre ++ [x]).filterMap sc1 = pre.filterMap sc1) := by unfold Hid; rw [List.filterMap_append]; simp [sc1, ho]
      clear ho
      gi_wp2_with (refine ⟨trivial, ?_⟩; gi_at_call 42; refine (CallsIn.inRound l2 (callsIn_wide.2 CS)).mono ?_; rintro e w1 ⟨rfl, hb1⟩; have HB1 := Lib.hid hb1; clear hb1 CS)
      have hbW := HB.out.size
      exact ⟨stay_below HB1.out (fun k hk => by omega) (by omega), ⟨v, boxed_below HV.out HB1.out (by omega), by rw [HF.out]; exact ownsRow_keep HR.out HB1.out⟩, HB.out.trans (HB1.out.mono hbW), Nat.le_trans hNs HB1.out.size⟩
    | some nn =>
      rw [ho] at CS
      simp only [spRes, Option.getD_some, Option.isSome_some] at CS
      obtain ⟨er, her⟩ : ∃ er, readErr x = er := ⟨_, rfl⟩
      have HF : Hid ((pre ++ [x]).filterMap sc1 = pre.filterMap sc1 ++ [⟨nn, x, er == 0⟩]) := by unfold Hid; rw [List.filterMap_append]; simp [sc1, ho, her]
      have CR : ∀ W2, Below w.heap.size w W2 → Calls Tryz.prog 33 #[.string x] W2 fun e w' => Below W2.heap.size W2 w' ∧ ∃ (n : Int) (p : Option Addr) (k cap : Nat), e = .returned (.tuple #[.agg #[.int .i64 n, .slice p k cap], .int .i64 er]) := by
        intro W2 hb2
        have := sRead x W2 hxs (HE.out.next hb2)
        rw [her] at this
        exact this.mono fun _ _ h => rd_any h
      have HCR := Lib.hid CR
      have hWlt : w.heap.size < W.heap.size := HV.out.lt
      have HNR : Hid (some w.heap.size ≠ v.ownBlock) := HV.out.not_row (by decide) HR.out
      obtain ⟨i0, hi, hz0, hz1, hz2⟩ := info_parts inf224
      have hlen : (pre.filterMap sc1).length ≤ 1000001 := by
        have h1 := List.length_filterMap_le sc1 pre
        have h2 := HP.out.length_le
        have h3 : (partsN s).length ≤ (partsF s).length := List.length_filter_le _ _
        have h4 := Lib.splitB_length_le ⟨#[10]⟩ 0 s.size s
        have h5 := HS.out
        unfold partsF at h3
        rw [List.length_append] at h2
        omega
      have HLm : Hid ((pre.filterMap sc1).length + 1 ≤ maxLen) := by unfold Hid maxLen; omega
      have HLb : Hid (((pre.filterMap sc1).length + 1) * 32 ≤ 140737488355328) := by unfold Hid; omega
      clear hlen
      clear ho her CR
      gi_wp2_with (first
        | (refine ⟨trivial, ?_⟩; gi_at_call 42; refine (CallsIn.inRound l2 (callsIn_wide.2 CS)).mono ?_; rintro e w1 ⟨rfl, hb1⟩; have HB1 := Lib.hid hb1; clear hb1 CS)
        | (refine ⟨trivial, ?_⟩; gi_at_call 33; refine (CallsIn.inRound l2 (callsIn_wide.2 (HCR.out _ (HB.out.trans (HB1.out.mono HB.out.size))))).mono ?_; rintro e w2 ⟨hb2, n', p', k', cap', rfl⟩; have HB2 := Lib.hid hb2; have HV2 := fun o => Lib.hid ((boxed_below (boxed_below HV.out HB1.out hWlt) hb2 (Nat.lt_of_lt_of_le hWlt HB1.out.size)).alloc o); have HR2 := fun o => Lib.hid ((ownsRow_keep (ownsRow_keep HR.out HB1.out) hb2).alloc o); have hc2 := fun o => (HV2 o).out.cell; have hf2 := fun o => (HV2 o).out.frozen; clear hb2)
        | (gi_at_builtin; refine (fun (h : Hid ((42 : Nat) = 42) → _) => h rfl) ?_))
      all_goals intro _
      refine wpListIn_append_own _ rfl (.tmp 23) (.tmp 29) 179 rfl N 224 i0 (.agg #[.int .i64 0, .string ⟨#[]⟩, .bool false]) 3 32 Tryz.underlying179 hi hz0 hz1 hz2 ?a1 ?a2 v (pre.filterMap sc1).length (flatSc (pre.filterMap sc1)) ?a3 ?a4 ⟨w2.heap.size + 1, 0, none⟩ 1 1 (flatSc [⟨nn, x, er == 0⟩]) ?a5 ?a6 ?a7 flatSc_one ?a8 ?a9 ?a10 ?a11
      case a1 => rfl
      case a2 => decide
      case a3 => rfl
      case a4 => exact (HR2 _).out.alloc _
      case a5 => rfl
      case a6 => rfl
      case a7 => exact sc_new _ _ ⟨nn, x, er == 0⟩ (by simp)
      case a8 => exact HLm.out
      case a9 => exact HLb.out
      case a10 => (have h1 := HB1.out.size; have h2 := HB2.out.size; simp only [World.size_alloc]; omega)
      case a11 =>
        intro v' w4 hown' hgrow _
        obtain ⟨g', cap', rfl⟩ := ownsRow_succ hown'
        have HV4 := Lib.hid (((HV2 _).out.alloc _).kept hgrow HNR.out)
        have hc4 := HV4.out.cell
        have hf4 := HV4.out.frozen
        have HO := Lib.hid hown'
        have HG := Lib.hid hgrow
        clear hown' hgrow
        gi_wp2
        have s1 := HB1.out.size
        have s2 := HB2.out.size
        have s0 := HB.out.size
        have s4 := HG.out.size
        simp only [World.size_alloc] at s4
        have hal : ∀ (a b : Obj) k, k < w2.heap.size → ((w2.alloc a).alloc b).heap[k]? = w2.heap[k]? := fun a b k hk => (Below.heap_alloc _ _ k (by rw [World.size_alloc]; omega)).trans (Below.heap_alloc _ _ k hk)
        have hlt : ∀ g, v.ownBlock = some g → N ≤ g := fun g hg => (HR.out.lt g hg).1
        refine ⟨fun k hk => ?_, ⟨_, HV4.out.set _, ?_⟩, ?_, ?_⟩
        · have hkN : k < N := by rcases hk with h | h <;> omega
          have hkw : k ≠ w.heap.size := by rcases hk with h | h <;> omega
          refine ((grownBy_setCell' w4 w.heap.size _).block k (by omega) (fun e => hkw (Option.some.inj e))).trans ?_
          refine (HG.out.block k (by simp only [World.size_alloc]; omega) (fun e => by have := hlt k e.symm; omega)).trans ?_
          exact (hal _ _ k (by omega)).trans ((HB2.out.block k (by omega)).trans (HB1.out.block k (by omega)))
        · rw [HF.out, List.length_append, flatSc_app]
          exact HO.out.kept (grownBy_setCell' w4 w.heap.size _) (.inr (HV4.out.not_row (by decide) HO.out).symm)
        · have b2 : Below w.heap.size w w2 := (HB.out.trans (HB1.out.mono s0)).trans (HB2.out.mono (by omega))
          refine (((b2.alloc (by omega) _).alloc (by simp only [World.size_alloc]; omega) _).grown HG.out (by simp only [World.size_alloc]; omega) (fun k e => by have := hlt k e; omega)).setCell (p := ⟨w.heap.size, 0, none⟩) (Nat.le_refl _) _
        · show N ≤ (w4.setCell _ _).heap.size
          simp only [World.size_setCell]
          omega
  case done =>
    rintro N W hN ⟨⟨v, hv, hr⟩, hb, hNs⟩ hK
    have hc := hv.cell
    have HR := Lib.hid hr
    have HB := Lib.hid hb
    have HK := Lib.hid hK
    have HV := Lib.hid hv
    clear hv hr hb hK
    gi_wp2
    refine ⟨by simp, .inl ⟨_, _, rfl, run_takeDeferred HK.out, ?_⟩⟩
    refine ⟨_, results_tmp rfl _ _ _, ?_, _, rfl, ?_⟩
    · exact HB.out.grown (grownBy_putObj' W _ _) HB.out.size (fun k e => by cases e; omega)
    · exact ownsRow_base (ownsRow_putObj HR.out _ HK.out rfl) (by omega)
end Go.Proofs.YtmfhpddeclggfaaGreatDoor
