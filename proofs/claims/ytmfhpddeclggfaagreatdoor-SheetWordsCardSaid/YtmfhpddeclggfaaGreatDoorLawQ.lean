import Derived.RangeFuncNested
import Derived.RangeFuncBound
import Derived.RangeFuncCalls
import Derived.RangeFuncLeaves
/- A range over a function whose iterator writes blocks of its own between two rounds (the captured string of strings.SplitSeq): what such an iterator's contract says, and the law of the loop. -/
namespace Go.Proofs.YtmfhpddeclggfaaGreatDoor
open Go Go.RowKit
/-- It abides new blocks, and the turn of a block of Q. -/
def Abd {β : Type} (Q : Nat → Prop) (J : β → World → Prop) : Prop :=
  ∀ s W W' row, J s W → W.grownBy W' row → (∀ r, row = some r → Q r) → J s W'
/-- The blocks of Q lie as they lay. -/
def Stay (Q : Nat → Prop) (W W' : World) : Prop := ∀ k, Q k → W'.heap[k]? = W.heap[k]?
/-- The blocks of the package's variables, and those of Q. -/
def Ev (Q : Nat → Prop) : Nat → Prop := fun k => k < 8 ∨ Q k
theorem Ev.mono {Q Q' : Nat → Prop} (h : ∀ k, Q k → Q' k) : ∀ k, Ev Q k → Ev Q' k := fun k hk => hk.imp id (h k)
theorem Stay.trans {Q : Nat → Prop} {A B C : World} (h : Stay Q A B) (k : Stay Q B C) : Stay Q A C := fun i hi => (k i hi).trans (h i hi)
theorem Stay.mono {Q Q' : Nat → Prop} {A B : World} (h : Stay Q A B) (hq : ∀ k, Q' k → Q k) : Stay Q' A B := fun i hi => h i (hq i hi)
theorem Abd.mono {β : Type} {Q Q' : Nat → Prop} {J : β → World → Prop} (h : Abd Q J) (hq : ∀ k, Q' k → Q k) : Abd Q' J := fun s W W' row hs hg hr => h s W W' row hs hg (fun r e => hq r (hr r e))
/-- What an iterator does that hands out the elements of xs, and writes the blocks of Q between two rounds: all have come, or it was stopped behind some. -/
def Hands {α : Type} (F : Fence) (n : Nat) (P : Program) (g : Nat) (lb : Array Value) (enc : α → Value) (Q : Nat → Prop) (xs : List α) (W : World) : Prop :=
  ∀ (l : Nat) (J Jx : List α → World → Prop), Abd Q J → Abd Q Jx →
    (∀ pre x W1, J pre W1 → pre ++ [x] <+: xs → YieldAt F (n - 1) P l #[enc x] W1 fun e W' =>
      (e = .returned (.bool true) ∧ J (pre ++ [x]) W' ∧ Stay (Ev Q) W1 W') ∨ (e = .returned (.bool false) ∧ Jx (pre ++ [x]) W' ∧ Stay (Ev Q) W1 W')) →
    J [] W →
    CallsIn F n P g (#[.func (.yield l) #[] #[]] ++ lb) W fun e W' => (∃ v, e = .returned v) ∧ (J xs W' ∨ ∃ pre, pre <+: xs ∧ Jx pre W')
/-- The same of an iterator that makes its blocks itself: they lie from where its call begins to some N. -/
def HandsN {α : Type} (F : Fence) (n : Nat) (P : Program) (g : Nat) (lb : Array Value) (enc : α → Value) (xs : List α) (W : World) : Prop :=
  ∀ (l : Nat) (J Jx : Nat → List α → World → Prop), (∀ N, Abd (fun k => W.heap.size ≤ k ∧ k < N) (J N)) → (∀ N, Abd (fun k => W.heap.size ≤ k ∧ k < N) (Jx N)) →
    (∀ N pre x W1, W.heap.size ≤ N → J N pre W1 → pre ++ [x] <+: xs → YieldAt F (n - 1) P l #[enc x] W1 fun e W' =>
      (e = .returned (.bool true) ∧ J N (pre ++ [x]) W' ∧ Stay (Ev fun k => W.heap.size ≤ k ∧ k < N) W1 W') ∨ (e = .returned (.bool false) ∧ Jx N (pre ++ [x]) W' ∧ Stay (Ev fun k => W.heap.size ≤ k ∧ k < N) W1 W')) →
    (∀ N W1, Below W.heap.size W W1 → W.heap.size ≤ N → N ≤ W1.heap.size → J N [] W1) →
    CallsIn F n P g (#[.func (.yield l) #[] #[]] ++ lb) W fun e W' => (∃ v, e = .returned v) ∧ ∃ N, W.heap.size ≤ N ∧ (J N xs W' ∨ ∃ pre, pre <+: xs ∧ Jx N pre W')
/-- The loop's record and the block for its deferred calls. -/
structure Held (l D : Nat) (r : Loop) (W : World) : Prop where
  rcd : W.heap[l]? = some (.loop r)
  mark : W.heap[D]? = some (.deferred (some []))
theorem Held.grown {l D : Nat} {r : Loop} {W W' : World} {row : Option Nat} (h : Held l D r W) (hg : W.grownBy W' row) (h1 : row ≠ some l) (h2 : row ≠ some D) : Held l D r W' :=
  ⟨(hg.block l (Array.getElem?_eq_some_iff.1 h.rcd).1 (fun e => h1 e.symm)).trans h.rcd, (hg.block D (Array.getElem?_eq_some_iff.1 h.mark).1 (fun e => h2 e.symm)).trans h.mark⟩
theorem Held.stay {l D : Nat} {r : Loop} {W W' : World} {Q : Nat → Prop} (h : Held l D r W) (hl : Ev Q l) (hD : Ev Q D) (hk : Stay (Ev Q) W W') : Held l D r W' := ⟨(hk l hl).trans h.rcd, (hk D hD).trans h.mark⟩
theorem Held.put {l D : Nat} {r : Loop} {W : World} (h : Held l D r W) (r' : Loop) (hne : l ≠ D) : Held l D r' (W.putObj l (.loop r')) :=
  ⟨World.putObj_heap_same (Array.getElem?_eq_some_iff.1 h.rcd).1, (World.putObj_heap_other (Ne.symm hne)).trans h.mark⟩
/-- How a round may end. -/
def After {α : Type} (Q : Nat → Prop) (I Ix : List α → World → Prop) (xs : List α) (W : World) : Exit → Act → World → Prop
  | .normal, _, W' => Stay (Ev Q) W W' ∧ I xs W'
  | .ret, _, W' => Stay (Ev Q) W W' ∧ Ix xs W'
  | _, _, _ => False
theorem Abd.put {β : Type} {Q : Nat → Prop} {J : β → World → Prop} (h : Abd Q J) {s : β} {l : Nat} {W : World} (hs : J s W) (hl : Q l) (o : Obj) : J s (W.putObj l o) :=
  h s W _ (some l) hs (grownBy_putObj' W l _) (fun k e => by cases e; exact hl)
theorem Abd.al {β : Type} {Q : Nat → Prop} {J : β → World → Prop} (h : Abd Q J) {s : β} {W : World} (hs : J s W) (o : Obj) : J s (W.alloc o) :=
  h s W _ none hs (World.grownBy_alloc W o none) (fun _ e => by cases e)
theorem stay_put {Q : Nat → Prop} {l : Nat} {W : World} (o : Obj) (hl : ¬ Q l) : Stay Q W (W.putObj l o) :=
  fun _ hk => World.putObj_heap_other (fun e => hl (e ▸ hk))
variable {F : Fence} {n : Nat} {P : Program}
/-- One round. -/
theorem round_Q {α : Type} {enc : α → Value} {l D : Nat} {r : Loop} (hst : r.state = .ready) (hpe : r.pending = none) (hps : r.params.size = 1) (hF : F.fn r.fn) {Q Pv : Nat → Prop} (h8 : 8 ≤ l) (hQl : Q l) (hQD : Q D) (hne : l ≠ D) (hPQ : ∀ k, Pv k → Q k) (hPl : ¬ Pv l) {I Ix : List α → World → Prop} (hI : Abd Q I) (hIx : Abd Q Ix) {pre : List α} {x : α} {W : World} (h : Held l D r W) (hi : I pre W) (a₁ : Act)
    (hassign : ∀ (K : Act → World → Prop), K a₁ W → r.assign.wpIn (F.inRound l) n P (Exit.then K (fun _ _ _ => False)) { tmps := (r.params.zip #[enc x]).foldl (fun t (p, v) => t.setIfInBounds p v) r.tmps, defers := [] } W)
    (hbody : ∀ W, I pre W → r.body.wpIn (F.inRound l) n P (After Q I Ix (pre ++ [x]) W) a₁ W) :
    YieldAt F n P l #[enc x] W fun e W' =>
      (e = .returned (.bool true) ∧ (I (pre ++ [x]) W' ∧ Held l D r W') ∧ Stay (Ev Pv) W W') ∨ (e = .returned (.bool false) ∧ (Ix (pre ++ [x]) W' ∧ Held l D { r with state := .done, pending := some .ret } W') ∧ Stay (Ev Pv) W W') := by
  refine ⟨r.fn, _, r.assign, r.body, run_yield h.rcd (by simp [hps]), roundIn_of_wpIn hF (hassign _ ⟨_, run_beginRound h.rcd hst, ?_⟩)⟩
  have hPe : ¬ Ev Pv l := fun h => h.elim (fun h => by omega) hPl
  have h2 := h.put { r with state := .busy } hne
  refine wpIn_mono (hbody _ (hI.put hi hQl _)) ?_
  rintro e a' W3 hp
  cases e with
  | normal =>
    obtain ⟨hk, hi3⟩ := hp
    have h3 := h2.stay (Or.inr hQl) (Or.inr hQD) hk
    refine ⟨_, _, run_endRound none h3.rcd, .inl ⟨rfl, ⟨hI.put hi3 hQl _, ?_⟩, ((stay_put _ hPe).trans (hk.mono (Ev.mono hPQ))).trans (stay_put _ hPe)⟩⟩
    have h4 := h3.put { r with state := .ready, pending := none } hne
    rw [show ({ r with state := .ready, pending := none } : Loop) = r by cases r; simp_all] at h4
    have e4 : ({ ({ r with state := .busy } : Loop) with state := if (none : Option Code).isNone then .ready else .done, pending := none } : Loop) = r := by cases r; simp_all
    rw [e4]
    exact h4
  | ret =>
    obtain ⟨hk, hi3⟩ := hp
    have h3 := h2.stay (Or.inr hQl) (Or.inr hQD) hk
    exact ⟨_, _, run_endRound (some .ret) h3.rcd, .inr ⟨rfl, ⟨hIx.put hi3 hQl _, h3.put _ hne⟩, ((stay_put _ hPe).trans (hk.mono (Ev.mono hPQ))).trans (stay_put _ hPe)⟩⟩
  | exit id => exact hp.elim
  | goto t => exact hp.elim
  | panic ch => exact hp.elim
  | outgrown => exact hp.elim
/-- The record that a loop lays. -/
theorem enter_held {fn : FuncId} {tmps : Array Value} {ps : Array Tmp} {assign body : Code} {w : World} : ∃ (r : Loop) (W1 : World), r = { state := .ready, pending := none, fn := fn, tmps := tmps, params := ps, assign := assign, body := body, defers := w.heap.size } ∧
    (Instr.enterLoop fn tmps ps assign body none).run P w = .ok (w.heap.size + 1, [{ target := .collected w.heap.size, args := #[] }]) W1 ∧ Held (w.heap.size + 1) w.heap.size r W1 ∧ W1.heap.size = w.heap.size + 1 + 1 ∧ Below w.heap.size w W1 := by
  refine ⟨_, (w.alloc (.deferred (some []))).alloc (.loop { state := .ready, pending := none, fn := fn, tmps := tmps, params := ps, assign := assign, body := body, defers := w.heap.size }), rfl, run_enterLoop_outer _ _ _ _ _, ⟨?_, (Below.heap_alloc _ _ _ (by simp)).trans (World.alloc_heap_new w _)⟩, by simp, ((Below.refl _ w).alloc (Nat.le_refl _) _).alloc (by simp) _⟩
  have := World.alloc_heap_new (w.alloc (.deferred (some []))) (.loop { state := .ready, pending := none, fn := fn, tmps := tmps, params := ps, assign := assign, body := body, defers := w.heap.size })
  rwa [World.size_alloc] at this
theorem abd_held {α : Type} {Q Q' : Nat → Prop} {J : List α → World → Prop} (hJ : Abd Q' J) {l D : Nat} {r : Loop} (hl : ¬ Q l) (hD : ¬ Q D) (hQ : ∀ k, Q k → Q' k) : Abd Q (fun pre W => J pre W ∧ Held l D r W) :=
  fun s A B row hs hg hr => ⟨hJ s A B row hs.1 hg (fun k e => hQ k (hr k e)), hs.2.grown hg (fun e => hl (hr _ e)) (fun e => hD (hr _ e))⟩
/-- The loop, over an iterator whose blocks lay there before. -/
theorem wpIn_range_Q {α : Type} {g : Operand} {ps : Array Tmp} {assign body : Code} {R : Exit → Act → World → Prop} {a : Act} {w : World}
    (hro : F.round = none) (h8 : 8 ≤ w.heap.size) (h1 : 1 ≤ n) {gf : Nat} {lb : Array Value} (hg : a.eval g = .func (.func gf) #[] lb) (hFg : F.fn gf) (eg : ∀ args w, (callFunc gf args).run P w = .ok (.enter gf args) w)
    {enc : α → Value} {Pv : Nat → Prop} (hPv : ∀ k, Pv k → k < w.heap.size) {xs : List α} (hseq : ∀ W, Below w.heap.size w W → Hands F (n - 1) P gf lb enc Pv xs W) (hps : ps.size = 1)
    (Q : Nat → Prop) (hQ : ∀ k, Q k ↔ Pv k ∨ k = w.heap.size ∨ k = w.heap.size + 1)
    (I Ix : List α → World → Prop) (hI : Abd Q I) (hIx : Abd Q Ix) (h0 : ∀ W, Below w.heap.size w W → W.heap.size = w.heap.size + 1 + 1 → I [] W) (a₁ : α → Act)
    (hassign : ∀ (l : Nat) (x : α) (W : World) (K : Act → World → Prop), K (a₁ x) W →
      assign.wpIn (F.inRound l) (n - 1 - 1) P (Exit.then K (fun _ _ _ => False)) { tmps := (ps.zip #[enc x]).foldl (fun t (p, v) => t.setIfInBounds p v) a.tmps, defers := [] } W)
    (hbody : ∀ (l : Nat) (pre : List α) (x : α) (W : World), I pre W → pre ++ [x] <+: xs → body.wpIn (F.inRound l) (n - 1 - 1) P (After Q I Ix (pre ++ [x]) W) (a₁ x) W)
    (hdone : ∀ (W : World), I xs W → W.heap[w.heap.size]? = some (.deferred (some [])) → R .normal { a with defers := { target := .collected w.heap.size, args := #[] } :: a.defers } W)
    (hstop : ∀ (pre : List α) (W : World), pre <+: xs → Ix pre W → W.heap[w.heap.size]? = some (.deferred (some [])) → Code.ret.wpIn F n P R { a with defers := { target := .collected w.heap.size, args := #[] } :: a.defers } W) :
    (Code.rangeFunc g ps assign body).wpIn F n P R a w := by
  refine wpIn_rangeFunc ?_
  intro fn hfn
  rw [hro]
  obtain ⟨r, W1, hr, hen, H1, hs1, b1⟩ := enter_held (P := P) (fn := fn) (tmps := a.tmps) (ps := ps) (assign := assign) (body := body) (w := w)
  have hnl : ¬ Pv (w.heap.size + 1) := fun h => by have := hPv _ h; omega
  have hnD : ¬ Pv w.heap.size := fun h => by have := hPv _ h; omega
  have hPQ : ∀ k, Pv k → Q k := fun k h => (hQ k).2 (.inl h)
  have hQl : Q (w.heap.size + 1) := (hQ _).2 (.inr (.inr rfl))
  have hQD : Q w.heap.size := (hQ _).2 (.inr (.inl rfl))
  refine ⟨w.heap.size + 1, _, W1, { target := .fn (.func gf) lb, args := #[.func (.yield (w.heap.size + 1)) #[] #[]] }, W1, gf, #[.func (.yield (w.heap.size + 1)) #[] #[]] ++ lb, W1, hen, ?_, ?_, ?_, fun _ => h1, ?_⟩
  · simp only [resolve, hg]; simp [go_sem]
  · intro f' hf'; simp [Target.leads] at hf'; subst hf'; exact hFg
  · simp [invoke, go_sem, eg]
  refine (hseq W1 b1 (w.heap.size + 1) _ _ (abd_held hI hnl hnD hPQ (r := r)) (abd_held hIx hnl hnD hPQ (r := { r with state := .done, pending := some .ret })) ?_ ⟨h0 _ b1 hs1, H1⟩).mono ?_
  · rintro pre x W ⟨hi, hH⟩ hlen
    refine round_Q (by rw [hr]) (by rw [hr]) (by rw [hr]; exact hps) (by rw [hr]; exact hfn) (by omega) hQl hQD (by omega) hPQ hnl hI hIx hH hi (a₁ x) ?_ ?_
    · intro K hK; rw [hr]; exact hassign _ x W K hK
    · intro W' hi'; rw [hr]; exact hbody _ pre x W' hi' hlen
  · rintro e W2 ⟨⟨v, rfl⟩, (⟨hi, hH⟩ | ⟨pre, hp, hi, hH⟩)⟩
    · exact ⟨none, _, by rw [run_endLoop hH.rcd (by rw [hr]; simp), hr], hdone _ (hI.put hi hQl _) (hH.put _ (by omega)).mark⟩
    · exact ⟨some .ret, _, run_endLoop hH.rcd (by simp), hstop pre _ hp (hIx.put hi hQl _) (hH.put _ (by omega)).mark⟩
/-- The loop, over an iterator that makes its blocks itself. -/
theorem wpIn_range_N {α : Type} {g : Operand} {ps : Array Tmp} {assign body : Code} {R : Exit → Act → World → Prop} {a : Act} {w : World}
    (hro : F.round = none) (h8 : 8 ≤ w.heap.size) (h1 : 1 ≤ n) {gf : Nat} {lb : Array Value} (hg : a.eval g = .func (.func gf) #[] lb) (hFg : F.fn gf) (eg : ∀ args w, (callFunc gf args).run P w = .ok (.enter gf args) w)
    {enc : α → Value} {xs : List α} (hseq : ∀ W, Below w.heap.size w W → HandsN F (n - 1) P gf lb enc xs W) (hps : ps.size = 1)
    (I Ix : Nat → List α → World → Prop) (hI : ∀ N, Abd (fun k => w.heap.size ≤ k ∧ k < N) (I N)) (hIx : ∀ N, Abd (fun k => w.heap.size ≤ k ∧ k < N) (Ix N)) (h0 : ∀ N W, Below w.heap.size w W → w.heap.size ≤ N → N ≤ W.heap.size → I N [] W) (a₁ : α → Act)
    (hassign : ∀ (l : Nat) (x : α) (W : World) (K : Act → World → Prop), K (a₁ x) W →
      assign.wpIn (F.inRound l) (n - 1 - 1) P (Exit.then K (fun _ _ _ => False)) { tmps := (ps.zip #[enc x]).foldl (fun t (p, v) => t.setIfInBounds p v) a.tmps, defers := [] } W)
    (hbody : ∀ (l N : Nat) (pre : List α) (x : α) (W : World), w.heap.size ≤ N → I N pre W → pre ++ [x] <+: xs → body.wpIn (F.inRound l) (n - 1 - 1) P (After (fun k => w.heap.size ≤ k ∧ k < N) (I N) (Ix N) (pre ++ [x]) W) (a₁ x) W)
    (hdone : ∀ (N : Nat) (W : World), w.heap.size ≤ N → I N xs W → W.heap[w.heap.size]? = some (.deferred (some [])) → R .normal { a with defers := { target := .collected w.heap.size, args := #[] } :: a.defers } W)
    (hstop : ∀ (N : Nat) (pre : List α) (W : World), w.heap.size ≤ N → pre <+: xs → Ix N pre W → W.heap[w.heap.size]? = some (.deferred (some [])) → Code.ret.wpIn F n P R { a with defers := { target := .collected w.heap.size, args := #[] } :: a.defers } W) :
    (Code.rangeFunc g ps assign body).wpIn F n P R a w := by
  refine wpIn_rangeFunc ?_
  intro fn hfn
  rw [hro]
  obtain ⟨r, W1, hr, hen, H1, hs1, b1⟩ := enter_held (P := P) (fn := fn) (tmps := a.tmps) (ps := ps) (assign := assign) (body := body) (w := w)
  refine ⟨w.heap.size + 1, _, W1, { target := .fn (.func gf) lb, args := #[.func (.yield (w.heap.size + 1)) #[] #[]] }, W1, gf, #[.func (.yield (w.heap.size + 1)) #[] #[]] ++ lb, W1, hen, ?_, ?_, ?_, fun _ => h1, ?_⟩
  · simp only [resolve, hg]; simp [go_sem]
  · intro f' hf'; simp [Target.leads] at hf'; subst hf'; exact hFg
  · simp [invoke, go_sem, eg]
  refine (hseq W1 b1 (w.heap.size + 1) (fun N pre W => I N pre W ∧ Held (w.heap.size + 1) w.heap.size r W) (fun N pre W => Ix N pre W ∧ Held (w.heap.size + 1) w.heap.size { r with state := .done, pending := some .ret } W)
    (fun N => abd_held (hI N) (fun h => by omega) (fun h => by omega) (fun k h => ⟨by omega, h.2⟩)) (fun N => abd_held (hIx N) (fun h => by omega) (fun h => by omega) (fun k h => ⟨by omega, h.2⟩)) ?_ ?_).mono ?_
  · rintro N pre x W hN ⟨hi, hH⟩ hlen
    refine round_Q (Q := fun k => w.heap.size ≤ k ∧ k < N) (by rw [hr]) (by rw [hr]) (by rw [hr]; exact hps) (by rw [hr]; exact hfn) (by omega) (by omega) (by omega) (by omega) (fun k h => ⟨by omega, h.2⟩) (fun h => by omega) (hI N) (hIx N) hH hi (a₁ x) ?_ ?_
    · intro K hK; rw [hr]; exact hassign _ x W K hK
    · intro W' hi'; rw [hr]; exact hbody _ N pre x W' (by omega) hi' hlen
  · intro N W hb hN hN2
    exact ⟨h0 N W (b1.trans (hb.mono (by omega))) (by omega) hN2, ⟨(hb.block _ (by omega)).trans H1.rcd, (hb.block _ (by omega)).trans H1.mark⟩⟩
  · rintro e W2 ⟨⟨v, rfl⟩, N, hN, (⟨hi, hH⟩ | ⟨pre, hp, hi, hH⟩)⟩
    · exact ⟨none, _, by rw [run_endLoop hH.rcd (by rw [hr]; simp), hr], hdone N _ (by omega) ((hI N).put hi ⟨by omega, by omega⟩ _) (hH.put _ (by omega)).mark⟩
    · exact ⟨some .ret, _, run_endLoop hH.rcd (by simp), hstop N pre _ (by omega) hp ((hIx N).put hi ⟨by omega, by omega⟩ _) (hH.put _ (by omega)).mark⟩
end Go.Proofs.YtmfhpddeclggfaaGreatDoor
