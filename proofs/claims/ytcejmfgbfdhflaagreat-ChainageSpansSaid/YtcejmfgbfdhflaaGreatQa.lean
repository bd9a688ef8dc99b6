import Derived.Test.YtcejmfgbfdhflaaGreatProg
import Derived.RangeFuncNested
import Derived.RangeFuncBox
import Derived.RangeFuncBound
import Derived.RangeFuncCalls
import Derived.RangeFuncLeaves
import Derived.Shelf.Abstract
import Derived.Shelf.RegionOpen
import Derived.WalkKit
import Derived.OwnWalkIn
import Derived.TacticsInMore
import Derived.LoopNIn
import Derived.LoopIn
import Derived.LoopTactic
import Derived.WalkSpells
import Derived.WalkLawsBesides
import Derived.Lib.Hide
import Derived.BigQuiet
import Derived.IntWalk
import Derived.Deep.DeepMust
import Derived.WalkSmall
import Derived.StillTailTactics
import Derived.Deep.RegionLaw
import Derived.Deep.RegionHeld3
import Derived.Deep.QuietTactic
import Derived.Sort.Grow
import Derived.Laws.AppendOwn
import Derived.Deep.CutBlock
import Derived.Deep.DeepCutAuto
/-
  Kit Tail Ba Sp Lw Ct Cs Lg: merged.
-/
namespace Go.Proofs.YtcejmfgbfdhflaaGreat
open Go.RowKit Go.BigFrame Go.Sort
/-- Cells that lie there, and may be written. -/
def Cs (W : World) : List (Nat × Nat × Value) → Prop
  | [] => True
  | (b, o, v) :: r => (b < W.heap.size ∧ W.cell? ⟨b, o, none⟩ = some v ∧ W.frozen? ⟨b, o, none⟩ = false) ∧ Cs W r
theorem Cs.keep {W W' : World} (hb : Below W.heap.size W W') : ∀ {l : List (Nat × Nat × Value)}, Cs W l → Cs W' l
  | [], _ => trivial
  | (b, o, v) :: _, h => ⟨⟨Nat.lt_of_lt_of_le h.1.1 hb.size, by rw [hb.cell (p := ⟨b, o, none⟩) h.1.1]; exact h.1.2.1, by rw [hb.frozen (p := ⟨b, o, none⟩) h.1.1]; exact h.1.2.2⟩, Cs.keep hb h.2⟩
theorem Cs.app {W : World} {m : List (Nat × Nat × Value)} (hm : Cs W m) : ∀ {l : List (Nat × Nat × Value)}, Cs W l → Cs W (l ++ m)
  | [], _ => hm
  | _ :: _, h => ⟨h.1, Cs.app hm h.2⟩
/-- Grown from w, and these cells lie there. -/
structure St (w W : World) (l : List (Nat × Nat × Value)) : Prop where
  b : Below w.heap.size w W
  c : Cs W l
theorem St.next {w W W' : World} {l} (h : St w W l) (hb : Below W.heap.size W W') : St w W' l :=
  ⟨h.b.trans (hb.mono h.b.size), h.c.keep hb⟩
theorem St.al {w W : World} {l} (h : St w W l) (o : Obj) : St w (W.alloc o) l :=
  h.next ((Below.refl _ _).alloc (Nat.le_refl _) _)
theorem below_dr (W : World) : Below W.heap.size W W.drew := (Below.refl _ _).drew
theorem St.dr {w W : World} {l} (h : St w W l) : St w W.drew l := h.next (below_dr W)
theorem St.nil (w : World) : St w w [] := ⟨Below.refl _ _, trivial⟩
theorem new_at (W : World) (cs : Array Value) (e : TypeId) (k : Nat) (u : Value) (h : cs.toList[k]? = some u) : (W.alloc (.cells cs e)).cell? ⟨W.heap.size, k, none⟩ = some u := by
  have h2 : cs[k]? = some u := by simpa using h
  go_simp
theorem new_fz (W : World) (cs : Array Value) (e : TypeId) (k : Nat) : (W.alloc (.cells cs e)).frozen? ⟨W.heap.size, k, none⟩ = false := by
  go_simp
/-- The cells of a block. -/
def blk (b : Nat) : Nat → List Value → List (Nat × Nat × Value)
  | _, [] => []
  | o, v :: r => (b, o, v) :: blk b (o + 1) r
theorem cs_blk (W : World) (cs : Array Value) (e : TypeId) : ∀ (l : List Value) (o : Nat), cs.toList.drop o = l → Cs (W.alloc (.cells cs e)) (blk W.heap.size o l)
  | [], _, _ => trivial
  | v :: r, o, h => by
    have h1 : cs.toList[o]? = some v := by
      have : (cs.toList.drop o)[0]? = some v := by rw [h]; rfl
      rwa [List.getElem?_drop, Nat.add_zero] at this
    refine ⟨⟨by simp, new_at W cs e o v h1, new_fz W cs e o⟩, cs_blk W cs e r (o + 1) ?_⟩
    rw [← List.drop_drop, h]; rfl
theorem St.box {w W : World} {l} (h : St w W l) (cs : Array Value) (e : TypeId) (b : Nat) (hb : W.heap.size = b) : St w (W.alloc (.cells cs e)) (blk b 0 cs.toList ++ l) := by
  subst hb
  exact ⟨(h.al _).b, Cs.app (h.al _).c (cs_blk W cs e _ 0 rfl)⟩
theorem St.box2 {w W : World} {l} (h : St w W l) (u v : Value) (e : TypeId) (b : Nat) (hb : W.heap.size = b) : St w (W.alloc (.cells #[u, v] e)) ((b, 0, u) :: (b, 1, v) :: l) :=
  h.box #[u, v] e b hb
theorem ret_bool {a b : Bool} (h : a = b) : Ending.returned (.bool a) = .returned (.bool b) := by rw [h]
theorem ret_int {k : IntKind} {a b : Int} (h : a = b) : Ending.returned (.int k a) = .returned (.int k b) := by rw [h]
theorem w64 {n : Int} (h : -9223372036854775808 ≤ n ∧ n ≤ 9223372036854775807) : wrap64 n = n := by unfold wrap64; omega
theorem below_al (W : World) (o : Obj) : Below W.heap.size W (W.alloc o) := (Below.refl _ _).alloc (Nat.le_refl _) _
/-- The worlds of a class. -/
structure Wd (C : World → Prop) where
  w : World
  h : C w
theorem wp_region_in {P : Program} {id : Nat} {Q : Exit → Act → World → Prop} {a : Act} {w : World} {l : List Oper} (C : World → Prop) (hC : C w.drew) (hm : P.follows .mixedOrders = true) (hB : Region.lexB .any l.toArray = true)
    (h : wpQuiet P l.toArray (fun w' => ∃ n : Wd C, w' = n.w) (fun a' => ∀ w', C w' → Q .normal a' w') l a) : (Code.region id l.toArray true).wp P Q a w := by
  have e : (fun w' => ∃ n : Wd C, w' = n.w) = C := funext fun w' => propext ⟨fun ⟨n, hn⟩ => hn ▸ n.h, fun hc => ⟨⟨w', hc⟩, rfl⟩⟩
  rw [e] at h
  exact wp_region_quiet (C := C) hm hB hC (by simpa using h)
theorem Calls.quiet_in {P : Program} {f : FuncId} {args : Array Value} {C : World → Prop} {w : World} {v : Value} (h : Calls P f args w fun e w' => e = .returned v ∧ C w') :
    Calls P f args w fun e w'' => e = .returned v ∧ ∃ n : Wd C, w'' = n.w :=
  h.mono fun _ w'' ⟨he, hc⟩ => ⟨he, ⟨w'', hc⟩, rfl⟩
/-- A class of worlds: grown from one, with these cells. -/
theorem cls {w W0 : World} {L : List (Nat × Nat × Value)} (S : St w W0 L) : ∃ C : World → Prop, C W0 ∧ Hid (∀ W W', C W → Below W.heap.size W W' → C W') ∧ Hid (∀ n : Wd C, Cs n.w L) ∧ Hid (∀ n : Wd C, Below w.heap.size w n.w) ∧ Nonempty (Wd C) :=
  ⟨fun W => St w W L, S, fun _ _ h hb => h.next hb, fun n => n.h.c, fun n => n.h.b, ⟨⟨W0, S⟩⟩⟩
/-- A contract, in a class of worlds. -/
theorem cin {C : World → Prop} (H : Hid (∀ W W', C W → Below W.heap.size W W' → C W')) {f : FuncId} {args : Array Value} {v : Value} (h : ∀ W, Calls Tryz.prog f args W fun e w' => e = .returned v ∧ Below W.heap.size W w') (n : Wd C) :
    Hid (Calls Tryz.prog f args n.w fun e w'' => e = .returned v ∧ ∃ m : Wd C, w'' = m.w) :=
  Calls.quiet_in (C := C) ((h n.w).mono fun _ _ h => ⟨h.1, H.out _ _ n.h h.2⟩)
theorem csame {C : World → Prop} {f : FuncId} {args : Array Value} {v : Value} (h : ∀ W, Calls Tryz.prog f args W fun e w' => e = .returned v ∧ W = w') (n : Wd C) :
    Hid (Calls Tryz.prog f args n.w fun e w'' => e = .returned v ∧ ∃ m : Wd C, w'' = m.w) :=
  Calls.quiet_in (C := C) ((h n.w).mono fun _ _ h => ⟨h.1, h.2 ▸ n.h⟩)
/-- A contract on a list, in a class of worlds. -/
theorem cinL {C : World → Prop} {w : World} (H : Hid (∀ W W', C W → Below W.heap.size W W' → C W')) (B : Hid (∀ n : Wd C, Below w.heap.size w n.w)) {f : FuncId} {args : Array Value} {v : Value} (h : ∀ W, Below w.heap.size w W → Calls Tryz.prog f args W fun e w' => e = .returned v ∧ Below W.heap.size W w') (n : Wd C) :
    Hid (Calls Tryz.prog f args n.w fun e w'' => e = .returned v ∧ ∃ m : Wd C, w'' = m.w) :=
  Calls.quiet_in (C := C) ((h n.w (B.out n)).mono fun _ _ h => ⟨h.1, H.out _ _ n.h h.2⟩)
theorem wrapEq (x : Int) : IntKind.i64.wrap x = wrap64 x := by rw [IntKind.wrap_i64]; unfold wrap64; first | rfl | omega
/-- Draws, and blocks behind. -/
def Gr (W W' : World) : Prop := ∃ k os, W' = grow (W.drewN k) os
theorem Gr.refl (W : World) : Gr W W := ⟨0, #[], by rw [grow_empty]; rfl⟩
theorem Gr.trans {A B C : World} (h : Gr A B) (k : Gr B C) : Gr A C := by
  obtain ⟨n, os, rfl⟩ := h
  obtain ⟨m, os', rfl⟩ := k
  refine ⟨n + m, os ++ os', ?_⟩
  show grow (grow ((A.drewN n).drewN m) os) os' = _
  rw [grow_grow, World.drewN_drewN]
theorem Gr.al (W : World) (o : Obj) : Gr W (W.alloc o) := ⟨0, #[o], by rw [alloc_eq_grow]; rfl⟩
theorem Gr.dr (W : World) : Gr W W.drew := ⟨1, #[], by rw [grow_empty]; rfl⟩
theorem Gr.below {W W' : World} (h : Gr W W') : Below W.heap.size W W' := by
  obtain ⟨n, os, rfl⟩ := h
  refine ⟨rfl, rfl, rfl, ?_, fun k hk => ?_⟩
  · simp [grow, World.drewN]
  · simp [grow, World.drewN, Array.getElem?_append, hk]
structure StG (w W : World) (l : List (Nat × Nat × Value)) : Prop where
  b : Gr w W
  c : Cs W l
theorem StG.nil (w : World) : StG w w [] := ⟨Gr.refl _, trivial⟩
theorem StG.next {w W W' : World} {l} (h : StG w W l) (hb : Gr W W') : StG w W' l := ⟨h.b.trans hb, h.c.keep hb.below⟩
theorem StG.box {w W : World} {l} (h : StG w W l) (cs : Array Value) (e : TypeId) (b : Nat) (hb : W.heap.size = b) : StG w (W.alloc (.cells cs e)) (blk b 0 cs.toList ++ l) := by
  subst hb
  exact ⟨h.b.trans (Gr.al _ _), Cs.app (h.next (Gr.al _ _)).c (cs_blk W cs e _ 0 rfl)⟩
theorem clsG {w W0 : World} {L : List (Nat × Nat × Value)} (S : StG w W0 L) : ∃ C : World → Prop, C W0 ∧ Hid (∀ W W', C W → Gr W W' → C W') ∧ Hid (∀ n : Wd C, Cs n.w L) ∧ Hid (∀ n : Wd C, Gr w n.w) ∧ Nonempty (Wd C) :=
  ⟨fun W => StG w W L, S, fun _ _ h hb => h.next hb, fun n => n.h.c, fun n => n.h.b, ⟨⟨W0, S⟩⟩⟩
theorem cinG {C : World → Prop} (H : Hid (∀ W W', C W → Gr W W' → C W')) {f : FuncId} {args : Array Value} {v : Value} (h : ∀ W, Calls Tryz.prog f args W fun e w' => e = .returned v ∧ Gr W w') (n : Wd C) :
    Hid (Calls Tryz.prog f args n.w fun e w'' => e = .returned v ∧ ∃ m : Wd C, w'' = m.w) :=
  Calls.quiet_in (C := C) ((h n.w).mono fun _ _ h => ⟨h.1, H.out _ _ n.h h.2⟩)
theorem all_nil {b o : Nat} : ∀ x ∈ ([] : List (Nat × Nat × Value)), x.1 ≠ b ∨ x.2.1 ≠ o := by simp
theorem all_cons {b o b' o' : Nat} {v : Value} {l : List (Nat × Nat × Value)} (h : b' ≠ b ∨ o' ≠ o) (t : ∀ x ∈ l, x.1 ≠ b ∨ x.2.1 ≠ o) : ∀ x ∈ (b', o', v) :: l, x.1 ≠ b ∨ x.2.1 ≠ o := by
  intro x hx
  rcases List.mem_cons.1 hx with rfl | hx
  · exact h
  · exact t x hx
theorem all_app {b o : Nat} {l m : List (Nat × Nat × Value)} (h : ∀ x ∈ l, x.1 ≠ b ∨ x.2.1 ≠ o) (t : ∀ x ∈ m, x.1 ≠ b ∨ x.2.1 ≠ o) : ∀ x ∈ l ++ m, x.1 ≠ b ∨ x.2.1 ≠ o := by
  intro x hx
  rcases List.mem_append.1 hx with hx | hx
  · exact h x hx
  · exact t x hx
theorem Cs.mid {W : World} : ∀ {pre post : List (Nat × Nat × Value)} {b o : Nat} {u : Value}, Cs W (pre ++ (b, o, u) :: post) → Cs W (pre ++ post) ∧ Cs W [(b, o, u)]
  | [], _, _, _, _, h => ⟨h.2, h.1, trivial⟩
  | x :: pre, post, b, o, u, h => by
    have := Cs.mid (pre := pre) (post := post) (b := b) (o := o) (u := u) h.2
    exact ⟨⟨h.1, this.1⟩, this.2⟩
theorem Cs.mid_mk {W : World} : ∀ {pre post : List (Nat × Nat × Value)} {b o : Nat} {u : Value}, Cs W (pre ++ post) → Cs W [(b, o, u)] → Cs W (pre ++ (b, o, u) :: post)
  | [], _, _, _, _, h, k => ⟨k.1, h⟩
  | _ :: _, _, _, _, _, h, k => ⟨h.1, Cs.mid_mk h.2 k⟩
open Go.Shelf
attribute [local go_sem] Oper.semAt_some
theorem defer_ne {ops : List Oper} (h : (ops.all fun o => match o.op with | .defer _ => false | _ => true) = true) {o : Oper} (ho : o ∈ ops) : ∀ c, o.op ≠ .defer c := by
  intro c e
  have := List.all_eq_true.1 h o ho
  rw [e] at this
  cases this
theorem wpIn_of_quiet {P : Program} {C : World → Prop} {o : Oper} {a : Act} {l n : Nat} {K : Act → Prop} {K' : Act → World → Prop} {Q' : Exit → Act → World → Prop} {w : World} (hd : ∀ c, o.op ≠ .defer c) (hw : C w) (h : ∀ a w', C w' → K a → K' a w') (hh : o.quiet P a C K) :
    o.wpIn (Fence.wide.inRound l) n P a w K' Q' := by
  obtain ⟨v, h1, h2⟩ := hh
  have h3 := h1 w hw
  unfold Oper.quietAt at h3
  unfold Oper.wpIn
  refine ⟨fun _ _ => trivial, ?_⟩
  rw [Oper.semAt_eq _ _ _ hd]
  generalize (execOp a.eval o).run P w = r at *
  cases r with
  | ok x w' =>
    cases x <;> simp only [Oper.quietUpon] at h3
    case value u =>
      obtain ⟨e1, e2⟩ := h3
      subst e1 e2
      exact h _ _ hw h2
    case skip =>
      obtain ⟨e1, e2⟩ := h3
      subst e1 e2
      exact h _ _ hw h2
    case enter f args =>
      obtain ⟨e1, hc⟩ := h3
      subst e1
      rw [Oper.uponIn_enter]
      refine ⟨(fun hx => by cases hx), (CallsIn.inRound l (callsIn_wide.2 hc)).mono ?_⟩
      rintro e w'' ⟨rfl, hw''⟩
      exact h _ _ hw'' h2
  | halt x w' => simp only [Oper.quietUpon] at h3
theorem wpAnyIn_of_quiet {P : Program} {md : Region.Mode} {C : World → Prop} {ops : List Oper} {l n : Nat} {Q : Act → Prop} {Q' : Exit → Act → World → Prop} (hd : (ops.all fun o => match o.op with | .defer _ => false | _ => true) = true) (hQ : ∀ a w, C w → Q a → Q' .normal a w) :
    ∀ (fuel : Nat) (listed : Array Bool) (a : Act) (w : World), C w → wpAnyQ P md ops.toArray C Q fuel listed a → wpAnyIn (Fence.wide.inRound l) n P md ops.toArray Q' fuel listed a w
  | 0, _, _, _, hw, h => ⟨h.1, hQ _ _ hw h.2⟩
  | fuel + 1, listed, a, w, hw, h => ⟨fun h0 => hQ _ _ hw (h.1 h0), fun i hi => by
      have hq := h.2 i hi
      unfold qOp at hq
      unfold wpOpIn
      cases ho : ops.toArray[i]? with
      | none => rw [ho] at hq; exact wpAnyIn_of_quiet hd hQ fuel _ a w hw hq
      | some o =>
        rw [ho] at hq
        dsimp only at hq ⊢
        have hm : o ∈ ops := by
          have := Array.mem_of_getElem? ho
          simpa using this
        split
        · rename_i hwn
          rw [if_pos hwn] at hq
          exact wpIn_of_quiet (defer_ne hd hm) hw (fun a' w' hw' hk => wpAnyIn_of_quiet hd hQ fuel _ a' w' hw' hk) hq
        · rename_i hwn
          rw [if_neg hwn] at hq
          exact ⟨fun _ _ => trivial, wpAnyIn_of_quiet hd hQ fuel _ _ w hw hq⟩⟩
/-- A region that draws its order, in a round: one walk in a class of worlds. -/
theorem wpIn_region_in {P : Program} {id l n : Nat} {Q : Exit → Act → World → Prop} {a : Act} {w : World} {ls : List Oper} (C : World → Prop) (hC : C w.drew) (hm : P.follows .mixedOrders = true) (hB : Region.lexB .any ls.toArray = true)
    (hd : (ls.all fun o => match o.op with | .defer _ => false | _ => true) = true)
    (h : wpQuiet P ls.toArray (fun w' => ∃ n : Wd C, w' = n.w) (fun a' => ∀ w', C w' → Q .normal a' w') ls a) : (Code.region id ls.toArray true).wpIn (Fence.wide.inRound l) n P Q a w := by
  have e : (fun w' => ∃ n : Wd C, w' = n.w) = C := funext fun w' => propext ⟨fun ⟨n, hn⟩ => hn ▸ n.h, fun hc => ⟨⟨w', hc⟩, rfl⟩⟩
  rw [e] at h
  simp only [Region.lexB, Bool.and_eq_true] at hB
  refine wpIn_region_any hm (wpAnyIn_of_quiet hd (Q := fun a' => ∀ w', C w' → Q .normal a' w') (fun _ w' hw' h => h w' hw') _ _ _ _ hC ?_)
  have := wpAnyQ_lex (C := C) (md := .any) hB.1 ls 0 (Array.replicate ls.toArray.size false) a (by simp) (by simpa using hB.2) h
  simpa using this
end Go.Proofs.YtcejmfgbfdhflaaGreat
namespace Go.Proofs.YtcejmfgbfdhflaaGreat
open Go.RowKit Go.BigFrame Go.Sort
attribute [local go_sem] World.cell?_alloc_some
/-! A region of which all but a forced end is quiet: one walk of the text's order serves. -/
section
variable {P : Program} {ops : Array Oper} {md : Region.Mode} {C : World → Prop}
/-- From here on f operations come up, each of them one of the first n, whatever the order; then L. -/
def Ahead (P : Program) (md : Region.Mode) (ops : Array Oper) (C : World → Prop) (n : Nat) (L : Array Bool → Act → Prop) : Nat → Array Bool → Act → Prop
  | 0, li, a => L li a
  | f + 1, li, a => Region.ready md ops li ≠ [] ∧ ∀ i ∈ Region.ready md ops li, i < n ∧ qOp P ops C i (Ahead P md ops C n L f (li.setIfInBounds i true)) a
theorem Ahead.any {n g : Nat} {L : Array Bool → Act → Prop} {Q : Exit → Act → World → Prop} (hL : ∀ li a w, C w → L li a → wpAny P md ops Q g li a w) :
    ∀ (f : Nat) (li : Array Bool) (a : Act) (w : World), C w → Ahead P md ops C n L f li a → wpAny P md ops Q (f + g) li a w
  | 0, li, a, w, hw, h => by rw [Nat.zero_add]; exact hL _ _ _ hw h
  | f + 1, li, a, w, hw, h => by
    rw [show f + 1 + g = f + g + 1 from by omega]
    exact ⟨fun e => absurd e h.1, fun i hi => wpOp_of_qOp hw (fun a' w' hw' k => Ahead.any hL f _ a' w' hw' k) (h.2 i hi).2⟩
theorem Ahead.pick {n i : Nat} {oi : Oper} {v : Value} {L : Array Bool → Act → Prop} (hi : ops[i]? = some oi) (hsel : ∀ (j : Nat) (o : Oper) cs b, ops[j]? = some o → o.op ≠ .select cs b)
    (hs : Region.sinkB md ops n = true) (hc : Region.chainB md ops n = true) (hn : n < ops.size) (hin : i < n) (hend : ∀ li a, L li a → ∀ j ∈ Region.ready md ops li, n ≤ j) (f : Nat) :
    ∀ (li : Array Bool) (a : Act), HeadInv md ops n li →
      (∀ j oj, ops[j]? = some oj → j ≠ i → li.getD j true = false → (∀ e ∈ oj.after, Region.binds md e = true → e.on ≠ i) → oi.apart ops oj = true) →
      i ∈ Region.ready md ops li → YieldsIn P ops C oi v a → Ahead P md ops C n L f (li.setIfInBounds i true) (a.put oi.dst v) → Ahead P md ops C n L (f + 1) li a := by
  induction f with
  | zero =>
    intro li a inv _ hr hy H
    refine ⟨fun e => absurd hr (by rw [e]; simp), fun j hj => ?_⟩
    have hjn : j < n := (Nat.lt_or_ge j n).resolve_right fun h => absurd hj (tail_waits hs hc hn inv _ i rfl hin (mem_ready.1 hr).1 j h)
    rcases Nat.decEq j i with hne | rfl
    · have := hend _ _ H j (ready_mono hj hne)
      omega
    · exact ⟨hjn, hy.qOp hi H⟩
  | succ f ih =>
    intro li a inv hap hr hy H
    refine ⟨fun e => absurd hr (by rw [e]; simp), fun j hj => ?_⟩
    have hjn : j < n := (Nat.lt_or_ge j n).resolve_right fun h => absurd hj (tail_waits hs hc hn inv _ i rfl hin (mem_ready.1 hr).1 j h)
    rcases Nat.decEq j i with hne | rfl
    · obtain ⟨hju, oj, hoj, hall⟩ := mem_ready.1 hj
      have hno : ∀ e ∈ oj.after, Region.binds md e = true → e.on ≠ i := fun e he hb heq => by
        have h1 := hall e he hb
        rw [heq, getD_both (mem_ready.1 hr).1] at h1
        cases h1
      refine ⟨hjn, qOp_mono (fun a' h3 => ih (li.setIfInBounds j true) a' (inv.set hj hjn) (fun k ok hk hki hu hno' => hap k ok hk hki ?_ hno') (ready_mono hr (Ne.symm hne)) h3.1 ?_)
        (qOp_put hoj (hap j oj hoj hne hju hno) (fun cs b => hsel i oi cs b hi) (fun cs b => hsel j oj cs b hoj) hy (H.2 j (ready_mono hj hne)).2)⟩
      · rcases Nat.decEq j k with hjk | rfl
        · rwa [getD_set_ne true hjk] at hu
        · exact hju
      · rw [Array.setIfInBounds_comm _ _ hne]; exact h3.2
    · exact ⟨hjn, hy.qOp hi H⟩
theorem Ahead.lex {n g : Nat} {Lq : Act → Prop} (hsel : Region.noSelect ops = true) (hs : Region.sinkB md ops n = true) (hc : Region.chainB md ops n = true) (hn : n < ops.size) :
    ∀ (l : List Oper) (k : Nat) (li : Array Bool) (a : Act), (∀ j, j < l.length → l[j]? = ops[k + j]?) → k + l.length = n → HeadInv md ops n li → Region.lexHead md ops g l.length k li = true →
      wpQuiet P ops C Lq l a → Ahead P md ops C n (fun li' a' => Region.seqB md ops g n li' = true ∧ Lq a') l.length li a := by
  intro l
  induction l with
  | nil =>
    intro k li a _ hk _ hB h
    obtain rfl : k = n := by simpa using hk
    exact ⟨by simpa [Region.lexHead] using hB, h⟩
  | cons o l ih =>
    intro k li a hl hk inv hB h
    have h0 : ops[k]? = some o := by simpa using (hl 0 (by simp)).symm
    simp only [List.length_cons, Region.lexHead, Bool.and_eq_true] at hB hk
    have hr : k ∈ Region.ready md ops li := by simpa using hB.1.1
    have hq : qOp P ops C k (wpQuiet P ops C Lq l) a := by unfold qOp; simp only [h0]; exact h
    obtain ⟨v, hy, hK⟩ := yieldsIn_of_qOp h0 hq
    refine Ahead.pick h0 (Region.noSelect_spec hsel) hs hc hn (by omega) (fun li' a' hL => seqB_ready hL.1) l.length li a inv (Region.free_spec h0 hB.1.2) hr hy
      (ih (k + 1) _ _ (fun j hj => ?_) (by omega) (inv.set hr (by omega)) hB.2 hK)
    have := hl (j + 1) (by simp; omega)
    simpa [Nat.add_assoc, Nat.add_comm 1 j] using this
/-- All but the end, from n on, is quiet in a class of worlds; the end's order is forced. -/
theorem wp_region_in_tail {id : Nat} {Q : Exit → Act → World → Prop} {a : Act} {w : World} {l : List Oper} (n : Nat) (C : World → Prop) (hC : C w.drew) (hm : P.follows .mixedOrders = true) (hB : Region.lexTailB .any l.toArray n = true)
    (h : wpQuiet P l.toArray (fun w' => ∃ n : Wd C, w' = n.w) (fun a' => ∀ w', C w' → wpList P l.toArray Q (l.drop n) a' w') (l.take n) a) : (Code.region id l.toArray true).wp P Q a w := by
  have e : (fun w' => ∃ n : Wd C, w' = n.w) = C := funext fun w' => propext ⟨fun ⟨n, hn⟩ => hn ▸ n.h, fun hc => ⟨⟨w', hc⟩, rfl⟩⟩
  rw [e] at h
  simp only [Region.lexTailB, Bool.and_eq_true, decide_eq_true_eq] at hB
  obtain ⟨⟨⟨⟨hsel, hn⟩, hs⟩, hc⟩, hlex⟩ := hB
  have hnl : n < l.length := by simpa using hn
  have ht : (l.take n).length = n := by rw [List.length_take]; omega
  have hg : (l.drop n).length = l.toArray.size - n := by simp
  have inv : HeadInv .any l.toArray n (Array.replicate l.toArray.size false) :=
    ⟨by simp, fun j oj _ hl => (by rw [getD_replicate_false] at hl; cases hl), fun t _ ht => getD_in (by simpa using ht) (getD_replicate_false _ _)⟩
  have H := Ahead.lex (md := .any) (g := l.toArray.size - n) hsel hs hc hn (l.take n) 0 _ a (fun j hj => by rw [ht] at hj; simp [hj]) (by omega) inv (by rw [ht]; exact hlex) h
  refine wp_region_any hm ?_
  have K := Ahead.any (Q := Q) (g := l.toArray.size - n) (fun li a' w' hw' hL => by
    have := wpAny_of_seq (md := .any) (Q' := Q) (l.drop n) n li a' w' (fun j => by simp [List.getElem?_drop]) (by rw [hg]; exact hL.1) (hL.2 w' hw')
    rwa [hg] at this) _ _ _ _ hC H
  rw [ht, show n + (l.toArray.size - n) = l.toArray.size from by omega] at K
  exact K
end
theorem clsGr (W : World) : ∃ C : World → Prop, C W ∧ Hid (∀ A B, C A → Gr A B → C B) ∧ Hid (∀ n : Wd C, Gr W n.w) ∧ Nonempty (Wd C) :=
  ⟨fun W' => Gr W W', Gr.refl W, fun _ _ h k => h.trans k, fun n => n.h, ⟨⟨W, Gr.refl W⟩⟩⟩
theorem Gr.cell {W W' : World} (h : Gr W W') {b o : Nat} {v : Value} (hc : W.cell? ⟨b, o, none⟩ = some v) : W'.cell? ⟨b, o, none⟩ = some v :=
  (h.below.cell (p := ⟨b, o, none⟩) (World.block_lt_of_cell? W _ hc)).trans hc
open Go.RowKit Go.BigFrame Go.Sort
attribute [local go_sem] World.cell?_alloc_some
section
variable {P : Program} {ops : Array Oper} {md : Region.Mode} {C : World → Prop}
theorem wpOpIn_of_q {l m i : Nat} {K : Act → Prop} {K' : Act → World → Prop} {Q : Exit → Act → World → Prop} {a : Act} {w : World} (hd : ∀ (j : Nat) (o : Oper), ops[j]? = some o → ∀ c, o.op ≠ .defer c) (hw : C w) (h : ∀ a w', C w' → K a → K' a w') (hh : qOp P ops C i K a) :
    wpOpIn (Fence.wide.inRound l) m P ops Q i K' a w := by
  unfold qOp at hh
  unfold wpOpIn
  cases ho : ops[i]? with
  | none => simp only [ho] at hh; exact h _ _ hw hh
  | some o =>
    simp only [ho] at hh
    dsimp only
    split
    · rename_i hwn
      rw [if_pos hwn] at hh
      exact wpIn_of_quiet (hd i o ho) hw h hh
    · rename_i hwn
      rw [if_neg hwn] at hh
      exact ⟨fun _ _ => trivial, h _ _ hw hh⟩
theorem Ahead.anyIn {l m n g : Nat} {L : Array Bool → Act → Prop} {Q : Exit → Act → World → Prop} (hd : ∀ (j : Nat) (o : Oper), ops[j]? = some o → ∀ c, o.op ≠ .defer c) (hL : ∀ li a w, C w → L li a → wpAnyIn (Fence.wide.inRound l) m P md ops Q g li a w) :
    ∀ (f : Nat) (li : Array Bool) (a : Act) (w : World), C w → Ahead P md ops C n L f li a → wpAnyIn (Fence.wide.inRound l) m P md ops Q (f + g) li a w
  | 0, li, a, w, hw, h => by rw [Nat.zero_add]; exact hL _ _ _ hw h
  | f + 1, li, a, w, hw, h => by
    rw [show f + 1 + g = f + g + 1 from by omega]
    exact ⟨fun e => absurd e h.1, fun i hi => wpOpIn_of_q hd hw (fun a' w' hw' k => Ahead.anyIn hd hL f _ a' w' hw' k) (h.2 i hi).2⟩
theorem wpAnyIn_seq {l m : Nat} {Q : Exit → Act → World → Prop} : ∀ (r : List Oper) (k : Nat) (li : Array Bool) (a : Act) (w : World), (∀ j, r[j]? = ops[k + j]?) → Region.seqB md ops r.length k li = true →
    wpListIn (Fence.wide.inRound l) m P ops Q r a w → wpAnyIn (Fence.wide.inRound l) m P md ops Q r.length li a w
  | [], _, _, _, _, _, hB, h => ⟨by simpa [Region.seqB] using hB, h⟩
  | o :: r, k, li, a, w, hl, hB, h => by
    have h0 : ops[k]? = some o := by simpa using (hl 0).symm
    simp only [List.length_cons, Region.seqB, Bool.and_eq_true, decide_eq_true_eq] at hB
    refine ⟨fun h1 => absurd hB.1 (by rw [h1]; simp), fun i hi => ?_⟩
    rw [hB.1] at hi
    obtain rfl : i = k := by simpa using hi
    refine wpOpIn_mono (K := wpListIn (Fence.wide.inRound l) m P ops Q r) (fun a' w' h' => wpAnyIn_seq r (i + 1) _ a' w' (fun j => ?_) hB.2 h') ?_
    · have := hl (j + 1)
      simpa [Nat.add_assoc, Nat.add_comm 1 j] using this
    · unfold wpOpIn; simp only [h0]; exact h
/-- The like, in a round. -/
theorem wpIn_region_in_tail {id l m : Nat} {Q : Exit → Act → World → Prop} {a : Act} {w : World} {ls : List Oper} (n : Nat) (C : World → Prop) (hC : C w.drew) (hm : P.follows .mixedOrders = true) (hB : Region.lexTailB .any ls.toArray n = true)
    (hd : (ls.all fun o => match o.op with | .defer _ => false | _ => true) = true)
    (h : wpQuiet P ls.toArray (fun w' => ∃ n : Wd C, w' = n.w) (fun a' => ∀ w', C w' → wpListIn (Fence.wide.inRound l) m P ls.toArray Q (ls.drop n) a' w') (ls.take n) a) : (Code.region id ls.toArray true).wpIn (Fence.wide.inRound l) m P Q a w := by
  have e : (fun w' => ∃ n : Wd C, w' = n.w) = C := funext fun w' => propext ⟨fun ⟨n, hn⟩ => hn ▸ n.h, fun hc => ⟨⟨w', hc⟩, rfl⟩⟩
  rw [e] at h
  simp only [Region.lexTailB, Bool.and_eq_true, decide_eq_true_eq] at hB
  obtain ⟨⟨⟨⟨hsel, hn⟩, hs⟩, hc⟩, hlex⟩ := hB
  have hnl : n < ls.length := by simpa using hn
  have ht : (ls.take n).length = n := by rw [List.length_take]; omega
  have hg : (ls.drop n).length = ls.toArray.size - n := by simp
  have inv : HeadInv .any ls.toArray n (Array.replicate ls.toArray.size false) :=
    ⟨by simp, fun j oj _ hl => (by rw [getD_replicate_false] at hl; cases hl), fun t _ ht => getD_in (by simpa using ht) (getD_replicate_false _ _)⟩
  have hd' : ∀ (j : Nat) (o : Oper), ls.toArray[j]? = some o → ∀ c, o.op ≠ .defer c := fun j o ho => defer_ne hd (by have := Array.mem_of_getElem? ho; simpa using this)
  have H := Ahead.lex (md := .any) (g := ls.toArray.size - n) hsel hs hc hn (ls.take n) 0 _ a (fun j hj => by rw [ht] at hj; simp [hj]) (by omega) inv (by rw [ht]; exact hlex) h
  refine wpIn_region_any hm ?_
  have K := Ahead.anyIn (l := l) (m := m) (Q := Q) (g := ls.toArray.size - n) hd' (fun li a' w' hw' hL => by
    have := wpAnyIn_seq (md := .any) (l := l) (m := m) (Q := Q) (ls.drop n) n li a' w' (fun j => by simp [List.getElem?_drop]) (by rw [hg]; exact hL.1) (hL.2 w' hw')
    rwa [hg] at this) _ _ _ _ hC H
  rw [ht, show n + (ls.toArray.size - n) = ls.toArray.size from by omega] at K
  exact K
end
end Go.Proofs.YtcejmfgbfdhflaaGreat
namespace Go.Proofs.YtcejmfgbfdhflaaGreat
open Go.RowKit Go.BigFrame Go.Sort
attribute [local go_sem] World.cell?_alloc_some
/-- A chain. -/
structure Ch where
  id : Int
  year : Int
  lo : Int
  hi : Int
  wear : Int
deriving DecidableEq
/-- A proof, or a repair. -/
structure Pf where
  id : Int
  ch : Int
  year : Int
  lo : Int
  hi : Int
deriving DecidableEq
abbrev Ch.v (c : Ch) : Value := .agg #[.int .i64 c.id, .int .i64 c.year, .int .i64 c.lo, .int .i64 c.hi, .int .i64 c.wear]
abbrev Pf.v (p : Pf) : Value := .agg #[.int .i64 p.id, .int .i64 p.ch, .int .i64 p.year, .int .i64 p.lo, .int .i64 p.hi]
abbrev spv (lo hi : Int) : Value := .agg #[.int .i64 lo, .int .i64 hi]
theorem Calls.gr {P : Program} {f : FuncId} {args : Array Value} {W : World} {v : Value} (h : Calls P f args W fun e w' => e = .returned v ∧ W = w') : Calls P f args W fun e w' => e = .returned v ∧ Gr W w' :=
  h.mono fun _ _ h => ⟨h.1, h.2 ▸ Gr.refl _⟩
theorem Calls.be {P : Program} {f : FuncId} {args : Array Value} {W : World} {v : Value} (h : Calls P f args W fun e w' => e = .returned v ∧ Gr W w') : Calls P f args W fun e w' => e = .returned v ∧ Below W.heap.size W w' :=
  h.mono fun _ _ h => ⟨h.1, h.2.below⟩
/-- Is a number within? -/
def inB (lo hi n : Int) : Bool := decide (lo ≤ n) && decide (n ≤ hi)
theorem inB_iff {lo hi n : Int} : inB lo hi n = true ↔ lo ≤ n ∧ n ≤ hi := by simp [inB]
set_option maxHeartbeats 400000 in
theorem within_any (lo hi n : Int) (w : World) : Calls Tryz.prog 136 #[spv lo hi, .int .i64 n] w fun e w' => e = .returned (.bool (inB lo hi n)) ∧ Gr w w' := by
  go_enter Tryz.func136, Tryz.ntmps136
  go_wp2
  all_goals (go_ret; refine ⟨ret_bool ?_, Gr.al _ _⟩; simp [inB] <;> omega)
set_option maxHeartbeats 400000 in
theorem width_any (lo hi : Int) (w : World) (h : -9223372036854775808 ≤ hi - lo ∧ hi - lo ≤ 9223372036854775807) : Calls Tryz.prog 184 #[spv lo hi] w fun e w' => e = .returned (.int .i64 (hi - lo)) ∧ Gr w w' := by
  have H := Lib.hid (w64 h)
  clear h
  go_enter Tryz.func184, Tryz.ntmps184
  go_wp2_with fail
  go_ret
  exact ⟨ret_int H.out, Gr.al _ _⟩
/-- Is a span one within another? -/
def insB (lo hi a b : Int) : Bool := decide (lo ≤ hi) && (decide (a ≤ lo) && decide (hi ≤ b))
set_option maxHeartbeats 800000 in
theorem inside_any (lo hi a b : Int) (w : World) : Calls Tryz.prog 183 #[spv lo hi, spv a b] w fun e w' => e = .returned (.bool (insB lo hi a b)) ∧ Gr w w' := by
  go_enter Tryz.func183, Tryz.ntmps183
  go_wp2
  all_goals (go_ret; refine ⟨ret_bool ?_, (Gr.al _ _).trans (Gr.al _ _)⟩; first | (simp [insB]; omega) | (rw [Bool.eq_iff_iff]; simp [insB]; omega))
def okId (n : Int) : Bool := inB 1 1099511627776 n
def okLong (lo hi : Int) : Bool := insB lo hi 9000 12000
set_option maxHeartbeats 400000 in
theorem validID_any (n : Int) (w : World) : Calls Tryz.prog 86 #[.int .i64 n] w fun e w' => e = .returned (.bool (okId n)) ∧ w = w' := by
  go_enter Tryz.func86, Tryz.ntmps86
  go_wp2
  all_goals (go_ret; refine ⟨ret_bool ?_, rfl⟩; simp [okId, inB] <;> omega)
set_option maxHeartbeats 400000 in
theorem validLong_any (lo hi : Int) (w : World) : Calls Tryz.prog 139 #[spv lo hi] w fun e w' => e = .returned (.bool (okLong lo hi)) ∧ Gr w w' := by
  have C1 := fun W => inside_any lo hi 9000 12000 W
  obtain ⟨b, hb⟩ : ∃ b, okLong lo hi = b := ⟨_, rfl⟩
  rw [show insB lo hi 9000 12000 = b from hb] at C1
  rw [hb]
  clear hb
  go_enter Tryz.func139, Tryz.ntmps139
  go_wp2_with fail
  refine (C1 _).mono ?_
  rintro e w' ⟨rfl, hg⟩
  have G : Hid (Gr w w') := (Gr.al _ _).trans hg
  clear hg C1
  go_wp2_with fail
  go_ret
  exact ⟨rfl, G.out⟩
def okCh (c : Ch) : Bool := okId c.id && (inB 0 4000 c.year && (okLong c.lo c.hi && inB 0 1000 c.wear))
set_option maxHeartbeats 400000 in
theorem yearsOf_any (c : Ch) (w : World) : Calls Tryz.prog 114 #[c.v] w fun e w' => e = .returned (spv c.year 4000) ∧ Gr w w' := by
  go_enter Tryz.func114, Tryz.ntmps114
  go_wp2_with fail
  refine bodyPost_ret (v := spv c.year 4000) (by simp [results, Tryz.results114, go_sem]) rfl ⟨rfl, ?_⟩
  exact (Gr.al _ _).trans (Gr.al _ _)
set_option maxHeartbeats 800000 in
theorem validChain_any (c : Ch) (w : World) : Calls Tryz.prog 138 #[c.v] w fun e w' => e = .returned (.bool (okCh c)) ∧ Gr w w' := by
  have C1 := fun W => validID_any c.id W
  have C2 := fun W => within_any 0 4000 c.year W
  have C3 := fun W => validLong_any c.lo c.hi W
  have C4 := fun W => within_any 0 1000 c.wear W
  obtain ⟨x1, h1⟩ : ∃ b, okId c.id = b := ⟨_, rfl⟩
  obtain ⟨x2, h2⟩ : ∃ b, inB 0 4000 c.year = b := ⟨_, rfl⟩
  obtain ⟨x3, h3⟩ : ∃ b, okLong c.lo c.hi = b := ⟨_, rfl⟩
  obtain ⟨x4, h4⟩ : ∃ b, inB 0 1000 c.wear = b := ⟨_, rfl⟩
  rw [show okCh c = (x1 && (x2 && (x3 && x4))) from by rw [okCh, h1, h2, h3, h4]]
  simp only [h1] at C1
  simp only [h2] at C2
  simp only [h3] at C3
  simp only [h4] at C4
  clear h1 h2 h3 h4
  go_enter Tryz.func138, Tryz.ntmps138
  go_wp2_with fail
  obtain ⟨W0, hW0⟩ : ∃ W0, (w).alloc (.cells #[.int .i64 c.id, .int .i64 c.year, .int .i64 c.lo, .int .i64 c.hi, .int .i64 c.wear] 90) = W0 := ⟨_, rfl⟩
  have S0 : StG w W0 [(w.heap.size, 0, .int .i64 c.id), (w.heap.size, 1, .int .i64 c.year), (w.heap.size, 2, .int .i64 c.lo), (w.heap.size, 3, .int .i64 c.hi), (w.heap.size, 4, .int .i64 c.wear)] := by rw [← hW0]; exact ((StG.nil w)).box #[.int .i64 c.id, .int .i64 c.year, .int .i64 c.lo, .int .i64 c.hi, .int .i64 c.wear] 90 (w.heap.size) (by simp)
  rw [hW0]
  clear hW0
  obtain ⟨C, hC0, HC, LC, BC, hne⟩ := clsG S0
  haveI := hne
  obtain ⟨c0, rfl⟩ : ∃ n : Wd C, W0 = n.w := ⟨⟨_, hC0⟩, rfl⟩
  have fC0 : ∀ n : Wd C, n.w.cell? ⟨w.heap.size, 0, none⟩ = some (.int .i64 c.id) := fun n => (LC.out n).1.2.1
  have fC1 : ∀ n : Wd C, n.w.cell? ⟨w.heap.size, 1, none⟩ = some (.int .i64 c.year) := fun n => (LC.out n).2.1.2.1
  have fC2 : ∀ n : Wd C, n.w.cell? ⟨w.heap.size, 2, none⟩ = some (.int .i64 c.lo) := fun n => (LC.out n).2.2.1.2.1
  have fC3 : ∀ n : Wd C, n.w.cell? ⟨w.heap.size, 3, none⟩ = some (.int .i64 c.hi) := fun n => (LC.out n).2.2.2.1.2.1
  have fC4 : ∀ n : Wd C, n.w.cell? ⟨w.heap.size, 4, none⟩ = some (.int .i64 c.wear) := fun n => (LC.out n).2.2.2.2.1.2.1
  clear S0 hC0
  have D1 := csame (C := C) C1
  have D2 := cinG HC C2
  have D3 := cinG HC C3
  have D4 := cinG HC C4
  clear C1 C2 C3 C4
  go_wp2_with (first | (go_at_call 86; with_reducible refine (D1 _).out.mono ?_; rintro e w' ⟨rfl, n, rfl⟩) | (go_at_call 136; with_reducible refine (D2 _).out.mono ?_; rintro e w' ⟨rfl, n, rfl⟩) | (go_at_call 136; with_reducible refine (D4 _).out.mono ?_; rintro e w' ⟨rfl, n, rfl⟩) | (go_at_call 139; with_reducible refine (D3 _).out.mono ?_; rintro e w' ⟨rfl, n, rfl⟩))
  all_goals (go_ret; exact ⟨ret_bool (by simp [*]), BC.out _⟩)

/-- What a thing tells: its number, its year, its span. -/
structure Th where
  num : Int
  year : Int
  lo : Int
  hi : Int
deriving DecidableEq
/-- A thing, as a value of an interface. -/
def ThAt (W : World) (v : Value) (t : Th) : Prop :=
  (∃ id wear, v = .iface 249 (.agg #[.int .i64 id, .int .i64 t.year, .int .i64 t.lo, .int .i64 t.hi, .int .i64 wear]) ∧ t.num = 0) ∨
  (∃ b ch ty, (ty = 220 ∨ ty = 244) ∧ v = .iface ty (.pointer (some ⟨b, 0, none⟩)) ∧ Cs W [(b, 0, .int .i64 t.num), (b, 1, .int .i64 ch), (b, 2, .int .i64 t.year), (b, 3, .int .i64 t.lo), (b, 4, .int .i64 t.hi)])
theorem ThAt.keep {W W' : World} {v : Value} {t : Th} (h : ThAt W v t) (hb : Below W.heap.size W W') : ThAt W' v t := by
  rcases h with h | ⟨b, ch, ty, h1, h2, h3⟩
  · exact .inl h
  · exact .inr ⟨b, ch, ty, h1, h2, h3.keep hb⟩
theorem thCells {W : World} {b : Nat} {t : Th} {ch : Int} (h : Cs W [(b, 0, .int .i64 t.num), (b, 1, .int .i64 ch), (b, 2, .int .i64 t.year), (b, 3, .int .i64 t.lo), (b, 4, .int .i64 t.hi)]) :
    W.cell? ⟨b, 0, none⟩ = some (.int .i64 t.num) ∧ W.cell? ⟨b, 2, none⟩ = some (.int .i64 t.year) ∧ W.cell? ⟨b, 3, none⟩ = some (.int .i64 t.lo) ∧ W.cell? ⟨b, 4, none⟩ = some (.int .i64 t.hi) :=
  ⟨h.1.2.1, h.2.2.1.2.1, h.2.2.2.1.2.1, h.2.2.2.2.1.2.1⟩
set_option maxHeartbeats 400000 in
theorem mYear_any (id y lo hi wear : Int) (w : World) : Calls Tryz.prog 314 #[.agg #[.int .i64 id, .int .i64 y, .int .i64 lo, .int .i64 hi, .int .i64 wear]] w fun e w' => e = .returned (.int .i64 y) ∧ Gr w w' := by
  go_enter Tryz.func314, Tryz.ntmps314
  go_wp2_with fail
  go_ret
  exact ⟨rfl, Gr.al _ _⟩
set_option maxHeartbeats 400000 in
theorem mLong_any (id y lo hi wear : Int) (w : World) : Calls Tryz.prog 313 #[.agg #[.int .i64 id, .int .i64 y, .int .i64 lo, .int .i64 hi, .int .i64 wear]] w fun e w' => e = .returned (spv lo hi) ∧ Gr w w' := by
  go_enter Tryz.func313, Tryz.ntmps313
  go_wp2_with fail
  refine bodyPost_ret (v := spv lo hi) (by simp [results, Tryz.results313, go_sem]) rfl ⟨rfl, ?_⟩
  exact (Gr.al _ _).trans (Gr.al _ _)
set_option maxHeartbeats 400000 in
theorem pYear_any (b : Nat) (t : Th) (ch : Int) (w : World) (h : Cs w [(b, 0, .int .i64 t.num), (b, 1, .int .i64 ch), (b, 2, .int .i64 t.year), (b, 3, .int .i64 t.lo), (b, 4, .int .i64 t.hi)]) :
    Calls Tryz.prog 310 #[.pointer (some ⟨b, 0, none⟩)] w fun e w' => e = .returned (.int .i64 t.year) ∧ w = w' := by
  obtain ⟨c0, c2, c3, c4⟩ := thCells h
  clear h
  go_enter Tryz.func310, Tryz.ntmps310
  go_wp2_with fail
  go_ret
  exact ⟨rfl, rfl⟩
set_option maxHeartbeats 400000 in
theorem rYear_any (b : Nat) (t : Th) (ch : Int) (w : World) (h : Cs w [(b, 0, .int .i64 t.num), (b, 1, .int .i64 ch), (b, 2, .int .i64 t.year), (b, 3, .int .i64 t.lo), (b, 4, .int .i64 t.hi)]) :
    Calls Tryz.prog 312 #[.pointer (some ⟨b, 0, none⟩)] w fun e w' => e = .returned (.int .i64 t.year) ∧ w = w' := by
  obtain ⟨c0, c2, c3, c4⟩ := thCells h
  clear h
  go_enter Tryz.func312, Tryz.ntmps312
  go_wp2_with fail
  go_ret
  exact ⟨rfl, rfl⟩
set_option maxHeartbeats 400000 in
theorem pLong_any (b : Nat) (t : Th) (ch : Int) (w : World) (h : Cs w [(b, 0, .int .i64 t.num), (b, 1, .int .i64 ch), (b, 2, .int .i64 t.year), (b, 3, .int .i64 t.lo), (b, 4, .int .i64 t.hi)]) :
    Calls Tryz.prog 309 #[.pointer (some ⟨b, 0, none⟩)] w fun e w' => e = .returned (spv t.lo t.hi) ∧ Gr w w' := by
  have K := thCells (h.keep (Gr.al w (.cells #[.int .i64 0, .int .i64 0] 30)).below)
  obtain ⟨c0, c2, c3, c4⟩ := K
  clear h
  go_enter Tryz.func309, Tryz.ntmps309
  go_wp2_with fail
  refine bodyPost_ret (v := spv t.lo t.hi) (by simp [results, Tryz.results309, go_sem]) rfl ⟨rfl, ?_⟩
  exact Gr.al _ _
set_option maxHeartbeats 400000 in
theorem rLong_any (b : Nat) (t : Th) (ch : Int) (w : World) (h : Cs w [(b, 0, .int .i64 t.num), (b, 1, .int .i64 ch), (b, 2, .int .i64 t.year), (b, 3, .int .i64 t.lo), (b, 4, .int .i64 t.hi)]) :
    Calls Tryz.prog 311 #[.pointer (some ⟨b, 0, none⟩)] w fun e w' => e = .returned (spv t.lo t.hi) ∧ Gr w w' := by
  have K := thCells (h.keep (Gr.al w (.cells #[.int .i64 0, .int .i64 0] 30)).below)
  obtain ⟨c0, c2, c3, c4⟩ := K
  clear h
  go_enter Tryz.func311, Tryz.ntmps311
  go_wp2_with fail
  refine bodyPost_ret (v := spv t.lo t.hi) (by simp [results, Tryz.results311, go_sem]) rfl ⟨rfl, ?_⟩
  exact Gr.al _ _

theorem ta_mp (v : Value) (w : World) : Sem.run Tryz.prog (Instr.typeAssert (.iface 249 v) 148 220 true) w = .ok (.tuple #[.pointer none, .bool false]) w := by kernel_rfl
theorem ta_mr (v : Value) (w : World) : Sem.run Tryz.prog (Instr.typeAssert (.iface 249 v) 148 244 true) w = .ok (.tuple #[.pointer none, .bool false]) w := by kernel_rfl
theorem ta_pp (v : Value) (w : World) : Sem.run Tryz.prog (Instr.typeAssert (.iface 220 v) 148 220 true) w = .ok (.tuple #[v, .bool true]) w := by kernel_rfl
theorem ta_rp (v : Value) (w : World) : Sem.run Tryz.prog (Instr.typeAssert (.iface 244 v) 148 220 true) w = .ok (.tuple #[.pointer none, .bool false]) w := by kernel_rfl
theorem ta_rr (v : Value) (w : World) : Sem.run Tryz.prog (Instr.typeAssert (.iface 244 v) 148 244 true) w = .ok (.tuple #[v, .bool true]) w := by kernel_rfl
theorem meth_my (rv : Value) (w : World) : Sem.run Tryz.prog (method 432 249 rv "boundstone/chainage.year") w = .ok (314, rv) w := by kernel_rfl
theorem meth_ml (rv : Value) (w : World) : Sem.run Tryz.prog (method 432 249 rv "boundstone/chainage.long") w = .ok (313, rv) w := by kernel_rfl
theorem meth_py (rv : Value) (w : World) : Sem.run Tryz.prog (method 432 220 rv "boundstone/chainage.year") w = .ok (310, rv) w := by kernel_rfl
theorem meth_pl (rv : Value) (w : World) : Sem.run Tryz.prog (method 432 220 rv "boundstone/chainage.long") w = .ok (309, rv) w := by kernel_rfl
theorem meth_ry (rv : Value) (w : World) : Sem.run Tryz.prog (method 432 244 rv "boundstone/chainage.year") w = .ok (312, rv) w := by kernel_rfl
theorem meth_rl (rv : Value) (w : World) : Sem.run Tryz.prog (method 432 244 rv "boundstone/chainage.long") w = .ok (311, rv) w := by kernel_rfl
set_option maxRecDepth 100000 in
set_option maxHeartbeats 800000 in
theorem yearOf_any (v : Value) (t : Th) (w : World) (h : ThAt w v t) : Calls Tryz.prog 178 #[v] w fun e w' => e = .returned (.int .i64 t.year) ∧ Gr w w' := by
  have m1 := meth_my
  have m2 := meth_py
  have m3 := meth_ry
  rcases h with ⟨id, wear, rfl, -⟩ | ⟨b, ch, ty, rfl | rfl, rfl, hc⟩
  · go_enter Tryz.func178, Tryz.ntmps178
    go_wp2_with (go_at_call 314; refine (mYear_any _ _ _ _ _ _).mono ?_; rintro e w' ⟨rfl, hg⟩)
    go_ret
    exact ⟨rfl, hg⟩
  · have C := Calls.gr (pYear_any b t ch w hc)
    clear hc
    go_enter Tryz.func178, Tryz.ntmps178
    go_wp2_with (go_at_call 310; refine C.mono ?_; rintro e w' ⟨rfl, hg⟩)
    go_ret
    exact ⟨rfl, hg⟩
  · have C := Calls.gr (rYear_any b t ch w hc)
    clear hc
    go_enter Tryz.func178, Tryz.ntmps178
    go_wp2_with (go_at_call 312; refine C.mono ?_; rintro e w' ⟨rfl, hg⟩)
    go_ret
    exact ⟨rfl, hg⟩
set_option maxRecDepth 100000 in
set_option maxHeartbeats 800000 in
theorem number_any (v : Value) (t : Th) (w : World) (h : ThAt w v t) : Calls Tryz.prog 163 #[v] w fun e w' => e = .returned (.int .i64 t.num) ∧ w = w' := by
  have a1 := ta_mp
  have a2 := ta_mr
  have a3 := ta_pp
  have a4 := ta_rp
  have a5 := ta_rr
  rcases h with ⟨id, wear, rfl, h0⟩ | ⟨b, ch, ty, rfl | rfl, rfl, hc⟩
  · rw [h0]
    clear h0
    go_enter Tryz.func163, Tryz.ntmps163
    go_wp2_with fail
    go_ret
    exact ⟨rfl, rfl⟩
  · obtain ⟨c0, c2, c3, c4⟩ := thCells hc
    clear hc
    go_enter Tryz.func163, Tryz.ntmps163
    go_wp2_with fail
    go_ret
    exact ⟨rfl, rfl⟩
  · obtain ⟨c0, c2, c3, c4⟩ := thCells hc
    clear hc
    go_enter Tryz.func163, Tryz.ntmps163
    go_wp2_with fail
    go_ret
    exact ⟨rfl, rfl⟩

end Go.Proofs.YtcejmfgbfdhflaaGreat
namespace Go.Proofs.YtcejmfgbfdhflaaGreat
open Go.RowKit Go.BigFrame Go.Sort
attribute [local go_sem] World.cell?_alloc_some
theorem fld30_0 (a b : Int) (w : World) : Sem.run Tryz.prog (Instr.field 30 (.agg #[.int .i64 a, .int .i64 b]) 0) w = .ok (.int .i64 a) w := by kernel_rfl
theorem fld30_1 (a b : Int) (w : World) : Sem.run Tryz.prog (Instr.field 30 (.agg #[.int .i64 a, .int .i64 b]) 1) w = .ok (.int .i64 b) w := by kernel_rfl
/-- A spell. -/
structure Spl where
  lo : Int
  hi : Int
  wear : Int
  ths : List Th
def okTh (t : Th) : Bool := inB 0 4000 t.year && okLong t.lo t.hi
theorem okTh_iff {t : Th} : okTh t = true ↔ (0 ≤ t.year ∧ t.year ≤ 4000) ∧ t.lo ≤ t.hi ∧ 9000 ≤ t.lo ∧ t.hi ≤ 12000 := by simp [okTh, inB, okLong, insB]
def lowT (wear : Int) (t : Th) (y : Int) : Int := t.lo - wear * max 0 (t.year - y)
def highT (wear : Int) (t : Th) (y : Int) : Int := t.hi + wear * max 0 (y - t.year)
theorem mul_bd {u v : Int} (h1 : 0 ≤ u ∧ u ≤ 1000) (h2 : 0 ≤ v ∧ v ≤ 4000) : 0 ≤ u * v ∧ u * v ≤ 4000000 :=
  ⟨Int.mul_nonneg h1.1 h2.1, by have := Int.mul_le_mul h1.2 h2.2 h2.1 (by decide); simpa using this⟩
theorem max0 (x : Int) : (if 0 < x then x else 0) = max 0 x := by split <;> omega
theorem low_wrap {wear y : Int} {t : Th} (ht : okTh t = true) (hw : 0 ≤ wear ∧ wear ≤ 1000) (hy : 0 ≤ y ∧ y ≤ 4000) : wrap64 (t.lo - wrap64 (wear * if 0 < wrap64 (t.year - y) then wrap64 (t.year - y) else 0)) = lowT wear t y := by
  obtain ⟨h1, h2, h3, h4⟩ := okTh_iff.1 ht
  have hm := mul_bd hw (v := max 0 (t.year - y)) (by omega)
  rw [max0, w64 (n := t.year - y) (by omega), w64 (n := wear * max 0 (t.year - y)) (by omega), w64 (by omega)]
  rfl
theorem high_wrap {wear y : Int} {t : Th} (ht : okTh t = true) (hw : 0 ≤ wear ∧ wear ≤ 1000) (hy : 0 ≤ y ∧ y ≤ 4000) : wrap64 (t.hi + wrap64 (wear * if 0 < wrap64 (y - t.year) then wrap64 (y - t.year) else 0)) = highT wear t y := by
  obtain ⟨h1, h2, h3, h4⟩ := okTh_iff.1 ht
  have hm := mul_bd hw (v := max 0 (y - t.year)) (by omega)
  rw [max0, w64 (n := y - t.year) (by omega), w64 (n := wear * max 0 (y - t.year)) (by omega), w64 (by omega)]
  rfl
/-- A contract in the worlds grown from one. -/
theorem cinGL {C : World → Prop} {w : World} (H : Hid (∀ W W', C W → Gr W W' → C W')) (B : Hid (∀ n : Wd C, Gr w n.w)) {f : FuncId} {args : Array Value} {v : Value} (h : ∀ W, Gr w W → Calls Tryz.prog f args W fun e w' => e = .returned v ∧ Gr W w') (n : Wd C) :
    Hid (Calls Tryz.prog f args n.w fun e w'' => e = .returned v ∧ ∃ m : Wd C, w'' = m.w) :=
  Calls.quiet_in (C := C) ((h n.w (B.out n)).mono fun _ _ h => ⟨h.1, H.out _ _ n.h h.2⟩)
set_option maxRecDepth 100000 in
set_option maxHeartbeats 3200000 in
theorem lowBy_any (lo hi wear : Int) (q : Option Addr) (nn cap : Nat) (v : Value) (t : Th) (y : Int) (w : World) (ht : okTh t = true) (hw : 0 ≤ wear ∧ wear ≤ 1000) (hy : 0 ≤ y ∧ y ≤ 4000) (hv : ThAt w v t) :
    Calls Tryz.prog 104 #[.agg #[.int .i64 lo, .int .i64 hi, .int .i64 wear, .slice q nn cap], v, .int .i64 y] w fun e w' => e = .returned (.int .i64 (lowT wear t y)) ∧ Gr w w' := by
  have HL := Lib.hid (low_wrap ht hw hy)
  clear ht hw hy
  have e1 := fld30_0
  have e2 := fld30_1
  rcases hv with ⟨id, we, rfl, -⟩ | ⟨b, ch, ty, rfl | rfl, rfl, hc⟩
  · have m1 := meth_my
    have m2 := meth_ml
    have C1 := fun W (_ : Gr w W) => mYear_any id t.year t.lo t.hi we W
    have C2 := fun W (_ : Gr w W) => mLong_any id t.year t.lo t.hi we W
    simp only [spv] at C2
    go_enter Tryz.func104, Tryz.ntmps104
    go_wp2_with fail
    obtain ⟨W0, hW0⟩ : ∃ W0, (w).alloc (.cells #[.int .i64 lo, .int .i64 hi, .int .i64 wear, .slice q nn cap] 111) = W0 := ⟨_, rfl⟩
    have S0 : StG w W0 [(w.heap.size, 0, .int .i64 lo), (w.heap.size, 1, .int .i64 hi), (w.heap.size, 2, .int .i64 wear), (w.heap.size, 3, .slice q nn cap)] := by rw [← hW0]; exact ((StG.nil w)).box #[.int .i64 lo, .int .i64 hi, .int .i64 wear, .slice q nn cap] 111 (w.heap.size) (by simp)
    rw [hW0]
    clear hW0
    obtain ⟨C, hC0, HC, LC, BC, hne⟩ := clsG S0
    haveI := hne
    obtain ⟨c0, rfl⟩ : ∃ n : Wd C, W0 = n.w := ⟨⟨_, hC0⟩, rfl⟩
    have fC0 : ∀ n : Wd C, n.w.cell? ⟨w.heap.size, 0, none⟩ = some (.int .i64 lo) := fun n => (LC.out n).1.2.1
    have fC1 : ∀ n : Wd C, n.w.cell? ⟨w.heap.size, 1, none⟩ = some (.int .i64 hi) := fun n => (LC.out n).2.1.2.1
    have fC2 : ∀ n : Wd C, n.w.cell? ⟨w.heap.size, 2, none⟩ = some (.int .i64 wear) := fun n => (LC.out n).2.2.1.2.1
    have fC3 : ∀ n : Wd C, n.w.cell? ⟨w.heap.size, 3, none⟩ = some (.slice q nn cap) := fun n => (LC.out n).2.2.2.1.2.1
    clear S0 hC0
    have D1 := cinGL HC BC C1
    have D2 := cinGL HC BC C2
    clear C1 C2
    refine wp_region_in C (HC.out _ _ (Wd.h _) (Gr.dr _)) (by kernel_rfl) (by kernel_rfl) ?_
    repeat (go_big_quiet_step (first | with_reducible exact (D1 _).out | with_reducible exact (D2 _).out))
    refine wpQuiet_nil ?_
    intro wx hwx
    obtain ⟨n, rfl⟩ : ∃ n : Wd C, wx = n.w := ⟨⟨wx, hwx⟩, rfl⟩
    clear hwx
    go_wp2_with fail
    all_goals (go_ret; refine ⟨ret_int ?_, BC.out _⟩; rw [← HL.out]; first | rw [if_pos ‹_›] | rw [if_neg (by omega), Int.mul_zero])
  · have m1 := meth_py
    have m2 := meth_pl
    have C1 := fun W (hg : Gr w W) => Calls.gr (pYear_any b t ch W (hc.keep hg.below))
    have C2 := fun W (hg : Gr w W) => pLong_any b t ch W (hc.keep hg.below)
    clear hc
    simp only [spv] at C2
    go_enter Tryz.func104, Tryz.ntmps104
    go_wp2_with fail
    obtain ⟨W0, hW0⟩ : ∃ W0, (w).alloc (.cells #[.int .i64 lo, .int .i64 hi, .int .i64 wear, .slice q nn cap] 111) = W0 := ⟨_, rfl⟩
    have S0 : StG w W0 [(w.heap.size, 0, .int .i64 lo), (w.heap.size, 1, .int .i64 hi), (w.heap.size, 2, .int .i64 wear), (w.heap.size, 3, .slice q nn cap)] := by rw [← hW0]; exact ((StG.nil w)).box #[.int .i64 lo, .int .i64 hi, .int .i64 wear, .slice q nn cap] 111 (w.heap.size) (by simp)
    rw [hW0]
    clear hW0
    obtain ⟨C, hC0, HC, LC, BC, hne⟩ := clsG S0
    haveI := hne
    obtain ⟨c0, rfl⟩ : ∃ n : Wd C, W0 = n.w := ⟨⟨_, hC0⟩, rfl⟩
    have fC0 : ∀ n : Wd C, n.w.cell? ⟨w.heap.size, 0, none⟩ = some (.int .i64 lo) := fun n => (LC.out n).1.2.1
    have fC1 : ∀ n : Wd C, n.w.cell? ⟨w.heap.size, 1, none⟩ = some (.int .i64 hi) := fun n => (LC.out n).2.1.2.1
    have fC2 : ∀ n : Wd C, n.w.cell? ⟨w.heap.size, 2, none⟩ = some (.int .i64 wear) := fun n => (LC.out n).2.2.1.2.1
    have fC3 : ∀ n : Wd C, n.w.cell? ⟨w.heap.size, 3, none⟩ = some (.slice q nn cap) := fun n => (LC.out n).2.2.2.1.2.1
    clear S0 hC0
    have D1 := cinGL HC BC C1
    have D2 := cinGL HC BC C2
    clear C1 C2
    refine wp_region_in C (HC.out _ _ (Wd.h _) (Gr.dr _)) (by kernel_rfl) (by kernel_rfl) ?_
    repeat (go_big_quiet_step (first | with_reducible exact (D1 _).out | with_reducible exact (D2 _).out))
    refine wpQuiet_nil ?_
    intro wx hwx
    obtain ⟨n, rfl⟩ : ∃ n : Wd C, wx = n.w := ⟨⟨wx, hwx⟩, rfl⟩
    clear hwx
    go_wp2_with fail
    all_goals (go_ret; refine ⟨ret_int ?_, BC.out _⟩; rw [← HL.out]; first | rw [if_pos ‹_›] | rw [if_neg (by omega), Int.mul_zero])
  · have m1 := meth_ry
    have m2 := meth_rl
    have C1 := fun W (hg : Gr w W) => Calls.gr (rYear_any b t ch W (hc.keep hg.below))
    have C2 := fun W (hg : Gr w W) => rLong_any b t ch W (hc.keep hg.below)
    clear hc
    simp only [spv] at C2
    go_enter Tryz.func104, Tryz.ntmps104
    go_wp2_with fail
    obtain ⟨W0, hW0⟩ : ∃ W0, (w).alloc (.cells #[.int .i64 lo, .int .i64 hi, .int .i64 wear, .slice q nn cap] 111) = W0 := ⟨_, rfl⟩
    have S0 : StG w W0 [(w.heap.size, 0, .int .i64 lo), (w.heap.size, 1, .int .i64 hi), (w.heap.size, 2, .int .i64 wear), (w.heap.size, 3, .slice q nn cap)] := by rw [← hW0]; exact ((StG.nil w)).box #[.int .i64 lo, .int .i64 hi, .int .i64 wear, .slice q nn cap] 111 (w.heap.size) (by simp)
    rw [hW0]
    clear hW0
    obtain ⟨C, hC0, HC, LC, BC, hne⟩ := clsG S0
    haveI := hne
    obtain ⟨c0, rfl⟩ : ∃ n : Wd C, W0 = n.w := ⟨⟨_, hC0⟩, rfl⟩
    have fC0 : ∀ n : Wd C, n.w.cell? ⟨w.heap.size, 0, none⟩ = some (.int .i64 lo) := fun n => (LC.out n).1.2.1
    have fC1 : ∀ n : Wd C, n.w.cell? ⟨w.heap.size, 1, none⟩ = some (.int .i64 hi) := fun n => (LC.out n).2.1.2.1
    have fC2 : ∀ n : Wd C, n.w.cell? ⟨w.heap.size, 2, none⟩ = some (.int .i64 wear) := fun n => (LC.out n).2.2.1.2.1
    have fC3 : ∀ n : Wd C, n.w.cell? ⟨w.heap.size, 3, none⟩ = some (.slice q nn cap) := fun n => (LC.out n).2.2.2.1.2.1
    clear S0 hC0
    have D1 := cinGL HC BC C1
    have D2 := cinGL HC BC C2
    clear C1 C2
    refine wp_region_in C (HC.out _ _ (Wd.h _) (Gr.dr _)) (by kernel_rfl) (by kernel_rfl) ?_
    repeat (go_big_quiet_step (first | with_reducible exact (D1 _).out | with_reducible exact (D2 _).out))
    refine wpQuiet_nil ?_
    intro wx hwx
    obtain ⟨n, rfl⟩ : ∃ n : Wd C, wx = n.w := ⟨⟨wx, hwx⟩, rfl⟩
    clear hwx
    go_wp2_with fail
    all_goals (go_ret; refine ⟨ret_int ?_, BC.out _⟩; rw [← HL.out]; first | rw [if_pos ‹_›] | rw [if_neg (by omega), Int.mul_zero])
set_option maxRecDepth 100000 in
set_option maxHeartbeats 3200000 in
theorem highBy_any (lo hi wear : Int) (q : Option Addr) (nn cap : Nat) (v : Value) (t : Th) (y : Int) (w : World) (ht : okTh t = true) (hw : 0 ≤ wear ∧ wear ≤ 1000) (hy : 0 ≤ y ∧ y ≤ 4000) (hv : ThAt w v t) :
    Calls Tryz.prog 106 #[.agg #[.int .i64 lo, .int .i64 hi, .int .i64 wear, .slice q nn cap], v, .int .i64 y] w fun e w' => e = .returned (.int .i64 (highT wear t y)) ∧ Gr w w' := by
  have HL := Lib.hid (high_wrap ht hw hy)
  clear ht hw hy
  have e1 := fld30_0
  have e2 := fld30_1
  rcases hv with ⟨id, we, rfl, -⟩ | ⟨b, ch, ty, rfl | rfl, rfl, hc⟩
  · have m1 := meth_my
    have m2 := meth_ml
    have C1 := fun W (_ : Gr w W) => mYear_any id t.year t.lo t.hi we W
    have C2 := fun W (_ : Gr w W) => mLong_any id t.year t.lo t.hi we W
    simp only [spv] at C2
    go_enter Tryz.func106, Tryz.ntmps106
    go_wp2_with fail
    obtain ⟨W0, hW0⟩ : ∃ W0, (w).alloc (.cells #[.int .i64 lo, .int .i64 hi, .int .i64 wear, .slice q nn cap] 111) = W0 := ⟨_, rfl⟩
    have S0 : StG w W0 [(w.heap.size, 0, .int .i64 lo), (w.heap.size, 1, .int .i64 hi), (w.heap.size, 2, .int .i64 wear), (w.heap.size, 3, .slice q nn cap)] := by rw [← hW0]; exact ((StG.nil w)).box #[.int .i64 lo, .int .i64 hi, .int .i64 wear, .slice q nn cap] 111 (w.heap.size) (by simp)
    rw [hW0]
    clear hW0
    obtain ⟨C, hC0, HC, LC, BC, hne⟩ := clsG S0
    haveI := hne
    obtain ⟨c0, rfl⟩ : ∃ n : Wd C, W0 = n.w := ⟨⟨_, hC0⟩, rfl⟩
    have fC0 : ∀ n : Wd C, n.w.cell? ⟨w.heap.size, 0, none⟩ = some (.int .i64 lo) := fun n => (LC.out n).1.2.1
    have fC1 : ∀ n : Wd C, n.w.cell? ⟨w.heap.size, 1, none⟩ = some (.int .i64 hi) := fun n => (LC.out n).2.1.2.1
    have fC2 : ∀ n : Wd C, n.w.cell? ⟨w.heap.size, 2, none⟩ = some (.int .i64 wear) := fun n => (LC.out n).2.2.1.2.1
    have fC3 : ∀ n : Wd C, n.w.cell? ⟨w.heap.size, 3, none⟩ = some (.slice q nn cap) := fun n => (LC.out n).2.2.2.1.2.1
    clear S0 hC0
    have D1 := cinGL HC BC C1
    have D2 := cinGL HC BC C2
    clear C1 C2
    refine wp_region_in C (HC.out _ _ (Wd.h _) (Gr.dr _)) (by kernel_rfl) (by kernel_rfl) ?_
    repeat (go_big_quiet_step (first | with_reducible exact (D1 _).out | with_reducible exact (D2 _).out))
    refine wpQuiet_nil ?_
    intro wx hwx
    obtain ⟨n, rfl⟩ : ∃ n : Wd C, wx = n.w := ⟨⟨wx, hwx⟩, rfl⟩
    clear hwx
    go_wp2_with fail
    all_goals (go_ret; refine ⟨ret_int ?_, BC.out _⟩; rw [← HL.out]; first | rw [if_pos ‹_›] | rw [if_neg (by omega), Int.mul_zero])
  · have m1 := meth_py
    have m2 := meth_pl
    have C1 := fun W (hg : Gr w W) => Calls.gr (pYear_any b t ch W (hc.keep hg.below))
    have C2 := fun W (hg : Gr w W) => pLong_any b t ch W (hc.keep hg.below)
    clear hc
    simp only [spv] at C2
    go_enter Tryz.func106, Tryz.ntmps106
    go_wp2_with fail
    obtain ⟨W0, hW0⟩ : ∃ W0, (w).alloc (.cells #[.int .i64 lo, .int .i64 hi, .int .i64 wear, .slice q nn cap] 111) = W0 := ⟨_, rfl⟩
    have S0 : StG w W0 [(w.heap.size, 0, .int .i64 lo), (w.heap.size, 1, .int .i64 hi), (w.heap.size, 2, .int .i64 wear), (w.heap.size, 3, .slice q nn cap)] := by rw [← hW0]; exact ((StG.nil w)).box #[.int .i64 lo, .int .i64 hi, .int .i64 wear, .slice q nn cap] 111 (w.heap.size) (by simp)
    rw [hW0]
    clear hW0
    obtain ⟨C, hC0, HC, LC, BC, hne⟩ := clsG S0
    haveI := hne
    obtain ⟨c0, rfl⟩ : ∃ n : Wd C, W0 = n.w := ⟨⟨_, hC0⟩, rfl⟩
    have fC0 : ∀ n : Wd C, n.w.cell? ⟨w.heap.size, 0, none⟩ = some (.int .i64 lo) := fun n => (LC.out n).1.2.1
    have fC1 : ∀ n : Wd C, n.w.cell? ⟨w.heap.size, 1, none⟩ = some (.int .i64 hi) := fun n => (LC.out n).2.1.2.1
    have fC2 : ∀ n : Wd C, n.w.cell? ⟨w.heap.size, 2, none⟩ = some (.int .i64 wear) := fun n => (LC.out n).2.2.1.2.1
    have fC3 : ∀ n : Wd C, n.w.cell? ⟨w.heap.size, 3, none⟩ = some (.slice q nn cap) := fun n => (LC.out n).2.2.2.1.2.1
    clear S0 hC0
    have D1 := cinGL HC BC C1
    have D2 := cinGL HC BC C2
    clear C1 C2
    refine wp_region_in C (HC.out _ _ (Wd.h _) (Gr.dr _)) (by kernel_rfl) (by kernel_rfl) ?_
    repeat (go_big_quiet_step (first | with_reducible exact (D1 _).out | with_reducible exact (D2 _).out))
    refine wpQuiet_nil ?_
    intro wx hwx
    obtain ⟨n, rfl⟩ : ∃ n : Wd C, wx = n.w := ⟨⟨wx, hwx⟩, rfl⟩
    clear hwx
    go_wp2_with fail
    all_goals (go_ret; refine ⟨ret_int ?_, BC.out _⟩; rw [← HL.out]; first | rw [if_pos ‹_›] | rw [if_neg (by omega), Int.mul_zero])
  · have m1 := meth_ry
    have m2 := meth_rl
    have C1 := fun W (hg : Gr w W) => Calls.gr (rYear_any b t ch W (hc.keep hg.below))
    have C2 := fun W (hg : Gr w W) => rLong_any b t ch W (hc.keep hg.below)
    clear hc
    simp only [spv] at C2
    go_enter Tryz.func106, Tryz.ntmps106
    go_wp2_with fail
    obtain ⟨W0, hW0⟩ : ∃ W0, (w).alloc (.cells #[.int .i64 lo, .int .i64 hi, .int .i64 wear, .slice q nn cap] 111) = W0 := ⟨_, rfl⟩
    have S0 : StG w W0 [(w.heap.size, 0, .int .i64 lo), (w.heap.size, 1, .int .i64 hi), (w.heap.size, 2, .int .i64 wear), (w.heap.size, 3, .slice q nn cap)] := by rw [← hW0]; exact ((StG.nil w)).box #[.int .i64 lo, .int .i64 hi, .int .i64 wear, .slice q nn cap] 111 (w.heap.size) (by simp)
    rw [hW0]
    clear hW0
    obtain ⟨C, hC0, HC, LC, BC, hne⟩ := clsG S0
    haveI := hne
    obtain ⟨c0, rfl⟩ : ∃ n : Wd C, W0 = n.w := ⟨⟨_, hC0⟩, rfl⟩
    have fC0 : ∀ n : Wd C, n.w.cell? ⟨w.heap.size, 0, none⟩ = some (.int .i64 lo) := fun n => (LC.out n).1.2.1
    have fC1 : ∀ n : Wd C, n.w.cell? ⟨w.heap.size, 1, none⟩ = some (.int .i64 hi) := fun n => (LC.out n).2.1.2.1
    have fC2 : ∀ n : Wd C, n.w.cell? ⟨w.heap.size, 2, none⟩ = some (.int .i64 wear) := fun n => (LC.out n).2.2.1.2.1
    have fC3 : ∀ n : Wd C, n.w.cell? ⟨w.heap.size, 3, none⟩ = some (.slice q nn cap) := fun n => (LC.out n).2.2.2.1.2.1
    clear S0 hC0
    have D1 := cinGL HC BC C1
    have D2 := cinGL HC BC C2
    clear C1 C2
    refine wp_region_in C (HC.out _ _ (Wd.h _) (Gr.dr _)) (by kernel_rfl) (by kernel_rfl) ?_
    repeat (go_big_quiet_step (first | with_reducible exact (D1 _).out | with_reducible exact (D2 _).out))
    refine wpQuiet_nil ?_
    intro wx hwx
    obtain ⟨n, rfl⟩ : ∃ n : Wd C, wx = n.w := ⟨⟨wx, hwx⟩, rfl⟩
    clear hwx
    go_wp2_with fail
    all_goals (go_ret; refine ⟨ret_int ?_, BC.out _⟩; rw [← HL.out]; first | rw [if_pos ‹_›] | rw [if_neg (by omega), Int.mul_zero])

end Go.Proofs.YtcejmfgbfdhflaaGreat
namespace Go.Proofs.YtcejmfgbfdhflaaGreat
open Go.RowKit Go.BigFrame Go.Sort
attribute [local go_sem] World.cell?_alloc_some
/-- A list of numbers lies at a slice. -/
def IntsAt (W : World) (q : Option Addr) (l : List Int) : Prop := l = [] ∨ ∃ b o, q = some ⟨b, o, none⟩ ∧ b < W.heap.size ∧ ∀ j x, l[j]? = some x → W.cell? ⟨b, o + j, none⟩ = some (.int .i64 x)
theorem IntsAt.keep {W W' : World} {q : Option Addr} {l : List Int} (h : IntsAt W q l) (hb : Below W.heap.size W W') : IntsAt W' q l := by
  rcases h with h | ⟨b, o, h1, h2, h3⟩
  · exact .inl h
  · exact .inr ⟨b, o, h1, Nat.lt_of_lt_of_le h2 hb.size, fun j x hj => (hb.cell (p := ⟨b, o + j, none⟩) h2).trans (h3 j x hj)⟩
theorem take_snocG {α : Type} (l : List α) (k : Nat) (h : k < l.length) : l.take (k + 1) = l.take k ++ [l[k]] := by
  rw [List.take_succ_eq_append_getElem h]
def mxs (a : Int) (l : List Int) : Int := l.foldl (fun x y => max x y) a
def mns (a : Int) (l : List Int) : Int := l.foldl (fun x y => min x y) a
theorem mxs_snoc (a : Int) (l : List Int) (x : Int) : mxs a (l ++ [x]) = max (mxs a l) x := by simp [mxs]
theorem mns_snoc (a : Int) (l : List Int) (x : Int) : mns a (l ++ [x]) = min (mns a l) x := by simp [mns]
theorem ifmax (a b : Int) : (if a < b then b else a) = max a b := by split <;> omega
theorem ifmin (a b : Int) : (if b < a then b else a) = min a b := by split <;> omega
set_option maxRecDepth 100000 in
set_option maxHeartbeats 1600000 in
theorem greatest_any (a : Int) (q : Option Addr) (cap : Nat) (l : List Int) (w : World) (hl : l.length ≤ 1000000) (h : IntsAt w q l) :
    Calls Tryz.prog 180 #[.int .i64 a, .slice q l.length cap] w fun e w' => e = .returned (.int .i64 (mxs a l)) ∧ w = w' := by
  have H := Lib.hid h
  clear h
  go_enter Tryz.func180, Tryz.ntmps180
  go_wp2_with fail
  go_loop [5, 11] (fun v i => ∃ k : Nat, k ≤ l.length ∧ i = .int .i64 (k : Int) ∧ v = .int .i64 (mxs a (l.take k))) (fun _ i => l.length - (intOf i).toNat)
  case atStart => exact ⟨0, Nat.zero_le _, rfl, rfl⟩
  case round =>
    obtain ⟨k, hk, rfl, rfl⟩ := hrel
    by_cases hlt : k < l.length
    · rcases H.out with rfl | ⟨b, o, rfl, hb, hc⟩
      · exact absurd hlt (Nat.not_lt_zero _)
      · have c1 := hc k l[k] (List.getElem?_eq_getElem hlt)
        have HN : Hid (mxs a (l.take (k + 1)) = max (mxs a (l.take k)) l[k]) := by unfold Hid; rw [take_snocG l k hlt, mxs_snoc]
        obtain ⟨x, hx⟩ : ∃ x, l[k] = x := ⟨_, rfl⟩
        obtain ⟨m, hm⟩ : ∃ m, mxs a (l.take k) = m := ⟨_, rfl⟩
        rw [hx] at c1 HN
        rw [hm] at HN ⊢
        have hlt' : (k : Int) < (l.length : Int) := by omega
        clear hx hm hc
        go_wp2_with fail
        all_goals
          go_round
          case rel => exact ⟨k + 1, hlt, by go_num, by rw [HN.out, ← ifmax]⟩
          case measure => simp [intOf]; omega
    · obtain rfl : k = l.length := by omega
      go_wp2_with fail
      go_ret
      exact ⟨ret_int (by first | rfl | simp), rfl⟩
set_option maxRecDepth 100000 in
set_option maxHeartbeats 1600000 in
theorem least_any (a : Int) (q : Option Addr) (cap : Nat) (l : List Int) (w : World) (hl : l.length ≤ 1000000) (h : IntsAt w q l) :
    Calls Tryz.prog 182 #[.int .i64 a, .slice q l.length cap] w fun e w' => e = .returned (.int .i64 (mns a l)) ∧ w = w' := by
  have H := Lib.hid h
  clear h
  go_enter Tryz.func182, Tryz.ntmps182
  go_wp2_with fail
  go_loop [5, 11] (fun v i => ∃ k : Nat, k ≤ l.length ∧ i = .int .i64 (k : Int) ∧ v = .int .i64 (mns a (l.take k))) (fun _ i => l.length - (intOf i).toNat)
  case atStart => exact ⟨0, Nat.zero_le _, rfl, rfl⟩
  case round =>
    obtain ⟨k, hk, rfl, rfl⟩ := hrel
    by_cases hlt : k < l.length
    · rcases H.out with rfl | ⟨b, o, rfl, hb, hc⟩
      · exact absurd hlt (Nat.not_lt_zero _)
      · have c1 := hc k l[k] (List.getElem?_eq_getElem hlt)
        have HN : Hid (mns a (l.take (k + 1)) = min (mns a (l.take k)) l[k]) := by unfold Hid; rw [take_snocG l k hlt, mns_snoc]
        obtain ⟨x, hx⟩ : ∃ x, l[k] = x := ⟨_, rfl⟩
        obtain ⟨m, hm⟩ : ∃ m, mns a (l.take k) = m := ⟨_, rfl⟩
        rw [hx] at c1 HN
        rw [hm] at HN ⊢
        have hlt' : (k : Int) < (l.length : Int) := by omega
        clear hx hm hc
        go_wp2_with fail
        all_goals
          go_round
          case rel => exact ⟨k + 1, hlt, by go_num, by rw [HN.out, ← ifmin]⟩
          case measure => simp [intOf]; omega
    · obtain rfl : k = l.length := by omega
      go_wp2_with fail
      go_ret
      exact ⟨ret_int (by first | rfl | simp), rfl⟩

theorem ownsRow_keep {W W' : World} {B : Nat} {e : TypeId} {k n : Nat} {v : Value} {xs : List Value} (h : W.ownsRow B e k v n xs) (hb : Below W.heap.size W W') : W'.ownsRow B e k v n xs := by
  obtain ⟨h1, h2 | ⟨g, cap, cur, rfl, hg, hc, h3, h4, h5, h6⟩⟩ := h
  · exact ⟨h1, .inl h2⟩
  · exact ⟨h1, .inr ⟨g, cap, cur, rfl, hg, by rw [hb.block g (Array.getElem?_eq_some_iff.1 hc).1]; exact hc, h3, h4, h5, h6⟩⟩
theorem Cs.grown {W W' : World} {row : Option Nat} (hg : W.grownBy W' row) : ∀ {L : List (Nat × Nat × Value)}, (∀ x ∈ L, some x.1 ≠ row) → Cs W L → Cs W' L
  | [], _, _ => trivial
  | (b, o, v) :: L, hf, h => ⟨⟨Nat.lt_of_lt_of_le h.1.1 hg.size, by rw [World.cell?_of_block (a := ⟨b, o, none⟩) (hg.block b h.1.1 (hf _ List.mem_cons_self))]; exact h.1.2.1, by rw [World.frozen?_of_block (a := ⟨b, o, none⟩) (hg.block b h.1.1 (hf _ List.mem_cons_self))]; exact h.1.2.2⟩,
      Cs.grown hg (fun x hx => hf x (List.mem_cons_of_mem _ hx)) h.2⟩
theorem ownBlock_lo {W : World} {B : Nat} {e : TypeId} {k n : Nat} {v : Value} {xs : List Value} (h : W.ownsRow B e k v n xs) {r : Nat} (hr : v.ownBlock = some r) : B ≤ r := by
  obtain ⟨_, ⟨rfl, _⟩ | ⟨g, cap, cur, rfl, hg, _⟩⟩ := h
  · simp [Value.ownBlock] at hr
  · simp only [Value.ownBlock, Option.some.injEq] at hr; omega
/-- What lies there stays when a row of the call's own has grown. -/
theorem St.grown {w W W' : World} {L : List (Nat × Nat × Value)} {B : Nat} {e : TypeId} {k n : Nat} {v : Value} {xs : List Value} (h : St w W L) (ho : W.ownsRow B e k v n xs) (hg : W.grownBy W' v.ownBlock) (hw : w.heap.size ≤ B) (hL : ∀ x ∈ L, x.1 < B) : St w W' L := by
  refine ⟨?_, h.c.grown hg (fun x hx e => ?_)⟩
  · refine h.b.trans ⟨hg.os, hg.tape, hg.output, hg.size, fun k hk => hg.block k (Nat.lt_of_lt_of_le hk h.b.size) (fun e => ?_)⟩
    have := ownBlock_lo ho e.symm
    omega
  · have := ownBlock_lo ho e.symm
    have := hL x hx
    omega
/-- Numbers that the call owns. -/
abbrev OI (W : World) (B : Nat) (v : Value) (l : List Int) : Prop := W.ownsRow B 3 1 v l.length (l.map (Value.int .i64))
theorem OI.ints {W : World} {B : Nat} {v : Value} {l : List Int} (h : OI W B v l) : ∃ q cap, v = .slice q l.length cap ∧ IntsAt W q l ∧ (q = none ↔ v = .slice none 0 0) := by
  obtain ⟨h1, ⟨rfl, h2⟩ | ⟨g, cap, cur, rfl, hg, hc, h3, h4, h5, h6⟩⟩ := h
  · exact ⟨none, 0, by rw [h2], .inl (List.length_eq_zero_iff.1 h2), by simp⟩
  · refine ⟨some ⟨g, 0, none⟩, cap, rfl, .inr ⟨g, 0, rfl, (Array.getElem?_eq_some_iff.1 hc).1, fun j x hj => ?_⟩, by simp⟩
    have hlt : j < l.length := (List.getElem?_eq_some_iff.1 hj).1
    have g1 : (l.map (Value.int .i64))[j]? = some (.int .i64 x) := by rw [List.getElem?_map, hj]; rfl
    rw [← h6, List.getElem?_take_of_lt (by omega)] at g1
    rw [Nat.zero_add]
    simpa [World.cell?, hc] using g1
theorem inf3 : (Tryz.prog.info? 3).map (fun i => (i.zero, i.size, i.bytes)) = some (some (.int .i64 0), 1, 8) := by kernel_rfl
/-- One number more. -/
theorem appI {B : Nat} {v : Value} {l : List Int} {W : World} (hP : OI W B v l) (hw : B ≤ W.heap.size) (x : Int) (hl : l.length ≤ 1000000) {ops : Array Oper} {rest : List Oper} {o : Oper} {a : Act} {Q : Exit → Act → World → Prop} (hgd : o.guard = none) (s y : Operand)
    (ho : o.op = .call { callee := .builtin .append, args := #[s, y], argTypes := #[36, 36] }) (hs : a.eval s = v) (hx : a.eval y = .slice (some ⟨W.heap.size, 0, none⟩) 1 1)
    (h : ∀ v' w', OI w' B v' (l ++ [x]) → W.grownBy w' v.ownBlock → wpList Tryz.prog ops Q rest (a.put o.dst v') w') : wpList Tryz.prog ops Q (o :: rest) a (W.alloc (.cells #[.int .i64 x] 3)) := by
  obtain ⟨i0, hi, hz0, hz1, hz2⟩ := info_parts inf3
  refine wpList_append_own _ hgd s y 36 ho B 3 i0 (.int .i64 0) 1 8 Tryz.underlying36 hi hz0 hz1 hz2 rfl (by decide) v l.length (l.map (Value.int .i64)) hs (hP.alloc _) ⟨W.heap.size, 0, none⟩ 1 1 [.int .i64 x] hx rfl ?_ ?_ ?_ ?_ ?_ ?_
  · intro j u hu
    match j, hu with
    | 0, hu =>
      obtain rfl : Value.int .i64 x = u := by simpa using hu
      exact new_at W _ 3 0 _ rfl
  · intro u hu; obtain rfl : u = .int .i64 x := by simpa using hu
    rfl
  · unfold maxLen; omega
  · omega
  · simp; omega
  · intro v' w' ho' hg _
    refine h v' w' ?_ ?_
    · show w'.ownsRow B 3 1 v' (l ++ [x]).length ((l ++ [x]).map (Value.int .i64))
      rw [List.length_append, List.map_append]; exact ho'
    · exact ⟨hg.os, hg.tape, hg.output, by have := hg.size; simp at this; omega, fun k hk hne => (hg.block k (by simp; omega) hne).trans (Below.heap_alloc W _ k hk)⟩
/-- The things of a spell lie at a slice. -/
def ThsAt (W : World) (q : Option Addr) (ts : List Th) : Prop := ts = [] ∨ ∃ b o, q = some ⟨b, o, none⟩ ∧ b < W.heap.size ∧ ∀ j t, ts[j]? = some t → ∃ v, W.cell? ⟨b, o + j, none⟩ = some v ∧ ThAt W v t
theorem ThsAt.keep {W W' : World} {q : Option Addr} {l : List Th} (h : ThsAt W q l) (hb : Below W.heap.size W W') : ThsAt W' q l := by
  rcases h with h | ⟨b, o, h1, h2, h3⟩
  · exact .inl h
  · refine .inr ⟨b, o, h1, Nat.lt_of_lt_of_le h2 hb.size, fun j x hj => ?_⟩
    obtain ⟨v, hv, ht⟩ := h3 j x hj
    exact ⟨v, (hb.cell (p := ⟨b, o + j, none⟩) h2).trans hv, ht.keep hb⟩
def lowS (s : Spl) (y : Int) : Int := mxs 9000 (s.ths.map fun t => lowT s.wear t y)
def highS (s : Spl) (y : Int) : Int := mns 12000 (s.ths.map fun t => highT s.wear t y)
def okS (s : Spl) : Bool := decide (s.ths.length ≤ 1000) && (inB 0 1000 s.wear && s.ths.all okTh)
theorem okS_iff {s : Spl} : okS s = true ↔ s.ths.length ≤ 1000 ∧ (0 ≤ s.wear ∧ s.wear ≤ 1000) ∧ ∀ t ∈ s.ths, okTh t = true := by simp [okS, inB_iff]
abbrev Spl.v (s : Spl) (q : Option Addr) (cap : Nat) : Value := .agg #[.int .i64 s.lo, .int .i64 s.hi, .int .i64 s.wear, .slice q s.ths.length cap]
set_option maxRecDepth 100000 in
set_option maxHeartbeats 3200000 in
theorem low_any (s : Spl) (q : Option Addr) (cap : Nat) (y : Int) (w : World) (hs : okS s = true) (hy : 0 ≤ y ∧ y ≤ 4000) (h : ThsAt w q s.ths) :
    Calls Tryz.prog 123 #[s.v q cap, .int .i64 y] w fun e w' => e = .returned (.int .i64 (lowS s y)) ∧ Below w.heap.size w w' := by
  obtain ⟨s1, s2, s3⟩ := okS_iff.1 hs
  obtain ⟨lo, hi, wear, ths⟩ := s
  simp only [Spl.v] at *
  have H := Lib.hid h
  have H2 := Lib.hid s2
  have H3 := Lib.hid s3
  have HY := Lib.hid hy
  clear h s2 s3 hs hy
  have hl : ths.length ≤ 1000 := s1
  clear s1
  go_enter Tryz.func123, Tryz.ntmps123
  go_wp2_with fail
  obtain ⟨W0, hW0⟩ : ∃ W0, (w).alloc (.cells #[.int .i64 lo, .int .i64 hi, .int .i64 wear, .slice q ths.length cap] 111) = W0 := ⟨_, rfl⟩
  have S0 : St w W0 [(w.heap.size, 0, .int .i64 lo), (w.heap.size, 1, .int .i64 hi), (w.heap.size, 2, .int .i64 wear), (w.heap.size, 3, .slice q ths.length cap)] := by rw [← hW0]; exact ((St.nil w)).box #[.int .i64 lo, .int .i64 hi, .int .i64 wear, .slice q ths.length cap] 111 (w.heap.size) (by simp)
  rw [hW0]
  clear hW0
  obtain ⟨C, hC0, HC, LC, BC, hne⟩ := cls S0
  haveI := hne
  obtain ⟨c0, rfl⟩ : ∃ n : Wd C, W0 = n.w := ⟨⟨_, hC0⟩, rfl⟩
  have fC0 : ∀ n : Wd C, n.w.cell? ⟨w.heap.size, 0, none⟩ = some (.int .i64 lo) := fun n => (LC.out n).1.2.1
  have fC1 : ∀ n : Wd C, n.w.cell? ⟨w.heap.size, 1, none⟩ = some (.int .i64 hi) := fun n => (LC.out n).2.1.2.1
  have fC2 : ∀ n : Wd C, n.w.cell? ⟨w.heap.size, 2, none⟩ = some (.int .i64 wear) := fun n => (LC.out n).2.2.1.2.1
  have fC3 : ∀ n : Wd C, n.w.cell? ⟨w.heap.size, 3, none⟩ = some (.slice q ths.length cap) := fun n => (LC.out n).2.2.2.1.2.1
  clear S0 hC0
  go_wp2_with fail
  go_loopw [5, 11] (fun v i wr => ∃ (k : Nat), St w wr [(w.heap.size, 0, .int .i64 lo), (w.heap.size, 1, .int .i64 hi), (w.heap.size, 2, .int .i64 wear), (w.heap.size, 3, .slice q ths.length cap)] ∧ i = .int .i64 (k : Int) ∧ k ≤ ths.length ∧ OI wr (w.heap.size + 1) v ((ths.take k).map fun t => lowT wear t y)) (fun v i wr => ths.length - (intOf i).toNat)
  case atStart => exact ⟨0, ⟨BC.out _, LC.out _⟩, rfl, Nat.zero_le _, World.ownsRow_nil _ _ _ _⟩
  case round =>
    obtain ⟨k, hS, rfl, hk, hO⟩ := hrel
    have HO := Lib.hid hO
    have HB := Lib.hid hS.b
    clear fC0 fC1 fC2 fC3 hO
    by_cases hlt : k < ths.length
    · rcases H.out with h0 | ⟨b, o, rfl, hb, hc⟩
      · exact absurd hlt (by simp [h0])
      · obtain ⟨tv, htv, hth⟩ := hc k ths[k] (List.getElem?_eq_getElem hlt)
        have c1 := (hS.b.cell (p := ⟨b, o + k, none⟩) hb).trans htv
        have CL := lowBy_any lo hi wear (some ⟨b, o, none⟩) ths.length cap tv ths[k] y wr (H3.out _ (List.getElem_mem hlt)) H2.out HY.out (hth.keep hS.b)
        have HN : Hid ((ths.take (k + 1)).map (fun t => lowT wear t y) = (ths.take k).map (fun t => lowT wear t y) ++ [lowT wear ths[k] y]) := by unfold Hid; rw [take_snocG ths k hlt, List.map_append]; rfl
        obtain ⟨x, hx⟩ : ∃ x, lowT wear ths[k] y = x := ⟨_, rfl⟩
        rw [hx] at CL HN
        have HLn : Hid (((ths.take k).map fun t => lowT wear t y).length ≤ 1000000) := by unfold Hid; simp; omega
        have hlt' : (k : Int) < (ths.length : Int) := by omega
        obtain ⟨f0, f1, f2, f3, -⟩ := hS.c
        obtain ⟨-, f0, -⟩ := f0
        obtain ⟨-, f1, -⟩ := f1
        obtain ⟨-, f2, -⟩ := f2
        obtain ⟨-, f3, -⟩ := f3
        have HS := Lib.hid hS
        have HSz := Lib.hid hS.c.1.1
        clear hx hc htv hth hb hS
        go_wp2_with (first
          | (go_at_call 104; refine CL.mono ?_; rintro e w1 ⟨rfl, hg⟩; have HG := Lib.hid hg.below; clear hg CL)
          | (at_builtin; refine appI (ownsRow_keep HO.out HG.out) (Nat.le_trans (Nat.succ_le_of_lt HSz.out) HG.out.size) x HLn.out rfl _ _ rfl rfl rfl ?_; intro v' w2 hO2 hg2))
        go_roundw
        case rel => exact ⟨k + 1, (HS.out.next HG.out).grown (ownsRow_keep HO.out HG.out) hg2 (Nat.le_succ _) (by simp), by simp, hlt, by rw [HN.out]; exact hO2⟩
        case measure => simp [intOf]; omega
    · obtain rfl : k = ths.length := by omega
      rw [List.take_length] at HO
      obtain ⟨q2, cap2, rfl, hI, -⟩ := OI.ints HO.out
      have CG := greatest_any 9000 q2 cap2 (ths.map fun t => lowT wear t y) wr (by simp; omega) hI
      rw [List.length_map] at CG
      simp only [List.length_map]
      clear hI HO
      go_wp2_with (go_at_call 180; refine CG.mono ?_; rintro e w1 ⟨rfl, rfl⟩)
      go_ret
      exact ⟨rfl, HB.out⟩
set_option maxRecDepth 100000 in
set_option maxHeartbeats 3200000 in
theorem high_any (s : Spl) (q : Option Addr) (cap : Nat) (y : Int) (w : World) (hs : okS s = true) (hy : 0 ≤ y ∧ y ≤ 4000) (h : ThsAt w q s.ths) :
    Calls Tryz.prog 125 #[s.v q cap, .int .i64 y] w fun e w' => e = .returned (.int .i64 (highS s y)) ∧ Below w.heap.size w w' := by
  obtain ⟨s1, s2, s3⟩ := okS_iff.1 hs
  obtain ⟨lo, hi, wear, ths⟩ := s
  simp only [Spl.v] at *
  have H := Lib.hid h
  have H2 := Lib.hid s2
  have H3 := Lib.hid s3
  have HY := Lib.hid hy
  clear h s2 s3 hs hy
  have hl : ths.length ≤ 1000 := s1
  clear s1
  go_enter Tryz.func125, Tryz.ntmps125
  go_wp2_with fail
  obtain ⟨W0, hW0⟩ : ∃ W0, (w).alloc (.cells #[.int .i64 lo, .int .i64 hi, .int .i64 wear, .slice q ths.length cap] 111) = W0 := ⟨_, rfl⟩
  have S0 : St w W0 [(w.heap.size, 0, .int .i64 lo), (w.heap.size, 1, .int .i64 hi), (w.heap.size, 2, .int .i64 wear), (w.heap.size, 3, .slice q ths.length cap)] := by rw [← hW0]; exact ((St.nil w)).box #[.int .i64 lo, .int .i64 hi, .int .i64 wear, .slice q ths.length cap] 111 (w.heap.size) (by simp)
  rw [hW0]
  clear hW0
  obtain ⟨C, hC0, HC, LC, BC, hne⟩ := cls S0
  haveI := hne
  obtain ⟨c0, rfl⟩ : ∃ n : Wd C, W0 = n.w := ⟨⟨_, hC0⟩, rfl⟩
  have fC0 : ∀ n : Wd C, n.w.cell? ⟨w.heap.size, 0, none⟩ = some (.int .i64 lo) := fun n => (LC.out n).1.2.1
  have fC1 : ∀ n : Wd C, n.w.cell? ⟨w.heap.size, 1, none⟩ = some (.int .i64 hi) := fun n => (LC.out n).2.1.2.1
  have fC2 : ∀ n : Wd C, n.w.cell? ⟨w.heap.size, 2, none⟩ = some (.int .i64 wear) := fun n => (LC.out n).2.2.1.2.1
  have fC3 : ∀ n : Wd C, n.w.cell? ⟨w.heap.size, 3, none⟩ = some (.slice q ths.length cap) := fun n => (LC.out n).2.2.2.1.2.1
  clear S0 hC0
  go_wp2_with fail
  go_loopw [5, 11] (fun v i wr => ∃ (k : Nat), St w wr [(w.heap.size, 0, .int .i64 lo), (w.heap.size, 1, .int .i64 hi), (w.heap.size, 2, .int .i64 wear), (w.heap.size, 3, .slice q ths.length cap)] ∧ i = .int .i64 (k : Int) ∧ k ≤ ths.length ∧ OI wr (w.heap.size + 1) v ((ths.take k).map fun t => highT wear t y)) (fun v i wr => ths.length - (intOf i).toNat)
  case atStart => exact ⟨0, ⟨BC.out _, LC.out _⟩, rfl, Nat.zero_le _, World.ownsRow_nil _ _ _ _⟩
  case round =>
    obtain ⟨k, hS, rfl, hk, hO⟩ := hrel
    have HO := Lib.hid hO
    have HB := Lib.hid hS.b
    clear fC0 fC1 fC2 fC3 hO
    by_cases hlt : k < ths.length
    · rcases H.out with h0 | ⟨b, o, rfl, hb, hc⟩
      · exact absurd hlt (by simp [h0])
      · obtain ⟨tv, htv, hth⟩ := hc k ths[k] (List.getElem?_eq_getElem hlt)
        have c1 := (hS.b.cell (p := ⟨b, o + k, none⟩) hb).trans htv
        have CL := highBy_any lo hi wear (some ⟨b, o, none⟩) ths.length cap tv ths[k] y wr (H3.out _ (List.getElem_mem hlt)) H2.out HY.out (hth.keep hS.b)
        have HN : Hid ((ths.take (k + 1)).map (fun t => highT wear t y) = (ths.take k).map (fun t => highT wear t y) ++ [highT wear ths[k] y]) := by unfold Hid; rw [take_snocG ths k hlt, List.map_append]; rfl
        obtain ⟨x, hx⟩ : ∃ x, highT wear ths[k] y = x := ⟨_, rfl⟩
        rw [hx] at CL HN
        have HLn : Hid (((ths.take k).map fun t => highT wear t y).length ≤ 1000000) := by unfold Hid; simp; omega
        have hlt' : (k : Int) < (ths.length : Int) := by omega
        obtain ⟨f0, f1, f2, f3, -⟩ := hS.c
        obtain ⟨-, f0, -⟩ := f0
        obtain ⟨-, f1, -⟩ := f1
        obtain ⟨-, f2, -⟩ := f2
        obtain ⟨-, f3, -⟩ := f3
        have HS := Lib.hid hS
        have HSz := Lib.hid hS.c.1.1
        clear hx hc htv hth hb hS
        go_wp2_with (first
          | (go_at_call 106; refine CL.mono ?_; rintro e w1 ⟨rfl, hg⟩; have HG := Lib.hid hg.below; clear hg CL)
          | (at_builtin; refine appI (ownsRow_keep HO.out HG.out) (Nat.le_trans (Nat.succ_le_of_lt HSz.out) HG.out.size) x HLn.out rfl _ _ rfl rfl rfl ?_; intro v' w2 hO2 hg2))
        go_roundw
        case rel => exact ⟨k + 1, (HS.out.next HG.out).grown (ownsRow_keep HO.out HG.out) hg2 (Nat.le_succ _) (by simp), by simp, hlt, by rw [HN.out]; exact hO2⟩
        case measure => simp [intOf]; omega
    · obtain rfl : k = ths.length := by omega
      rw [List.take_length] at HO
      obtain ⟨q2, cap2, rfl, hI, -⟩ := OI.ints HO.out
      have CG := least_any 12000 q2 cap2 (ths.map fun t => highT wear t y) wr (by simp; omega) hI
      rw [List.length_map] at CG
      simp only [List.length_map]
      clear hI HO
      go_wp2_with (go_at_call 182; refine CG.mono ?_; rintro e w1 ⟨rfl, rfl⟩)
      go_ret
      exact ⟨rfl, HB.out⟩

end Go.Proofs.YtcejmfgbfdhflaaGreat
namespace Go.Proofs.YtcejmfgbfdhflaaGreat
open Go.RowKit Go.BigFrame Go.Sort
attribute [local go_sem] World.cell?_alloc_some
set_option maxRecDepth 100000 in
theorem wpList_year {W : World} {v : Value} {t : Th} (hv : ThAt W v t) {ops : Array Oper} {rest : List Oper} {o : Oper} {a : Act} {Q : Exit → Act → World → Prop} (hgd : o.guard = none) (x : Operand)
    (ho : o.op = .call { callee := .invoke x "boundstone/chainage.year", args := #[], argTypes := #[] }) (hx : a.eval x = v)
    (h : ∀ w', Gr W w' → wpList Tryz.prog ops Q rest (a.put o.dst (.int .i64 t.year)) w') : wpList Tryz.prog ops Q (o :: rest) a W := by
  refine wpList_plain hgd fun K hK => ?_
  have m1 := meth_my
  have m2 := meth_py
  have m3 := meth_ry
  unfold Oper.wp
  obtain ⟨ev, hev⟩ : ∃ ev, ev = a.eval := ⟨_, rfl⟩
  rw [← hev] at hx ⊢
  clear hev
  rcases hv with ⟨id, we, rfl, -⟩ | ⟨b, ch, ty, rfl | rfl, rfl, hc⟩
  · simp [execOp, ho, hx, go_sem, m1]
    refine (mYear_any id t.year t.lo t.hi we W).mono ?_
    rintro e w' ⟨rfl, hg⟩
    exact hK _ _ (h _ hg)
  · have C := Calls.gr (pYear_any b t ch W hc)
    simp [execOp, ho, hx, go_sem, m2]
    refine C.mono ?_
    rintro e w' ⟨rfl, hg⟩
    exact hK _ _ (h _ hg)
  · have C := Calls.gr (rYear_any b t ch W hc)
    simp [execOp, ho, hx, go_sem, m3]
    refine C.mono ?_
    rintro e w' ⟨rfl, hg⟩
    exact hK _ _ (h _ hg)
/-- Do two things ask for more than they allow? -/
def clB (wear : Int) (a b : Th) : Bool := decide (highT wear b (max a.year b.year) < lowT wear a (max a.year b.year)) || decide (highT wear a (max a.year b.year) < lowT wear b (max a.year b.year))
set_option maxRecDepth 100000 in
set_option maxHeartbeats 6400000 in
theorem contradict_any (lo hi wear : Int) (q : Option Addr) (nn cap : Nat) (va vb : Value) (a b : Th) (w : World) (ha : okTh a = true) (hb : okTh b = true) (hw : 0 ≤ wear ∧ wear ≤ 1000) (hva : ThAt w va a) (hvb : ThAt w vb b) :
    Calls Tryz.prog 206 #[.agg #[.int .i64 lo, .int .i64 hi, .int .i64 wear, .slice q nn cap], va, vb] w fun e w' => e = .returned (.bool (clB wear a b)) ∧ Gr w w' := by
  obtain ⟨a1, -⟩ := okTh_iff.1 ha
  obtain ⟨b1, -⟩ := okTh_iff.1 hb
  obtain ⟨y, hy⟩ : ∃ y, max a.year b.year = y := ⟨_, rfl⟩
  have hy0 : 0 ≤ y ∧ y ≤ 4000 := by omega
  have HA := Lib.hid hva
  have HB := Lib.hid hvb
  have C1 := fun W (hg : Gr w W) => lowBy_any lo hi wear q nn cap va a y W ha hw hy0 (hva.keep hg.below)
  have C2 := fun W (hg : Gr w W) => highBy_any lo hi wear q nn cap vb b y W hb hw hy0 (hvb.keep hg.below)
  have C3 := fun W (hg : Gr w W) => lowBy_any lo hi wear q nn cap vb b y W hb hw hy0 (hvb.keep hg.below)
  have C4 := fun W (hg : Gr w W) => highBy_any lo hi wear q nn cap va a y W ha hw hy0 (hva.keep hg.below)
  unfold clB
  rw [hy]
  have HY : (if a.year < b.year then b.year else a.year) = y := by rw [ifmax]; exact hy
  obtain ⟨x1, h1⟩ : ∃ x, lowT wear a y = x := ⟨_, rfl⟩
  obtain ⟨x2, h2⟩ : ∃ x, highT wear b y = x := ⟨_, rfl⟩
  obtain ⟨x3, h3⟩ : ∃ x, lowT wear b y = x := ⟨_, rfl⟩
  obtain ⟨x4, h4⟩ : ∃ x, highT wear a y = x := ⟨_, rfl⟩
  rw [h1, h2, h3, h4]
  rw [h1] at C1
  rw [h2] at C2
  rw [h3] at C3
  rw [h4] at C4
  clear h1 h2 h3 h4 hva hvb ha hb hw a1 b1 hy hy0
  have fin : ∀ z1 z2 : Bool, (decide (x2 < x1) = z1) → (decide (x4 < x3) = z2) → Calls Tryz.prog 206 #[.agg #[.int .i64 lo, .int .i64 hi, .int .i64 wear, .slice q nn cap], va, vb] w fun e w' => e = .returned (.bool (z1 || z2)) ∧ Gr w w' := by
    intro z1 z2 hz1 hz2
    go_enter Tryz.func206, Tryz.ntmps206
    go_wp2_with (first
      | (refine wpList_year (HA.out.keep (Gr.al w _).below) rfl _ rfl rfl ?_; intro w1 hg1; have G1 : Hid (Gr w w1) := (Gr.al w _).trans hg1; have S1 := Lib.hid (((StG.nil w).box _ _ _ rfl).next hg1); clear hg1)
      | (refine wpList_year (HB.out.keep G1.out.below) rfl _ rfl rfl ?_; intro w2 hg2; have S2 := S1.out.next hg2; clear hg2))
    clear HY
    obtain ⟨C, hC0, HC, LC, BC, hne⟩ := clsG S2
    haveI := hne
    obtain ⟨c0, rfl⟩ : ∃ n : Wd C, w2 = n.w := ⟨⟨_, hC0⟩, rfl⟩
    have fC0 : ∀ n : Wd C, n.w.cell? ⟨w.heap.size, 0, none⟩ = some (.int .i64 lo) := fun n => (LC.out n).1.2.1
    have fC1 : ∀ n : Wd C, n.w.cell? ⟨w.heap.size, 1, none⟩ = some (.int .i64 hi) := fun n => (LC.out n).2.1.2.1
    have fC2 : ∀ n : Wd C, n.w.cell? ⟨w.heap.size, 2, none⟩ = some (.int .i64 wear) := fun n => (LC.out n).2.2.1.2.1
    have fC3 : ∀ n : Wd C, n.w.cell? ⟨w.heap.size, 3, none⟩ = some (.slice q nn cap) := fun n => (LC.out n).2.2.2.1.2.1
    clear S2 hC0
    have D1 := cinGL HC BC C1
    have D2 := cinGL HC BC C2
    have D3 := cinGL HC BC C3
    have D4 := cinGL HC BC C4
    clear C1 C2 C3 C4
    cases z1
    ·
      refine wp_region_in C (HC.out _ _ (Wd.h _) (Gr.dr _)) (by kernel_rfl) (by kernel_rfl) ?_
      repeat (go_big_quiet_step (first | with_reducible exact (D1 _).out | with_reducible exact (D2 _).out | with_reducible exact (D3 _).out | with_reducible exact (D4 _).out))
      refine wpQuiet_nil ?_
      intro wx hwx
      obtain ⟨n, rfl⟩ : ∃ n : Wd C, wx = n.w := ⟨⟨wx, hwx⟩, rfl⟩
      clear hwx
      go_wp2_with fail
      go_ret
      exact ⟨ret_bool (by simp), BC.out _⟩
    ·
      refine wp_region_in C (HC.out _ _ (Wd.h _) (Gr.dr _)) (by kernel_rfl) (by kernel_rfl) ?_
      repeat (go_big_quiet_step (first | with_reducible exact (D1 _).out | with_reducible exact (D2 _).out | with_reducible exact (D3 _).out | with_reducible exact (D4 _).out))
      refine wpQuiet_nil ?_
      intro wx hwx
      obtain ⟨n, rfl⟩ : ∃ n : Wd C, wx = n.w := ⟨⟨wx, hwx⟩, rfl⟩
      clear hwx
      go_wp2_with fail
      go_ret
      exact ⟨ret_bool (by simp), BC.out _⟩
  exact fin _ _ rfl rfl

end Go.Proofs.YtcejmfgbfdhflaaGreat
namespace Go.Proofs.YtcejmfgbfdhflaaGreat
open Go.RowKit Go.BigFrame Go.Sort
attribute [local go_sem] World.cell?_alloc_some
/-- The cells of pairs. -/
def flat2 : List (Int × Int) → List Value
  | [] => []
  | p :: l => .int .i64 p.1 :: .int .i64 p.2 :: flat2 l
theorem flat2_app (l m : List (Int × Int)) : flat2 (l ++ m) = flat2 l ++ flat2 m := by
  induction l with
  | nil => rfl
  | cons p l ih => simp [flat2, ih]
theorem flat2_one : ∀ {l : List (Int × Int)}, ∀ u ∈ flat2 l, u.oneCell' = true
  | [], u, h => by simp [flat2] at h
  | p :: l, u, h => by
    simp only [flat2, List.mem_cons] at h
    rcases h with rfl | rfl | h
    · rfl
    · rfl
    · exact flat2_one u h
theorem flat2_get : ∀ {l : List (Int × Int)} {j : Nat} {q : Int × Int}, l[j]? = some q → (flat2 l)[j * 2]? = some (.int .i64 q.1) ∧ (flat2 l)[j * 2 + 1]? = some (.int .i64 q.2)
  | [], _, _, h => by simp at h
  | p :: l, 0, q, h => by
    obtain rfl : p = q := by simpa using h
    exact ⟨rfl, rfl⟩
  | p :: l, j + 1, q, h => by
    have ih := flat2_get (l := l) (j := j) (q := q) (by simpa using h)
    rw [show (j + 1) * 2 = j * 2 + 1 + 1 from by omega]
    simpa [flat2] using ih
/-- Pairs that the call owns. -/
abbrev OP (W : World) (B : Nat) (v : Value) (l : List (Int × Int)) : Prop := W.ownsRow B 56 2 v l.length (flat2 l)
theorem inf56 : (Tryz.prog.info? 56).map (fun i => (i.zero, i.size, i.bytes)) = some (some (.agg #[.int .i64 0, .int .i64 0]), 2, 16) := by kernel_rfl
/-- One pair more. -/
theorem appP {B : Nat} {v : Value} {l : List (Int × Int)} {W : World} (hP : OP W B v l) (hw : B ≤ W.heap.size) (x y : Int) (hl : l.length ≤ 1000000) {ops : Array Oper} {rest : List Oper} {o : Oper} {a : Act} {Q : Exit → Act → World → Prop} (hgd : o.guard = none) (s z : Operand)
    (ho : o.op = .call { callee := .builtin .append, args := #[s, z], argTypes := #[44, 44] }) (hs : a.eval s = v) (hx : a.eval z = .slice (some ⟨W.heap.size, 0, none⟩) 1 1)
    (h : ∀ v' w', OP w' B v' (l ++ [(x, y)]) → W.grownBy w' v.ownBlock → wpList Tryz.prog ops Q rest (a.put o.dst v') w') : wpList Tryz.prog ops Q (o :: rest) a (W.alloc (.cells #[.int .i64 x, .int .i64 y] 56)) := by
  obtain ⟨i0, hi, hz0, hz1, hz2⟩ := info_parts inf56
  refine wpList_append_own _ hgd s z 44 ho B 56 i0 (.agg #[.int .i64 0, .int .i64 0]) 2 16 Tryz.underlying44 hi hz0 hz1 hz2 rfl (by decide) v l.length (flat2 l) hs (hP.alloc _) ⟨W.heap.size, 0, none⟩ 1 1 (flat2 [(x, y)]) hx rfl ?_ flat2_one ?_ ?_ ?_ ?_
  · intro j u hu
    match j, hu with
    | 0, hu =>
      obtain rfl : Value.int .i64 x = u := by simpa [flat2] using hu
      exact new_at W _ 56 0 _ rfl
    | 1, hu =>
      obtain rfl : Value.int .i64 y = u := by simpa [flat2] using hu
      exact new_at W _ 56 1 _ rfl
  · unfold maxLen; omega
  · omega
  · simp; omega
  · intro v' w' ho' hg _
    refine h v' w' ?_ ?_
    · show w'.ownsRow B 56 2 v' (l ++ [(x, y)]).length (flat2 (l ++ [(x, y)]))
      rw [List.length_append, flat2_app]; exact ho'
    · exact ⟨hg.os, hg.tape, hg.output, by have := hg.size; simp at this; omega, fun k hk hne => (hg.block k (by simp; omega) hne).trans (Below.heap_alloc W _ k hk)⟩
/-- The pairs of a thing with others. -/
def clIn (wear : Int) (a : Th) (l : List Th) : List (Int × Int) := (l.filter fun b => clB wear a b).map fun b => (min a.num b.num, max a.num b.num)
/-- The pairs of the first things. -/
def clTo (wear : Int) (ths : List Th) : Nat → List (Int × Int)
  | 0 => []
  | k + 1 => clTo wear ths k ++ (match ths[k]? with | some a => clIn wear a (ths.take k) | none => [])
def clS (s : Spl) : List (Int × Int) := clTo s.wear s.ths s.ths.length
theorem clIn_len (wear : Int) (a : Th) (l : List Th) : (clIn wear a l).length ≤ l.length := by
  unfold clIn; rw [List.length_map]; exact List.length_filter_le _ _
theorem clTo_len (wear : Int) (ths : List Th) : ∀ k, (clTo wear ths k).length ≤ k * ths.length
  | 0 => by simp [clTo]
  | k + 1 => by
    have ih := clTo_len wear ths k
    unfold clTo
    rw [List.length_append, Nat.succ_mul]
    have : (match ths[k]? with | some a => clIn wear a (ths.take k) | none => []).length ≤ ths.length := by
      split
      · exact Nat.le_trans (clIn_len _ _ _) (by simp; omega)
      · simp
    omega
theorem clIn_snoc (wear : Int) (a b : Th) (l : List Th) : clIn wear a (l ++ [b]) = clIn wear a l ++ (if clB wear a b then [(min a.num b.num, max a.num b.num)] else []) := by
  unfold clIn
  rw [List.filter_append, List.map_append]
  congr 1
  by_cases h : clB wear a b <;> simp [h]
set_option maxRecDepth 100000 in
set_option maxHeartbeats 400000 in
theorem clashes1_nil (lo hi wear : Int) (q : Option Addr) (cap : Nat) (w : World) :
    Calls Tryz.prog 165 #[.agg #[.int .i64 lo, .int .i64 hi, .int .i64 wear, .slice q 0 cap]] w fun e w' => ∃ v, e = .returned v ∧ OP w' (w.heap.size + 1) v [] ∧ Below w.heap.size w w' := by
  go_enter Tryz.func165, Tryz.ntmps165
  go_wp2_with fail
  go_loop [3, 13] (fun v i => v = .slice none 0 0 ∧ i = .int .i64 0) (fun _ _ => 0)
  case atStart => exact ⟨rfl, rfl⟩
  case round =>
    obtain ⟨rfl, rfl⟩ := hrel
    go_wp2_with fail
    go_ret
    exact ⟨_, rfl, World.ownsRow_nil _ _ _ _, (Gr.al _ _).below⟩
set_option maxRecDepth 100000 in
set_option maxHeartbeats 6400000 in
theorem clashes1_any (s : Spl) (q : Option Addr) (cap : Nat) (w : World) (hs : okS s = true) (hcap : s.ths.length ≤ cap) (hcm : cap ≤ maxLen) (h : ThsAt w q s.ths) :
    Calls Tryz.prog 165 #[s.v q cap] w fun e w' => ∃ v, e = .returned v ∧ OP w' (w.heap.size + 1) v (clS s) ∧ Below w.heap.size w w' := by
  obtain ⟨s1, s2, s3⟩ := okS_iff.1 hs
  obtain ⟨lo, hi, wear, ths⟩ := s
  simp only [Spl.v, clS] at *
  rcases h with h0 | ⟨b, o, rfl, hb, hc⟩
  · subst h0
    exact clashes1_nil lo hi wear q cap w
  have H := Lib.hid (And.intro hb hc)
  have H2 := Lib.hid s2
  have H3 := Lib.hid s3
  clear hb hc s2 s3 hs
  have hl : ths.length ≤ 1000 := s1
  clear s1
  unfold maxLen at hcm
  go_enter Tryz.func165, Tryz.ntmps165
  go_wp2_with fail
  obtain ⟨W0, hW0⟩ : ∃ W0, (w).alloc (.cells #[.int .i64 lo, .int .i64 hi, .int .i64 wear, .slice (some ⟨b, o, none⟩) ths.length cap] 111) = W0 := ⟨_, rfl⟩
  have S0 : St w W0 [(w.heap.size, 0, .int .i64 lo), (w.heap.size, 1, .int .i64 hi), (w.heap.size, 2, .int .i64 wear), (w.heap.size, 3, .slice (some ⟨b, o, none⟩) ths.length cap)] := by rw [← hW0]; exact ((St.nil w)).box #[.int .i64 lo, .int .i64 hi, .int .i64 wear, .slice (some ⟨b, o, none⟩) ths.length cap] 111 (w.heap.size) (by simp)
  rw [hW0]
  clear hW0
  obtain ⟨C, hC0, HC, LC, BC, hne⟩ := cls S0
  haveI := hne
  obtain ⟨c0, rfl⟩ : ∃ n : Wd C, W0 = n.w := ⟨⟨_, hC0⟩, rfl⟩
  have fC0 : ∀ n : Wd C, n.w.cell? ⟨w.heap.size, 0, none⟩ = some (.int .i64 lo) := fun n => (LC.out n).1.2.1
  have fC1 : ∀ n : Wd C, n.w.cell? ⟨w.heap.size, 1, none⟩ = some (.int .i64 hi) := fun n => (LC.out n).2.1.2.1
  have fC2 : ∀ n : Wd C, n.w.cell? ⟨w.heap.size, 2, none⟩ = some (.int .i64 wear) := fun n => (LC.out n).2.2.1.2.1
  have fC3 : ∀ n : Wd C, n.w.cell? ⟨w.heap.size, 3, none⟩ = some (.slice (some ⟨b, o, none⟩) ths.length cap) := fun n => (LC.out n).2.2.2.1.2.1
  clear S0 hC0
  go_wp2_with fail
  go_loopw [3, 13] (fun v i wr => ∃ (k : Nat), St w wr [(w.heap.size, 0, .int .i64 lo), (w.heap.size, 1, .int .i64 hi), (w.heap.size, 2, .int .i64 wear), (w.heap.size, 3, .slice (some ⟨b, o, none⟩) ths.length cap)] ∧ i = .int .i64 (k : Int) ∧ k ≤ ths.length ∧ OP wr (w.heap.size + 1) v (clTo wear ths k)) (fun v i wr => ths.length - (intOf i).toNat)
  case atStart => exact ⟨0, ⟨BC.out _, LC.out _⟩, rfl, Nat.zero_le _, World.ownsRow_nil _ _ _ _⟩
  case round =>
    obtain ⟨k, hS, rfl, hk, hO⟩ := hrel
    have HO := Lib.hid hO
    have HB := Lib.hid hS.b
    have HS := Lib.hid hS
    clear fC0 fC1 fC2 fC3 hO
    by_cases hlt : k < ths.length
    · obtain ⟨tv, htv, hth⟩ := H.out.2 k ths[k] (List.getElem?_eq_getElem hlt)
      have c1 := (hS.b.cell (p := ⟨b, o + k, none⟩) H.out.1).trans htv
      have HT := Lib.hid (And.intro hth (H3.out _ (List.getElem_mem hlt)))
      have HT1 : Hid (clTo wear ths (k + 1) = clTo wear ths k ++ clIn wear ths[k] (ths.take k)) := by unfold Hid; rw [clTo, List.getElem?_eq_getElem hlt]
      obtain ⟨a, ha⟩ : ∃ a, ths[k] = a := ⟨_, rfl⟩
      rw [ha] at HT HT1
      have HLn : Hid ((clTo wear ths k).length ≤ 999000) := by
        unfold Hid
        have h1 := clTo_len wear ths k
        have h2 : k * ths.length ≤ 999 * 1000 := Nat.mul_le_mul (by omega) hl
        omega
      have hlt' : (k : Int) < (ths.length : Int) := by omega
      have hkc : (k : Int) ≤ (cap : Int) := by omega
      obtain ⟨f0, f1, f2, f3, -⟩ := hS.c
      obtain ⟨-, f0, -⟩ := f0
      obtain ⟨-, f1, -⟩ := f1
      obtain ⟨-, f2, -⟩ := f2
      obtain ⟨-, f3, -⟩ := f3
      clear htv hth hS ha
      go_wp2_with fail
      clear f0 f1 f2 f3 c1
      go_loopw [3, 23] (fun v j wr2 => ∃ (m : Nat), St w wr2 [(w.heap.size, 0, .int .i64 lo), (w.heap.size, 1, .int .i64 hi), (w.heap.size, 2, .int .i64 wear), (w.heap.size, 3, .slice (some ⟨b, o, none⟩) ths.length cap)] ∧ j = .int .i64 (m : Int) ∧ m ≤ k ∧ OP wr2 (w.heap.size + 1) v (clTo wear ths k ++ clIn wear a (ths.take m))) (fun v j wr2 => k - (intOf j).toNat)
      case atStart => exact ⟨0, HS.out, rfl, Nat.zero_le _, by simpa [clIn] using HO.out⟩
      case round =>
        obtain ⟨m, hS2, rfl, hm, hO2⟩ := hrel
        have HO2 := Lib.hid hO2
        have HS2 := Lib.hid hS2
        clear hO2
        by_cases hlt2 : m < k
        · have hml : m < ths.length := by omega
          obtain ⟨tv2, htv2, hth2⟩ := H.out.2 m ths[m] (List.getElem?_eq_getElem hml)
          have c2 := (hS2.b.cell (p := ⟨b, o + m, none⟩) H.out.1).trans htv2
          have HT2 : Hid (clIn wear a (ths.take (m + 1)) = clIn wear a (ths.take m) ++ (if clB wear a ths[m] then [(min a.num ths[m].num, max a.num ths[m].num)] else [])) := by unfold Hid; rw [take_snocG ths m hml, clIn_snoc]
          have CC := contradict_any lo hi wear (some ⟨b, o, none⟩) ths.length cap tv tv2 a ths[m] wr HT.out.2 (H3.out _ (List.getElem_mem hml)) H2.out (HT.out.1.keep hS2.b) (hth2.keep hS2.b)
          have HQ := Lib.hid (And.intro (HT.out.1.keep hS2.b) (hth2.keep hS2.b))
          obtain ⟨c, hcq⟩ : ∃ c, ths[m] = c := ⟨_, rfl⟩
          rw [hcq] at HT2 CC HQ
          have HSz := Lib.hid hS2.c.1.1
          have HL2 : Hid ((clTo wear ths k ++ clIn wear a (ths.take m)).length ≤ 1000000) := by
            unfold Hid
            have h1 := clIn_len wear a (ths.take m)
            have h2 := HLn.out
            rw [List.length_append]
            simp at h1
            omega
          obtain ⟨z, hz⟩ : ∃ z, clB wear a c = z := ⟨_, rfl⟩
          rw [hz] at CC HT2
          have y1 : (if c.num < a.num then c.num else a.num) = min a.num c.num := ifmin _ _
          have y2 : (if a.num < c.num then c.num else a.num) = max a.num c.num := ifmax _ _
          obtain ⟨mn, hmn⟩ : ∃ x, min a.num c.num = x := ⟨_, rfl⟩
          obtain ⟨mx, hmx⟩ : ∃ x, max a.num c.num = x := ⟨_, rfl⟩
          rw [hmn] at y1 HT2
          rw [hmx] at y2 HT2
          have hlt2' : (m : Int) < (k : Int) := by omega
          obtain ⟨f0, f1, f2, f3, -⟩ := hS2.c
          obtain ⟨-, f0, -⟩ := f0
          obtain ⟨-, f1, -⟩ := f1
          obtain ⟨-, f2, -⟩ := f2
          obtain ⟨-, f3, -⟩ := f3
          clear htv2 hth2 hS2 hz hcq hmn hmx
          cases z
          · go_wp2_with (go_at_call 206; refine CC.mono ?_; rintro e w1 ⟨rfl, hg⟩; have HG := Lib.hid hg.below; clear hg CC)
            go_roundw
            case rel => exact ⟨m + 1, HS2.out.next HG.out, by simp, by omega, by rw [HT2.out]; simp only [Bool.false_eq_true, if_false, List.append_nil]; exact ownsRow_keep HO2.out HG.out⟩
            case measure => simp [intOf]; omega
          · go_wp2_with (first
              | (go_at_call 206; refine CC.mono ?_; rintro e w1 ⟨rfl, hg⟩; have HG := Lib.hid hg.below; have N1 := number_any tv a w1 (HQ.out.1.keep hg.below); have N2 := number_any tv2 c w1 (HQ.out.2.keep hg.below); clear hg CC)
              | (go_at_call 163; with_reducible refine N1.mono ?_; rintro e w' ⟨rfl, rfl⟩; clear N1)
              | (go_at_call 163; with_reducible refine N2.mono ?_; rintro e w' ⟨rfl, rfl⟩; clear N2)
              | (at_builtin; refine appP (ownsRow_keep HO2.out HG.out) (Nat.le_trans (Nat.succ_le_of_lt HSz.out) HG.out.size) mn mx HL2.out rfl _ _ rfl rfl rfl ?_; intro v' w2 hO3 hg3))
            go_roundw
            case rel => exact ⟨m + 1, (HS2.out.next HG.out).grown (ownsRow_keep HO2.out HG.out) hg3 (Nat.le_succ _) (by simp), by simp, by omega, by rw [HT2.out]; simp only [if_true]; rw [← List.append_assoc]; exact hO3⟩
            case measure => simp [intOf]; omega
        · obtain rfl : m = k := by omega
          clear hS2
          go_wp2_with fail
          go_roundw
          case rel => exact ⟨m + 1, HS2.out, by simp, hlt, by rw [HT1.out]; exact HO2.out⟩
          case measure => simp [intOf]; omega
    · obtain rfl : k = ths.length := by omega
      obtain ⟨f0, f1, f2, f3, -⟩ := hS.c
      clear hS
      go_wp2_with fail
      go_ret
      exact ⟨_, rfl, HO.out, HB.out⟩

end Go.Proofs.YtcejmfgbfdhflaaGreat
namespace Go.Proofs.YtcejmfgbfdhflaaGreat
open Go.RowKit Go.BigFrame Go.Sort
attribute [local go_sem] World.cell?_alloc_some
theorem OP.pairs {W : World} {B : Nat} {v : Value} {l : List (Int × Int)} (h : OP W B v l) : ∃ q cap, v = .slice q l.length cap ∧ (l = [] ∨ ∃ b, q = some ⟨b, 0, none⟩ ∧ B ≤ b ∧ b < W.heap.size ∧ ∀ j p, l[j]? = some p → W.cell? ⟨b, j * 2, none⟩ = some (.int .i64 p.1) ∧ W.cell? ⟨b, j * 2 + 1, none⟩ = some (.int .i64 p.2)) := by
  obtain ⟨h1, ⟨rfl, h2⟩ | ⟨g, cap, cur, rfl, hg, hc, h3, h4, h5, h6⟩⟩ := h
  · exact ⟨none, 0, by rw [h2], .inl (List.length_eq_zero_iff.1 h2)⟩
  · refine ⟨some ⟨g, 0, none⟩, cap, rfl, .inr ⟨g, rfl, hg, (Array.getElem?_eq_some_iff.1 hc).1, fun j q hq => ?_⟩⟩
    have hj : j < l.length := (List.getElem?_eq_some_iff.1 hq).1
    obtain ⟨g1, g2⟩ := flat2_get hq
    rw [← h6] at g1 g2
    rw [List.getElem?_take_of_lt (by omega)] at g1 g2
    exact ⟨by simpa [World.cell?, hc] using g1, by simpa [World.cell?, hc] using g2⟩
set_option maxRecDepth 100000 in
set_option maxHeartbeats 800000 in
theorem agrees_any (s : Spl) (q : Option Addr) (cap : Nat) (w : World) (hs : okS s = true) (hcap : s.ths.length ≤ cap) (hcm : cap ≤ maxLen) (h : ThsAt w q s.ths) :
    Calls Tryz.prog 116 #[s.v q cap] w fun e w' => e = .returned (.bool (decide (clS s = []))) ∧ Below w.heap.size w w' := by
  have CC := clashes1_any s q cap (w.alloc (.cells #[.int .i64 s.lo, .int .i64 s.hi, .int .i64 s.wear, .slice q s.ths.length cap] 111)) hs hcap hcm (h.keep (Gr.al _ _).below)
  obtain ⟨l, hl⟩ : ∃ l, clS s = l := ⟨_, rfl⟩
  rw [hl] at CC
  rw [hl]
  clear hl h hs hcap hcm
  obtain ⟨lo, hi, wear, ths⟩ := s
  simp only [Spl.v] at *
  go_enter Tryz.func116, Tryz.ntmps116
  go_wp2_with fail
  refine CC.mono ?_
  rintro e w1 ⟨v, rfl, hO, hb⟩
  obtain ⟨q2, cap2, rfl, -⟩ := OP.pairs hO
  have HB : Hid (Below w.heap.size w w1) := (Gr.al _ _).below.trans (hb.mono (by simp))
  clear hO hb CC
  go_wp2_with fail
  go_ret
  refine ⟨ret_bool ?_, HB.out⟩
  cases l <;> simp <;> omega
set_option maxRecDepth 100000 in
set_option maxHeartbeats 3200000 in
theorem long_any (s : Spl) (q : Option Addr) (cap : Nat) (y : Int) (w : World) (hs : okS s = true) (hy : 0 ≤ y ∧ y ≤ 4000) (h : ThsAt w q s.ths) :
    Calls Tryz.prog 100 #[s.v q cap, .int .i64 y] w fun e w' => e = .returned (spv (lowS s y) (highS s y)) ∧ Below w.heap.size w w' := by
  have C1 := fun W (hb : Below w.heap.size w W) => low_any s q cap y W hs hy (h.keep hb)
  have C2 := fun W (hb : Below w.heap.size w W) => high_any s q cap y W hs hy (h.keep hb)
  obtain ⟨x1, h1⟩ : ∃ x, lowS s y = x := ⟨_, rfl⟩
  obtain ⟨x2, h2⟩ : ∃ x, highS s y = x := ⟨_, rfl⟩
  rw [h1] at C1
  rw [h2] at C2
  rw [h1, h2]
  clear h1 h2 h hs hy
  obtain ⟨lo, hi, wear, ths⟩ := s
  simp only [Spl.v] at *
  go_enter Tryz.func100, Tryz.ntmps100
  go_wp2_with fail
  obtain ⟨W0, hW0⟩ : ∃ W0, ((w).alloc (.cells #[.int .i64 lo, .int .i64 hi, .int .i64 wear, .slice q ths.length cap] 111)).alloc (.cells #[.int .i64 0, .int .i64 0] 30) = W0 := ⟨_, rfl⟩
  have S0 : St w W0 [(w.heap.size + 1, 0, .int .i64 0), (w.heap.size + 1, 1, .int .i64 0), (w.heap.size, 0, .int .i64 lo), (w.heap.size, 1, .int .i64 hi), (w.heap.size, 2, .int .i64 wear), (w.heap.size, 3, .slice q ths.length cap)] := by rw [← hW0]; exact (((St.nil w)).box #[.int .i64 lo, .int .i64 hi, .int .i64 wear, .slice q ths.length cap] 111 (w.heap.size) (by simp)).box #[.int .i64 0, .int .i64 0] 30 (w.heap.size + 1) (by simp)
  rw [hW0]
  clear hW0
  obtain ⟨C, hC0, HC, LC, BC, hne⟩ := cls S0
  haveI := hne
  obtain ⟨c0, rfl⟩ : ∃ n : Wd C, W0 = n.w := ⟨⟨_, hC0⟩, rfl⟩
  have fC0 : ∀ n : Wd C, n.w.cell? ⟨w.heap.size + 1, 0, none⟩ = some (.int .i64 0) := fun n => (LC.out n).1.2.1
  have zC0 : ∀ n : Wd C, n.w.frozen? ⟨w.heap.size + 1, 0, none⟩ = false := fun n => (LC.out n).1.2.2
  have fC1 : ∀ n : Wd C, n.w.cell? ⟨w.heap.size + 1, 1, none⟩ = some (.int .i64 0) := fun n => (LC.out n).2.1.2.1
  have zC1 : ∀ n : Wd C, n.w.frozen? ⟨w.heap.size + 1, 1, none⟩ = false := fun n => (LC.out n).2.1.2.2
  have fC2 : ∀ n : Wd C, n.w.cell? ⟨w.heap.size, 0, none⟩ = some (.int .i64 lo) := fun n => (LC.out n).2.2.1.2.1
  have fC3 : ∀ n : Wd C, n.w.cell? ⟨w.heap.size, 1, none⟩ = some (.int .i64 hi) := fun n => (LC.out n).2.2.2.1.2.1
  have fC4 : ∀ n : Wd C, n.w.cell? ⟨w.heap.size, 2, none⟩ = some (.int .i64 wear) := fun n => (LC.out n).2.2.2.2.1.2.1
  have fC5 : ∀ n : Wd C, n.w.cell? ⟨w.heap.size, 3, none⟩ = some (.slice q ths.length cap) := fun n => (LC.out n).2.2.2.2.2.1.2.1
  clear S0 hC0
  have D1 := cinL HC BC C1
  have D2 := cinL HC BC C2
  clear C1 C2
  refine wp_region_in_tail 6 C (HC.out _ _ (Wd.h _) (below_dr _)) (by kernel_rfl) (by kernel_rfl) ?_
  simp only [List.take_succ_cons, List.take_zero, List.drop_succ_cons, List.drop_zero]
  repeat (go_big_quiet_step (first | with_reducible exact (D1 _).out | with_reducible exact (D2 _).out))
  refine wpQuiet_nil ?_
  intro wx hwx
  obtain ⟨n2, rfl⟩ : ∃ n : Wd C, wx = n.w := ⟨⟨wx, hwx⟩, rfl⟩
  clear hwx D1 D2
  go_wp2_with fail
  refine bodyPost_ret (v := spv x1 x2) (by simp [results, Tryz.results100, go_sem, fC0, fC1]) rfl ⟨rfl, ?_⟩
  exact ((BC.out n2).setCell (p := ⟨w.heap.size + 1, 0, none⟩) (Nat.le_succ _) _).setCell (p := ⟨w.heap.size + 1, 1, none⟩) (Nat.le_succ _) _

end Go.Proofs.YtcejmfgbfdhflaaGreat
