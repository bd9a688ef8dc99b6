import Derived.Test.YtcejmfgbfdhflaaGreatProg
import Derived.RangeFuncNested
import Derived.RangeFuncBox
import Derived.RangeFuncBound
import Derived.RangeFuncCalls
import Derived.RangeFuncLeaves
import Derived.Shelf.Abstract
import Derived.Shelf.RegionOpen
import Derived.WalkKit
import Derived.OwnWalkIn
import Derived.TacticsInMore
import Derived.LoopNIn
import Derived.LoopIn
import Derived.LoopTactic
import Derived.WalkSpells
import Derived.WalkLawsBesides
import Derived.Lib.Hide
import Derived.BigQuiet
import Derived.IntWalk
import Derived.Deep.DeepMust
import Derived.WalkSmall
import Derived.StillTailTactics
import Derived.Deep.RegionLaw
import Derived.Deep.RegionHeld3
import Derived.Deep.QuietTactic
import Derived.Sort.Grow
import Derived.Laws.AppendOwn
/-
  Worlds that have grown, classes of worlds, regions walked in a class.
-/
namespace Go.Proofs.YtcejmfgbfdhflaaGreat
open Go.RowKit Go.BigFrame Go.Sort
/-- Cells that lie there, and may be written. -/
def Cs (W : World) : List (Nat × Nat × Value) → Prop
  | [] => True
  | (b, o, v) :: r => (b < W.heap.size ∧ W.cell? ⟨b, o, none⟩ = some v ∧ W.frozen? ⟨b, o, none⟩ = false) ∧ Cs W r
theorem Cs.keep {W W' : World} (hb : Below W.heap.size W W') : ∀ {l : List (Nat × Nat × Value)}, Cs W l → Cs W' l
  | [], _ => trivial
  | (b, o, v) :: _, h => ⟨⟨Nat.lt_of_lt_of_le h.1.1 hb.size, by rw [hb.cell (p := ⟨b, o, none⟩) h.1.1]; exact h.1.2.1, by rw [hb.frozen (p := ⟨b, o, none⟩) h.1.1]; exact h.1.2.2⟩, Cs.keep hb h.2⟩
theorem Cs.app {W : World} {m : List (Nat × Nat × Value)} (hm : Cs W m) : ∀ {l : List (Nat × Nat × Value)}, Cs W l → Cs W (l ++ m)
  | [], _ => hm
  | _ :: _, h => ⟨h.1, Cs.app hm h.2⟩
/-- Grown from w, and these cells lie there. -/
structure St (w W : World) (l : List (Nat × Nat × Value)) : Prop where
  b : Below w.heap.size w W
  c : Cs W l
theorem St.next {w W W' : World} {l} (h : St w W l) (hb : Below W.heap.size W W') : St w W' l :=
  ⟨h.b.trans (hb.mono h.b.size), h.c.keep hb⟩
theorem St.al {w W : World} {l} (h : St w W l) (o : Obj) : St w (W.alloc o) l :=
  h.next ((Below.refl _ _).alloc (Nat.le_refl _) _)
theorem below_dr (W : World) : Below W.heap.size W W.drew := (Below.refl _ _).drew
theorem St.dr {w W : World} {l} (h : St w W l) : St w W.drew l := h.next (below_dr W)
theorem St.nil (w : World) : St w w [] := ⟨Below.refl _ _, trivial⟩
theorem new_at (W : World) (cs : Array Value) (e : TypeId) (k : Nat) (u : Value) (h : cs.toList[k]? = some u) : (W.alloc (.cells cs e)).cell? ⟨W.heap.size, k, none⟩ = some u := by
  have h2 : cs[k]? = some u := by simpa using h
  go_simp
theorem new_fz (W : World) (cs : Array Value) (e : TypeId) (k : Nat) : (W.alloc (.cells cs e)).frozen? ⟨W.heap.size, k, none⟩ = false := by
  go_simp
/-- The cells of a block. -/
def blk (b : Nat) : Nat → List Value → List (Nat × Nat × Value)
  | _, [] => []
  | o, v :: r => (b, o, v) :: blk b (o + 1) r
theorem cs_blk (W : World) (cs : Array Value) (e : TypeId) : ∀ (l : List Value) (o : Nat), cs.toList.drop o = l → Cs (W.alloc (.cells cs e)) (blk W.heap.size o l)
  | [], _, _ => trivial
  | v :: r, o, h => by
    have h1 : cs.toList[o]? = some v := by
      have : (cs.toList.drop o)[0]? = some v := by rw [h]; rfl
      rwa [List.getElem?_drop, Nat.add_zero] at this
    refine ⟨⟨by simp, new_at W cs e o v h1, new_fz W cs e o⟩, cs_blk W cs e r (o + 1) ?_⟩
    rw [← List.drop_drop, h]; rfl
theorem St.box {w W : World} {l} (h : St w W l) (cs : Array Value) (e : TypeId) (b : Nat) (hb : W.heap.size = b) : St w (W.alloc (.cells cs e)) (blk b 0 cs.toList ++ l) := by
  subst hb
  exact ⟨(h.al _).b, Cs.app (h.al _).c (cs_blk W cs e _ 0 rfl)⟩
theorem St.box2 {w W : World} {l} (h : St w W l) (u v : Value) (e : TypeId) (b : Nat) (hb : W.heap.size = b) : St w (W.alloc (.cells #[u, v] e)) ((b, 0, u) :: (b, 1, v) :: l) :=
  h.box #[u, v] e b hb
theorem ret_bool {a b : Bool} (h : a = b) : Ending.returned (.bool a) = .returned (.bool b) := by rw [h]
theorem ret_int {k : IntKind} {a b : Int} (h : a = b) : Ending.returned (.int k a) = .returned (.int k b) := by rw [h]
theorem w64 {n : Int} (h : -9223372036854775808 ≤ n ∧ n ≤ 9223372036854775807) : wrap64 n = n := by unfold wrap64; omega
theorem below_al (W : World) (o : Obj) : Below W.heap.size W (W.alloc o) := (Below.refl _ _).alloc (Nat.le_refl _) _
/-- The worlds of a class. -/
structure Wd (C : World → Prop) where
  w : World
  h : C w
theorem wp_region_in {P : Program} {id : Nat} {Q : Exit → Act → World → Prop} {a : Act} {w : World} {l : List Oper} (C : World → Prop) (hC : C w.drew) (hm : P.follows .mixedOrders = true) (hB : Region.lexB .any l.toArray = true)
    (h : wpQuiet P l.toArray (fun w' => ∃ n : Wd C, w' = n.w) (fun a' => ∀ w', C w' → Q .normal a' w') l a) : (Code.region id l.toArray true).wp P Q a w := by
  have e : (fun w' => ∃ n : Wd C, w' = n.w) = C := funext fun w' => propext ⟨fun ⟨n, hn⟩ => hn ▸ n.h, fun hc => ⟨⟨w', hc⟩, rfl⟩⟩
  rw [e] at h
  exact wp_region_quiet (C := C) hm hB hC (by simpa using h)
theorem Calls.quiet_in {P : Program} {f : FuncId} {args : Array Value} {C : World → Prop} {w : World} {v : Value} (h : Calls P f args w fun e w' => e = .returned v ∧ C w') :
    Calls P f args w fun e w'' => e = .returned v ∧ ∃ n : Wd C, w'' = n.w :=
  h.mono fun _ w'' ⟨he, hc⟩ => ⟨he, ⟨w'', hc⟩, rfl⟩
/-- A class of worlds: grown from one, with these cells. -/
theorem cls {w W0 : World} {L : List (Nat × Nat × Value)} (S : St w W0 L) : ∃ C : World → Prop, C W0 ∧ Hid (∀ W W', C W → Below W.heap.size W W' → C W') ∧ Hid (∀ n : Wd C, Cs n.w L) ∧ Hid (∀ n : Wd C, Below w.heap.size w n.w) ∧ Nonempty (Wd C) :=
  ⟨fun W => St w W L, S, fun _ _ h hb => h.next hb, fun n => n.h.c, fun n => n.h.b, ⟨⟨W0, S⟩⟩⟩
/-- A contract, in a class of worlds. -/
theorem cin {C : World → Prop} (H : Hid (∀ W W', C W → Below W.heap.size W W' → C W')) {f : FuncId} {args : Array Value} {v : Value} (h : ∀ W, Calls Tryz.prog f args W fun e w' => e = .returned v ∧ Below W.heap.size W w') (n : Wd C) :
    Hid (Calls Tryz.prog f args n.w fun e w'' => e = .returned v ∧ ∃ m : Wd C, w'' = m.w) :=
  Calls.quiet_in (C := C) ((h n.w).mono fun _ _ h => ⟨h.1, H.out _ _ n.h h.2⟩)
theorem csame {C : World → Prop} {f : FuncId} {args : Array Value} {v : Value} (h : ∀ W, Calls Tryz.prog f args W fun e w' => e = .returned v ∧ W = w') (n : Wd C) :
    Hid (Calls Tryz.prog f args n.w fun e w'' => e = .returned v ∧ ∃ m : Wd C, w'' = m.w) :=
  Calls.quiet_in (C := C) ((h n.w).mono fun _ _ h => ⟨h.1, h.2 ▸ n.h⟩)
/-- A contract on a list, in a class of worlds. -/
theorem cinL {C : World → Prop} {w : World} (H : Hid (∀ W W', C W → Below W.heap.size W W' → C W')) (B : Hid (∀ n : Wd C, Below w.heap.size w n.w)) {f : FuncId} {args : Array Value} {v : Value} (h : ∀ W, Below w.heap.size w W → Calls Tryz.prog f args W fun e w' => e = .returned v ∧ Below W.heap.size W w') (n : Wd C) :
    Hid (Calls Tryz.prog f args n.w fun e w'' => e = .returned v ∧ ∃ m : Wd C, w'' = m.w) :=
  Calls.quiet_in (C := C) ((h n.w (B.out n)).mono fun _ _ h => ⟨h.1, H.out _ _ n.h h.2⟩)
theorem wrapEq (x : Int) : IntKind.i64.wrap x = wrap64 x := by rw [IntKind.wrap_i64]; unfold wrap64; first | rfl | omega
/-- Draws, and blocks behind. -/
def Gr (W W' : World) : Prop := ∃ k os, W' = grow (W.drewN k) os
theorem Gr.refl (W : World) : Gr W W := ⟨0, #[], by rw [grow_empty]; rfl⟩
theorem Gr.trans {A B C : World} (h : Gr A B) (k : Gr B C) : Gr A C := by
  obtain ⟨n, os, rfl⟩ := h
  obtain ⟨m, os', rfl⟩ := k
  refine ⟨n + m, os ++ os', ?_⟩
  show grow (grow ((A.drewN n).drewN m) os) os' = _
  rw [grow_grow, World.drewN_drewN]
theorem Gr.al (W : World) (o : Obj) : Gr W (W.alloc o) := ⟨0, #[o], by rw [alloc_eq_grow]; rfl⟩
theorem Gr.dr (W : World) : Gr W W.drew := ⟨1, #[], by rw [grow_empty]; rfl⟩
theorem Gr.below {W W' : World} (h : Gr W W') : Below W.heap.size W W' := by
  obtain ⟨n, os, rfl⟩ := h
  refine ⟨rfl, rfl, rfl, ?_, fun k hk => ?_⟩
  · simp [grow, World.drewN]
  · simp [grow, World.drewN, Array.getElem?_append, hk]
structure StG (w W : World) (l : List (Nat × Nat × Value)) : Prop where
  b : Gr w W
  c : Cs W l
theorem StG.nil (w : World) : StG w w [] := ⟨Gr.refl _, trivial⟩
theorem StG.next {w W W' : World} {l} (h : StG w W l) (hb : Gr W W') : StG w W' l := ⟨h.b.trans hb, h.c.keep hb.below⟩
theorem StG.box {w W : World} {l} (h : StG w W l) (cs : Array Value) (e : TypeId) (b : Nat) (hb : W.heap.size = b) : StG w (W.alloc (.cells cs e)) (blk b 0 cs.toList ++ l) := by
  subst hb
  exact ⟨h.b.trans (Gr.al _ _), Cs.app (h.next (Gr.al _ _)).c (cs_blk W cs e _ 0 rfl)⟩
theorem clsG {w W0 : World} {L : List (Nat × Nat × Value)} (S : StG w W0 L) : ∃ C : World → Prop, C W0 ∧ Hid (∀ W W', C W → Gr W W' → C W') ∧ Hid (∀ n : Wd C, Cs n.w L) ∧ Hid (∀ n : Wd C, Gr w n.w) ∧ Nonempty (Wd C) :=
  ⟨fun W => StG w W L, S, fun _ _ h hb => h.next hb, fun n => n.h.c, fun n => n.h.b, ⟨⟨W0, S⟩⟩⟩
theorem cinG {C : World → Prop} (H : Hid (∀ W W', C W → Gr W W' → C W')) {f : FuncId} {args : Array Value} {v : Value} (h : ∀ W, Calls Tryz.prog f args W fun e w' => e = .returned v ∧ Gr W w') (n : Wd C) :
    Hid (Calls Tryz.prog f args n.w fun e w'' => e = .returned v ∧ ∃ m : Wd C, w'' = m.w) :=
  Calls.quiet_in (C := C) ((h n.w).mono fun _ _ h => ⟨h.1, H.out _ _ n.h h.2⟩)
theorem all_nil {b o : Nat} : ∀ x ∈ ([] : List (Nat × Nat × Value)), x.1 ≠ b ∨ x.2.1 ≠ o := by simp
theorem all_cons {b o b' o' : Nat} {v : Value} {l : List (Nat × Nat × Value)} (h : b' ≠ b ∨ o' ≠ o) (t : ∀ x ∈ l, x.1 ≠ b ∨ x.2.1 ≠ o) : ∀ x ∈ (b', o', v) :: l, x.1 ≠ b ∨ x.2.1 ≠ o := by
  intro x hx
  rcases List.mem_cons.1 hx with rfl | hx
  · exact h
  · exact t x hx
theorem all_app {b o : Nat} {l m : List (Nat × Nat × Value)} (h : ∀ x ∈ l, x.1 ≠ b ∨ x.2.1 ≠ o) (t : ∀ x ∈ m, x.1 ≠ b ∨ x.2.1 ≠ o) : ∀ x ∈ l ++ m, x.1 ≠ b ∨ x.2.1 ≠ o := by
  intro x hx
  rcases List.mem_append.1 hx with hx | hx
  · exact h x hx
  · exact t x hx
theorem Cs.mid {W : World} : ∀ {pre post : List (Nat × Nat × Value)} {b o : Nat} {u : Value}, Cs W (pre ++ (b, o, u) :: post) → Cs W (pre ++ post) ∧ Cs W [(b, o, u)]
  | [], _, _, _, _, h => ⟨h.2, h.1, trivial⟩
  | x :: pre, post, b, o, u, h => by
    have := Cs.mid (pre := pre) (post := post) (b := b) (o := o) (u := u) h.2
    exact ⟨⟨h.1, this.1⟩, this.2⟩
theorem Cs.mid_mk {W : World} : ∀ {pre post : List (Nat × Nat × Value)} {b o : Nat} {u : Value}, Cs W (pre ++ post) → Cs W [(b, o, u)] → Cs W (pre ++ (b, o, u) :: post)
  | [], _, _, _, _, h, k => ⟨k.1, h⟩
  | _ :: _, _, _, _, _, h, k => ⟨h.1, Cs.mid_mk h.2 k⟩
open Go.Shelf
attribute [local go_sem] Oper.semAt_some
theorem defer_ne {ops : List Oper} (h : (ops.all fun o => match o.op with | .defer _ => false | _ => true) = true) {o : Oper} (ho : o ∈ ops) : ∀ c, o.op ≠ .defer c := by
  intro c e
  have := List.all_eq_true.1 h o ho
  rw [e] at this
  cases this
theorem wpIn_of_quiet {P : Program} {C : World → Prop} {o : Oper} {a : Act} {l n : Nat} {K : Act → Prop} {K' : Act → World → Prop} {Q' : Exit → Act → World → Prop} {w : World} (hd : ∀ c, o.op ≠ .defer c) (hw : C w) (h : ∀ a w', C w' → K a → K' a w') (hh : o.quiet P a C K) :
    o.wpIn (Fence.wide.inRound l) n P a w K' Q' := by
  obtain ⟨v, h1, h2⟩ := hh
  have h3 := h1 w hw
  unfold Oper.quietAt at h3
  unfold Oper.wpIn
  refine ⟨fun _ _ => trivial, ?_⟩
  rw [Oper.semAt_eq _ _ _ hd]
  generalize (execOp a.eval o).run P w = r at *
  cases r with
  | ok x w' =>
    cases x <;> simp only [Oper.quietUpon] at h3
    case value u =>
      obtain ⟨e1, e2⟩ := h3
      subst e1 e2
      exact h _ _ hw h2
    case skip =>
      obtain ⟨e1, e2⟩ := h3
      subst e1 e2
      exact h _ _ hw h2
    case enter f args =>
      obtain ⟨e1, hc⟩ := h3
      subst e1
      rw [Oper.uponIn_enter]
      refine ⟨(fun hx => by cases hx), (CallsIn.inRound l (callsIn_wide.2 hc)).mono ?_⟩
      rintro e w'' ⟨rfl, hw''⟩
      exact h _ _ hw'' h2
  | halt x w' => simp only [Oper.quietUpon] at h3
theorem wpAnyIn_of_quiet {P : Program} {md : Region.Mode} {C : World → Prop} {ops : List Oper} {l n : Nat} {Q : Act → Prop} {Q' : Exit → Act → World → Prop} (hd : (ops.all fun o => match o.op with | .defer _ => false | _ => true) = true) (hQ : ∀ a w, C w → Q a → Q' .normal a w) :
    ∀ (fuel : Nat) (listed : Array Bool) (a : Act) (w : World), C w → wpAnyQ P md ops.toArray C Q fuel listed a → wpAnyIn (Fence.wide.inRound l) n P md ops.toArray Q' fuel listed a w
  | 0, _, _, _, hw, h => ⟨h.1, hQ _ _ hw h.2⟩
  | fuel + 1, listed, a, w, hw, h => ⟨fun h0 => hQ _ _ hw (h.1 h0), fun i hi => by
      have hq := h.2 i hi
      unfold qOp at hq
      unfold wpOpIn
      cases ho : ops.toArray[i]? with
      | none => rw [ho] at hq; exact wpAnyIn_of_quiet hd hQ fuel _ a w hw hq
      | some o =>
        rw [ho] at hq
        dsimp only at hq ⊢
        have hm : o ∈ ops := by
          have := Array.mem_of_getElem? ho
          simpa using this
        split
        · rename_i hwn
          rw [if_pos hwn] at hq
          exact wpIn_of_quiet (defer_ne hd hm) hw (fun a' w' hw' hk => wpAnyIn_of_quiet hd hQ fuel _ a' w' hw' hk) hq
        · rename_i hwn
          rw [if_neg hwn] at hq
          exact ⟨fun _ _ => trivial, wpAnyIn_of_quiet hd hQ fuel _ _ w hw hq⟩⟩
/-- A region that draws its order, in a round: one walk in a class of worlds. -/
theorem wpIn_region_in {P : Program} {id l n : Nat} {Q : Exit → Act → World → Prop} {a : Act} {w : World} {ls : List Oper} (C : World → Prop) (hC : C w.drew) (hm : P.follows .mixedOrders = true) (hB : Region.lexB .any ls.toArray = true)
    (hd : (ls.all fun o => match o.op with | .defer _ => false | _ => true) = true)
    (h : wpQuiet P ls.toArray (fun w' => ∃ n : Wd C, w' = n.w) (fun a' => ∀ w', C w' → Q .normal a' w') ls a) : (Code.region id ls.toArray true).wpIn (Fence.wide.inRound l) n P Q a w := by
  have e : (fun w' => ∃ n : Wd C, w' = n.w) = C := funext fun w' => propext ⟨fun ⟨n, hn⟩ => hn ▸ n.h, fun hc => ⟨⟨w', hc⟩, rfl⟩⟩
  rw [e] at h
  simp only [Region.lexB, Bool.and_eq_true] at hB
  refine wpIn_region_any hm (wpAnyIn_of_quiet hd (Q := fun a' => ∀ w', C w' → Q .normal a' w') (fun _ w' hw' h => h w' hw') _ _ _ _ hC ?_)
  have := wpAnyQ_lex (C := C) (md := .any) hB.1 ls 0 (Array.replicate ls.toArray.size false) a (by simp) (by simpa using hB.2) h
  simpa using this
end Go.Proofs.YtcejmfgbfdhflaaGreat
