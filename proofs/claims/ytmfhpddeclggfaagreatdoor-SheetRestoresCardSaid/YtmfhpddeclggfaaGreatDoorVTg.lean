import Derived.Test.YtmfhpddeclggfaaGreatDoorVTb
import Derived.Test.YtmfhpddeclggfaaGreatDoorVIia
import Derived.Test.YtmfhpddeclggfaaGreatDoorTf
import Derived.Test.YtmfhpddeclggfaaGreatDoorVTc
import Derived.Test.YtmfhpddeclggfaaGreatDoorVTa
import Derived.Test.YtmfhpddeclggfaaGreatDoorVIfb
import Derived.Test.YtmfhpddeclggfaaGreatDoorVc
import Derived.Test.YtmfhpddeclggfaaGreatDoorKf
import Derived.Test.YtmfhpddeclggfaaGreatDoorOm
import Derived.Lib.ConvBytes
import Derived.Laws.IdiomStrings
import Derived.WalkKit
import Derived.LoopTactic
import Derived.WalkSpells
import Derived.WalkLawsBesides
import Derived.Lib.Hide
import Derived.BigQuiet
import Derived.IntWalk
import Derived.Deep.DeepMust
import Derived.WalkSmall
import Derived.StillTailTactics
import Derived.Deep.RegionLaw
import Derived.Deep.QuietTactic
import Derived.Deep.Cut
import Derived.Deep.DeepCutAuto
import Derived.Deep.LoopGhost
import Derived.Deep.RegionHeld3
import Derived.Laws.OwnMore
namespace Go.Proofs.YtmfhpddeclggfaaGreatDoor
open Go.RowKit
/-! A region that draws its order, by an invariant. -/
theorem ready_mem {md : Region.Mode} {ops : Array Oper} {li : Array Bool} {i : Nat} (h : i ∈ Region.ready md ops li) :
    i < ops.size ∧ li.getD i true = false ∧ ∀ o, ops[i]? = some o → ∀ e ∈ o.after, Region.binds md e = true → li.getD e.on false = true := by
  unfold Region.ready at h
  rw [List.mem_filter, List.mem_range, Bool.and_eq_true] at h
  obtain ⟨h1, h2, h3⟩ := h
  refine ⟨h1, by simpa using h2, fun o ho e he hb => ?_⟩
  rw [ho] at h3
  simp only [Option.map_some, Option.getD_some] at h3
  have := (Array.all_eq_true'.1 h3) e he
  rw [hb] at this
  simpa using this
theorem count_list {li : Array Bool} {i : Nat} (h : li.getD i true = false) : (li.setIfInBounds i true).toList.count false + 1 = li.toList.count false := by
  have hi : i < li.toList.length := by
    apply Classical.byContradiction
    intro hn
    rw [Array.getD_eq_getD_getElem?, Array.getElem?_eq_none (by simpa using hn)] at h
    cases h
  have hv : li.toList[i] = false := by
    rw [Array.getD_eq_getD_getElem?, Array.getElem?_eq_getElem (by simpa using hi)] at h
    simpa using h
  rw [Array.toList_setIfInBounds, List.count_set hi, hv]
  have : 0 < li.toList.count false := List.count_pos_iff.2 (by rw [← hv]; exact List.getElem_mem hi)
  have e1 : (false == false) = true := rfl
  have e2 : (true == false) = false := rfl
  rw [e1, e2, if_pos rfl, if_neg (by decide)]
  omega
theorem wpAny_inv {P : Program} {md : Region.Mode} {ops : Array Oper} {Q : Exit → Act → World → Prop} (I : Array Bool → Act → World → Prop)
    (hstep : ∀ li a w i, I li a w → i ∈ Region.ready md ops li → wpOp P ops Q i (I (li.setIfInBounds i true)) a w) (hend : ∀ li a w, I li a w → Region.ready md ops li = [] → Q .normal a w) :
    ∀ (fuel : Nat) (li : Array Bool) (a : Act) (w : World), li.size = ops.size → I li a w → li.toList.count false ≤ fuel → wpAny P md ops Q fuel li a w
  | 0, li, a, w, hz, hI, hc => by
    have hr : Region.ready md ops li = [] := by
      rw [List.eq_nil_iff_forall_not_mem]
      intro i hi
      have h2 := count_list (ready_mem hi).2.1
      omega
    exact ⟨hr, hend li a w hI hr⟩
  | fuel + 1, li, a, w, hz, hI, hc => by
    refine ⟨hend li a w hI, fun i hi => ?_⟩
    have h2 := count_list (ready_mem hi).2.1
    exact wpOp_mono (fun a' w' h => wpAny_inv I hstep hend fuel _ a' w' (by rw [Array.size_setIfInBounds]; exact hz) h (by omega)) (hstep li a w i hI hi)
theorem wp_region_inv {P : Program} {id : Nat} {ops : Array Oper} {Q : Exit → Act → World → Prop} {a : Act} {w : World} (I : Array Bool → Act → World → Prop) (hm : P.follows .mixedOrders = true)
    (h0 : I (Array.replicate ops.size false) a w.drew) (hstep : ∀ li a w i, I li a w → i ∈ Region.ready .any ops li → wpOp P ops Q i (I (li.setIfInBounds i true)) a w)
    (hend : ∀ li a w, I li a w → Region.ready .any ops li = [] → Q .normal a w) : (Code.region id ops true).wp P Q a w := by
  refine wp_region_any hm (wpAny_inv I hstep hend ops.size _ a _ (by simp) h0 ?_)
  simp
theorem wpOp_val {P : Program} {ops : Array Oper} {Q : Exit → Act → World → Prop} {i : Nat} {K : Act → World → Prop} {a : Act} {w w' : World} {o : Oper} {v : Value} (ho : ops[i]? = some o) (hg : o.guard = none)
    (hr : (execOp a.eval o).run P w = .ok (.value v) w') (hK : K (a.put o.dst v) w') : wpOp P ops Q i K a w := by
  unfold wpOp
  rw [ho]
  dsimp only
  rw [if_pos (by simp [Region.wanted, hg])]
  left
  unfold Oper.wp
  rw [hr]
  exact hK
theorem wpOp_skip {P : Program} {ops : Array Oper} {Q : Exit → Act → World → Prop} {i : Nat} {K : Act → World → Prop} {a : Act} {w w' : World} {o : Oper} (ho : ops[i]? = some o) (hg : o.guard = none) (hd : o.dst = none)
    (hr : (execOp a.eval o).run P w = .ok .skip w') (hK : K a w') : wpOp P ops Q i K a w := by
  unfold wpOp
  rw [ho]
  dsimp only
  rw [if_pos (by simp [Region.wanted, hg])]
  left
  unfold Oper.wp
  rw [hr]
  show K (a.put o.dst undef) w'
  rw [hd]
  exact hK
/-- Frames that are the same but for some slots. -/
structure SLT (D : List Nat) (A0 a : Act) : Prop where
  d : a.defers = A0.defers
  sz : a.tmps.size = A0.tmps.size
  o : ∀ s, s ∉ D → a.tmps[s]? = A0.tmps[s]?
theorem SLT.put {D : List Nat} {A0 a : Act} (h : SLT D A0 a) {d : Nat} (hd : d ∈ D) (v : Value) : SLT D A0 (a.put (some d) v) :=
  ⟨h.d, by simp [Act.put, h.sz], fun s hs => by
    have : d ≠ s := fun e => hs (e ▸ hd)
    simp only [Act.put, Array.getElem?_setIfInBounds, if_neg this]
    exact h.o s hs⟩
theorem put_get {a : Act} {d : Nat} {v : Value} (h : d < a.tmps.size) : (a.put (some d) v).tmps[d]? = some v := by simp [Act.put, h]
theorem put_ne {a : Act} {d s : Nat} {v : Value} (h : d ≠ s) : (a.put (some d) v).tmps[s]? = a.tmps[s]? := by
  simp only [Act.put, Array.getElem?_setIfInBounds, if_neg h]
theorem eval_slot {a : Act} {t : Nat} {v : Value} (h : a.tmps[t]? = some v) : a.eval (.tmp t) = v := by
  simp [Act.eval, Array.getD_eq_getD_getElem?, h]
def putL (L : List (Nat × Value)) (A : Act) : Act := L.foldl (fun a x => a.put (some x.1) x.2) A
theorem putL_eq {a : Act} : ∀ (L : List (Nat × Value)) (A : Act), (∀ s, A.tmps[s]? = a.tmps[s]? ∨ s ∈ L.map Prod.fst) → (∀ x ∈ L, a.tmps[x.1]? = some x.2) → A.tmps.size = a.tmps.size → A.defers = a.defers → putL L A = a
  | [], A, h, _, _, hd => by
    have : A.tmps = a.tmps := Array.ext_getElem? fun s => (h s).resolve_right (by simp)
    obtain ⟨t, d⟩ := A
    obtain ⟨t', d'⟩ := a
    simp only at this hd
    subst this hd
    rfl
  | x :: L, A, h, hv, hz, hd => by
    refine putL_eq L (A.put (some x.1) x.2) (fun s => ?_) (fun y hy => hv y (List.mem_cons_of_mem _ hy)) (by simp [Act.put, hz]) hd
    by_cases e : x.1 = s
    · left
      subst e
      have h1 := hv x List.mem_cons_self
      rw [h1, put_get (by rw [hz]; exact (Array.getElem?_eq_some_iff.1 h1).1)]
    · rw [put_ne e]
      rcases h s with h | h
      · exact .inl h
      · right
        rw [List.map_cons] at h
        exact (List.mem_cons.1 h).resolve_left (fun e2 => e e2.symm)
/-! Three appends that are stored together: a region that draws its order. -/
theorem KpT.app {w W W' : World} {rs : Fin 4 → Row} {q : Option Addr} (h : KpT w W rs q) (i : Fin 4) (r : Row) (hgr : W.grownBy W' (rs i).v.ownBlock) (hat : r.v.ownBlock = (rs i).v.ownBlock ∨ ∃ x, r.v.ownBlock = some x ∧ W.heap.size ≤ x) : KpT w W' (fun j => if j = i then r else rs j) q := fun ad e => by
  obtain ⟨g1, g2, g3⟩ := h ad e
  refine ⟨Nat.lt_of_lt_of_le g1 hgr.size, g2, fun j => ?_⟩
  dsimp only
  split
  · rcases hat with h3 | ⟨x, h3, h4⟩
    · rw [h3]; exact g3 i
    · rw [h3]; exact fun e2 => by have := Option.some.inj e2; omega
  · exact g3 j
/-- A cell of a block that is none of the box's. -/
structure KB (w W : World) (rs : Fin 4 → Row) (b : Nat) (u : Value) : Prop where
  c : W.cell? ⟨b, 0, none⟩ = some u
  k : KpT w W rs (some ⟨b, 0, none⟩)
theorem KB.next {w W W' : World} {rs : Fin 4 → Row} {b : Nat} {u : Value} (h : KB w W rs b u) (hb : Below W.heap.size W W') : KB w W' rs b u :=
  ⟨(hb.cell (p := ⟨b, 0, none⟩) (h.k _ rfl).1).trans h.c, h.k.size hb.size⟩
theorem KB.app {w W W' : World} {rs : Fin 4 → Row} {b : Nat} {u : Value} (h : KB w W rs b u) (i : Fin 4) (r : Row) (hgr : W.grownBy W' (rs i).v.ownBlock) (hat : r.v.ownBlock = (rs i).v.ownBlock ∨ ∃ x, r.v.ownBlock = some x ∧ W.heap.size ≤ x) : KB w W' (fun j => if j = i then r else rs j) b u :=
  ⟨(World.cell?_of_block (a := ⟨b, 0, none⟩) (hgr.block _ (h.k _ rfl).1 ((h.k _ rfl).2.2 i))).trans h.c, h.k.app i r hgr hat⟩
theorem KB.store {w W : World} {rs : Fin 4 → Row} {b : Nat} {u : Value} (h : KB w W rs b u) (i : Nat) (v : Value) : KB w (W.setCell ⟨w.heap.size, i, none⟩ v) rs b u :=
  ⟨(World.cell?_setCell_other _ _ _ _ (fun e => (h.k _ rfl).2.1 (congrArg Addr.block e).symm)).trans h.c, fun ad e => ⟨by rw [World.size_setCell]; exact (h.k ad e).1, (h.k ad e).2⟩⟩
def gb (li : Array Bool) (j : Nat) : Bool := li.getD j false
theorem gb_same {li : Array Bool} {i : Nat} (h : i < li.size) : gb (li.setIfInBounds i true) i = true := by simp [gb, Array.getD_eq_getD_getElem?, h]
theorem gb_ne {li : Array Bool} {i j : Nat} (h : i ≠ j) : gb (li.setIfInBounds i true) j = gb li j := by
  simp only [gb, Array.getD_eq_getD_getElem?, Array.getElem?_setIfInBounds, if_neg h]
def Rw (e : TypeId) (b : Bool) (u : Value) (m : Nat) (xs : List Value) (n : Value) : Row := if b then ⟨e, 1, u, m + 1, xs ++ [n]⟩ else ⟨e, 1, u, m, xs⟩
theorem Rw_v (e : TypeId) (b : Bool) (u : Value) (m : Nat) (xs : List Value) (n : Value) : (Rw e b u m xs n).v = u := by unfold Rw; split <;> rfl
def c4 {α : Type} (a : α) (f : Fin 3 → α) : Fin 4 → α
  | 0 => a
  | 1 => f 0
  | 2 => f 1
  | 3 => f 2
theorem c4_succ {α : Type} (a : α) (f : Fin 3 → α) (k : Fin 3) : c4 a f k.succ = f k := by
  match k with
  | 0 => rfl
  | 1 => rfl
  | 2 => rfl
theorem c4_upd {α : Type} (a : α) (f g : Fin 3 → α) (k : Fin 3) (r : α) (h1 : g k = r) (h2 : ∀ j, j ≠ k → g j = f j) (i : Fin 4) : (if i = k.succ then r else c4 a f i) = c4 a g i := by
  match i with
  | 0 => rw [if_neg (fun e => Fin.succ_ne_zero k e.symm)]; rfl
  | 1 =>
    by_cases e : k = 0
    · subst e; rw [if_pos (show (1 : Fin 4) = Fin.succ 0 from rfl)]; exact h1.symm
    · rw [if_neg (fun e2 => e (Fin.succ_inj.1 (show k.succ = (0 : Fin 3).succ from e2.symm)))]; exact (h2 0 (fun e3 => e e3.symm)).symm
  | 2 =>
    by_cases e : k = 1
    · subst e; rw [if_pos (show (2 : Fin 4) = Fin.succ 1 from rfl)]; exact h1.symm
    · rw [if_neg (fun e2 => e (Fin.succ_inj.1 (show k.succ = (1 : Fin 3).succ from e2.symm)))]; exact (h2 1 (fun e3 => e e3.symm)).symm
  | 3 =>
    by_cases e : k = 2
    · subst e; rw [if_pos (show (3 : Fin 4) = Fin.succ 2 from rfl)]; exact h1.symm
    · rw [if_neg (fun e2 => e (Fin.succ_inj.1 (show k.succ = (2 : Fin 3).succ from e2.symm)))]; exact (h2 2 (fun e3 => e e3.symm)).symm
/-- The operations that only read: number and slot. -/
def NP : List (Nat × Nat) := [(0, 92), (1, 93), (2, 94), (5, 97), (6, 98), (7, 99), (10, 102), (11, 103), (12, 104), (15, 107), (17, 108), (19, 109)]
def DT : List Nat := [92, 93, 94, 95, 96, 97, 98, 99, 100, 101, 102, 103, 104, 105, 106, 107, 108, 109]
/-- What stands while the region runs. -/
structure J25 (W0 : World) (A0 : Act) (val : Nat → Value) (v0 : Value) (v : Fin 3 → Value) (r0 : Row) (E : Fin 3 → TypeId) (m : Nat) (xs : Fin 3 → List Value) (n : Fin 3 → Value) (X : List (Option Addr × List ByteArray)) (Y : List (Option Addr × List Bool))
    (li : Array Bool) (a : Act) (w : World) (u h : Fin 3 → Value) (b : Fin 3 → Nat) : Prop where
  sz : li.size = 21
  sl : SLT DT A0 a
  st : ∀ x ∈ NP, gb li x.1 = true → a.tmps[x.2]? = some (val x.1)
  cs : ∀ k : Fin 3, gb li (16 + 2 * k.val) = true → gb li (1 + 5 * k.val) = true ∧ gb li (4 + 5 * k.val) = true
  ts : TS W0 w (c4 v0 h) (c4 r0 fun k => Rw (E k) (gb li (4 + 5 * k.val)) (u k) m (xs k) (n k)) X Y
  e : ∀ k : Fin 3, gb li (4 + 5 * k.val) = false → u k = v k
  p : ∀ k : Fin 3, gb li (4 + 5 * k.val) = true → a.tmps[96 + 5 * k.val]? = some (u k)
  g0 : ∀ k : Fin 3, gb li (16 + 2 * k.val) = false → h k = v k
  g1 : ∀ k : Fin 3, gb li (16 + 2 * k.val) = true → h k = u k
  k : ∀ k : Fin 3, gb li (3 + 5 * k.val) = true → a.tmps[95 + 5 * k.val]? = some (.slice (some ⟨b k, 0, none⟩) 1 1) ∧ KB W0 w (c4 r0 fun k => Rw (E k) (gb li (4 + 5 * k.val)) (u k) m (xs k) (n k)) (b k) (n k)
section
variable {W0 : World} {A0 : Act} {val : Nat → Value} {v0 : Value} {v : Fin 3 → Value} {r0 : Row} {E : Fin 3 → TypeId} {m : Nat} {xs : Fin 3 → List Value} {n : Fin 3 → Value} {X : List (Option Addr × List ByteArray)} {Y : List (Option Addr × List Bool)}
  {li : Array Bool} {a : Act} {w : World} {u h : Fin 3 → Value} {b : Fin 3 → Nat}
theorem np_slot : ∀ x ∈ NP, ∀ y ∈ NP, x.1 ≠ y.1 → x.2 ≠ y.2 := by decide
theorem np_same : ∀ x ∈ NP, ∀ y ∈ NP, x.1 = y.1 → x.2 = y.2 := by decide
theorem np_facts : ∀ x ∈ NP, x.1 < 21 ∧ x.2 ∈ DT ∧ x.2 < 112 ∧ ∀ k : Fin 3, x.1 ≠ 3 + 5 * k.val ∧ x.1 ≠ 4 + 5 * k.val ∧ x.1 ≠ 16 + 2 * k.val ∧ x.2 ≠ 95 + 5 * k.val ∧ x.2 ≠ 96 + 5 * k.val := by decide
theorem J25.static (J : J25 W0 A0 val v0 v r0 E m xs n X Y li a w u h b) (hA : A0.tmps.size = 112) (x : Nat × Nat) (hx : x ∈ NP) :
    J25 W0 A0 val v0 v r0 E m xs n X Y (li.setIfInBounds x.1 true) (a.put (some x.2) (val x.1)) w u h b := by
  obtain ⟨q1, q2, q3, q4⟩ := np_facts x hx
  have hlt : x.1 < li.size := by rw [J.sz]; exact q1
  have e3 : ∀ k : Fin 3, gb (li.setIfInBounds x.1 true) (3 + 5 * k.val) = gb li (3 + 5 * k.val) := fun k => gb_ne (q4 k).1
  have e4 : ∀ k : Fin 3, gb (li.setIfInBounds x.1 true) (4 + 5 * k.val) = gb li (4 + 5 * k.val) := fun k => gb_ne (q4 k).2.1
  have e16 : ∀ k : Fin 3, gb (li.setIfInBounds x.1 true) (16 + 2 * k.val) = gb li (16 + 2 * k.val) := fun k => gb_ne (q4 k).2.2.1
  have p95 : ∀ k : Fin 3, (a.put (some x.2) (val x.1)).tmps[95 + 5 * k.val]? = a.tmps[95 + 5 * k.val]? := fun k => put_ne (q4 k).2.2.2.1
  have p96 : ∀ k : Fin 3, (a.put (some x.2) (val x.1)).tmps[96 + 5 * k.val]? = a.tmps[96 + 5 * k.val]? := fun k => put_ne (q4 k).2.2.2.2
  refine ⟨by rw [Array.size_setIfInBounds]; exact J.sz, J.sl.put q2 _, fun y hy hl => ?_, fun k hk => ?_, ?_, fun k hk => J.e k (by rwa [e4] at hk), fun k hk => by rw [p96]; exact J.p k (by rwa [e4] at hk), fun k hk => J.g0 k (by rwa [e16] at hk), fun k hk => J.g1 k (by rwa [e16] at hk), fun k hk => ?_⟩
  · by_cases e : x.1 = y.1
    · rw [← np_same x hx y hy e, ← e]
      exact put_get (by rw [J.sl.sz, hA]; exact q3)
    · rw [put_ne (np_slot x hx y hy e)]
      exact J.st y hy (by rwa [gb_ne e] at hl)
  · rw [e16] at hk
    obtain ⟨h1, h2⟩ := J.cs k hk
    refine ⟨?_, by rw [e4]; exact h2⟩
    by_cases e : x.1 = 1 + 5 * k.val
    · rw [← e]; exact gb_same hlt
    · rw [gb_ne e]; exact h1
  · simp only [e4]; exact J.ts
  · simp only [e4]
    rw [e3] at hk
    rw [p95]
    exact J.k k hk
theorem J25.build (J : J25 W0 A0 val v0 v r0 E m xs n X Y li a w u h b) (hA : A0.tmps.size = 112) (k : Fin 3) (t : TypeId) :
    J25 W0 A0 val v0 v r0 E m xs n X Y (li.setIfInBounds (3 + 5 * k.val) true) (a.put (some (95 + 5 * k.val)) (.slice (some ⟨w.heap.size, 0, none⟩) 1 1)) (w.alloc (.cells #[n k] t)) u h (fun j => if j = k then w.heap.size else b j) := by
  have hk3 := k.isLt
  have hlt : 3 + 5 * k.val < li.size := by rw [J.sz]; omega
  have hb : Below w.heap.size w (w.alloc (.cells #[n k] t)) := below_alloc1 _ _
  have e4 : ∀ j : Fin 3, gb (li.setIfInBounds (3 + 5 * k.val) true) (4 + 5 * j.val) = gb li (4 + 5 * j.val) := fun j => gb_ne (by omega)
  have e16 : ∀ j : Fin 3, gb (li.setIfInBounds (3 + 5 * k.val) true) (16 + 2 * j.val) = gb li (16 + 2 * j.val) := fun j => gb_ne (by omega)
  have e1 : ∀ j : Fin 3, gb (li.setIfInBounds (3 + 5 * k.val) true) (1 + 5 * j.val) = gb li (1 + 5 * j.val) := fun j => gb_ne (by omega)
  have hnp : ∀ y ∈ NP, 3 + 5 * k.val ≠ y.1 ∧ 95 + 5 * k.val ≠ y.2 := fun y hy => ⟨fun e => ((np_facts y hy).2.2.2 k).1 e.symm, fun e => ((np_facts y hy).2.2.2 k).2.2.2.1 e.symm⟩
  refine ⟨by rw [Array.size_setIfInBounds]; exact J.sz, J.sl.put (by match k with | 0 => decide | 1 => decide | 2 => decide) _, fun y hy hl => ?_, fun j hj => ?_, ?_, fun j hj => J.e j (by rwa [e4] at hj), fun j hj => by rw [put_ne (by omega)]; exact J.p j (by rwa [e4] at hj), fun j hj => J.g0 j (by rwa [e16] at hj), fun j hj => J.g1 j (by rwa [e16] at hj), fun j hj => ?_⟩
  · rw [put_ne (hnp y hy).2]
    exact J.st y hy (by rwa [gb_ne (hnp y hy).1] at hl)
  · rw [e16] at hj
    rw [e1, e4]
    exact J.cs j hj
  · simp only [e4]; exact J.ts.next hb
  · simp only [e4]
    by_cases e : j = k
    · subst e
      rw [if_pos rfl]
      refine ⟨put_get (by rw [J.sl.sz, hA]; omega), nw_at w #[n j] t 0 _ rfl, fun ad e => ?_⟩
      obtain rfl := Option.some.inj e
      refine ⟨by rw [World.size_alloc]; exact Nat.lt_succ_self _, fun e => ?_, fun i e => ?_⟩
      · have := J.ts.lt
        have e' : w.heap.size = W0.heap.size := e
        omega
      · have := ((J.ts.own i) _ e.symm).2
        have e' : w.heap.size < w.heap.size := this
        omega
    · rw [if_neg e]
      have hne : 3 + 5 * k.val ≠ 3 + 5 * j.val := fun e2 => e (Fin.ext (by omega))
      rw [gb_ne hne] at hj
      obtain ⟨h1, h2⟩ := J.k j hj
      exact ⟨by rw [put_ne (by omega)]; exact h1, h2.next hb⟩
theorem J25.append (J : J25 W0 A0 val v0 v r0 E m xs n X Y li a w u h b) (hA : A0.tmps.size = 112) (k : Fin 3) (h4 : gb li (4 + 5 * k.val) = false) {w' : World} {v' : Value}
    (hown : w'.ownsRow (W0.heap.size + 1) (E k) 1 v' (m + 1) (xs k ++ [n k])) (hgr : w.grownBy w' (u k).ownBlock) (hat : v'.ownBlock = (u k).ownBlock ∨ v'.ownBlock = some w.heap.size) :
    J25 W0 A0 val v0 v r0 E m xs n X Y (li.setIfInBounds (4 + 5 * k.val) true) (a.put (some (96 + 5 * k.val)) v') w' (fun j => if j = k then v' else u j) h b := by
  have hk3 := k.isLt
  have hlt : 4 + 5 * k.val < li.size := by rw [J.sz]; omega
  have hat' : v'.ownBlock = (u k).ownBlock ∨ ∃ x, v'.ownBlock = some x ∧ w.heap.size ≤ x := hat.imp id (fun h => ⟨_, h, Nat.le_refl _⟩)
  have e3 : ∀ j : Fin 3, gb (li.setIfInBounds (4 + 5 * k.val) true) (3 + 5 * j.val) = gb li (3 + 5 * j.val) := fun j => gb_ne (by omega)
  have e16 : ∀ j : Fin 3, gb (li.setIfInBounds (4 + 5 * k.val) true) (16 + 2 * j.val) = gb li (16 + 2 * j.val) := fun j => gb_ne (by omega)
  have e1 : ∀ j : Fin 3, gb (li.setIfInBounds (4 + 5 * k.val) true) (1 + 5 * j.val) = gb li (1 + 5 * j.val) := fun j => gb_ne (by omega)
  have e4 : ∀ j : Fin 3, j ≠ k → gb (li.setIfInBounds (4 + 5 * k.val) true) (4 + 5 * j.val) = gb li (4 + 5 * j.val) := fun j hj => gb_ne (fun e => hj (Fin.ext (by omega)))
  have e4' : gb (li.setIfInBounds (4 + 5 * k.val) true) (4 + 5 * k.val) = true := gb_same hlt
  have hnp : ∀ y ∈ NP, 4 + 5 * k.val ≠ y.1 ∧ 96 + 5 * k.val ≠ y.2 := fun y hy => ⟨fun e => ((np_facts y hy).2.2.2 k).2.1 e.symm, fun e => ((np_facts y hy).2.2.2 k).2.2.2.2 e.symm⟩
  have hrv : (c4 r0 (fun k => Rw (E k) (gb li (4 + 5 * k.val)) (u k) m (xs k) (n k)) k.succ).v = u k := by rw [c4_succ, Rw_v]
  have hupd := c4_upd r0 (fun k => Rw (E k) (gb li (4 + 5 * k.val)) (u k) m (xs k) (n k)) (fun j => Rw (E j) (gb (li.setIfInBounds (4 + 5 * k.val) true) (4 + 5 * j.val)) (if j = k then v' else u j) m (xs j) (n j)) k ⟨E k, 1, v', m + 1, xs k ++ [n k]⟩
    (by simp only [e4']; rw [if_pos trivial]; rfl) (fun j hj => by simp only [e4 j hj]; rw [if_neg hj])
  have T := J.ts.app k.succ ⟨E k, 1, v', m + 1, xs k ++ [n k]⟩ hown (by rw [hrv]; exact hgr) (by rw [hrv]; exact hat')
  have T2 := T.congr (fun _ => rfl) hupd
  refine ⟨by rw [Array.size_setIfInBounds]; exact J.sz, J.sl.put (by match k with | 0 => decide | 1 => decide | 2 => decide) _, fun y hy hl => ?_, fun j hj => ?_, T2, fun j hj => ?_, fun j hj => ?_, fun j hj => J.g0 j (by rwa [e16] at hj), fun j hj => ?_, fun j hj => ?_⟩
  · rw [put_ne (hnp y hy).2]
    exact J.st y hy (by rwa [gb_ne (hnp y hy).1] at hl)
  · rw [e16] at hj
    obtain ⟨h1, h2⟩ := J.cs j hj
    refine ⟨by rw [e1]; exact h1, ?_⟩
    by_cases e : j = k
    · rw [e]; exact e4'
    · rw [e4 j e]; exact h2
  · by_cases e : j = k
    · rw [e, e4'] at hj; cases hj
    · (try dsimp only); rw [if_neg e]; exact J.e j (by rwa [e4 j e] at hj)
  · by_cases e : j = k
    · subst e
      (try dsimp only)
      rw [if_pos rfl]
      exact put_get (by rw [J.sl.sz, hA]; omega)
    · (try dsimp only)
      rw [if_neg e, put_ne (fun e2 => e (Fin.ext (by omega)))]
      exact J.p j (by rwa [e4 j e] at hj)
  · rw [e16] at hj
    by_cases e : j = k
    · have := (J.cs j hj).2
      rw [e, h4] at this
      cases this
    · (try dsimp only); rw [if_neg e]; exact J.g1 j hj
  · rw [e3] at hj
    obtain ⟨h1, h2⟩ := J.k j hj
    refine ⟨by rw [put_ne (by omega)]; exact h1, ?_⟩
    have K := h2.app k.succ ⟨E k, 1, v', m + 1, xs k ++ [n k]⟩ (by rw [hrv]; exact hgr) (by rw [hrv]; exact hat')
    rw [funext hupd] at K
    exact K
theorem J25.store (J : J25 W0 A0 val v0 v r0 E m xs n X Y li a w u h b) (k : Fin 3) (h1 : gb li (1 + 5 * k.val) = true) (h4 : gb li (4 + 5 * k.val) = true) :
    J25 W0 A0 val v0 v r0 E m xs n X Y (li.setIfInBounds (16 + 2 * k.val) true) a (w.setCell ⟨W0.heap.size, k.val + 1, none⟩ (u k)) u (fun j => if j = k then u k else h j) b := by
  have hk3 := k.isLt
  have hlt : 16 + 2 * k.val < li.size := by rw [J.sz]; omega
  have e3 : ∀ j : Fin 3, gb (li.setIfInBounds (16 + 2 * k.val) true) (3 + 5 * j.val) = gb li (3 + 5 * j.val) := fun j => gb_ne (by omega)
  have e4 : ∀ j : Fin 3, gb (li.setIfInBounds (16 + 2 * k.val) true) (4 + 5 * j.val) = gb li (4 + 5 * j.val) := fun j => gb_ne (by omega)
  have e1 : ∀ j : Fin 3, gb (li.setIfInBounds (16 + 2 * k.val) true) (1 + 5 * j.val) = gb li (1 + 5 * j.val) := fun j => gb_ne (by omega)
  have e16 : ∀ j : Fin 3, j ≠ k → gb (li.setIfInBounds (16 + 2 * k.val) true) (16 + 2 * j.val) = gb li (16 + 2 * j.val) := fun j hj => gb_ne (fun e => hj (Fin.ext (by omega)))
  have e16' : gb (li.setIfInBounds (16 + 2 * k.val) true) (16 + 2 * k.val) = true := gb_same hlt
  have hnp : ∀ y ∈ NP, 16 + 2 * k.val ≠ y.1 := fun y hy e => ((np_facts y hy).2.2.2 k).2.2.1 e.symm
  have T := (J.ts.store k.succ (u k)).congr (c4_upd v0 h (fun j => if j = k then u k else h j) k (u k) (by rw [if_pos rfl]) (fun j hj => by rw [if_neg hj])) (fun _ => rfl)
  have hs : (k.succ : Fin 4).val = k.val + 1 := rfl
  rw [hs] at T
  refine ⟨by rw [Array.size_setIfInBounds]; exact J.sz, J.sl, fun y hy hl => J.st y hy (by rwa [gb_ne (hnp y hy)] at hl), fun j hj => ?_, by simp only [e4]; exact T, fun j hj => J.e j (by rwa [e4] at hj), fun j hj => J.p j (by rwa [e4] at hj), fun j hj => ?_, fun j hj => ?_, fun j hj => ?_⟩
  · rw [e1, e4]
    by_cases e : j = k
    · rw [e]; exact ⟨h1, h4⟩
    · exact J.cs j (by rwa [e16 j e] at hj)
  · by_cases e : j = k
    · rw [e, e16'] at hj; cases hj
    · (try dsimp only); rw [if_neg e]; exact J.g0 j (by rwa [e16 j e] at hj)
  · by_cases e : j = k
    · subst e; (try dsimp only); rw [if_pos rfl]
    · (try dsimp only); rw [if_neg e]; exact J.g1 j (by rwa [e16 j e] at hj)
  · rw [e3] at hj
    simp only [e4]
    obtain ⟨q1, q2⟩ := J.k j hj
    exact ⟨q1, q2.store _ _⟩
end
end Go.Proofs.YtmfhpddeclggfaaGreatDoor
