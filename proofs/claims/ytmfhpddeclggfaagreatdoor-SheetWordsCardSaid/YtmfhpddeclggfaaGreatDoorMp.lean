import Derived.Test.YtmfhpddeclggfaaGreatDoorAl
import Derived.Test.YtmfhpddeclggfaaGreatDoorFam
import Derived.Laws.StructEq
import Derived.MapKept
import Derived.WideKeyRuns
import Derived.Maps.Own
import Derived.WalkKit
import Derived.LoopTactic
import Derived.WalkSpells
import Derived.WalkLawsBesides
import Derived.Lib.Hide
import Derived.BigQuiet
import Derived.IntWalk
import Derived.Deep.DeepMust
import Derived.WalkSmall
import Derived.StillTailTactics
import Derived.Deep.RegionLaw
import Derived.Deep.QuietTactic
import Derived.Deep.RegionHeld3
import Derived.Deep.AppendLies
namespace Go.Proofs.YtmfhpddeclggfaaGreatDoor
open Go.RowKit
abbrev keyV (n : Int) (t : ByteArray) : Value := .agg #[.int .i64 n, .string t]
def keyB (a : Int) (s : ByteArray) (b : Int) (t : ByteArray) : Bool := a == b && s.toList == t.toList
theorem u242 : Tryz.prog.underlying 242 = some (.struct (Tryz.prog.fieldsOf 242)) := by kernel_rfl
theorem f242 : (Tryz.prog.fieldsOf 242).toList.map (fun f => (f.name, f.type, f.offset)) = [("number", 3, 0), ("text", 9, 1)] := by kernel_rfl
theorem part3 (a : Int) (x : Value) (w : World) : Sem.run Tryz.prog (part 3 #[.int .i64 a, x] 0) w = .ok (.int .i64 a) w := by kernel_rfl
theorem part9 (s : ByteArray) (x : Value) (w : World) : Sem.run Tryz.prog (part 9 #[x, .string s] 1) w = .ok (.string s) w := by kernel_rfl
theorem run_eqKey (a b : Int) (s t : ByteArray) (w : World) : Sem.run Tryz.prog (Op.equal 242 (keyV a s) (keyV b t)) w = .ok (keyB a s b t) w := by
  unfold Op.equal
  rw [show Op.maxDepth = 9999 + 1 from rfl, run_equalIn_struct w 9999 242 _ _ u242 (by kernel_rfl)]
  have hf := f242
  obtain ⟨f, g, hl⟩ : ∃ f g, (Tryz.prog.fieldsOf 242).toList = [f, g] := by
    generalize (Tryz.prog.fieldsOf 242).toList = l at hf
    match l, hf with
    | [f, g], _ => exact ⟨f, g, rfl⟩
    | [], h => simp at h
    | [_], h => simp at h
    | _ :: _ :: _ :: _, h => simp at h
  rw [hl] at hf ⊢
  simp only [List.map_cons, List.map_nil, List.cons.injEq, Prod.mk.injEq, and_true] at hf
  obtain ⟨⟨f1, f2, f3⟩, g1, g2, g3⟩ := hf
  have e1 : (Op.equalIn 9999 3 (.int .i64 a) (.int .i64 b)).run Tryz.prog w = .ok (a == b) w := run_equalIn_int (P := Tryz.prog) w 9998 3 .i64 .i64 a b (by kernel_rfl)
  have e2 : (Op.equalIn 9999 9 (.string s) (.string t)).run Tryz.prog w = .ok (s.toList == t.toList) w := run_equalIn_string (P := Tryz.prog) w 9998 9 s t (by kernel_rfl)
  have p1 := part9 s (.int .i64 a) w
  have p2 := part9 t (.int .i64 b) w
  simp only [Op.eqFields, f1, f2, f3, g1, g2, g3, ne_eq, String.reduceEq, not_false_eq_true, if_true, Sem.run_bind, part3, Result.andThen_ok, e1]
  by_cases h1 : a = b
  · subst h1
    by_cases h2 : s.toList = t.toList
    · simp [keyB, h2, Sem.run_pure, p1, p2, e2]
    · simp [keyB, h2, Sem.run_pure, p1, p2, e2]
  · simp [keyB, h1, Sem.run_pure]
theorem run_ckKey (em : Bool) (a : Int) (s : ByteArray) (w : World) : Sem.run Tryz.prog (Instr.checkKey em 10000 242 (keyV a s)) w = .ok () w := by kernel_rfl

/-- A map by readings, as it lies: keys and elements in their order. -/
abbrev Ent := Int × ByteArray × Value
def MapIs (W : World) (M : Nat) (L : List Ent) : Prop := ∃ es clock, W.heap[M]? = some (.map es clock) ∧ es.toList.map (fun e => (e.key, e.val)) = L.map fun x => (keyV x.1 x.2.1, x.2.2)
/-- Where a key stands. -/
def idxL (n : Int) (t : ByteArray) : List Ent → Option Nat
  | [] => none
  | x :: L => if keyB n t x.1 x.2.1 then some 0 else (idxL n t L).map (· + 1)
theorem run_asking (n : Int) (t : ByteArray) (w : World) : ∀ (es : List MapEntry) (L : List Ent) (i : Nat), es.map (fun e => (e.key, e.val)) = L.map (fun x => (keyV x.1 x.2.1, x.2.2)) →
    ∃ r, (Instr.findAsking 242 (keyV n t) es i).run Tryz.prog w = .ok r w ∧ (idxL n t L = none → r = none) ∧ ∀ k, idxL n t L = some k → ∃ x, L[k]? = some x ∧ keyB n t x.1 x.2.1 = true ∧ r = some (i + k, x.2.2)
  | [], [], i, _ => ⟨none, by simp [Instr.findAsking, Sem.run_pure], fun _ => rfl, by simp [idxL]⟩
  | e :: es, x :: L, i, h => by
    simp only [List.map_cons, List.cons.injEq, Prod.mk.injEq] at h
    obtain ⟨⟨h1, h2⟩, h3⟩ := h
    obtain ⟨r, hr, hm, hk⟩ := run_asking n t w es L (i + 1) h3
    by_cases hb : keyB n t x.1 x.2.1
    · refine ⟨some (i, e.val), ?_, by simp [idxL, hb], fun k hk => ?_⟩
      · simp [Instr.findAsking, Sem.run_bind, h1, run_eqKey, hb, Sem.run_pure]
      · obtain rfl : 0 = k := by simpa [idxL, hb] using hk
        exact ⟨x, rfl, hb, by rw [h2]; rfl⟩
    · refine ⟨r, ?_, fun h => hm (by simpa [idxL, hb] using h), fun k hkv => ?_⟩
      · simp [Instr.findAsking, Sem.run_bind, h1, run_eqKey, hb, hr]
      · simp only [idxL, if_neg hb, Option.map_eq_some_iff] at hkv
        obtain ⟨k', hk', rfl⟩ := hkv
        obtain ⟨y, hy1, hy2, hy3⟩ := hk k' hk'
        exact ⟨y, hy1, hy2, by rw [hy3]; congr 2; omega⟩
  | [], _ :: _, _, h => by simp at h
  | _ :: _, [], _, h => by simp at h
theorem und208 : Tryz.prog.underlying 208 = some (.map 242 85) := by kernel_rfl
theorem zero85 (w : World) : (zeroValue 85).run Tryz.prog w = .ok (.slice none 0 0) w := by kernel_rfl
/-- The element at a key. -/
def lookL (n : Int) (t : ByteArray) (L : List Ent) : Value := match idxL n t L with
  | some k => ((L[k]?).map (·.2.2)).getD (.slice none 0 0)
  | none => .slice none 0 0
theorem run_look {W : World} {M : Nat} {L : List Ent} (h : MapIs W M L) (n : Int) (t : ByteArray) : (Instr.lookup 208 (.map (some M)) (keyV n t) false).run Tryz.prog W = .ok (lookL n t L) W := by
  obtain ⟨es, clock, hm, hL⟩ := h
  obtain ⟨r, hr, hv, hk⟩ := run_asking n t W es.toList L 0 hL
  have hf := (Go.run_findKey_eq (P := Tryz.prog) (w := W) (k := 242) (by kernel_rfl) (keyV n t) es.toList).trans hr
  unfold Instr.lookup
  simp only [Sem.run_bind, run_underlying und208, Result.andThen_ok, MapKept.run_getObj_map hm, Sem.run_pure, run_ckKey, hf]
  cases hi : idxL n t L with
  | none =>
    obtain rfl := hv hi
    simp [lookL, hi]
  | some k =>
    obtain ⟨x, hx, -, rfl⟩ := hk k hi
    simp [lookL, hi, hx, Sem.run_pure]
/-- The map with an element at a key. -/
def updL (n : Int) (t : ByteArray) (v : Value) (L : List Ent) : List Ent := match idxL n t L with
  | some k => L.set k (n, t, v)
  | none => L ++ [(n, t, v)]
theorem keyB_eq {a b : Int} {s t : ByteArray} (h : keyB a s b t = true) : a = b ∧ s = t := by
  simp only [keyB, Bool.and_eq_true, beq_iff_eq] at h
  refine ⟨h.1, ?_⟩
  have := h.2
  rw [ByteArray.toList_eq, ByteArray.toList_eq] at this
  obtain ⟨⟨s⟩⟩ := s
  obtain ⟨⟨t⟩⟩ := t
  simp at this
  rw [this]
theorem same_key (n : Int) (t : ByteArray) : Instr.sameBits 10000 (keyV n t) (keyV n t) = true := by
  show Instr.sameBits (9999 + 1) (keyV n t) (keyV n t) = true
  simp [Instr.sameBits, beq_toListBytes]
theorem run_upd {W : World} {M : Nat} {L : List Ent} (h : MapIs W M L) (n : Int) (t : ByteArray) (v : Value) :
    ∃ W', (Instr.mapUpdate 208 (.map (some M)) (keyV n t) v).run Tryz.prog W = .ok () W' ∧ MapIs W' M (updL n t v L) ∧ W.grownBy W' (some M) := by
  obtain ⟨es, clock, hm, hL⟩ := h
  obtain ⟨r, hr, hv, hk⟩ := run_asking n t W es.toList L 0 hL
  have hf := (Go.run_findKey_eq (P := Tryz.prog) (w := W) (k := 242) (by kernel_rfl) (keyV n t) es.toList).trans hr
  have grown : ∀ o : Obj, W.grownBy (W.putObj M o) (some M) := fun o => grownBy_putObj' W M o
  have hlt : M < W.heap.size := (Array.getElem?_eq_some_iff.1 hm).1
  cases hi : idxL n t L with
  | none =>
    obtain rfl := hv hi
    refine ⟨W.putObj M (.map (es.push { key := keyV n t, val := v, born := clock }) (clock + 1)), ?_, ?_, grown _⟩
    · unfold Instr.mapUpdate
      simp [Sem.run_bind, run_underlying und208, MapKept.run_getObj_map hm, run_ckKey, hf, MapKept.run_setObj_map _ hm, World.putObj]
    · refine ⟨_, _, World.putObj_heap_same hlt, ?_⟩
      simp [updL, hi, hL]
  | some k =>
    obtain ⟨x, hx, hb, rfl⟩ := hk k hi
    obtain ⟨e1, e2⟩ := keyB_eq hb
    have hk1 : (es.toList.map (fun e => (e.key, e.val)))[k]? = some (keyV n t, x.2.2) := by
      rw [hL, List.getElem?_map, hx]
      show some (keyV x.1 x.2.1, x.2.2) = _
      rw [← e1, ← e2]
    obtain ⟨e, he, hek⟩ : ∃ e, es[k]? = some e ∧ e.key = keyV n t := by
      rw [List.getElem?_map] at hk1
      cases hq : es.toList[k]? with
      | none => rw [hq] at hk1; simp at hk1
      | some e =>
        rw [hq] at hk1
        simp only [Option.map_some, Option.some.injEq, Prod.mk.injEq] at hk1
        exact ⟨e, by simpa using hq, hk1.1⟩
    refine ⟨W.putObj M (.map (es.modify k fun e => { e with key := keyV n t, val := v }) clock), ?_, ?_, grown _⟩
    · have hst : Sem.run Tryz.prog (Instr.keyThatStays (keyV n t) (keyV n t)) W = .ok (keyV n t) W := by
        unfold Instr.keyThatStays
        rw [if_pos (same_key n t)]
        rfl
      unfold Instr.mapUpdate
      simp [Sem.run_bind, run_underlying und208, MapKept.run_getObj_map hm, run_ckKey, hf, he, hek, hst, MapKept.run_setObj_map _ hm, World.putObj]
    · refine ⟨_, _, World.putObj_heap_same hlt, ?_⟩
      have hkl : k < es.size := (Array.getElem?_eq_some_iff.1 he).1
      simp only [updL, hi]
      apply List.ext_getElem?
      intro j
      rw [List.getElem?_map, Array.getElem?_toList, Array.getElem?_modify, List.map_set, List.getElem?_set, ← hL]
      by_cases hj : k = j
      · subst hj
        simp [hkl]
      · simp [hj]
end Go.Proofs.YtmfhpddeclggfaaGreatDoor
