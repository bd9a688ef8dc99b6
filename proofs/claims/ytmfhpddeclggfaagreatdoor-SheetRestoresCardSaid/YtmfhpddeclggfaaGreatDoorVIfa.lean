import Derived.Test.YtmfhpddeclggfaaGreatDoorVIe
import Derived.Maps.Own
import Derived.Maps.OwnOps
import Derived.Maps.OwnSet
import Derived.Lib.SlKeysI
import Derived.RangeFuncNested
import Derived.RangeFuncBound
import Derived.RangeFuncCalls
import Derived.RangeFuncLeaves
import Derived.RangeFuncBox
import Derived.Shelf.Abstract
import Derived.Shelf.RegionOpen
import Derived.OwnWalkIn
import Derived.TacticsInMore
import Derived.LoopNIn
import Derived.LoopIn
import Derived.Maps.AppendAt
import Derived.Maps.OwnIn
import Derived.RegionIn
import Derived.BigRegionIn
import Derived.Stop.RegionWithIn
import Derived.WalkKit
import Derived.LoopTactic
import Derived.WalkSpells
import Derived.WalkLawsBesides
import Derived.Lib.Hide
import Derived.BigQuiet
import Derived.IntWalk
import Derived.Deep.DeepMust
import Derived.WalkSmall
import Derived.StillTailTactics
import Derived.Deep.RegionLaw
import Derived.Deep.QuietTactic
import Derived.Deep.Cut
import Derived.Deep.DeepCutAuto
import Derived.Deep.LoopGhost
import Derived.Laws.AppendOwn
namespace Go.Proofs.YtmfhpddeclggfaaGreatDoor
open Go.RowKit
/-! Scraps by their lengths: the map. -/
/-- What lies at a key. -/
def RH : Value → Option (DataW Value × List MemPlace) := fun v => some (.held v, [])
theorem und261 : Tryz.prog.underlying 261 = some (.map 3 209) := by kernel_rfl
theorem und3 : Tryz.prog.underlying 3 = some (.int .i64) := by kernel_rfl
theorem zero209 (w : World) : (zeroValue 209).run Tryz.prog w = .ok (.slice none 0 0) w := by kernel_rfl
theorem wf3 (z : Nat) (h : z ≤ 1000000) : (Lit.int .i64 (z : Int)).wf = true := by
  have h1 : IntKind.i64.min ≤ (z : Int) := Int.le_trans (show IntKind.i64.min ≤ 0 by decide) (by omega)
  simp [Lit.wf, h1]
  omega
theorem key3 (z : Nat) (h : z ≤ 1000000) : keyOf Tryz.prog 3 (.int .i64 (z : Int)) = some (.int .i64 (z : Int)) := by
  simp [keyOf, mapKey, wf3 z h]
theorem run_lookI {W : World} {M n : Nat} {D : DataW Value} (h : W.ownsMap Tryz.prog 3 RH M n D) (z : Nat) (hz : z ≤ 1000000) {v : Value} (hv : D.atKey (.int .i64 (z : Int)) (.held (.slice none 0 0)) = .held v) :
    (Instr.lookup 261 (.map (some M)) (.int .i64 (z : Int)) false).run Tryz.prog W = .ok v W := by
  obtain ⟨v', ps, hr, hv'⟩ := h.lookup (Maps.int_keyed und3) und261 (zero209 W) (zd := .held (.slice none 0 0)) (zp := []) rfl (key3 z hz)
  rw [hv] at hv'
  simp only [RH, Option.some.injEq, Prod.mk.injEq, DataW.held.injEq] at hv'
  rw [hr, hv'.1]
theorem run_updI {W : World} {M n : Nat} {D : DataW Value} (h : W.ownsMap Tryz.prog 3 RH M n D) (hn : n < maxLen) (z : Nat) (hz : z ≤ 1000000) (v : Value) :
    ∃ W', (Instr.mapUpdate 261 (.map (some M)) (.int .i64 (z : Int)) v).run Tryz.prog W = .ok () W' ∧ W'.ownsMap Tryz.prog 3 RH M (n + 1) (D.put (.int .i64 (z : Int)) (.held v)) ∧ W.grownBy W' (some M) :=
  h.update (Maps.int_keyed und3) und261 hn (key3 z hz) rfl
theorem lit_ne {a b : Int} (h : a ≠ b) : (Lit.int .i64 a : Lit) ≠ .int .i64 b := fun e => h (by cases e; rfl)
/-- The scraps of one length. -/
def ofL (l : List (Int × ByteArray)) (z : Nat) : List (Int × ByteArray) := l.filter fun x => x.2.size == z
theorem ofL_snoc (l : List (Int × ByteArray)) (x : Int × ByteArray) (z : Nat) : ofL (l ++ [x]) z = if z = x.2.size then ofL l z ++ [x] else ofL l z := by
  unfold ofL
  rw [List.filter_append]
  by_cases h : z = x.2.size
  · subst h; simp
  · have : (x.2.size == z) = false := beq_eq_false_iff_ne.2 (fun e => h e.symm)
    simp [h, this]
/-- The map by lengths, as it lies: M its block, B where the rows begin. -/
structure ByL (W : World) (B M : Nat) (D : DataW Value) (V : Nat → Value) (l : List (Int × ByteArray)) : Prop where
  mp : W.ownsMap Tryz.prog 3 RH M l.length D
  at' : ∀ z : Nat, D.atKey (.int .i64 (z : Int)) (.held (.slice none 0 0)) = .held (V z)
  hs : ∀ z : Int, Maps.has D (.int .i64 z) = true ↔ ∃ x ∈ l, ((x.2.size : Nat) : Int) = z
  ism : Maps.IsMap D
  fam : Fam B (fun z : Nat => (⟨260, 2, V z, (ofL l z).length, cellsP (ofL l z)⟩ : Row)) W
  lt : M < B
theorem ByL.kept {W W' : World} {B M : Nat} {D : DataW Value} {V : Nat → Value} {l : List (Int × ByteArray)} {row : Option Nat} (h : ByL W B M D V l) (hg : W.grownBy W' row) (hM : some M ≠ row) (hr : ∀ z, (V z).ownBlock = none ∨ (V z).ownBlock ≠ row) : ByL W' B M D V l :=
  ⟨h.mp.kept hg hM, h.at', h.hs, h.ism, h.fam.kept hg hr, h.lt⟩
theorem ByL.below {W W' : World} {B M : Nat} {D : DataW Value} {V : Nat → Value} {l : List (Int × ByteArray)} (h : ByL W B M D V l) (hb : Below W.heap.size W W') : ByL W' B M D V l := by
  have hg : W.grownBy W' none := ⟨hb.os, hb.tape, hb.output, hb.size, fun i hi _ => hb.block i hi⟩
  exact h.kept hg (by simp) (fun z => by cases (V z).ownBlock <;> simp)
theorem ByL.start (w : World) : ByL (w.alloc (.map #[] 0)) (w.heap.size + 1) w.heap.size (.map []) (fun _ => .slice none 0 0) [] :=
  ⟨World.ownsMap_made w _ _ _, fun _ => rfl, fun z => by simp [Maps.has], ⟨[], rfl⟩, ⟨fun _ => World.ownsRow_nil _ _ _ _, fun i j g hi => by cases hi⟩, Nat.lt_succ_self _⟩
theorem isKey (z : Int) : WideAt.IsKeyLit (.int .i64 z) := by trivial
/-- One scrap more. -/
theorem ByL.next {W W1 W2 : World} {B M : Nat} {D : DataW Value} {V : Nat → Value} {l : List (Int × ByteArray)} {x : Int × ByteArray} {v' : Value} (h : ByL W B M D V l)
    (hown : W1.ownsRow B 260 2 v' ((ofL l x.2.size).length + 1) (cellsP (ofL l x.2.size) ++ [.int .i64 x.1, .string x.2])) (hgr : W.grownBy W1 (V x.2.size).ownBlock) (hat : v'.ownBlock = some W.heap.size ∨ (v'.ownBlock = (V x.2.size).ownBlock ∧ (V x.2.size).ownBlock ≠ none))
    (hm : W2.ownsMap Tryz.prog 3 RH M (l.length + 1) (D.put (.int .i64 ((x.2.size : Nat) : Int)) (.held v'))) (hg2 : W1.grownBy W2 (some M)) :
    ByL W2 B M (D.put (.int .i64 ((x.2.size : Nat) : Int)) (.held v')) (fun z => if z = x.2.size then v' else V z) (l ++ [x]) := by
  have hF := h.fam.grown x.2.size ⟨260, 2, v', (ofL l x.2.size).length + 1, cellsP (ofL l x.2.size) ++ [.int .i64 x.1, .string x.2]⟩ hgr hown hat
  have hF2 : Fam B (fun z : Nat => (⟨260, 2, if z = x.2.size then v' else V z, (ofL (l ++ [x]) z).length, cellsP (ofL (l ++ [x]) z)⟩ : Row)) W1 := fam_ext hF (fun z => by
    by_cases e : z = x.2.size
    · subst e
      have h5 := cellsP_snoc (ofL l x.2.size) x.1 x.2
      simp [ofL_snoc]
      exact h5.symm
    · simp [ofL_snoc, e])
  refine ⟨by rw [List.length_append]; exact hm, fun z => ?_, fun z => ?_, h.ism.put _ _, hF2.kept hg2 (fun z => ?_), h.lt⟩
  · by_cases e : z = x.2.size
    · subst e
      rw [Maps.atKey_put_same h.ism (isKey _), if_pos rfl]
    · rw [Maps.atKey_put_other (lit_ne (fun e2 => e (by omega))), if_neg e]
      exact h.at' z
  · by_cases e : z = ((x.2.size : Nat) : Int)
    · subst e
      rw [Maps.has_put_same h.ism (isKey _)]
      simp only [true_iff]
      exact ⟨x, by simp, rfl⟩
    · rw [Maps.has_put_other (lit_ne e), h.hs]
      constructor
      · rintro ⟨y, hy, hz⟩; exact ⟨y, by simp [hy], hz⟩
      · rintro ⟨y, hy, hz⟩
        rcases List.mem_append.1 hy with hy | hy
        · exact ⟨y, hy, hz⟩
        · rw [List.mem_singleton] at hy
          subst hy
          exact absurd hz.symm e
  · cases hv : (if z = x.2.size then v' else V z).ownBlock with
    | none => exact .inl rfl
    | some g =>
      refine .inr (fun e => ?_)
      have h1 := ((hF2.own z).lt g hv).1
      have h2 := h.lt
      cases e
      omega
theorem ByL.row {W : World} {B M : Nat} {D : DataW Value} {V : Nat → Value} {l : List (Int × ByteArray)} (h : ByL W B M D V l) (z : Nat) : W.ownsRow B 260 2 (V z) (ofL l z).length (cellsP (ofL l z)) := h.fam.own z
theorem cellsP_at : ∀ (l : List (Int × ByteArray)) (k : Nat), k < l.length → (cellsP l)[k * 2]? = some (.int .i64 (l.getD k default).1) ∧ (cellsP l)[k * 2 + 1]? = some (.string (l.getD k default).2)
  | [], _, h => absurd h (Nat.not_lt_zero _)
  | x :: l, 0, _ => ⟨rfl, rfl⟩
  | x :: l, k + 1, h => by
    have := cellsP_at l k (Nat.lt_of_succ_lt_succ h)
    have e : (k + 1) * 2 = k * 2 + 1 + 1 := by omega
    rw [e]
    exact this
theorem cellsP_len (l : List (Int × ByteArray)) : (cellsP l).length = l.length * 2 := by
  induction l with
  | nil => rfl
  | cons x l ih => rw [List.length_cons, Nat.succ_mul, ← ih]; simp [cellsP]
theorem pl_own {W : World} {B : Nat} {v : Value} {l : List (Int × ByteArray)} (h : W.ownsRow B 260 2 v l.length (cellsP l)) : ∃ q c, v = .slice q l.length c ∧ PlAt W q l := by
  by_cases h0 : l = []
  · subst h0
    obtain ⟨h1, ⟨rfl, h2⟩ | ⟨g, cap, cur, rfl, hg, hc, h3, h4, h5, h6⟩⟩ := h
    · exact ⟨_, _, rfl, .inl rfl⟩
    · exact ⟨_, _, rfl, .inl rfl⟩
  · obtain ⟨g, cap, rfl, -, hl, hc⟩ := own_at h (List.length_pos_iff.2 h0) (cellsP_len l)
    refine ⟨_, _, rfl, .inr ⟨g, 0, rfl, hl, fun j hj => ?_⟩⟩
    obtain ⟨g1, g2⟩ := cellsP_at l j hj
    rw [Nat.zero_add]
    exact ⟨hc _ _ g1, hc _ _ g2⟩
/-- The lengths of scraps, each once. -/
def dd : List Int → List Int
  | [] => []
  | x :: l => if x ∈ dd l then dd l else x :: dd l
theorem dd_mem (z : Int) : ∀ l : List Int, z ∈ dd l ↔ z ∈ l
  | [] => Iff.rfl
  | x :: l => by
    have ih := dd_mem z l
    rw [dd]
    split
    · rename_i h
      rw [ih, List.mem_cons]
      constructor
      · exact .inr
      · rintro (rfl | h2)
        · exact ih.1 h
        · exact h2
    · rw [List.mem_cons, ih, List.mem_cons]
theorem dd_nodup : ∀ l : List Int, (dd l).Nodup
  | [] => List.nodup_nil
  | x :: l => by
    have ih := dd_nodup l
    rw [dd]
    split
    · exact ih
    · rename_i h
      exact List.nodup_cons.2 ⟨h, ih⟩
def lens (l : List (Int × ByteArray)) : List Int := dd (l.map fun x => ((x.2.size : Nat) : Int))
theorem ByL.keys {W : World} {B M : Nat} {D : DataW Value} {V : Nat → Value} {l : List (Int × ByteArray)} (h : ByL W B M D V l) : (lens l).Perm (intKeys D) := by
  refine CollectedI.perm (left := fun _ => false) ⟨?_, fun x => ?_⟩ h.mp (Maps.int_keyed und3) und3 (fun _ => rfl)
  · unfold lens
    exact dd_nodup _
  · rw [h.hs]
    simp [lens, dd_mem]
end Go.Proofs.YtmfhpddeclggfaaGreatDoor
