import Derived.Test.YtmfhpddeclggfaaGreatDoorVTg
import Derived.Test.YtmfhpddeclggfaaGreatDoorVc
import Derived.Test.YtmfhpddeclggfaaGreatDoorVIia
import Derived.Test.YtmfhpddeclggfaaGreatDoorTf
import Derived.Test.YtmfhpddeclggfaaGreatDoorVTc
import Derived.Test.YtmfhpddeclggfaaGreatDoorVTa
import Derived.Test.YtmfhpddeclggfaaGreatDoorVIfb
import Derived.Test.YtmfhpddeclggfaaGreatDoorKf
import Derived.Test.YtmfhpddeclggfaaGreatDoorOm
import Derived.Lib.ConvBytes
import Derived.Laws.IdiomStrings
import Derived.WalkKit
import Derived.LoopTactic
import Derived.WalkSpells
import Derived.WalkLawsBesides
import Derived.Lib.Hide
import Derived.BigQuiet
import Derived.IntWalk
import Derived.Deep.DeepMust
import Derived.WalkSmall
import Derived.StillTailTactics
import Derived.Deep.RegionLaw
import Derived.Deep.QuietTactic
import Derived.Deep.Cut
import Derived.Deep.DeepCutAuto
import Derived.Deep.LoopGhost
import Derived.Deep.RegionHeld3
import Derived.Laws.OwnMore
namespace Go.Proofs.YtmfhpddeclggfaaGreatDoor
open Go.RowKit
/-- An operation of a region. -/
def OpIs (ops : Array Oper) (i : Nat) (op : Op) (dst : Option Nat) (deps : List Nat) : Prop :=
  ∃ o, ops[i]? = some o ∧ o.op = op ∧ o.dst = dst ∧ o.guard = none ∧ ∀ d ∈ deps, ∃ e ∈ o.after, e.on = d ∧ Region.binds .any e = true
theorem t_field {a : Act} {o : Oper} {w : World} {B j : Nat} (ho : o.op = .fieldAddr 112 (.tmp 6) j) (hj : j < 4) (h6 : a.tmps[6]? = some (.pointer (some ⟨B, 0, none⟩))) : (execOp a.eval o).run Tryz.prog w = .ok (.value (.pointer (some ⟨B, j, none⟩))) w := by
  rcases j with _ | _ | _ | _ | j
  · simp [execOp, ho, h6, go_sem]
  · simp [execOp, ho, h6, go_sem]
  · simp [execOp, ho, h6, go_sem]
  · simp [execOp, ho, h6, go_sem]
  · omega
theorem t_load {a : Act} {o : Oper} {w : World} {B j : Nat} {s t : Nat} {v : Value} (ho : o.op = .load t (.tmp s)) (ht : t = 37 ∨ t = 51 ∨ t = 110) (hs : a.tmps[s]? = some (.pointer (some ⟨B, j, none⟩))) (hc : w.cell? ⟨B, j, none⟩ = some v) : (execOp a.eval o).run Tryz.prog w = .ok (.value v) w := by
  rcases ht with rfl | rfl | rfl <;> simp [execOp, ho, hs, go_sem, hc]
theorem t_move {a : Act} {o : Oper} {w : World} {s : Nat} {v : Value} (ho : o.op = .move (.tmp s)) (hs : a.tmps[s]? = some (v)) : (execOp a.eval o).run Tryz.prog w = .ok (.value v) w := by
  simp [execOp, ho, hs, go_sem]
def Plain1 (v : Value) : Prop := (∃ p n c, v = .slice p n c) ∨ ∃ s, v = .string s
theorem t_build {a : Act} {o : Oper} {w : World} {s t e : Nat} {v : Value} (ho : o.op = .buildSlice t 1 #[(0, .tmp s)]) (hte : (t = 37 ∧ e = 9) ∨ (t = 51 ∧ e = 37) ∨ (t = 110 ∧ e = 117)) (hs : a.tmps[s]? = some v) (hv : Plain1 v) : (execOp a.eval o).run Tryz.prog w = .ok (.value (.slice (some ⟨w.heap.size, 0, none⟩) 1 1)) (w.alloc (.cells #[v] e)) := by
  rcases hv with ⟨p, n, c, rfl⟩ | ⟨s, rfl⟩ <;> rcases hte with ⟨rfl, rfl⟩ | ⟨rfl, rfl⟩ | ⟨rfl, rfl⟩ <;> simp [execOp, ho, hs, go_sem]
theorem t_store {a : Act} {o : Oper} {w : World} {B j : Nat} {s r t : Nat} {v old : Value} (ho : o.op = .store t (.tmp s) (.tmp r)) (ht : t = 37 ∨ t = 51 ∨ t = 110) (hs : a.tmps[s]? = some (.pointer (some ⟨B, j, none⟩))) (hr : a.tmps[r]? = some v) (hc : w.cell? ⟨B, j, none⟩ = some old) (hf : w.frozen? ⟨B, j, none⟩ = false) (hv : ∃ p n c, v = .slice p n c) : (execOp a.eval o).run Tryz.prog w = .ok .skip (w.setCell ⟨B, j, none⟩ v) := by
  obtain ⟨p, n, c, rfl⟩ := hv
  rcases ht with rfl | rfl | rfl <;> simp [execOp, ho, hs, hr, go_sem, hc, hf]
theorem wpOp_wp {P : Program} {ops : Array Oper} {Q : Exit → Act → World → Prop} {i : Nat} {K : Act → World → Prop} {a : Act} {w : World} {o : Oper} (ho : ops[i]? = some o) (hg : o.guard = none)
    (h : (if Region.wanted o (yielded ops a.tmps) = true then Oper.wp P o a w K Q else True)) : wpOp P ops Q i K a w := by
  have hw : Region.wanted o (yielded ops a.tmps) = true := by simp [Region.wanted, hg]
  rw [if_pos hw] at h
  unfold wpOp
  rw [ho]
  dsimp only
  rw [if_pos hw]
  exact .inl h
theorem all_listed {md : Region.Mode} {ops : Array Oper} {li : Array Bool} (hz : li.size = ops.size) (hd : ∀ (i : Nat) (o : Oper), ops[i]? = some o → ∀ e ∈ o.after, e.on < i) (h : Region.ready md ops li = []) : ∀ i, i < ops.size → gb li i = true := by
  intro i
  induction i using Nat.strongRecOn with
  | ind i ih =>
    intro hi
    refine Classical.byContradiction fun hn => ?_
    have hnr : i ∉ Region.ready md ops li := by rw [h]; exact List.not_mem_nil
    refine hnr ?_
    unfold Region.ready
    rw [List.mem_filter, List.mem_range, Bool.and_eq_true]
    refine ⟨hi, ?_, ?_⟩
    · have h2 : gb li i = false := by simpa using hn
      unfold gb at h2
      rw [Array.getD_eq_getD_getElem?, Array.getElem?_eq_getElem (by omega)] at h2 ⊢
      simpa using h2
    · rw [Array.getElem?_eq_getElem hi]
      simp only [Option.map_some, Option.getD_some]
      rw [Array.all_eq_true']
      intro e he
      have h3 := hd i _ (Array.getElem?_eq_getElem hi) e he
      have h4 := ih e.on h3 (by omega)
      unfold gb at h4
      rw [h4, Bool.or_true]
def E25 : Fin 3 → TypeId
  | 0 => 9
  | 1 => 37
  | 2 => 117
def f3 {α : Type} (a b c : α) : Fin 3 → α
  | 0 => a
  | 1 => b
  | 2 => c
def pB (W0 : World) (j : Nat) : Value := .pointer (some ⟨W0.heap.size, j, none⟩)
def val25 (W0 : World) (v n : Fin 3 → Value) : Nat → Value
  | 0 => pB W0 1 | 5 => pB W0 2 | 10 => pB W0 3 | 15 => pB W0 1 | 17 => pB W0 2 | 19 => pB W0 3
  | 1 => v 0 | 6 => v 1 | 11 => v 2
  | 2 => n 0 | 7 => n 1 | 12 => n 2
  | _ => undef
def app25 (t s x : Nat) : Op := .call { callee := .builtin .append, args := #[.tmp s, .tmp x], argTypes := #[t, t] }
structure Ops25 (ops : Array Oper) : Prop where
  sz : ops.size = 21
  dep : ∀ (i : Nat) (o : Oper), ops[i]? = some o → ∀ e ∈ o.after, e.on < i
  o0 : OpIs ops 0 (.fieldAddr 112 (.tmp 6) 1) (some 92) []
  o1 : OpIs ops 1 (.load 37 (.tmp 92)) (some 93) [0]
  o2 : OpIs ops 2 (.move (.tmp 13)) (some 94) []
  o3 : OpIs ops 3 (.buildSlice 37 1 #[(0, .tmp 94)]) (some 95) [2]
  o4 : OpIs ops 4 (app25 37 93 95) (some 96) [1, 3]
  o5 : OpIs ops 5 (.fieldAddr 112 (.tmp 6) 2) (some 97) []
  o6 : OpIs ops 6 (.load 51 (.tmp 97)) (some 98) [5]
  o7 : OpIs ops 7 (.move (.tmp 14)) (some 99) []
  o8 : OpIs ops 8 (.buildSlice 51 1 #[(0, .tmp 99)]) (some 100) [7]
  o9 : OpIs ops 9 (app25 51 98 100) (some 101) [6, 8]
  o10 : OpIs ops 10 (.fieldAddr 112 (.tmp 6) 3) (some 102) []
  o11 : OpIs ops 11 (.load 110 (.tmp 102)) (some 103) [10]
  o12 : OpIs ops 12 (.move (.tmp 15)) (some 104) []
  o13 : OpIs ops 13 (.buildSlice 110 1 #[(0, .tmp 104)]) (some 105) [12]
  o14 : OpIs ops 14 (app25 110 103 105) (some 106) [11, 13]
  o15 : OpIs ops 15 (.fieldAddr 112 (.tmp 6) 1) (some 107) []
  o16 : OpIs ops 16 (.store 37 (.tmp 107) (.tmp 96)) none [15, 4, 1]
  o17 : OpIs ops 17 (.fieldAddr 112 (.tmp 6) 2) (some 108) []
  o18 : OpIs ops 18 (.store 51 (.tmp 108) (.tmp 101)) none [17, 9, 6]
  o19 : OpIs ops 19 (.fieldAddr 112 (.tmp 6) 3) (some 109) []
  o20 : OpIs ops 20 (.store 110 (.tmp 109) (.tmp 106)) none [19, 14, 11]
section
variable {ops : Array Oper} {Q : Exit → Act → World → Prop} {W0 : World} {A0 : Act} {v0 : Value} {v : Fin 3 → Value} {r0 : Row} {m : Nat} {xs : Fin 3 → List Value} {n : Fin 3 → Value} {X : List (Option Addr × List ByteArray)} {Y : List (Option Addr × List Bool)}
  {li : Array Bool} {a : Act} {w : World} {u h : Fin 3 → Value} {b : Fin 3 → Nat}
theorem deps25 {i : Nat} {op : Op} {dst : Option Nat} {ds : List Nat} (ho : OpIs ops i op dst ds) (hi : i ∈ Region.ready .any ops li) : gb li i = false ∧ ∀ d ∈ ds, gb li d = true := by
  obtain ⟨o, h1, -, -, -, h2⟩ := ho
  obtain ⟨q1, q2, q3⟩ := ready_mem hi
  refine ⟨?_, fun d hd => ?_⟩
  · unfold gb
    rw [Array.getD_eq_getD_getElem?] at q2 ⊢
    cases hl : li[i]? with
    | none => rfl
    | some x => rw [hl] at q2; simpa using q2
  · obtain ⟨e, he, rfl, hb⟩ := h2 d hd
    exact q3 o h1 e he hb
abbrev K25 (W0 : World) (A0 : Act) (v0 : Value) (v : Fin 3 → Value) (r0 : Row) (m : Nat) (xs : Fin 3 → List Value) (n : Fin 3 → Value) (X : List (Option Addr × List ByteArray)) (Y : List (Option Addr × List Bool)) (li : Array Bool) (a : Act) (w : World) : Prop :=
  ∃ u h b, J25 W0 A0 (val25 W0 v n) v0 v r0 E25 m xs n X Y li a w u h b
theorem st25 (J : J25 W0 A0 (val25 W0 v n) v0 v r0 E25 m xs n X Y li a w u h b) (hA : A0.tmps.size = 112) {i d : Nat} {op : Op} {ds : List Nat} (ho : OpIs ops i op (some d) ds) (hx : (i, d) ∈ NP) (hr : ∀ o : Oper, o.op = op → (execOp a.eval o).run Tryz.prog w = .ok (.value (val25 W0 v n i)) w) :
    wpOp Tryz.prog ops Q i (K25 W0 A0 v0 v r0 m xs n X Y (li.setIfInBounds i true)) a w := by
  obtain ⟨o, h1, h2, h3, h4, -⟩ := ho
  refine wpOp_val h1 h4 (hr o h2) ?_
  rw [h3]
  exact ⟨u, h, b, J.static hA (i, d) hx⟩
theorem bu25 (J : J25 W0 A0 (val25 W0 v n) v0 v r0 E25 m xs n X Y li a w u h b) (hA : A0.tmps.size = 112) (k : Fin 3) {s t : Nat} {ds : List Nat} (ho : OpIs ops (3 + 5 * k.val) (.buildSlice t 1 #[(0, .tmp s)]) (some (95 + 5 * k.val)) ds) (hte : (t = 37 ∧ E25 k = 9) ∨ (t = 51 ∧ E25 k = 37) ∨ (t = 110 ∧ E25 k = 117)) (hs : a.tmps[s]? = some (n k)) (hn : Plain1 (n k)) :
    wpOp Tryz.prog ops Q (3 + 5 * k.val) (K25 W0 A0 v0 v r0 m xs n X Y (li.setIfInBounds (3 + 5 * k.val) true)) a w := by
  obtain ⟨o, h1, h2, h3, h4, -⟩ := ho
  refine wpOp_val h1 h4 (t_build h2 hte hs hn) ?_
  rw [h3]
  exact ⟨_, _, _, J.build hA k (E25 k)⟩
theorem ap25 (J : J25 W0 A0 (val25 W0 v n) v0 v r0 E25 m xs n X Y li a w u h b) (hA : A0.tmps.size = 112) (k : Fin 3) {s x t : Nat} {ds : List Nat} (ho : OpIs ops (4 + 5 * k.val) (app25 t s x) (some (96 + 5 * k.val)) ds) (h4 : gb li (4 + 5 * k.val) = false)
    (ht : Tryz.prog.underlying t = some (.slice (E25 k))) {i0 : TypeInfo} {z : Value} {by' : Nat} (hi : Tryz.prog.info? (E25 k) = some i0) (hz : i0.zero = some z) (h1s : i0.size = 1) (hby : i0.bytes = by') (hzs : z.cells.size = 1) (hb8 : by' ≤ 24)
    (hs : a.tmps[s]? = some (v k)) (hx : x = 95 + 5 * k.val) (hk3 : gb li (3 + 5 * k.val) = true) (hn : Plain1 (n k)) (hm : m ≤ 5) :
    wpOp Tryz.prog ops Q (4 + 5 * k.val) (K25 W0 A0 v0 v r0 m xs n X Y (li.setIfInBounds (4 + 5 * k.val) true)) a w := by
  obtain ⟨o, q1, q2, q3, q4, -⟩ := ho
  obtain ⟨k1, k2⟩ := J.k k hk3
  have hu := J.e k h4
  have hown : w.ownsRow (W0.heap.size + 1) (E25 k) 1 (u k) m (xs k) := by
    have h0 := J.ts.fam.own k.succ
    rw [c4_succ] at h0
    simp only [h4, Rw] at h0
    exact h0
  have hnew : ∀ j y, [n k][j]? = some y → w.cell? ((⟨b k, 0, none⟩ : Addr).add j) = some y := fun j y hj => by
    cases j with
    | zero => 
      obtain rfl : n k = y := by simpa using hj
      exact k2.c
    | succ j => simp at hj
  have h1 : ∀ y ∈ [n k], y.oneCell' = true := fun y hy => by
    obtain rfl := List.mem_singleton.1 hy
    rcases hn with ⟨p, q, c, e⟩ | ⟨s, e⟩ <;> rw [e] <;> rfl
  refine wpOp_wp q1 q4 (step_append_own_at q4 (.tmp s) (.tmp x) t q2 (W0.heap.size + 1) (E25 k) i0 z 1 by' ht hi hz h1s hby hzs (by decide) (u k) m (xs k) (by rw [hu]; exact eval_slot hs) hown ⟨b k, 0, none⟩ 1 1 [n k] (by rw [hx]; exact eval_slot k1) rfl hnew h1 (by unfold maxLen; omega) (Nat.le_trans (Nat.mul_le_mul (show m + 1 ≤ 6 by omega) hb8) (by decide)) J.ts.lt ?_)
  intro v' w' g1 g2 g3 _
  rw [q3]
  exact ⟨_, _, _, J.append hA k h4 g1 g2 g3⟩
theorem so25 (J : J25 W0 A0 (val25 W0 v n) v0 v r0 E25 m xs n X Y li a w u h b) (k : Fin 3) {s r t : Nat} {ds : List Nat} (ho : OpIs ops (16 + 2 * k.val) (.store t (.tmp s) (.tmp r)) none ds) (ht : t = 37 ∨ t = 51 ∨ t = 110) (hs : a.tmps[s]? = some (pB W0 (k.val + 1))) (hr : r = 96 + 5 * k.val) (h1 : gb li (1 + 5 * k.val) = true) (h4 : gb li (4 + 5 * k.val) = true) :
    wpOp Tryz.prog ops Q (16 + 2 * k.val) (K25 W0 A0 v0 v r0 m xs n X Y (li.setIfInBounds (16 + 2 * k.val) true)) a w := by
  obtain ⟨o, q1, q2, q3, q4, -⟩ := ho
  have hc := J.ts.cell k.succ
  have hf := J.ts.fz (k.val + 1)
  have hp := J.p k h4
  have hown : ∃ p q c, u k = .slice p q c := by
    have h0 := J.ts.fam.own k.succ
    rw [c4_succ] at h0
    simp only [h4, Rw] at h0
    obtain ⟨p, c, e⟩ := own_slice2 h0
    exact ⟨p, _, c, e⟩
  refine wpOp_skip q1 q4 q3 (t_store q2 ht hs (by rw [hr]; exact hp) (show w.cell? ⟨W0.heap.size, k.val + 1, none⟩ = _ from hc) hf hown) ?_
  exact ⟨_, _, _, J.store k h1 h4⟩
end
set_option maxRecDepth 100000 in
set_option maxHeartbeats 4000000 in
theorem reg25 {id : Nat} {ops : Array Oper} {Q : Exit → Act → World → Prop} {W0 : World} {A0 : Act} {w : World} {v0 : Value} {v : Fin 3 → Value} {r0 : Row} {m : Nat} {xs : Fin 3 → List Value} {n : Fin 3 → Value} {X : List (Option Addr × List ByteArray)} {Y : List (Option Addr × List Bool)}
    (O : Ops25 ops) (hA : A0.tmps.size = 112) (s6 : A0.tmps[6]? = some (pB W0 0)) (s13 : A0.tmps[13]? = some (n 0)) (s14 : A0.tmps[14]? = some (n 1)) (s15 : A0.tmps[15]? = some (n 2)) (hn : ∀ k, Plain1 (n k)) (hm : m ≤ 5)
    (T : TS W0 w.drew (c4 v0 v) (c4 r0 fun k => ⟨E25 k, 1, v k, m, xs k⟩) X Y)
    (hend : ∀ (w' : World) (u : Fin 3 → Value) (b : Fin 3 → Nat), TS W0 w' (c4 v0 u) (c4 r0 fun k => ⟨E25 k, 1, u k, m + 1, xs k ++ [n k]⟩) X Y →
      Q .normal (putL [(92, pB W0 1), (93, v 0), (94, n 0), (95, .slice (some ⟨b 0, 0, none⟩) 1 1), (96, u 0), (97, pB W0 2), (98, v 1), (99, n 1), (100, .slice (some ⟨b 1, 0, none⟩) 1 1), (101, u 1), (102, pB W0 3), (103, v 2), (104, n 2), (105, .slice (some ⟨b 2, 0, none⟩) 1 1), (106, u 2), (107, pB W0 1), (108, pB W0 2), (109, pB W0 3)] A0) w') :
    (Code.region id ops true).wp Tryz.prog Q A0 w := by
  obtain ⟨i9, hi9, hz9, hs9, hb9⟩ := info_parts inf9
  obtain ⟨i37, hi37, hz37, hs37, hb37⟩ := info_parts inf37
  obtain ⟨i117, hi117, hz117, hs117, hb117⟩ := info_parts inf117
  refine wp_region_inv (K25 W0 A0 v0 v r0 m xs n X Y) (by kernel_rfl) ?_ ?_ ?_
  · rw [O.sz]
    have hg : ∀ j, gb (Array.replicate 21 false) j = false := fun j => by simp [gb, Array.getD_eq_getD_getElem?, Array.getElem?_replicate]; split <;> rfl
    refine ⟨v, v, fun _ => 0, by simp, ⟨rfl, rfl, fun _ _ => rfl⟩, fun x _ hl => ?_, fun k hk => ?_, ?_, fun _ _ => rfl, fun k hk => ?_, fun _ _ => rfl, fun _ _ => rfl, fun k hk => ?_⟩
    · rw [hg] at hl; cases hl
    · rw [hg] at hk; cases hk
    · simp only [hg, Rw]; exact T
    · rw [hg] at hk; cases hk
    · rw [hg] at hk; cases hk
  · rintro li a w i ⟨u, h, b, J⟩ hi
    have sl : ∀ s v, s ∉ DT → A0.tmps[s]? = some v → a.tmps[s]? = some v := fun s v hs e => (J.sl.o s hs).trans e
    have p6 := sl 6 _ (by decide) s6
    have st := fun (x : Nat × Nat) (hx : x ∈ NP) (hl : gb li x.1 = true) => J.st x hx hl
    have hcell : ∀ k : Fin 3, gb li (1 + 5 * k.val) = false → w.cell? ⟨W0.heap.size, k.val + 1, none⟩ = some (v k) := fun k hk => by
      have h1 : gb li (16 + 2 * k.val) = false := by
        cases h2 : gb li (16 + 2 * k.val) with
        | false => rfl
        | true => rw [(J.cs k h2).1] at hk; cases hk
      have := J.ts.cell k.succ
      rw [c4_succ, J.g0 k h1] at this
      exact this
    have hlt : i < 21 := by have := (ready_mem hi).1; rw [O.sz] at this; exact this
    match i, hlt, hi with
    | 0, _, hi => exact st25 J hA O.o0 (by decide) (fun o ho => t_field ho (by decide) p6)
    | 1, _, hi =>
      obtain ⟨d0, d1⟩ := deps25 O.o1 hi
      exact st25 J hA O.o1 (by decide) (fun o ho => t_load ho (.inl rfl) (st (0, 92) (by decide) (d1 0 (by decide))) (hcell 0 d0))
    | 2, _, hi => exact st25 J hA O.o2 (by decide) (fun o ho => t_move ho (sl 13 _ (by decide) s13))
    | 3, _, hi =>
      obtain ⟨d0, d1⟩ := deps25 O.o3 hi
      exact bu25 J hA 0 O.o3 (.inl ⟨rfl, rfl⟩) (st (2, 94) (by decide) (d1 2 (by decide))) (hn 0)
    | 4, _, hi =>
      obtain ⟨d0, d1⟩ := deps25 O.o4 hi
      exact ap25 J hA 0 O.o4 d0 Tryz.underlying37 hi9 hz9 hs9 hb9 rfl (by decide) (st (1, 93) (by decide) (d1 1 (by decide))) rfl (d1 3 (by decide)) (hn 0) hm
    | 5, _, hi => exact st25 J hA O.o5 (by decide) (fun o ho => t_field ho (by decide) p6)
    | 6, _, hi =>
      obtain ⟨d0, d1⟩ := deps25 O.o6 hi
      exact st25 J hA O.o6 (by decide) (fun o ho => t_load ho (.inr (.inl rfl)) (st (5, 97) (by decide) (d1 5 (by decide))) (hcell 1 d0))
    | 7, _, hi => exact st25 J hA O.o7 (by decide) (fun o ho => t_move ho (sl 14 _ (by decide) s14))
    | 8, _, hi =>
      obtain ⟨d0, d1⟩ := deps25 O.o8 hi
      exact bu25 J hA 1 O.o8 (.inr (.inl ⟨rfl, rfl⟩)) (st (7, 99) (by decide) (d1 7 (by decide))) (hn 1)
    | 9, _, hi =>
      obtain ⟨d0, d1⟩ := deps25 O.o9 hi
      exact ap25 J hA 1 O.o9 d0 Tryz.underlying51 hi37 hz37 hs37 hb37 rfl (by decide) (st (6, 98) (by decide) (d1 6 (by decide))) rfl (d1 8 (by decide)) (hn 1) hm
    | 10, _, hi => exact st25 J hA O.o10 (by decide) (fun o ho => t_field ho (by decide) p6)
    | 11, _, hi =>
      obtain ⟨d0, d1⟩ := deps25 O.o11 hi
      exact st25 J hA O.o11 (by decide) (fun o ho => t_load ho (.inr (.inr rfl)) (st (10, 102) (by decide) (d1 10 (by decide))) (hcell 2 d0))
    | 12, _, hi => exact st25 J hA O.o12 (by decide) (fun o ho => t_move ho (sl 15 _ (by decide) s15))
    | 13, _, hi =>
      obtain ⟨d0, d1⟩ := deps25 O.o13 hi
      exact bu25 J hA 2 O.o13 (.inr (.inr ⟨rfl, rfl⟩)) (st (12, 104) (by decide) (d1 12 (by decide))) (hn 2)
    | 14, _, hi =>
      obtain ⟨d0, d1⟩ := deps25 O.o14 hi
      exact ap25 J hA 2 O.o14 d0 Tryz.underlying110 hi117 hz117 hs117 hb117 rfl (by decide) (st (11, 103) (by decide) (d1 11 (by decide))) rfl (d1 13 (by decide)) (hn 2) hm
    | 15, _, hi => exact st25 J hA O.o15 (by decide) (fun o ho => t_field ho (by decide) p6)
    | 16, _, hi =>
      obtain ⟨d0, d1⟩ := deps25 O.o16 hi
      exact so25 J 0 O.o16 (.inl rfl) (st (15, 107) (by decide) (d1 15 (by decide))) rfl (d1 1 (by decide)) (d1 4 (by decide))
    | 17, _, hi => exact st25 J hA O.o17 (by decide) (fun o ho => t_field ho (by decide) p6)
    | 18, _, hi =>
      obtain ⟨d0, d1⟩ := deps25 O.o18 hi
      exact so25 J 1 O.o18 (.inr (.inl rfl)) (st (17, 108) (by decide) (d1 17 (by decide))) rfl (d1 6 (by decide)) (d1 9 (by decide))
    | 19, _, hi => exact st25 J hA O.o19 (by decide) (fun o ho => t_field ho (by decide) p6)
    | 20, _, hi =>
      obtain ⟨d0, d1⟩ := deps25 O.o20 hi
      exact so25 J 2 O.o20 (.inr (.inr rfl)) (st (19, 109) (by decide) (d1 19 (by decide))) rfl (d1 11 (by decide)) (d1 14 (by decide))
    | i + 21, hlt, _ => exact absurd hlt (by omega)
  · rintro li a w ⟨u, h, b, J⟩ hr
    have hall := all_listed (J.sz.trans O.sz.symm) O.dep hr
    rw [O.sz] at hall
    have st := fun (x : Nat × Nat) (hx : x ∈ NP) => J.st x hx (hall x.1 (np_facts x hx).1)
    have hp := fun k : Fin 3 => J.p k (hall _ (by have := k.isLt; omega))
    have hk := fun k : Fin 3 => (J.k k (hall _ (by have := k.isLt; omega))).1
    have hh := fun k : Fin 3 => J.g1 k (hall _ (by have := k.isLt; omega))
    have hg4 : ∀ k : Fin 3, gb li (4 + 5 * k.val) = true := fun k => hall _ (by have := k.isLt; omega)
    have T2 : TS W0 w (c4 v0 u) (c4 r0 fun k => ⟨E25 k, 1, u k, m + 1, xs k ++ [n k]⟩) X Y := by
      have := J.ts
      simp only [hg4, Rw] at this
      rw [show h = u from funext hh] at this
      exact this
    have E := putL_eq (a := a) [(92, pB W0 1), (93, v 0), (94, n 0), (95, .slice (some ⟨b 0, 0, none⟩) 1 1), (96, u 0), (97, pB W0 2), (98, v 1), (99, n 1), (100, .slice (some ⟨b 1, 0, none⟩) 1 1), (101, u 1), (102, pB W0 3), (103, v 2), (104, n 2), (105, .slice (some ⟨b 2, 0, none⟩) 1 1), (106, u 2), (107, pB W0 1), (108, pB W0 2), (109, pB W0 3)] A0
      (fun s => by
        by_cases hs : s ∈ DT
        · exact .inr hs
        · exact .inl (J.sl.o s hs).symm)
      (fun x hx => by
        simp only [List.mem_cons, List.not_mem_nil, or_false] at hx
        rcases hx with rfl | rfl | rfl | rfl | rfl | rfl | rfl | rfl | rfl | rfl | rfl | rfl | rfl | rfl | rfl | rfl | rfl | rfl
        · exact st (0, 92) (by decide)
        · exact st (1, 93) (by decide)
        · exact st (2, 94) (by decide)
        · exact hk 0
        · exact hp 0
        · exact st (5, 97) (by decide)
        · exact st (6, 98) (by decide)
        · exact st (7, 99) (by decide)
        · exact hk 1
        · exact hp 1
        · exact st (10, 102) (by decide)
        · exact st (11, 103) (by decide)
        · exact st (12, 104) (by decide)
        · exact hk 2
        · exact hp 2
        · exact st (15, 107) (by decide)
        · exact st (17, 108) (by decide)
        · exact st (19, 109) (by decide)) J.sl.sz.symm J.sl.d.symm
    rw [← E]
    exact hend w u b T2
end Go.Proofs.YtmfhpddeclggfaaGreatDoor
