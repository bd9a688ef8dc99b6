import Derived.RangeFuncNested
import Derived.RangeFuncBound
import Derived.RangeFuncCalls
import Derived.RangeFuncLeaves
import Derived.Test.YtmfhpddeclggfaaGreatDoorCy
import Derived.RangeFuncBox
import Derived.Shelf.Abstract
import Derived.Shelf.RegionOpen
import Derived.OwnWalkIn
import Derived.TacticsInMore
import Derived.LoopNIn
import Derived.LoopIn
import Derived.Maps.AppendAt
import Derived.Maps.OwnIn
import Derived.RegionIn
import Derived.BigRegionIn
import Derived.Stop.RegionWithIn
import Derived.WalkKit
import Derived.Lib.SliceRun
import Derived.Lib.Walk
import Derived.LoopTactic
import Derived.WalkSpells
import Derived.WalkLawsBesides
import Derived.Lib.Hide
import Derived.BigQuiet
import Derived.IntWalk
import Derived.Deep.DeepMust
import Derived.WalkSmall
import Derived.StillTailTactics
import Derived.Deep.RegionLaw
import Derived.Deep.QuietTactic
import Derived.Deep.Cut
import Derived.Deep.DeepCutAuto
import Derived.Deep.LoopGhost
import Derived.Laws.AppendOwn
namespace Go.Proofs.YtmfhpddeclggfaaGreatDoor
open Go.RowKit
/-! Books of readings: what lies there, and copies of lists of words. -/
open Go.Shelf
theorem inf37 : (Tryz.prog.info? 37).map (fun i => (i.zero, i.size, i.bytes)) = some (some (.slice none 0 0), 1, 24) := by kernel_rfl
/-- A reading as it lies in a slice of readings. -/
structure FL where
  g : GL
  cp : Option Addr
  cn : Nat
  cc : Nat
  rs : Bool
instance : Inhabited FL := ⟨⟨default, none, 0, 0, false⟩⟩
/-- These readings lie there. -/
def FoundsAt (W : World) (p : Option Addr) (fs : List FL) : Prop :=
  (fs = [] ∨ ∃ b o, p = some ⟨b, o, none⟩ ∧ b < W.heap.size ∧ ∀ j, j < fs.length → W.cell? ⟨b, o + j * 4, none⟩ = some (.int .i64 (fs.getD j default).g.n) ∧ W.cell? ⟨b, o + j * 4 + 1, none⟩ = some (.slice (fs.getD j default).g.p (fs.getD j default).g.ws.length (fs.getD j default).g.cap) ∧ W.cell? ⟨b, o + j * 4 + 2, none⟩ = some (.slice (fs.getD j default).cp (fs.getD j default).cn (fs.getD j default).cc) ∧ W.cell? ⟨b, o + j * 4 + 3, none⟩ = some (.bool (fs.getD j default).rs)) ∧
  ∀ j, j < fs.length → StrsAt W (fs.getD j default).g.p (fs.getD j default).g.ws
theorem FoundsAt.below {w w' : World} {p : Option Addr} {fs : List FL} (h : FoundsAt w p fs) (hb : Below w.heap.size w w') : FoundsAt w' p fs := by
  obtain ⟨h1, h2⟩ := h
  refine ⟨?_, fun j hj => (h2 j hj).below hb⟩
  rcases h1 with h | ⟨b, o, h1, h3, h4⟩
  · exact Or.inl h
  · refine Or.inr ⟨b, o, h1, Nat.lt_of_lt_of_le h3 hb.size, fun j hj => ?_⟩
    rw [hb.cell (p := ⟨b, o + j * 4, none⟩) h3, hb.cell (p := ⟨b, o + j * 4 + 1, none⟩) h3, hb.cell (p := ⟨b, o + j * 4 + 2, none⟩) h3, hb.cell (p := ⟨b, o + j * 4 + 3, none⟩) h3]
    exact h4 j hj
theorem fd_at {W : World} {p : Option Addr} {fs : List FL} (h : FoundsAt W p fs) {k : Nat} (hk : k < fs.length) {n : Int} {q : Option Addr} {c : Nat} {ws : List ByteArray} {cp : Option Addr} {cn cc : Nat} {rs : Bool} (hg : fs.getD k default = ⟨⟨n, q, c, ws⟩, cp, cn, cc, rs⟩) :
    ∃ b o, p = some ⟨b, o, none⟩ ∧ b < W.heap.size ∧ W.cell? ⟨b, o + k * 4, none⟩ = some (.int .i64 n) ∧ W.cell? ⟨b, o + k * 4 + 1, none⟩ = some (.slice q ws.length c) ∧ W.cell? ⟨b, o + k * 4 + 2, none⟩ = some (.slice cp cn cc) ∧ W.cell? ⟨b, o + k * 4 + 3, none⟩ = some (.bool rs) ∧ StrsAt W q ws := by
  obtain ⟨h | ⟨b, o, h1, h2, h3⟩, h4⟩ := h
  · rw [h] at hk; exact absurd hk (by simp)
  · have e1 := h3 k hk
    have e2 := h4 k hk
    rw [hg] at e1 e2
    exact ⟨b, o, h1, h2, e1.1, e1.2.1, e1.2.2.1, e1.2.2.2, e2⟩
theorem fl_cases (f : FL) : ∃ n q c ws cp cn cc rs, f = ⟨⟨n, q, c, ws⟩, cp, cn, cc, rs⟩ := ⟨_, _, _, _, _, _, _, _, rfl⟩
def bookV (p : Option Addr) (n c : Nat) (q1 : Option Addr) (n1 c1 : Nat) (q2 : Option Addr) (n2 c2 : Nat) : Value := .agg #[.slice p n c, .slice q1 n1 c1, .slice q2 n2 c2]
def numd (fs : List FL) : Bool := (List.range fs.length).all fun k => (fs.getD k default).g.n == (k : Int) + 1
/-- The error of a whole. -/
def whErr (n1 n2 : Nat) (fs : List FL) : Int := if 0 < n1 then 9 else if 0 < n2 then 5 else if numd fs = true then 0 else 1
def whL (n1 n2 : Nat) (fs : List FL) : List (List ByteArray) := if whErr n1 n2 fs = 0 then fs.map (fun f => f.g.ws) else []
theorem numd_at {fs : List FL} {k : Nat} (hk : k < fs.length) (h : (fs.getD k default).g.n ≠ (k : Int) + 1) : numd fs = false := by
  unfold numd
  rw [List.all_eq_false]
  exact ⟨k, List.mem_range.2 hk, by simpa using h⟩
theorem numd_all {fs : List FL} (h : ∀ j, j < fs.length → (fs.getD j default).g.n = (j : Int) + 1) : numd fs = true := by
  unfold numd
  rw [List.all_eq_true]
  intro k hk
  rw [h k (List.mem_range.1 hk)]
  exact beq_self_eq_true _
theorem strs_ownF {W : World} {B : Nat} {v : Value} {l : List ByteArray} (h : W.ownsRow B 9 1 v l.length (strsV l)) : ∃ q cap, v = .slice q l.length cap ∧ StrsAt W q l ∧ PFrom B q := by
  obtain ⟨q, cap, rfl, hs⟩ := strs_own h
  refine ⟨q, cap, rfl, hs, fun a ha => ?_⟩
  subst ha
  obtain ⟨h1, ⟨h0, h2⟩ | ⟨g, cap', cur, h0, hg, -⟩⟩ := h
  · cases h0
  · cases h0; exact hg
/-- The words of some lines, one slice behind the other. -/
def flatW : List GL → List Value
  | [] => []
  | g :: l => .slice g.p g.ws.length g.cap :: flatW l
theorem flatW_app (l m : List GL) : flatW (l ++ m) = flatW l ++ flatW m := by
  induction l with
  | nil => rfl
  | cons p l ih => simp [flatW, ih]
theorem flatW_one : ∀ {l : List GL}, ∀ u ∈ flatW l, u.oneCell' = true
  | [], u, h => by simp [flatW] at h
  | p :: l, u, h => by
    simp only [flatW, List.mem_cons] at h
    rcases h with rfl | h
    · rfl
    · exact flatW_one u h
theorem flatW_get : ∀ {l : List GL} {j : Nat} {q : GL}, l[j]? = some q → (flatW l)[j]? = some (.slice q.p q.ws.length q.cap)
  | [], _, _, h => by simp at h
  | p :: l, 0, q, h => by
    obtain rfl : p = q := by simpa using h
    rfl
  | p :: l, j + 1, q, h => by
    have ih := flatW_get (l := l) (j := j) (q := q) (by simpa using h)
    simpa [flatW] using ih
/-- Lists of words, behind B. -/
structure OW (B : Nat) (W : World) (v : Value) (gs : List GL) : Prop where
  row : W.ownsRow B 37 1 v gs.length (flatW gs)
  wds : ∀ g ∈ gs, WdsAt 0 W v (.slice none 0 0) g.p g.ws
theorem OW.nil (B : Nat) (W : World) : OW B W (.slice none 0 0) [] := ⟨World.ownsRow_nil _ _ _ _, fun g h => absurd h (by simp)⟩
theorem OW.below {B : Nat} {W W' : World} {v : Value} {gs : List GL} (h : OW B W v gs) (hb : Below W.heap.size W W') : OW B W' v gs := by
  refine ⟨ownsRow_keep h.row hb, fun g hm => ?_⟩
  rcases h.wds g hm with h | ⟨b, o, h1, h2, h3, h4, h5, h6⟩
  · exact .inl h
  · exact .inr ⟨b, o, h1, h2, Nat.lt_of_lt_of_le h3 hb.size, h4, h5, fun j hj => (hb.cell (p := ⟨b, o + j, none⟩) h3).trans (h6 j hj)⟩
theorem OW.add {B : Nat} {W W' : World} {v v' : Value} {gs : List GL} {g : GL} (h : OW B W v gs) (hg : WdsAt 0 W v (.slice none 0 0) g.p g.ws) (hown : W'.ownsRow B 37 1 v' (gs.length + 1) (flatW gs ++ flatW [g])) (hgr : W.grownBy W' v.ownBlock) (hat : v'.ownBlock = v.ownBlock ∨ v'.ownBlock = some W.heap.size) : OW B W' v' (gs ++ [g]) := by
  have key : ∀ x ∈ gs ++ [g], WdsAt 0 W v (.slice none 0 0) x.p x.ws := fun x hx => by
    rcases List.mem_append.1 hx with hx | hx
    · exact h.wds x hx
    · obtain rfl := List.mem_singleton.1 hx; exact hg
  refine ⟨by rw [List.length_append, flatW_app]; exact hown, fun x hx => ?_⟩
  rcases (key x hx).grown hgr (fun b _ _ k1 _ => k1) with h0 | ⟨b, o, h1, h2, h3, h4, h5, h6⟩
  · exact .inl h0
  · rcases key x hx with h0 | ⟨b', o', e1, -, e3, -⟩
    · exact .inl h0
    · rw [h1] at e1; cases e1
      refine .inr ⟨b, o, h1, h2, h3, fun e => ?_, h5, h6⟩
      rcases hat with ha | ha
      · exact h4 (e.trans ha)
      · rw [ha] at e; have := Option.some.inj e; omega
theorem OW.lists {B : Nat} {W : World} {v : Value} {gs : List GL} (h : OW B W v gs) : ∃ q cap, v = .slice q gs.length cap ∧ ListsAt W q gs := by
  have hst : ∀ j, j < gs.length → StrsAt W (gs.getD j default).p (gs.getD j default).ws := fun j hj => by
    rw [List.getD, List.getElem?_eq_getElem hj]
    exact (h.wds _ (List.getElem_mem hj)).strs
  obtain ⟨h1, ⟨rfl, h2⟩ | ⟨g, cap, cur, rfl, hg, hc, h3, h4, h5, h6⟩⟩ := h.row
  · exact ⟨none, 0, by rw [h2], .inl (List.length_eq_zero_iff.1 h2), hst⟩
  · refine ⟨some ⟨g, 0, none⟩, cap, rfl, .inr ⟨g, 0, rfl, (Array.getElem?_eq_some_iff.1 hc).1, fun j hj => ?_⟩, hst⟩
    have e : gs[j]? = some (gs.getD j default) := by rw [List.getD, List.getElem?_eq_getElem hj]; rfl
    have k1 := flatW_get e
    rw [← h6, List.getElem?_take_of_lt (by omega)] at k1
    rw [Nat.zero_add]
    simpa [World.cell?, hc] using k1
theorem OW.grown {B : Nat} {W W' : World} {v : Value} {gs : List GL} {r : Nat} (h : OW B W v gs) (hg : W.grownBy W' (some r)) (hr : r < B) (hn : ∀ g ∈ gs, ∀ a, g.p = some a → g.ws ≠ [] → a.block ≠ r) : OW B W' v gs := by
  refine ⟨h.row.kept hg ?_, fun g hm => ?_⟩
  · cases hv : v.ownBlock with
    | none => exact .inl rfl
    | some g => exact .inr (fun e => by have h1 := (h.row.lt g hv).1; have h2 := Option.some.inj e; omega)
  · by_cases h0 : g.ws = []
    · exact .inl h0
    · rcases h.wds g hm with h9 | ⟨b, o, h1, h2, h3, h4, h5, h6⟩
      · exact absurd h9 h0
      · have hb := hn g hm _ h1 h0
        exact .inr ⟨b, o, h1, h2, Nat.lt_of_lt_of_le h3 hg.size, h4, h5, fun j hj => (World.cell?_of_block (a := ⟨b, o + j, none⟩) (hg.block b h3 (fun e => hb (Option.some.inj e)))).trans (h6 j hj)⟩
set_option maxRecDepth 100000 in
set_option maxHeartbeats 2000000 in
/-- slices.Clone of a list of words. -/
theorem sCloneS (p : Option Addr) (cap : Nat) (ws : List ByteArray) (w : World) (hl : ws.length ≤ maxLen) (hb : ws.length * 16 ≤ 140737488355328) (hp : StrsAt w p ws) :
    Calls Tryz.prog 112 #[.slice p ws.length cap] w fun e w' => ∃ q c, e = .returned (.slice q ws.length c) ∧ Below w.heap.size w w' ∧ StrsAt w' q ws ∧ PFrom w.heap.size q := by
  have HP := Lib.hid hp
  have q37 : ∀ (w : World) (a : Option Addr) (n c n' c' : Nat), (binOp .eql 37 (.slice a n c) (.slice none n' c')).run Tryz.prog w = .ok (.bool a.isNone) w := fun w a n c n' c' => Lib.run_eql_slice_nil w _ _ a n c n' c' Tryz.underlying37
  clear hp
  cases p with
  | none =>
    obtain rfl : ws = [] := by
      rcases HP.out with h | ⟨b, o, e, -⟩
      · exact h
      · cases e
    go_enter Tryz.func112, Tryz.ntmps112
    go_wp2_with fail
    go_ret
    exact ⟨none, 0, rfl, Below.refl _ _, .inl rfl, fun a e => by cases e⟩
  | some ad =>
    obtain ⟨i0, hi, hz0, hz1, hz4⟩ := info_parts inf9
    have HC : Hid (∀ j u, (strsV ws)[j]? = some u → w.cell? (ad.add j) = some u) := fun j u hj => by
      rcases HP.out with h | ⟨b, o, e, -, h3⟩
      · subst h; simp at hj
      · cases e
        rw [strsV, List.getElem?_map] at hj
        cases hw : ws[j]? with
        | none => rw [hw] at hj; cases hj
        | some s =>
          rw [hw] at hj
          have hjl : j < ws.length := (List.getElem?_eq_some_iff.1 hw).1
          have h4 := h3 j hjl
          rw [List.getD, hw] at h4
          simp only [Option.map_some, Option.some.injEq] at hj
          subst hj
          rw [Addr.add_lit]
          exact h4
    have HL1 := Lib.hid hl
    have HL2 := Lib.hid hb
    obtain ⟨N, hN⟩ : ∃ N, Hid (ws.length = N) := ⟨_, rfl⟩
    rw [hN.out]
    clear hl hb
    go_enter Tryz.func112, Tryz.ntmps112
    go_wp2_with (at_builtin; refine wpList_append_own _ rfl _ _ 37 rfl w.heap.size 9 i0 (.string ⟨#[]⟩) 1 16 Tryz.underlying37 hi hz0 hz1 hz4 rfl (by decide) _ _ _ rfl (World.ownsRow_made w #[] 0 (Nat.le_refl _) (Nat.zero_le _) (by simp)) ad N cap (strsV ws) rfl ?qc1 ?qc2 ?qc3 ?qc4 ?qc5 ?qc6 ?_)
    case qc1 => simp [strsV, hN.out]
    case qc2 =>
      intro j u hj
      exact Lib.cell?_alloc_some _ (HC.out j u hj)
    case qc3 => exact strsV_one
    case qc4 => rw [Nat.zero_add, ← hN.out]; exact HL1.out
    case qc5 => rw [Nat.zero_add, ← hN.out]; exact HL2.out
    case qc6 => simp
    intro v' w1 hown hgrow _
    have HO : Hid (w1.ownsRow w.heap.size 9 1 v' ws.length (strsV ws)) := by unfold Hid; rw [hN.out]; simpa using hown
    have HB : Hid (Below w.heap.size w w1) := ((Below.refl _ w).alloc (Nat.le_refl _) _).grown hgrow (by simp) (by intro k hk; simp [Value.ownBlock] at hk; omega)
    clear hown hgrow
    obtain ⟨q, c, rfl, hst, hpf⟩ := strs_ownF HO.out
    rw [hN.out]
    have HS := Lib.hid hst
    have HF := Lib.hid hpf
    clear hst hpf
    go_wp2
    go_ret
    exact ⟨q, c, rfl, HB.out, HS.out, HF.out⟩
end Go.Proofs.YtmfhpddeclggfaaGreatDoor
