import Derived.RangeFuncNested
import Derived.RangeFuncBound
import Derived.RangeFuncCalls
import Derived.RangeFuncLeaves
import Derived.Test.YtmfhpddeclggfaaGreatDoorWCx
import Derived.RangeFuncBox
import Derived.Shelf.Abstract
import Derived.Shelf.RegionOpen
import Derived.OwnWalkIn
import Derived.TacticsInMore
import Derived.LoopNIn
import Derived.LoopIn
import Derived.Maps.AppendAt
import Derived.WalkKit
import Derived.LoopTactic
import Derived.WalkSpells
import Derived.WalkLawsBesides
import Derived.Lib.Hide
import Derived.BigQuiet
import Derived.IntWalk
import Derived.Deep.DeepMust
import Derived.WalkSmall
import Derived.StillTailTactics
import Derived.Deep.RegionLaw
import Derived.Deep.QuietTactic
import Derived.Deep.Cut
import Derived.Deep.DeepCutAuto
import Derived.Deep.LoopGhost
import Derived.Laws.AppendOwn
namespace Go.Proofs.YtmfhpddeclggfaaGreatDoor
open Go.RowKit
/-! Lists of lines that were read, with what is no line. -/
open Go.Shelf
def flatG : List GL → List Value
  | [] => []
  | g :: l => .int .i64 g.n :: .slice g.p g.ws.length g.cap :: flatG l
theorem flatG_app (l m : List GL) : flatG (l ++ m) = flatG l ++ flatG m := by
  induction l with
  | nil => rfl
  | cons p l ih => simp [flatG, ih]
theorem flatG_one : ∀ {l : List GL}, ∀ u ∈ flatG l, u.oneCell' = true
  | [], u, h => by simp [flatG] at h
  | p :: l, u, h => by
    simp only [flatG, List.mem_cons] at h
    rcases h with rfl | rfl | h
    · rfl
    · rfl
    · exact flatG_one u h
theorem flatG_get : ∀ {l : List GL} {j : Nat} {q : GL}, l[j]? = some q → (flatG l)[j * 2]? = some (.int .i64 q.n) ∧ (flatG l)[j * 2 + 1]? = some (.slice q.p q.ws.length q.cap)
  | [], _, _, h => by simp at h
  | p :: l, 0, q, h => by
    obtain rfl : p = q := by simpa using h
    exact ⟨rfl, rfl⟩
  | p :: l, j + 1, q, h => by
    have ih := flatG_get (l := l) (j := j) (q := q) (by simpa using h)
    rw [show (j + 1) * 2 = j * 2 + 1 + 1 from by omega]
    simpa [flatG] using ih
/-- The words of a line lie in a block behind B that is none of these. -/
def WdsAt (B : Nat) (W : World) (vl vo : Value) (p : Option Addr) (ws : List ByteArray) : Prop :=
  ws = [] ∨ ∃ b o, p = some ⟨b, o, none⟩ ∧ B ≤ b ∧ b < W.heap.size ∧ some b ≠ vl.ownBlock ∧ some b ≠ vo.ownBlock ∧ ∀ j, j < ws.length → W.cell? ⟨b, o + j, none⟩ = some (.string (ws.getD j ByteArray.empty))
theorem WdsAt.strs {B : Nat} {W : World} {vl vo : Value} {p : Option Addr} {ws : List ByteArray} (h : WdsAt B W vl vo p ws) : StrsAt W p ws := by
  rcases h with h | ⟨b, o, h1, -, h2, -, -, h3⟩
  · exact .inl h
  · exact .inr ⟨b, o, h1, h2, h3⟩
theorem WdsAt.mk {B C : Nat} {W : World} {vl vo : Value} {p : Option Addr} {ws : List ByteArray} (h : StrsAt W p ws) (hf : PFrom C p) (hB : B ≤ C) (hl : ∀ k, vl.ownBlock = some k → k < C) (ho : ∀ k, vo.ownBlock = some k → k < C) : WdsAt B W vl vo p ws := by
  rcases h with h | ⟨b, o, rfl, h2, h3⟩
  · exact .inl h
  · have hb : C ≤ b := hf _ rfl
    exact .inr ⟨b, o, rfl, by omega, h2, fun e => by have := hl b e.symm; omega, fun e => by have := ho b e.symm; omega, h3⟩
/-- Lines that were read, and what is none, behind B. -/
structure LN (B : Nat) (W : World) (vl vo : Value) (gs : List GL) (os : List ByteArray) : Prop where
  row : W.ownsRow B 39 2 vl gs.length (flatG gs)
  oth : W.ownsRow B 9 1 vo os.length (strsV os)
  wds : ∀ g ∈ gs, WdsAt B W vl vo g.p g.ws
theorem LN.nil (B : Nat) (W : World) : LN B W (.slice none 0 0) (.slice none 0 0) [] [] := ⟨World.ownsRow_nil _ _ _ _, World.ownsRow_nil _ _ _ _, fun g h => absurd h (by simp)⟩
theorem row_ne {W : World} {B C : Nat} {e f : TypeId} {k m n l : Nat} {v u : Value} {xs ys : List Value} (h : W.ownsRow B e k v n xs) (g : W.ownsRow C f m u l ys) (hef : e ≠ f) : v.ownBlock = none ∨ v.ownBlock ≠ u.ownBlock := by
  obtain ⟨-, ⟨rfl, -⟩ | ⟨b, cap, cur, rfl, -, h1, -⟩⟩ := h
  · exact .inl rfl
  · obtain ⟨-, ⟨rfl, -⟩ | ⟨b', cap', cur', rfl, -, h2, -⟩⟩ := g
    · exact .inr (fun e => by cases e)
    · refine .inr (fun e => ?_)
      have e' : b = b' := Option.some.inj e
      subst e'
      rw [h1] at h2
      injection h2 with h2
      injection h2 with _ h3
      exact hef h3
theorem WdsAt.grown {B : Nat} {W W' : World} {vl vo : Value} {p : Option Addr} {ws : List ByteArray} {row : Option Nat} (h : WdsAt B W vl vo p ws) (hg : W.grownBy W' row) (hr : ∀ b, B ≤ b → b < W.heap.size → some b ≠ vl.ownBlock → some b ≠ vo.ownBlock → some b ≠ row) : WdsAt B W' vl vo p ws := by
  rcases h with h | ⟨b, o, h1, h2, h3, h4, h5, h6⟩
  · exact .inl h
  · exact .inr ⟨b, o, h1, h2, Nat.lt_of_lt_of_le h3 hg.size, h4, h5, fun j hj => (World.cell?_of_block (a := ⟨b, o + j, none⟩) (hg.block b h3 (hr b h2 h3 h4 h5))).trans (h6 j hj)⟩
theorem LN.grown {B : Nat} {W W' : World} {vl vo : Value} {gs : List GL} {os : List ByteArray} {row : Option Nat} (h : LN B W vl vo gs os) (hg : W.grownBy W' row) (hr : ∀ r, row = some r → r < B) : LN B W' vl vo gs os := by
  refine ⟨h.row.kept hg ?_, h.oth.kept hg ?_, fun g hm => (h.wds g hm).grown hg (fun b hb _ _ _ e => by have := hr b e.symm; omega)⟩
  · cases hv : vl.ownBlock with
    | none => exact .inl rfl
    | some g => exact .inr (fun e => by have h1 := (h.row.lt g hv).1; have h2 := hr g e.symm; omega)
  · cases hv : vo.ownBlock with
    | none => exact .inl rfl
    | some g => exact .inr (fun e => by have h1 := (h.oth.lt g hv).1; have h2 := hr g e.symm; omega)
theorem LN.below {B : Nat} {W W' : World} {vl vo : Value} {gs : List GL} {os : List ByteArray} (h : LN B W vl vo gs os) (hb : Below W.heap.size W W') : LN B W' vl vo gs os := by
  refine ⟨ownsRow_keep h.row hb, ownsRow_keep h.oth hb, fun g hm => ?_⟩
  rcases h.wds g hm with h | ⟨b, o, h1, h2, h3, h4, h5, h6⟩
  · exact .inl h
  · exact .inr ⟨b, o, h1, h2, Nat.lt_of_lt_of_le h3 hb.size, h4, h5, fun j hj => (hb.cell (p := ⟨b, o + j, none⟩) h3).trans (h6 j hj)⟩
/-- One line more. -/
theorem LN.line {B : Nat} {W W' : World} {vl vo v' : Value} {gs : List GL} {os : List ByteArray} {g : GL} (h : LN B W vl vo gs os) (hg : WdsAt B W vl vo g.p g.ws) (hown : W'.ownsRow B 39 2 v' (gs.length + 1) (flatG gs ++ flatG [g])) (hgr : W.grownBy W' vl.ownBlock) (hat : v'.ownBlock = vl.ownBlock ∨ v'.ownBlock = some W.heap.size) : LN B W' v' vo (gs ++ [g]) os := by
  have key : ∀ x ∈ gs ++ [g], WdsAt B W vl vo x.p x.ws := fun x hx => by
    rcases List.mem_append.1 hx with hx | hx
    · exact h.wds x hx
    · obtain rfl := List.mem_singleton.1 hx; exact hg
  refine ⟨by rw [List.length_append, flatG_app]; exact hown, h.oth.kept hgr (row_ne h.oth h.row (by decide)), fun x hx => ?_⟩
  rcases (key x hx).grown hgr (fun b _ _ k1 _ => k1) with h0 | ⟨b, o, h1, h2, h3, h4, h5, h6⟩
  · exact .inl h0
  · rcases key x hx with h0 | ⟨b', o', e1, -, e3, -⟩
    · exact .inl h0
    · rw [h1] at e1; cases e1
      refine .inr ⟨b, o, h1, h2, h3, fun e => ?_, h5, h6⟩
      rcases hat with ha | ha
      · exact h4 (e.trans ha)
      · rw [ha] at e; have := Option.some.inj e; omega
/-- One piece more that is no line. -/
theorem LN.other {B : Nat} {W W' : World} {vl vo v' : Value} {gs : List GL} {os : List ByteArray} {x : ByteArray} (h : LN B W vl vo gs os) (hown : W'.ownsRow B 9 1 v' (os.length + 1) (strsV os ++ strsV [x])) (hgr : W.grownBy W' vo.ownBlock) (hat : v'.ownBlock = vo.ownBlock ∨ v'.ownBlock = some W.heap.size) : LN B W' vl v' gs (os ++ [x]) := by
  refine ⟨h.row.kept hgr (row_ne h.row h.oth (by decide)), by rw [List.length_append, strsV_app]; exact hown, fun y hy => ?_⟩
  rcases (h.wds y hy).grown hgr (fun b _ _ _ k2 => k2) with h0 | ⟨b, o, h1, h2, h3, h4, h5, h6⟩
  · exact .inl h0
  · rcases h.wds y hy with h0 | ⟨b', o', e1, -, e3, -⟩
    · exact .inl h0
    · rw [h1] at e1; cases e1
      refine .inr ⟨b, o, h1, h2, h3, h4, fun e => ?_, h6⟩
      rcases hat with ha | ha
      · exact h5 (e.trans ha)
      · rw [ha] at e; have := Option.some.inj e; omega
/-- What reading a piece gives. -/
def rdn (s : ByteArray) : Int := if readErr s = 0 then lineN s else 0
def rdw (s : ByteArray) : List ByteArray := if readErr s = 0 then lineWs s else []
theorem sReadF (s : ByteArray) (w : World) (hs : s.size ≤ 1000000) (he : Env w) : Calls Tryz.prog 33 #[.string s] w fun e w' => ∃ p c, e = .returned (.tuple #[.agg #[.int .i64 (rdn s), .slice p (rdw s).length c], .int .i64 (readErr s)]) ∧ Below w.heap.size w w' ∧ StrsAt w' p (rdw s) ∧ PFrom w.heap.size p := by
  have A := sRead s w hs he
  unfold rdn rdw
  generalize readErr s = er at A ⊢
  generalize lineN s = N0 at A ⊢
  generalize lineWs s = V0 at A ⊢
  refine A.mono ?_
  rintro e w' ⟨hb, ⟨h0, rfl⟩ | ⟨h0, p, c, rfl, hf, hst⟩⟩
  · rw [if_neg h0, if_neg h0]; exact ⟨none, 0, rfl, hb, .inl rfl, fun a e => by cases e⟩
  · rw [if_pos h0, if_pos h0, h0]; exact ⟨p, c, rfl, hb, hst, hf⟩
theorem rReadF (s : ByteArray) (w : World) (hs : s.size ≤ 1000000) : Calls Tryz.prog 34 #[.string s] w fun e w' => ∃ p c, e = .returned (.agg #[.int .i64 (rdn s), .slice p (rdw s).length c, .int .i64 (readErr s)]) ∧ Below w.heap.size w w' ∧ StrsAt w' p (rdw s) ∧ PFrom w.heap.size p := by
  have B : Calls Tryz.prog 34 #[.string s] w fun e w' => Below w.heap.size w w' ∧ ∃ (n : Int) (ws : List ByteArray) (q : Option Addr) (c : Nat), e = .returned (.agg #[.int .i64 n, .slice q ws.length c, .int .i64 (readErr s)]) ∧ StrsAt w' q ws ∧ (readErr s = 0 → n = lineN s ∧ ws = lineWs s) ∧ (readErr s ≠ 0 → n = 0 ∧ ws = []) ∧ PFrom w.heap.size q := rRead s w hs
  unfold rdn rdw
  generalize readErr s = er at B ⊢
  generalize lineN s = N0 at B ⊢
  generalize lineWs s = V0 at B ⊢
  refine B.mono ?_
  rintro e w' ⟨hb, n, ws, q, c, rfl, hst, h1, h2, hf⟩
  by_cases h0 : er = 0
  · obtain ⟨rfl, rfl⟩ := h1 h0
    rw [if_pos h0, if_pos h0]; exact ⟨q, c, rfl, hb, hst, hf⟩
  · obtain ⟨rfl, rfl⟩ := h2 h0
    rw [if_neg h0, if_neg h0]; exact ⟨q, c, rfl, hb, hst, hf⟩
def isLn (x : ByteArray) : Bool := readErr x == 0
/-- The lines of pieces, and the pieces that are none. -/
def lnsOf (ps : List ByteArray) : List ByteArray := ps.filter isLn
def otsOf (ps : List ByteArray) : List ByteArray := ps.filter (fun x => !isLn x)
def glKey (g : GL) : Int × List ByteArray := (g.n, g.ws)
def rdKey (x : ByteArray) : Int × List ByteArray := (rdn x, rdw x)
/-- The lines and other pieces of these pieces lie there. -/
def LNP (B : Nat) (W : World) (vl vo : Value) (ps : List ByteArray) : Prop := ∃ gs : List GL, gs.map glKey = (lnsOf ps).map rdKey ∧ LN B W vl vo gs (otsOf ps)
theorem LNP.nil (B : Nat) (W : World) : LNP B W (.slice none 0 0) (.slice none 0 0) [] := ⟨[], rfl, LN.nil B W⟩
theorem LNP.key_line {ps : List ByteArray} {gs : List GL} {x : ByteArray} (h : gs.map glKey = (lnsOf ps).map rdKey) (hx : readErr x = 0) (p : Option Addr) (c : Nat) : (gs ++ [(⟨rdn x, p, c, rdw x⟩ : GL)]).map glKey = (lnsOf (ps ++ [x])).map rdKey ∧ otsOf (ps ++ [x]) = otsOf ps := by
  have e : isLn x = true := by unfold isLn; rw [hx]; rfl
  constructor
  · unfold lnsOf at h ⊢
    rw [List.filter_append, List.map_append, List.map_append, h, List.filter_cons, if_pos e]
    rfl
  · unfold otsOf
    rw [List.filter_append, List.filter_cons, e]
    simp
theorem LNP.key_other {ps : List ByteArray} {gs : List GL} {x : ByteArray} (h : gs.map glKey = (lnsOf ps).map rdKey) (hx : readErr x ≠ 0) : gs.map glKey = (lnsOf (ps ++ [x])).map rdKey ∧ otsOf (ps ++ [x]) = otsOf ps ++ [x] := by
  have e : isLn x = false := by unfold isLn; rw [beq_eq_false_iff_ne]; exact hx
  constructor
  · unfold lnsOf at h ⊢
    rw [List.filter_append, List.filter_cons, e]
    simpa using h
  · unfold otsOf
    rw [List.filter_append, List.filter_cons, e]
    simp
theorem LNP.below {B : Nat} {W W' : World} {vl vo : Value} {ps : List ByteArray} (h : LNP B W vl vo ps) (hb : Below W.heap.size W W') : LNP B W' vl vo ps := by
  obtain ⟨gs, h1, h2⟩ := h
  exact ⟨gs, h1, h2.below hb⟩
theorem LNP.grown {B : Nat} {W W' : World} {vl vo : Value} {ps : List ByteArray} {row : Option Nat} (h : LNP B W vl vo ps) (hg : W.grownBy W' row) (hr : ∀ r, row = some r → r < B) : LNP B W' vl vo ps := by
  obtain ⟨gs, h1, h2⟩ := h
  exact ⟨gs, h1, h2.grown hg hr⟩
theorem gl_len {ps : List ByteArray} {gs : List GL} (h : gs.map glKey = (lnsOf ps).map rdKey) : gs.length ≤ ps.length := by
  have := congrArg List.length h
  rw [List.length_map, List.length_map] at this
  have h2 : (lnsOf ps).length ≤ ps.length := List.length_filter_le _ _
  omega
theorem ot_len (ps : List ByteArray) : (otsOf ps).length ≤ ps.length := List.length_filter_le _ _
end Go.Proofs.YtmfhpddeclggfaaGreatDoor
