import Derived.Test.YtmfhpddeclggfaaGreatDoorVTj
import Derived.Test.YtmfhpddeclggfaaGreatDoorVTb
import Derived.Test.YtmfhpddeclggfaaGreatDoorVIia
import Derived.Test.YtmfhpddeclggfaaGreatDoorTf
import Derived.Test.YtmfhpddeclggfaaGreatDoorVTc
import Derived.Test.YtmfhpddeclggfaaGreatDoorVTa
import Derived.Test.YtmfhpddeclggfaaGreatDoorVIfb
import Derived.Test.YtmfhpddeclggfaaGreatDoorVc
import Derived.Test.YtmfhpddeclggfaaGreatDoorKf
import Derived.Test.YtmfhpddeclggfaaGreatDoorOm
import Derived.Lib.ConvBytes
import Derived.Laws.IdiomStrings
import Derived.WalkKit
import Derived.LoopTactic
import Derived.WalkSpells
import Derived.WalkLawsBesides
import Derived.Lib.Hide
import Derived.BigQuiet
import Derived.IntWalk
import Derived.Deep.DeepMust
import Derived.WalkSmall
import Derived.StillTailTactics
import Derived.Deep.RegionLaw
import Derived.Deep.QuietTactic
import Derived.Deep.Cut
import Derived.Deep.DeepCutAuto
import Derived.Deep.LoopGhost
import Derived.Deep.RegionHeld3
import Derived.Laws.OwnMore
namespace Go.Proofs.YtmfhpddeclggfaaGreatDoor
open Go.RowKit
theorem fatC_len {s l : List UInt8} {f : Ft} (h : fatC s f = some l) : l.length ≤ s.length := by
  unfold fatC at h
  split at h
  · cases h
  split at h
  · cases h; rw [List.length_take]; omega
  split at h
  · cases h; rw [blotL_len']; exact Nat.le_refl _
  split at h
  · cases h; rw [List.length_take, blotL_len']; omega
  split at h
  · cases h; rw [List.length_set]; exact Nat.le_refl _
  split at h
  · cases h
    split
    · unfold swp; rw [List.length_set, List.length_set]; exact Nat.le_refl _
    · exact Nat.le_refl _
  · cases h; exact Nat.le_refl _
theorem cpy_none (h : List (Option (List UInt8))) : (h ++ [none]).filterMap id = h.filterMap id := by simp
theorem cpy_some (h : List (Option (List UInt8))) (l : List UInt8) : bs (cpyL ((h ++ [some l]).filterMap id)) = bs (cpyL (h.filterMap id)) ++ (bs l ++ ⟨#[10]⟩) := by
  apply data_inj1
  simp [cpyL, bs]
theorem below4 {w W : World} (h : Below w.heap.size w W) (u0 u1 u2 u3 : Value) : Below w.heap.size w ((((W.setCell ⟨w.heap.size, 0, none⟩ u0).setCell ⟨w.heap.size, 1, none⟩ u1).setCell ⟨w.heap.size, 2, none⟩ u2).setCell ⟨w.heap.size, 3, none⟩ u3) :=
  (((h.setCell (p := ⟨w.heap.size, 0, none⟩) (Nat.le_refl _) _).setCell (p := ⟨w.heap.size, 1, none⟩) (Nat.le_refl _) _).setCell (p := ⟨w.heap.size, 2, none⟩) (Nat.le_refl _) _).setCell (p := ⟨w.heap.size, 3, none⟩) (Nat.le_refl _) _
def zT : Value := .slice none 0 0
/-- The rows of a story that is being told. -/
def rT (v0 v1 v2 v3 : Value) (ts cs : List ByteArray) (gs : List GL) (ys : List (Option Addr × Nat × List Bool)) : Fin 4 → Row :=
  t4 ⟨9, 1, v0, ts.length, strsV ts⟩ ⟨9, 1, v1, cs.length, strsV cs⟩ ⟨37, 1, v2, gs.length, gs.map fun g => .slice g.p g.ws.length g.cap⟩ ⟨117, 1, v3, ys.length, ys.map fun y => .slice y.1 y.2.2.length y.2.1⟩
def xT (gs : List GL) : List (Option Addr × List ByteArray) := gs.map fun g => (g.p, g.ws)
def yT (ys : List (Option Addr × Nat × List Bool)) : List (Option Addr × List Bool) := ys.map fun y => (y.1, y.2.2)
def BoolssAt (W : World) (p : Option Addr) (ys : List (Option Addr × Nat × List Bool)) : Prop :=
  (ys = [] ∨ ∃ b o, p = some ⟨b, o, none⟩ ∧ b < W.heap.size ∧ ∀ j, j < ys.length → W.cell? ⟨b, o + j, none⟩ = some (.slice (ys.getD j default).1 (ys.getD j default).2.2.length (ys.getD j default).2.1)) ∧
  ∀ j, j < ys.length → BoolsAt W (ys.getD j default).1 (ys.getD j default).2.2
/-- What the copies have, of all lines. -/
def HT (ls : List GL) (gs : List GF) : List (List (Option (List UInt8))) := gs.map fun g => hvT (txT ls ls.length) g.fs ls.length
structure ToA (W : World) (ls : List GL) (fs : List GF) (p0 p1 p2 p3 : Option Addr) (gs : List GL) (ys : List (Option Addr × Nat × List Bool)) : Prop where
  ok : ∀ i, i < ls.length → lineErr ((i : Int) + 1) (ls.getD i default).ws = 0
  t : StrsAt W p0 (txT ls ls.length)
  c : StrsAt W p1 ((HT ls fs).map cpO)
  h : ListsAt W p2 gs
  hg : gs.map (·.ws) = (HT ls fs).map hsT
  l : BoolssAt W p3 ys
  lg : ys.map (·.2.2) = (HT ls fs).map lsT
/-- What told leaves. -/
def ToP (w : World) (ls : List GL) (fs : List GF) (e : Ending) (w' : World) : Prop :=
  Below w.heap.size w w' ∧ ((∃ p n c, e = .returned (.tuple #[.agg #[.slice p n c, .slice none 0 0, .slice none 0 0, .slice none 0 0], .bool false])) ∨
    ∃ p0 p1 p2 p3 c0 c1 c2 c3 gs ys, e = .returned (.tuple #[.agg #[.slice p0 ls.length c0, .slice p1 fs.length c1, .slice p2 fs.length c2, .slice p3 fs.length c3], .bool true]) ∧ ToA w' ls fs p0 p1 p2 p3 gs ys)
theorem txt_sz {n : Int} {ws : List ByteArray} (h : lineErr n ws = 0) : (bs (lineT n ws)).size ≤ 1000000 := (rl_of h).z
theorem bls_ownF {W : World} {B : Nat} {v : Value} {l : List Bool} (h : W.ownsRow B 4 1 v l.length (blsV l)) : ∃ q cap, v = .slice q l.length cap ∧ BoolsAt W q l := by
  obtain ⟨h1, ⟨rfl, h2⟩ | ⟨g, cap, cur, rfl, hg, hc, h3, h4, h5, h6⟩⟩ := h
  · exact ⟨none, 0, by rw [h2], .inl (List.length_eq_zero_iff.1 h2)⟩
  · refine ⟨some ⟨g, 0, none⟩, cap, rfl, .inr ⟨g, 0, rfl, (Array.getElem?_eq_some_iff.1 hc).1, fun j hj => ?_⟩⟩
    have g1 : (blsV l)[j]? = some (.bool (l.getD j false)) := by
      rw [blsV, List.getElem?_map, List.getD, List.getElem?_eq_getElem hj]; rfl
    rw [← h6, List.getElem?_take_of_lt (by omega)] at g1
    rw [Nat.zero_add]
    simpa [World.cell?, hc] using g1
theorem own_kp {w W2 W : World} {vs : Fin 4 → Value} {rs : Fin 4 → Row} {X : List (Option Addr × List ByteArray)} {Y : List (Option Addr × List Bool)} (S : TS w W2 vs rs X Y) {e : TypeId} {k n c : Nat} {q : Option Addr} {xs : List Value} (h : W.ownsRow W2.heap.size e k (.slice q n c) n xs) : KpT w W rs q := fun ad e => by
  subst e
  obtain ⟨a1, a2⟩ := h.lt ad.block rfl
  have := S.lt
  exact ⟨a2, by omega, fun i e2 => by have := (S.own i _ e2.symm).2; omega⟩
def gS (g : GL) : Value := .slice g.p g.ws.length g.cap
def yS (y : Option Addr × Nat × List Bool) : Value := .slice y.1 y.2.2.length y.2.1
def xs25 (cs : List ByteArray) (gs : List GL) (ys : List (Option Addr × Nat × List Bool)) : Fin 3 → List Value := f3 (strsV cs) (gs.map gS) (ys.map yS)
theorem ts_in {W0 W2 W : World} {v0 v1 v2 v3 : Value} {ts cs : List ByteArray} {gs : List GL} {ys : List (Option Addr × Nat × List Bool)} {m : Nat} (S : TS W0 W2 (t4 v0 v1 v2 v3) (rT v0 v1 v2 v3 ts cs gs ys) (xT gs) (yT ys)) (hc : cs.length = m) (hg : gs.length = m) (hy : ys.length = m) (hb : Below W2.heap.size W2 W)
    {g1 : GL} {y1 : Option Addr × Nat × List Bool} {e1 e2 : TypeId} {xh xl : List Value} (h1 : W.ownsRow W2.heap.size e1 1 (gS g1) g1.ws.length xh) (s1 : StrsAt W g1.p g1.ws) (h2 : W.ownsRow W2.heap.size e2 1 (yS y1) y1.2.2.length xl) (s2 : BoolsAt W y1.1 y1.2.2) :
    TS W0 W.drew (c4 v0 (f3 v1 v2 v3)) (c4 ⟨9, 1, v0, ts.length, strsV ts⟩ fun k => ⟨E25 k, 1, f3 v1 v2 v3 k, m, xs25 cs gs ys k⟩) (xT (gs ++ [g1])) (yT (ys ++ [y1])) := by
  have T := (S.next hb).more (X' := xT (gs ++ [g1])) (Y' := yT (ys ++ [y1])) (fun x hx => by
    unfold xT at hx
    rw [List.map_append] at hx
    rcases List.mem_append.1 hx with hx | hx
    · exact .inl hx
    · obtain rfl := List.mem_singleton.1 hx
      exact .inr ⟨s1, .inr (own_kp S h1)⟩) (fun x hx => by
    unfold yT at hx
    rw [List.map_append] at hx
    rcases List.mem_append.1 hx with hx | hx
    · exact .inl hx
    · obtain rfl := List.mem_singleton.1 hx
      exact .inr ⟨s2, .inr (own_kp S h2)⟩)
  have T2 := T.next (W' := W.drew) ⟨rfl, rfl, rfl, Nat.le_refl _, fun _ _ => rfl⟩
  refine T2.congr (fun i => by match i with | 0 => rfl | 1 => rfl | 2 => rfl | 3 => rfl) (fun i => ?_)
  match i with
  | 0 => rfl
  | 1 => show (⟨9, 1, v1, cs.length, strsV cs⟩ : Row) = ⟨9, 1, v1, m, strsV cs⟩; rw [hc]
  | 2 => show (⟨37, 1, v2, gs.length, gs.map gS⟩ : Row) = ⟨37, 1, v2, m, gs.map gS⟩; rw [hg]
  | 3 => show (⟨117, 1, v3, ys.length, ys.map yS⟩ : Row) = ⟨117, 1, v3, m, ys.map yS⟩; rw [hy]
theorem ts_out {W0 w' : World} {v0 : Value} {u : Fin 3 → Value} {ts cs : List ByteArray} {gs : List GL} {ys : List (Option Addr × Nat × List Bool)} {m : Nat} {g1 : GL} {y1 : Option Addr × Nat × List Bool} {s : ByteArray} {X : List (Option Addr × List ByteArray)} {Y : List (Option Addr × List Bool)}
    (hc : cs.length = m) (hg : gs.length = m) (hy : ys.length = m) (T : TS W0 w' (c4 v0 u) (c4 ⟨9, 1, v0, ts.length, strsV ts⟩ fun k => ⟨E25 k, 1, u k, m + 1, xs25 cs gs ys k ++ [f3 (.string s) (gS g1) (yS y1) k]⟩) X Y) :
    TS W0 w' (t4 v0 (u 0) (u 1) (u 2)) (rT v0 (u 0) (u 1) (u 2) ts (cs ++ [s]) (gs ++ [g1]) (ys ++ [y1])) X Y := by
  refine T.congr (fun i => by match i with | 0 => rfl | 1 => rfl | 2 => rfl | 3 => rfl) (fun i => ?_)
  match i with
  | 0 => rfl
  | 1 =>
    show (⟨9, 1, u 0, m + 1, strsV cs ++ [.string s]⟩ : Row) = ⟨9, 1, u 0, (cs ++ [s]).length, strsV (cs ++ [s])⟩
    rw [List.length_append, hc, strsV_app]; rfl
  | 2 =>
    show (⟨37, 1, u 1, m + 1, gs.map gS ++ [gS g1]⟩ : Row) = ⟨37, 1, u 1, (gs ++ [g1]).length, (gs ++ [g1]).map gS⟩
    rw [List.length_append, hg, List.map_append]; rfl
  | 3 =>
    show (⟨117, 1, u 2, m + 1, ys.map yS ++ [yS y1]⟩ : Row) = ⟨117, 1, u 2, (ys ++ [y1]).length, (ys ++ [y1]).map yS⟩
    rw [List.length_append, hy, List.map_append]; rfl
end Go.Proofs.YtmfhpddeclggfaaGreatDoor
