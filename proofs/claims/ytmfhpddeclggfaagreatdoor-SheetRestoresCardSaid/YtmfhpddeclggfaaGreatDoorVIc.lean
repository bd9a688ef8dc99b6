import Derived.Test.YtmfhpddeclggfaaGreatDoorIb
import Derived.Test.YtmfhpddeclggfaaGreatDoorVc
import Derived.WalkKit
import Derived.LoopTactic
import Derived.WalkSpells
import Derived.WalkLawsBesides
import Derived.Lib.Hide
import Derived.BigQuiet
import Derived.IntWalk
import Derived.Deep.DeepMust
import Derived.WalkSmall
import Derived.Carry
import Derived.Laws.Tables
namespace Go.Proofs.YtmfhpddeclggfaaGreatDoor
open Go.RowKit
/-! The desk in general: what it says, plainly, and one scrap more. -/
theorem keyB_iff (a b : Int) (s t : ByteArray) : keyB a s b t = true ↔ a = b ∧ s = t :=
  ⟨keyB_eq, fun ⟨h1, h2⟩ => by subst h1; subst h2; exact keyB_self a s⟩
theorem keyB_no {a b : Int} {s t : ByteArray} (h : ¬ (a = b ∧ s = t)) : keyB a s b t = false := by
  cases hk : keyB a s b t with
  | false => rfl
  | true => exact absurd (keyB_eq hk) h
theorem idxL_app (n : Int) (t : ByteArray) (x : Ent) : ∀ L : List Ent, idxL n t (L ++ [x]) = match idxL n t L with
    | some k => some k
    | none => if keyB n t x.1 x.2.1 then some L.length else none
  | [] => by simp only [List.nil_append, idxL]; split <;> simp
  | y :: L => by
    have ih := idxL_app n t x L
    simp only [List.cons_append, idxL]
    split
    · rfl
    · rw [ih]
      cases idxL n t L with
      | some k => rfl
      | none => dsimp only; split <;> simp
theorem idxL_set (n : Int) (t : ByteArray) (m : Int) (s : ByteArray) (v : Value) : ∀ (L : List Ent) (k : Nat), idxL m s L = some k → idxL n t (L.set k (m, s, v)) = idxL n t L
  | [], k, h => by cases h
  | y :: L, k, h => by
    simp only [idxL] at h
    by_cases hb : keyB m s y.1 y.2.1 = true
    · rw [if_pos hb] at h
      obtain rfl : 0 = k := Option.some.inj h
      obtain ⟨h1, h2⟩ := keyB_eq hb
      simp only [List.set_cons_zero, idxL, ← h1, ← h2]
    · rw [if_neg hb, Option.map_eq_some_iff] at h
      obtain ⟨k', hk', rfl⟩ := h
      simp only [List.set_cons_succ, idxL]
      rw [idxL_set n t m s v L k' hk']
theorem idxL_lt (n : Int) (t : ByteArray) : ∀ (L : List Ent) (k : Nat), idxL n t L = some k → k < L.length ∧ ∃ x, L[k]? = some x ∧ n = x.1 ∧ t = x.2.1
  | [], k, h => by cases h
  | y :: L, k, h => by
    simp only [idxL] at h
    by_cases hb : keyB n t y.1 y.2.1 = true
    · rw [if_pos hb] at h
      obtain rfl : 0 = k := Option.some.inj h
      exact ⟨by simp, y, rfl, keyB_eq hb⟩
    · rw [if_neg hb, Option.map_eq_some_iff] at h
      obtain ⟨k', hk', rfl⟩ := h
      obtain ⟨h1, h2⟩ := idxL_lt n t L k' hk'
      exact ⟨by simpa using h1, by simpa using h2⟩
theorem idxL_upd (n : Int) (t : ByteArray) (m : Int) (s : ByteArray) (v : Value) (L : List Ent) : idxL n t (updL m s v L) = none ↔ idxL n t L = none ∧ ¬ (n = m ∧ t = s) := by
  unfold updL
  cases hi : idxL m s L with
  | some k =>
    dsimp only
    rw [idxL_set n t m s v L k hi]
    refine ⟨fun h => ⟨h, fun ⟨e1, e2⟩ => ?_⟩, fun h => h.1⟩
    subst e1; subst e2
    rw [hi] at h; cases h
  | none =>
    dsimp only
    rw [idxL_app]
    cases hj : idxL n t L with
    | some k => simp
    | none =>
      dsimp only
      by_cases hb : keyB n t m s = true
      · rw [if_pos hb]
        have := keyB_eq hb
        simp [this]
      · rw [if_neg hb]
        simp only [true_and, true_iff]
        exact fun e => hb ((keyB_iff _ _ _ _).2 e)
theorem lookL_upd (n : Int) (t : ByteArray) (m : Int) (s : ByteArray) (v : Value) (L : List Ent) : lookL n t (updL m s v L) = if n = m ∧ t = s then v else lookL n t L := by
  unfold updL
  cases hi : idxL m s L with
  | some k =>
    dsimp only
    unfold lookL
    rw [idxL_set n t m s v L k hi]
    obtain ⟨hk, x, hx, e1, e2⟩ := idxL_lt m s L k hi
    by_cases he : n = m ∧ t = s
    · obtain ⟨rfl, rfl⟩ := he
      rw [hi, if_pos ⟨rfl, rfl⟩]
      simp [hk]
    · rw [if_neg he]
      cases hj : idxL n t L with
      | none => rfl
      | some j =>
        dsimp only
        obtain ⟨hj1, y, hy, f1, f2⟩ := idxL_lt n t L j hj
        have hne : k ≠ j := fun e => by
          subst e
          rw [hx] at hy; cases hy
          exact he ⟨f1.trans e1.symm, f2.trans e2.symm⟩
        rw [List.getElem?_set_ne hne]
  | none =>
    dsimp only
    unfold lookL
    rw [idxL_app]
    cases hj : idxL n t L with
    | some j =>
      obtain ⟨hj1, y, hy, f1, f2⟩ := idxL_lt n t L j hj
      have hne : ¬ (n = m ∧ t = s) := fun ⟨e1, e2⟩ => by subst e1; subst e2; rw [hi] at hj; cases hj
      rw [if_neg hne]
      dsimp only
      rw [List.getElem?_append_left hj1]
    | none =>
      dsimp only
      by_cases he : n = m ∧ t = s
      · rw [if_pos he, if_pos ((keyB_iff _ _ _ _).2 he)]
        simp
      · rw [if_neg he, if_neg (fun h => he (keyB_eq h))]
/-- What a desk says. -/
structure DS where
  last : Nat
  rs : Nat → List ByteArray
  cp : Nat → ByteArray → List Int
  os : Nat → List (Int × ByteArray)
/-- An empty desk. -/
def ds0 : DS := ⟨0, fun _ => [], fun _ _ => [], fun _ => []⟩
/-- One scrap more, of the copy with the index k. -/
def adD (k : Int) (d : DS) (s : Sc) : DS :=
  if s.b = true then ⟨max d.last s.n.toNat, fun j => if j = s.n.toNat then (if d.cp s.n.toNat s.t = [] then d.rs j ++ [s.t] else d.rs j) else d.rs j, fun j u => if j = s.n.toNat ∧ u = s.t then addL (d.cp j u) k else d.cp j u, d.os⟩
  else ⟨max d.last s.n.toNat, d.rs, d.cp, fun j => if j = s.n.toNat then d.os j ++ [(k, s.t)] else d.os j⟩
/-- Whose rows lie on a desk. -/
abbrev DI := (Nat ⊕ Nat) ⊕ (Nat × ByteArray)
def cellsT (n : Nat) (ts : List ByteArray) : List Value := ts.flatMap fun t => [.int .i64 (n : Int), .string t]
def cellsP (l : List (Int × ByteArray)) : List Value := l.flatMap fun x => [.int .i64 x.1, .string x.2]
theorem cellsT_snoc (n : Nat) (ts : List ByteArray) (t : ByteArray) : cellsT n (ts ++ [t]) = cellsT n ts ++ [.int .i64 (n : Int), .string t] := by simp [cellsT]
theorem cellsP_snoc (l : List (Int × ByteArray)) (k : Int) (t : ByteArray) : cellsP (l ++ [(k, t)]) = cellsP l ++ [.int .i64 k, .string t] := by simp [cellsP]
def famD (d : DS) (R O : Nat → Value) (V : Nat → ByteArray → Value) : DI → Row
  | .inl (.inl n) => ⟨242, 2, R n, (d.rs n).length, cellsT n (d.rs n)⟩
  | .inl (.inr n) => ⟨260, 2, O n, (d.os n).length, cellsP (d.os n)⟩
  | .inr (n, t) => ⟨3, 1, V n t, (d.cp n t).length, cellsI (d.cp n t)⟩
/-- A desk, as it lies. -/
def DeskAt (W : World) (B D M : Nat) (d : DS) : Prop :=
  ∃ R O V L, Dk W D M d.last R O L ∧ Fam B (famD d R O V) W ∧ B ≤ W.heap.size ∧ D < B ∧ M < B ∧ (∀ n t, lookL (n : Nat) t L = V n t) ∧ (∀ n t, idxL (n : Nat) t L = none ↔ d.cp n t = [])
theorem DeskAt.below {W W' : World} {B D M : Nat} {d : DS} (h : DeskAt W B D M d) (hb : Below W.heap.size W W') : DeskAt W' B D M d := by
  obtain ⟨R, O, V, L, hd, hF, hB, hD, hM, h1, h2⟩ := h
  have hg : W.grownBy W' none := ⟨hb.os, hb.tape, hb.output, hb.size, fun i hi _ => hb.block i hi⟩
  exact ⟨R, O, V, L, hd.grown hg (by simp) (by simp), ⟨fun i => ownsRow_keep (hF.own i) hb, hF.apart⟩, Nat.le_trans hB hb.size, hD, hM, h1, h2⟩
theorem adD_last (k : Int) (d : DS) (s : Sc) : (adD k d s).last = max d.last s.n.toNat := by unfold adD; split <;> rfl
/-- One scrap more is laid. -/
theorem addD_any (B D M base : Nat) (hD0 : base ≤ D) (hM0 : base ≤ M) (d : DS) (k : Int) (s : Sc) (W : World) (h : DeskAt W B D M d) (h1 : 1 ≤ s.n) (h4 : s.n ≤ 400) (b1 : ∀ n, (d.rs n).length ≤ 1000000) (b2 : ∀ n t, (d.cp n t).length ≤ 1000000) (b3 : ∀ n, (d.os n).length ≤ 1000000) :
    Calls Tryz.prog 166 #[.pointer (some ⟨D, 0, none⟩), .int .i64 k, .agg #[.int .i64 s.n, .string s.t, .bool s.b]] W fun e w' => e = .returned (.tuple #[]) ∧ DeskAt w' B D M (adD k d s) ∧ Below base W w' ∧ W.heap.size ≤ w'.heap.size := by
  obtain ⟨R, O, V, L, hd, hF, hB, hD, hM, hV, hI⟩ := h
  obtain ⟨sn, st, sb⟩ := s
  dsimp only at h1 h4 ⊢
  obtain ⟨n, rfl⟩ : ∃ n : Nat, sn = (n : Int) := ⟨sn.toNat, by omega⟩
  have hn : n ≤ 400 := by omega
  have hmx : ((max d.last n : Nat) : Int) = max (d.last : Int) (n : Int) := by omega
  cases sb with
  | false =>
    refine (addk_other (famD d R O V) (.inl (.inr n)) B D M base hD0 d.last R O L k n st (d.os n).length (cellsP (d.os n)) W hd hn hF hB hD hM rfl (b3 n)).mono ?_
    rintro e w' ⟨rfl, v1, hd', hF', hb, hs⟩
    have ed : adD k d ⟨(n : Int), st, false⟩ = ⟨max d.last n, d.rs, d.cp, fun j => if j = n then d.os j ++ [(k, st)] else d.os j⟩ := by simp [adD]
    rw [ed]
    refine ⟨rfl, ⟨R, fun j => if j = n then v1 else O j, V, L, by dsimp only; rw [hmx]; exact hd', fam_ext hF' (fun i => ?_), Nat.le_trans hB hs, hD, hM, hV, hI⟩, hb, hs⟩
    match i with
    | .inl (.inl m) => rfl
    | .inl (.inr m) =>
      by_cases e : m = n
      · subst e
        simp [famD, cellsP_snoc]
      · simp [famD, e]
    | .inr (m, t) => rfl
  | true =>
    have ed : adD k d ⟨(n : Int), st, true⟩ = ⟨max d.last n, fun j => if j = n then (if d.cp n st = [] then d.rs j ++ [st] else d.rs j) else d.rs j, fun j u => if j = n ∧ u = st then addL (d.cp j u) k else d.cp j u, d.os⟩ := by simp [adD]
    rw [ed]
    by_cases hc : d.cp n st = []
    · have hix := (hI n st).2 hc
      have hv0 : V n st = .slice none 0 0 := by rw [← hV]; unfold lookL; rw [hix]
      refine (addk_new (famD d R O V) (.inl (.inl n)) (.inr (n, st)) (by simp) B D M base hD0 hM0 d.last R O L k n st (d.rs n).length (cellsT n (d.rs n)) W hd hn hF hB hD hM (dk_ne hd) rfl (b1 n) (by simp [famD, hv0, hc]) hix).mono ?_
      rintro e w' ⟨rfl, v1, v2, hd', hF', hb, hs⟩
      refine ⟨rfl, ⟨fun j => if j = n then v1 else R j, O, fun j u => if j = n ∧ u = st then v2 else V j u, updL n st v2 L, by dsimp only; rw [hmx]; exact hd', fam_ext hF' (fun i => ?_), Nat.le_trans hB hs, hD, hM, fun m t => ?_, fun m t => ?_⟩, hb, hs⟩
      · match i with
        | .inl (.inl m) =>
          by_cases e : m = n
          · subst e
            simp [famD, cellsT_snoc, hc]
          · simp [famD, e]
        | .inl (.inr m) => simp [famD]
        | .inr (m, t) =>
          by_cases e : m = n ∧ t = st
          · obtain ⟨rfl, rfl⟩ := e
            simp [famD, hc, addL]
          · have e2 : ¬ (m, t) = (n, st) := fun e3 => e ⟨congrArg Prod.fst e3, congrArg Prod.snd e3⟩
            simp [famD, e]
      · rw [lookL_upd, hV]
        by_cases e : m = n ∧ t = st
        · obtain ⟨rfl, rfl⟩ := e; simp
        · rw [if_neg (fun e2 => e ⟨by omega, e2.2⟩)]; exact (if_neg e).symm
      · rw [idxL_upd, hI]
        by_cases e : m = n ∧ t = st
        · obtain ⟨rfl, rfl⟩ := e; simp [addL_ne]
        · have e2 : ¬ ((m : Int) = n ∧ t = st) := fun e2 => e ⟨by omega, e2.2⟩
          simp [e, e2]
    · have hlen : 0 < (d.cp n st).length := List.length_pos_iff.2 hc
      have o3 := hF.own (.inr (n, st))
      obtain ⟨a0, l0, c0, hv⟩ : ∃ a0 l0 c0, V n st = .slice (some a0) l0 c0 := by
        rcases o3.2 with ⟨_, e⟩ | ⟨g, cap, cur, e, _⟩
        · exact absurd (List.length_eq_zero_iff.1 e) hc
        · exact ⟨_, _, _, e⟩
      have hlk : lookL n st L = .slice (some a0) l0 c0 := by rw [hV, hv]
      have hix : idxL n st L ≠ none := fun e => hc ((hI n st).1 e)
      by_cases hk : (d.cp n st).getLast? = some k
      · refine (addk_same (famD d R O V) (.inr (n, st)) B D M base hD0 hM0 d.last R O L k n st a0 l0 c0 (d.cp n st) W hd hn hF hB hD hM (by simp [famD, hv]) hk (b2 n st) hlk).mono ?_
        rintro e w' ⟨rfl, hd', hF', hb, hs⟩
        refine ⟨rfl, ⟨R, O, V, updL n st (.slice (some a0) l0 c0) L, by dsimp only; rw [hmx]; exact hd', fam_ext hF' (fun i => ?_), Nat.le_trans hB hs, hD, hM, fun m t => ?_, fun m t => ?_⟩, hb, hs⟩
        · match i with
          | .inl (.inl m) =>
            by_cases e : m = n
            · subst e
              simp [famD, hc]
            · simp [famD, e]
          | .inl (.inr m) => rfl
          | .inr (m, t) =>
            by_cases e : m = n ∧ t = st
            · obtain ⟨rfl, rfl⟩ := e
              simp [famD, addL, hk]
            · simp [famD, e]
        · rw [lookL_upd, hV]
          by_cases e : m = n ∧ t = st
          · obtain ⟨rfl, rfl⟩ := e; simp [hv]
          · rw [if_neg (fun e2 => e ⟨by omega, e2.2⟩)]
        · rw [idxL_upd, hI]
          by_cases e : m = n ∧ t = st
          · obtain ⟨rfl, rfl⟩ := e; simp [addL_ne, hc]
          · have e2 : ¬ ((m : Int) = n ∧ t = st) := fun e2 => e ⟨by omega, e2.2⟩
            simp [e, e2]
      · refine (addk_old (famD d R O V) (.inr (n, st)) B D M base hD0 hM0 d.last R O L k n st a0 l0 c0 (d.cp n st) W hd hn hF hB hD hM (by simp [famD, hv]) hk (b2 n st) hlk).mono ?_
        rintro e w' ⟨rfl, v2, hd', hF', hb, hs⟩
        refine ⟨rfl, ⟨R, O, fun j u => if j = n ∧ u = st then v2 else V j u, updL n st v2 L, by dsimp only; rw [hmx]; exact hd', fam_ext hF' (fun i => ?_), Nat.le_trans hB hs, hD, hM, fun m t => ?_, fun m t => ?_⟩, hb, hs⟩
        · match i with
          | .inl (.inl m) =>
            by_cases e : m = n
            · subst e
              simp [famD, hc]
            · simp [famD, e]
          | .inl (.inr m) => simp [famD]
          | .inr (m, t) =>
            by_cases e : m = n ∧ t = st
            · obtain ⟨rfl, rfl⟩ := e
              simp [famD, addL, hk]
            · simp [famD, e]
        · rw [lookL_upd, hV]
          by_cases e : m = n ∧ t = st
          · obtain ⟨rfl, rfl⟩ := e; simp
          · rw [if_neg (fun e2 => e ⟨by omega, e2.2⟩)]; exact (if_neg e).symm
        · rw [idxL_upd, hI]
          by_cases e : m = n ∧ t = st
          · obtain ⟨rfl, rfl⟩ := e; simp [addL_ne, hc]
          · have e2 : ¬ ((m : Int) = n ∧ t = st) := fun e2 => e ⟨by omega, e2.2⟩
            simp [e, e2]
end Go.Proofs.YtmfhpddeclggfaaGreatDoor
