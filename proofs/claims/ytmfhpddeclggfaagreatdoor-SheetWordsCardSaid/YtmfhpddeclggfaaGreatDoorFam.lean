import Derived.WalkKit
import Derived.Laws.AppendOwn
/- Rows that a call owns, several side by side: appending to one leaves the others. -/
namespace Go.Proofs.YtmfhpddeclggfaaGreatDoor
open Go Go.RowKit
section
variable {P : Program} (w : World)
/-- Appending one or more elements: the row is where it was, or in a new block. -/
theorem run_append_where (base : Nat) (t ty e : TypeId) (i : TypeInfo) (z : Value) (size bytes : Nat) (ht : P.underlying t = some (.slice e)) (hi : P.info? e = some i) (hz : i.zero = some z)
    (hsize : i.size = size) (hby : i.bytes = bytes) (hzs : z.cells.size = size) (hsz : 0 < size)
    (v : Value) (n : Nat) (xs : List Value) (hown : w.ownsRow base e size v n xs)
    (a : Addr) (m c : Nat) (news : List Value) (hm : 0 < m) (hl : news.length = m * size) (hnews : ∀ j u, news[j]? = some u → w.cell? (a.add j) = some u) (h1 : ∀ u ∈ news, u.oneCell' = true)
    (h63 : n + m ≤ maxLen) (hbytes : (n + m) * bytes ≤ 140737488355328) (hbase : base ≤ w.heap.size) :
    ∃ v' w', (Builtin.append_ #[t, t] ty #[v, .slice (some a) m c]).run P w = .ok v' w' ∧ w'.ownsRow base e size v' (n + m) (xs ++ news) ∧ w.grownBy w' v.ownBlock ∧
      (v'.ownBlock = some w.heap.size ∨ (v'.ownBlock = v.ownBlock ∧ v.ownBlock ≠ none)) := by
  obtain ⟨v', w', hr, h2, h3, h4⟩ := run_append_own (P := P) w base t ty e i z size bytes ht hi hz hsize hby hzs hsz v n xs hown a m c news hl hnews h1 h63 hbytes hbase
  refine ⟨v', w', hr, h2, h3, ?_⟩
  subst hsize
  subst hby
  have hsmall : n + m ≤ 9223372036854775807 := by simp only [maxLen] at h63; omega
  rcases hown.2 with ⟨rfl, rfl⟩ | ⟨g, cap, cur, rfl, hbg, hg, hnc, hcm, hcs, htake⟩
  · have hr2 := run_append_nil (P := P) w t ty e i z ht hi hz a m c news hl hnews hm (by omega) (by have hb := hbytes; simp only [Nat.zero_add] at hb; omega)
    rw [hr] at hr2
    obtain ⟨rfl, -⟩ := Result.ok.inj hr2
    exact .inl rfl
  · by_cases hroom : n + m ≤ cap
    · have hfit : n * i.size + news.length ≤ cur.size := by rw [hl, hcs, ← Nat.add_mul]; exact Nat.mul_le_mul_right _ hroom
      have hr2 := run_append_room (P := P) w t ty e i ht hi g n cap cur hg a m c news hl hnews h1 hroom hfit
      rw [hr] at hr2
      obtain ⟨rfl, -⟩ := Result.ok.inj hr2
      exact .inr ⟨rfl, by simp [Value.ownBlock]⟩
    · have holds : ∀ j u, xs[j]? = some u → w.cell? ((⟨g, 0, none⟩ : Addr).add j) = some u := hown.cells (g := g) rfl
      have hr2 := run_append_grow (P := P) w t ty e i z ht hi hz ⟨g, 0, none⟩ n cap xs hown.1 holds a m c news hl hnews (by omega) (by omega) (growslice_fits (by omega) hbytes)
      rw [hr] at hr2
      obtain ⟨rfl, -⟩ := Result.ok.inj hr2
      exact .inl rfl
end
/-- The operation. -/
theorem wpList_append_where {P : Program} (w : World) {ops : Array Oper} {rest : List Oper} {o : Oper} {a : Act} {Q : Exit → Act → World → Prop} (hgd : o.guard = none) (s x : Operand) (t : TypeId)
    (ho : o.op = .call { callee := .builtin .append, args := #[s, x], argTypes := #[t, t] })
    (base : Nat) (e : TypeId) (i : TypeInfo) (z : Value) (size bytes : Nat) (ht : P.underlying t = some (.slice e)) (hi : P.info? e = some i) (hz : i.zero = some z)
    (hsize : i.size = size) (hby : i.bytes = bytes) (hzs : z.cells.size = size) (hsz : 0 < size)
    (v : Value) (n : Nat) (xs : List Value) (hs : a.eval s = v) (hown : w.ownsRow base e size v n xs)
    (ad : Addr) (m c : Nat) (news : List Value) (hm : 0 < m) (hx : a.eval x = .slice (some ad) m c) (hl : news.length = m * size) (hnews : ∀ j u, news[j]? = some u → w.cell? (ad.add j) = some u) (h1 : ∀ u ∈ news, u.oneCell' = true)
    (h63 : n + m ≤ maxLen) (hbytes : (n + m) * bytes ≤ 140737488355328) (hbase : base ≤ w.heap.size)
    (h : ∀ v' w', w'.ownsRow base e size v' (n + m) (xs ++ news) → w.grownBy w' v.ownBlock → (v'.ownBlock = some w.heap.size ∨ (v'.ownBlock = v.ownBlock ∧ v.ownBlock ≠ none)) → wpList P ops Q rest (a.put o.dst v') w') : wpList P ops Q (o :: rest) a w := by
  refine wpList_plain hgd fun K hK => ?_
  obtain ⟨v', w', hr, h2, h3, h4⟩ := run_append_where (P := P) w base t o.type e i z size bytes ht hi hz hsize hby hzs hsz v n xs hown ad m c news hm hl hnews h1 h63 hbytes hbase
  unfold Oper.wp execOp
  simp only [ho, resolve, invoke, builtin, Sem.run_bind, Sem.run_pure, Result.andThen_ok, List.map_toArray, List.map_cons, List.map_nil, hs, hx, hr]
  exact hK _ _ (h v' w' h2 h3 h4)
/-- A row: the value that names it, and what it holds. -/
structure Row where
  e : TypeId
  k : Nat
  v : Value
  n : Nat
  xs : List Value
/-- Rows side by side. -/
structure Fam {ι : Type} (B : Nat) (f : ι → Row) (W : World) : Prop where
  own : ∀ i, W.ownsRow B (f i).e (f i).k (f i).v (f i).n (f i).xs
  apart : ∀ i j g, (f i).v.ownBlock = some g → (f j).v.ownBlock = some g → i = j
/-- What stands when something else has grown. -/
theorem Fam.kept {ι : Type} {B : Nat} {f : ι → Row} {W W' : World} {row : Option Nat} (h : Fam B f W) (hg : W.grownBy W' row) (hr : ∀ i, (f i).v.ownBlock = none ∨ (f i).v.ownBlock ≠ row) : Fam B f W' :=
  ⟨fun i => (h.own i).kept hg (hr i), h.apart⟩
/-- What stands when one of them has grown. -/
theorem Fam.grown {ι : Type} [DecidableEq ι] {B : Nat} {f : ι → Row} {W W' : World} (h : Fam B f W) (i : ι) (r : Row) (hg : W.grownBy W' (f i).v.ownBlock) (ho : W'.ownsRow B r.e r.k r.v r.n r.xs)
    (hw : r.v.ownBlock = some W.heap.size ∨ (r.v.ownBlock = (f i).v.ownBlock ∧ (f i).v.ownBlock ≠ none)) : Fam B (fun j => if j = i then r else f j) W' := by
  have lt : ∀ j g, (f j).v.ownBlock = some g → g < W.heap.size := fun j g hj => ((h.own j).lt g hj).2
  refine ⟨fun j => ?_, fun j l g hj hl => ?_⟩
  · show W'.ownsRow B (if j = i then r else f j).e (if j = i then r else f j).k (if j = i then r else f j).v (if j = i then r else f j).n (if j = i then r else f j).xs
    by_cases e : j = i
    · rw [if_pos e]; exact ho
    · rw [if_neg e]
      refine (h.own j).kept hg ?_
      cases hb : (f j).v.ownBlock with
      | none => exact .inl rfl
      | some g => exact .inr (fun e2 => e (h.apart j i g hb e2.symm))
  · replace hj : (if j = i then r else f j).v.ownBlock = some g := hj
    replace hl : (if l = i then r else f l).v.ownBlock = some g := hl
    by_cases e : j = i <;> by_cases e2 : l = i
    · rw [e, e2]
    · rw [if_pos e] at hj
      rw [if_neg e2] at hl
      rcases hw with hw | ⟨hw, _⟩
      · rw [hw] at hj; cases hj; exact absurd (lt l _ hl) (Nat.lt_irrefl _)
      · rw [hw] at hj; exact absurd (h.apart l i g hl hj) e2
    · rw [if_neg e] at hj
      rw [if_pos e2] at hl
      rcases hw with hw | ⟨hw, _⟩
      · rw [hw] at hl; cases hl; exact absurd (lt j _ hj) (Nat.lt_irrefl _)
      · rw [hw] at hl; exact absurd (h.apart j i g hj hl) e
    · rw [if_neg e] at hj
      rw [if_neg e2] at hl
      exact h.apart j l g hj hl
end Go.Proofs.YtmfhpddeclggfaaGreatDoor
