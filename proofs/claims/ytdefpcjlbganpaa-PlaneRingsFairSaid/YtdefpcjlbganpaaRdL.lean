import Derived.Test.YtdefpcjlbganpaaRows
import Derived.Test.YtdefpcjlbganpaaRd
import Derived.Carry
import Derived.SizedLaws
import Derived.WalkKit
import Derived.ProofKit
import Derived.OpenShut
import Derived.Lib.SmallJoins
import Derived.Deep.Slices
namespace Go.Proofs.Ytdefpcjlbganpaa
open Go Go.ChangeShapes Go.WideShapes Go.RowKit Go.Joins Go.Deep
theorem Try.laidOutB : laidOutB Try.prog = true := by kernel_rfl
theorem Try.bytesOf23 : Try.prog.bytesOf 23 = 16 := by kernel_rfl
theorem Try.cellsOf23 : Try.prog.cellsOf 23 = 2 := by kernel_rfl
theorem choose_list {α : Type} {P : Nat → α → Prop} : ∀ {n : Nat}, (∀ i, i < n → ∃ q, P i q) → ∃ l : List α, l.length = n ∧ ∀ i q, l[i]? = some q → P i q
  | 0, _ => ⟨[], rfl, fun i q h => by simp at h⟩
  | n + 1, h => by
    obtain ⟨l, hl, hp⟩ := choose_list (n := n) (P := P) (fun i hi => h i (by omega))
    obtain ⟨q, hq⟩ := h n (by omega)
    refine ⟨l ++ [q], by simp [hl], fun i u hu => ?_⟩
    by_cases hi : i < l.length
    · exact hp i u (by rwa [List.getElem?_append_left hi] at hu)
    · rw [List.getElem?_append_right (by omega)] at hu
      have hin : i = n := by
        rcases Nat.lt_or_ge (i - l.length) 1 with g | g
        · omega
        · rw [List.getElem?_eq_none (by simpa using g)] at hu; cases hu
      subst hin
      rw [hl] at hu
      obtain rfl : q = u := by simpa using hu
      exact hq
set_option maxRecDepth 100000 in
/-- A list of points among the arguments. -/
theorem read_pts {H : Type} {enc : TypeId × Value → H} {W : World} {a : Option Addr} {len cap : Nat} {d : DataW H} {p : List MemPlace} (h : DataW.Trod enc Try.prog W 0 (fun _ => true) true 35 (.slice a len cap) d p) (hlt : ∀ x ∈ p, x.block < W.heap.size) :
    ∃ l : List Pt, l.length = len ∧ PtsAt W a l ∧ (len = 0 ∨ ∃ es sp, d = .slice es sp ∧ es.length = len) := by
  obtain ⟨fuel, hf⟩ := h
  rcases open_slice Try.underlying35 hf with ⟨hcs, hx⟩ | ⟨ad, len', cap', m, n, D, Pl, hcs, _, hl, _, hm, hx, hi⟩
  · simp [Value.cells] at hcs
    obtain ⟨rfl, rfl, rfl⟩ := hcs
    exact ⟨[], rfl, .inl rfl, .inl rfl⟩
  · simp [Value.cells] at hcs
    obtain ⟨rfl, rfl, rfl⟩ := hcs
    simp only [if_true] at hm
    subst hm
    simp only [Prod.mk.injEq] at hx
    obtain ⟨rfl, rfl⟩ := hx
    rw [Try.cellsOf23] at hi
    have each : ∀ i, i < len → ∃ q : Pt, W.cell? (ad.add (i * 2)) = some (.int .i64 q.x) ∧ W.cell? ((ad.add (i * 2)).add 1) = some (.int .i64 q.y) := by
      intro i hil
      obtain ⟨cs', hc, ht'⟩ := hi i (by omega)
      obtain ⟨q, hq, _, _⟩ := flat_pt ht'
      obtain ⟨_, hcl, hat⟩ := World.cells?_some hc
      subst hq
      refine ⟨q, ?_, ?_⟩
      · have := hat 0 (by omega)
        simpa [Addr.add] using this
      · exact hat 1 (by omega)
    obtain ⟨l, hll, hlp⟩ := choose_list each
    refine ⟨l, hll, ?_, .inr ⟨_, _, rfl, by simp⟩⟩
    by_cases h0 : len = 0
    · left; exact List.length_eq_zero_iff.1 (hll.trans h0)
    · obtain ⟨b, off, spot⟩ := ad
      obtain ⟨q0, hq0, _⟩ := each 0 (by omega)
      have hspot : spot = none := by simpa [Addr.add] using World.cell?_spot hq0
      subst hspot
      refine .inr ⟨b, off, rfl, ?_, fun j q hq => ?_⟩
      · exact World.block_lt_of_cell? W _ hq0
      · obtain ⟨h1, h2⟩ := hlp j q hq
        rw [add_plain] at h1
        rw [add_plain, add_plain] at h2
        exact ⟨h1, h2⟩
end Go.Proofs.Ytdefpcjlbganpaa
