import Derived.Test.YtcejmfgbfdhflaaGreatRows
import Derived.Test.YtcejmfgbfdhflaaGreatQe
import Derived.Carry
import Derived.SizedLaws
import Derived.WalkKit
import Derived.ProofKit
import Derived.OpenShut
import Derived.Lib.SmallJoins
import Derived.Deep.Slices
import Derived.Deep.Strs
namespace Go.Proofs.YtcejmfgbfdhflaaGreat
open Go Go.ChangeShapes Go.WideShapes Go.RowKit Go.Joins Go.Deep
theorem Tryz.laidOutB : laidOutB Tryz.prog = true := by kernel_rfl
theorem c90 : Tryz.prog.cellsOf 90 = 5 := by kernel_rfl
theorem c94 : Tryz.prog.cellsOf 94 = 5 := by kernel_rfl
theorem c104 : Tryz.prog.cellsOf 104 = 5 := by kernel_rfl
theorem c30 : Tryz.prog.cellsOf 30 = 2 := by kernel_rfl
theorem b90 : Tryz.prog.bytesOf 90 = 40 := by kernel_rfl
theorem b94 : Tryz.prog.bytesOf 94 = 40 := by kernel_rfl
theorem b104 : Tryz.prog.bytesOf 104 = 40 := by kernel_rfl
theorem addr_add_add (ad : Addr) (a b : Nat) : (ad.add a).add b = ad.add (a + b) := by
  unfold Addr.add
  by_cases h1 : a = 0
  · subst h1; simp
  · by_cases h2 : b = 0
    · subst h2; simp
    · simp [h1, h2, Nat.add_assoc]
theorem list5 {α : Type} {l : List α} (h : l.length = 5) : ∃ a b c d e, l = [a, b, c, d, e] := by
  match l, h with
  | [a, b, c, d, e], _ => exact ⟨a, b, c, d, e, rfl⟩
theorem choose_list {α : Type} {P : Nat → α → Prop} : ∀ {n : Nat}, (∀ i, i < n → ∃ q, P i q) → ∃ l : List α, l.length = n ∧ ∀ i q, l[i]? = some q → P i q
  | 0, _ => ⟨[], rfl, fun i q h => by simp at h⟩
  | n + 1, h => by
    obtain ⟨l, hl, hp⟩ := choose_list (n := n) (P := P) (fun i hi => h i (by omega))
    obtain ⟨q, hq⟩ := h n (by omega)
    refine ⟨l ++ [q], by simp [hl], fun i u hu => ?_⟩
    by_cases hi : i < l.length
    · exact hp i u (by rwa [List.getElem?_append_left hi] at hu)
    · rw [List.getElem?_append_right (by omega)] at hu
      have hin : i = n := by
        rcases Nat.lt_or_ge (i - l.length) 1 with g | g
        · omega
        · rw [List.getElem?_eq_none (by simpa using g)] at hu; cases hu
      subst hin
      rw [hl] at hu
      obtain rfl : q = u := by simpa using hu
      exact hq
set_option maxRecDepth 100000 in
theorem span_of {H : Type} {enc : TypeId × Value → H} {W : World} {fuel : Nat} {a b : Value} {x : DataW H × List MemPlace} (h : DataW.trod enc Tryz.prog W 0 (fun _ => true) true fuel 30 [a, b] = some x) : ∃ lo hi : Int, a = .int .i64 lo ∧ b = .int .i64 hi := by
  obtain ⟨y0, y1, n, hx, hl, h0, h1⟩ := trod_struct2 Tryz.underlying30 h
  have h0' : DataW.trod enc Tryz.prog W 0 (fun _ => true) true n 3 [a] = some y0 := h0
  have h1' : DataW.trod enc Tryz.prog W 0 (fun _ => true) true n 3 [b] = some y1 := h1
  obtain ⟨u, e0, -, -⟩ := DataW.trod_int Tryz.underlying3 h0'
  obtain ⟨v, e1, -, -⟩ := DataW.trod_int Tryz.underlying3 h1'
  exact ⟨u, v, List.singleton_inj.1 e0, List.singleton_inj.1 e1⟩
set_option maxRecDepth 100000 in
theorem ch_of {H : Type} {enc : TypeId × Value → H} {W : World} {fuel : Nat} {cs : List Value} {x : DataW H × List MemPlace} (h : DataW.trod enc Tryz.prog W 0 (fun _ => true) true fuel 90 cs = some x) : ∃ c : Ch, cs = [.int .i64 c.id, .int .i64 c.year, .int .i64 c.lo, .int .i64 c.hi, .int .i64 c.wear] := by
  obtain ⟨y0, y1, y2, y3, n, hx, hl, h0, h1, h2, h3⟩ := trod_struct4 Tryz.underlying90 h
  rw [c90] at hl
  obtain ⟨x0, x1, x2, x3, x4, rfl⟩ := list5 hl
  have h0' : DataW.trod enc Tryz.prog W 0 (fun _ => true) true n 3 [x0] = some y0 := h0
  have h1' : DataW.trod enc Tryz.prog W 0 (fun _ => true) true n 3 [x1] = some y1 := h1
  have h2' : DataW.trod enc Tryz.prog W 0 (fun _ => true) true n 30 [x2, x3] = some y2 := h2
  have h3' : DataW.trod enc Tryz.prog W 0 (fun _ => true) true n 3 [x4] = some y3 := h3
  obtain ⟨u0, e0, -, -⟩ := DataW.trod_int Tryz.underlying3 h0'
  obtain ⟨u1, e1, -, -⟩ := DataW.trod_int Tryz.underlying3 h1'
  obtain ⟨u2, u3, rfl, rfl⟩ := span_of h2'
  obtain ⟨u4, e4, -, -⟩ := DataW.trod_int Tryz.underlying3 h3'
  exact ⟨⟨u0, u1, u2, u3, u4⟩, by rw [List.singleton_inj.1 e0, List.singleton_inj.1 e1, List.singleton_inj.1 e4]⟩
set_option maxRecDepth 100000 in
theorem pf_of {H : Type} {enc : TypeId × Value → H} {W : World} {fuel : Nat} {cs : List Value} {x : DataW H × List MemPlace} (h : DataW.trod enc Tryz.prog W 0 (fun _ => true) true fuel 94 cs = some x) : ∃ c : Pf, cs = [.int .i64 c.id, .int .i64 c.ch, .int .i64 c.year, .int .i64 c.lo, .int .i64 c.hi] := by
  obtain ⟨y0, y1, y2, y3, n, hx, hl, h0, h1, h2, h3⟩ := trod_struct4 Tryz.underlying94 h
  rw [c94] at hl
  obtain ⟨x0, x1, x2, x3, x4, rfl⟩ := list5 hl
  have h0' : DataW.trod enc Tryz.prog W 0 (fun _ => true) true n 3 [x0] = some y0 := h0
  have h1' : DataW.trod enc Tryz.prog W 0 (fun _ => true) true n 3 [x1] = some y1 := h1
  have h2' : DataW.trod enc Tryz.prog W 0 (fun _ => true) true n 3 [x2] = some y2 := h2
  have h3' : DataW.trod enc Tryz.prog W 0 (fun _ => true) true n 30 [x3, x4] = some y3 := h3
  obtain ⟨u0, e0, -, -⟩ := DataW.trod_int Tryz.underlying3 h0'
  obtain ⟨u1, e1, -, -⟩ := DataW.trod_int Tryz.underlying3 h1'
  obtain ⟨u2, e2, -, -⟩ := DataW.trod_int Tryz.underlying3 h2'
  obtain ⟨u3, u4, rfl, rfl⟩ := span_of h3'
  exact ⟨⟨u0, u1, u2, u3, u4⟩, by rw [List.singleton_inj.1 e0, List.singleton_inj.1 e1, List.singleton_inj.1 e2]⟩
set_option maxRecDepth 100000 in
theorem rp_of {H : Type} {enc : TypeId × Value → H} {W : World} {fuel : Nat} {cs : List Value} {x : DataW H × List MemPlace} (h : DataW.trod enc Tryz.prog W 0 (fun _ => true) true fuel 104 cs = some x) : ∃ c : Pf, cs = [.int .i64 c.id, .int .i64 c.ch, .int .i64 c.year, .int .i64 c.lo, .int .i64 c.hi] := by
  obtain ⟨y0, y1, y2, y3, n, hx, hl, h0, h1, h2, h3⟩ := trod_struct4 Tryz.underlying104 h
  rw [c104] at hl
  obtain ⟨x0, x1, x2, x3, x4, rfl⟩ := list5 hl
  have h0' : DataW.trod enc Tryz.prog W 0 (fun _ => true) true n 3 [x0] = some y0 := h0
  have h1' : DataW.trod enc Tryz.prog W 0 (fun _ => true) true n 3 [x1] = some y1 := h1
  have h2' : DataW.trod enc Tryz.prog W 0 (fun _ => true) true n 3 [x2] = some y2 := h2
  have h3' : DataW.trod enc Tryz.prog W 0 (fun _ => true) true n 30 [x3, x4] = some y3 := h3
  obtain ⟨u0, e0, -, -⟩ := DataW.trod_int Tryz.underlying3 h0'
  obtain ⟨u1, e1, -, -⟩ := DataW.trod_int Tryz.underlying3 h1'
  obtain ⟨u2, e2, -, -⟩ := DataW.trod_int Tryz.underlying3 h2'
  obtain ⟨u3, u4, rfl, rfl⟩ := span_of h3'
  exact ⟨⟨u0, u1, u2, u3, u4⟩, by rw [List.singleton_inj.1 e0, List.singleton_inj.1 e1, List.singleton_inj.1 e2]⟩
/-- Rows of five cells. -/
def FiveAt {α : Type} (f : α → List Value) (W : World) (p : Option Addr) (l : List α) : Prop :=
  l = [] ∨ ∃ b o, p = some ⟨b, o, none⟩ ∧ b < W.heap.size ∧ ∀ (j : Nat) (c : α), l[j]? = some c → ∀ i u, (f c)[i]? = some u → W.cell? ⟨b, o + (j * 5 + i), none⟩ = some u
set_option maxRecDepth 100000 in
theorem five_of {α : Type} (f : α → List Value) (h0 : ∀ c, (f c).length = 5) (t e : TypeId) (ht : Tryz.prog.underlying t = some (.slice e)) (hc5 : Tryz.prog.cellsOf e = 5) (hb40 : Tryz.prog.bytesOf e = 40) {H : Type} {enc : TypeId × Value → H} {W : World}
    (he : ∀ {fuel : Nat} {cs : List Value} {x : DataW H × List MemPlace}, DataW.trod enc Tryz.prog W 0 (fun _ => true) true fuel e cs = some x → ∃ c : α, cs = f c)
    {fuel : Nat} {v : Value} {y : DataW H × List MemPlace} (h : DataW.trod enc Tryz.prog W 0 (fun _ => true) true fuel t [v] = some y) (hr : ∀ n ∈ y.1.weights Tryz.prog t, n ≤ reachBytes) :
    ∃ (q : Option Addr) (cap : Nat) (l : List α), v = .slice q l.length cap ∧ l.length ≤ cap ∧ cap ≤ maxLen ∧ l.length ≤ 140737488355327 ∧ FiveAt f W q l := by
  rcases open_slice ht h with ⟨hcs, hx⟩ | ⟨ad, len', cap', m, n', D, Pl, hcs, _, hl, hcm, hm, hx, hi⟩
  · obtain rfl := List.singleton_inj.1 hcs
    exact ⟨none, 0, [], rfl, Nat.le_refl _, Nat.zero_le _, Nat.zero_le _, .inl rfl⟩
  · obtain rfl := List.singleton_inj.1 hcs
    simp only [if_true] at hm
    subst hm
    rw [hc5] at hi
    have each : ∀ i, i < len' → ∃ c : α, ∀ k u, (f c)[k]? = some u → W.cell? (ad.add (i * 5 + k)) = some u := by
      intro i hil
      obtain ⟨cs', hcc, ht'⟩ := hi i (by omega)
      obtain ⟨c, rfl⟩ := he ht'
      obtain ⟨_, hcl, hat⟩ := World.cells?_some hcc
      refine ⟨c, fun k u hk => ?_⟩
      have hk5 : k < 5 := by rw [← h0 c]; exact (List.getElem?_eq_some_iff.1 hk).1
      have a0 := hat k hk5
      rw [addr_add_add] at a0
      rw [a0]; exact hk
    obtain ⟨l, hll, hlp⟩ := choose_list each
    have hx1 : y.1 = DataW.slice ((List.range len').map D) ((List.range (m - len')).map fun j => D (len' + j)) := congrArg Prod.fst hx
    have h9 : (len' + (m - len')) * 40 ≤ reachBytes := hr _ (by
      rw [hx1]
      simp only [DataW.weights, ht, List.mem_cons, List.length_map, List.length_range, hb40]
      exact Or.inl trivial)
    simp only [reachBytes] at h9
    refine ⟨some ad, m, l, by rw [hll], by omega, hcm, by omega, ?_⟩
    by_cases hz : len' = 0
    · left; exact List.length_eq_zero_iff.1 (hll.trans hz)
    · obtain ⟨c0, hq0⟩ : ∃ c0, l[0]? = some c0 := ⟨_, List.getElem?_eq_getElem (by omega)⟩
      obtain ⟨u0, hu0⟩ : ∃ u0, (f c0)[0]? = some u0 := ⟨_, List.getElem?_eq_getElem (by rw [h0]; decide)⟩
      have hc0 := hlp 0 c0 hq0 0 u0 hu0
      obtain ⟨b, off, spot⟩ := ad
      have hspot : spot = none := by simpa [Addr.add] using World.cell?_spot hc0
      subst hspot
      refine .inr ⟨b, off, rfl, ?_, fun j c hj i u hu => ?_⟩
      · exact World.block_lt_of_cell? W _ hc0
      · have := hlp j c hj i u hu
        rwa [add_plain] at this
theorem five_ch {W : World} {q : Option Addr} {l : List Ch} (h : FiveAt (fun c : Ch => [.int .i64 c.id, .int .i64 c.year, .int .i64 c.lo, .int .i64 c.hi, .int .i64 c.wear]) W q l) : ChsAt W q l := by
  rcases h with h | ⟨b, o, h1, h2, h3⟩
  · exact .inl h
  · refine .inr ⟨b, o, h1, h2, fun j c hj => ?_⟩
    have k := h3 j c hj
    exact ⟨k 0 _ rfl, k 1 _ rfl, k 2 _ rfl, k 3 _ rfl, k 4 _ rfl⟩
theorem five_pf {W : World} {q : Option Addr} {l : List Pf} (h : FiveAt (fun c : Pf => [.int .i64 c.id, .int .i64 c.ch, .int .i64 c.year, .int .i64 c.lo, .int .i64 c.hi]) W q l) : PfsAt W q l := by
  rcases h with h | ⟨b, o, h1, h2, h3⟩
  · exact .inl h
  · refine .inr ⟨b, o, h1, h2, fun j c hj => ?_⟩
    have k := h3 j c hj
    exact ⟨k 0 _ rfl, k 1 _ rfl, k 2 _ rfl, k 3 _ rfl, k 4 _ rfl⟩
set_option maxRecDepth 100000 in
/-- Works among the arguments. -/
theorem read_works {H : Type} {enc : TypeId × Value → H} {W : World} {base : Nat} {v : Value} {d : DataW H} {p : List MemPlace} (hv : Value.okWide Tryz.prog W .any base 26 v) (h : DataW.Trod enc Tryz.prog W 0 (fun _ => true) true 26 v d p) (hr : ∀ n ∈ d.weights Tryz.prog 26, n ≤ reachBytes) :
    ∃ x : WA, v = x.v ∧ x.cs.length ≤ 140737488355327 ∧ x.ps.length ≤ 140737488355327 ∧ x.rs.length ≤ 140737488355327 ∧ (x.cs.length ≤ 1000 → x.ps.length ≤ 1000 → x.rs.length ≤ 1000 → x.At W) := by
  obtain ⟨v0, v1, v2, y0, y1, y2, n, rfl, rfl, rfl, h0, h1, h2⟩ := open_agg3 Tryz.underlying26 (by kernel_rfl) (by kernel_rfl) hv h
  have hr0 : ∀ n ∈ y0.1.weights Tryz.prog 22, n ≤ reachBytes := fun n hn => hr n (by
    simp only [DataW.weights, Tryz.underlying26]
    exact DataW.weights_mem_each (j := 0) (t := 22) rfl rfl _ hn)
  have hr1 : ∀ n ∈ y1.1.weights Tryz.prog 23, n ≤ reachBytes := fun n hn => hr n (by
    simp only [DataW.weights, Tryz.underlying26]
    exact DataW.weights_mem_each (j := 1) (t := 23) rfl rfl _ hn)
  have hr2 : ∀ n ∈ y2.1.weights Tryz.prog 24, n ≤ reachBytes := fun n hn => hr n (by
    simp only [DataW.weights, Tryz.underlying26]
    exact DataW.weights_mem_each (j := 2) (t := 24) rfl rfl _ hn)
  obtain ⟨q1, c1, cs, rfl, a1, a2, a3, a4⟩ := five_of (fun c : Ch => [.int .i64 c.id, .int .i64 c.year, .int .i64 c.lo, .int .i64 c.hi, .int .i64 c.wear]) (fun _ => rfl) 22 90 Tryz.underlying22 c90 b90 (fun h => ch_of h) h0 hr0
  obtain ⟨q2, c2, ps, rfl, b1, b2, b3, b4⟩ := five_of (fun c : Pf => [.int .i64 c.id, .int .i64 c.ch, .int .i64 c.year, .int .i64 c.lo, .int .i64 c.hi]) (fun _ => rfl) 23 94 Tryz.underlying23 c94 b94 (fun h => pf_of h) h1 hr1
  obtain ⟨q3, c3, rs, rfl, d1, d2, d3, d4⟩ := five_of (fun c : Pf => [.int .i64 c.id, .int .i64 c.ch, .int .i64 c.year, .int .i64 c.lo, .int .i64 c.hi]) (fun _ => rfl) 24 104 Tryz.underlying24 c104 b104 (fun h => rp_of h) h2 hr2
  exact ⟨⟨cs, ps, rs, q1, q2, q3, c1, c2, c3⟩, rfl, a3, b3, d3, fun e1 e2 e3 => ⟨five_ch a4, five_pf b4, five_pf d4, e1, e2, e3, a1, b1, d1, a2, b2, d2⟩⟩
theorem Tryz.ownK3 : ownKnob Tryz.prog.godebug = none := by kernel_rfl
theorem and_mk {a b : Bool} (h : a = true) (k : b = true) : (a && b) = true := by rw [h, k]; rfl
end Go.Proofs.YtcejmfgbfdhflaaGreat
