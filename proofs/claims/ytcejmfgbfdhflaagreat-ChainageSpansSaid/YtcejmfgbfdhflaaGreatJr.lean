import Derived.Test.YtcejmfgbfdhflaaGreatDs
import Derived.Test.YtcejmfgbfdhflaaGreatEb
import Derived.Carry
import Derived.SizedLaws
import Derived.WalkKit
import Derived.ProofKit
import Derived.OpenShut
import Derived.Lib.SmallJoins
import Derived.Deep.Slices
import Derived.Deep.Strs
namespace Go.Proofs.YtcejmfgbfdhflaaGreat
open Go Go.ChangeShapes Go.WideShapes Go.RowKit Go.Joins Go.Deep
theorem c73 : Tryz.prog.cellsOf 73 = 5 := by kernel_rfl
theorem b73 : Tryz.prog.bytesOf 73 = 40 := by kernel_rfl
set_option maxRecDepth 100000 in
theorem ms_of {H : Type} {enc : TypeId × Value → H} {W : World} {fuel : Nat} {cs : List Value} {x : DataW H × List MemPlace} (h : DataW.trod enc Tryz.prog W 0 (fun _ => true) true fuel 73 cs = some x) :
    ∃ m : Ms, cs = [.int .i64 m.ch, .int .i64 m.year, .int .i64 m.chains, .int .i64 m.links, .int .i64 m.slack] := by
  obtain ⟨xs, n, _, rfl, hl, hlen, hf⟩ := DataW.trod_struct Tryz.underlying73 h
  rw [c73] at hl
  obtain ⟨x0, x1, x2, x3, x4, rfl⟩ := list5 hl
  obtain ⟨y0, y1, y2, y3, y4, rfl⟩ := list5 (l := xs) hlen
  have h0 : DataW.trod enc Tryz.prog W 0 (fun _ => true) true n 3 [x0] = some y0 := hf 0 _ rfl
  have h1 : DataW.trod enc Tryz.prog W 0 (fun _ => true) true n 3 [x1] = some y1 := hf 1 _ rfl
  have h2 : DataW.trod enc Tryz.prog W 0 (fun _ => true) true n 3 [x2] = some y2 := hf 2 _ rfl
  have h3 : DataW.trod enc Tryz.prog W 0 (fun _ => true) true n 3 [x3] = some y3 := hf 3 _ rfl
  have h4 : DataW.trod enc Tryz.prog W 0 (fun _ => true) true n 3 [x4] = some y4 := hf 4 _ rfl
  obtain ⟨u0, e0, -, -⟩ := DataW.trod_int Tryz.underlying3 h0
  obtain ⟨u1, e1, -, -⟩ := DataW.trod_int Tryz.underlying3 h1
  obtain ⟨u2, e2, -, -⟩ := DataW.trod_int Tryz.underlying3 h2
  obtain ⟨u3, e3, -, -⟩ := DataW.trod_int Tryz.underlying3 h3
  obtain ⟨u4, e4, -, -⟩ := DataW.trod_int Tryz.underlying3 h4
  exact ⟨⟨u0, u1, u2, u3, u4⟩, by rw [List.singleton_inj.1 e0, List.singleton_inj.1 e1, List.singleton_inj.1 e2, List.singleton_inj.1 e3, List.singleton_inj.1 e4]⟩
theorem five_ms {W : World} {q : Option Addr} {l : List Ms} (h : FiveAt (fun c : Ms => [.int .i64 c.ch, .int .i64 c.year, .int .i64 c.chains, .int .i64 c.links, .int .i64 c.slack]) W q l) : MssAt W q l := by
  rcases h with h | ⟨b, o, h1, h2, h3⟩
  · exact .inl h
  · refine .inr ⟨b, o, h1, h2, fun j c hj => ?_⟩
    have k := h3 j c hj
    exact ⟨k 0 _ rfl, k 1 _ rfl, k 2 _ rfl, k 3 _ rfl, k 4 _ rfl⟩
set_option maxRecDepth 100000 in
/-- Measures among the arguments. -/
theorem read_mss {H : Type} {enc : TypeId × Value → H} {W : World} {base : Nat} {v : Value} {d : DataW H} {p : List MemPlace} (hv : Value.okWide Tryz.prog W .any base 69 v) (h : DataW.Trod enc Tryz.prog W 0 (fun _ => true) true 69 v d p) (hr : ∀ n ∈ d.weights Tryz.prog 69, n ≤ reachBytes) :
    ∃ (q : Option Addr) (cap : Nat) (l : List Ms), v = .slice q l.length cap ∧ l.length ≤ cap ∧ cap ≤ maxLen ∧ l.length ≤ 140737488355327 ∧ MssAt W q l := by
  obtain ⟨q0, n0, c0, rfl⟩ := okWide_slice Tryz.underlying69 hv
  obtain ⟨fuel, hf⟩ := h
  obtain ⟨q, cap, l, h1, h2, h3, h4, h5⟩ := five_of (fun c : Ms => [.int .i64 c.ch, .int .i64 c.year, .int .i64 c.chains, .int .i64 c.links, .int .i64 c.slack]) (fun _ => rfl) 69 73 Tryz.underlying69 c73 b73 (fun h => ms_of h) (v := .slice q0 n0 c0) hf hr
  exact ⟨q, cap, l, h1, h2, h3, h4, five_ms h5⟩
set_option maxRecDepth 100000 in
/-- A measure among the arguments. -/
theorem read_ms {H : Type} {enc : TypeId × Value → H} {W : World} {base : Nat} {v : Value} {d : DataW H} {p : List MemPlace} (hv : Value.okWide Tryz.prog W .any base 73 v) (h : DataW.Trod enc Tryz.prog W 0 (fun _ => true) true 73 v d p) : ∃ m : Ms, v = m.v := by
  obtain ⟨cs, rfl, hsz⟩ := okWide_struct Tryz.underlying73 hv
  obtain ⟨fuel, hf⟩ := h
  obtain ⟨m, hm⟩ := ms_of hf
  refine ⟨m, ?_⟩
  have e : cs.toList = [.int .i64 m.ch, .int .i64 m.year, .int .i64 m.chains, .int .i64 m.links, .int .i64 m.slack] := by simpa [Value.cells] using hm
  obtain ⟨l⟩ := cs
  rw [show l = _ from e]
set_option maxRecDepth 100000 in
/-- A span among the arguments. -/
theorem read_span {H : Type} {enc : TypeId × Value → H} {W : World} {base : Nat} {v : Value} {d : DataW H} {p : List MemPlace} (hv : Value.okWide Tryz.prog W .any base 30 v) (h : DataW.Trod enc Tryz.prog W 0 (fun _ => true) true 30 v d p) : ∃ lo hi : Int, v = spv lo hi ∧ (-9223372036854775808 ≤ lo ∧ lo ≤ 9223372036854775807) ∧ (-9223372036854775808 ≤ hi ∧ hi ≤ 9223372036854775807) := by
  obtain ⟨v0, v1, y0, y1, n, rfl, rfl, rfl, h0, h1⟩ := open_agg2 Tryz.underlying30 (by kernel_rfl) (by kernel_rfl) hv h
  have h0' : DataW.trod enc Tryz.prog W 0 (fun _ => true) true n 3 [v0] = some y0 := h0
  have h1' : DataW.trod enc Tryz.prog W 0 (fun _ => true) true n 3 [v1] = some y1 := h1
  obtain ⟨u, e0, -, a0⟩ := DataW.trod_int Tryz.underlying3 h0'
  obtain ⟨u', e1, -, a1⟩ := DataW.trod_int Tryz.underlying3 h1'
  refine ⟨u, u', by rw [List.singleton_inj.1 e0, List.singleton_inj.1 e1], ?_, ?_⟩
  · exact bounds_i64 a0
  · exact bounds_i64 a1
end Go.Proofs.YtcejmfgbfdhflaaGreat
