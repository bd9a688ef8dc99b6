import Derived.Test.YtcejmfgbfdhflaaGreatJa
import Derived.Test.YtcejmfgbfdhflaaGreatJb
import Derived.Test.YtcejmfgbfdhflaaGreatJc
import Derived.Test.YtcejmfgbfdhflaaGreatJd
import Derived.Test.YtcejmfgbfdhflaaGreatRows
import Derived.Test.YtcejmfgbfdhflaaGreatJx
import Derived.Test.YtcejmfgbfdhflaaGreatFm
import Derived.Test.YtcejmfgbfdhflaaGreatJr
import Derived.Carry
import Derived.SizedLaws
import Derived.WalkKit
import Derived.ProofKit
import Derived.OpenShut
import Derived.Lib.SmallJoins
import Derived.Deep.Slices
import Derived.Deep.Strs
namespace Go.Proofs.YtcejmfgbfdhflaaGreat
open Go Go.ChangeShapes Go.WideShapes Go.RowKit Go.Joins Go.Deep
theorem Tryz.ownKspans : ownKnob Tryz.prog.godebug = none := by kernel_rfl
set_option maxRecDepth 100000 in
theorem spans_lifted (os : Os) (started : os.Started) (H : Type) (enc : TypeId × Value → H) :
    ReturnsInHanded {} Tryz.checked os 8 .any (Rows.chainageSpansSpec.pre6 enc Tryz.prog Tryz.f8 Rows.chainageSpansRow.domain false) (Rows.chainageSpansSpec.post enc Tryz.prog Tryz.f8 false true false false) := by
  refine returnsInHanded_of_change_sized (C := Tryz.checked) Tryz.ownKspans started (by kernel_rfl) Tryz.func8
    (ChangeSpec.witness6 (enc := enc) (C := Tryz.checked) false ⟨#[], #[.agg #[.slice none 0 0, .slice none 0 0, .slice none 0 0], .int .i64 0, .agg #[.int .i64 0, .int .i64 0]], []⟩ 8 (by kernel_rfl) (by kernel_rfl) (by kernel_rfl) (by kernel_rfl)) ?_
  intro W base args ds gs before hval0 hW _ hsz0 _
  have hsz : (DataW.weightsEach Tryz.prog (Tryz.f8.params.toList ++ Rows.chainageSpansSpec.plain.varTypes Tryz.prog) (ds ++ gs)).all (· ≤ reachBytes) = true := hsz0
  clear hsz0
  have hval : ∀ (j : Nat) t v, Tryz.f8.params[j]? = some t → args[j]? = some v → Value.okWide Tryz.prog W .any base t v := hval0
  have hW' := hW
  obtain ⟨p, q, hA0, hV, rfl, hfz, hnd⟩ := hW
  have hA : DataW.TrodAll enc Tryz.prog W 0 (fun _ => true) true Tryz.f8.params.toList args.toList ds p := hA0
  rw [Tryz.params8] at hA hval hsz
  obtain ⟨v0, vs0, d0, ds0, p0, q0, hargs, rfl, rfl, h0, r0⟩ := trodAll_cons hA
  obtain ⟨v1, vs1, d1, ds1, p1, q1, rfl, rfl, rfl, h1, r1⟩ := trodAll_cons r0
  obtain ⟨v2, vs2, d2, ds2, p2, q2, rfl, rfl, rfl, h2, r2⟩ := trodAll_cons r1
  obtain ⟨rfl, rfl, rfl⟩ := trodAll_nil r2
  obtain rfl : args = #[v0, v1, v2] := by cases args; simp_all
  obtain ⟨rfl, rfl⟩ := trodVars_none hV
  have hlt : ∀ x ∈ p0 ++ (p1 ++ (p2 ++ [])), x.block < W.heap.size := fun x hx => hW'.lt x (by simpa using hx)
  have k0 := h0
  have l0 : ∀ x ∈ p0, x.block < W.heap.size := fun x hx => hlt x (by simp [hx])
  have k1 := h1
  have l1 : ∀ x ∈ p1, x.block < W.heap.size := fun x hx => hlt x (by simp [hx])
  have k2 := h2
  have l2 : ∀ x ∈ p2, x.block < W.heap.size := fun x hx => hlt x (by simp [hx])
  have hr0 : ∀ n ∈ d0.weights Tryz.prog 26, n ≤ reachBytes := fun n hn => of_decide_eq_true (List.all_eq_true.1 hsz _ (DataW.weights_mem_each (j := 0) (t := 26) rfl rfl _ hn))
  obtain ⟨a0, rfl, b0, c0, e0, g0⟩ := read_works (hval 0 26 v0 rfl rfl) h0 hr0
  obtain ⟨a1, rfl, rfl, _, w1⟩ := open_int Tryz.underlying3 (hval 1 3 v1 rfl rfl) h1
  obtain ⟨a2, b2, rfl, -, -⟩ := read_span (hval 2 30 v2 rfl rfl) h2
  clear hA0 hval0
  refine (chainageSpans_law a0 a1 a2 b2 W b0 c0 e0 (fun hf => by have := few_iff.1 hf; exact g0 (by omega) (by omega) (by omega))).mono fun e W' ⟨he, hg⟩ => ?_
  subst he
  refine ⟨_, rfl, _, _, _, [], p0 ++ (p1 ++ (p2 ++ [])), [], hW', ?_, ?_, ?_, hg.frame _, fun h => by cases h⟩
  · exact trodAll_mk1 (shut_bool Tryz.underlying4 true)
  · exact (trodAll_cons_mk (Below.trod Tryz.laidOutB (by kernel_rfl) (of_decide_eq_true (by kernel_rfl)) k0 hg l0) (trodAll_cons_mk (Below.trod Tryz.laidOutB (by kernel_rfl) (of_decide_eq_true (by kernel_rfl)) k1 hg l1) (trodAll_cons_mk (Below.trod Tryz.laidOutB (by kernel_rfl) (of_decide_eq_true (by kernel_rfl)) k2 hg l2) trodAll_mk0)))
  · rfl
/-! Closed facts of the row. -/
theorem spans_c1 : Tryz.pinned.checked.prog.funcNamed Rows.chainageSpansRow.func = some 8 := by kernel_rfl
theorem spans_make (x) (h : x = Rows.chainageSpansRow.make) : (Tryz.pinned.checked.prog.make == some x) = true := by rw [h]; exact jf_make0
set_option maxHeartbeats 100000000 in
theorem spans_c2 : joinedFacts Tryz.pinned.checked.prog 8 Tryz.f8 Rows.chainageSpansSpec Rows.chainageSpansRow = true := by
  unfold joinedFacts
  repeat' (with_reducible apply and_mk)
  all_goals first
  | with_reducible exact jf_laid
  | with_reducible exact jf_stops
  | with_reducible exact jf_enter
  | (with_reducible refine jf_lift _ ?_; kernel_rfl)
  | (with_reducible refine spans_make _ ?_; kernel_rfl)
  | (as_aux_lemma => kernel_rfl)
theorem spans_c3 : Tryz.f8.isInstance Tryz.pinned.checked.prog Rows.chainageSpansRow.origin Rows.chainageSpansRow.targs := of_decide_eq_true (by kernel_rfl)
theorem spans_c4 : Tryz.f8.isWrapper Tryz.pinned.checked.prog Rows.chainageSpansRow.wrapper Rows.chainageSpansRow.mainSum := by
  unfold Func.isWrapper; first | (rw [if_pos (by decide +kernel)]; kernel_rfl) | (rw [if_neg (by decide +kernel)]; exact ⟨rfl, rfl⟩)
/-- ChainageSpans: for all works of at most 40 chains and 30 proofs and repairs, a chain and a span of years, Shortest and Longest return what the specification returns. No condition. -/
theorem chainageSpans_holds : Rows.ChainageSpansSaid :=
  OpenClaim.holds_of_wide 8 Tryz.f8 rfl rfl rfl rfl rfl rfl rfl ⟨rfl, rfl, rfl, rfl, rfl⟩ rfl rfl rfl rfl rfl spans_c1 Tryz.func8 spans_c2 spans_c3 spans_c4
    (fun os started H enc _ => spans_lifted os started H enc)
end Go.Proofs.YtcejmfgbfdhflaaGreat
