import Derived.Test.YtcejmfgbfdhflaaGreatJa
import Derived.Test.YtcejmfgbfdhflaaGreatJb
import Derived.Test.YtcejmfgbfdhflaaGreatJc
import Derived.Test.YtcejmfgbfdhflaaGreatJd
import Derived.Test.YtcejmfgbfdhflaaGreatRows
import Derived.Test.YtcejmfgbfdhflaaGreatJx
import Derived.Test.YtcejmfgbfdhflaaGreatEp
import Derived.Test.YtcejmfgbfdhflaaGreatJr
import Derived.Carry
import Derived.SizedLaws
import Derived.WalkKit
import Derived.ProofKit
import Derived.OpenShut
import Derived.Lib.SmallJoins
import Derived.Deep.Slices
import Derived.Deep.Strs
namespace Go.Proofs.YtcejmfgbfdhflaaGreat
open Go Go.ChangeShapes Go.WideShapes Go.RowKit Go.Joins Go.Deep
theorem Tryz.ownKmea : ownKnob Tryz.prog.godebug = none := by kernel_rfl
set_option maxRecDepth 100000 in
theorem mea_lifted (os : Os) (started : os.Started) (H : Type) (enc : TypeId × Value → H) :
    ReturnsInHanded {} Tryz.checked os 9 .any (Rows.chainageMeasuresSpec.pre6 enc Tryz.prog Tryz.f9 Rows.chainageMeasuresRow.domain false) (Rows.chainageMeasuresSpec.post enc Tryz.prog Tryz.f9 false true false false) := by
  refine returnsInHanded_of_change_sized (C := Tryz.checked) Tryz.ownKmea started (by kernel_rfl) Tryz.func9
    (ChangeSpec.witness6 (enc := enc) (C := Tryz.checked) false ⟨#[], #[.agg #[.slice none 0 0, .slice none 0 0, .slice none 0 0], .slice none 0 0, .slice none 0 0], []⟩ 8 (by kernel_rfl) (by kernel_rfl) (by kernel_rfl) (by kernel_rfl)) ?_
  intro W base args ds gs before hval0 hW _ hsz0 _
  have hsz : (DataW.weightsEach Tryz.prog (Tryz.f9.params.toList ++ Rows.chainageMeasuresSpec.plain.varTypes Tryz.prog) (ds ++ gs)).all (· ≤ reachBytes) = true := hsz0
  clear hsz0
  have hval : ∀ (j : Nat) t v, Tryz.f9.params[j]? = some t → args[j]? = some v → Value.okWide Tryz.prog W .any base t v := hval0
  have hW' := hW
  obtain ⟨p, q, hA0, hV, rfl, hfz, hnd⟩ := hW
  have hA : DataW.TrodAll enc Tryz.prog W 0 (fun _ => true) true Tryz.f9.params.toList args.toList ds p := hA0
  rw [Tryz.params9] at hA hval hsz
  obtain ⟨v0, vs0, d0, ds0, p0, q0, hargs, rfl, rfl, h0, r0⟩ := trodAll_cons hA
  obtain ⟨v1, vs1, d1, ds1, p1, q1, rfl, rfl, rfl, h1, r1⟩ := trodAll_cons r0
  obtain ⟨v2, vs2, d2, ds2, p2, q2, rfl, rfl, rfl, h2, r2⟩ := trodAll_cons r1
  obtain ⟨rfl, rfl, rfl⟩ := trodAll_nil r2
  obtain rfl : args = #[v0, v1, v2] := by cases args; simp_all
  obtain ⟨rfl, rfl⟩ := trodVars_none hV
  have hlt : ∀ x ∈ p0 ++ (p1 ++ (p2 ++ [])), x.block < W.heap.size := fun x hx => hW'.lt x (by simpa using hx)
  have k0 := h0
  have l0 : ∀ x ∈ p0, x.block < W.heap.size := fun x hx => hlt x (by simp [hx])
  have k1 := h1
  have l1 : ∀ x ∈ p1, x.block < W.heap.size := fun x hx => hlt x (by simp [hx])
  have k2 := h2
  have l2 : ∀ x ∈ p2, x.block < W.heap.size := fun x hx => hlt x (by simp [hx])
  have hr0 : ∀ n ∈ d0.weights Tryz.prog 26, n ≤ reachBytes := fun n hn => of_decide_eq_true (List.all_eq_true.1 hsz _ (DataW.weights_mem_each (j := 0) (t := 26) rfl rfl _ hn))
  obtain ⟨a0, rfl, b0, c0, e0, g0⟩ := read_works (hval 0 26 v0 rfl rfl) h0 hr0
  have hr1 : ∀ n ∈ d1.weights Tryz.prog 69, n ≤ reachBytes := fun n hn => of_decide_eq_true (List.all_eq_true.1 hsz _ (DataW.weights_mem_each (j := 1) (t := 69) rfl rfl _ hn))
  obtain ⟨q1, c1, a1, rfl, e1, f1, b1, g1⟩ := read_mss (hval 1 69 v1 rfl rfl) h1 hr1
  have hr2 : ∀ n ∈ d2.weights Tryz.prog 69, n ≤ reachBytes := fun n hn => of_decide_eq_true (List.all_eq_true.1 hsz _ (DataW.weights_mem_each (j := 2) (t := 69) rfl rfl _ hn))
  obtain ⟨q2, c2, a2, rfl, e2, f2, b2, g2⟩ := read_mss (hval 2 69 v2 rfl rfl) h2 hr2
  clear hA0 hval0
  refine (chainageMeasures_law a0 q1 q2 c1 c2 a1 a2 W b0 c0 e0 (fun hf => by have := few_iff.1 hf; exact g0 (by omega) (by omega) (by omega)) b1 b2 g1 g2).mono fun e W' ⟨he, hg⟩ => ?_
  subst he
  refine ⟨_, rfl, _, _, _, [], p0 ++ (p1 ++ (p2 ++ [])), [], hW', ?_, ?_, ?_, hg.frame _, fun h => by cases h⟩
  · exact trodAll_mk1 (shut_bool Tryz.underlying4 true)
  · exact (trodAll_cons_mk (Below.trod Tryz.laidOutB (by kernel_rfl) (of_decide_eq_true (by kernel_rfl)) k0 hg l0) (trodAll_cons_mk (Below.trod Tryz.laidOutB (by kernel_rfl) (of_decide_eq_true (by kernel_rfl)) k1 hg l1) (trodAll_cons_mk (Below.trod Tryz.laidOutB (by kernel_rfl) (of_decide_eq_true (by kernel_rfl)) k2 hg l2) trodAll_mk0)))
  · rfl
/-! Closed facts of the row. -/
theorem mea_c1 : Tryz.pinned.checked.prog.funcNamed Rows.chainageMeasuresRow.func = some 9 := by kernel_rfl
theorem mea_make (x) (h : x = Rows.chainageMeasuresRow.make) : (Tryz.pinned.checked.prog.make == some x) = true := by rw [h]; exact jf_make0
set_option maxHeartbeats 100000000 in
theorem mea_c2 : joinedFacts Tryz.pinned.checked.prog 9 Tryz.f9 Rows.chainageMeasuresSpec Rows.chainageMeasuresRow = true := by
  unfold joinedFacts
  repeat' (with_reducible apply and_mk)
  all_goals first
  | with_reducible exact jf_laid
  | with_reducible exact jf_stops
  | with_reducible exact jf_enter
  | (with_reducible refine jf_lift _ ?_; kernel_rfl)
  | (with_reducible refine mea_make _ ?_; kernel_rfl)
  | (as_aux_lemma => kernel_rfl)
theorem mea_c3 : Tryz.f9.isInstance Tryz.pinned.checked.prog Rows.chainageMeasuresRow.origin Rows.chainageMeasuresRow.targs := of_decide_eq_true (by kernel_rfl)
theorem mea_c4 : Tryz.f9.isWrapper Tryz.pinned.checked.prog Rows.chainageMeasuresRow.wrapper Rows.chainageMeasuresRow.mainSum := by
  unfold Func.isWrapper; first | (rw [if_pos (by decide +kernel)]; kernel_rfl) | (rw [if_neg (by decide +kernel)]; exact ⟨rfl, rfl⟩)
/-- ChainageMeasures: for all works of at most 40 chains and 30 proofs and repairs, and two lists of at most 30 measures (or too many), Distance of the first one, Total and Closes return what the specification returns. No condition. -/
theorem chainageMeasures_holds : Rows.ChainageMeasuresSaid :=
  OpenClaim.holds_of_wide 9 Tryz.f9 rfl rfl rfl rfl rfl rfl rfl ⟨rfl, rfl, rfl, rfl, rfl⟩ rfl rfl rfl rfl rfl mea_c1 Tryz.func9 mea_c2 mea_c3 mea_c4
    (fun os started H enc _ => mea_lifted os started H enc)
end Go.Proofs.YtcejmfgbfdhflaaGreat
