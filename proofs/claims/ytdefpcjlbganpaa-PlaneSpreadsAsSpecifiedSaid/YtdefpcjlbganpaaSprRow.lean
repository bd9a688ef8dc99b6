/-
  The statement PlaneSpreadsAsSpecified is proved: the law of spreads returns true for all boxes. No condition.
-/
import Derived.Test.YtdefpcjlbganpaaRdL
import Derived.Test.YtdefpcjlbganpaaSprLaw2
import Derived.Test.YtdefpcjlbganpaaJF
import Derived.WalkKit
import Derived.ProofKit
import Derived.OpenShut
import Derived.Lib.SmallJoins
namespace Go.Proofs.Ytdefpcjlbganpaa
open Go Go.ChangeShapes Go.WideShapes Go.RowKit Go.Joins Go.Deep
theorem Try.ownKsprs : ownKnob Try.prog.godebug = none := by kernel_rfl
set_option maxRecDepth 100000 in
theorem sprs_lifted (os : Os) (started : os.Started) (H : Type) (enc : TypeId × Value → H) :
    ReturnsInHanded {} Try.checked os 8 .any (Rows.planeSpreadsAsSpecifiedSpec.pre6 enc Try.prog Try.f8 Rows.planeSpreadsAsSpecifiedRow.domain false) (Rows.planeSpreadsAsSpecifiedSpec.post enc Try.prog Try.f8 false true false false) := by
  refine returnsInHanded_of_change_sized (C := Try.checked) Try.ownKsprs started (by kernel_rfl) Try.func8
    (ChangeSpec.witness6 (enc := enc) (C := Try.checked) false ⟨#[], #[.agg #[.int .i64 0, .int .i64 0, .int .i64 0, .int .i64 0], .agg #[.int .i64 0, .int .i64 0, .int .i64 0, .int .i64 0], .agg #[.int .i64 0, .int .i64 0, .int .i64 0, .int .i64 0]], []⟩ 8 (by kernel_rfl) (by kernel_rfl) (by kernel_rfl) (by kernel_rfl)) ?_
  intro W base args ds gs before hval0 hW _ hsz0 _
  have hsz : (DataW.weightsEach Try.prog (Try.f8.params.toList ++ Rows.planeSpreadsAsSpecifiedSpec.plain.varTypes Try.prog) (ds ++ gs)).all (· ≤ reachBytes) = true := hsz0
  clear hsz0
  have hval : ∀ (j : Nat) t v, Try.f8.params[j]? = some t → args[j]? = some v → Value.okWide Try.prog W .any base t v := hval0
  have hW' := hW
  obtain ⟨p, q, hA0, hV, rfl, hfz, hnd⟩ := hW
  have hA : DataW.TrodAll enc Try.prog W 0 (fun _ => true) true Try.f8.params.toList args.toList ds p := hA0
  rw [Try.params8] at hA hval hsz
  obtain ⟨v0, vs0, d0, ds0, p0, q0, hargs, rfl, rfl, h0, r0⟩ := trodAll_cons hA
  obtain ⟨v1, vs1, d1, ds1, p1, q1, rfl, rfl, rfl, h1, r1⟩ := trodAll_cons r0
  obtain ⟨v2, vs2, d2, ds2, p2, q2, rfl, rfl, rfl, h2, r2⟩ := trodAll_cons r1
  obtain ⟨rfl, rfl, rfl⟩ := trodAll_nil r2
  obtain rfl : args = #[v0, v1, v2] := by cases args; simp_all
  obtain ⟨rfl, rfl⟩ := trodVars_none hV
  have hlt : ∀ x ∈ p0 ++ (p1 ++ (p2 ++ [])), x.block < W.heap.size := fun x hx => hW'.lt x (by simpa using hx)
  have k0 := h0
  have l0 : ∀ x ∈ p0, x.block < W.heap.size := fun x hx => hlt x (by simp [hx])
  have k1 := h1
  have l1 : ∀ x ∈ p1, x.block < W.heap.size := fun x hx => hlt x (by simp [hx])
  have k2 := h2
  have l2 : ∀ x ∈ p2, x.block < W.heap.size := fun x hx => hlt x (by simp [hx])
  obtain ⟨a0, rfl, _, _⟩ := read_bx (hval 0 60 v0 rfl rfl) h0
  obtain ⟨a1, rfl, _, _⟩ := read_bx (hval 1 60 v1 rfl rfl) h1
  obtain ⟨a2, rfl, _, _⟩ := read_bx (hval 2 60 v2 rfl rfl) h2
  clear hA0 hval0
  refine (sprLaw a0 a1 a2 W ).mono fun e W' ⟨he, hg⟩ => ?_
  subst he
  refine ⟨_, rfl, _, _, _, [], p0 ++ (p1 ++ (p2 ++ [])), [], hW', ?_, ?_, ?_, hg.frame _, fun h => by cases h⟩
  · exact trodAll_mk1 (shut_bool Try.underlying4 true)
  · exact (trodAll_cons_mk (Below.trod Try.laidOutB (by kernel_rfl) (of_decide_eq_true (by kernel_rfl)) k0 hg l0) (trodAll_cons_mk (Below.trod Try.laidOutB (by kernel_rfl) (of_decide_eq_true (by kernel_rfl)) k1 hg l1) (trodAll_cons_mk (Below.trod Try.laidOutB (by kernel_rfl) (of_decide_eq_true (by kernel_rfl)) k2 hg l2) trodAll_mk0)))
  · rfl
/-! Closed facts of the row. -/
theorem sprs_c1 : Try.pinned.checked.prog.funcNamed Rows.planeSpreadsAsSpecifiedRow.func = some 8 := by kernel_rfl
theorem sprs_make (x) (h : x = Rows.planeCutsDivideRow.make) : (Try.pinned.checked.prog.make == some x) = true := by rw [h]; exact jf_make0
set_option maxHeartbeats 100000000 in
theorem sprs_c2 : joinedFacts Try.pinned.checked.prog 8 Try.f8 Rows.planeSpreadsAsSpecifiedSpec Rows.planeSpreadsAsSpecifiedRow = true := by
  unfold joinedFacts
  repeat' (with_reducible apply and_mk)
  all_goals first
  | with_reducible exact jf_laid
  | with_reducible exact jf_stops
  | with_reducible exact jf_enter
  | (with_reducible refine jf_lift _ ?_; kernel_rfl)
  | (with_reducible refine sprs_make _ ?_; kernel_rfl)
  | (as_aux_lemma => kernel_rfl)
theorem sprs_c3 : Try.f8.isInstance Try.pinned.checked.prog Rows.planeSpreadsAsSpecifiedRow.origin Rows.planeSpreadsAsSpecifiedRow.targs := of_decide_eq_true (by kernel_rfl)
theorem sprs_c4 : Try.f8.isWrapper Try.pinned.checked.prog Rows.planeSpreadsAsSpecifiedRow.wrapper Rows.planeSpreadsAsSpecifiedRow.mainSum := by
  unfold Func.isWrapper; first | (rw [if_pos (by decide +kernel)]; kernel_rfl) | (rw [if_neg (by decide +kernel)]; exact ⟨rfl, rfl⟩)
/-- The law holds. -/
theorem planeSpreadsAsSpecified_holds : Rows.PlaneSpreadsAsSpecifiedSaid :=
  OpenClaim.holds_of_wide 8 Try.f8 rfl rfl rfl rfl rfl rfl rfl ⟨rfl, rfl, rfl, rfl, rfl⟩ rfl rfl rfl rfl rfl sprs_c1 Try.func8 sprs_c2 sprs_c3 sprs_c4
    (fun os started H enc _ => sprs_lifted os started H enc)
end Go.Proofs.Ytdefpcjlbganpaa
