import Derived.Test.YtcejmfgbfdhflaaGreatJa
import Derived.Test.YtcejmfgbfdhflaaGreatJb
import Derived.Test.YtcejmfgbfdhflaaGreatJc
import Derived.Test.YtcejmfgbfdhflaaGreatJd
import Derived.Test.YtcejmfgbfdhflaaGreatRows
import Derived.Test.YtcejmfgbfdhflaaGreatJx
import Derived.Test.YtcejmfgbfdhflaaGreatEr
import Derived.Test.YtcejmfgbfdhflaaGreatJr
import Derived.Carry
import Derived.SizedLaws
import Derived.WalkKit
import Derived.ProofKit
import Derived.OpenShut
import Derived.Lib.SmallJoins
import Derived.Deep.Slices
import Derived.Deep.Strs
namespace Go.Proofs.YtcejmfgbfdhflaaGreat
open Go Go.ChangeShapes Go.WideShapes Go.RowKit Go.Joins Go.Deep
theorem Tryz.ownKadds : ownKnob Tryz.prog.godebug = none := by kernel_rfl
set_option maxRecDepth 100000 in
theorem adds_lifted (os : Os) (started : os.Started) (H : Type) (enc : TypeId × Value → H) :
    ReturnsInHanded {} Tryz.checked os 18 .any (Rows.chainageAddsSpec.pre6 enc Tryz.prog Tryz.f18 Rows.chainageAddsRow.domain false) (Rows.chainageAddsSpec.post enc Tryz.prog Tryz.f18 false true false false) := by
  refine returnsInHanded_of_change_sized (C := Tryz.checked) Tryz.ownKadds started (by kernel_rfl) Tryz.func18
    (ChangeSpec.witness6 (enc := enc) (C := Tryz.checked) false ⟨#[], #[.agg #[.slice none 0 0, .slice none 0 0, .slice none 0 0], .slice none 0 0, .slice none 0 0, .int .u8 0], []⟩ 8 (by kernel_rfl) (by kernel_rfl) (by kernel_rfl) (by kernel_rfl)) ?_
  intro W base args ds gs before hval0 hW _ hsz0 _
  have hsz : (DataW.weightsEach Tryz.prog (Tryz.f18.params.toList ++ Rows.chainageAddsSpec.plain.varTypes Tryz.prog) (ds ++ gs)).all (· ≤ reachBytes) = true := hsz0
  clear hsz0
  have hval : ∀ (j : Nat) t v, Tryz.f18.params[j]? = some t → args[j]? = some v → Value.okWide Tryz.prog W .any base t v := hval0
  have hW' := hW
  obtain ⟨p, q, hA0, hV, rfl, hfz, hnd⟩ := hW
  have hA : DataW.TrodAll enc Tryz.prog W 0 (fun _ => true) true Tryz.f18.params.toList args.toList ds p := hA0
  rw [Tryz.params18] at hA hval hsz
  obtain ⟨v0, vs0, d0, ds0, p0, q0, hargs, rfl, rfl, h0, r0⟩ := trodAll_cons hA
  obtain ⟨v1, vs1, d1, ds1, p1, q1, rfl, rfl, rfl, h1, r1⟩ := trodAll_cons r0
  obtain ⟨v2, vs2, d2, ds2, p2, q2, rfl, rfl, rfl, h2, r2⟩ := trodAll_cons r1
  obtain ⟨v3, vs3, d3, ds3, p3, q3, rfl, rfl, rfl, h3, r3⟩ := trodAll_cons r2
  obtain ⟨rfl, rfl, rfl⟩ := trodAll_nil r3
  obtain rfl : args = #[v0, v1, v2, v3] := by cases args; simp_all
  obtain ⟨rfl, rfl⟩ := trodVars_none hV
  have hlt : ∀ x ∈ p0 ++ (p1 ++ (p2 ++ (p3 ++ []))), x.block < W.heap.size := fun x hx => hW'.lt x (by simpa using hx)
  have k0 := h0
  have l0 : ∀ x ∈ p0, x.block < W.heap.size := fun x hx => hlt x (by simp [hx])
  have k1 := h1
  have l1 : ∀ x ∈ p1, x.block < W.heap.size := fun x hx => hlt x (by simp [hx])
  have k2 := h2
  have l2 : ∀ x ∈ p2, x.block < W.heap.size := fun x hx => hlt x (by simp [hx])
  have k3 := h3
  have l3 : ∀ x ∈ p3, x.block < W.heap.size := fun x hx => hlt x (by simp [hx])
  have hr0 : ∀ n ∈ d0.weights Tryz.prog 26, n ≤ reachBytes := fun n hn => of_decide_eq_true (List.all_eq_true.1 hsz _ (DataW.weights_mem_each (j := 0) (t := 26) rfl rfl _ hn))
  obtain ⟨a0, rfl, b0, c0, e0, g0⟩ := read_works (hval 0 26 v0 rfl rfl) h0 hr0
  have hr1 : ∀ n ∈ d1.weights Tryz.prog 69, n ≤ reachBytes := fun n hn => of_decide_eq_true (List.all_eq_true.1 hsz _ (DataW.weights_mem_each (j := 1) (t := 69) rfl rfl _ hn))
  obtain ⟨q1, c1, a1, rfl, e1, f1, b1, g1⟩ := read_mss (hval 1 69 v1 rfl rfl) h1 hr1
  have hr2 : ∀ n ∈ d2.weights Tryz.prog 69, n ≤ reachBytes := fun n hn => of_decide_eq_true (List.all_eq_true.1 hsz _ (DataW.weights_mem_each (j := 2) (t := 69) rfl rfl _ hn))
  obtain ⟨q2, c2, a2, rfl, e2, f2, b2, g2⟩ := read_mss (hval 2 69 v2 rfl rfl) h2 hr2
  obtain ⟨a3, rfl, rfl, _, w3⟩ := open_int Tryz.underlying5 (hval 3 5 v3 rfl rfl) h3
  clear hA0 hval0
  refine (chainageAdds_law a0 a3 q1 q2 c1 c2 a1 a2 W b0 c0 e0 (fun hf => by have := few_iff.1 hf; exact g0 (by omega) (by omega) (by omega)) (bounds_u8 w3) b1 b2 g1 g2).mono fun e W' ⟨he, hg⟩ => ?_
  subst he
  refine ⟨_, rfl, _, _, _, [], p0 ++ (p1 ++ (p2 ++ (p3 ++ []))), [], hW', ?_, ?_, ?_, hg.frame _, fun h => by cases h⟩
  · exact trodAll_mk1 (shut_bool Tryz.underlying4 true)
  · exact (trodAll_cons_mk (Below.trod Tryz.laidOutB (by kernel_rfl) (of_decide_eq_true (by kernel_rfl)) k0 hg l0) (trodAll_cons_mk (Below.trod Tryz.laidOutB (by kernel_rfl) (of_decide_eq_true (by kernel_rfl)) k1 hg l1) (trodAll_cons_mk (Below.trod Tryz.laidOutB (by kernel_rfl) (of_decide_eq_true (by kernel_rfl)) k2 hg l2) (trodAll_cons_mk (Below.trod Tryz.laidOutB (by kernel_rfl) (of_decide_eq_true (by kernel_rfl)) k3 hg l3) trodAll_mk0))))
  · rfl
/-! Closed facts of the row. -/
theorem adds_c1 : Tryz.pinned.checked.prog.funcNamed Rows.chainageAddsRow.func = some 18 := by kernel_rfl
theorem adds_make (x) (h : x = Rows.chainageAddsRow.make) : (Tryz.pinned.checked.prog.make == some x) = true := by rw [h]; exact jf_make0
set_option maxHeartbeats 100000000 in
theorem adds_c2 : joinedFacts Tryz.pinned.checked.prog 18 Tryz.f18 Rows.chainageAddsSpec Rows.chainageAddsRow = true := by
  unfold joinedFacts
  repeat' (with_reducible apply and_mk)
  all_goals first
  | with_reducible exact jf_laid
  | with_reducible exact jf_stops
  | with_reducible exact jf_enter
  | (with_reducible refine jf_lift _ ?_; kernel_rfl)
  | (with_reducible refine adds_make _ ?_; kernel_rfl)
  | (as_aux_lemma => kernel_rfl)
theorem adds_c3 : Tryz.f18.isInstance Tryz.pinned.checked.prog Rows.chainageAddsRow.origin Rows.chainageAddsRow.targs := of_decide_eq_true (by kernel_rfl)
theorem adds_c4 : Tryz.f18.isWrapper Tryz.pinned.checked.prog Rows.chainageAddsRow.wrapper Rows.chainageAddsRow.mainSum := by
  unfold Func.isWrapper; first | (rw [if_pos (by decide +kernel)]; kernel_rfl) | (rw [if_neg (by decide +kernel)]; exact ⟨rfl, rfl⟩)
/-- ChainageAdds: for works of at most 30 proofs and repairs and two lists of at most 20 measures, Total of one behind the other is the sum of both, and with a greater Slack a Distance is not narrower. No condition. -/
theorem chainageAdds_holds : Rows.ChainageAddsSaid :=
  OpenClaim.holds_of_wide 18 Tryz.f18 rfl rfl rfl rfl rfl rfl rfl ⟨rfl, rfl, rfl, rfl, rfl⟩ rfl rfl rfl rfl rfl adds_c1 Tryz.func18 adds_c2 adds_c3 adds_c4
    (fun os started H enc _ => adds_lifted os started H enc)
end Go.Proofs.YtcejmfgbfdhflaaGreat
