/-
  The statement SheetCollates is proved: Collate of the program and the reference's Collate leave the same error and the same book, whatever the copies are. No condition of its own (the package variables start as the program lays them: the card ties them).
-/
import Derived.Test.YtmfhpddeclggfaaGreatDoorKr
import Derived.Test.YtmfhpddeclggfaaGreatDoorRowM
import Derived.Test.YtmfhpddeclggfaaGreatDoorRowW
import Derived.Test.YtmfhpddeclggfaaGreatDoorWColLaw
namespace Go.Proofs.YtmfhpddeclggfaaGreatDoor
open Go Go.ChangeShapes Go.WideShapes Go.ChangeMaps Go.RowKit Go.Joins Go.Deep Go.Shelf Go.Lib
set_option maxRecDepth 100000 in
theorem sheetCollates_lifted (os : Os) (started : os.Started) (H : Type) (enc : TypeId × Value → H) :
    ReturnsInHanded {} Tryz.checked os 9 .any (fun w args => (Rows.sheetCollatesSpec.pre enc Tryz.prog Tryz.f9 [] false w args ∧ laidMetH Tryz.prog LD w) ∧ sizedMet enc Tryz.prog Tryz.f9 (OpenSpec.ofChange Rows.sheetCollatesSpec) false w args)
      (Rows.sheetCollatesSpec.post enc Tryz.prog Tryz.f9 false true false false) := by
  refine wrap_ls (C := Tryz.checked) (X := fun w _ => laidMetH Tryz.prog LD w) (fun _ _ _ hh h => h.of_heap hh) ownK started (by kernel_rfl) Tryz.func9
    (ChangeSpec.witness_shaped (enc := enc) (C := Tryz.checked) (os := os) (X := fun w _ => laidMetH Tryz.prog LD w) false (World.laidAll Tryz.prog os LD) #[.slice none 0 0] 8 (World.laidAll_os _ _ _)
      (World.shaped_of_ZipB (by kernel_rfl) (by kernel_rfl)) (by kernel_rfl) (by kernel_rfl) (by kernel_rfl)
      (by rw [MakeChecks.laidMetH_plain _ _ _ (by kernel_rfl)]; exact laidMet_laidAll _ (by kernel_rfl) (by kernel_rfl))) ?_
  intro W base args ds gs before hval0 hW hsz hL hsh
  have HE := env_of hL hsh
  have hval : ∀ (j : Nat) t v, Tryz.f9.params[j]? = some t → args[j]? = some v → Value.okWide Tryz.prog W .any base t v := hval0
  have hW' := hW
  obtain ⟨p, q, hA0, hV, rfl, hfz, hnd⟩ := hW
  have hA : DataW.TrodAll enc Tryz.prog W 0 (fun _ => true) true Tryz.f9.params.toList args.toList ds p := hA0
  rw [Tryz.params9] at hA hval hsz
  obtain ⟨v0, vs0, d0, ds0, p0, q0, hargs, rfl, rfl, h0, r0⟩ := trodAll_cons hA
  obtain ⟨rfl, rfl, rfl⟩ := trodAll_nil r0
  obtain rfl : args = #[v0] := by cases args; simp_all
  obtain ⟨rfl, rfl⟩ := trodVars_none hV
  have hlt : ∀ x ∈ p0 ++ [], x.block < W.heap.size := fun x hx => hW'.lt x (by simpa using hx)
  have k0 := h0
  have l0 : ∀ x ∈ p0, x.block < W.heap.size := fun x hx => hlt x (by simp [hx])
  obtain ⟨q0, c0, a0, rfl, hl0, hz0, hp0, hw0⟩ := read_strs_w (hval 0 37 v0 rfl rfl) h0 l0
  have hr0 : ∀ s ∈ a0, s.size ≤ 140737488355328 := fun s hs => by
    have h9 : s.size ≤ reachBytes := of_decide_eq_true (List.all_eq_true.1 hsz _ (DataW.weights_mem_each (j := 0) (t := 37) rfl rfl _ (hw0 s hs)))
    simp only [reachBytes] at h9
    omega
  clear hA0 hval0
  refine (sheetCollates_law q0 c0 a0 W HE hl0 hz0 hp0 hr0).mono fun e W' ⟨he, hg⟩ => ?_
  subst he
  refine ⟨_, rfl, _, _, _, [], p0 ++ [], [], hW', ?_, ?_, ?_, hg.frame _, fun h => by cases h⟩
  · exact trodAll_mk1 (shut_bool Tryz.underlying4 true)
  · exact (trodAll_cons_mk (Below.trod Tryz.laidOutB (by kernel_rfl) (of_decide_eq_true (by kernel_rfl)) k0 hg l0) trodAll_mk0)
  · rfl
/-! Closed facts of the row. -/
theorem sco_c1 : Tryz.pinned.checked.prog.funcNamed Rows.sheetCollatesRow.func = some 9 := by kernel_rfl
theorem sco_make (x) (h : x = Rows.sheetWordsRow.make) : (Tryz.pinned.checked.prog.make == some x) = true := by rw [h]; exact jf_make0
set_option maxHeartbeats 100000000 in
theorem sco_c2 : joinedFacts Tryz.pinned.checked.prog 9 Tryz.f9 Rows.sheetCollatesSpec Rows.sheetCollatesRow = true := by
  unfold joinedFacts
  repeat' (with_reducible apply and_mk)
  all_goals first
  | with_reducible exact jf_laid
  | with_reducible exact jf_stops
  | with_reducible exact jf_enter
  | (with_reducible refine jf_lift _ ?_; kernel_rfl)
  | (with_reducible refine sco_make _ ?_; kernel_rfl)
  | (as_aux_lemma => kernel_rfl)
theorem sco_c3 : Tryz.f9.isInstance Tryz.pinned.checked.prog Rows.sheetCollatesRow.origin Rows.sheetCollatesRow.targs := of_decide_eq_true (by kernel_rfl)
theorem sco_c4 : Tryz.f9.isWrapper Tryz.pinned.checked.prog Rows.sheetCollatesRow.wrapper Rows.sheetCollatesRow.mainSum := by
  unfold Func.isWrapper; first | (rw [if_pos (by decide +kernel)]; kernel_rfl) | (rw [if_neg (by decide +kernel)]; exact ⟨rfl, rfl⟩)
theorem sheetCollates_holds : Rows.SheetCollatesSaid :=
  OpenClaim.holds_of_wide 9 Tryz.f9 rfl rfl rfl rfl rfl rfl rfl ⟨rfl, rfl, rfl, rfl, rfl⟩ rfl rfl rfl rfl rfl sco_c1 Tryz.func9 sco_c2 sco_c3 sco_c4
    (fun os started H enc _ => sheetCollates_lifted os started H enc)
theorem sco_goes : false = Rows.sheetCollatesRow.goesBy Tryz.pinned.checked.prog := by kernel_rfl
theorem sco_wf : Rows.sheetCollatesRow.wfByText (OpenSpec.ofChange Rows.sheetCollatesSpec) = true := by kernel_rfl
theorem sco_new : (!true && "579cf3a5525c14e527e2965c6884570c30245bf59aac7b721ab1a1de346900bd".isEmpty && !true) = false := by rfl
theorem sco_no : Rows.sheetCollatesRow.noBlocks = false ∧ Rows.sheetCollatesRow.again = false := ⟨rfl, rfl⟩
theorem sco_stand : ([37].all fun u => !Tryz.prog.wantsStandIn u) = true := by kernel_rfl
/-- The card. -/
theorem sheetCollates_card : Rows.SheetCollatesCardSaid :=
  Claim7.holds_tied_plain_at .later [] [.data, .data, .data, .data, .sentinel, .sentinel, .pinned] true (true, "579cf3a5525c14e527e2965c6884570c30245bf59aac7b721ab1a1de346900bd") true
    sheetCollates_holds (fun _ h => by cases h) sco_wf (fun _ h => by cases h) sheetCollates_row_tie rfl sco_no card_main sco_new
    (fun f fn hf hfn => by
      obtain rfl : f = 9 := Option.some.inj (sco_c1.symm.trans hf) |>.symm
      obtain rfl : fn = Tryz.f9 := (Option.some.inj (Tryz.func9.symm.trans hfn)).symm
      exact ⟨card_looks, fun j t ht => by
        rw [Tryz.params9] at ht
        have hm : t ∈ [37] := by simpa using Array.mem_of_getElem? ht
        exact (show Tryz.prog.wantsStandIn t = false by simpa using List.all_eq_true.1 sco_stand t hm)⟩)
    sco_goes
end Go.Proofs.YtmfhpddeclggfaaGreatDoor
