/-
  The statement SheetFairs is proved: Collate of a book's fair copy has its lines, and a copy that is put to the others once more changes nothing but the copies. No condition of its own (the package variables start as the program lays them: the card ties them).
-/
import Derived.Test.YtmfhpddeclggfaaGreatDoorKr
import Derived.Test.YtmfhpddeclggfaaGreatDoorRowM
import Derived.Test.YtmfhpddeclggfaaGreatDoorRowW
import Derived.Test.YtmfhpddeclggfaaGreatDoorYFairsLaw
namespace Go.Proofs.YtmfhpddeclggfaaGreatDoor
open Go Go.ChangeShapes Go.WideShapes Go.ChangeMaps Go.RowKit Go.Joins Go.Deep Go.Shelf Go.Lib
set_option maxRecDepth 100000 in
theorem sheetFairs_lifted (os : Os) (started : os.Started) (H : Type) (enc : TypeId × Value → H) :
    ReturnsInHanded {} Tryz.checked os 17 .any (fun w args => (Rows.sheetFairsSpec.pre enc Tryz.prog Tryz.f17 [] false w args ∧ laidMetH Tryz.prog LD w) ∧ sizedMet enc Tryz.prog Tryz.f17 (OpenSpec.ofChange Rows.sheetFairsSpec) false w args)
      (Rows.sheetFairsSpec.post enc Tryz.prog Tryz.f17 false true false false) := by
  refine wrap_ls (C := Tryz.checked) (X := fun w _ => laidMetH Tryz.prog LD w) (fun _ _ _ hh h => h.of_heap hh) ownK started (by kernel_rfl) Tryz.func17
    (ChangeSpec.witness_shaped (enc := enc) (C := Tryz.checked) (os := os) (X := fun w _ => laidMetH Tryz.prog LD w) false (World.laidAll Tryz.prog os LD) #[.slice none 0 0, .int .u8 0] 8 (World.laidAll_os _ _ _)
      (World.shaped_of_ZipB (by kernel_rfl) (by kernel_rfl)) (by kernel_rfl) (by kernel_rfl) (by kernel_rfl)
      (by rw [MakeChecks.laidMetH_plain _ _ _ (by kernel_rfl)]; exact laidMet_laidAll _ (by kernel_rfl) (by kernel_rfl))) ?_
  intro W base args ds gs before hval0 hW hsz hL hsh
  have HE := env_of hL hsh
  have hval : ∀ (j : Nat) t v, Tryz.f17.params[j]? = some t → args[j]? = some v → Value.okWide Tryz.prog W .any base t v := hval0
  have hW' := hW
  obtain ⟨p, q, hA0, hV, rfl, hfz, hnd⟩ := hW
  have hA : DataW.TrodAll enc Tryz.prog W 0 (fun _ => true) true Tryz.f17.params.toList args.toList ds p := hA0
  rw [Tryz.params17] at hA hval hsz
  obtain ⟨v0, vs0, d0, ds0, p0, q0, hargs, rfl, rfl, h0, r0⟩ := trodAll_cons hA
  obtain ⟨v1, vs1, d1, ds1, p1, q1, rfl, rfl, rfl, h1, r1⟩ := trodAll_cons r0
  obtain ⟨rfl, rfl, rfl⟩ := trodAll_nil r1
  obtain rfl : args = #[v0, v1] := by cases args; simp_all
  obtain ⟨rfl, rfl⟩ := trodVars_none hV
  have hlt : ∀ x ∈ p0 ++ (p1 ++ []), x.block < W.heap.size := fun x hx => hW'.lt x (by simpa using hx)
  have k0 := h0
  have l0 : ∀ x ∈ p0, x.block < W.heap.size := fun x hx => hlt x (by simp [hx])
  have k1 := h1
  have l1 : ∀ x ∈ p1, x.block < W.heap.size := fun x hx => hlt x (by simp [hx])
  obtain ⟨q0, c0, a0, rfl, hl0, hz0, hp0, hw0⟩ := read_strs_w (hval 0 37 v0 rfl rfl) h0 l0
  have hr0 : ∀ s ∈ a0, s.size ≤ 140737488355328 := fun s hs => by
    have h9 : s.size ≤ reachBytes := of_decide_eq_true (List.all_eq_true.1 hsz _ (DataW.weights_mem_each (j := 0) (t := 37) rfl rfl _ (hw0 s hs)))
    simp only [reachBytes] at h9
    omega
  obtain ⟨a1, rfl, rfl, _, w1⟩ := open_int Tryz.underlying5 (hval 1 5 v1 rfl rfl) h1
  clear hA0 hval0
  refine (sheetFairs_law q0 c0 a0 a1 W HE hl0 hz0 hp0 hr0 (bounds_u8 w1)).mono fun e W' ⟨he, hg⟩ => ?_
  subst he
  refine ⟨_, rfl, _, _, _, [], p0 ++ (p1 ++ []), [], hW', ?_, ?_, ?_, hg.frame _, fun h => by cases h⟩
  · exact trodAll_mk1 (shut_bool Tryz.underlying4 true)
  · exact (trodAll_cons_mk (Below.trod Tryz.laidOutB (by kernel_rfl) (of_decide_eq_true (by kernel_rfl)) k0 hg l0) (trodAll_cons_mk (Below.trod Tryz.laidOutB (by kernel_rfl) (of_decide_eq_true (by kernel_rfl)) k1 hg l1) trodAll_mk0))
  · rfl
/-! Closed facts of the row. -/
theorem sf_c1 : Tryz.pinned.checked.prog.funcNamed Rows.sheetFairsRow.func = some 17 := by kernel_rfl
theorem sf_make (x) (h : x = Rows.sheetWordsRow.make) : (Tryz.pinned.checked.prog.make == some x) = true := by rw [h]; exact jf_make0
set_option maxHeartbeats 100000000 in
theorem sf_c2 : joinedFacts Tryz.pinned.checked.prog 17 Tryz.f17 Rows.sheetFairsSpec Rows.sheetFairsRow = true := by
  unfold joinedFacts
  repeat' (with_reducible apply and_mk)
  all_goals first
  | with_reducible exact jf_laid
  | with_reducible exact jf_stops
  | with_reducible exact jf_enter
  | (with_reducible refine jf_lift _ ?_; kernel_rfl)
  | (with_reducible refine sf_make _ ?_; kernel_rfl)
  | (as_aux_lemma => kernel_rfl)
theorem sf_c3 : Tryz.f17.isInstance Tryz.pinned.checked.prog Rows.sheetFairsRow.origin Rows.sheetFairsRow.targs := of_decide_eq_true (by kernel_rfl)
theorem sf_c4 : Tryz.f17.isWrapper Tryz.pinned.checked.prog Rows.sheetFairsRow.wrapper Rows.sheetFairsRow.mainSum := by
  unfold Func.isWrapper; first | (rw [if_pos (by decide +kernel)]; kernel_rfl) | (rw [if_neg (by decide +kernel)]; exact ⟨rfl, rfl⟩)
theorem sheetFairs_holds : Rows.SheetFairsSaid :=
  OpenClaim.holds_of_wide 17 Tryz.f17 rfl rfl rfl rfl rfl rfl rfl ⟨rfl, rfl, rfl, rfl, rfl⟩ rfl rfl rfl rfl rfl sf_c1 Tryz.func17 sf_c2 sf_c3 sf_c4
    (fun os started H enc _ => sheetFairs_lifted os started H enc)
theorem sf_goes : false = Rows.sheetFairsRow.goesBy Tryz.pinned.checked.prog := by kernel_rfl
theorem sf_wf : Rows.sheetFairsRow.wfByText (OpenSpec.ofChange Rows.sheetFairsSpec) = true := by kernel_rfl
theorem sf_new : (!true && "579cf3a5525c14e527e2965c6884570c30245bf59aac7b721ab1a1de346900bd".isEmpty && !true) = false := by rfl
theorem sf_no : Rows.sheetFairsRow.noBlocks = false ∧ Rows.sheetFairsRow.again = false := ⟨rfl, rfl⟩
theorem sf_stand : ([37, 5].all fun u => !Tryz.prog.wantsStandIn u) = true := by kernel_rfl
/-- The card. -/
theorem sheetFairs_card : Rows.SheetFairsCardSaid :=
  Claim7.holds_tied_plain_at .later [] [.data, .data, .data, .data, .sentinel, .sentinel, .pinned] true (true, "579cf3a5525c14e527e2965c6884570c30245bf59aac7b721ab1a1de346900bd") true
    sheetFairs_holds (fun _ h => by cases h) sf_wf (fun _ h => by cases h) sheetFairs_row_tie rfl sf_no card_main sf_new
    (fun f fn hf hfn => by
      obtain rfl : f = 17 := Option.some.inj (sf_c1.symm.trans hf) |>.symm
      obtain rfl : fn = Tryz.f17 := (Option.some.inj (Tryz.func17.symm.trans hfn)).symm
      exact ⟨card_looks, fun j t ht => by
        rw [Tryz.params17] at ht
        have hm : t ∈ [37, 5] := by simpa using Array.mem_of_getElem? ht
        exact (show Tryz.prog.wantsStandIn t = false by simpa using List.all_eq_true.1 sf_stand t hm)⟩)
    sf_goes
end Go.Proofs.YtmfhpddeclggfaaGreatDoor
