/-
  The statement SheetRestores is proved: a line that no copy has whole is found and restored, if what is left of it in the copies shows each of its bytes and nothing else claims its number and length. No condition of its own (the package variables start as the program lays them: the card ties them).
-/
import Derived.Test.YtmfhpddeclggfaaGreatDoorKr
import Derived.Test.YtmfhpddeclggfaaGreatDoorRowM
import Derived.Test.YtmfhpddeclggfaaGreatDoorVRowF
import Derived.Test.YtmfhpddeclggfaaGreatDoorVReLaw
namespace Go.Proofs.YtmfhpddeclggfaaGreatDoor
open Go Go.ChangeShapes Go.WideShapes Go.ChangeMaps Go.RowKit Go.Joins Go.Deep Go.Shelf Go.Lib
set_option maxRecDepth 100000 in
theorem sheetRestores_lifted (os : Os) (started : os.Started) (H : Type) (enc : TypeId × Value → H) :
    ReturnsInHanded {} Tryz.checked os 15 .any (fun w args => (Rows.sheetRestoresSpec.pre enc Tryz.prog Tryz.f15 [] false w args ∧ laidMetH Tryz.prog LD w) ∧ sizedMet enc Tryz.prog Tryz.f15 (OpenSpec.ofChange Rows.sheetRestoresSpec) false w args)
      (Rows.sheetRestoresSpec.post enc Tryz.prog Tryz.f15 false true false false) := by
  refine wrap_ls (C := Tryz.checked) (X := fun w _ => laidMetH Tryz.prog LD w) (fun _ _ _ hh h => h.of_heap hh) ownK started (by kernel_rfl) Tryz.func15
    (ChangeSpec.witness_shaped (enc := enc) (C := Tryz.checked) (os := os) (X := fun w _ => laidMetH Tryz.prog LD w) false (World.laidAll Tryz.prog os LD) #[.slice none 0 0, .slice none 0 0] 8 (World.laidAll_os _ _ _)
      (World.shaped_of_ZipB (by kernel_rfl) (by kernel_rfl)) (by kernel_rfl) (by kernel_rfl) (by kernel_rfl)
      (by rw [MakeChecks.laidMetH_plain _ _ _ (by kernel_rfl)]; exact laidMet_laidAll _ (by kernel_rfl) (by kernel_rfl))) ?_
  intro W base args ds gs before hval0 hW hsz hL hsh
  have HE := env_of hL hsh
  have hval : ∀ (j : Nat) t v, Tryz.f15.params[j]? = some t → args[j]? = some v → Value.okWide Tryz.prog W .any base t v := hval0
  have hW' := hW
  obtain ⟨p, q, hA0, hV, rfl, hfz, hnd⟩ := hW
  have hA : DataW.TrodAll enc Tryz.prog W 0 (fun _ => true) true Tryz.f15.params.toList args.toList ds p := hA0
  rw [Tryz.params15] at hA hval hsz
  obtain ⟨v0, vs0, d0, ds0, p0, q0, hargs, rfl, rfl, h0, r0⟩ := trodAll_cons hA
  obtain ⟨v1, vs1, d1, ds1, p1, q1, rfl, rfl, rfl, h1, r1⟩ := trodAll_cons r0
  obtain ⟨rfl, rfl, rfl⟩ := trodAll_nil r1
  obtain rfl : args = #[v0, v1] := by cases args; simp_all
  obtain ⟨rfl, rfl⟩ := trodVars_none hV
  have hlt : ∀ x ∈ p0 ++ (p1 ++ []), x.block < W.heap.size := fun x hx => hW'.lt x (by simpa using hx)
  have k0 := h0
  have l0 : ∀ x ∈ p0, x.block < W.heap.size := fun x hx => hlt x (by simp [hx])
  have k1 := h1
  have l1 : ∀ x ∈ p1, x.block < W.heap.size := fun x hx => hlt x (by simp [hx])
  obtain ⟨q0, c0, a0, rfl, hl0, hz0, hp0⟩ := read_lists (hval 0 51 v0 rfl rfl) h0 l0
  obtain ⟨q1, c1, a1, rfl, hl1, hf1, hp1⟩ := read_fates (hval 1 108 v1 rfl rfl) h1 l1
  clear hA0 hval0
  refine (sheetRestores_law2 q0 c0 a0 q1 c1 a1 W HE hl0 hz0 hp0 hl1 hf1 hp1).mono fun e W' ⟨he, hg⟩ => ?_
  subst he
  refine ⟨_, rfl, _, _, _, [], p0 ++ (p1 ++ []), [], hW', ?_, ?_, ?_, hg.frame _, fun h => by cases h⟩
  · exact trodAll_mk1 (shut_bool Tryz.underlying4 true)
  · exact (trodAll_cons_mk (Below.trod Tryz.laidOutB (by kernel_rfl) (of_decide_eq_true (by kernel_rfl)) k0 hg l0) (trodAll_cons_mk (Below.trod Tryz.laidOutB (by kernel_rfl) (of_decide_eq_true (by kernel_rfl)) k1 hg l1) trodAll_mk0))
  · rfl
/-! Closed facts of the row. -/
theorem res_c1 : Tryz.pinned.checked.prog.funcNamed Rows.sheetRestoresRow.func = some 15 := by kernel_rfl
theorem res_make (x) (h : x = Rows.sheetWordsRow.make) : (Tryz.pinned.checked.prog.make == some x) = true := by rw [h]; exact jf_make0
set_option maxHeartbeats 100000000 in
theorem res_c2 : joinedFacts Tryz.pinned.checked.prog 15 Tryz.f15 Rows.sheetRestoresSpec Rows.sheetRestoresRow = true := by
  unfold joinedFacts
  repeat' (with_reducible apply and_mk)
  all_goals first
  | with_reducible exact jf_laid
  | with_reducible exact jf_stops
  | with_reducible exact jf_enter
  | (with_reducible refine jf_lift _ ?_; kernel_rfl)
  | (with_reducible refine res_make _ ?_; kernel_rfl)
  | (as_aux_lemma => kernel_rfl)
theorem res_c3 : Tryz.f15.isInstance Tryz.pinned.checked.prog Rows.sheetRestoresRow.origin Rows.sheetRestoresRow.targs := of_decide_eq_true (by kernel_rfl)
theorem res_c4 : Tryz.f15.isWrapper Tryz.pinned.checked.prog Rows.sheetRestoresRow.wrapper Rows.sheetRestoresRow.mainSum := by
  unfold Func.isWrapper; first | (rw [if_pos (by decide +kernel)]; kernel_rfl) | (rw [if_neg (by decide +kernel)]; exact ⟨rfl, rfl⟩)
theorem sheetRestores_holds : Rows.SheetRestoresSaid :=
  OpenClaim.holds_of_wide 15 Tryz.f15 rfl rfl rfl rfl rfl rfl rfl ⟨rfl, rfl, rfl, rfl, rfl⟩ rfl rfl rfl rfl rfl res_c1 Tryz.func15 res_c2 res_c3 res_c4
    (fun os started H enc _ => sheetRestores_lifted os started H enc)
theorem res_goes : false = Rows.sheetRestoresRow.goesBy Tryz.pinned.checked.prog := by kernel_rfl
theorem res_wf : Rows.sheetRestoresRow.wfByText (OpenSpec.ofChange Rows.sheetRestoresSpec) = true := by kernel_rfl
theorem res_new : (!true && "579cf3a5525c14e527e2965c6884570c30245bf59aac7b721ab1a1de346900bd".isEmpty && !true) = false := by rfl
theorem res_no : Rows.sheetRestoresRow.noBlocks = false ∧ Rows.sheetRestoresRow.again = false := ⟨rfl, rfl⟩
theorem res_stand : ([51, 108].all fun u => !Tryz.prog.wantsStandIn u) = true := by kernel_rfl
/-- The card. -/
theorem sheetRestores_card : Rows.SheetRestoresCardSaid :=
  Claim7.holds_tied_plain_at .later [] [.data, .data, .data, .data, .sentinel, .sentinel, .pinned] true (true, "579cf3a5525c14e527e2965c6884570c30245bf59aac7b721ab1a1de346900bd") true
    sheetRestores_holds (fun _ h => by cases h) res_wf (fun _ h => by cases h) sheetRestores_row_tie rfl res_no card_main res_new
    (fun f fn hf hfn => by
      obtain rfl : f = 15 := Option.some.inj (res_c1.symm.trans hf) |>.symm
      obtain rfl : fn = Tryz.f15 := (Option.some.inj (Tryz.func15.symm.trans hfn)).symm
      exact ⟨card_looks, fun j t ht => by
        rw [Tryz.params15] at ht
        have hm : t ∈ [51, 108] := by simpa using Array.mem_of_getElem? ht
        exact (show Tryz.prog.wantsStandIn t = false by simpa using List.all_eq_true.1 res_stand t hm)⟩)
    res_goes
end Go.Proofs.YtmfhpddeclggfaaGreatDoor
