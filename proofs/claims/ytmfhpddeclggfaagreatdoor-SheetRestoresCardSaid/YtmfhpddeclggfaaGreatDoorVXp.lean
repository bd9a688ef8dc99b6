import Derived.Test.YtmfhpddeclggfaaGreatDoorVNoLaw
import Derived.RangeFuncNested
import Derived.RangeFuncBound
import Derived.RangeFuncCalls
import Derived.RangeFuncLeaves
import Derived.RangeFuncBox
import Derived.Shelf.Abstract
import Derived.Shelf.RegionOpen
import Derived.OwnWalkIn
import Derived.TacticsInMore
import Derived.LoopNIn
import Derived.LoopIn
import Derived.Maps.AppendAt
import Derived.WalkKit
import Derived.LoopTactic
import Derived.WalkSpells
import Derived.WalkLawsBesides
import Derived.Lib.Hide
import Derived.BigQuiet
import Derived.IntWalk
import Derived.Deep.DeepMust
import Derived.WalkSmall
import Derived.StillTailTactics
import Derived.Deep.RegionLaw
import Derived.Deep.QuietTactic
import Derived.Deep.Cut
import Derived.Deep.DeepCutAuto
import Derived.Deep.LoopGhost
import Derived.Laws.AppendOwn
namespace Go.Proofs.YtmfhpddeclggfaaGreatDoor
open Go.RowKit

/-! The program's pieces and lines. -/
open Go.Shelf
attribute [local go_sem] Oper.semAt_some
set_option maxRecDepth 100000 in
set_option maxHeartbeats 4000000 in
theorem sPieces (s : ByteArray) (w : World) (hs : s.size ≤ 1000000) (he : Env w) : Calls Tryz.prog 45 #[.string s] w fun e w' => ∃ (q : Option Addr) (cap : Nat), e = .returned (.slice q (partsN s).length cap) ∧ StrsAt w' q (partsN s) ∧ Below w.heap.size w w' := by
  refine (callsIn_wide (n := 9)).1 ?_
  refine callsIn_of_wp_marks Tryz.func45 rfl trivial ?_ rfl
  simp only [Tryz.ntmps45, List.size_toArray, List.length_cons, List.length_nil, Nat.reduceAdd, Nat.reduceSub, Array.replicate_succ, Array.replicate_zero, List.push_toArray, List.append_toArray, List.nil_append, List.cons_append]
  have HE := Lib.hid he
  have h8 := he.size
  have HS := Lib.hid hs
  clear he hs
  gi_wp2_with (refine ⟨trivial, ?_⟩; gi_at_call 97; refine (callsIn_wide.2 (pieces0 s _)).mono ?_; rintro e w' ⟨rfl, rfl⟩)
  obtain ⟨Wl, hWl⟩ : ∃ Wl, (w.alloc (.cells #[.slice none 0 0] 37)).alloc (.cells #[.string s] 9) = Wl := ⟨_, rfl⟩
  have hsz : Wl.heap.size = w.heap.size + 2 := by rw [← hWl]; simp
  have hby : Below w.heap.size w Wl := by rw [← hWl]; exact (below_alloc1 w _).alloc (by simp) _
  have hbx : Boxed Wl w.heap.size 37 (.slice none 0 0) := by rw [← hWl]; exact (Boxed.new w 37 _).alloc _
  have hcs : Wl.cell? ⟨w.heap.size + 1, 0, none⟩ = some (.string s) := by
    have := Boxed.cell (Boxed.new (w.alloc (.cells #[.slice none 0 0] 37)) 9 (.string s))
    rw [World.size_alloc] at this
    rw [← hWl]; exact this
  rw [hWl]
  clear hWl
  refine wpIn_range_N rfl (by omega) (by decide) (gf := 133) (lb := #[.pointer (some ⟨w.heap.size + 1, 0, none⟩)]) rfl trivial (enters_of Tryz.func133 (by kernel_rfl) rfl)
    (enc := Value.string) (xs := partsN s) (fun W hb => pieces1 8 (by decide) (w.heap.size + 1) s HS.out W (HE.out.next (hby.trans (hb.mono (by omega)))) ((hb.cell (p := ⟨w.heap.size + 1, 0, none⟩) (by show w.heap.size + 1 < _; omega)).trans hcs) (by have := hb.size; omega)) rfl
    (fun N pre W => (∃ v, Boxed W w.heap.size 37 v ∧ W.ownsRow N 9 1 v pre.length (strsV pre)) ∧ Below w.heap.size w W ∧ N ≤ W.heap.size) (fun _ _ _ => False) ?_ (fun _ _ _ _ _ h => h.elim) ?_
    (fun x => { tmps := #[Value.string s, undef, Value.slice none 0 0, Value.pointer (some { block := w.heap.size, off := 0 }), Value.string x, Value.string s,
          Value.func (Fn.func 133) #[] #[Value.pointer (some { block := w.heap.size + 1, off := 0 })], Value.string x, undef,
          undef, undef, undef, undef], defers := [] }) ?assign ?body ?done (fun _ _ _ _ _ h => h.elim)
  · rintro N p A B row ⟨⟨v, hv, hr⟩, hb, hNs⟩ hg hrow
    refine ⟨⟨v, hv.kept hg (fun e => by have := hrow _ e.symm; omega), hr.kept hg ?_⟩, hb.grown hg (by have := hb.size; omega) (fun k e => by have := hrow _ e; omega), Nat.le_trans hNs hg.size⟩
    cases hvb : v.ownBlock with
    | none => exact .inl rfl
    | some g => exact .inr (fun e => by have h1 := (hr.lt g hvb).1; have h2 := hrow g e.symm; omega)
  · intro N W hb _ hNs
    exact ⟨⟨_, boxed_below hbx hb (by omega), World.ownsRow_nil _ _ _ _⟩, hby.trans (hb.mono (by omega)), hNs⟩
  case assign =>
    intro l2 x W K hK
    gi_wp2
    exact hK
  case body =>
    rintro l2 N pre x W hN ⟨⟨v, hv, hr⟩, hb, hNs⟩ hpre
    have HV := Lib.hid hv
    have HR := Lib.hid hr
    have HB := Lib.hid hb
    have hWlt : w.heap.size < W.heap.size := HV.out.lt
    have HNR : Hid (some w.heap.size ≠ v.ownBlock) := HV.out.not_row (by decide) HR.out
    obtain ⟨i0, hi, hz0, hz1, hz2⟩ := info_parts inf9
    have hlen : pre.length ≤ 1000001 := by
      have h2 := hpre.length_le
      have h3 : (partsN s).length ≤ (partsF s).length := List.length_filter_le _ _
      have h4 := Lib.splitB_length_le ⟨#[10]⟩ 0 s.size s
      have h5 := HS.out
      unfold partsF at h3
      rw [List.length_append] at h2
      omega
    have HLm : Hid (pre.length + 1 ≤ maxLen) := by unfold Hid maxLen; omega
    have HLb : Hid ((pre.length + 1) * 16 ≤ 140737488355328) := by unfold Hid; omega
    clear hlen hpre hv hr hb
    have HV2 := fun o => Lib.hid (HV.out.alloc o)
    have HR2 := fun o => Lib.hid (HR.out.alloc o)
    have hc1 := HV.out.cell
    have hc2 := fun o => (HV2 o).out.cell
    have hf2 := fun o => (HV2 o).out.frozen
    gi_wp2_with (gi_at_builtin; refine (fun (h : Hid ((42 : Nat) = 42) → _) => h rfl) ?_)
    all_goals intro _
    refine wpListIn_append_own _ rfl (.tmp 8) (.tmp 10) 37 rfl N 9 i0 (.string ⟨#[]⟩) 1 16 Tryz.underlying37 hi hz0 hz1 hz2 ?a1 ?a2 v pre.length (strsV pre) ?a3 ?a4 ⟨W.heap.size, 0, none⟩ 1 1 (strsV [x]) ?a5 ?a6 ?a7 strsV_one ?a8 ?a9 ?a10 ?a11
    case a1 => rfl
    case a2 => decide
    case a3 => rfl
    case a4 => exact (HR2 _).out
    case a5 => rfl
    case a6 => rfl
    case a7 => exact st_new _ _ x rfl
    case a8 => exact HLm.out
    case a9 => exact HLb.out
    case a10 => simp only [World.size_alloc]; omega
    case a11 =>
      intro v' w4 hown' hgrow _
      obtain ⟨g', cap', rfl⟩ := ownsRow_succ hown'
      have HV4 := Lib.hid ((HV2 _).out.kept hgrow HNR.out)
      have hc4 := HV4.out.cell
      have hf4 := HV4.out.frozen
      have HO := Lib.hid hown'
      have HG := Lib.hid hgrow
      clear hown' hgrow
      gi_wp2
      have s0 := HB.out.size
      have s4 := HG.out.size
      simp only [World.size_alloc] at s4
      have hlt : ∀ g, v.ownBlock = some g → N ≤ g := fun g hg => (HR.out.lt g hg).1
      refine ⟨fun k hk => ?_, ⟨_, HV4.out.set _, ?_⟩, ?_, ?_⟩
      · have hkN : k < N := by rcases hk with h | h <;> omega
        have hkw : k ≠ w.heap.size := by rcases hk with h | h <;> omega
        refine ((grownBy_setCell' w4 w.heap.size _).block k (by omega) (fun e => hkw (Option.some.inj e))).trans ?_
        refine (HG.out.block k (by simp only [World.size_alloc]; omega) (fun e => by have := hlt k e.symm; omega)).trans ?_
        exact Below.heap_alloc _ _ k (by omega)
      · rw [List.length_append, strsV_app]
        exact HO.out.kept (grownBy_setCell' w4 w.heap.size _) (.inr (HV4.out.not_row (by decide) HO.out).symm)
      · refine (((HB.out.alloc (by omega) _).grown HG.out (by simp only [World.size_alloc]; omega) (fun k e => by have := hlt k e; omega)).setCell (p := ⟨w.heap.size, 0, none⟩) (Nat.le_refl _) _)
      · show N ≤ (w4.setCell _ _).heap.size
        simp only [World.size_setCell]
        omega
  case done =>
    rintro N W hN ⟨⟨v, hv, hr⟩, hb, hNs⟩ hK
    have hc := hv.cell
    have HR := Lib.hid hr
    have HB := Lib.hid hb
    have HK := Lib.hid hK
    have HV := Lib.hid hv
    clear hv hr hb hK
    obtain ⟨q, cap, rfl, hst⟩ := strs_own (ownsRow_putObj HR.out (.deferred none) HK.out rfl)
    gi_wp2
    refine ⟨by simp, .inl ⟨_, _, rfl, run_takeDeferred HK.out, ?_⟩⟩
    refine ⟨_, results_tmp rfl _ _ _, q, cap, rfl, ?_, ?_⟩
    · exact hst
    · exact HB.out.grown (grownBy_putObj' W _ _) HB.out.size (fun k e => by cases e; omega)
theorem partsN_len (s : ByteArray) : (partsN s).length ≤ s.size + 1 := by
  have h3 : (partsN s).length ≤ (partsF s).length := List.length_filter_le _ _
  have h4 := Lib.splitB_length_le ⟨#[10]⟩ 0 s.size s
  unfold partsF at h3
  omega
end Go.Proofs.YtmfhpddeclggfaaGreatDoor
