import Derived.Test.YtmfhpddeclggfaaGreatDoorVIfa
import Derived.Maps.Own
import Derived.Maps.OwnOps
import Derived.Maps.OwnSet
import Derived.Lib.SlKeysI
import Derived.RangeFuncNested
import Derived.RangeFuncBound
import Derived.RangeFuncCalls
import Derived.RangeFuncLeaves
import Derived.RangeFuncBox
import Derived.Shelf.Abstract
import Derived.Shelf.RegionOpen
import Derived.OwnWalkIn
import Derived.TacticsInMore
import Derived.LoopNIn
import Derived.LoopIn
import Derived.Maps.AppendAt
import Derived.Maps.OwnIn
import Derived.RegionIn
import Derived.BigRegionIn
import Derived.Stop.RegionWithIn
import Derived.WalkKit
import Derived.LoopTactic
import Derived.WalkSpells
import Derived.WalkLawsBesides
import Derived.Lib.Hide
import Derived.BigQuiet
import Derived.IntWalk
import Derived.Deep.DeepMust
import Derived.WalkSmall
import Derived.StillTailTactics
import Derived.Deep.RegionLaw
import Derived.Deep.QuietTactic
import Derived.Deep.Cut
import Derived.Deep.DeepCutAuto
import Derived.Deep.LoopGhost
import Derived.Laws.AppendOwn
import Derived.Deep.RegionHeld3
import Derived.Deep.AppendLies
import Derived.Test.YtmfhpddeclggfaaGreatDoorIfk
import Derived.Test.YtmfhpddeclggfaaGreatDoorVIfb
import Derived.Test.YtmfhpddeclggfaaGreatDoorVIg
import Derived.Test.YtmfhpddeclggfaaGreatDoorVIh
import Derived.Test.YtmfhpddeclggfaaGreatDoorVIia
namespace Go.Proofs.YtmfhpddeclggfaaGreatDoor
open Go.RowKit
/-! The book that is put together: the walk. -/
/-- A desk of short texts. -/
structure OkD (d : DS) : Prop where
  last : d.last ≤ 400
  r : ∀ n, ∀ t ∈ d.rs n, t.size ≤ 1000000
  o : ∀ n, ∀ x ∈ d.os n, x.2.size ≤ 1000000
theorem adD_ok (k : Int) (d : DS) (s : Sc) (h : OkD d) (hn : 1 ≤ s.n ∧ s.n ≤ 400) (hs : s.t.size ≤ 1000000) : OkD (adD k d s) := by
  refine ⟨by rw [adD_last]; have := h.last; omega, fun n t ht => ?_, fun n x hx => ?_⟩
  · unfold adD at ht
    split at ht
    · dsimp only at ht
      split at ht
      · split at ht
        · rcases List.mem_append.1 ht with ht | ht
          · exact h.r n t ht
          · rw [List.mem_singleton.1 ht]; exact hs
        · exact h.r n t ht
      · exact h.r n t ht
    · exact h.r n t ht
  · unfold adD at hx
    split at hx
    · exact h.o n x hx
    · dsimp only at hx
      split at hx
      · rcases List.mem_append.1 hx with hx | hx
        · exact h.o n x hx
        · rw [List.mem_singleton.1 hx]; exact hs
      · exact h.o n x hx
theorem adF_ok (k : Int) : ∀ (l : List Sc) (d : DS), OkD d → (∀ s ∈ l, 1 ≤ s.n ∧ s.n ≤ 400) → (∀ s ∈ l, s.t.size ≤ 1000000) → OkD (l.foldl (adD k) d)
  | [], _, h, _, _ => h
  | s :: l, d, h, h1, h2 => adF_ok k l (adD k d s) (adD_ok k d s h (h1 s List.mem_cons_self) (h2 s List.mem_cons_self)) (fun x hx => h1 x (List.mem_cons_of_mem _ hx)) (fun x hx => h2 x (List.mem_cons_of_mem _ hx))
theorem layF_ok (ss : List (List Sc)) (h1 : ∀ j, ∀ s ∈ ss.getD j [], 1 ≤ s.n ∧ s.n ≤ 400) (h2 : ∀ j, ∀ s ∈ ss.getD j [], s.t.size ≤ 1000000) : ∀ k, OkD (layF ss k)
  | 0 => (⟨Nat.zero_le _, fun _ _ h => (by cases h), fun _ _ h => (by cases h)⟩ : OkD ds0)
  | k + 1 => adF_ok k (ss.getD k []) (layF ss k) (layF_ok ss h1 h2 k) (h1 k) (h2 k)
theorem OkD.rj {d : DS} (h : OkD d) (n j : Nat) : ((d.rs n).getD j ByteArray.empty).size ≤ 1000000 := by
  by_cases hj : j < (d.rs n).length
  · rw [List.getD, List.getElem?_eq_getElem hj]; exact h.r n _ (List.getElem_mem hj)
  · rw [List.getD, List.getElem?_eq_none (by omega)]; exact Nat.zero_le _
theorem OkD.oj {d : DS} (h : OkD d) (n j : Nat) : ((d.os n).getD j default).2.size ≤ 1000000 := by
  by_cases hj : j < (d.os n).length
  · rw [List.getD, List.getElem?_eq_getElem hj]; exact h.o n _ (List.getElem_mem hj)
  · rw [List.getD, List.getElem?_eq_none (by omega)]; exact Nat.zero_le _
/-- A book that was put together, as it lies. -/
def BkP (W : World) (b : BV) (e : Ending) (w' : World) : Prop :=
  ∃ vl vc vg ls cs, e = .returned (.agg #[vl, vc, vg]) ∧ w'.ownsRow W.heap.size 87 4 vl ls.length (flatF ls) ∧ w'.ownsRow W.heap.size 87 4 vc cs.length (flatF cs) ∧ w'.ownsRow W.heap.size 176 2 vg b.2.2.length (cellsS b.2.2) ∧
    (∀ f, f ∈ ls ∨ f ∈ cs → StrsAt w' f.1.g.p f.1.g.ws ∧ IntsAt w' f.1.cp f.2 ∧ f.1.cn = f.2.length) ∧ ls.map kG = b.1 ∧ cs.map kG = b.2.1 ∧ Below W.heap.size W w'
theorem map_one {α β : Type} {f : α → β} {l : List α} {y : β} (h : l.map f = [y]) : ∃ x, l = [x] ∧ f x = y := by
  match l, h with
  | [x], h => exact ⟨x, rfl, by simpa using h⟩
  | [], h => simp at h
  | _ :: _ :: _, h => simp at h
theorem strs_off {W : World} {q : Option Addr} {zs : List ByteArray} {b : Nat} (h : StrsAt W q zs) (hb : ∀ o v, W.cell? ⟨b, o, none⟩ = some v → v = .slice none 0 0) : zs = [] ∨ ∀ ad, q = some ad → ad.block ≠ b := by
  rcases h with h | ⟨c, o, h1, h2, h3⟩
  · exact .inl h
  · by_cases h0 : zs = []
    · exact .inl h0
    · refine .inr (fun ad e e2 => ?_)
      rw [e] at h1; cases h1
      have h4 := h3 0 (List.length_pos_iff.2 h0)
      have e3 : c = b := e2
      subst e3
      cases hb _ _ h4
theorem ints_off {W : World} {q : Option Addr} {zs : List Int} {b : Nat} (h : IntsAt W q zs) (hb : ∀ o v, W.cell? ⟨b, o, none⟩ = some v → v = .slice none 0 0) : zs = [] ∨ ∀ ad, q = some ad → ad.block ≠ b := by
  rcases h with h | ⟨c, o, h1, h2, h3⟩
  · exact .inl h
  · by_cases h0 : zs = []
    · exact .inl h0
    · refine .inr (fun ad e e2 => ?_)
      rw [e] at h1; cases h1
      have h4 := h3 0 (List.length_pos_iff.2 h0)
      have e3 : c = b := e2
      subst e3
      cases hb _ _ h4
theorem three_only (W : World) (t : TypeId) (o : Nat) (v : Value) (h : (W.alloc (.cells #[.slice none 0 0, .slice none 0 0, .slice none 0 0] t)).cell? ⟨W.heap.size, o, none⟩ = some v) : v = .slice none 0 0 := by
  have hn := heap_alloc_new W (.cells #[.slice none 0 0, .slice none 0 0, .slice none 0 0] t)
  simp only [World.cell?, hn] at h
  match o, h with
  | 0, h => simpa using h.symm
  | 1, h => simpa using h.symm
  | 2, h => simpa using h.symm
  | o + 3, h => simp at h
set_option maxRecDepth 100000 in
set_option maxHeartbeats 4000000 in
theorem sCollate (p : Option Addr) (cap : Nat) (ss : List (List Sc)) (W : World) (hl : ss.length ≤ 8) (hn : ∀ j, ∀ s ∈ ss.getD j [], 1 ≤ s.n ∧ s.n ≤ 400) (hc : ∀ j, (ss.getD j []).length ≤ 100000) (hsz : ∀ j, ∀ s ∈ ss.getD j [], s.t.size ≤ 1000000) (hp : ShelfAt W p ss) (he : Env W) :
    Calls Tryz.prog 108 #[.slice p ss.length cap] W (BkP W (coD (layF ss ss.length) (layF ss ss.length).last)) := by
  have HE := Lib.hid he
  have LA := Lib.hid (lay_any p cap ss (W.alloc (.cells #[.slice none 0 0, .slice none 0 0, .slice none 0 0] 78)) hl hn hc (hp.below (below_alloc1 _ _)))
  have hSZ := (layF_sz ss 100000 hc ss.length).mono (show ss.length * 100000 ≤ 1000000 from Nat.le_trans (Nat.mul_le_mul_right 100000 hl) (by decide))
  have hOK := layF_ok ss hn hsz ss.length
  obtain ⟨d, hd⟩ : ∃ d, layF ss ss.length = d := ⟨_, rfl⟩
  rw [hd] at LA hSZ hOK ⊢
  have HSZ := Lib.hid hSZ
  have HOK := Lib.hid hOK
  obtain ⟨N, hN⟩ : ∃ N, Hid (ss.length = N) := ⟨_, rfl⟩
  rw [hN.out] at LA ⊢
  have r0 : ∀ w', Below (W.alloc (.cells #[.slice none 0 0, .slice none 0 0, .slice none 0 0] 78)).heap.size (W.alloc (.cells #[.slice none 0 0, .slice none 0 0, .slice none 0 0] 78)) w' → w'.cell? ⟨W.heap.size, 0, none⟩ = some (.slice none 0 0) ∧ w'.cell? ⟨W.heap.size, 1, none⟩ = some (.slice none 0 0) ∧ w'.cell? ⟨W.heap.size, 2, none⟩ = some (.slice none 0 0) ∧ ∀ o, w'.frozen? ⟨W.heap.size, o, none⟩ = false := fun w' hb =>
    ⟨(hb.cell (p := ⟨W.heap.size, 0, none⟩) (by simp)).trans (nw_at W _ 78 0 _ rfl), (hb.cell (p := ⟨W.heap.size, 1, none⟩) (by simp)).trans (nw_at W _ 78 1 _ rfl), (hb.cell (p := ⟨W.heap.size, 2, none⟩) (by simp)).trans (nw_at W _ 78 2 _ rfl), fun o => (hb.frozen (p := ⟨W.heap.size, o, none⟩) (by simp)).trans (frozen_new W _ _ o)⟩
  have HR0 := Lib.hid r0
  have HRN : Hid (∀ w', Below (W.alloc (.cells #[.slice none 0 0, .slice none 0 0, .slice none 0 0] 78)).heap.size (W.alloc (.cells #[.slice none 0 0, .slice none 0 0, .slice none 0 0] 78)) w' → ∀ o v, w'.cell? ⟨W.heap.size, o, none⟩ = some v → v = .slice none 0 0) := fun w' hb o v h => three_only W 78 o v ((hb.cell (p := ⟨W.heap.size, o, none⟩) (by simp)).symm.trans h)
  have HB1 : Hid (Below W.heap.size W (W.alloc (.cells #[.slice none 0 0, .slice none 0 0, .slice none 0 0] 78))) := below_alloc1 _ _
  obtain ⟨W1, hW1⟩ : ∃ W1, Hid (W.alloc (.cells #[.slice none 0 0, .slice none 0 0, .slice none 0 0] 78) = W1) := ⟨_, rfl⟩
  have HW1 : Hid (W1.heap.size = W.heap.size + 1) := by rw [← hW1.out]; unfold Hid; simp
  rw [hW1.out] at LA HR0 HB1 HRN
  clear r0 hSZ hOK he hp hn hc hsz
  go_enter Tryz.func108, Tryz.ntmps108
  go_wp2_with fail
  rw [hW1.out]
  refine LA.out.mono ?_
  rintro e W2 ⟨rfl, hda, hb⟩
  have DA := Lib.hid hda
  have HB2 := Lib.hid hb
  have S0 := Lib.hid (BkS.mk0 W2 78)
  clear hda hb LA
  go_wp2_with fail
  go_loopw [5] (fun i wr => ∃ (n : Nat) (vs : Fin 3 → Value) (ls cs : List (FL × List Int)) (gs : List (Int × Int)), n ≤ d.last ∧ i = .int .i64 ((n : Int) + 1) ∧ Hid (BkS W2 wr vs ls cs gs) ∧ Hid (ls.map kG = (coD d n).1) ∧ Hid (cs.map kG = (coD d n).2.1) ∧ Hid (gs = (coD d n).2.2)) (fun i _ => d.last + 1 - (nOf i).toNat)
  case atStart => exact ⟨0, _, [], [], [], Nat.zero_le _, rfl, S0, rfl, rfl, rfl⟩
  case round =>
    clear S0
    obtain ⟨n, vs, ls, cs, gs, hnl, rfl, S, L1, L2, L3⟩ := hrel
    have DAr := DA.out.below S.out.bel
    obtain ⟨R, O, V, LL, hk, -⟩ := DAr
    have cD := hk.c0
    have hlast := HOK.out.last
    clear hk
    by_cases hlt : n < d.last
    · have hlt' : (n : Int) + 1 ≤ (d.last : Int) := by omega
      have FO := Lib.hid (sFound W2 _ _ _ d (n + 1) wr DA.out S.out.bel (by omega) HSZ.out (HOK.out.rj (n + 1)) (HOK.out.oj (n + 1)) (HE.out.next (HB1.out.trans ((HB2.out.trans (S.out.bel.mono HB2.out.size)).mono HB1.out.size))))
      have HCN : Hid (coD d (n + 1) = stB d (coD d n) (n + 1)) := rfl
      have HLN := Lib.hid (coD_len d 1000000 HSZ.out n)
      have hn1 : (((n + 1 : Nat) : Int)) = (n : Int) + 1 := by omega
      rw [hn1] at FO
      clear hn1
      go_wp2_with fail
      refine FO.out.mono ?_
      rintro e w3 ⟨vo, fs, rfl, hR, hf, hP⟩
      have S3 := Lib.hid (S.out.next hR.bel)
      have FK := Lib.hid (fok_of S.out hR hP)
      have FK3 : Hid (∀ f ∈ fs, FOk w3 W2.heap.size vs f) := FK.out
      obtain ⟨q, c, rfl⟩ := own_slice2 hR.ro
      have HRO := Lib.hid hR.ro
      have HF := Lib.hid hf
      have hWr : Hid (W2.heap.size < wr.heap.size) := S.out.lt
      have HOW : Hid (∀ i g, (vs i).ownBlock = some g → g < wr.heap.size) := fun i g e => (S.out.own i g e).2
      clear hR hf hP FO S FK cD
      have hbb : Hid (W2.heap.size < w3.heap.size) := S3.out.lt
      have hcl := S3.out.cell
      have hnlb := HLN.out
      by_cases h0 : fs = []
      · subst h0
        have HCO : Hid (coD d (n + 1) = ((coD d n).1, (coD d n).2.1, exG (coD d n).2.2 ((n : Int) + 1))) := by
          have h5 : fdV d (n + 1) = [] := HF.out.symm
          unfold Hid
          rw [HCN.out, stB, h5]
          rfl
        have c2 : w3.cell? ⟨W2.heap.size, 2, none⟩ = some (vs 2) := hcl 2
        have hgl : gs.length ≤ 1000000 := by rw [L3.out]; omega
        have EX := Lib.hid (sExtend (vs 2) gs ((n : Int) + 1) (W2.heap.size + 1) w3 (S3.out.fam.own 2) hgl S3.out.lt (by omega) (by omega))
        have hne2 : some W2.heap.size ≠ (vs 2).ownBlock := fun e => by have := (S3.out.own 2 _ e.symm).1; omega
        clear hcl hgl
        go_wp2_with fail
        refine EX.out.mono ?_
        rintro e w4 ⟨v', rfl, ho, hg, ha, hs⟩
        obtain ⟨qv, cv, rfl⟩ := own_slice2 ho
        have d2 := hg.cell c2 hne2
        have f2 : w4.frozen? ⟨W2.heap.size, 2, none⟩ = false := (World.frozen?_of_block (a := ⟨W2.heap.size, 2, none⟩) (hg.block _ S3.out.lt hne2)).trans (S3.out.fz 2)
        have S5 := Lib.hid (S3.out.grow (ls' := ls) (cs' := cs) (gs' := exG gs ((n : Int) + 1)) 2 (.slice qv (exG gs ((n : Int) + 1)).length cv) (fun j hj => by
          match j, hj with
          | 0, _ => rfl
          | 1, _ => rfl
          | 2, hj => exact absurd rfl hj) ho hg (ha.imp id (fun h => ⟨_, h, Nat.le_succ _⟩)) (fun f hf => hf.elim .inl (fun h => .inr (.inl h))))
        have L3' : Hid (exG gs ((n : Int) + 1) = (coD d (n + 1)).2.2) := by unfold Hid; rw [HCO.out, L3.out]
        have L1' : Hid (ls.map kG = (coD d (n + 1)).1) := by unfold Hid; rw [HCO.out]; exact L1.out
        have L2' : Hid (cs.map kG = (coD d (n + 1)).2.1) := by unfold Hid; rw [HCO.out]; exact L2.out
        clear ho hg ha hs EX c2 HCO S3 L1 L2 L3
        go_wp2_with fail
        exact ⟨⟨n + 1, _, ls, cs, _, by omega, by go_num, S5, L1', L2', L3'⟩, by simp [nOf]; omega⟩
      · by_cases h1 : fs.length = 1
        · obtain ⟨f, rfl⟩ := List.length_eq_one_iff.1 h1
          have HCO : Hid (coD d (n + 1) = ((coD d n).1 ++ [kG f], (coD d n).2.1, (coD d n).2.2)) := by
            have h5 : fdV d (n + 1) = [kG f] := HF.out.symm
            unfold Hid
            rw [HCN.out, stB, h5]
          have c0 : w3.cell? ⟨W2.heap.size, 0, none⟩ = some (vs 0) := hcl 0
          have f0 : w3.frozen? ⟨W2.heap.size, 0, none⟩ = false := S3.out.fz 0
          have hne0 : some W2.heap.size ≠ (vs 0).ownBlock := fun e => by have := (S3.out.own 0 _ e.symm).1; omega
          obtain ⟨g, cap2, e1, hg1, hg2, hcell⟩ := own_at (n := 1) HRO.out Nat.one_pos (by simp [flatF])
          have q0 := hcell 0 _ rfl
          have q1 := hcell 1 _ rfl
          have q2 := hcell 2 _ rfl
          have q3 := hcell 3 _ rfl
          have FKf : FOk w3 W2.heap.size vs f := FK3.out f (by simp)
          obtain ⟨rfl, rfl⟩ : q = some ⟨g, 0, none⟩ ∧ c = cap2 := by simpa using e1
          rw [show [f].length = 1 from rfl]
          obtain ⟨fn, hfn⟩ : ∃ x, f.1.g.n = x := ⟨_, rfl⟩
          obtain ⟨fp, hfp⟩ : ∃ x, f.1.g.p = x := ⟨_, rfl⟩
          obtain ⟨fl, hfl⟩ : ∃ x, f.1.g.ws.length = x := ⟨_, rfl⟩
          obtain ⟨fc, hfc⟩ : ∃ x, f.1.g.cap = x := ⟨_, rfl⟩
          obtain ⟨gp, hgp⟩ : ∃ x, f.1.cp = x := ⟨_, rfl⟩
          obtain ⟨gn, hgn⟩ : ∃ x, f.1.cn = x := ⟨_, rfl⟩
          obtain ⟨gc, hgc⟩ : ∃ x, f.1.cc = x := ⟨_, rfl⟩
          obtain ⟨fr, hfr⟩ : ∃ x, f.1.rs = x := ⟨_, rfl⟩
          have HFL : Hid (flatF [f] = [.int .i64 fn, .slice fp fl fc, .slice gp gn gc, .bool fr]) := by rw [← hfn, ← hfp, ← hfl, ← hfc, ← hgp, ← hgn, ← hgc, ← hfr]; rfl
          rw [hfn] at q0
          rw [hfp, hfl, hfc] at q1
          rw [hgp, hgn, hgc] at q2
          rw [hfr] at q3
          have HFK := Lib.hid FKf
          have HG2 := Lib.hid hg2
          have HFG : Hid (wr.heap.size ≤ g) := hg1
          clear hcell e1 hcl hfn hfp hfl hfc hgp hgn hgc hfr FKf hg2
          go_wp2_with fail
          have hO := S3.out.fam.own 0
          have aw : ∀ b, w3.heap.size ≤ b → (vs 0).ownBlock ≠ some b := fun b h e => by have := (S3.out.own 0 _ e).2; omega
          have ag : (vs 0).ownBlock ≠ some g := fun e => by have := HOW.out 0 _ e; have := HFG.out; omega
          have hbs := S3.out.lt
          have hg2 := HG2.out
          have HLm : Hid (ls.length + 1 ≤ maxLen) := by have h7 := congrArg List.length L1.out; rw [List.length_map] at h7; unfold Hid maxLen; omega
          have HLb : Hid ((ls.length + 1) * 64 ≤ 140737488355328) := by have h7 := congrArg List.length L1.out; rw [List.length_map] at h7; unfold Hid; omega
          obtain ⟨i0, hi, hz0, hz1, hz2⟩ := info_parts inf87
          have hm0 : some W2.heap.size ≠ some g := fun e => by have := HFG.out; have := hWr.out; have := Option.some.inj e; omega
          have hne0' : (vs 0).ownBlock ≠ some W2.heap.size := Ne.symm hne0
          have gb1 : g ≠ W2.heap.size := fun e => hm0 (congrArg some e.symm)
          have gb2 : W2.heap.size ≠ g := fun e => gb1 e.symm
          have HAL : Hid (w3.grownBy (w3.alloc (.cells #[.int .i64 fn, .slice fp fl fc, .slice gp gn gc, .bool fr] 87)).drew none) := grown_tr (grown_al _ _) (grown_dr _)
          have cx : (w3.alloc (.cells #[.int .i64 fn, .slice fp fl fc, .slice gp gn gc, .bool fr] 87)).cell? ⟨W2.heap.size, 0, none⟩ = some (vs 0) := cell_al c0 _
          obtain ⟨v0, hv0⟩ : ∃ v0, Hid (vs 0 = v0) := ⟨_, rfl⟩
          obtain ⟨xs0, hxs0⟩ : ∃ xs0, Hid (flatF ls = xs0) := ⟨_, rfl⟩
          have hO : w3.ownsRow (W2.heap.size + 1) 87 4 (vs 0) ls.length (flatF ls) := hO
          rw [hv0.out] at c0 cx ag hne0 hne0'
          rw [hv0.out, hxs0.out] at hO
          obtain ⟨m0, hm0l⟩ : ∃ m0, Hid (ls.length = m0) := ⟨_, rfl⟩
          rw [hm0l.out] at hO HLm HLb
          rw [show Op.load 75 (Operand.tmp 36) = id (Op.load 75 (Operand.tmp 36)) from rfl]
          go_region_held3 (fun w' => w'.cell? ⟨g, 0, none⟩ = some (.int .i64 fn) ∧ w'.cell? ⟨g, 1, none⟩ = some (.slice fp fl fc) ∧ w'.cell? ⟨g, 2, none⟩ = some (.slice gp gn gc) ∧ w'.cell? ⟨g, 3, none⟩ = some (.bool fr))
            (first
              | go_keep
              | (go_split_ands
                 refine ⟨?_, ?_, ?_, ?_⟩ <;> (first | (rw [hgrow.cell_far _ (by simp; omega) (Ne.symm ag)]; assumption) | (rw [World.cell?_setCell_other _ _ _ _ (fun e => gb2 (congrArg Addr.block e))]; assumption) | go_keep)))
            ((refine step_append_lies _ (by rfl) _ _ _ (by rfl) (W2.heap.size + 1) 87 i0 _ 4 64 Tryz.underlying75 hi hz0 hz1 hz2 rfl (by omega) v0 m0 xs0 (by rfl) ((hO.alloc _).drew)
                ⟨w3.heap.size, 0, none⟩ 1 1 [.int .i64 fn, .slice fp fl fc, .slice gp gn gc, .bool fr] (by rfl) (by rfl) (World.news_of_block (cs := #[.int .i64 fn, .slice fp fl fc, .slice gp gn gc, .bool fr]) (t := 87) (fr := (0, 0)) (heap_alloc_new w3 _)) (by simp [Value.oneCell'])
                (by omega) HLm.out HLb.out (by simp; omega) (w3.heap.size + 1) (by simp) ?_; intro gg cg w9 hown1 hgrow hat hlt9; have hc9 : w9.cell? ⟨W2.heap.size, 0, none⟩ = some v0 := hgrow.cell (cell_al c0 _) hne0; have hf9 : w9.frozen? ⟨W2.heap.size, 0, none⟩ = false := (World.frozen?_of_block (a := ⟨W2.heap.size, 0, none⟩) (hgrow.block _ (by simp; omega) hne0)).trans ((World.frozen?_of_block (a := ⟨W2.heap.size, 0, none⟩) (HAL.out.block _ hbs (by simp))).trans f0)))
          all_goals
            have hbk : Below w3.heap.size w3 (w3.alloc (.cells #[.int .i64 fn, .slice fp fl fc, .slice gp gn gc, .bool fr] 87)).drew := (below_alloc1 w3 _).drew
            have S5 := Lib.hid ((S3.out.next hbk).grow (ls' := ls ++ [f]) (cs' := cs) (gs' := gs) 0 (.slice (some ⟨gg, 0, none⟩) (m0 + 1) cg) (fun j hj => by
              match j, hj with
              | 0, hj => exact absurd rfl hj
              | 1, _ => rfl
              | 2, _ => rfl) (by show w9.ownsRow (W2.heap.size + 1) 87 4 _ (ls ++ [f]).length (flatF (ls ++ [f])); rw [List.length_append, flatF_snoc, hm0l.out, hxs0.out, HFL.out]; exact hown1) (by rw [hv0.out]; exact hgrow) (by rw [hv0.out]; exact hat.elim (fun h => .inl h.symm) (fun h => .inr ⟨_, rfl, by rw [h]; show (World.alloc _ _).heap.size ≤ _; rw [World.size_alloc]; exact Nat.le_refl _⟩)) (fun f' hf => by
                rcases hf with hf | hf
                · rcases List.mem_append.1 hf with hf | hf
                  · exact .inl hf
                  · rw [List.mem_singleton.1 hf]; exact .inr (.inr (HFK.out.below hbk))
                · exact .inr (.inl hf)))
            have L1' : Hid ((ls ++ [f]).map kG = (coD d (n + 1)).1) := by unfold Hid; rw [HCO.out, List.map_append, L1.out]; rfl
            have L2' : Hid (cs.map kG = (coD d (n + 1)).2.1) := by unfold Hid; rw [HCO.out]; exact L2.out
            have L3' : Hid (gs = (coD d (n + 1)).2.2) := by unfold Hid; rw [HCO.out]; exact L3.out
            clear hown1 hgrow hat hlt9 hbk hc9 hf9 hO aw ag HCO S3 L1 L2 L3 HFK
            go_wp2_with fail
            exact ⟨⟨n + 1, _, _, cs, gs, by omega, by go_num, S5, L1', L2', L3'⟩, by simp [nOf]; omega⟩
        · have hpos : 0 < fs.length := List.length_pos_iff.2 h0
          have h2 : 2 ≤ fs.length := by omega
          have HCO : Hid (coD d (n + 1) = ((coD d n).1, (coD d n).2.1 ++ fs.map kG, (coD d n).2.2)) := by
            have h5 : fdV d (n + 1) = fs.map kG := HF.out.symm
            unfold Hid
            rw [HCN.out, stB, h5]
            match fs, h2 with
            | a :: b :: l, _ => rfl
            | [a], h2 => simp at h2
            | [], h2 => simp at h2
          have c1 : w3.cell? ⟨W2.heap.size, 1, none⟩ = some (vs 1) := hcl 1
          have f1 : w3.frozen? ⟨W2.heap.size, 1, none⟩ = false := S3.out.fz 1
          have hne1 : some W2.heap.size ≠ (vs 1).ownBlock := fun e => by have := (S3.out.own 1 _ e.symm).1; omega
          obtain ⟨g, cap2, e1, hg1, hg2, hcell⟩ := own_at (n := fs.length) HRO.out hpos (flatF_len fs)
          have hfl2 : fs.length ≤ 1000001 := by have h7 := fdV_len d (n + 1) 1000000 HSZ.out; rw [← HF.out, List.length_map] at h7; exact h7
          obtain ⟨rfl, rfl⟩ : q = some ⟨g, 0, none⟩ ∧ c = cap2 := by simpa using e1
          have hO : w3.ownsRow (W2.heap.size + 1) 87 4 (vs 1) cs.length (flatF cs) := S3.out.fam.own 1
          obtain ⟨q1, c1', hv1⟩ := own_slice2 hO
          rw [hv1] at c1 hne1 hO
          have HV1 := Lib.hid hv1
          have hcsl : cs.length ≤ 1000000000 := by
            have h7 := congrArg List.length L2.out
            rw [List.length_map] at h7
            have h8 : n * (1000000 + 1) ≤ 400 * (1000000 + 1) := Nat.mul_le_mul_right _ (by omega)
            omega
          have HLm : Hid (cs.length + fs.length ≤ maxLen) := by unfold Hid maxLen; omega
          have HLb : Hid ((cs.length + fs.length) * 64 ≤ 140737488355328) := by unfold Hid; omega
          have HCE : Hid (∀ j u, (flatF fs)[j]? = some u → w3.cell? ((⟨g, 0, none⟩ : Addr).add j) = some u) := fun j u h => by
            rw [show (⟨g, 0, none⟩ : Addr).add j = ⟨g, j, none⟩ from by simp [Addr.add]; omega]
            exact hcell j u h
          obtain ⟨i0, hi, hz0, hz1, hz2⟩ := info_parts inf87
          have hbs := S3.out.lt
          have hk0 : ((fs.length : Int) == 0) = false := by rw [beq_eq_false_iff_ne]; omega
          have hk1 : ((fs.length : Int) == 1) = false := by rw [beq_eq_false_iff_ne]; omega
          have HFL4 := Lib.hid (flatF_len fs)
          obtain ⟨K, hK⟩ : ∃ K, Hid (fs.length = K) := ⟨_, rfl⟩
          rw [hK.out] at hk0 hk1 HLm HLb HFL4 ⊢
          clear hcell e1 hcl hg2 hv1 h2 hcsl hfl2
          go_wp2_with (at_builtin; refine wpList_append_own_at _ rfl (.tmp 23) (.tmp 24) 75 rfl (W2.heap.size + 1) 87 i0 (.agg #[.int .i64 0, .slice none 0 0, .slice none 0 0, .bool false]) 4 64 Tryz.underlying75 hi hz0 hz1 hz2 rfl (by decide) (.slice q1 cs.length c1') cs.length (flatF cs) rfl hO ⟨g, 0, none⟩ K c (flatF fs) rfl HFL4.out HCE.out flatF_one HLm.out HLb.out hbs ?_; intro v' w9 hown hgrow _ hat; obtain ⟨qv, cv, rfl⟩ := own_slice2 hown; have hc9 : w9.cell? ⟨W2.heap.size, 1, none⟩ = some (.slice q1 cs.length c1') := hgrow.cell c1 hne1; have hf9 : w9.frozen? ⟨W2.heap.size, 1, none⟩ = false := (World.frozen?_of_block (a := ⟨W2.heap.size, 1, none⟩) (hgrow.block _ hbs hne1)).trans f1)
          have S5 := Lib.hid (S3.out.grow (ls' := ls) (cs' := cs ++ fs) (gs' := gs) 1 (.slice qv (cs.length + K) cv) (fun j hj => by
            match j, hj with
            | 0, _ => rfl
            | 1, hj => exact absurd rfl hj
            | 2, _ => rfl) (by show w9.ownsRow (W2.heap.size + 1) 87 4 _ (cs ++ fs).length (flatF (cs ++ fs)); rw [List.length_append, flatF_snoc, hK.out]; exact hown) (by rw [HV1.out]; exact hgrow) (by rw [HV1.out]; exact hat.imp id (fun h => ⟨_, h, Nat.le_refl _⟩)) (fun f' hf => by
              rcases hf with hf | hf
              · exact .inl hf
              · rcases List.mem_append.1 hf with hf | hf
                · exact .inr (.inl hf)
                · exact .inr (.inr (FK3.out f' hf))))
          have L1' : Hid (ls.map kG = (coD d (n + 1)).1) := by unfold Hid; rw [HCO.out]; exact L1.out
          have L2' : Hid ((cs ++ fs).map kG = (coD d (n + 1)).2.1) := by unfold Hid; rw [HCO.out, List.map_append, L2.out]
          have L3' : Hid (gs = (coD d (n + 1)).2.2) := by unfold Hid; rw [HCO.out]; exact L3.out
          clear hown hgrow hat HCO S3 L1 L2 L3 FK3 HRO hO HCE c1
          go_wp2_with fail
          exact ⟨⟨n + 1, _, ls, _, gs, by omega, by go_num, S5, L1', L2', L3'⟩, by simp [nOf]; omega⟩
    · obtain rfl : n = d.last := by omega
      have hlt' : ¬ (d.last : Int) + 1 ≤ (d.last : Int) := by omega
      have hW2 : Below W1.heap.size W1 wr := HB2.out.trans (S.out.bel.mono HB2.out.size)
      obtain ⟨r0, r1, r2, rf⟩ := HR0.out wr hW2
      have f0 := rf 0
      have f1 := rf 1
      have f2 := rf 2
      have c0 : wr.cell? ⟨W2.heap.size, 0, none⟩ = some (vs 0) := S.out.cell 0
      have c1 : wr.cell? ⟨W2.heap.size, 1, none⟩ = some (vs 1) := S.out.cell 1
      have c2 : wr.cell? ⟨W2.heap.size, 2, none⟩ = some (vs 2) := S.out.cell 2
      have o0 : wr.ownsRow (W2.heap.size + 1) 87 4 (vs 0) ls.length (flatF ls) := S.out.fam.own 0
      have o1 : wr.ownsRow (W2.heap.size + 1) 87 4 (vs 1) cs.length (flatF cs) := S.out.fam.own 1
      have o2 : wr.ownsRow (W2.heap.size + 1) 176 2 (vs 2) gs.length (cellsS gs) := S.out.fam.own 2
      obtain ⟨p0, k0, e0⟩ := own_slice2 o0
      obtain ⟨p1, k1, e1⟩ := own_slice2 o1
      obtain ⟨p2, k2, e2⟩ := own_slice2 o2
      rw [e0] at o0 c0
      rw [e1] at o1 c1
      rw [e2] at o2 c2
      have HO0 := Lib.hid o0
      have HO1 := Lib.hid o1
      have HO2 := Lib.hid o2
      have HBF : Hid (Below W.heap.size W wr) := HB1.out.trans (hW2.mono HB1.out.size)
      have HOF := Lib.hid (HRN.out wr hW2)
      have HWW : Hid (W.heap.size < W2.heap.size) := by have := HW1.out; have := HB2.out.size; unfold Hid; omega
      have HOKF := Lib.hid S.out.ok
      clear o0 o1 o2 e0 e1 e2 rf hW2 S
      go_wp2_with fail
      refine bodyPost_ret (v := .agg #[.slice p0 ls.length k0, .slice p1 cs.length k1, .slice p2 gs.length k2]) (by simp [results, Tryz.results108, go_sem, r0, r1, r2]) rfl ?_
      have hww := HWW.out
      have gk : ∀ {e : TypeId} {k n : Nat} {v : Value} {xs : List Value}, wr.ownsRow (W2.heap.size + 1) e k v n xs → ∀ v0 v1 v2, (((wr.setCell ⟨W.heap.size, 0, none⟩ v0).setCell ⟨W.heap.size, 1, none⟩ v1).setCell ⟨W.heap.size, 2, none⟩ v2).ownsRow W.heap.size e k v n xs := fun h v0 v1 v2 =>
        ownsRow_base (row_grown (row_grown (row_grown h (grownBy_setCellAt wr W.heap.size 0 v0) (fun r e => by have := Option.some.inj e; omega)) (grownBy_setCellAt _ W.heap.size 1 v1) (fun r e => by have := Option.some.inj e; omega)) (grownBy_setCellAt _ W.heap.size 2 v2) (fun r e => by have := Option.some.inj e; omega)) (by omega)
      refine ⟨_, _, _, ls, cs, rfl, gk HO0.out _ _ _, gk HO1.out _ _ _, by rw [← L3.out]; exact gk HO2.out _ _ _, fun f hf => ?_, L1.out, L2.out, ((HBF.out.setCell (p := ⟨W.heap.size, 0, none⟩) (Nat.le_refl _) _).setCell (p := ⟨W.heap.size, 1, none⟩) (Nat.le_refl _) _).setCell (p := ⟨W.heap.size, 2, none⟩) (Nat.le_refl _) _⟩
      have hk := HOKF.out f hf
      have hne : ∀ ad : Addr, ad.block ≠ W.heap.size → ∀ (o i : Nat), (⟨W.heap.size, o, none⟩ : Addr) ≠ ⟨ad.block, i, none⟩ := fun ad h o i e => h (congrArg Addr.block e).symm
      refine ⟨hk.s.keep (by simp only [World.size_setCell]; exact Nat.le_refl _) ((strs_off hk.s HOF.out).imp id (fun h ad e i => ?_)), hk.i.keep2 (by simp only [World.size_setCell]; exact Nat.le_refl _) ((ints_off hk.i HOF.out).imp id (fun h ad e i => ?_)), hk.n⟩
      · have := h ad e
        rw [World.cell?_setCell_other _ _ _ _ (hne ad this _ _), World.cell?_setCell_other _ _ _ _ (hne ad this _ _), World.cell?_setCell_other _ _ _ _ (hne ad this _ _)]
      · have := h ad e
        rw [World.cell?_setCell_other _ _ _ _ (hne ad this _ _), World.cell?_setCell_other _ _ _ _ (hne ad this _ _), World.cell?_setCell_other _ _ _ _ (hne ad this _ _)]
end Go.Proofs.YtmfhpddeclggfaaGreatDoor
