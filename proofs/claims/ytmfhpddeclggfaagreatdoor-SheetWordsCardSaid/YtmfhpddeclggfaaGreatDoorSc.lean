import Derived.Test.YtmfhpddeclggfaaGreatDoorPy
import Derived.Test.YtmfhpddeclggfaaGreatDoorRead
import Derived.Test.YtmfhpddeclggfaaGreatDoorSpeaks
import Derived.Maps.AppendAt
import Derived.RangeFuncNested
import Derived.RangeFuncBox
import Derived.RangeFuncBound
import Derived.RangeFuncCalls
import Derived.RangeFuncLeaves
import Derived.Shelf.Abstract
import Derived.Shelf.RegionOpen
import Derived.WalkKit
import Derived.OwnWalkIn
import Derived.TacticsInMore
import Derived.LoopNIn
import Derived.LoopIn
import Derived.Lib.Hide
import Derived.IntWalk
namespace Go.Proofs.YtmfhpddeclggfaaGreatDoor
open Go.RowKit Go.Shelf
attribute [local go_sem] Oper.semAt_some
/-- A piece that speaks of a number. -/
structure Sc where
  n : Int
  t : ByteArray
  b : Bool
/-- The cells of scraps. -/
def flatSc : List Sc → List Value
  | [] => []
  | s :: l => .int .i64 s.n :: .string s.t :: .bool s.b :: flatSc l
theorem flatSc_app (l m : List Sc) : flatSc (l ++ m) = flatSc l ++ flatSc m := by
  induction l with
  | nil => rfl
  | cons p l ih => simp [flatSc, ih]
theorem flatSc_one : ∀ {l : List Sc}, ∀ u ∈ flatSc l, u.oneCell' = true
  | [], u, h => by simp [flatSc] at h
  | p :: l, u, h => by
    simp only [flatSc, List.mem_cons] at h
    rcases h with rfl | rfl | rfl | h
    · rfl
    · rfl
    · rfl
    · exact flatSc_one u h
theorem flatSc_get : ∀ {l : List Sc} {j : Nat} {q : Sc}, l[j]? = some q → (flatSc l)[j * 3]? = some (.int .i64 q.n) ∧ (flatSc l)[j * 3 + 1]? = some (.string q.t) ∧ (flatSc l)[j * 3 + 2]? = some (.bool q.b)
  | [], _, _, h => by simp at h
  | p :: l, 0, q, h => by
    obtain rfl : p = q := by simpa using h
    exact ⟨rfl, rfl, rfl⟩
  | p :: l, j + 1, q, h => by
    have ih := flatSc_get (l := l) (j := j) (q := q) (by simpa using h)
    rw [show (j + 1) * 3 = j * 3 + 1 + 1 + 1 from by omega]
    simpa [flatSc] using ih
def sc1 (p : ByteArray) : Option Sc := match spk p.data.toList with
  | some n => some ⟨n, p, readErr p == 0⟩
  | none => none
/-- The scraps of a copy. -/
def scL (s : ByteArray) : List Sc := (partsN s).filterMap sc1
def ScP (w : World) (ss : List Sc) (e : Ending) (w' : World) : Prop := Below w.heap.size w w' ∧ ∃ v, e = .returned v ∧ w'.ownsRow w.heap.size 224 3 v ss.length (flatSc ss)
theorem inf224 : (Tryz.prog.info? 224).map (fun i => (i.zero, i.size, i.bytes)) = some (some (.agg #[.int .i64 0, .string ⟨#[]⟩, .bool false]), 3, 32) := by kernel_rfl
theorem partsN_size {s x : ByteArray} (h : x ∈ partsN s) : x.size ≤ s.size := splitB_size _ _ _ _ x ((List.mem_filter.1 h).1)
theorem boxed_below {W W' : World} {B C : Nat} {t : TypeId} {v : Value} (h : Boxed W B t v) (hb : Below C W W') (hc : B < C) : Boxed W' B t v := (hb.block B hc).trans h
theorem stay_below {W W' : World} {Q : Nat → Prop} (hb : Below W.heap.size W W') (hQ : ∀ k, Q k → k < W.heap.size) (h8 : 8 ≤ W.heap.size) : Stay (Ev Q) W W' :=
  fun k hk => hb.block k (hk.elim (fun h => by omega) (hQ k))
theorem ownsRow_keep {W W' : World} {B : Nat} {e : TypeId} {k n : Nat} {v : Value} {xs : List Value} (h : W.ownsRow B e k v n xs) (hb : Below W.heap.size W W') : W'.ownsRow B e k v n xs := by
  obtain ⟨h1, h2 | ⟨g, cap, cur, rfl, hg, hc, h3, h4, h5, h6⟩⟩ := h
  · exact ⟨h1, .inl h2⟩
  · exact ⟨h1, .inr ⟨g, cap, cur, rfl, hg, by rw [hb.block g (Array.getElem?_eq_some_iff.1 hc).1]; exact hc, h3, h4, h5, h6⟩⟩
theorem ownsRow_base {W : World} {B C : Nat} {e : TypeId} {k n : Nat} {v : Value} {xs : List Value} (h : W.ownsRow B e k v n xs) (hb : C ≤ B) : W.ownsRow C e k v n xs := by
  obtain ⟨h1, h2 | ⟨g, cap, cur, rfl, hg, hc⟩⟩ := h
  · exact ⟨h1, .inl h2⟩
  · exact ⟨h1, .inr ⟨g, cap, cur, rfl, Nat.le_trans hb hg, hc⟩⟩
/-- What reading leaves, without what it reads. -/
theorem rd_any {w : World} {N : Int} {ws : List ByteArray} {err : Int} {e : Ending} {w' : World} (h : RdP w N ws err e w') : Below w.heap.size w w' ∧ ∃ (n : Int) (p : Option Addr) (k cap : Nat), e = .returned (.tuple #[.agg #[.int .i64 n, .slice p k cap], .int .i64 err]) := by
  obtain ⟨hb, ⟨_, rfl⟩ | ⟨rfl, p, cap, rfl, _⟩⟩ := h
  · exact ⟨hb, 0, none, 0, 0, rfl⟩
  · exact ⟨hb, N, p, _, cap, rfl⟩
theorem sc_new (W : World) (b : Nat) (s : Sc) (hb : W.heap.size = b) : ∀ j u, (flatSc [s])[j]? = some u → (W.alloc (.cells #[.int .i64 s.n, .string s.t, .bool s.b] 224)).cell? ((⟨b, 0, none⟩ : Addr).add j) = some u := by
  subst hb
  intro j u hu
  have := cells_new W #[.int .i64 s.n, .string s.t, .bool s.b] 224 j u hu
  exact this
set_option maxRecDepth 100000 in
set_option maxHeartbeats 4000000 in
theorem scraps0 (s : ByteArray) (w : World) (hs : s.size ≤ 1000000) (he : Env w) : Calls Tryz.prog 139 #[.string s] w (ScP w (scL s)) := by
  refine (callsIn_wide (n := 9)).1 ?_
  refine callsIn_of_wp_marks Tryz.func139 rfl trivial ?_ rfl
  simp only [Tryz.ntmps139, List.size_toArray, List.length_cons, List.length_nil, Nat.reduceAdd, Nat.reduceSub, Array.replicate_succ, Array.replicate_zero, List.push_toArray, List.append_toArray, List.nil_append, List.cons_append]
  have HE := Lib.hid he
  have h8 := he.size
  have HS := Lib.hid hs
  clear he hs
  gi_wp2_with (refine ⟨trivial, ?_⟩; gi_at_call 97; refine (callsIn_wide.2 (pieces0 s _)).mono ?_; rintro e w' ⟨rfl, rfl⟩)
  obtain ⟨Wl, hWl⟩ : ∃ Wl, (w.alloc (.cells #[.slice none 0 0] 179)).alloc (.cells #[.string s] 9) = Wl := ⟨_, rfl⟩
  have hsz : Wl.heap.size = w.heap.size + 2 := by rw [← hWl]; simp
  have hby : Below w.heap.size w Wl := by rw [← hWl]; exact (below_alloc1 w _).alloc (by simp) _
  have hbx : Boxed Wl w.heap.size 179 (.slice none 0 0) := by rw [← hWl]; exact (Boxed.new w 179 _).alloc _
  have hcs : Wl.cell? ⟨w.heap.size + 1, 0, none⟩ = some (.string s) := by
    have := Boxed.cell (Boxed.new (w.alloc (.cells #[.slice none 0 0] 179)) 9 (.string s))
    rw [World.size_alloc] at this
    rw [← hWl]; exact this
  rw [hWl]
  clear hWl
  refine wpIn_range_N rfl (by omega) (by decide) (gf := 133) (lb := #[.pointer (some ⟨w.heap.size + 1, 0, none⟩)]) rfl trivial (enters_of Tryz.func133 (by kernel_rfl) rfl)
    (enc := Value.string) (xs := partsN s) (fun W hb => pieces1 8 (by decide) (w.heap.size + 1) s HS.out W (HE.out.next (hby.trans (hb.mono (by omega)))) ((hb.cell (p := ⟨w.heap.size + 1, 0, none⟩) (by show w.heap.size + 1 < _; omega)).trans hcs) (by have := hb.size; omega)) rfl
    (fun N pre W => (∃ v, Boxed W w.heap.size 179 v ∧ W.ownsRow N 224 3 v (pre.filterMap sc1).length (flatSc (pre.filterMap sc1))) ∧ Below w.heap.size w W ∧ N ≤ W.heap.size) (fun _ _ _ => False) ?_ (fun _ _ _ _ _ h => h.elim) ?_
    (fun x => { tmps := #[Value.string s, undef, Value.slice none 0 0, Value.pointer (some { block := w.heap.size, off := 0 }), Value.string x,
          undef, undef, undef, undef, Value.string s,
          Value.func (Fn.func 133) #[] #[Value.pointer (some { block := w.heap.size + 1, off := 0 })], Value.string x, undef,
          undef, undef, undef, undef, undef, undef, undef, undef, undef, undef, undef, undef, undef, undef, undef,
          undef, undef, undef, undef], defers := [] }) ?assign ?body ?done (fun _ _ _ _ _ h => h.elim)
  · rintro N p A B row ⟨⟨v, hv, hr⟩, hb, hNs⟩ hg hrow
    refine ⟨⟨v, hv.kept hg (fun e => by have := hrow _ e.symm; omega), hr.kept hg ?_⟩, hb.grown hg (by have := hb.size; omega) (fun k e => by have := hrow _ e; omega), Nat.le_trans hNs hg.size⟩
    cases hvb : v.ownBlock with
    | none => exact .inl rfl
    | some g => exact .inr (fun e => by have h1 := (hr.lt g hvb).1; have h2 := hrow g e.symm; omega)
  · intro N W hb _ hNs
    exact ⟨⟨_, boxed_below hbx hb (by omega), World.ownsRow_nil _ _ _ _⟩, hby.trans (hb.mono (by omega)), hNs⟩
  case assign =>
    intro l2 x W K hK
    gi_wp2
    exact hK
  case body =>
    rintro l2 N pre x W hN ⟨⟨v, hv, hr⟩, hb, hNs⟩ hpre
    have hxs : x.size ≤ 1000000 := Nat.le_trans (partsN_size (hpre.subset (by simp))) HS.out
    have CS := sSpeaks x W hxs (HE.out.next hb)
    have HV := Lib.hid hv
    have HR := Lib.hid hr
    have HB := Lib.hid hb
    have HP := Lib.hid hpre
    clear hv hr hb hpre
    cases ho : spk x.data.toList with
    | none =>
      rw [ho] at CS
      simp only [spRes, Option.getD_none, Option.isSome_none] at CS
      have HF : Hid ((pre ++ [x]).filterMap sc1 = pre.filterMap sc1) := by unfold Hid; rw [List.filterMap_append]; simp [sc1, ho]
      clear ho
      gi_wp2_with (refine ⟨trivial, ?_⟩; gi_at_call 42; refine (CallsIn.inRound l2 (callsIn_wide.2 CS)).mono ?_; rintro e w1 ⟨rfl, hb1⟩; have HB1 := Lib.hid hb1; clear hb1 CS)
      have hbW := HB.out.size
      exact ⟨stay_below HB1.out (fun k hk => by omega) (by omega), ⟨v, boxed_below HV.out HB1.out (by omega), by rw [HF.out]; exact ownsRow_keep HR.out HB1.out⟩, HB.out.trans (HB1.out.mono hbW), Nat.le_trans hNs HB1.out.size⟩
    | some nn =>
      rw [ho] at CS
      simp only [spRes, Option.getD_some, Option.isSome_some] at CS
      obtain ⟨er, her⟩ : ∃ er, readErr x = er := ⟨_, rfl⟩
      have HF : Hid ((pre ++ [x]).filterMap sc1 = pre.filterMap sc1 ++ [⟨nn, x, er == 0⟩]) := by unfold Hid; rw [List.filterMap_append]; simp [sc1, ho, her]
      have CR : ∀ W2, Below w.heap.size w W2 → Calls Tryz.prog 33 #[.string x] W2 fun e w' => Below W2.heap.size W2 w' ∧ ∃ (n : Int) (p : Option Addr) (k cap : Nat), e = .returned (.tuple #[.agg #[.int .i64 n, .slice p k cap], .int .i64 er]) := by
        intro W2 hb2
        have := sRead x W2 hxs (HE.out.next hb2)
        rw [her] at this
        exact this.mono fun _ _ h => rd_any h
      have HCR := Lib.hid CR
      have hWlt : w.heap.size < W.heap.size := HV.out.lt
      have HNR : Hid (some w.heap.size ≠ v.ownBlock) := HV.out.not_row (by decide) HR.out
      obtain ⟨i0, hi, hz0, hz1, hz2⟩ := info_parts inf224
      have hlen : (pre.filterMap sc1).length ≤ 1000001 := by
        have h1 := List.length_filterMap_le sc1 pre
        have h2 := HP.out.length_le
        have h3 : (partsN s).length ≤ (partsF s).length := List.length_filter_le _ _
        have h4 := Lib.splitB_length_le ⟨#[10]⟩ 0 s.size s
        have h5 := HS.out
        unfold partsF at h3
        rw [List.length_append] at h2
        omega
      have HLm : Hid ((pre.filterMap sc1).length + 1 ≤ maxLen) := by unfold Hid maxLen; omega
      have HLb : Hid (((pre.filterMap sc1).length + 1) * 32 ≤ 140737488355328) := by unfold Hid; omega
      clear hlen
      clear ho her CR
      gi_wp2_with (first
        | (refine ⟨trivial, ?_⟩; gi_at_call 42; refine (CallsIn.inRound l2 (callsIn_wide.2 CS)).mono ?_; rintro e w1 ⟨rfl, hb1⟩; have HB1 := Lib.hid hb1; clear hb1 CS)
        | (refine ⟨trivial, ?_⟩; gi_at_call 33; refine (CallsIn.inRound l2 (callsIn_wide.2 (HCR.out _ (HB.out.trans (HB1.out.mono HB.out.size))))).mono ?_; rintro e w2 ⟨hb2, n', p', k', cap', rfl⟩; have HB2 := Lib.hid hb2; have HV2 := fun o => Lib.hid ((boxed_below (boxed_below HV.out HB1.out hWlt) hb2 (Nat.lt_of_lt_of_le hWlt HB1.out.size)).alloc o); have HR2 := fun o => Lib.hid ((ownsRow_keep (ownsRow_keep HR.out HB1.out) hb2).alloc o); have hc2 := fun o => (HV2 o).out.cell; have hf2 := fun o => (HV2 o).out.frozen; clear hb2)
        | (gi_at_builtin; refine (fun (h : Hid ((42 : Nat) = 42) → _) => h rfl) ?_))
      all_goals intro _
      refine wpListIn_append_own _ rfl (.tmp 23) (.tmp 29) 179 rfl N 224 i0 (.agg #[.int .i64 0, .string ⟨#[]⟩, .bool false]) 3 32 Tryz.underlying179 hi hz0 hz1 hz2 ?a1 ?a2 v (pre.filterMap sc1).length (flatSc (pre.filterMap sc1)) ?a3 ?a4 ⟨w2.heap.size + 1, 0, none⟩ 1 1 (flatSc [⟨nn, x, er == 0⟩]) ?a5 ?a6 ?a7 flatSc_one ?a8 ?a9 ?a10 ?a11
      case a1 => rfl
      case a2 => decide
      case a3 => rfl
      case a4 => exact (HR2 _).out.alloc _
      case a5 => rfl
      case a6 => rfl
      case a7 => exact sc_new _ _ ⟨nn, x, er == 0⟩ (by simp)
      case a8 => exact HLm.out
      case a9 => exact HLb.out
      case a10 => (have h1 := HB1.out.size; have h2 := HB2.out.size; simp only [World.size_alloc]; omega)
      case a11 =>
        intro v' w4 hown' hgrow _
        obtain ⟨g', cap', rfl⟩ := ownsRow_succ hown'
        have HV4 := Lib.hid (((HV2 _).out.alloc _).kept hgrow HNR.out)
        have hc4 := HV4.out.cell
        have hf4 := HV4.out.frozen
        have HO := Lib.hid hown'
        have HG := Lib.hid hgrow
        clear hown' hgrow
        gi_wp2
        have s1 := HB1.out.size
        have s2 := HB2.out.size
        have s0 := HB.out.size
        have s4 := HG.out.size
        simp only [World.size_alloc] at s4
        have hal : ∀ (a b : Obj) k, k < w2.heap.size → ((w2.alloc a).alloc b).heap[k]? = w2.heap[k]? := fun a b k hk => (Below.heap_alloc _ _ k (by rw [World.size_alloc]; omega)).trans (Below.heap_alloc _ _ k hk)
        have hlt : ∀ g, v.ownBlock = some g → N ≤ g := fun g hg => (HR.out.lt g hg).1
        refine ⟨fun k hk => ?_, ⟨_, HV4.out.set _, ?_⟩, ?_, ?_⟩
        · have hkN : k < N := by rcases hk with h | h <;> omega
          have hkw : k ≠ w.heap.size := by rcases hk with h | h <;> omega
          refine ((grownBy_setCell' w4 w.heap.size _).block k (by omega) (fun e => hkw (Option.some.inj e))).trans ?_
          refine (HG.out.block k (by simp only [World.size_alloc]; omega) (fun e => by have := hlt k e.symm; omega)).trans ?_
          exact (hal _ _ k (by omega)).trans ((HB2.out.block k (by omega)).trans (HB1.out.block k (by omega)))
        · rw [HF.out, List.length_append, flatSc_app]
          exact HO.out.kept (grownBy_setCell' w4 w.heap.size _) (.inr (HV4.out.not_row (by decide) HO.out).symm)
        · have b2 : Below w.heap.size w w2 := (HB.out.trans (HB1.out.mono s0)).trans (HB2.out.mono (by omega))
          refine (((b2.alloc (by omega) _).alloc (by simp only [World.size_alloc]; omega) _).grown HG.out (by simp only [World.size_alloc]; omega) (fun k e => by have := hlt k e; omega)).setCell (p := ⟨w.heap.size, 0, none⟩) (Nat.le_refl _) _
        · show N ≤ (w4.setCell _ _).heap.size
          simp only [World.size_setCell]
          omega
  case done =>
    rintro N W hN ⟨⟨v, hv, hr⟩, hb, hNs⟩ hK
    have hc := hv.cell
    have HR := Lib.hid hr
    have HB := Lib.hid hb
    have HK := Lib.hid hK
    have HV := Lib.hid hv
    clear hv hr hb hK
    gi_wp2
    refine ⟨by simp, .inl ⟨_, _, rfl, run_takeDeferred HK.out, ?_⟩⟩
    refine ⟨_, results_tmp rfl _ _ _, ?_, _, rfl, ?_⟩
    · exact HB.out.grown (grownBy_putObj' W _ _) HB.out.size (fun k e => by cases e; omega)
    · exact ownsRow_base (ownsRow_putObj HR.out _ HK.out rfl) (by omega)
end Go.Proofs.YtmfhpddeclggfaaGreatDoor
