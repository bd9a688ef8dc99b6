import Derived.RangeFuncNested
import Derived.RangeFuncBox
import Derived.RangeFuncBound
import Derived.RangeFuncCalls
import Derived.RangeFuncLeaves
import Derived.Shelf.Abstract
import Derived.Shelf.RegionOpen
import Derived.BigRegionIn
import Derived.Stop.RegionWithIn
import Derived.WalkKit
import Derived.OwnWalkIn
import Derived.TacticsInMore
import Derived.LoopNIn
import Derived.LoopIn
import Derived.Lib.Hide
import Derived.IntWalk
import Derived.Deep.QuietTactic
import Derived.Deep.RegionHeld3
import Derived.Deep.RegionLaw
import Derived.StillTailTactics
import Derived.WalkSmall
import Derived.Deep.DeepMust
import Derived.BigQuiet
import Derived.WalkLawsBesides
import Derived.WalkSpells
import Derived.LoopTactic
import Derived.Test.YtdefpcjlbganpaaMSort
import Derived.Test.YtdefpcjlbganpaaMDist
import Derived.Test.YtdefpcjlbganpaaSidesLaw
import Derived.Deep.DeepCutAuto
import Derived.Deep.CutBlock
import Derived.Test.YtdefpcjlbganpaaMBox
namespace Go.Proofs.Ytdefpcjlbganpaa
open Go.RowKit Go.Shelf Go.BigFrame Go.Sort
attribute [local go_sem] Oper.semAt_some
attribute [local go_sem] World.cell?_alloc_some
theorem Try.inf3 : (Try.prog.info? 3).map (fun i => (i.zero, i.size, i.bytes)) = some (some (.int .i64 0), 1, 8) := by kernel_rfl
theorem make3 (u : World) (n : Nat) (h : n ≤ 1000000) : (Instr.makeSlice 49 (.int .i64 (n : Int)) (.int .i64 (n : Int))).run Try.prog u = .ok (.slice (some ⟨u.heap.size, 0, none⟩) n n) (u.alloc (.cells (madeCells #[.int .i64 0] n) 3)) := by
  have hi := Try.inf3
  cases h0 : Try.prog.info? 3 with
  | none => rw [h0] at hi; cases hi
  | some i =>
    rw [h0] at hi
    simp only [Option.map_some, Option.some.injEq, Prod.mk.injEq] at hi
    obtain ⟨h1, h2, h3⟩ := hi
    have := run_make (P := Try.prog) u 49 3 i _ Try.underlying49 h0 h1 .i64 .i64 n n (by omega) (Int.le_refl _) (by rw [h3]; omega) (by omega)
    rw [h2] at this
    simpa [Value.cells] using this
/-- The order in which points are seen. -/
def arOrd (o : Pt) (l : List Pt) : List Int := ((List.finRange l.length).mergeSort fun x y => !(ltOf (fun i j : Fin l.length => cmpA o l i j)) y x).map fun (i : Fin l.length) => (i.val : Int)
def encI {n : Nat} (i : Fin n) : Value := .int .i64 ((i : Nat) : Int)
theorem sort_is {α : Type} (lt : α → α → Bool) (hO : SWO lt) (hT : ∀ x y, lt x y = false → lt y x = false → x = y) (l m : List α) (hp : m.Perm l) (hm : m.Pairwise fun a b => lt b a = false) : (l.mergeSort fun x y => !lt y x) = m := by
  refine List.Perm.eq_of_pairwise (le := fun a b => (!lt b a) = true) (fun a b _ _ h1 h2 => hT a b (by simpa using h2) (by simpa using h1)) (List.pairwise_mergeSort (fun a b c h1 h2 => ?_) (fun a b => ?_) l) (hm.imp fun h => by simpa using h) ((List.mergeSort_perm l _).trans hp.symm)
  · simp only [Bool.not_eq_true'] at h1 h2 ⊢
    exact hO.ntrans _ _ _ h2 h1
  · cases h1 : lt b a
    · simp
    · cases h2 : lt a b
      · simp
      · have := hO.trans _ _ _ h1 h2
        rw [hO.irrefl] at this
        cases this
theorem srtP_ex : srtP [⟨2, 1⟩, ⟨0, 0⟩, ⟨4, 0⟩, ⟨2, 0⟩, ⟨0, 3⟩] = [⟨0, 0⟩, ⟨0, 3⟩, ⟨2, 0⟩, ⟨2, 1⟩, ⟨4, 0⟩] :=
  sort_is _ swoP totP _ _ (by decide +kernel) (by decide +kernel)
theorem hullL_ex : hullL [⟨0, 0⟩, ⟨0, 3⟩, ⟨2, 0⟩, ⟨2, 1⟩, ⟨4, 0⟩] = [⟨0, 0⟩, ⟨4, 0⟩, ⟨0, 3⟩] := by decide +kernel
set_option maxRecDepth 100000 in
theorem swoA : SWO (ltOf (fun i j : Fin 4 => cmpA ⟨0, 0⟩ [⟨0, 1⟩, ⟨2, 0⟩, ⟨1, 0⟩, ⟨-1, -1⟩] i j)) := ⟨by decide +kernel, by decide +kernel, by decide +kernel⟩
theorem totA : ∀ x y : Fin 4, ltOf (fun i j : Fin 4 => cmpA ⟨0, 0⟩ [⟨0, 1⟩, ⟨2, 0⟩, ⟨1, 0⟩, ⟨-1, -1⟩] i j) x y = false → ltOf (fun i j : Fin 4 => cmpA ⟨0, 0⟩ [⟨0, 1⟩, ⟨2, 0⟩, ⟨1, 0⟩, ⟨-1, -1⟩] i j) y x = false → x = y := by decide +kernel
theorem arOrd_ex : arOrd ⟨0, 0⟩ [⟨0, 1⟩, ⟨2, 0⟩, ⟨1, 0⟩, ⟨-1, -1⟩] = [2, 1, 0, 3] := by
  exact (congrArg (List.map fun (i : Fin 4) => (i.val : Int)) (sort_is _ swoA totA (List.finRange 4) [2, 1, 0, 3] (by decide +kernel) (by decide +kernel))).trans rfl
theorem sw_grown {α : Type} [Inhabited α] (enc : α → Value) (W : World) (g off m : Nat) (dk : Array α) (os : Array Obj) : W.grownBy (sortWorld enc W g off m dk os) (some g) :=
  ⟨rfl, rfl, rfl, by simp [sortWorld, grow, putRow, mapBlock, Sort.ahead], fun k hk hne => by
    have : g ≠ k := fun e => hne (by rw [e])
    simp [sortWorld, grow, putRow, mapBlock, Sort.ahead, Array.getElem?_append, hk, Array.getElem_modify, this]⟩
set_option maxRecDepth 100000 in
set_option maxHeartbeats 8000000 in
theorem Around_any (o : Pt) (b off cap : Nat) (l : List Pt) (w : World) (h0 : 0 < l.length) (hl : l.length ≤ 200) (hok : l.all okP = true) (ho : okP o = true) (hno : o ∉ l) (hp : PtsAt w (some ⟨b, off, none⟩) l)
    (hO : SWO (ltOf (fun i j : Fin l.length => cmpA o l i j))) (hT : ∀ x y, ltOf (fun i j : Fin l.length => cmpA o l i j) x y = false → ltOf (fun i j : Fin l.length => cmpA o l i j) y x = false → x = y) :
    Calls Try.prog 41 #[o.v, .slice (some ⟨b, off, none⟩) l.length cap] w fun e w' => ∃ g, e = .returned (.tuple #[.slice (some ⟨g, 0, none⟩) l.length l.length, .int .i64 0]) ∧ IntsAt w' (some ⟨g, 0, none⟩) (arOrd o l) ∧ Below w.heap.size w w' := by
  have HP := Lib.hid hp
  have C0 : ∀ W, Below w.heap.size w W → Calls Try.prog 102 #[.slice (some ⟨b, off, none⟩) l.length cap, .int .i64 0, .int .i64 200] W fun e w' => e = .returned (.int .i64 0) ∧ Below W.heap.size W w' := fun W hb => by
    have h := checkPoints_any 0 (some ⟨b, off, none⟩) cap l W (by omega) (hp.keep hb)
    rw [ck_all (by omega) hok] at h
    exact h
  have C1 := fun W => Valid_any o W
  rw [ho] at C1
  have C2 := fun W (hb : Below w.heap.size w W) => hasP_any (some ⟨b, off, none⟩) cap l o W (by omega) (hp.keep hb)
  rw [decide_eq_false hno] at C2
  have HOT := Lib.hid (And.intro hO hT)
  have mk := fun W => make3 W l.length (by omega)
  have HL := Lib.hid (And.intro h0 hl)
  clear hp hok ho hno hO hT h0 hl
  go_enter Try.func41, Try.ntmps41
  go_wp2_with fail
  obtain ⟨W0, hW0⟩ : ∃ W0, ((w).alloc (.cells #[.int .i64 o.x, .int .i64 o.y] 23)).alloc (.cells #[.slice (some ⟨b, off, none⟩) l.length cap] 35) = W0 := ⟨_, rfl⟩
  have S0 : St w W0 [(w.heap.size + 1, 0, .slice (some ⟨b, off, none⟩) l.length cap), (w.heap.size, 0, .int .i64 o.x), (w.heap.size, 1, .int .i64 o.y)] := by rw [← hW0]; exact (((St.nil w)).box #[.int .i64 o.x, .int .i64 o.y] 23 (w.heap.size) (by simp)).box #[.slice (some ⟨b, off, none⟩) l.length cap] 35 (w.heap.size + 1) (by simp)
  rw [hW0]
  clear hW0
  obtain ⟨C, hC0, HC, LC, BC, hne⟩ := cls S0
  haveI := hne
  obtain ⟨c0, rfl⟩ : ∃ n : Wd C, W0 = n.w := ⟨⟨_, hC0⟩, rfl⟩
  have fC0 : ∀ n : Wd C, n.w.cell? ⟨w.heap.size + 1, 0, none⟩ = some (.slice (some ⟨b, off, none⟩) l.length cap) := fun n => (LC.out n).1.2.1
  have fC1 : ∀ n : Wd C, n.w.cell? ⟨w.heap.size, 0, none⟩ = some (.int .i64 o.x) := fun n => (LC.out n).2.1.2.1
  have fC2 : ∀ n : Wd C, n.w.cell? ⟨w.heap.size, 1, none⟩ = some (.int .i64 o.y) := fun n => (LC.out n).2.2.1.2.1
  clear S0 hC0
  have D0 := cinL HC BC C0
  have D1 := cin HC C1
  have D2 := cinL HC BC C2
  clear C0 C1 C2
  go_wp2_with (first | (go_at_call 102; with_reducible refine (D0 _).out.mono ?_; rintro e w' ⟨rfl, n, rfl⟩) | (go_at_call 17; with_reducible refine (D1 _).out.mono ?_; rintro e w' ⟨rfl, n, rfl⟩) | (go_at_call 111; with_reducible refine (D2 _).out.mono ?_; rintro e w' ⟨rfl, n, rfl⟩))
  obtain ⟨g, hg⟩ : ∃ g, n.w.heap.size = g := ⟨_, rfl⟩
  obtain ⟨W1, hW1⟩ : ∃ W1, n.w.alloc (.cells (madeCells #[.int .i64 0] l.length) 3) = W1 := ⟨_, rfl⟩
  have S1 : St w W1 [(w.heap.size + 1, 0, .slice (some ⟨b, off, none⟩) l.length cap), (w.heap.size, 0, .int .i64 o.x), (w.heap.size, 1, .int .i64 o.y)] := by rw [← hW1]; exact St.al ⟨BC.out n, LC.out n⟩ _
  have q1 : W1.heap[g]? = some (.cells (madeCells #[.int .i64 0] l.length) 3) := by rw [← hW1, ← hg]; exact heap_alloc_new _ _
  have hgw : w.heap.size + 1 < g := by rw [← hg]; exact (LC.out n).1.1
  rw [hW1, hg]
  have HG := Lib.hid hgw
  have HST : Hid (∃ cs, W1.heap[g]? = some (.cells cs 3) ∧ cs.size = l.length ∧ (∀ j : Nat, j < 0 → cs[j]? = some (.int .i64 (j : Int))) ∧ St w W1 [(w.heap.size + 1, 0, .slice (some ⟨b, off, none⟩) l.length cap), (w.heap.size, 0, .int .i64 o.x), (w.heap.size, 1, .int .i64 o.y)]) :=
    ⟨_, q1, by rw [size_madeCells], fun j h => absurd h (by omega), S1⟩
  clear hW1 hg S1 q1 hgw D0 D1 D2 mk LC BC HC fC0 fC1 fC2
  go_loopw [27] (fun i wr => ∃ k : Nat, i = .int .i64 (k : Int) ∧ k ≤ l.length ∧ ∃ cs, wr.heap[g]? = some (.cells cs 3) ∧ cs.size = l.length ∧ (∀ j : Nat, j < k → cs[j]? = some (.int .i64 (j : Int))) ∧ St w wr [(w.heap.size + 1, 0, .slice (some ⟨b, off, none⟩) l.length cap), (w.heap.size, 0, .int .i64 o.x), (w.heap.size, 1, .int .i64 o.y)]) (fun i _ => l.length - (intOf i).toNat)
  case atStart => exact ⟨0, rfl, by omega, HST.out⟩
  case round =>
    obtain ⟨k, rfl, hk, cs, hc1, hc2, hc3, hS⟩ := hrel
    clear HST
    have HS := Lib.hid hS
    have HC3 := Lib.hid hc3
    have HC1 := Lib.hid hc1
    have HC2 := Lib.hid hc2
    by_cases hlt : k < l.length
    · obtain ⟨u, hu⟩ : ∃ u, cs[k]? = some u := ⟨_, Array.getElem?_eq_getElem (by omega)⟩
      have f1 : wr.cell? ⟨g, k, none⟩ = some u := by simpa [World.cell?, hc1] using hu
      have z1 : wr.frozen? ⟨g, k, none⟩ = false := by simp [World.frozen?, hc1]
      have HWK : Hid (wrap64 ((k : Int) + 1) = (k : Int) + 1) := w64 (by have := HL.out; omega)
      clear hc1 hc2 hc3 hS hu
      go_wp2_with fail
      go_roundw
      case rel =>
        have hm := heap_map wr g (fun c => c.setIfInBounds k (.int .i64 (k : Int))) cs 3 HC1.out
        rw [← setCell_eq] at hm
        refine ⟨k + 1, by rw [HWK.out]; simp, by omega, _, hm, by simpa using HC2.out, fun j hj => ?_, ?_⟩
        · by_cases e : j = k
          · subst e
            have := HC2.out
            simp [this, hlt]
          · rw [Array.getElem?_setIfInBounds_ne (Ne.symm e)]
            exact HC3.out j (by omega)
        · have h := HS.out
          have hg := HG.out
          refine ⟨below_set h.b _ _ _ (by omega), Cs.setC g k _ (fun x hx => ?_) h.c⟩
          simp only [List.mem_cons, List.not_mem_nil, or_false] at hx
          rcases hx with rfl | rfl | rfl
          all_goals (left; simp only; omega)
      case measure => rw [HWK.out]; simp [intOf]; omega
    · have HK : Hid (k = l.length) := by unfold Hid; omega
      clear hc1 hc2 hc3 hS
      go_wp2_with fail
      go_at_call 112
      haveI : Inhabited (Fin l.length) := ⟨⟨0, HL.out.1⟩⟩
      have hcells : ∀ i : Fin l.length, cs[i.val]? = some (encI i) := fun i => HC3.out i.val (by have := HK.out; have := i.isLt; omega)
      have hgW : g < wr.heap.size := (Array.getElem?_eq_some_iff.1 HC1.out).1
      have hH : Holds (encI (n := l.length)) wr g 0 (List.finRange l.length).toArray := fun j hj => by
        have hj' : j < l.length := by simpa using hj
        have e : (List.finRange l.length).toArray[j]! = ⟨j, hj'⟩ := by rw [getElem!_pos _ j hj]; simp
        rw [e, Nat.zero_add]
        have h1 := hcells ⟨j, hj'⟩
        exact ⟨by simpa [World.cell?, HC1.out] using h1, by simp [World.frozen?, HC1.out]⟩
      have hcmp : CmpLays1 Try.prog 113 #[.pointer (some ⟨w.heap.size, 0, none⟩), .pointer (some ⟨w.heap.size + 1, 0, none⟩)] (encI (n := l.length)) (fun i j : Fin l.length => cmpA o l i j) g 0 (List.finRange l.length).toArray.size wr := fun m os dk _ x y => by
        have h := HS.out
        have hg := HG.out
        have far : ∀ (k oo : Nat) (u : Value), k ≠ g → wr.cell? ⟨k, oo, none⟩ = some u → (sortWorld encI wr g 0 m dk os).cell? ⟨k, oo, none⟩ = some u := fun k oo u hk hu => (World.cell?_of_block (a := ⟨k, oo, none⟩) ((sw_grown encI wr g 0 m dk os).block k (World.block_lt_of_cell? wr _ hu) (fun e => hk (by injection e)))).trans hu
        refine around1_gr o l x.val y.val w.heap.size (w.heap.size + 1) b off cap x.isLt y.isLt _ (far _ _ _ (by omega) h.c.2.1.2.1) (far _ _ _ (by omega) h.c.2.2.1.2.1) (far _ _ _ (by omega) h.c.1.2.1) (fun j hj => ?_)
        rcases HP.out with hnil | ⟨b', o', e, hbl, hc⟩
        · rw [hnil] at hj; cases hj
        · injection e with e
          injection e with e1 e2
          subst e1 e2
          have hq : l[j]? = some (pt l j) := by rw [List.getElem?_eq_getElem hj]; simp [pt, hj]
          obtain ⟨c1, c2⟩ := hc j _ hq
          exact ⟨far _ _ _ (by omega) ((h.b.cell (p := ⟨b, off + j * 2, none⟩) hbl).trans c1), far _ _ _ (by omega) ((h.b.cell (p := ⟨b, off + j * 2 + 1, none⟩) hbl).trans c2)⟩
      have K := Any.slices_SortFunc_total Try.sortI (encI (n := l.length)) (fun _ => rfl) (fun i j : Fin l.length => cmpA o l i j) HOT.out.1 113 #[.pointer (some ⟨w.heap.size, 0, none⟩), .pointer (some ⟨w.heap.size + 1, 0, none⟩)] g 0 l.length (List.finRange l.length).toArray wr
        (enters_of Try.func113 (by kernel_rfl) rfl) hcmp hH hgW (by simp; have := HL.out; omega) HOT.out.2
      rw [show (List.finRange l.length).toArray.size = l.length from by simp] at K
      refine K.mono ?_
      rintro e w' ⟨rfl, nn, os, rfl⟩
      have hsz : ((List.finRange l.length).mergeSort (fun x y => !(ltOf (fun i j : Fin l.length => cmpA o l i j)) y x)).toArray.size = (List.finRange l.length).toArray.size := by simp
      have hH2 := holds_sortWorld encI wr g 0 nn (List.finRange l.length).toArray _ os hgW hH hsz
      have HH2 := Lib.hid hH2
      have HBL : Hid (Below w.heap.size w (sortWorld encI wr g 0 nn ((List.finRange l.length).mergeSort fun x y => !(ltOf (fun i j : Fin l.length => cmpA o l i j)) y x).toArray os)) := by
        have hg := HG.out
        have k := sw_grown encI wr g 0 nn ((List.finRange l.length).mergeSort fun x y => !(ltOf (fun i j : Fin l.length => cmpA o l i j)) y x).toArray os
        exact HS.out.b.trans ⟨k.os, k.tape, k.output, k.size, fun i hi => k.block i (Nat.lt_of_lt_of_le hi HS.out.b.size) (fun e => by injection e with e; omega)⟩
      clear K hcmp hH hcells hgW hsz hH2
      go_wp2_with fail
      have HGW : Hid (g < wr.heap.size) := (Array.getElem?_eq_some_iff.1 HC1.out).1
      go_ret2
      refine ⟨g, rfl, ?_, HBL.out⟩
      refine .inr ⟨g, 0, rfl, Nat.lt_of_lt_of_le HGW.out (sw_grown encI wr g 0 nn _ os).size, fun j x hj => ?_⟩
      unfold arOrd at hj
      rw [List.getElem?_map] at hj
      obtain ⟨i, hi, rfl⟩ := Option.map_eq_some_iff.1 hj
      have hlt' := (List.getElem?_eq_some_iff.1 hi)
      obtain ⟨h1, h2⟩ := hlt'
      have h3 := (HH2.out j (by simpa using h1)).1
      rw [getElem!_pos _ j (by simpa using h1)] at h3
      simp only [List.getElem_toArray, h2] at h3
      exact h3
end Go.Proofs.Ytdefpcjlbganpaa
namespace Go.Proofs.Ytdefpcjlbganpaa
open Go.RowKit Go.Shelf Go.BigFrame Go.Sort
attribute [local go_sem] Oper.semAt_some
attribute [local go_sem] World.cell?_alloc_some
def hin : List Pt := [⟨2, 1⟩, ⟨0, 0⟩, ⟨4, 0⟩, ⟨2, 0⟩, ⟨0, 3⟩]
def hout : List Pt := [⟨0, 0⟩, ⟨4, 0⟩, ⟨0, 3⟩]
def ain : List Pt := [⟨0, 1⟩, ⟨2, 0⟩, ⟨1, 0⟩, ⟨-1, -1⟩]
theorem pts5 (W : World) (n : Nat) (hn : W.heap.size = n) (a b c d f : Pt) (e : TypeId) : PtsAt (W.alloc (.cells #[.int .i64 a.x, .int .i64 a.y, .int .i64 b.x, .int .i64 b.y, .int .i64 c.x, .int .i64 c.y, .int .i64 d.x, .int .i64 d.y, .int .i64 f.x, .int .i64 f.y] e)) (some ⟨n, 0, none⟩) [a, b, c, d, f] := by
  subst hn
  refine Or.inr ⟨_, 0, rfl, by simp, fun j q hq => ?_⟩
  rw [Nat.zero_add]
  match j, hq with
  | 0, rfl => exact ⟨new_at W _ _ _ _ rfl, new_at W _ _ _ _ rfl⟩
  | 1, rfl => exact ⟨new_at W _ _ _ _ rfl, new_at W _ _ _ _ rfl⟩
  | 2, rfl => exact ⟨new_at W _ _ _ _ rfl, new_at W _ _ _ _ rfl⟩
  | 3, rfl => exact ⟨new_at W _ _ _ _ rfl, new_at W _ _ _ _ rfl⟩
  | 4, rfl => exact ⟨new_at W _ _ _ _ rfl, new_at W _ _ _ _ rfl⟩
/-- The hull of the example. -/
theorem hullEx (k cap : Nat) (W : World) (hp : PtsAt W (some ⟨k, 0, none⟩) hin) : Calls Try.prog 39 #[.slice (some ⟨k, 0, none⟩) 5 cap] W fun e w' => ∃ (a : Option Addr) (c : Nat), e = .returned (.tuple #[.slice a 3 c, .int .i64 0]) ∧ PtsAt w' a hout ∧ Below W.heap.size W w' := by
  refine (Hull_distinct k 0 cap hin W (by decide) (by decide) (by decide +kernel) ?_ hp).mono ?_
  · rw [show srtP hin = [⟨0, 0⟩, ⟨0, 3⟩, ⟨2, 0⟩, ⟨2, 1⟩, ⟨4, 0⟩] from srtP_ex]
    intro j x y h1 h2
    match j, h1, h2 with
    | 0, h1, h2 => simp at h1 h2; subst h1 h2; decide
    | 1, h1, h2 => simp at h1 h2; subst h1 h2; decide
    | 2, h1, h2 => simp at h1 h2; subst h1 h2; decide
    | 3, h1, h2 => simp at h1 h2; subst h1 h2; decide
    | j + 4, h1, h2 => simp at h2
  · rintro e w' ⟨v, rfl, hP⟩
    rw [show srtP hin = [⟨0, 0⟩, ⟨0, 3⟩, ⟨2, 0⟩, ⟨2, 1⟩, ⟨4, 0⟩] from srtP_ex, hullL_ex] at hP
    obtain ⟨a, c, rfl, hq⟩ := hP.pts
    exact ⟨a, c, rfl, hq, hP.st.b⟩
/-- The order of the example. -/
theorem aroundEx (k cap : Nat) (W : World) (hp : PtsAt W (some ⟨k, 0, none⟩) ain) : Calls Try.prog 41 #[Pt.v ⟨0, 0⟩, .slice (some ⟨k, 0, none⟩) 4 cap] W fun e w' => ∃ g : Nat, e = .returned (.tuple #[.slice (some ⟨g, 0, none⟩) 4 4, .int .i64 0]) ∧ IntsAt w' (some ⟨g, 0, none⟩) [2, 1, 0, 3] ∧ Below W.heap.size W w' := by
  have K := Around_any ⟨0, 0⟩ k 0 cap ain W (by decide) (by decide) (by decide +kernel) (by decide +kernel) (by decide +kernel) hp swoA totA
  rw [show arOrd ⟨0, 0⟩ ain = [2, 1, 0, 3] from arOrd_ex] at K
  exact K
end Go.Proofs.Ytdefpcjlbganpaa
