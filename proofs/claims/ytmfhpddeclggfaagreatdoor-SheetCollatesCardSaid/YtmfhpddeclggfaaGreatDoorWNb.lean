import Derived.Test.YtmfhpddeclggfaaGreatDoorWIfa
import Derived.Maps.Own
import Derived.Maps.OwnOps
import Derived.Maps.OwnSet
import Derived.Lib.SlKeysI
import Derived.RangeFuncNested
import Derived.RangeFuncBound
import Derived.RangeFuncCalls
import Derived.RangeFuncLeaves
import Derived.RangeFuncBox
import Derived.Shelf.Abstract
import Derived.Shelf.RegionOpen
import Derived.OwnWalkIn
import Derived.TacticsInMore
import Derived.LoopNIn
import Derived.LoopIn
import Derived.Maps.AppendAt
import Derived.Maps.OwnIn
import Derived.RegionIn
import Derived.BigRegionIn
import Derived.Stop.RegionWithIn
import Derived.WalkKit
import Derived.LoopTactic
import Derived.WalkSpells
import Derived.WalkLawsBesides
import Derived.Lib.Hide
import Derived.BigQuiet
import Derived.IntWalk
import Derived.Deep.DeepMust
import Derived.WalkSmall
import Derived.StillTailTactics
import Derived.Deep.RegionLaw
import Derived.Deep.QuietTactic
import Derived.Deep.Cut
import Derived.Deep.DeepCutAuto
import Derived.Deep.LoopGhost
import Derived.Laws.AppendOwn
import Derived.Deep.RegionHeld3
import Derived.Deep.AppendLies
import Derived.Test.YtmfhpddeclggfaaGreatDoorIfk
import Derived.Test.YtmfhpddeclggfaaGreatDoorWIfb
import Derived.Test.YtmfhpddeclggfaaGreatDoorWIg
import Derived.Test.YtmfhpddeclggfaaGreatDoorWIh
import Derived.Test.YtmfhpddeclggfaaGreatDoorWIia
import Derived.Test.YtmfhpddeclggfaaGreatDoorWIib
import Derived.Test.YtmfhpddeclggfaaGreatDoorKf
import Derived.Test.YtmfhpddeclggfaaGreatDoorWIic
import Derived.Test.YtmfhpddeclggfaaGreatDoorWc
import Derived.Test.YtmfhpddeclggfaaGreatDoorWMa
import Derived.Test.YtmfhpddeclggfaaGreatDoorWMb
import Derived.Test.YtmfhpddeclggfaaGreatDoorWCz
import Derived.Test.YtmfhpddeclggfaaGreatDoorWMc
import Derived.Test.YtmfhpddeclggfaaGreatDoorWHa
import Derived.Laws.OwnMore
import Derived.Test.YtmfhpddeclggfaaGreatDoorWCx
import Derived.Test.YtmfhpddeclggfaaGreatDoorWHh
import Derived.Test.YtmfhpddeclggfaaGreatDoorWHf
import Derived.Test.YtmfhpddeclggfaaGreatDoorWHe
import Derived.Test.YtmfhpddeclggfaaGreatDoorWHi
import Derived.Test.YtmfhpddeclggfaaGreatDoorWHd
import Derived.Test.YtmfhpddeclggfaaGreatDoorWNa
namespace Go.Proofs.YtmfhpddeclggfaaGreatDoor
open Go.RowKit
/-! The reference's readings and restored lines are the program's: plain. -/
/-- What the program's desk has of a number: the words of each line, and its copies. -/
def rdD (d : DS) (n : Nat) : List (List ByteArray × List Int) := (d.rs n).map fun t => (rdw t, d.cp n t)
theorem rdw_inj {t u : ByteArray} (ht : readErr t = 0) (hu : readErr u = 0) (hn : rdn t = rdn u) (h : rdw t = rdw u) : t = u := by
  unfold rdn at hn
  unfold rdw at h
  rw [if_pos ht, if_pos hu] at hn h
  rw [← (read_ok ht).2, ← (read_ok hu).2, hn, h]
theorem rdS_old (k : Int) (t : ByteArray) (cp : ByteArray → List Int) : ∀ l : List ByteArray, l.Nodup → (∀ u ∈ l, rdw u = rdw t → u = t) → t ∈ l →
    rdS k (l.map fun u => (rdw u, cp u)) (rdw t) = l.map fun u => (rdw u, if u = t then addL (cp u) k else cp u)
  | u :: l, hd, hi, hm => by
    rw [List.nodup_cons] at hd
    rw [List.map_cons, List.map_cons, rdS]
    by_cases e : u = t
    · subst e
      rw [if_pos rfl, if_pos rfl]
      congr 1
      refine List.map_congr_left fun v hv => ?_
      rw [if_neg (fun e => hd.1 (by rw [← e]; exact hv))]
    · rw [if_neg (fun h => e (hi u List.mem_cons_self h)), if_neg e, rdS_old k t cp l hd.2 (fun v hv => hi v (List.mem_cons_of_mem _ hv)) ((List.mem_cons.1 hm).resolve_left (fun h => e h.symm))]
theorem rdS_fresh (k : Int) (ws : List ByteArray) : ∀ st : List (List ByteArray × List Int), (∀ y ∈ st, y.1 ≠ ws) → rdS k st ws = st ++ [(ws, [k])]
  | [], _ => rfl
  | y :: st, h => by
    rw [rdS, if_neg (h y List.mem_cons_self), rdS_fresh k ws st (fun z hz => h z (List.mem_cons_of_mem _ hz))]
    rfl
/-- What scraps are: their lines can be read and have their number. -/
def ScOk (S : Sc → Prop) : Prop := ∀ s, S s → 1 ≤ s.n ∧ (s.b = true → readErr s.t = 0 ∧ rdn s.t = s.n)
theorem rdD_add {d : DS} {S : Sc → Prop} (h : InvD d S) (hS : ScOk S) (k : Int) (x : Sc) (hx : 1 ≤ x.n ∧ (x.b = true → readErr x.t = 0 ∧ rdn x.t = x.n)) (n : Nat) :
    rdD (adD k d x) n = if x.b = true ∧ x.n = n then rdS k (rdD d n) (rdw x.t) else rdD d n := by
  have hmem : ∀ u ∈ d.rs n, readErr u = 0 ∧ rdn u = n := fun u hu => by
    obtain ⟨s, g1, g2, g3, rfl⟩ := (h.rs n u).1 hu
    obtain ⟨k1, k2⟩ := hS s g1
    obtain ⟨k3, k4⟩ := k2 g2
    exact ⟨k3, by rw [k4]; omega⟩
  by_cases hb : x.b = true
  · obtain ⟨r1, r2⟩ := hx.2 hb
    by_cases hn : x.n = n
    · have hnn : x.n.toNat = n := by omega
      rw [if_pos ⟨hb, hn⟩]
      unfold adD rdD
      rw [if_pos hb]
      dsimp only
      rw [if_pos hnn.symm, hnn]
      have hinj : ∀ u ∈ d.rs n, rdw u = rdw x.t → u = x.t := fun u hu e => rdw_inj (hmem u hu).1 r1 (by rw [(hmem u hu).2, r2, hn]) e
      by_cases hc : d.cp n x.t = []
      · have hno := (h.cp n x.t).1 hc
        rw [if_pos hc, rdS_fresh k (rdw x.t) _ (fun y hy e => by
          obtain ⟨u, hu, rfl⟩ := List.mem_map.1 hy
          exact hno (by rw [← hinj u hu e]; exact hu)), List.map_append]
        congr 1
        · refine List.map_congr_left fun u hu => ?_
          rw [if_neg (fun e => hno (by rw [← e.2]; exact hu))]
        · have e9 : addL ([] : List Int) k = [k] := rfl
          simp [hc, e9]
      · have hyes : x.t ∈ d.rs n := Classical.byContradiction fun hno => hc ((h.cp n x.t).2 hno)
        rw [if_neg hc, rdS_old k x.t (d.cp n) _ (h.nd n) hinj hyes]
        refine List.map_congr_left fun u hu => ?_
        by_cases e : u = x.t
        · rw [if_pos ⟨rfl, e⟩, if_pos e]
        · rw [if_neg (fun h => e h.2), if_neg e]
    · have hnn : ¬ n = x.n.toNat := by omega
      rw [if_neg (fun h => hn h.2)]
      unfold adD rdD
      rw [if_pos hb]
      dsimp only
      rw [if_neg hnn]
      refine List.map_congr_left fun u hu => ?_
      rw [if_neg (fun h => hnn h.1)]
  · rw [if_neg (fun h => hb h.1)]
    unfold adD rdD
    rw [if_neg hb]
theorem sc1_ok {p : ByteArray} {s : Sc} (h : sc1 p = some s) : 1 ≤ s.n ∧ (s.b = true → readErr s.t = 0 ∧ rdn s.t = s.n) := by
  obtain ⟨h1, rfl, h3⟩ := sc1_some h
  refine ⟨(spk_some h1).1.1, fun hb => ?_⟩
  rw [h3] at hb
  have hr := of_decide_eq_true hb
  refine ⟨hr, ?_⟩
  unfold rdn
  rw [if_pos hr]
  exact read_num hr h1
theorem sc1_line {p : ByteArray} (h : readErr p = 0) : sc1 p = some ⟨rdn p, p, true⟩ := by
  obtain ⟨h1, h2⟩ := read_ok h
  have h3 := spk_line h1
  have h4 : p.data.toList = lineT (lineN p) (lineWs p) := by rw [← h2, bs_list, h2]
  unfold sc1
  rw [h4, h3]
  dsimp only
  unfold rdn
  rw [h, if_pos rfl]
  rfl
def stL (n : Nat) (k : Int) (st : List (List ByteArray × List Int)) (x : ByteArray) : List (List ByteArray × List Int) := if rdn x = n then rdS k st (rdw x) else st
theorem ScOk.add {S : Sc → Prop} (h : ScOk S) {x : Sc} (hx : 1 ≤ x.n ∧ (x.b = true → readErr x.t = 0 ∧ rdn x.t = x.n)) : ScOk (fun s => S s ∨ s = x) := fun s hs => hs.elim (h s) (fun e => by rw [e]; exact hx)
theorem rdD_fold (k : Int) (n : Nat) : ∀ (ps : List ByteArray) (d : DS) (S : Sc → Prop), InvD d S → ScOk S → rdD ((ps.filterMap sc1).foldl (adD k) d) n = (lnsOf ps).foldl (stL n k) (rdD d n)
  | [], _, _, _, _ => rfl
  | p :: ps, d, S, h, hS => by
    rw [List.filterMap_cons]
    by_cases hr : readErr p = 0
    · have h1 : lnsOf (p :: ps) = p :: lnsOf ps := by
        unfold lnsOf
        rw [List.filter_cons, if_pos (by unfold isLn; rw [hr]; rfl)]
      have hx := sc1_ok (sc1_line hr)
      rw [sc1_line hr, h1]
      dsimp only
      rw [List.foldl_cons, List.foldl_cons, rdD_fold k n ps _ _ (h.add k _) (hS.add hx), rdD_add h hS k _ hx]
      unfold stL
      dsimp only
      congr 1
      by_cases e : rdn p = n
      · rw [if_pos ⟨rfl, e⟩, if_pos e]
      · rw [if_neg (fun h => e h.2), if_neg e]
    · have h1 : lnsOf (p :: ps) = lnsOf ps := by
        unfold lnsOf
        rw [List.filter_cons, if_neg (by unfold isLn; simpa using hr)]
      rw [h1]
      cases hc : sc1 p with
      | none => exact rdD_fold k n ps d S h hS
      | some s =>
        have hx := sc1_ok hc
        have hb : ¬ s.b = true := fun e => by
          have h3 := (sc1_some hc).2.2
          rw [h3] at e
          exact hr (of_decide_eq_true e)
        dsimp only
        rw [List.foldl_cons, rdD_fold k n ps _ _ (h.add k _) (hS.add hx), rdD_add h hS k _ hx, if_neg (fun e => hb e.1)]
theorem rdP_eq (n : Nat) (k : Int) : ∀ (ls : List GL) (xs : List ByteArray) (st : List (List ByteArray × List Int)), ls.map glKey = xs.map rdKey → rdP n k st ls = xs.foldl (stL n k) st
  | [], [], _, _ => rfl
  | [], _ :: _, _, h => by simp at h
  | _ :: _, [], _, h => by simp at h
  | g :: ls, x :: xs, st, h => by
    rw [List.map_cons, List.map_cons, List.cons.injEq] at h
    have h1 : g.n = rdn x ∧ g.ws = rdw x := by simpa [glKey, rdKey] using h.1
    have h2 : stR n k st g = stL n k st x := by
      unfold stR stL
      rw [h1.1, h1.2]
    show rdP n k (stR n k st g) ls = xs.foldl (stL n k) (stL n k st x)
    rw [h2]
    exact rdP_eq n k ls xs _ h.2
/-- A sorted copy is what the reference's Lines leaves of a copy. -/
structure SKey (s : SS) (c : ByteArray) : Prop where
  ls : s.ls.map glKey = (lnsOf (partsN c)).map rdKey
  os : s.os = otsOf (partsN c)
theorem inv_lay (cs : List ByteArray) : ∀ k, ∃ S, InvD (layF (cs.map scL) k) S ∧ ScOk S
  | 0 => ⟨_, inv0, fun _ h => h.elim⟩
  | k + 1 => by
    obtain ⟨S, h1, h2⟩ := inv_lay cs k
    refine ⟨_, InvD.fold k ((cs.map scL).getD k []) _ _ h1, fun s hs => hs.elim (h2 s) (fun hs => ?_)⟩
    rw [scs_getD] at hs
    split at hs
    · obtain ⟨p, -, hp⟩ := List.mem_filterMap.1 hs
      exact sc1_ok hp
    · cases hs
theorem rdC_desk (n : Nat) (ss : List SS) (cs : List ByteArray) (hk : ∀ j, j < cs.length → SKey (ss.getD j default) (cs.getD j ByteArray.empty)) : ∀ k, k ≤ cs.length → rdC n ss k = rdD (layF (cs.map scL) k) n
  | 0, _ => rfl
  | k + 1, h => by
    obtain ⟨S, h1, h2⟩ := inv_lay cs k
    rw [rdC, rdC_desk n ss cs hk k (by omega), layF, scs_getD, if_pos (by omega), scL, rdD_fold k n _ _ S h1 h2]
    exact rdP_eq n k _ _ _ (hk k (by omega)).ls
/-- The pieces of one length that a desk has of a number. -/
def otD (d : DS) (n z : Nat) : List ByteArray × List Int := ((ofL (d.os n) z).map Prod.snd, cpL (ofL (d.os n) z))
theorem cpL_add (l : List (Int × ByteArray)) (x : Int × ByteArray) : cpL (l ++ [x]) = addL (cpL l) x.1 := by
  unfold cpL
  rw [List.foldl_append]
  rfl
theorem otD_add (d : DS) (k : Int) (x : Sc) (n z : Nat) (hx : 1 ≤ x.n) : otD (adD k d x) n z = if x.b = false ∧ x.n = n ∧ x.t.size = z then ((otD d n z).1 ++ [x.t], addL (otD d n z).2 k) else otD d n z := by
  unfold adD otD
  by_cases hb : x.b = true
  · rw [if_pos hb, if_neg (fun h => by rw [hb] at h; cases h.1)]
  · rw [if_neg hb]
    dsimp only
    have hb' : x.b = false := by simpa using hb
    by_cases hn : x.n = n
    · have hnn : x.n.toNat = n := by omega
      rw [if_pos hnn.symm, ofL_snoc]
      dsimp only
      by_cases hz : x.t.size = z
      · rw [if_pos hz.symm, if_pos ⟨hb', hn, hz⟩, cpL_add, List.map_append]
        rfl
      · rw [if_neg (fun e => hz e.symm), if_neg (fun h => hz h.2.2)]
    · have hnn : ¬ n = x.n.toNat := by omega
      rw [if_neg hnn, if_neg (fun h => hn h.2.1)]
theorem sc1_other {p : ByteArray} (h : readErr p ≠ 0) : sc1 p = (spk p.data.toList).map fun n => ⟨n, p, false⟩ := by
  unfold sc1
  cases spk p.data.toList with
  | none => rfl
  | some n =>
    have : (readErr p == 0) = false := by rw [beq_eq_false_iff_ne]; exact h
    simp [this]
theorem otD_fold (k : Int) (n z : Nat) : ∀ (ps : List ByteArray) (d : DS), otD ((ps.filterMap sc1).foldl (adD k) d) n z = ofP n z k (otD d n z) (otsOf ps)
  | [], _ => rfl
  | p :: ps, d => by
    rw [List.filterMap_cons]
    by_cases hr : readErr p = 0
    · have h1 : otsOf (p :: ps) = otsOf ps := by
        unfold otsOf
        rw [List.filter_cons, if_neg (by unfold isLn; rw [hr]; simp)]
      have hx := sc1_ok (sc1_line hr)
      rw [sc1_line hr, h1]
      dsimp only
      rw [List.foldl_cons, otD_fold k n z ps, otD_add d k _ n z hx.1, if_neg (fun h => by cases h.1)]
    · have h1 : otsOf (p :: ps) = p :: otsOf ps := by
        unfold otsOf
        rw [List.filter_cons, if_pos (by unfold isLn; simpa using hr)]
      rw [h1, sc1_other hr]
      have h2 : ∀ a, ofP n z k a (p :: otsOf ps) = ofP n z k (stO n z k a p) (otsOf ps) := fun a => rfl
      rw [h2]
      cases hs : spk p.data.toList with
      | none =>
        have h3 : stO n z k (otD d n z) p = otD d n z := by
          unfold stO ofB
          rw [hs]
          rfl
        rw [h3]
        exact otD_fold k n z ps d
      | some m =>
        have hm := (spk_some hs).1.1
        simp only [Option.map_some]
        rw [List.foldl_cons, otD_fold k n z ps, otD_add d k _ n z hm]
        congr 1
        unfold stO ofB
        rw [hs]
        dsimp only
        by_cases e : m = n ∧ p.size = z
        · rw [if_pos ⟨rfl, e.1, e.2⟩, if_pos (by rw [e.1, e.2]; simp)]
        · rw [if_neg (fun h => e h.2), if_neg (fun h => by
            rw [Bool.and_eq_true] at h
            exact e ⟨by simpa using h.1, by simpa using h.2⟩)]
theorem ofC_desk (n z : Nat) (ss : List SS) (cs : List ByteArray) (hk : ∀ j, j < cs.length → SKey (ss.getD j default) (cs.getD j ByteArray.empty)) : ∀ k, k ≤ cs.length → ofC n z ss k = otD (layF (cs.map scL) k) n z
  | 0, _ => rfl
  | k + 1, h => by
    rw [ofC, ofC_desk n z ss cs hk k (by omega), layF, scs_getD, if_pos (by omega), scL, otD_fold k n z, (hk k (by omega)).os]
/-- Words and copies of a reading. -/
def kk (f : FV) : List ByteArray × List Int := (f.2.1, f.2.2.1)
theorem rs1_desk (n z : Nat) (d : DS) (hd : ∀ t ∈ (d.os n).map Prod.snd, spk t.data.toList = some (n : Int)) : rs1 n (otD d n z) = (ov1 (ofL (d.os n) z)).map kk := by
  unfold rs1 ov1 otD
  dsimp only
  by_cases h1 : (ovO ((ofL (d.os n) z).map Prod.snd)).isSome = true ∧ readErr (ovS (ovO ((ofL (d.os n) z).map Prod.snd))) = 0
  · obtain ⟨T, hT⟩ := Option.isSome_iff_exists.1 h1.1
    have hS : ovS (some T) = T := rfl
    rw [if_pos h1]
    rw [hT, hS] at h1 ⊢
    have hn := (ov_num hT (fun t ht => hd t ((ofL_txt (d.os n) z t).1 ht).1)).1
    have hr := read_num h1.2 hn
    have e1 : rdn T = n := by unfold rdn; rw [if_pos h1.2, hr]
    have e2 : rdw T = lineWs T := by unfold rdw; rw [if_pos h1.2]
    rw [if_pos ⟨h1.1, h1.2, e1⟩, e2]
    rfl
  · rw [if_neg h1, if_neg (fun h => h1 ⟨h.1, h.2.1⟩)]
    rfl
/-- What the reference has restored: for each length that was seen. -/
structure RsI (n : Nat) (ss : List SS) (a : List (List ByteArray × List Int) × List Int) (Q : Int → Prop) : Prop where
  nd : a.2.Nodup
  mem : ∀ z, z ∈ a.2 ↔ Q z
  eq : a.1 = a.2.flatMap fun z => rs1 n (ofC n z.toNat ss ss.length)
theorem rsP_inv (n : Nat) (ss : List SS) : ∀ (os : List ByteArray) (a : List (List ByteArray × List Int) × List Int) (Q : Int → Prop), RsI n ss a Q → RsI n ss (rsP n ss a os) (fun z => Q z ∨ ∃ x ∈ os, spk x.data.toList = some (n : Int) ∧ ((x.size : Nat) : Int) = z)
  | [], a, Q, h => ⟨h.nd, fun z => by
      show z ∈ a.2 ↔ _
      rw [h.mem]; simp, h.eq⟩
  | x :: os, a, Q, h => by
    have e : rsP n ss a (x :: os) = rsP n ss (stT n ss a x) os := rfl
    rw [e]
    have key : RsI n ss (stT n ss a x) (fun z => Q z ∨ (spk x.data.toList = some (n : Int) ∧ ((x.size : Nat) : Int) = z)) := by
      unfold stT
      by_cases hc : spk x.data.toList = some (n : Int) ∧ ¬ (x.size : Int) ∈ a.2
      · rw [if_pos hc]
        refine ⟨?_, fun z => ?_, ?_⟩
        · show (a.2 ++ [(x.size : Int)]).Nodup
          rw [List.nodup_append]
          refine ⟨h.nd, List.nodup_cons.2 ⟨List.not_mem_nil, List.nodup_nil⟩, fun u hu v hv e => ?_⟩
          rw [List.mem_singleton.1 hv] at e
          exact hc.2 (by rw [← e]; exact hu)
        · show z ∈ a.2 ++ [(x.size : Int)] ↔ _
          rw [List.mem_append, h.mem, List.mem_singleton]
          exact or_congr Iff.rfl ⟨fun e => ⟨hc.1, e.symm⟩, fun e => e.2.symm⟩
        · show a.1 ++ rs1 n (ofC n x.size ss ss.length) = (a.2 ++ [(x.size : Int)]).flatMap _
          rw [List.flatMap_append, h.eq]
          simp
      · rw [if_neg hc]
        refine ⟨h.nd, fun z => ?_, h.eq⟩
        rw [h.mem]
        refine ⟨.inl, fun hz => hz.elim id (fun hz => ?_)⟩
        have hm : (x.size : Int) ∈ a.2 := Classical.byContradiction fun hno => hc ⟨hz.1, hno⟩
        rw [hz.2] at hm
        exact (h.mem z).1 hm
    have h2 := rsP_inv n ss os _ _ key
    refine ⟨h2.nd, fun z => ?_, h2.eq⟩
    rw [h2.mem]
    constructor
    · rintro ((h | h) | ⟨y, hy, h⟩)
      · exact .inl h
      · exact .inr ⟨x, List.mem_cons_self, h⟩
      · exact .inr ⟨y, List.mem_cons_of_mem _ hy, h⟩
    · rintro (h | ⟨y, hy, h⟩)
      · exact .inl (.inl h)
      · rcases List.mem_cons.1 hy with rfl | hy
        · exact .inl (.inr h)
        · exact .inr ⟨y, hy, h⟩
theorem rsC_inv (n : Nat) (ss : List SS) : ∀ k, RsI n ss (rsC n ss k) (fun z => ∃ j, j < k ∧ ∃ x ∈ (ss.getD j default).os, spk x.data.toList = some (n : Int) ∧ ((x.size : Nat) : Int) = z)
  | 0 => ⟨List.nodup_nil, fun z => by simp [rsC], rfl⟩
  | k + 1 => by
    have h := rsP_inv n ss (ss.getD k default).os _ _ (rsC_inv n ss k)
    refine ⟨h.nd, fun z => ?_, h.eq⟩
    show z ∈ (rsP n ss (rsC n ss k) (ss.getD k default).os).2 ↔ _
    rw [h.mem]
    constructor
    · rintro (⟨j, hj, h⟩ | h)
      · exact ⟨j, by omega, h⟩
      · exact ⟨k, by omega, h⟩
    · rintro ⟨j, hj, hq⟩
      by_cases e : j = k
      · subst e; exact .inr hq
      · exact .inl ⟨j, by omega, hq⟩
/-- What the reference has restored of a number is what the program's desk shows, in another order. -/
theorem rs_desk (n : Nat) (ss : List SS) (cs : List ByteArray) (hl : ss.length = cs.length) (hk : ∀ j, j < cs.length → SKey (ss.getD j default) (cs.getD j ByteArray.empty)) :
    ((rsC n ss ss.length).1).Perm ((rsF ((layF (cs.map scL) cs.length).os n) (lenS ((layF (cs.map scL) cs.length).os n))).map kk) := by
  have hI := coB_inv cs
  have hC := fun z => ofC_desk n z ss cs hk cs.length (Nat.le_refl _)
  obtain ⟨d, hd⟩ : ∃ d, layF (cs.map scL) cs.length = d := ⟨_, rfl⟩
  rw [hd] at hI hC ⊢
  have hR := rsC_inv n ss ss.length
  have hsp : ∀ t ∈ (d.os n).map Prod.snd, spk t.data.toList = some (n : Int) := fun t ht => by
    obtain ⟨s, g1, -, g3, rfl⟩ := (hI.os n t).1 ht
    obtain ⟨k1, -, k3, -⟩ := scS_some g1
    rw [k1]
    congr 1
    omega
  rw [hR.eq]
  unfold rsF
  rw [List.map_flatMap]
  have h1 : (fun z : Int => rs1 n (ofC n z.toNat ss ss.length)) = fun z : Int => (ov1 (ofL (d.os n) z.toNat)).map kk := funext fun z => by
    rw [hl, hC z.toNat, rs1_desk n z.toNat d hsp]
  rw [h1]
  refine List.Perm.flatMap_right _ ?_
  have hnd : (lenS (d.os n)).Nodup := by
    unfold lenS
    exact (List.mergeSort_perm _ _).nodup_iff.2 (dd_nodup _)
  refine (List.perm_ext_iff_of_nodup hR.nd hnd).2 fun z => ?_
  rw [hR.mem]
  have hm : z ∈ lenS (d.os n) ↔ ∃ t ∈ (d.os n).map Prod.snd, ((t.size : Nat) : Int) = z := by
    unfold lenS lens
    rw [List.mem_mergeSort, dd_mem, List.mem_map]
    constructor
    · rintro ⟨x, hx, h⟩; exact ⟨x.2, List.mem_map.2 ⟨x, hx, rfl⟩, h⟩
    · rintro ⟨t, ht, h⟩
      obtain ⟨x, hx, rfl⟩ := List.mem_map.1 ht
      exact ⟨x, hx, h⟩
  rw [hm]
  constructor
  · rintro ⟨j, hj, x, hx, hs, hz⟩
    have hj2 : j < cs.length := by omega
    rw [(hk j hj2).os] at hx
    unfold otsOf at hx
    obtain ⟨hx1, hx2⟩ := List.mem_filter.1 hx
    have hr : readErr x ≠ 0 := by unfold isLn at hx2; simpa using hx2
    refine ⟨x, (hI.os n x).2 ⟨⟨n, x, false⟩, ⟨_, getD_mem hj2, ?_⟩, rfl, by simp, rfl⟩, hz⟩
    unfold scL
    refine List.mem_filterMap.2 ⟨x, hx1, ?_⟩
    rw [sc1_other hr, hs]
    rfl
  · rintro ⟨t, ht, hz⟩
    obtain ⟨s, ⟨c, hc, hs⟩, g2, g3, rfl⟩ := (hI.os n t).1 ht
    obtain ⟨j, hj, rfl⟩ := List.getElem_of_mem hc
    have hsome := scS_some (cs := cs) ⟨_, List.getElem_mem hj, hs⟩
    refine ⟨j, by omega, s.t, ?_, hsp _ ht, hz⟩
    rw [(hk j hj).os, List.getD, List.getElem?_eq_getElem hj]
    obtain ⟨p, hp, hps⟩ := List.mem_filterMap.1 hs
    obtain ⟨-, e2, e3⟩ := sc1_some hps
    rw [e2]
    unfold otsOf
    refine List.mem_filter.2 ⟨hp, ?_⟩
    rw [g2] at e3
    have hr : ¬ readErr p = 0 := of_decide_eq_false e3.symm
    unfold isLn
    simpa using hr
end Go.Proofs.YtmfhpddeclggfaaGreatDoor
