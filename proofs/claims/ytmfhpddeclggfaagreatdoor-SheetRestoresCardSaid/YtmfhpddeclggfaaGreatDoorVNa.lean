import Derived.Test.YtmfhpddeclggfaaGreatDoorVIfa
import Derived.Maps.Own
import Derived.Maps.OwnOps
import Derived.Maps.OwnSet
import Derived.Lib.SlKeysI
import Derived.RangeFuncNested
import Derived.RangeFuncBound
import Derived.RangeFuncCalls
import Derived.RangeFuncLeaves
import Derived.RangeFuncBox
import Derived.Shelf.Abstract
import Derived.Shelf.RegionOpen
import Derived.OwnWalkIn
import Derived.TacticsInMore
import Derived.LoopNIn
import Derived.LoopIn
import Derived.Maps.AppendAt
import Derived.Maps.OwnIn
import Derived.RegionIn
import Derived.BigRegionIn
import Derived.Stop.RegionWithIn
import Derived.WalkKit
import Derived.LoopTactic
import Derived.WalkSpells
import Derived.WalkLawsBesides
import Derived.Lib.Hide
import Derived.BigQuiet
import Derived.IntWalk
import Derived.Deep.DeepMust
import Derived.WalkSmall
import Derived.StillTailTactics
import Derived.Deep.RegionLaw
import Derived.Deep.QuietTactic
import Derived.Deep.Cut
import Derived.Deep.DeepCutAuto
import Derived.Deep.LoopGhost
import Derived.Laws.AppendOwn
import Derived.Deep.RegionHeld3
import Derived.Deep.AppendLies
import Derived.Test.YtmfhpddeclggfaaGreatDoorIfk
import Derived.Test.YtmfhpddeclggfaaGreatDoorVIfb
import Derived.Test.YtmfhpddeclggfaaGreatDoorVIg
import Derived.Test.YtmfhpddeclggfaaGreatDoorVIh
import Derived.Test.YtmfhpddeclggfaaGreatDoorVIia
import Derived.Test.YtmfhpddeclggfaaGreatDoorVIib
import Derived.Test.YtmfhpddeclggfaaGreatDoorKf
import Derived.Test.YtmfhpddeclggfaaGreatDoorVIic
import Derived.Test.YtmfhpddeclggfaaGreatDoorVc
import Derived.Test.YtmfhpddeclggfaaGreatDoorVMa
import Derived.Test.YtmfhpddeclggfaaGreatDoorVMb
import Derived.Test.YtmfhpddeclggfaaGreatDoorVMc
import Derived.Laws.OwnMore
namespace Go.Proofs.YtmfhpddeclggfaaGreatDoor
open Go.RowKit
/-! What a book is made of: its lines have the numbers of which their scraps speak, and can be written. -/
theorem itoa_plain (n : Int) : NoSp (64 :: Lib.itoa n) := fun c hc => by
  rcases List.mem_cons.1 hc with rfl | h
  · decide
  · exact itoa_noSp n c h
theorem cut_at {p x : List UInt8} (hp : NoSp p) : cutH (p ++ 32 :: x) = p ∧ cutF (p ++ 32 :: x) = true := by
  have h1 := index_at p x hp
  unfold cutH cutF Lib.cut
  rw [h1]
  simp
theorem spk_of {n : Int} (h1 : 1 ≤ n) (h4 : n ≤ 400) (x : List UInt8) : spk ((64 :: Lib.itoa n) ++ 32 :: x) = some n := by
  obtain ⟨e1, e2⟩ := cut_at (x := x) (itoa_plain n)
  have h64 : Lib.hasPrefix (64 :: Lib.itoa n) [64] = true := by simp [Lib.hasPrefix, List.isPrefixOf]
  unfold spk
  rw [e1, e2, mk64_at, rdInt_itoa n (by omega) (by omega), h64]
  simp [spkv, h1, h4]
theorem index_sp : ∀ (l : List UInt8) (i : Nat), Lib.index l [32] = (i : Int) → ∃ h : i < l.length, l[i] = 32
  | [], i, h => by simp [Lib.index] at h
  | b :: l, i, h => by
    unfold Lib.index at h
    split at h
    · rename_i hp
      have : i = 0 := by omega
      subst this
      refine ⟨by simp, ?_⟩
      obtain ⟨r, hr⟩ := List.isPrefixOf_iff_prefix.1 hp
      rw [List.singleton_append] at hr
      injection hr with h1 _
      exact h1.symm
    · split at h
      · omega
      · rename_i h2
        cases i with
        | zero =>
          have h3 : Lib.index l [32] = -1 := by omega
          rw [h3] at h2
          exact absurd rfl h2
        | succ i =>
          obtain ⟨g1, g2⟩ := index_sp l i (by omega)
          exact ⟨by simpa using g1, by simpa using g2⟩
theorem spk_some {l : List UInt8} {n : Int} (h : spk l = some n) : (1 ≤ n ∧ n ≤ 400) ∧ ∃ x, l = (64 :: Lib.itoa n) ++ 32 :: x := by
  unfold spk spkv at h
  split at h
  · rename_i hc
    obtain ⟨c1, c2, c3, c4⟩ := hc
    have hn : (rdInt (mk64 (cutH l))).getD 0 = n := by simpa using h
    rw [hn] at c3 c4
    refine ⟨⟨c3, c4⟩, ?_⟩
    rw [Bool.and_eq_true] at c2
    obtain ⟨p1, p2⟩ := c2
    obtain ⟨v, hv⟩ := Option.isSome_iff_exists.1 p2
    rw [hv, Option.getD_some] at hn
    subst hn
    have e1 := (rdInt_some hv).1
    unfold Lib.hasPrefix at p1
    obtain ⟨r, hr⟩ := List.isPrefixOf_iff_prefix.1 p1
    have e2 : mk64 (cutH l) = r := by
      rw [← hr]
      unfold mk64 Lib.trimPrefix Lib.hasPrefix
      rw [if_pos (List.isPrefixOf_iff_prefix.2 ⟨r, rfl⟩)]
      rfl
    rw [e2] at e1
    have e3 : cutH l = 64 :: Lib.itoa v := by rw [← hr, e1]; rfl
    unfold cutF Lib.cut at c1
    split at c1
    · rename_i h0
      unfold cutH Lib.cut at e3
      rw [if_pos h0] at e3
      obtain ⟨i, hi⟩ := Int.eq_ofNat_of_zero_le h0
      rw [hi, Int.toNat_natCast] at e3
      obtain ⟨hl1, hl2⟩ := index_sp l i hi
      refine ⟨l.drop (i + 1), ?_⟩
      dsimp only at e3
      rw [← e3]
      calc l = l.take i ++ l.drop i := (List.take_append_drop i l).symm
        _ = _ := by rw [List.drop_eq_getElem_cons hl1, hl2]
    · cases c1
  · cases h
theorem dig_63 (u : Nat) : ∀ c ∈ Lib.decDigits u, c ≠ 63 := fun c hc e => by
  have := decDigits_byte u c hc
  rw [e] at this
  exact absurd this.2 (by decide)
theorem head_63 (n : Int) : ∀ c ∈ (64 :: Lib.itoa n) ++ [32], c ≠ 63 := fun c hc => by
  rcases List.mem_append.1 hc with h | h
  · rcases List.mem_cons.1 h with rfl | h
    · decide
    · unfold Lib.itoa at h
      split at h
      · rcases List.mem_cons.1 h with rfl | h
        · decide
        · exact dig_63 _ c h
      · exact dig_63 _ c h
  · obtain rfl := List.mem_singleton.1 h
    decide
/-- What pieces show together speaks of their number. -/
theorem ov_num {ts : List ByteArray} {T : ByteArray} {n : Int} (h : ovO ts = some T) (hs : ∀ t ∈ ts, spk t.data.toList = some n) : spk T.data.toList = some n ∧ ∃ t ∈ ts, T.size = t.size := by
  unfold ovO at h
  split at h
  · cases h
  · rename_i h0
    split at h
    · rename_i hsz
      split at h
      · rename_i hall
        cases h
        have hm := getD_mem (List.length_pos_iff.2 h0)
        obtain ⟨t0, ht0⟩ : ∃ t0, ts.getD 0 ByteArray.empty = t0 := ⟨_, rfl⟩
        rw [ht0] at hm hall ⊢
        obtain ⟨⟨g1, g2⟩, x, hx⟩ := spk_some (hs t0 hm)
        have hlen : t0.data.toList.length = t0.size := by simp
        refine ⟨?_, t0, hm, by rw [bs_size, List.length_map, List.length_range]⟩
        have key : ((List.range t0.size).map fun k => lastB (colOf ts k)).take ((64 :: Lib.itoa n) ++ [32]).length = (64 :: Lib.itoa n) ++ [32] := by
          have hl : ((64 :: Lib.itoa n) ++ [32]).length ≤ t0.size := by
            rw [← hlen, hx]; simp
          refine List.ext_getElem (by simp only [List.length_take, List.length_map, List.length_range]; omega) fun i h1 h2 => ?_
          rw [List.getElem_take, List.getElem_map, List.getElem_range]
          have hi : i < t0.size := by omega
          have hone := List.all_eq_true.1 hall i (List.mem_range.2 hi)
          have hc : t0.data.toList.getD i 0 = ((64 :: Lib.itoa n) ++ [32])[i] := by
            have e1 : (64 :: Lib.itoa n) ++ 32 :: x = ((64 :: Lib.itoa n) ++ [32]) ++ x := by simp
            rw [hx, e1, List.getD, List.getElem?_append_left h2, List.getElem?_eq_getElem h2]
            rfl
          have hmem : t0.data.toList.getD i 0 ∈ colOf ts i := List.mem_map.2 ⟨t0, hm, rfl⟩
          rcases (oneB_iff _).1 hone _ hmem with h | h
          · rw [hc] at h
            exact absurd h (head_63 n _ (List.getElem_mem h2))
          · rw [← h, hc]
        have e2 : (bs ((List.range t0.size).map fun k => lastB (colOf ts k))).data.toList = (64 :: Lib.itoa n) ++ 32 :: ((List.range t0.size).map fun k => lastB (colOf ts k)).drop ((64 :: Lib.itoa n) ++ [32]).length := by
          rw [bs_list]
          calc _ = _ := (List.take_append_drop ((64 :: Lib.itoa n) ++ [32]).length _).symm
            _ = _ := by rw [key]; simp
        rw [e2]
        exact spk_of g1 g2 _
      · cases h
    · cases h
theorem spk_line {n : Int} {ws : List ByteArray} (h : lineErr n ws = 0) : spk (lineT n ws) = some n := by
  obtain ⟨h1, h2, -⟩ := lineErr_ok h
  rw [lineT_fields]
  exact spk_of h1 h2 _
/-- A text that can be read has the number of which it speaks. -/
theorem read_num {s : ByteArray} {n : Int} (h : readErr s = 0) (hn : spk s.data.toList = some n) : lineN s = n := by
  obtain ⟨h1, h2⟩ := read_ok h
  have h3 := spk_line h1
  have h4 : s.data.toList = lineT (lineN s) (lineWs s) := by rw [← h2, bs_list, h2]
  rw [h4, h3] at hn
  exact Option.some.inj hn
/-- The bytes of texts, with a line feed behind each. -/
def wtT (ts : List ByteArray) : Nat := (ts.map fun t => t.size + 1).sum
theorem wtT_app (a b : List ByteArray) : wtT (a ++ b) = wtT a + wtT b := by simp [wtT]
theorem wtT_mem : ∀ {ts : List ByteArray} {t : ByteArray}, t ∈ ts → t.size + 1 ≤ wtT ts
  | x :: ts, t, h => by
    rcases List.mem_cons.1 h with rfl | h
    · simp [wtT]
    · have := wtT_mem h
      simp only [wtT, List.map_cons, List.sum_cons] at this ⊢
      omega
def wtD (d : DS) (n : Nat) : Nat := wtT (d.rs n) + wtT ((d.os n).map Prod.snd)
theorem line_size {s : ByteArray} (h : readErr s = 0) : (lineT (lineN s) (lineWs s)).length = s.size := by
  have h2 := congrArg ByteArray.size (read_ok h).2
  rwa [bs_size] at h2
/-- What is found of a number: it is this number, and it can be written. -/
structure FdOk (d : DS) (n : Nat) (f : FV) : Prop where
  num : f.1 = n
  ok : lineErr f.1 f.2.1 = 0
  sz : (lineT f.1 f.2.1).length + 1 ≤ wtD d n
theorem scS_some {cs : List ByteArray} {s : Sc} (h : scS cs s) : spk s.t.data.toList = some s.n ∧ (s.b = true ↔ readErr s.t = 0) ∧ 1 ≤ s.n ∧ s.n ≤ 400 := by
  obtain ⟨c, -, hs⟩ := h
  have h2 := (scL_mem hs).1
  obtain ⟨p, -, hx⟩ := List.mem_filterMap.1 hs
  obtain ⟨h3, rfl, h5⟩ := sc1_some hx
  exact ⟨h3, by rw [h5]; simp, h2⟩
theorem fdV_ok {cs : List ByteArray} {d : DS} (h : InvD d (scS cs)) (n : Nat) : ∀ f ∈ fdV d n, FdOk d n f := by
  intro f hf
  unfold fdV at hf
  split at hf
  · unfold rsD at hf
    split at hf
    · cases hf
    · unfold rsF at hf
      obtain ⟨z, -, hz⟩ := List.mem_flatMap.1 hf
      unfold ov1 at hz
      split at hz
      · rename_i hc
        obtain ⟨c1, c2⟩ := hc
        obtain ⟨T, hT⟩ := Option.isSome_iff_exists.1 c1
        have hS : ovS (some T) = T := rfl
        rw [hT, hS] at hz c2
        rw [List.mem_singleton] at hz
        have hall : ∀ t ∈ (ofL (d.os n) z.toNat).map Prod.snd, spk t.data.toList = some (n : Int) := fun t ht => by
          have ht2 := ((ofL_txt (d.os n) z.toNat t).1 ht).1
          obtain ⟨s, g1, -, g3, rfl⟩ := (h.os n t).1 ht2
          obtain ⟨k1, -, k3, -⟩ := scS_some g1
          rw [k1]
          congr 1
          omega
        obtain ⟨hn, t0, ht0, hsz⟩ := ov_num hT hall
        have hr : lineN T = n := read_num c2 hn
        have he : f.1 = lineN T ∧ f.2.1 = lineWs T := ⟨by rw [hz], by rw [hz]⟩
        refine ⟨he.1.trans hr, ?_, ?_⟩
        · rw [he.1, he.2]
          exact (read_ok c2).1
        · rw [he.1, he.2, line_size c2, hsz]
          have := wtT_mem ((ofL_txt (d.os n) z.toNat t0).1 ht0).1
          unfold wtD
          omega
      · cases hz
  · obtain ⟨t, ht, rfl⟩ := List.mem_map.1 hf
    obtain ⟨s, g1, g2, g3, rfl⟩ := (h.rs n t).1 ht
    obtain ⟨k1, k2, k3, -⟩ := scS_some g1
    have hr := k2.1 g2
    have e1 : rdn s.t = lineN s.t := if_pos hr
    have e2 : rdw s.t = lineWs s.t := if_pos hr
    refine ⟨?_, ?_, ?_⟩
    · show rdn s.t = n
      rw [e1, read_num hr k1]
      omega
    · show lineErr (rdn s.t) (rdw s.t) = 0
      rw [e1, e2]
      exact (read_ok hr).1
    · show (lineT (rdn s.t) (rdw s.t)).length + 1 ≤ wtD d n
      rw [e1, e2, line_size hr]
      have := wtT_mem ht
      unfold wtD
      omega
def wS (l : List Sc) : Nat := (l.map fun s => s.t.size + 1).sum
def swD (d : DS) (K : Nat) : Nat := ((List.range K).map (wtD d)).sum
theorem wtD_add (k : Int) (d : DS) (s : Sc) (n : Nat) : wtD (adD k d s) n ≤ wtD d n + if n = s.n.toNat then s.t.size + 1 else 0 := by
  unfold adD wtD
  split
  · dsimp only
    split
    · split
      · rw [wtT_app]; simp [wtT]; omega
      · omega
    · omega
  · dsimp only
    split
    · rw [List.map_append, wtT_app]; simp [wtT]; omega
    · omega
theorem swD_add (k : Int) (d : DS) (s : Sc) : ∀ K, swD (adD k d s) K ≤ swD d K + (if s.n.toNat < K then s.t.size + 1 else 0)
  | 0 => by simp [swD]
  | K + 1 => by
    have ih := swD_add k d s K
    have h1 := wtD_add k d s K
    unfold swD at ih ⊢
    rw [List.range_succ, List.map_append, List.sum_append, List.map_append, List.sum_append]
    simp only [List.map_cons, List.map_nil, List.sum_cons, List.sum_nil, Nat.add_zero]
    by_cases h2 : s.n.toNat < K
    · rw [if_pos h2] at ih
      rw [if_neg (by omega)] at h1
      rw [if_pos (by omega)]
      omega
    · rw [if_neg h2] at ih
      by_cases h3 : K = s.n.toNat
      · rw [if_pos h3] at h1
        rw [if_pos (by omega)]
        omega
      · rw [if_neg h3] at h1
        omega
theorem swD_fold (k : Int) (K : Nat) : ∀ (l : List Sc) (d : DS), swD (l.foldl (adD k) d) K ≤ swD d K + wS l
  | [], d => by simp [wS]
  | s :: l, d => by
    have h1 := swD_fold k K l (adD k d s)
    have h2 := swD_add k d s K
    rw [List.foldl_cons]
    have h3 : wS (s :: l) = s.t.size + 1 + wS l := by simp [wS]
    have h4 : (if s.n.toNat < K then s.t.size + 1 else 0) ≤ s.t.size + 1 := by split <;> omega
    omega
theorem spl_sum (l : List UInt8) : ((spL 10 l).map fun p => p.length + 1).sum = l.length + 1 := by
  obtain ⟨p, ps, h1, h2⟩ := spL_join 10 l
  rw [h1]
  have h3 : ∀ ps : List (List UInt8), (ps.flatMap ((10 : UInt8) :: ·)).length = (ps.map fun p => p.length + 1).sum := fun ps => by
    induction ps with
    | nil => rfl
    | cons q qs ih => simp [List.flatMap_cons, ih]; omega
  rw [List.map_cons, List.sum_cons, ← h3 ps]
  have h4 := congrArg List.length h2
  rw [List.length_append] at h4
  omega
theorem parts_spl (s : ByteArray) : (partsF s).map (·.data.toList) = spL 10 s.data.toList := splitB_spL 10 s.size s (Nat.le_refl _)
theorem wS_le (c : ByteArray) : wS (scL c) ≤ c.size + 1 := by
  have h1 : wtT (partsF c) = c.size + 1 := by
    have h2 := spl_sum c.data.toList
    rw [← parts_spl, List.map_map] at h2
    have h3 : c.data.toList.length = c.size := by simp
    rw [h3] at h2
    rw [← h2]
    unfold wtT
    congr 1
  have h4 : ∀ l : List ByteArray, wtT (l.filter full) ≤ wtT l := fun l => by
    induction l with
    | nil => exact Nat.le_refl _
    | cons x l ih =>
      rw [List.filter_cons]
      simp only [wtT, List.map_cons, List.sum_cons] at ih ⊢
      split
      · simp only [List.map_cons, List.sum_cons]; omega
      · omega
  have h5 : ∀ l : List ByteArray, wS (l.filterMap sc1) ≤ wtT l := fun l => by
    induction l with
    | nil => exact Nat.le_refl _
    | cons x l ih =>
      rw [List.filterMap_cons]
      simp only [wtT, wS, List.map_cons, List.sum_cons] at ih ⊢
      cases hx : sc1 x with
      | none => dsimp only; omega
      | some s =>
        have := (sc1_some hx).2.1
        simp only [List.map_cons, List.sum_cons]
        rw [this]
        omega
  have := h4 (partsF c)
  have := h5 (partsN c)
  unfold scL
  unfold partsN at *
  omega
theorem swD_lay (cs : List ByteArray) (K : Nat) : ∀ k, k ≤ cs.length → swD (layF (cs.map scL) k) K ≤ wtT (cs.take k)
  | 0, _ => by
    have : ∀ K, swD ds0 K = 0 := fun K => by
      induction K with
      | zero => rfl
      | succ K ih =>
        unfold swD at ih ⊢
        rw [List.range_succ, List.map_append, List.sum_append, ih]
        rfl
    rw [layF, this]
    exact Nat.zero_le _
  | k + 1, h => by
    have ih := swD_lay cs K k (by omega)
    have h1 := swD_fold (k : Int) K ((cs.map scL).getD k []) (layF (cs.map scL) k)
    rw [layF]
    rw [scs_getD, if_pos (by omega)] at h1 ⊢
    have h2 := wS_le (cs.getD k ByteArray.empty)
    rw [List.take_succ_eq_append_getElem (by omega), wtT_app]
    have h3 : cs.getD k ByteArray.empty = cs[k] := by rw [List.getD, List.getElem?_eq_getElem (by omega)]; rfl
    rw [h3] at h1 h2 ⊢
    have h4 : wtT [cs[k]] = cs[k].size + 1 := by simp [wtT]
    omega
/-- A fair copy. -/
def txB (L : List FV) : List UInt8 := L.flatMap fun f => lineT f.1 f.2.1 ++ [10]
theorem txB_app (a b : List FV) : txB (a ++ b) = txB a ++ txB b := by simp [txB]
/-- The lines of a book, in the order of their numbers. -/
structure LnOk (L : List FV) (k : Nat) : Prop where
  ok : ∀ f ∈ L, lineErr f.1 f.2.1 = 0
  le : ∀ f ∈ L, f.1 ≤ k
  up : L.Pairwise fun a b => a.1 < b.1
theorem coD_ok {cs : List ByteArray} {d : DS} (h : InvD d (scS cs)) : ∀ k, LnOk (coD d k).1 k ∧ (txB (coD d k).1).length ≤ swD d (k + 1)
  | 0 => ⟨⟨fun f hf => absurd hf List.not_mem_nil, fun f hf => absurd hf List.not_mem_nil, List.Pairwise.nil⟩, Nat.zero_le _⟩
  | k + 1 => by
    obtain ⟨h1, h2⟩ := coD_ok h k
    have h3 := fdV_ok h (k + 1)
    have hs : swD d (k + 1 + 1) = swD d (k + 1) + wtD d (k + 1) := by
      unfold swD
      rw [List.range_succ, List.map_append, List.sum_append]
      simp
    rw [hs, coD]
    have hle : ∀ f ∈ (coD d k).1, f.1 ≤ ((k + 1 : Nat) : Int) := fun f hf => by have := h1.le f hf; omega
    unfold stB
    split
    · exact ⟨⟨h1.ok, hle, h1.up⟩, by show (txB (coD d k).1).length ≤ _; omega⟩
    · rename_i f e
      rw [e] at h3
      have hf := h3 f (List.mem_singleton.2 rfl)
      refine ⟨⟨fun g hg => (List.mem_append.1 hg).elim (h1.ok g) (fun hg => by rw [List.mem_singleton.1 hg]; exact hf.ok), fun g hg => (List.mem_append.1 hg).elim (hle g) (fun hg => by rw [List.mem_singleton.1 hg, hf.num]; exact Int.le_refl _), ?_⟩, ?_⟩
      · show ((coD d k).1 ++ [f]).Pairwise _
        rw [List.pairwise_append]
        refine ⟨h1.up, List.pairwise_singleton _ _, fun a ha b hb => ?_⟩
        rw [List.mem_singleton.1 hb, hf.num]
        have := h1.le a ha
        omega
      · show (txB ((coD d k).1 ++ [f])).length ≤ _
        rw [txB_app, List.length_append]
        have := hf.sz
        have h5 : (txB [f]).length = (lineT f.1 f.2.1).length + 1 := by simp [txB]
        omega
    · exact ⟨⟨h1.ok, hle, h1.up⟩, by show (txB (coD d k).1).length ≤ _; omega⟩
/-- The lines of a book that was put together, and the size of its fair copy. -/
theorem coB_ok (cs : List ByteArray) : (∃ k, LnOk (coB cs).1 k) ∧ (txB (coB cs).1).length ≤ wtT cs := by
  obtain ⟨h1, h2⟩ := coD_ok (coB_inv cs) (layF (cs.map scL) cs.length).last
  refine ⟨⟨_, h1⟩, Nat.le_trans h2 ?_⟩
  have := swD_lay cs ((layF (cs.map scL) cs.length).last + 1) cs.length (Nat.le_refl _)
  rwa [List.take_length] at this
/-- The scraps of a fair copy. -/
def scF (f : FV) : Sc := ⟨f.1, bs (lineT f.1 f.2.1), true⟩
theorem spl_tx : ∀ (L : List FV), (∀ f ∈ L, lineErr f.1 f.2.1 = 0) → spL 10 (txB L) = L.map (fun f => lineT f.1 f.2.1) ++ [[]]
  | [], _ => rfl
  | f :: L, h => by
    have ih := spl_tx L (fun g hg => h g (List.mem_cons_of_mem _ hg))
    have h1 : txB (f :: L) = lineT f.1 f.2.1 ++ 10 :: txB L := by simp [txB]
    rw [h1, spL_cut _ (line_no_feed (h f List.mem_cons_self)), ih]
    rfl
theorem scL_tx (L : List FV) (h : ∀ f ∈ L, lineErr f.1 f.2.1 = 0) : scL (bs (txB L)) = L.map scF := by
  have h1 : partsF (bs (txB L)) = L.map (fun f => bs (lineT f.1 f.2.1)) ++ [bs []] := data_inj (by
    rw [parts_spl, bs_list, spl_tx L h, List.map_append, List.map_map]
    rfl)
  have h2 : partsN (bs (txB L)) = L.map (fun f => bs (lineT f.1 f.2.1)) := by
    unfold partsN
    rw [h1, List.filter_append]
    have h3 : (L.map fun f => bs (lineT f.1 f.2.1)).filter full = L.map fun f => bs (lineT f.1 f.2.1) := List.filter_eq_self.2 fun t ht => by
      obtain ⟨f, -, rfl⟩ := List.mem_map.1 ht
      have h5 := (lineT_lined f.1 f.2.1).len
      rw [full_size, bs_size]
      exact bne_iff_ne.2 (by omega)
    have h4 : [bs []].filter full = [] := by
      have h5 : full (bs []) = false := by rw [full_size, bs_size]; rfl
      simp [h5]
    rw [h3, h4, List.append_nil]
  unfold scL
  rw [h2, List.filterMap_map]
  have h3 : ∀ l : List FV, (∀ f ∈ l, lineErr f.1 f.2.1 = 0) → l.filterMap (sc1 ∘ fun f => bs (lineT f.1 f.2.1)) = l.map scF := fun l hl => by
    induction l with
    | nil => rfl
    | cons f l ih =>
      have h5 : sc1 (bs (lineT f.1 f.2.1)) = some (scF f) := by
        have h6 := hl f List.mem_cons_self
        have h7 := (read_line h6).2.2
        unfold sc1
        rw [bs_list, spk_line h6]
        dsimp only
        rw [h7]
        rfl
      rw [List.filterMap_cons]
      simp only [Function.comp, h5]
      rw [List.map_cons, ← ih (fun g hg => hl g (List.mem_cons_of_mem _ hg))]
  exact h3 L h
theorem upto_none : ∀ {L : List FV} {k : Nat}, (∀ f ∈ L, f.1 ≠ ((k + 1 : Nat) : Int)) → L.filter (fun f => decide (f.1 ≤ ((k + 1 : Nat) : Int))) = L.filter (fun f => decide (f.1 ≤ (k : Int))) := fun {L k} h => List.filter_congr fun f hf => by
  have := h f hf
  rw [decide_eq_decide]
  omega
theorem upto_one : ∀ {L : List FV} {k : Nat} {f : FV}, L.Pairwise (fun a b => a.1 < b.1) → f ∈ L → f.1 = ((k + 1 : Nat) : Int) → L.filter (fun f => decide (f.1 ≤ ((k + 1 : Nat) : Int))) = L.filter (fun f => decide (f.1 ≤ (k : Int))) ++ [f]
  | x :: L, k, f, hp, hm, hf => by
    obtain ⟨h1, h2⟩ := List.pairwise_cons.1 hp
    rcases List.mem_cons.1 hm with rfl | hm
    · have e1 : ∀ m : Int, m ≤ f.1 → L.filter (fun g => decide (g.1 ≤ m)) = [] := fun m hm => List.filter_eq_nil_iff.2 fun g hg => by
        have := h1 g hg
        simp
        omega
      rw [List.filter_cons, if_pos (by simp [hf]), List.filter_cons, if_neg (by simp [hf]; omega), e1 _ (by omega), e1 _ (by omega)]
      rfl
    · have hx := h1 f hm
      rw [List.filter_cons, if_pos (by simp; omega), List.filter_cons, if_pos (by simp; omega), upto_one h2 hm hf]
      rfl
theorem rsD_nil : rsD [] = [] := by
  have e : lenS [] = [] := List.length_eq_zero_iff.1 (by have := lenS_len []; simpa using this)
  unfold rsD
  rw [e]
  rfl
def kW (f : FV) : Int × List ByteArray × Bool := (f.1, f.2.1, false)
theorem fair_book (L : List FV) (m : Nat) (hL : LnOk L m) : (coB [bs (txB L)]).1.map kS = L.map kW ∧ (coB [bs (txB L)]).2.1 = [] := by
  have hI := coB_inv [bs (txB L)]
  have hS : ∀ s, scS [bs (txB L)] s ↔ ∃ f ∈ L, scF f = s := fun s => by
    unfold scS
    rw [← List.mem_map, ← scL_tx L hL.ok]
    simp
  unfold coB
  obtain ⟨d, hd⟩ : ∃ d, layF ([bs (txB L)].map scL) [bs (txB L)].length = d := ⟨_, rfl⟩
  rw [hd] at hI ⊢
  have key : ∀ k, (coD d k).1.map kS = (L.filter fun f => decide (f.1 ≤ (k : Int))).map kW ∧ (coD d k).2.1 = [] := fun k => by
    induction k with
    | zero =>
      refine ⟨?_, rfl⟩
      rw [List.filter_eq_nil_iff.2 fun f hf => by
        have := (lineErr_ok (hL.ok f hf)).1
        simp
        omega]
      rfl
    | succ k ih =>
      obtain ⟨i1, i2⟩ := ih
      have hos : d.os (k + 1) = [] := by
        rw [← List.map_eq_nil_iff (f := Prod.snd), List.eq_nil_iff_forall_not_mem]
        intro t ht
        obtain ⟨s, g1, g2, -⟩ := (hI.os (k + 1) t).1 ht
        obtain ⟨f, -, rfl⟩ := (hS s).1 g1
        cases g2
      have hrs : ∀ t, t ∈ d.rs (k + 1) ↔ ∃ f ∈ L, f.1 = ((k + 1 : Nat) : Int) ∧ bs (lineT f.1 f.2.1) = t := fun t => by
        rw [hI.rs]
        constructor
        · rintro ⟨s, g1, -, g3, rfl⟩
          obtain ⟨f, hf, rfl⟩ := (hS s).1 g1
          have h5 := (lineErr_ok (hL.ok f hf)).1
          have g4 : f.1.toNat = k + 1 := g3
          exact ⟨f, hf, by omega, rfl⟩
        · rintro ⟨f, hf, h5, rfl⟩
          exact ⟨scF f, (hS _).2 ⟨f, hf, rfl⟩, rfl, by show f.1.toNat = _; omega, rfl⟩
      rw [coD]
      by_cases h0 : d.rs (k + 1) = []
      · have hf : fdV d (k + 1) = [] := by unfold fdV; rw [if_pos h0, hos]; exact rsD_nil
        unfold stB
        rw [hf]
        refine ⟨?_, i2⟩
        dsimp only
        rw [i1, upto_none (fun f hf e => by
          have := (hrs _).2 ⟨f, hf, e, rfl⟩
          rw [h0] at this
          cases this)]
      · obtain ⟨t, ht⟩ := List.exists_mem_of_ne_nil _ h0
        obtain ⟨f, hf, hn, rfl⟩ := (hrs t).1 ht
        have huniq : ∀ u ∈ d.rs (k + 1), u = bs (lineT f.1 f.2.1) := fun u hu => by
          obtain ⟨g, hg, hgn, rfl⟩ := (hrs u).1 hu
          have h6 := upto_one hL.up hf hn
          rw [upto_one hL.up hg hgn] at h6
          have h7 := (List.append_inj' h6 rfl).2
          rw [List.singleton_inj.1 h7]
        have hone : d.rs (k + 1) = [bs (lineT f.1 f.2.1)] := by
          have hnd := hI.nd (k + 1)
          match hr : d.rs (k + 1), ht, huniq, hnd with
          | [a], _, hu, _ => rw [hu a (List.mem_singleton.2 rfl)]
          | a :: b :: l, _, hu, hnd =>
            have h8 := (List.nodup_cons.1 hnd).1
            rw [hu a List.mem_cons_self, hu b (List.mem_cons_of_mem _ List.mem_cons_self)] at h8
            exact absurd List.mem_cons_self h8
        obtain ⟨r1, r2, r3⟩ := read_line (hL.ok f hf)
        have hfd : (fdV d (k + 1)).map kS = [kW f] ∧ (fdV d (k + 1)).length = 1 := by
          unfold fdV
          rw [if_neg h0, hone]
          refine ⟨?_, rfl⟩
          have e1 : rdn (bs (lineT f.1 f.2.1)) = f.1 := by unfold rdn; rw [if_pos r3, r1]
          have e2 : rdw (bs (lineT f.1 f.2.1)) = f.2.1 := by unfold rdw; rw [if_pos r3, r2]
          simp only [List.map_cons, List.map_nil, kS, kW, e1, e2]
        obtain ⟨g, hg⟩ := List.length_eq_one_iff.1 hfd.2
        unfold stB
        rw [hg]
        refine ⟨?_, i2⟩
        dsimp only
        have h9 := hfd.1
        rw [hg] at h9
        rw [List.map_append, i1, h9, upto_one hL.up hf hn, List.map_append]
        rfl
  obtain ⟨k1, k2⟩ := key d.last
  refine ⟨?_, k2⟩
  rw [k1, List.filter_eq_self.2 fun f hf => by
    have h5 := hI.le _ ((hS _).2 ⟨f, hf, rfl⟩)
    have h6 : f.1.toNat ≤ d.last := h5
    have := (lineErr_ok (hL.ok f hf)).1
    simp
    omega]
end Go.Proofs.YtmfhpddeclggfaaGreatDoor
