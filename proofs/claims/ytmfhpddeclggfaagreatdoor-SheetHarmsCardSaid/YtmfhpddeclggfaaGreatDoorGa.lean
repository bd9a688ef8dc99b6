import Derived.RangeFuncNested
import Derived.RangeFuncBound
import Derived.RangeFuncCalls
import Derived.RangeFuncLeaves
import Derived.Test.YtmfhpddeclggfaaGreatDoorDb
import Derived.RangeFuncBox
import Derived.Shelf.Abstract
import Derived.Shelf.RegionOpen
import Derived.OwnWalkIn
import Derived.TacticsInMore
import Derived.LoopNIn
import Derived.LoopIn
import Derived.Maps.AppendAt
import Derived.Maps.OwnIn
import Derived.RegionIn
import Derived.BigRegionIn
import Derived.Stop.RegionWithIn
import Derived.WalkKit
import Derived.LoopTactic
import Derived.WalkSpells
import Derived.WalkLawsBesides
import Derived.Lib.Hide
import Derived.BigQuiet
import Derived.IntWalk
import Derived.Deep.DeepMust
import Derived.WalkSmall
import Derived.StillTailTactics
import Derived.Deep.RegionLaw
import Derived.Deep.QuietTactic
import Derived.Deep.Cut
import Derived.Deep.DeepCutAuto
import Derived.Deep.LoopGhost
import Derived.Laws.AppendOwn
namespace Go.Proofs.YtmfhpddeclggfaaGreatDoor
open Go.RowKit
/-! Harms, plainly. -/
open Go.Shelf
/-- A part of a copy: its bytes, whether it has a line feed, whether it is lost. -/
structure PT where
  c : List UInt8
  fd : Bool
  lo : Bool
instance : Inhabited PT := ⟨⟨[], false, false⟩⟩
structure HM where
  k : Int
  a : Int
  b : Int
  d : Int
instance : Inhabited HM := ⟨⟨0, 0, 0, 0⟩⟩
def swapAt (c : List UInt8) (n : Nat) : List UInt8 := (c.set n (c.getD (n + 1) 0)).set (n + 1) (c.getD n 0)
/-- The byte that a harm puts there. -/
def putB (h : HM) : Int := if h.k = 4 then h.d else 63
def hurt (p : PT) (h : HM) : Option PT :=
  if p.lo = true then some p
  else if h.k = 1 then some ⟨p.c, p.fd, true⟩
  else if h.k = 2 then (if 0 ≤ h.b ∧ h.b ≤ p.c.length then some ⟨p.c.take h.b.toNat, p.fd, p.lo⟩ else none)
  else if h.k = 5 then (if 0 ≤ h.b ∧ h.b < (p.c.length : Int) - 1 then some ⟨swapAt p.c h.b.toNat, p.fd, p.lo⟩ else none)
  else if 0 ≤ h.b ∧ h.b < p.c.length ∧ 0 ≤ putB h ∧ putB h ≤ 255 then some ⟨p.c.set h.b.toNat (UInt8.ofNat (putB h).toNat), p.fd, p.lo⟩ else none
def badH (n : Nat) (h : HM) : Prop := h.k < 1 ∨ 5 < h.k ∨ h.a < 0 ∨ (n : Int) ≤ h.a
instance (n : Nat) (h : HM) : Decidable (badH n h) := by unfold badH; infer_instance
def harmAll : List PT → List HM → Option (List PT)
  | ps, [] => some ps
  | ps, h :: r => if badH ps.length h then none else match hurt (ps.getD h.a.toNat default) h with
    | none => none
    | some p => harmAll (ps.set h.a.toNat p) r
def joinP (ps : List PT) : List UInt8 := ps.flatMap fun p => if p.lo = true then [] else p.c ++ (if p.fd = true then [10] else [])
def hmS (ps : List PT) (hs : List HM) : ByteArray := match harmAll ps hs with | none => ⟨#[]⟩ | some qs => bs (joinP qs)
def hmE (ps : List PT) (hs : List HM) : Int := match harmAll ps hs with | none => 1 | some _ => 0
theorem harmAll_bad {ps : List PT} {h : HM} {r : List HM} (hb : badH ps.length h) : harmAll ps (h :: r) = none := by rw [harmAll, if_pos hb]
theorem harmAll_no {ps : List PT} {h : HM} {r : List HM} (hb : hurt (ps.getD h.a.toNat default) h = none) : harmAll ps (h :: r) = none := by
  rw [harmAll]; split
  · rfl
  · rw [hb]
theorem harmAll_yes {ps : List PT} {h : HM} {r : List HM} {p : PT} (hn : ¬ badH ps.length h) (hb : hurt (ps.getD h.a.toNat default) h = some p) : harmAll ps (h :: r) = harmAll (ps.set h.a.toNat p) r := by
  rw [harmAll, if_neg hn, hb]
theorem joinP_snoc (ps : List PT) (k : Nat) (h : k < ps.length) : joinP (ps.take (k + 1)) = joinP (ps.take k) ++ (if (ps.getD k default).lo = true then [] else (ps.getD k default).c ++ (if (ps.getD k default).fd = true then [10] else [])) := by
  unfold joinP
  rw [List.take_succ_eq_append_getElem h, List.flatMap_append, List.getD, List.getElem?_eq_getElem h]
  simp
theorem joinP_len (B : Nat) : ∀ ps : List PT, (∀ p ∈ ps, p.c.length ≤ B) → (joinP ps).length ≤ (B + 1) * ps.length
  | [], _ => by simp [joinP]
  | p :: r, h => by
    have ih := joinP_len B r fun q hq => h q (List.mem_cons_of_mem _ hq)
    have h1 := h p List.mem_cons_self
    unfold joinP at ih ⊢
    rw [List.flatMap_cons, List.length_append, List.length_cons, Nat.mul_succ]
    have h2 : (if p.lo = true then [] else p.c ++ (if p.fd = true then [10] else [])).length ≤ B + 1 := by
      split
      · simp
      · rw [List.length_append]; split <;> simp <;> omega
    omega
theorem hurt_len {p q : PT} {h : HM} (e : hurt p h = some q) : q.c.length ≤ p.c.length := by
  unfold hurt at e
  split at e
  · cases e; exact Nat.le_refl _
  split at e
  · cases e; exact Nat.le_refl _
  split at e
  · split at e
    · cases e; simp; omega
    · cases e
  split at e
  · split at e
    · cases e; simp [swapAt]
    · cases e
  split at e
  · cases e; simp
  · cases e
theorem hurt_fd {p q : PT} {h : HM} (e : hurt p h = some q) : q.fd = p.fd := by
  unfold hurt at e
  split at e
  · cases e; rfl
  split at e
  · cases e; rfl
  split at e
  · split at e
    · cases e; rfl
    · cases e
  split at e
  · split at e
    · cases e; rfl
    · cases e
  split at e
  · cases e; rfl
  · cases e
/-! Parts. -/
def spF : List (List UInt8) → List PT
  | [] => []
  | [x] => if x = [] then [] else [⟨x, false, false⟩]
  | x :: y :: r => ⟨x, true, false⟩ :: spF (y :: r)
/-- The parts of a copy. -/
def partsH (s : ByteArray) : List PT := spF (spL 10 s.data.toList)
/-- What one stretch up to a line feed gives. -/
def gA (x : ByteArray) : List PT := if x.data.toList = [] then [] else [⟨Lib.trimSuffix x.data.toList [10], Lib.hasSuffix x.data.toList [10], false⟩]
def seqA (s : ByteArray) : List ByteArray := Lib.splitB ⟨#[10]⟩ 1 s.size s
theorem hasSuffix_snoc (p : List UInt8) (c : UInt8) : Lib.hasSuffix (p ++ [c]) [c] = true := by
  unfold Lib.hasSuffix
  rw [List.isSuffixOf_iff_suffix]
  exact List.suffix_append _ _
theorem hasSuffix_no {p : List UInt8} {c : UInt8} (h : ∀ x ∈ p, x ≠ c) : Lib.hasSuffix p [c] = false := by
  unfold Lib.hasSuffix
  rw [← Bool.not_eq_true, List.isSuffixOf_iff_suffix]
  rintro ⟨t, rfl⟩
  exact h c (by simp) rfl
theorem gA_feed {x : ByteArray} {p : List UInt8} (h : x.data.toList = p ++ [10]) : gA x = [⟨p, true, false⟩] := by
  unfold gA
  rw [h, if_neg (by simp), Lib.trimSuffix, hasSuffix_snoc]
  simp
theorem gA_last {x : ByteArray} (h : ∀ y ∈ x.data.toList, y ≠ 10) : gA x = spF [x.data.toList] := by
  unfold gA spF
  rw [Lib.trimSuffix, hasSuffix_no h]
  rfl
theorem spF_cons {x : List UInt8} {l : List (List UInt8)} (h : l ≠ []) : spF (x :: l) = ⟨x, true, false⟩ :: spF l := by
  cases l with
  | nil => exact absurd rfl h
  | cons y r => rfl
theorem seqA_parts : ∀ (k : Nat) (r : ByteArray), r.size ≤ k → (Lib.splitB ⟨#[10]⟩ 1 k r).flatMap gA = spF (spL 10 r.data.toList)
  | 0, r, h => by
    have h3 : r.data.toList.length = r.size := by simp
    have h4 : r.data.toList = [] := List.length_eq_zero_iff.1 (by omega)
    rw [Lib.splitB_zero, List.flatMap_cons, List.flatMap_nil, List.append_nil, gA_last (by rw [h4]; simp), h4]
    rfl
  | k + 1, r, h => by
    rcases by_split 10 r.data.toList with hn | ⟨p, x, e, hn⟩
    · rw [Lib.splitB_miss _ _ _ _ (show Lib.index r.data.toList [10] = -1 from index_no 10 _ hn), spL_none hn, List.flatMap_cons, List.flatMap_nil, List.append_nil, gA_last hn]
    · have hi : Lib.indexB r ⟨#[10]⟩ = (p.length : Nat) := by
        show Lib.index r.data.toList [10] = _
        rw [e]; exact index_hit 10 p x hn
      have hsz : r.size = p.length + (x.length + 1) := by
        have h3 : r.data.toList.length = r.size := by simp
        rw [← h3, e]; simp
      rw [Lib.splitB_hit _ _ _ _ _ hi, List.flatMap_cons]
      have e1 : (r.extract 0 (p.length + 1)).data.toList = p ++ [10] := by
        have : (r.extract 0 (p.length + 1)).data.toList = r.data.toList.take (p.length + 1) := by simp
        rw [this, e, List.take_append, List.take_of_length_le (by omega)]; simp
      have e2 : (r.extract (p.length + (⟨#[10]⟩ : ByteArray).size) r.size).data.toList = x := by
        have e0 : (⟨#[10]⟩ : ByteArray).size = 1 := rfl
        have : (r.extract (p.length + 1) r.size).data.toList = (r.data.toList.drop (p.length + 1)).take (r.size - (p.length + 1)) := by simp
        rw [e0, this, e, List.take_of_length_le (by simp; omega)]; simp [List.drop_append]
      have e3 : (r.extract (p.length + (⟨#[10]⟩ : ByteArray).size) r.size).size ≤ k := by
        rw [Lib.size_eq, e2]; omega
      rw [seqA_parts k _ e3, e2, gA_feed e1, e, spL_cut x hn, spF_cons (spL_ne 10 x)]
      rfl
theorem spF_len : ∀ l : List (List UInt8), (spF l).length ≤ l.length
  | [] => Nat.le_refl _
  | [x] => by unfold spF; split <;> simp
  | x :: y :: r => by rw [spF_cons (by simp)]; have := spF_len (y :: r); simp only [List.length_cons] at this ⊢; omega
theorem spF_mem {p : PT} : ∀ {l : List (List UInt8)}, p ∈ spF l → p.c ∈ l
  | [], h => by simp [spF] at h
  | [x], h => by
    unfold spF at h
    split at h
    · cases h
    · obtain rfl := List.mem_singleton.1 h; simp
  | x :: y :: r, h => by
    rw [spF_cons (by simp)] at h
    rcases List.mem_cons.1 h with rfl | h
    · simp
    · exact List.mem_cons_of_mem _ (spF_mem h)
theorem spL_elem {c : UInt8} : ∀ {l : List UInt8} {x : List UInt8}, x ∈ spL c l → x.length ≤ l.length
  | [], x, h => by obtain rfl := List.mem_singleton.1 h; simp
  | y :: l, x, h => by
    unfold spL at h
    by_cases hy : y = c
    · rw [if_pos hy] at h
      rcases List.mem_cons.1 h with rfl | h
      · simp
      · have := spL_elem h; simp only [List.length_cons]; omega
    · rw [if_neg hy] at h
      cases hs : spL c l with
      | nil => exact absurd hs (spL_ne c l)
      | cons p ps =>
        rw [hs] at h
        have hp : p.length ≤ l.length := spL_elem (by rw [hs]; simp)
        rcases List.mem_cons.1 h with rfl | h
        · simp only [List.length_cons]; omega
        · have := spL_elem (c := c) (l := l) (x := x) (by rw [hs]; exact List.mem_cons_of_mem _ h); simp only [List.length_cons]; omega
theorem partsH_len (s : ByteArray) : (partsH s).length ≤ s.size + 1 := by
  have h1 := spF_len (spL 10 s.data.toList)
  have h2 := spL_count 10 s.data.toList
  have h3 : s.data.toList.length = s.size := by simp
  unfold partsH
  omega
theorem partsH_size {s : ByteArray} {p : PT} (h : p ∈ partsH s) : p.c.length ≤ s.size := by
  have h1 := spL_elem (spF_mem h)
  have h3 : s.data.toList.length = s.size := by simp
  omega
theorem partsH_lo {s : ByteArray} {p : PT} (h : p ∈ partsH s) : p.lo = false := by
  have key : ∀ l : List (List UInt8), p ∈ spF l → p.lo = false := fun l => by
    induction l with
    | nil => intro h; simp [spF] at h
    | cons x r ih =>
      intro h
      cases r with
      | nil =>
        unfold spF at h
        split at h
        · cases h
        · obtain rfl := List.mem_singleton.1 h; rfl
      | cons y r =>
        rw [spF_cons (by simp)] at h
        rcases List.mem_cons.1 h with rfl | h
        · rfl
        · exact ih h
  exact key _ h
/-! The builder's Write. -/
set_option maxRecDepth 100000 in
set_option maxHeartbeats 2000000 in
theorem bWriteB (B b : Nat) (l : List Value) (ad : Addr) (m c : Nat) (news : List Value) (w : World) (h : Lib.IsBuilder 137 5 B b l w) (hl : news.length = m) (hnews : ∀ j u, news[j]? = some u → w.cell? (ad.add j) = some u) (hadB : ad.block < B) (h1 : ∀ u ∈ news, u.oneCell' = true)
    (hlen : l.length + m ≤ 140737488355328) (hBw : B ≤ w.heap.size) :
    Calls Tryz.prog 138 #[.pointer (some ⟨b, 0, none⟩), .slice (some ad) m c] w fun e w' => e = .returned (.tuple #[.int .i64 m, .nilIface]) ∧ (Lib.BuilderAt 137 5 B b (.pointer (some ⟨b, 0, none⟩)) (l ++ news) w' ∧ Below B w w') := by
  have cC : ∀ w, Lib.IsBuilder 137 5 B b l w → Calls Tryz.prog 130 #[.pointer (some ⟨b, 0, none⟩)] w fun e w' => e = .returned (.tuple #[]) ∧ (Lib.BuilderAt 137 5 B b (.pointer (some ⟨b, 0, none⟩)) l w' ∧ Below B w w') :=
    fun w h => Any.Builder_copyCheck { Tryz.lays166 with } Tryz.Builder_Extra_166.toX72 B b l w h
  obtain ⟨i0, hi, hz0, hz1, hz2⟩ := info_parts Tryz.Builder_Extra_166.infoByte
  go_enter Tryz.func138, Tryz.ntmps138
  go_wp2_with (go_at_call 130; refine (cC _ h).mono ?_)
  rintro e w1 ⟨rfl, h1', hb1⟩
  obtain ⟨hB, v, hbk, hown, hne⟩ := h1'
  have c0 : w1.cell? ⟨b, 0, none⟩ = some (.pointer (some ⟨b, 0, none⟩)) := by rw [Lib.cell_of_heap hbk]; rfl
  have c1 : w1.cell? ⟨b, 1, none⟩ = some v := by rw [Lib.cell_of_heap hbk]; rfl
  have hnews1 : ∀ j u, news[j]? = some u → w1.cell? (ad.add j) = some u := fun j u hj => by rw [hb1.cell (p := ad.add j) (by unfold Addr.add; split <;> exact hadB)]; exact hnews j u hj
  go_wp2_with (at_builtin; refine wpList_append_own _ rfl _ _ 106 rfl B 5 i0 (.int .u8 0) 1 1 Tryz.underlying106 hi hz0 hz1 hz2 rfl (by decide) _ _ _ rfl hown ad m c news rfl (by omega) hnews1 h1 ?c3 ?c4 ?c5 ?_)
  case c3 => unfold maxLen; omega
  case c4 => omega
  case c5 => have := hb1.size; omega
  intro v' w2 hown' hgrow _
  have hlt : b < w1.heap.size := by
    rcases Nat.lt_or_ge b w1.heap.size with h' | h'
    · exact h'
    · simp [Array.getElem?_eq_none h'] at hbk
  have hb2 : w2.heap[b]? = some (.cells #[.pointer (some ⟨b, 0, none⟩), v] 137 (0, 0)) := by
    rw [hgrow.block b hlt (fun e => hne e.symm)]
    exact hbk
  have d0 : w2.cell? ⟨b, 0, none⟩ = some (.pointer (some ⟨b, 0, none⟩)) := by rw [Lib.cell_of_heap hb2]; rfl
  have d1 : w2.cell? ⟨b, 1, none⟩ = some v := by rw [Lib.cell_of_heap hb2]; rfl
  have f1 : w2.frozen? ⟨b, 1, none⟩ = false := Lib.frozen_of_heap hb2 1
  obtain ⟨ao, n', cap, rfl⟩ : ∃ ao n' cap, v' = .slice ao n' cap := by
    rcases hown'.2 with ⟨hv, _⟩ | ⟨g, cap, cur, hv, _⟩
    · exact ⟨_, _, _, hv⟩
    · exact ⟨_, _, _, hv⟩
  go_wp2
  go_ret2
  refine ⟨rfl, ?_, ?_⟩
  · exact Lib.BuilderAt.put (T := 137) (e := 5) hB hb2 (bs' := l ++ news) (by simpa [hl] using hown') Tryz.Builder_Extra_166.neB5
  · exact (hb1.grown hgrow (by have := hb1.size; omega) (fun k hk => (hown.lt k hk).1)).setCell (p := ⟨b, 1, none⟩) hB _
end Go.Proofs.YtmfhpddeclggfaaGreatDoor
