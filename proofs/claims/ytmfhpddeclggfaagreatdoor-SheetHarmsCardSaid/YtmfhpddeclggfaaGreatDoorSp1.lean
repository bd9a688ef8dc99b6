import Derived.Test.YtmfhpddeclggfaaGreatDoorOvLaw
import Derived.Test.YtmfhpddeclggfaaGreatDoorRWrite
import Derived.Test.YtmfhpddeclggfaaGreatDoorKm
import Derived.WalkKit
import Derived.LoopTactic
import Derived.WalkSpells
import Derived.WalkLawsBesides
import Derived.Lib.Hide
import Derived.BigQuiet
import Derived.IntWalk
import Derived.Deep.DeepMust
import Derived.WalkSmall
import Derived.StillTailTactics
import Derived.Deep.RegionLaw
import Derived.Deep.QuietTactic
import Derived.Deep.Cut
import Derived.Deep.DeepCutAuto
import Derived.Deep.LoopGhost
import Derived.Laws.AppendOwn
namespace Go.Proofs.YtmfhpddeclggfaaGreatDoor
open Go.RowKit
/-! Splitting at a byte: the reference's. -/
def spL (c : UInt8) : List UInt8 → List (List UInt8)
  | [] => [[]]
  | x :: l => if x = c then [] :: spL c l else match spL c l with
    | [] => [[x]]
    | p :: ps => (x :: p) :: ps
theorem spL_ne (c : UInt8) : ∀ l, spL c l ≠ []
  | [] => by simp [spL]
  | x :: l => by
    unfold spL
    by_cases h : x = c
    · simp [h]
    · rw [if_neg h]
      cases spL c l <;> simp
theorem spL_none {c : UInt8} : ∀ {p : List UInt8}, (∀ x ∈ p, x ≠ c) → spL c p = [p]
  | [], _ => rfl
  | x :: p, h => by
    unfold spL
    rw [if_neg (h x List.mem_cons_self), spL_none (fun y hy => h y (List.mem_cons_of_mem _ hy))]
theorem spL_cut {c : UInt8} : ∀ {p : List UInt8} (r : List UInt8), (∀ x ∈ p, x ≠ c) → spL c (p ++ c :: r) = p :: spL c r
  | [], r, _ => by simp [spL]
  | x :: p, r, h => by
    rw [List.cons_append]
    show (if x = c then [] :: spL c (p ++ c :: r) else match spL c (p ++ c :: r) with
      | [] => [[x]]
      | q :: ps => (x :: q) :: ps) = (x :: p) :: spL c r
    rw [if_neg (h x List.mem_cons_self), spL_cut r (fun y hy => h y (List.mem_cons_of_mem _ hy))]
/-- Where the walk stands: what is cut off, where the piece begins that is looked at. -/
def SpAt (s : ByteArray) (c : UInt8) (ps : List ByteArray) (f k : Nat) : Prop :=
  f ≤ k ∧ k ≤ s.size ∧ spL c s.data.toList = ps.map (·.data.toList) ++ spL c (s.data.toList.drop f) ∧ ∀ x ∈ (s.data.toList.drop f).take (k - f), x ≠ c
theorem SpAt.start (s : ByteArray) (c : UInt8) : SpAt s c [] 0 0 := ⟨Nat.le_refl _, Nat.zero_le _, by simp, by simp⟩
theorem drop_split (l : List UInt8) (f k : Nat) (hf : f ≤ k) (hk : k < l.length) : l.drop f = (l.drop f).take (k - f) ++ l[k] :: l.drop (k + 1) := by
  conv => lhs; rw [← List.take_append_drop (k - f) (l.drop f)]
  rw [List.drop_drop, show f + (k - f) = k from by omega, ← List.getElem_cons_drop hk]
theorem SpAt.cut {s : ByteArray} {c : UInt8} {ps : List ByteArray} {f k : Nat} (h : SpAt s c ps f k) (hk : k < s.size) (e : s[k] = c) : SpAt s c (ps ++ [s.extract f k]) (k + 1) (k + 1) := by
  obtain ⟨h1, h2, h3, h4⟩ := h
  have hl : k < s.data.toList.length := by simpa using hk
  have e2 : s.data.toList[k] = c := by rw [← e]; have := at_list s k hk; rw [List.getElem?_eq_getElem hl] at this; exact Option.some.inj this
  refine ⟨Nat.le_refl _, hk, ?_, by simp⟩
  rw [h3, drop_split _ f k h1 hl, e2, spL_cut _ h4]
  simp [List.map_append]
theorem SpAt.go {s : ByteArray} {c : UInt8} {ps : List ByteArray} {f k : Nat} (h : SpAt s c ps f k) (hk : k < s.size) (e : s[k] ≠ c) : SpAt s c ps f (k + 1) := by
  obtain ⟨h1, h2, h3, h4⟩ := h
  have hl : k < s.data.toList.length := by simpa using hk
  have e2 : s.data.toList[k] = s[k] := by have := at_list s k hk; rw [List.getElem?_eq_getElem hl] at this; exact Option.some.inj this
  refine ⟨by omega, hk, h3, fun x hx => ?_⟩
  rw [show k + 1 - f = k - f + 1 from by omega, List.take_succ_eq_append_getElem (by rw [List.length_drop]; omega)] at hx
  rcases List.mem_append.1 hx with h | h
  · exact h4 x h
  · obtain rfl := List.mem_singleton.1 h
    rw [List.getElem_drop]
    have : s.data.toList[f + (k - f)]'(by omega) = s[k] := by rw [← e2]; congr 1; omega
    rw [this]; exact e
theorem SpAt.done {s : ByteArray} {c : UInt8} {ps : List ByteArray} {f : Nat} (h : SpAt s c ps f s.size) : (ps ++ [s.extract f s.size]).map (·.data.toList) = spL c s.data.toList := by
  obtain ⟨h1, h2, h3, h4⟩ := h
  rw [List.take_of_length_le (by simp)] at h4
  rw [h3, spL_none h4, List.map_append]
  have e : (s.extract f s.size).data.toList = s.data.toList.drop f := Lib.extract_to_end s f
  simp only [List.map_cons, List.map_nil, e]
theorem SpAt.len {s : ByteArray} {c : UInt8} {ps : List ByteArray} {f k : Nat} (h : SpAt s c ps f k) : ps.length ≤ s.size := by
  have hl : ∀ l : List UInt8, (spL c l).length ≤ l.length + 1 := fun l => by
    induction l with
    | nil => simp [spL]
    | cons x l ih =>
      unfold spL
      by_cases hx : x = c
      · rw [if_pos hx]; simp; omega
      · rw [if_neg hx]
        cases hp : spL c l with
        | nil => simp
        | cons p q => rw [hp] at ih; simp at ih ⊢; omega
  obtain ⟨h1, h2, h3, h4⟩ := h
  have := hl s.data.toList
  rw [h3, List.length_append, List.length_map] at this
  have h5 : 0 < (spL c (s.data.toList.drop f)).length := List.length_pos_iff.2 (spL_ne c _)
  simp at this
  omega
set_option maxRecDepth 100000 in
set_option maxHeartbeats 4000000 in
theorem rSplit (s : ByteArray) (c : UInt8) (w : World) (hs : s.size ≤ 1000000) :
    Calls Tryz.prog 100 #[.string s, .int .u8 (c.toNat : Int)] w fun e w' => ∃ (ps : List ByteArray) (v : Value), e = .returned v ∧ w'.ownsRow w.heap.size 9 1 v ps.length (strsV ps) ∧ Below w.heap.size w w' ∧ Hid (ps.map (·.data.toList) = spL c s.data.toList) := by
  have HS := Lib.hid hs
  obtain ⟨i0, hi, hz0, hz1, hz4⟩ := info_parts inf9
  go_enter Tryz.func100, Tryz.ntmps100
  go_wp2_with fail
  go_loopw [5, 6, 7] (fun v f i wr => ∃ (k g : Nat) (ps : List ByteArray), i = .int .i64 k ∧ f = .int .i64 g ∧ Hid (SpAt s c ps g k) ∧ Hid (wr.ownsRow w.heap.size 9 1 v ps.length (strsV ps)) ∧ Hid (Below w.heap.size w wr)) (fun _ _ i _ => s.size - (intOf i).toNat)
  case atStart => exact ⟨0, 0, [], rfl, rfl, SpAt.start s c, World.ownsRow_nil _ _ _ _, Below.refl _ _⟩
  case round =>
    obtain ⟨k, g, ps, rfl, rfl, P, O, B⟩ := hrel
    have hgk := P.out.1
    have hks := P.out.2.1
    by_cases hlt : k < s.size
    · by_cases he : s[k] = c
      · have h3 : ((s[k].toNat : Int) == (c.toNat : Int)) = true := by rw [he]; simp
        have P1 := Lib.hid (P.out.cut hlt he)
        have hpl : ps.length ≤ 1000000 := by have := P.out.len; omega
        have HNW : Hid (∀ j u, ([.string (s.extract g k)] : List Value)[j]? = some u → (wr.alloc (.cells #[.string (s.extract g k)] 9)).cell? ((⟨wr.heap.size, 0, none⟩ : Addr).add j) = some u) := cells_new wr #[.string (s.extract g k)] 9
        have HK1 : Hid (ps.length + 1 ≤ maxLen) := by unfold Hid maxLen; omega
        have HK2 : Hid ((ps.length + 1) * 16 ≤ 140737488355328) := by unfold Hid; omega
        have HK3 : Hid (w.heap.size ≤ (wr.alloc (.cells #[.string (s.extract g k)] 9)).heap.size) := by have := B.out.size; unfold Hid; simp; omega
        clear he P hpl
        go_wp2_with (at_builtin; refine wpList_append_own _ rfl (.tmp 19) (.tmp 24) 37 rfl w.heap.size 9 i0 (.string ⟨#[]⟩) 1 16 Tryz.underlying37 hi hz0 hz1 hz4 rfl (by decide) u5 ps.length (strsV ps) rfl (O.out.alloc _) ⟨wr.heap.size, 0, none⟩ 1 1 [.string (s.extract g k)] rfl rfl HNW.out (by simp [Value.oneCell']) HK1.out HK2.out HK3.out ?_; intro v' w4 hown hgrow _)
        refine ⟨⟨k + 1, k + 1, ps ++ [s.extract g k], by go_num, by go_num, P1, ?_, ?_⟩, by simp [intOf]; omega⟩
        · rw [List.length_append, strsV, List.map_append]
          exact hown
        · exact (B.out.alloc B.out.size _).grown hgrow HK3.out (fun g hg => (O.out.lt g hg).1)
      · have h3 : ((s[k].toNat : Int) == (c.toNat : Int)) = false := by rw [beq_eq_false_iff_ne]; exact fun e => he (u8_eq (by omega))
        have P1 := Lib.hid (P.out.go hlt he)
        clear he P
        go_wp2_with fail
        exact ⟨⟨k + 1, g, ps, by go_num, rfl, P1, O, B⟩, by simp [intOf]; omega⟩
    · obtain rfl : k = s.size := by omega
      have P1 := Lib.hid P.out.done
      have hpl : ps.length ≤ 1000000 := by have := P.out.len; omega
      have HNW : Hid (∀ j u, ([.string (s.extract g s.size)] : List Value)[j]? = some u → (wr.alloc (.cells #[.string (s.extract g s.size)] 9)).cell? ((⟨wr.heap.size, 0, none⟩ : Addr).add j) = some u) := cells_new wr #[.string (s.extract g s.size)] 9
      have HK1 : Hid (ps.length + 1 ≤ maxLen) := by unfold Hid maxLen; omega
      have HK2 : Hid ((ps.length + 1) * 16 ≤ 140737488355328) := by unfold Hid; omega
      have HK3 : Hid (w.heap.size ≤ (wr.alloc (.cells #[.string (s.extract g s.size)] 9)).heap.size) := by have := B.out.size; unfold Hid; simp; omega
      clear P hpl
      go_wp2_with (at_builtin; refine wpList_append_own _ rfl (.tmp 28) (.tmp 32) 37 rfl w.heap.size 9 i0 (.string ⟨#[]⟩) 1 16 Tryz.underlying37 hi hz0 hz1 hz4 rfl (by decide) u5 ps.length (strsV ps) rfl (O.out.alloc _) ⟨wr.heap.size, 0, none⟩ 1 1 [.string (s.extract g s.size)] rfl rfl HNW.out (by simp [Value.oneCell']) HK1.out HK2.out HK3.out ?_; intro v' w4 hown hgrow _)
      go_ret
      refine ⟨ps ++ [s.extract g s.size], v', rfl, ?_, ?_, P1⟩
      · rw [List.length_append, strsV, List.map_append]
        exact hown
      · exact (B.out.alloc B.out.size _).grown hgrow HK3.out (fun g hg => (O.out.lt g hg).1)
end Go.Proofs.YtmfhpddeclggfaaGreatDoor
