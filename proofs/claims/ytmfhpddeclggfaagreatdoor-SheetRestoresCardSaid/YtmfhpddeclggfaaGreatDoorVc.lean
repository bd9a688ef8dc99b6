import Derived.Test.YtmfhpddeclggfaaGreatDoorKg
import Derived.WalkKit
import Derived.LoopTactic
import Derived.WalkSpells
import Derived.WalkLawsBesides
import Derived.Lib.Hide
import Derived.BigQuiet
import Derived.IntWalk
import Derived.Deep.DeepMust
import Derived.WalkSmall
import Derived.StillTailTactics
import Derived.Lib.SlBytesConst
import Derived.Deep.RegionLaw
import Derived.Deep.QuietTactic
import Derived.Deep.Cut
import Derived.Deep.DeepCutAuto
import Derived.Deep.LoopGhost
import Derived.Laws.AppendOwn
import Derived.Test.YtmfhpddeclggfaaGreatDoorKm
import Derived.Test.YtmfhpddeclggfaaGreatDoorKf
import Derived.RangeFuncNested
import Derived.RangeFuncBound
import Derived.RangeFuncCalls
import Derived.RangeFuncLeaves
import Derived.RangeFuncBox
import Derived.Shelf.Abstract
import Derived.Shelf.RegionOpen
import Derived.OwnWalkIn
import Derived.TacticsInMore
import Derived.LoopNIn
import Derived.LoopIn
import Derived.Maps.AppendAt
import Derived.Maps.OwnIn
import Derived.RegionIn
import Derived.BigRegionIn
import Derived.Stop.RegionWithIn
import Derived.Lib.SliceRun
import Derived.Lib.Walk
namespace Go.Proofs.YtmfhpddeclggfaaGreatDoor
open Go.RowKit
end Go.Proofs.YtmfhpddeclggfaaGreatDoor

namespace Go.Proofs.YtmfhpddeclggfaaGreatDoor
open Go.RowKit
end Go.Proofs.YtmfhpddeclggfaaGreatDoor

namespace Go.Proofs.YtmfhpddeclggfaaGreatDoor
open Go.RowKit
end Go.Proofs.YtmfhpddeclggfaaGreatDoor

namespace Go.Proofs.YtmfhpddeclggfaaGreatDoor
open Go.RowKit
end Go.Proofs.YtmfhpddeclggfaaGreatDoor

namespace Go.Proofs.YtmfhpddeclggfaaGreatDoor
open Go.RowKit
end Go.Proofs.YtmfhpddeclggfaaGreatDoor

namespace Go.Proofs.YtmfhpddeclggfaaGreatDoor
open Go.RowKit
end Go.Proofs.YtmfhpddeclggfaaGreatDoor

namespace Go.Proofs.YtmfhpddeclggfaaGreatDoor
open Go.RowKit
theorem snoc_ind {P : List UInt8 → Prop} (h0 : P []) (h1 : ∀ l c, P l → P (l ++ [c])) (l : List UInt8) : P l := by
  have : ∀ (r : List UInt8), P r.reverse := by
    intro r
    induction r with
    | nil => exact h0
    | cons c r ih => rw [List.reverse_cons]; exact h1 _ _ ih
  have h := this l.reverse
  rwa [List.reverse_reverse] at h
theorem lastB_63 (l : List UInt8) : lastB l = 63 → ∀ c ∈ l, c = 63 := by
  induction l using snoc_ind with
  | h0 => simp
  | h1 l c ih =>
    rw [lastB_snoc]
    by_cases h : c = 63
    · rw [if_pos h]
      intro hl x hx
      rcases List.mem_append.1 hx with h2 | h2
      · exact ih hl x h2
      · rw [List.mem_singleton.1 h2]; exact h
    · rw [if_neg h]; intro e; exact absurd e h
theorem count_two (a : UInt8) (ha : a ≠ 63) (l : List UInt8) : l.count a + l.count 63 ≤ l.length ∧ (l.count a + l.count 63 = l.length ↔ ∀ c ∈ l, c = 63 ∨ c = a) := by
  induction l with
  | nil => simp
  | cons c r ih =>
    obtain ⟨h1, h2⟩ := ih
    rw [List.count_cons, List.count_cons, List.length_cons]
    have hb : (a == (63 : UInt8)) = false := beq_eq_false_iff_ne.2 ha
    by_cases e1 : c = a
    · subst e1
      rw [hb]
      simp only [beq_self_eq_true, if_true, Bool.false_eq_true, if_false]
      refine ⟨by omega, ?_⟩
      constructor
      · intro h x hx
        rcases List.mem_cons.1 hx with h3 | h3
        · exact Or.inr h3
        · exact h2.1 (by omega) x h3
      · intro h
        have := h2.2 fun x hx => h x (List.mem_cons_of_mem _ hx)
        omega
    · have e1' : (c == a) = false := beq_eq_false_iff_ne.2 e1
      by_cases e2 : c = 63
      · subst e2
        rw [e1']
        simp only [beq_self_eq_true, if_true, Bool.false_eq_true, if_false]
        refine ⟨by omega, ?_⟩
        constructor
        · intro h x hx
          rcases List.mem_cons.1 hx with h3 | h3
          · exact Or.inl h3
          · exact h2.1 (by omega) x h3
        · intro h
          have := h2.2 fun x hx => h x (List.mem_cons_of_mem _ hx)
          omega
      · have e2' : (c == (63 : UInt8)) = false := beq_eq_false_iff_ne.2 e2
        rw [e1', e2']
        simp only [Bool.false_eq_true, if_false]
        refine ⟨by omega, ?_⟩
        constructor
        · intro h; omega
        · intro h
          rcases h c List.mem_cons_self with h3 | h3
          · exact absurd h3 e2
          · exact absurd h3 e1
theorem oneB_iff (l : List UInt8) : oneB l = true ↔ ∀ c ∈ l, c = 63 ∨ c = lastB l := by
  unfold oneB
  by_cases h : lastB l = 63
  · simp only [h, decide_true, Bool.true_or, true_iff]
    intro c hc
    exact Or.inl (lastB_63 l h c hc)
  · rw [decide_eq_false h, Bool.false_or, decide_eq_true_iff]
    exact (count_two (lastB l) h l).2
end Go.Proofs.YtmfhpddeclggfaaGreatDoor

namespace Go.Proofs.YtmfhpddeclggfaaGreatDoor
open Go.RowKit
theorem lastB_mem (l : List UInt8) : lastB l ≠ 63 → lastB l ∈ l := by
  induction l using snoc_ind with
  | h0 => intro h; exact absurd rfl h
  | h1 l c ih =>
    rw [lastB_snoc]
    by_cases h : c = 63
    · rw [if_pos h]; intro h2; exact List.mem_append_left _ (ih h2)
    · rw [if_neg h]; intro _; exact List.mem_append_right _ (List.mem_singleton.2 rfl)
theorem lastB_char {l : List UInt8} {a : UInt8} (h : ∀ c ∈ l, c = 63 ∨ c = a) (ha : a = 63 ∨ a ∈ l) : lastB l = a := by
  by_cases h1 : lastB l = 63
  · rcases ha with h2 | h2
    · rw [h1, h2]
    · rw [h1, lastB_63 l h1 a h2]
  · rcases h _ (lastB_mem l h1) with h2 | h2
    · exact absurd h2 h1
    · exact h2
/-- What a column shows is a matter of its bytes, not of their order. -/
theorem one_perm {l r : List UInt8} (hm : ∀ c, c ∈ l ↔ c ∈ r) (h : oneB l = true) : oneB r = true ∧ lastB r = lastB l := by
  have h1 := (oneB_iff l).1 h
  have h2 : ∀ c ∈ r, c = 63 ∨ c = lastB l := fun c hc => h1 c ((hm c).2 hc)
  have h3 : lastB r = lastB l := lastB_char h2 (by
    by_cases e : lastB l = 63
    · exact Or.inl e
    · exact Or.inr ((hm _).1 (lastB_mem l e)))
  exact ⟨(oneB_iff r).2 (by rw [h3]; exact h2), h3⟩
theorem one_perm_eq {l r : List UInt8} (hm : ∀ c, c ∈ l ↔ c ∈ r) : oneB l = oneB r := by
  cases h : oneB l with
  | true => exact (one_perm hm h).1.symm
  | false =>
    cases h2 : oneB r with
    | false => rfl
    | true => rw [(one_perm (fun c => (hm c).symm) h2).1] at h; cases h
theorem sameSz_iff (ts : List ByteArray) : sameSz ts = true ↔ ∀ s ∈ ts, ∀ t ∈ ts, s.size = t.size := by
  unfold sameSz
  rw [List.all_eq_true]
  constructor
  · intro h s hs t ht
    rw [eq_of_beq (h s hs), eq_of_beq (h t ht)]
  · intro h s hs
    have hl : 0 < ts.length := List.length_pos_of_mem hs
    exact beq_iff_eq.2 (h s hs _ (getD_mem hl))
end Go.Proofs.YtmfhpddeclggfaaGreatDoor

namespace Go.Proofs.YtmfhpddeclggfaaGreatDoor
open Go.RowKit
/-! The law of overlays. -/
abbrev strsV (l : List ByteArray) : List Value := l.map Value.string
theorem inf9 : (Tryz.prog.info? 9).map (fun i => (i.zero, i.size, i.bytes)) = some (some (.string ⟨#[]⟩), 1, 16) := by kernel_rfl
theorem strs_own {W : World} {B : Nat} {v : Value} {l : List ByteArray} (h : W.ownsRow B 9 1 v l.length (strsV l)) : ∃ q cap, v = .slice q l.length cap ∧ StrsAt W q l := by
  obtain ⟨h1, ⟨rfl, h2⟩ | ⟨g, cap, cur, rfl, hg, hc, h3, h4, h5, h6⟩⟩ := h
  · exact ⟨none, 0, by rw [h2], .inl (List.length_eq_zero_iff.1 h2)⟩
  · refine ⟨some ⟨g, 0, none⟩, cap, rfl, .inr ⟨g, 0, rfl, (Array.getElem?_eq_some_iff.1 hc).1, fun j hj => ?_⟩⟩
    have g1 : (strsV l)[j]? = some (.string (l.getD j ByteArray.empty)) := by
      rw [strsV, List.getElem?_map, List.getD, List.getElem?_eq_getElem hj]; rfl
    rw [← h6, List.getElem?_take_of_lt (by omega)] at g1
    rw [Nat.zero_add]
    simpa [World.cell?, hc] using g1
end Go.Proofs.YtmfhpddeclggfaaGreatDoor

namespace Go.Proofs.YtmfhpddeclggfaaGreatDoor
open Go.RowKit
/-! Splitting at a byte: the reference's. -/
def spL (c : UInt8) : List UInt8 → List (List UInt8)
  | [] => [[]]
  | x :: l => if x = c then [] :: spL c l else match spL c l with
    | [] => [[x]]
    | p :: ps => (x :: p) :: ps
theorem spL_ne (c : UInt8) : ∀ l, spL c l ≠ []
  | [] => by simp [spL]
  | x :: l => by
    unfold spL
    by_cases h : x = c
    · simp [h]
    · rw [if_neg h]
      cases spL c l <;> simp
theorem spL_none {c : UInt8} : ∀ {p : List UInt8}, (∀ x ∈ p, x ≠ c) → spL c p = [p]
  | [], _ => rfl
  | x :: p, h => by
    unfold spL
    rw [if_neg (h x List.mem_cons_self), spL_none (fun y hy => h y (List.mem_cons_of_mem _ hy))]
theorem spL_cut {c : UInt8} : ∀ {p : List UInt8} (r : List UInt8), (∀ x ∈ p, x ≠ c) → spL c (p ++ c :: r) = p :: spL c r
  | [], r, _ => by simp [spL]
  | x :: p, r, h => by
    rw [List.cons_append]
    show (if x = c then [] :: spL c (p ++ c :: r) else match spL c (p ++ c :: r) with
      | [] => [[x]]
      | q :: ps => (x :: q) :: ps) = (x :: p) :: spL c r
    rw [if_neg (h x List.mem_cons_self), spL_cut r (fun y hy => h y (List.mem_cons_of_mem _ hy))]
end Go.Proofs.YtmfhpddeclggfaaGreatDoor

namespace Go.Proofs.YtmfhpddeclggfaaGreatDoor
open Go Go.RowKit
/-! What the reference takes for a line. -/
theorem spL_join (c : UInt8) : ∀ (l : List UInt8), ∃ p ps, spL c l = p :: ps ∧ l = p ++ ps.flatMap (c :: ·)
  | [] => ⟨[], [], rfl, rfl⟩
  | x :: l => by
    obtain ⟨p, ps, h1, h2⟩ := spL_join c l
    unfold spL
    by_cases h : x = c
    · rw [if_pos h]
      exact ⟨[], spL c l, rfl, by rw [h1, h]; simp [← h2]⟩
    · rw [if_neg h, h1]
      exact ⟨x :: p, ps, rfl, by rw [h2]; rfl⟩
end Go.Proofs.YtmfhpddeclggfaaGreatDoor

namespace Go.Proofs.YtmfhpddeclggfaaGreatDoor
open Go.RowKit
end Go.Proofs.YtmfhpddeclggfaaGreatDoor

namespace Go.Proofs.YtmfhpddeclggfaaGreatDoor
open Go.RowKit
end Go.Proofs.YtmfhpddeclggfaaGreatDoor

namespace Go.Proofs.YtmfhpddeclggfaaGreatDoor
open Go.RowKit
/-- What is known of the text of a line. -/
structure RL (y : ByteArray) (m : Int) (ws : List ByteArray) : Prop where
  e : bs (lineT m ws) = y
  ok : lineErr m ws = 0
  n : lineN y = m
  w : lineWs y = ws
  r : readErr y = 0
  f : Lib.indexByte y.data.toList 10 = -1
  z : y.size ≤ 1000000
theorem indexByte_no (c : UInt8) : ∀ l : List UInt8, (∀ x ∈ l, x ≠ c) → Lib.indexByte l c = -1
  | [], _ => rfl
  | b :: l, h => by
    have hb : b ≠ c := h b List.mem_cons_self
    have ih := indexByte_no c l (fun x hx => h x (List.mem_cons_of_mem _ hx))
    simp [Lib.indexByte, hb, ih]
theorem rl_of {m : Int} {ws : List ByteArray} (h : lineErr m ws = 0) : RL (bs (lineT m ws)) m ws := by
  obtain ⟨r1, r2, r3⟩ := read_line h
  refine ⟨rfl, h, r1, r2, r3, indexByte_no _ _ (line_no_feed h), ?_⟩
  obtain ⟨n1, n2, l1, wo⟩ := lineErr_ok h
  have z1 := wordsL_len ws (wordsOk_size wo)
  have z2 := four_len (chk (headL m ws)) (by have := chk_lt (headL m ws); omega)
  have z3 := (itoa_len m (by omega) (by omega)).2
  have z4 := (itoa_len ws.length (by omega) (by omega)).2
  rw [bs_size]
  unfold lineT
  rw [List.length_append, z2]
  simp only [headL, List.length_append, List.length_cons, List.length_nil]
  omega
theorem wr_pair2 (n : Int) (ws : List ByteArray) : ∃ x e, Hid (wrRes n ws = .tuple #[.string x, .int .i64 e]) ∧ Hid (e = 0 → lineErr n ws = 0 ∧ x = bs (lineT n ws)) := by
  by_cases h : lineErr n ws = 0
  · exact ⟨_, 0, by unfold Hid wrRes; rw [if_pos h], fun _ => ⟨h, rfl⟩⟩
  · exact ⟨⟨#[]⟩, lineErr n ws, by unfold Hid wrRes; rw [if_neg h], fun e => absurd e h⟩
end Go.Proofs.YtmfhpddeclggfaaGreatDoor

namespace Go.Proofs.YtmfhpddeclggfaaGreatDoor
open Go.RowKit
/-! The law of writing. -/
end Go.Proofs.YtmfhpddeclggfaaGreatDoor

namespace Go.Proofs.YtmfhpddeclggfaaGreatDoor
open Go.RowKit
/-! SheetCuts: the reference's pieces, and the comparison of two lists of texts. -/
end Go.Proofs.YtmfhpddeclggfaaGreatDoor

namespace Go.Proofs.YtmfhpddeclggfaaGreatDoor
open Go.RowKit
end Go.Proofs.YtmfhpddeclggfaaGreatDoor

namespace Go.Proofs.YtmfhpddeclggfaaGreatDoor
open Go.RowKit

/-! The program's pieces and lines. -/
open Go.Shelf
attribute [local go_sem] Oper.semAt_some
theorem strsV_app (a b : List ByteArray) : strsV (a ++ b) = strsV a ++ strsV b := by simp [strsV]
theorem strsV_one {l : List ByteArray} : ∀ u ∈ strsV l, u.oneCell' = true := fun u hu => by
  obtain ⟨p, -, rfl⟩ := List.mem_map.1 hu
  rfl
theorem st_new (W : World) (b : Nat) (x : ByteArray) (hb : W.heap.size = b) : ∀ j u, (strsV [x])[j]? = some u → (W.alloc (.cells #[.string x] 9)).cell? ((⟨b, 0, none⟩ : Addr).add j) = some u := by
  subst hb
  exact cells_new W #[.string x] 9
end Go.Proofs.YtmfhpddeclggfaaGreatDoor

namespace Go.Proofs.YtmfhpddeclggfaaGreatDoor
open Go.RowKit
/-! The pieces of the program are those of the reference. -/
theorem by_split (c : UInt8) : ∀ l : List UInt8, (∀ y ∈ l, y ≠ c) ∨ ∃ p x, l = p ++ c :: x ∧ ∀ y ∈ p, y ≠ c
  | [] => .inl (fun c h => absurd h (by simp))
  | b :: l => by
    by_cases hb : b = c
    · exact .inr ⟨[], l, by rw [hb]; rfl, fun c h => absurd h (by simp)⟩
    · rcases by_split c l with h | ⟨p, x, rfl, h⟩
      · exact .inl (fun y hc => by rcases List.mem_cons.1 hc with rfl | h2; exact hb; exact h y h2)
      · exact .inr ⟨b :: p, x, rfl, fun y hc => by rcases List.mem_cons.1 hc with rfl | h2; exact hb; exact h y h2⟩
theorem index_hit (c : UInt8) : ∀ (p x : List UInt8), (∀ y ∈ p, y ≠ c) → Lib.index (p ++ c :: x) [c] = p.length
  | [], x, _ => by simp [Lib.index, List.isPrefixOf]
  | b :: p, x, h => by
    have hb : b ≠ c := h b List.mem_cons_self
    have ih := index_hit c p x (fun y hy => h y (List.mem_cons_of_mem _ hy))
    have h1 : ([c] : List UInt8).isPrefixOf (b :: (p ++ c :: x)) = false := by simp [List.isPrefixOf, Ne.symm hb]
    have h2 : ((p.length : Int) == -1) = false := by rw [beq_eq_false_iff_ne]; omega
    rw [List.cons_append, Lib.index, ih, h1, h2]
    simp
theorem splitB_spL (c : UInt8) : ∀ (k : Nat) (r : ByteArray), r.size ≤ k → (Lib.splitB ⟨#[c]⟩ 0 k r).map (·.data.toList) = spL c r.data.toList
  | 0, r, h => by
    have h3 : r.data.toList.length = r.size := by simp
    have h4 : r.data.toList = [] := List.length_eq_zero_iff.1 (by omega)
    rw [Lib.splitB_zero, List.map_cons, List.map_nil, h4]
    rfl
  | k + 1, r, h => by
    rcases by_split c r.data.toList with hn | ⟨p, x, e, hn⟩
    · rw [Lib.splitB_miss _ _ _ _ (show Lib.index r.data.toList [c] = -1 from index_no c _ hn), spL_none hn]
      rfl
    · have hi : Lib.indexB r ⟨#[c]⟩ = (p.length : Nat) := by
        show Lib.index r.data.toList [c] = _
        rw [e]; exact index_hit c p x hn
      have hsz : r.size = p.length + (x.length + 1) := by
        have h3 : r.data.toList.length = r.size := by simp
        rw [← h3, e]; simp
      rw [Lib.splitB_hit _ _ _ _ _ hi, List.map_cons]
      have e1 : (r.extract 0 (p.length + 0)).data.toList = p := by
        have : (r.extract 0 (p.length + 0)).data.toList = r.data.toList.take p.length := by simp
        rw [this, e]; simp
      have e2 : (r.extract (p.length + (⟨#[c]⟩ : ByteArray).size) r.size).data.toList = x := by
        rw [show (r.extract (p.length + (⟨#[c]⟩ : ByteArray).size) r.size).data.toList = r.data.toList.drop (p.length + 1) from Lib.extract_to_end r _, e]
        simp
      rw [splitB_spL c k _ (by rw [ByteArray.size_extract]; show min r.size r.size - (p.length + 1) ≤ k; omega), e1, e2, e, spL_cut x hn]
theorem full_size (p : ByteArray) : full p = (p.size != 0) := by
  unfold full
  rw [ByteArray.toList_eq]
  have h3 : p.data.toList.length = p.size := by simp
  rw [← h3]
  cases p.data.toList <;> rfl
theorem data_inj : ∀ {l m : List ByteArray}, l.map (·.data.toList) = m.map (·.data.toList) → l = m
  | [], [], _ => rfl
  | [], _ :: _, h => by simp at h
  | _ :: _, [], h => by simp at h
  | a :: l, b :: m, h => by
    simp only [List.map_cons, List.cons.injEq] at h
    obtain ⟨h1, h2⟩ := h
    rw [data_inj h2, show a = b from ByteArray.ext (Array.toList_inj.1 h1)]
end Go.Proofs.YtmfhpddeclggfaaGreatDoor

namespace Go.Proofs.YtmfhpddeclggfaaGreatDoor
open Go.RowKit
/-! Lists of lines that were read, with what is no line. -/
open Go.Shelf
/-- What reading a piece gives. -/
def rdn (s : ByteArray) : Int := if readErr s = 0 then lineN s else 0
def rdw (s : ByteArray) : List ByteArray := if readErr s = 0 then lineWs s else []
end Go.Proofs.YtmfhpddeclggfaaGreatDoor

namespace Go.Proofs.YtmfhpddeclggfaaGreatDoor
open Go.RowKit
/-! The reference's Lines. -/
open Go.Shelf
theorem step_append_own_at {P : Program} {ops : Array Oper} {w : World} {o : Oper} {a : Act} {K : Act → World → Prop} {Q : Exit → Act → World → Prop} {E : Prop} (hgd : o.guard = none) (s x : Operand) (t : TypeId)
    (ho : o.op = .call { callee := .builtin .append, args := #[s, x], argTypes := #[t, t] })
    (base : Nat) (e : TypeId) (i : TypeInfo) (z : Value) (size bytes : Nat) (ht : P.underlying t = some (.slice e)) (hi : P.info? e = some i) (hz : i.zero = some z)
    (hsize : i.size = size) (hby : i.bytes = bytes) (hzs : z.cells.size = size) (hsz : 0 < size)
    (v : Value) (n : Nat) (xs : List Value) (hs : a.eval s = v) (hown : w.ownsRow base e size v n xs)
    (ad : Addr) (m c : Nat) (news : List Value) (hx : a.eval x = .slice (some ad) m c) (hl : news.length = m * size) (hnews : ∀ j u, news[j]? = some u → w.cell? (ad.add j) = some u) (h1 : ∀ u ∈ news, u.oneCell' = true)
    (h63 : n + m ≤ maxLen) (hbytes : (n + m) * bytes ≤ 140737488355328) (hbase : base ≤ w.heap.size)
    (h : ∀ v' w', w'.ownsRow base e size v' (n + m) (xs ++ news) → w.grownBy w' v.ownBlock → (v'.ownBlock = v.ownBlock ∨ v'.ownBlock = some w.heap.size) → (v' = .slice none 0 0 ↔ v = .slice none 0 0 ∧ m = 0) → K (a.put o.dst v') w') :
    if Region.wanted o (yielded ops a.tmps) = true then Oper.wp P o a w K Q else E := by
  rw [if_pos (by simp [Region.wanted, hgd])]
  obtain ⟨v', w', hr, h2, h3, h4, h5⟩ := run_append_own_at (P := P) w base t o.type e i z size bytes ht hi hz hsize hby hzs hsz v n xs hown ad m c news hl hnews h1 h63 hbytes hbase
  unfold Oper.wp execOp
  simp only [ho, resolve, invoke, builtin, Sem.run_bind, Sem.run_pure, Result.andThen_ok, List.map_toArray, List.map_cons, List.map_nil, hs, hx, hr]
  exact h v' w' h2 h3 h5 h4
theorem own_slice {W : World} {B n k : Nat} {e : TypeId} {v : Value} {xs : List Value} (h : W.ownsRow B e k v n xs) : ∃ q m c, v = .slice q m c := by
  obtain ⟨-, ⟨rfl, -⟩ | ⟨g, cap', cur, rfl, -⟩⟩ := h
  · exact ⟨_, _, _, rfl⟩
  · exact ⟨_, _, _, rfl⟩
end Go.Proofs.YtmfhpddeclggfaaGreatDoor

namespace Go.Proofs.YtmfhpddeclggfaaGreatDoor
open Go.RowKit
/-! The program's Lines. -/
open Go.Shelf
attribute [local go_sem] Oper.semAt_some
end Go.Proofs.YtmfhpddeclggfaaGreatDoor

namespace Go.Proofs.YtmfhpddeclggfaaGreatDoor
open Go.RowKit
/-! The comparison of two lists of lines. -/
end Go.Proofs.YtmfhpddeclggfaaGreatDoor

namespace Go.Proofs.YtmfhpddeclggfaaGreatDoor
open Go.RowKit
/-! Books of readings: what lies there, and copies of lists of words. -/
open Go.Shelf
theorem inf37 : (Tryz.prog.info? 37).map (fun i => (i.zero, i.size, i.bytes)) = some (some (.slice none 0 0), 1, 24) := by kernel_rfl
/-- A reading as it lies in a slice of readings. -/
structure FL where
  g : GL
  cp : Option Addr
  cn : Nat
  cc : Nat
  rs : Bool
instance : Inhabited FL := ⟨⟨default, none, 0, 0, false⟩⟩
/-- These readings lie there. -/
def FoundsAt (W : World) (p : Option Addr) (fs : List FL) : Prop :=
  (fs = [] ∨ ∃ b o, p = some ⟨b, o, none⟩ ∧ b < W.heap.size ∧ ∀ j, j < fs.length → W.cell? ⟨b, o + j * 4, none⟩ = some (.int .i64 (fs.getD j default).g.n) ∧ W.cell? ⟨b, o + j * 4 + 1, none⟩ = some (.slice (fs.getD j default).g.p (fs.getD j default).g.ws.length (fs.getD j default).g.cap) ∧ W.cell? ⟨b, o + j * 4 + 2, none⟩ = some (.slice (fs.getD j default).cp (fs.getD j default).cn (fs.getD j default).cc) ∧ W.cell? ⟨b, o + j * 4 + 3, none⟩ = some (.bool (fs.getD j default).rs)) ∧
  ∀ j, j < fs.length → StrsAt W (fs.getD j default).g.p (fs.getD j default).g.ws
theorem FoundsAt.below {w w' : World} {p : Option Addr} {fs : List FL} (h : FoundsAt w p fs) (hb : Below w.heap.size w w') : FoundsAt w' p fs := by
  obtain ⟨h1, h2⟩ := h
  refine ⟨?_, fun j hj => (h2 j hj).below hb⟩
  rcases h1 with h | ⟨b, o, h1, h3, h4⟩
  · exact Or.inl h
  · refine Or.inr ⟨b, o, h1, Nat.lt_of_lt_of_le h3 hb.size, fun j hj => ?_⟩
    rw [hb.cell (p := ⟨b, o + j * 4, none⟩) h3, hb.cell (p := ⟨b, o + j * 4 + 1, none⟩) h3, hb.cell (p := ⟨b, o + j * 4 + 2, none⟩) h3, hb.cell (p := ⟨b, o + j * 4 + 3, none⟩) h3]
    exact h4 j hj
theorem fd_at {W : World} {p : Option Addr} {fs : List FL} (h : FoundsAt W p fs) {k : Nat} (hk : k < fs.length) {n : Int} {q : Option Addr} {c : Nat} {ws : List ByteArray} {cp : Option Addr} {cn cc : Nat} {rs : Bool} (hg : fs.getD k default = ⟨⟨n, q, c, ws⟩, cp, cn, cc, rs⟩) :
    ∃ b o, p = some ⟨b, o, none⟩ ∧ b < W.heap.size ∧ W.cell? ⟨b, o + k * 4, none⟩ = some (.int .i64 n) ∧ W.cell? ⟨b, o + k * 4 + 1, none⟩ = some (.slice q ws.length c) ∧ W.cell? ⟨b, o + k * 4 + 2, none⟩ = some (.slice cp cn cc) ∧ W.cell? ⟨b, o + k * 4 + 3, none⟩ = some (.bool rs) ∧ StrsAt W q ws := by
  obtain ⟨h | ⟨b, o, h1, h2, h3⟩, h4⟩ := h
  · rw [h] at hk; exact absurd hk (by simp)
  · have e1 := h3 k hk
    have e2 := h4 k hk
    rw [hg] at e1 e2
    exact ⟨b, o, h1, h2, e1.1, e1.2.1, e1.2.2.1, e1.2.2.2, e2⟩
theorem strs_ownF {W : World} {B : Nat} {v : Value} {l : List ByteArray} (h : W.ownsRow B 9 1 v l.length (strsV l)) : ∃ q cap, v = .slice q l.length cap ∧ StrsAt W q l ∧ PFrom B q := by
  obtain ⟨q, cap, rfl, hs⟩ := strs_own h
  refine ⟨q, cap, rfl, hs, fun a ha => ?_⟩
  subst ha
  obtain ⟨h1, ⟨h0, h2⟩ | ⟨g, cap', cur, h0, hg, -⟩⟩ := h
  · cases h0
  · cases h0; exact hg
end Go.Proofs.YtmfhpddeclggfaaGreatDoor

namespace Go.Proofs.YtmfhpddeclggfaaGreatDoor
open Go.RowKit
/-! Whole. -/
open Go.Shelf
end Go.Proofs.YtmfhpddeclggfaaGreatDoor

namespace Go.Proofs.YtmfhpddeclggfaaGreatDoor
open Go.RowKit
/-! The reference's Whole. -/
open Go.Shelf
end Go.Proofs.YtmfhpddeclggfaaGreatDoor

namespace Go.Proofs.YtmfhpddeclggfaaGreatDoor
open Go.RowKit
/-! Fair. -/
open Go.Shelf
end Go.Proofs.YtmfhpddeclggfaaGreatDoor

namespace Go.Proofs.YtmfhpddeclggfaaGreatDoor
open Go.RowKit
/-! The reference's Fair. -/
open Go.Shelf
end Go.Proofs.YtmfhpddeclggfaaGreatDoor

namespace Go.Proofs.YtmfhpddeclggfaaGreatDoor
open Go.RowKit
/-! The law SheetFinishes. -/
open Go.Shelf
theorem lists_at {W : World} {p : Option Addr} {gs : List GL} (h : ListsAt W p gs) {k : Nat} (hk : k < gs.length) : ∃ b o, p = some ⟨b, o, none⟩ ∧ b < W.heap.size ∧ W.cell? ⟨b, o + k, none⟩ = some (.slice (gs.getD k default).p (gs.getD k default).ws.length (gs.getD k default).cap) ∧ StrsAt W (gs.getD k default).p (gs.getD k default).ws := by
  obtain ⟨h | ⟨b, o, h1, h2, h3⟩, h4⟩ := h
  · rw [h] at hk; exact absurd hk (by simp)
  · exact ⟨b, o, h1, h2, h3 k hk, h4 k hk⟩
end Go.Proofs.YtmfhpddeclggfaaGreatDoor

namespace Go.Proofs.YtmfhpddeclggfaaGreatDoor
open Go.RowKit
/-! The comparison of two books that are equal. -/
open Go.Shelf
/-- These numbers lie there. -/
def IntsAt (W : World) (p : Option Addr) (zs : List Int) : Prop :=
  zs = [] ∨ ∃ b o, p = some ⟨b, o, none⟩ ∧ b < W.heap.size ∧ ∀ j, j < zs.length → W.cell? ⟨b, o + j, none⟩ = some (.int .i64 (zs.getD j 0))
theorem IntsAt.below {W W' : World} {p : Option Addr} {zs : List Int} (h : IntsAt W p zs) (hb : Below W.heap.size W W') : IntsAt W' p zs := by
  rcases h with h | ⟨b, o, h1, h2, h3⟩
  · exact .inl h
  · exact .inr ⟨b, o, h1, Nat.lt_of_lt_of_le h2 hb.size, fun j hj => (hb.cell (p := ⟨b, o + j, none⟩) h2).trans (h3 j hj)⟩
theorem int_at {W : World} {p : Option Addr} {zs : List Int} (h : IntsAt W p zs) {k : Nat} (hk : k < zs.length) : ∃ b o, p = some ⟨b, o, none⟩ ∧ b < W.heap.size ∧ W.cell? ⟨b, o + k, none⟩ = some (.int .i64 (zs.getD k 0)) := by
  rcases h with h | ⟨b, o, h1, h2, h3⟩
  · rw [h] at hk; exact absurd hk (by simp)
  · exact ⟨b, o, h1, h2, h3 k hk⟩
set_option maxRecDepth 100000 in
set_option maxHeartbeats 4000000 in
theorem sameInts (p q : Option Addr) (c d : Nat) (zs : List Int) (w : World) (hl : zs.length ≤ maxLen) (hp : IntsAt w p zs) (hq : IntsAt w q zs) :
    Calls Tryz.prog 64 #[.slice p zs.length c, .slice q zs.length d] w fun e w' => e = .returned (.bool true) ∧ Below w.heap.size w w' := by
  have HP := Lib.hid hp
  have HQ := Lib.hid hq
  obtain ⟨N, hN⟩ : ∃ N, Hid (zs.length = N) := ⟨_, rfl⟩
  rw [hN.out] at hl ⊢
  unfold maxLen at hl
  clear hp hq
  go_enter Tryz.func64, Tryz.ntmps64
  go_wp2_with fail
  go_loopw [5] (fun i wr => ∃ k : Nat, k ≤ N ∧ i = .int .i64 k ∧ Hid (Below w.heap.size w wr)) (fun i _ => N - (intOf i).toNat)
  case atStart => exact ⟨0, Nat.zero_le _, rfl, Below.refl _ _⟩
  case round =>
    obtain ⟨k, hk, rfl, Q⟩ := hrel
    by_cases hlt : k < N
    · obtain ⟨b, o, rfl, -, c2⟩ := int_at (HP.out.below Q.out) (show k < zs.length by rw [hN.out]; exact hlt)
      obtain ⟨b', o', rfl, -, c3⟩ := int_at (HQ.out.below Q.out) (show k < zs.length by rw [hN.out]; exact hlt)
      obtain ⟨z, hz⟩ : ∃ z, zs.getD k 0 = z := ⟨_, rfl⟩
      rw [hz] at c2 c3
      have hlt' : (k : Int) < (N : Int) := by omega
      have hk0 : (0 : Int) ≤ (k : Int) := by omega
      clear hz
      go_wp2_with fail
      go_quiet (fail)
      have Q1 := Lib.hid (below_drewN Q.out nq)
      go_wp2_with fail
      exact ⟨⟨k + 1, by omega, by go_num, Q1⟩, by simp [intOf]; omega⟩
    · obtain rfl : k = N := by omega
      go_wp2_with fail
      go_ret
      exact ⟨rfl, Q.out⟩
/-- These spans lie there. -/
def SpansAt (W : World) (p : Option Addr) (zs : List (Int × Int)) : Prop :=
  zs = [] ∨ ∃ b o, p = some ⟨b, o, none⟩ ∧ b < W.heap.size ∧ ∀ j, j < zs.length → W.cell? ⟨b, o + j * 2, none⟩ = some (.int .i64 (zs.getD j (0, 0)).1) ∧ W.cell? ⟨b, o + j * 2 + 1, none⟩ = some (.int .i64 (zs.getD j (0, 0)).2)
theorem SpansAt.below {W W' : World} {p : Option Addr} {zs : List (Int × Int)} (h : SpansAt W p zs) (hb : Below W.heap.size W W') : SpansAt W' p zs := by
  rcases h with h | ⟨b, o, h1, h2, h3⟩
  · exact .inl h
  · exact .inr ⟨b, o, h1, Nat.lt_of_lt_of_le h2 hb.size, fun j hj => ⟨(hb.cell (p := ⟨b, o + j * 2, none⟩) h2).trans (h3 j hj).1, (hb.cell (p := ⟨b, o + j * 2 + 1, none⟩) h2).trans (h3 j hj).2⟩⟩
/-- Readings with their copies. -/
def FoundsC (W : World) (p : Option Addr) (fs : List (FL × List Int)) : Prop :=
  FoundsAt W p (fs.map Prod.fst) ∧ ∀ j, j < fs.length → IntsAt W (fs.getD j default).1.cp (fs.getD j default).2 ∧ (fs.getD j default).1.cn = (fs.getD j default).2.length
theorem FoundsC.below {W W' : World} {p : Option Addr} {fs : List (FL × List Int)} (h : FoundsC W p fs) (hb : Below W.heap.size W W') : FoundsC W' p fs :=
  ⟨h.1.below hb, fun j hj => ⟨(h.2 j hj).1.below hb, (h.2 j hj).2⟩⟩
theorem fst_at {fs : List (FL × List Int)} {k : Nat} (hk : k < fs.length) : (fs.map Prod.fst).getD k default = (fs.getD k default).1 := by
  rw [List.getD, List.getD, List.getElem?_map, List.getElem?_eq_getElem hk]; rfl
theorem fc_cases (x : FL × List Int) : ∃ n q c ws cp cn cc rs zs, x = (⟨⟨n, q, c, ws⟩, cp, cn, cc, rs⟩, zs) := ⟨_, _, _, _, _, _, _, _, _, rfl⟩
end Go.Proofs.YtmfhpddeclggfaaGreatDoor

namespace Go.Proofs.YtmfhpddeclggfaaGreatDoor
open Go.RowKit
/-! The reference's greatest number, known line, one copy more. -/
open Go.Shelf
/-- One copy more, if it is not the last one already. -/
def addL (zs : List Int) (n : Int) : List Int := if zs.getLast? = some n then zs else zs ++ [n]
theorem ints_own {W : World} {B : Nat} {v : Value} {l : List Int} (h : W.ownsRow B 3 1 v l.length (cellsI l)) : ∃ q cap, v = .slice q l.length cap ∧ IntsAt W q l := by
  obtain ⟨h1, ⟨rfl, h2⟩ | ⟨g, cap, cur, rfl, hg, hc, h3, h4, h5, h6⟩⟩ := h
  · exact ⟨none, 0, by rw [h2], .inl (List.length_eq_zero_iff.1 h2)⟩
  · refine ⟨some ⟨g, 0, none⟩, cap, rfl, .inr ⟨g, 0, rfl, (Array.getElem?_eq_some_iff.1 hc).1, fun j hj => ?_⟩⟩
    have g1 : (cellsI l)[j]? = some (.int .i64 (l.getD j 0)) := by
      rw [cellsI, List.getElem?_map, List.getD, List.getElem?_eq_getElem hj]; rfl
    rw [← h6, List.getElem?_take_of_lt (by omega)] at g1
    rw [Nat.zero_add]
    simpa [World.cell?, hc] using g1
theorem cellsI_one {l : List Int} : ∀ u ∈ cellsI l, u.oneCell' = true := fun u hu => by
  obtain ⟨p, -, rfl⟩ := List.mem_map.1 hu
  rfl
end Go.Proofs.YtmfhpddeclggfaaGreatDoor

namespace Go.Proofs.YtmfhpddeclggfaaGreatDoor
open Go.RowKit
/-! The reference's pieces of a length that speak of a number. -/
open Go.Shelf
theorem addL_last (zs : List Int) (i : Int) : (addL zs i).getLast? = some i := by
  unfold addL
  split
  · assumption
  · simp
theorem addL_ne (zs : List Int) (i : Int) : addL zs i ≠ [] := fun h => by
  have := addL_last zs i
  rw [h] at this; cases this
theorem addL_le (zs : List Int) (i : Int) : (addL zs i).length ≤ zs.length + 1 := by
  unfold addL; split <;> simp
theorem IntsAt.keep {W W' : World} {q : Option Addr} {zs : List Int} (h : IntsAt W q zs) (hs : W.heap.size ≤ W'.heap.size) (hc : ∀ ad, q = some ad → ∀ i, W'.cell? ⟨ad.block, i, none⟩ = W.cell? ⟨ad.block, i, none⟩) : IntsAt W' q zs := by
  rcases h with h | ⟨b, o, h1, h2, h3⟩
  · exact .inl h
  · exact .inr ⟨b, o, h1, Nat.lt_of_lt_of_le h2 hs, fun j hj => (hc _ h1 _).trans (h3 j hj)⟩
theorem row_grown {B n k : Nat} {e : TypeId} {W W' : World} {v : Value} {xs : List Value} {row : Option Nat} (h : W.ownsRow B e k v n xs) (hg : W.grownBy W' row) (hr : ∀ r, row = some r → r < B) : W'.ownsRow B e k v n xs := by
  refine h.kept hg ?_
  cases hv : v.ownBlock with
  | none => exact .inl rfl
  | some g => exact .inr (fun e => by have h1 := (h.lt g hv).1; have h2 := hr g e.symm; omega)
end Go.Proofs.YtmfhpddeclggfaaGreatDoor

namespace Go.Proofs.YtmfhpddeclggfaaGreatDoor
open Go.RowKit
/-! The reference's pieces of a length that speak of a number: the walk. -/
open Go.Shelf
end Go.Proofs.YtmfhpddeclggfaaGreatDoor

namespace Go.Proofs.YtmfhpddeclggfaaGreatDoor
open Go.RowKit
/-! The reference's readings: plain, and how they lie. -/
open Go.Shelf
/-- The cells of readings. -/
def flatF : List (FL × List Int) → List Value
  | [] => []
  | f :: fs => .int .i64 f.1.g.n :: .slice f.1.g.p f.1.g.ws.length f.1.g.cap :: .slice f.1.cp f.1.cn f.1.cc :: .bool f.1.rs :: flatF fs
theorem flatF_snoc : ∀ (fs gs : List (FL × List Int)), flatF (fs ++ gs) = flatF fs ++ flatF gs
  | [], _ => rfl
  | f :: fs, gs => by simp [flatF, flatF_snoc fs gs]
theorem flatF_len : ∀ fs : List (FL × List Int), (flatF fs).length = fs.length * 4
  | [] => rfl
  | f :: fs => by have := flatF_len fs; simp only [flatF, List.length_cons]; omega
theorem flatF_at : ∀ (fs : List (FL × List Int)) (k : Nat), k < fs.length → (flatF fs)[k * 4]? = some (.int .i64 (fs.getD k default).1.g.n) ∧ (flatF fs)[k * 4 + 1]? = some (.slice (fs.getD k default).1.g.p (fs.getD k default).1.g.ws.length (fs.getD k default).1.g.cap) ∧ (flatF fs)[k * 4 + 2]? = some (.slice (fs.getD k default).1.cp (fs.getD k default).1.cn (fs.getD k default).1.cc) ∧ (flatF fs)[k * 4 + 3]? = some (.bool (fs.getD k default).1.rs)
  | [], _, h => absurd h (Nat.not_lt_zero _)
  | f :: fs, 0, _ => ⟨rfl, rfl, rfl, rfl⟩
  | f :: fs, k + 1, h => by
    have := flatF_at fs k (Nat.lt_of_succ_lt_succ h)
    have e : (k + 1) * 4 = k * 4 + 1 + 1 + 1 + 1 := by omega
    rw [e]
    exact this
end Go.Proofs.YtmfhpddeclggfaaGreatDoor

namespace Go.Proofs.YtmfhpddeclggfaaGreatDoor
open Go.RowKit
/-! The reference's readings: the walk. -/
open Go.Shelf
theorem flatF_one : ∀ {l : List (FL × List Int)}, ∀ u ∈ flatF l, u.oneCell' = true
  | [], u, h => by simp [flatF] at h
  | p :: l, u, h => by
    simp only [flatF, List.mem_cons] at h
    rcases h with rfl | rfl | rfl | rfl | h
    · rfl
    · rfl
    · rfl
    · rfl
    · exact flatF_one u h
theorem snoc_at {α : Type} [Inhabited α] (l : List α) (x : α) {k : Nat} (h : k = l.length) : (l ++ [x]).getD k default = x := by
  subst h
  rw [List.getD, List.getElem?_append_right (Nat.le_refl _), Nat.sub_self]; rfl
end Go.Proofs.YtmfhpddeclggfaaGreatDoor

namespace Go.Proofs.YtmfhpddeclggfaaGreatDoor
open Go.RowKit
/-! The reference's restored lines: how they lie. -/
open Go.Shelf
theorem StrsAt.keep {W W' : World} {q : Option Addr} {zs : List ByteArray} (h : StrsAt W q zs) (hs : W.heap.size ≤ W'.heap.size) (hc : zs = [] ∨ ∀ ad, q = some ad → ∀ i, W'.cell? ⟨ad.block, i, none⟩ = W.cell? ⟨ad.block, i, none⟩) : StrsAt W' q zs := by
  rcases h with h | ⟨b, o, h1, h2, h3⟩
  · exact .inl h
  · rcases hc with hc | hc
    · exact .inl hc
    · exact .inr ⟨b, o, h1, Nat.lt_of_lt_of_le h2 hs, fun j hj => (hc _ h1 _).trans (h3 j hj)⟩
theorem IntsAt.keep2 {W W' : World} {q : Option Addr} {zs : List Int} (h : IntsAt W q zs) (hs : W.heap.size ≤ W'.heap.size) (hc : zs = [] ∨ ∀ ad, q = some ad → ∀ i, W'.cell? ⟨ad.block, i, none⟩ = W.cell? ⟨ad.block, i, none⟩) : IntsAt W' q zs := by
  rcases hc with hc | hc
  · exact .inl hc
  · exact h.keep hs hc
/-- A block that lies there and is none of two rows. -/
def Off (W : World) (vo vs : Value) (q : Option Addr) : Prop := ∀ ad, q = some ad → ad.block < W.heap.size ∧ some ad.block ≠ vo.ownBlock ∧ some ad.block ≠ vs.ownBlock
theorem Off.next {W W' : World} {vo vs : Value} {q : Option Addr} (h : Off W vo vs q) (hs : W.heap.size ≤ W'.heap.size) : Off W' vo vs q := fun ad e => ⟨Nat.lt_of_lt_of_le (h ad e).1 hs, (h ad e).2⟩
/-- Two rows of one's own: readings, with what lies behind them, and numbers. -/
structure RT (w W : World) (vo vs : Value) (fs : List (FL × List Int)) (seen : List Int) : Prop where
  bel : Below w.heap.size w W
  ro : W.ownsRow w.heap.size 87 4 vo fs.length (flatF fs)
  rs : W.ownsRow w.heap.size 3 1 vs seen.length (cellsI seen)
  ne : vo.ownBlock = none ∨ vo.ownBlock ≠ vs.ownBlock
  at' : ∀ k, k < fs.length → StrsAt W (fs.getD k default).1.g.p (fs.getD k default).1.g.ws ∧ ((fs.getD k default).1.g.ws = [] ∨ Off W vo vs (fs.getD k default).1.g.p) ∧ IntsAt W (fs.getD k default).1.cp (fs.getD k default).2 ∧ ((fs.getD k default).2 = [] ∨ Off W vo vs (fs.getD k default).1.cp) ∧ (fs.getD k default).1.cn = (fs.getD k default).2.length
theorem RT.mk0 (w : World) : RT w w (.slice none 0 0) (.slice none 0 0) [] [] :=
  ⟨Below.refl _ _, World.ownsRow_nil _ _ _ _, World.ownsRow_nil _ _ _ _, .inl rfl, fun _ h => absurd h (Nat.not_lt_zero _)⟩
theorem RT.next {w W W' : World} {vo vs : Value} {fs : List (FL × List Int)} {seen : List Int} (h : RT w W vo vs fs seen) (hb : Below W.heap.size W W') : RT w W' vo vs fs seen :=
  ⟨h.bel.trans (hb.mono h.bel.size), ownsRow_keep h.ro hb, ownsRow_keep h.rs hb, h.ne, fun k hk => by
    obtain ⟨g1, g2, g3, g4, g5⟩ := h.at' k hk
    exact ⟨g1.below hb, g2.imp id (fun h => h.next hb.size), g3.below hb, g4.imp id (fun h => h.next hb.size), g5⟩⟩
/-- One reading more. -/
theorem RT.out {w W W' : World} {vo vs v' : Value} {fs : List (FL × List Int)} {seen : List Int} {f : FL} {zs : List Int} (h : RT w W vo vs fs seen)
    (hs : StrsAt W f.g.p f.g.ws) (hs2 : f.g.ws = [] ∨ Off W vo vs f.g.p) (hi : IntsAt W f.cp zs) (hi2 : zs = [] ∨ Off W vo vs f.cp) (hn : f.cn = zs.length)
    (hown : W'.ownsRow w.heap.size 87 4 v' (fs.length + 1) (flatF fs ++ flatF [(f, zs)])) (hgr : W.grownBy W' vo.ownBlock) (hat : v'.ownBlock = vo.ownBlock ∨ v'.ownBlock = some W.heap.size) : RT w W' v' vs (fs ++ [(f, zs)]) seen := by
  have hoff : ∀ q, Off W vo vs q → Off W' v' vs q ∧ ∀ ad, q = some ad → ∀ i, W'.cell? ⟨ad.block, i, none⟩ = W.cell? ⟨ad.block, i, none⟩ := fun q hq => by
    refine ⟨fun ad e => ?_, fun ad e i => World.cell?_of_block (a := ⟨ad.block, i, none⟩) (hgr.block _ (hq ad e).1 (hq ad e).2.1)⟩
    obtain ⟨g1, g2, g3⟩ := hq ad e
    refine ⟨Nat.lt_of_lt_of_le g1 hgr.size, ?_, g3⟩
    rcases hat with hat | hat <;> rw [hat]
    · exact g2
    · exact fun e => by have := Option.some.inj e; omega
  have hne : vs.ownBlock = none ∨ vs.ownBlock ≠ vo.ownBlock := by
    rcases h.ne with e | e
    · cases hv : vs.ownBlock with
      | none => exact .inl rfl
      | some g => exact .inr (by rw [e]; exact fun e => by cases e)
    · exact .inr e.symm
  refine ⟨h.bel.grown hgr h.bel.size (fun k e => (h.ro.lt k e).1), ?_, h.rs.kept hgr hne, ?_, fun k hk => ?_⟩
  · rw [List.length_append, flatF_snoc]; exact hown
  · cases hv : vs.ownBlock with
    | none => 
      cases hv2 : v'.ownBlock with
      | none => exact .inl rfl
      | some g => exact .inr (fun e => by cases e)
    | some g =>
      refine .inr ?_
      have g1 := (h.rs.lt g hv).2
      rcases hat with hat | hat <;> rw [hat]
      · rcases hne with e | e
        · rw [hv] at e; cases e
        · rw [← hv]; exact e.symm
      · exact fun e => by have := Option.some.inj e; omega
  · by_cases hlt : k < fs.length
    · rw [List.getD, List.getElem?_append_left hlt]
      obtain ⟨g1, g2, g3, g4, g5⟩ := h.at' k hlt
      exact ⟨g1.keep hgr.size (g2.imp id (fun h => (hoff _ h).2)), g2.imp id (fun h => (hoff _ h).1), g3.keep2 hgr.size (g4.imp id (fun h => (hoff _ h).2)), g4.imp id (fun h => (hoff _ h).1), g5⟩
    · rw [snoc_at _ _ (by rw [List.length_append] at hk; simp at hk; omega)]
      exact ⟨hs.keep hgr.size (hs2.imp id (fun h => (hoff _ h).2)), hs2.imp id (fun h => (hoff _ h).1), hi.keep2 hgr.size (hi2.imp id (fun h => (hoff _ h).2)), hi2.imp id (fun h => (hoff _ h).1), hn⟩
theorem RT.lt {w W : World} {vo vs : Value} {fs : List (FL × List Int)} {seen : List Int} (h : RT w W vo vs fs seen) : (∀ g, vo.ownBlock = some g → g < W.heap.size) ∧ ∀ g, vs.ownBlock = some g → g < W.heap.size := ⟨fun g e => (h.ro.lt g e).2, fun g e => (h.rs.lt g e).2⟩
/-- Words in a block that is newer than both rows. -/
theorem RT.offS {w W W' : World} {vo vs : Value} {fs : List (FL × List Int)} {seen : List Int} (h : RT w W vo vs fs seen) {p : Option Addr} {ws : List ByteArray} (hs : StrsAt W' p ws) (hp : PFrom W.heap.size p) : ws = [] ∨ Off W' vo vs p := by
  rcases hs with h1 | ⟨b, o, h1, h2, -⟩
  · exact .inl h1
  · refine .inr (fun ad e => ?_)
    rw [e] at h1; cases h1
    have h3 := hp _ e
    exact ⟨h2, fun e => by have := h.lt.1 _ e.symm; omega, fun e => by have := h.lt.2 _ e.symm; omega⟩
theorem RT.offI {w W W' : World} {vo vs : Value} {fs : List (FL × List Int)} {seen : List Int} (h : RT w W vo vs fs seen) {p : Option Addr} {ws : List Int} (hs : IntsAt W' p ws) (hp : PFrom W.heap.size p) : ws = [] ∨ Off W' vo vs p := by
  rcases hs with h1 | ⟨b, o, h1, h2, -⟩
  · exact .inl h1
  · refine .inr (fun ad e => ?_)
    rw [e] at h1; cases h1
    have h3 := hp _ e
    exact ⟨h2, fun e => by have := h.lt.1 _ e.symm; omega, fun e => by have := h.lt.2 _ e.symm; omega⟩
end Go.Proofs.YtmfhpddeclggfaaGreatDoor

namespace Go.Proofs.YtmfhpddeclggfaaGreatDoor
open Go.RowKit
/-! The reference's restored lines: plain. -/
open Go.Shelf
/-- What pieces show together. -/
def ovO (ts : List ByteArray) : Option ByteArray := if ts = [] then none else if sameSz ts = true then if (List.range (ts.getD 0 ByteArray.empty).size).all (fun k => oneB (colOf ts k)) = true then some (bs ((List.range (ts.getD 0 ByteArray.empty).size).map fun k => lastB (colOf ts k))) else none else none
def ovS (o : Option ByteArray) : ByteArray := o.getD ⟨#[]⟩
theorem ovRes_eq (ts : List ByteArray) : ovRes ts = .tuple #[.string (ovS (ovO ts)), .bool (ovO ts).isSome] := by
  unfold ovRes ovO ovVal ovS
  split
  · rfl
  · split
    · split <;> rfl
    · rfl
theorem ovS_size (ts : List ByteArray) (M : Nat) (h : ∀ j, j < ts.length → (ts.getD j ByteArray.empty).size ≤ M) : (ovS (ovO ts)).size ≤ M := by
  unfold ovO ovS
  split
  · exact Nat.zero_le _
  · rename_i h0
    split
    · split
      · have : (bs ((List.range (ts.getD 0 ByteArray.empty).size).map fun k => lastB (colOf ts k))).size = (ts.getD 0 ByteArray.empty).size := by rw [bs_size, List.length_map, List.length_range]
        rw [Option.getD_some, this]
        exact h 0 (List.length_pos_iff.2 h0)
      · exact Nat.zero_le _
    · exact Nat.zero_le _
end Go.Proofs.YtmfhpddeclggfaaGreatDoor

