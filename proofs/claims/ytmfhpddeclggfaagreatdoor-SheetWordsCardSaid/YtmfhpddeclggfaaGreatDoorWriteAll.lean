import Derived.Test.YtmfhpddeclggfaaGreatDoorRead
import Derived.WalkKit
import Derived.LoopTactic
import Derived.WalkSpells
import Derived.WalkLawsBesides
import Derived.Lib.Hide
import Derived.BigQuiet
import Derived.IntWalk
import Derived.Deep.DeepMust
import Derived.WalkSmall
import Derived.StillTailTactics
import Derived.Lib.SlBytesConst
import Derived.Deep.RegionLaw
import Derived.Deep.QuietTactic
namespace Go.Proofs.YtmfhpddeclggfaaGreatDoor
open Go.RowKit
theorem bWriteStringL (B b : Nat) (l : List UInt8) (s : ByteArray) (w : World) (h : Bld w B b l) (hlen : l.length + s.size ≤ 100000000000) (hB : B ≤ w.heap.size) :
    Calls Tryz.prog 87 #[.pointer (some ⟨b, 0, none⟩), .string s] w fun e w' => e = .returned (.tuple #[.int .i64 s.size, .nilIface]) ∧ Bld w' B b (l ++ s.data.toList) ∧ Below B w w' :=
  (Tryz.Builder_WriteString_f B b _ s w h (by rw [Lib.byteCells_length]; omega) hB).mono fun e w' ⟨h1, h2, h3⟩ => ⟨h1, Or.inr (by rw [Lib.byteCells_append]; exact h2), h3⟩
/-- A line as it lies in a slice of lines. -/
structure GL where
  n : Int
  p : Option Addr
  cap : Nat
  ws : List ByteArray
def GL.small (g : GL) : Prop := g.ws.length ≤ maxLen ∧ ∀ j, (g.ws.getD j ByteArray.empty).size ≤ maxLen
instance : Inhabited GL := ⟨⟨0, none, 0, []⟩⟩
/-- These lines lie there. -/
def LinesAt (W : World) (p : Option Addr) (ls : List GL) : Prop :=
  (ls = [] ∨ ∃ b o, p = some ⟨b, o, none⟩ ∧ b < W.heap.size ∧ ∀ j, j < ls.length → W.cell? ⟨b, o + j * 2, none⟩ = some (.int .i64 (ls.getD j default).n) ∧ W.cell? ⟨b, o + j * 2 + 1, none⟩ = some (.slice (ls.getD j default).p (ls.getD j default).ws.length (ls.getD j default).cap)) ∧
  ∀ j, j < ls.length → StrsAt W (ls.getD j default).p (ls.getD j default).ws
theorem LinesAt.below {w w' : World} {p : Option Addr} {ls : List GL} (h : LinesAt w p ls) (hb : Below w.heap.size w w') : LinesAt w' p ls := by
  obtain ⟨h1, h2⟩ := h
  refine ⟨?_, fun j hj => (h2 j hj).below hb⟩
  rcases h1 with h | ⟨b, o, h1, h3, h4⟩
  · exact Or.inl h
  · refine Or.inr ⟨b, o, h1, Nat.lt_of_lt_of_le h3 hb.size, fun j hj => ?_⟩
    rw [hb.cell (p := ⟨b, o + j * 2, none⟩) h3, hb.cell (p := ⟨b, o + j * 2 + 1, none⟩) h3]
    exact h4 j hj
/-- The first error of these lines. -/
def waErr : List GL → Int
  | [] => 0
  | g :: r => if lineErr g.n g.ws = 0 then waErr r else lineErr g.n g.ws
def waText (ls : List GL) : List UInt8 := ls.flatMap fun g => lineT g.n g.ws ++ [10]
def waRes (ls : List GL) : Value := if waErr ls = 0 then .tuple #[.string (bs (waText ls)), .int .i64 0] else .tuple #[.string ⟨#[]⟩, .int .i64 (waErr ls)]
theorem waErr_at : ∀ (ls : List GL) (k : Nat), k < ls.length → (∀ j, j < k → lineErr (ls.getD j default).n (ls.getD j default).ws = 0) → lineErr (ls.getD k default).n (ls.getD k default).ws ≠ 0 → waErr ls = lineErr (ls.getD k default).n (ls.getD k default).ws
  | [], k, h, _, _ => by simp at h
  | g :: r, 0, _, _, h => by
    simp only [List.getD_cons_zero] at h ⊢
    unfold waErr; rw [if_neg h]
  | g :: r, k + 1, h, h1, h2 => by
    have h0 := h1 0 (Nat.succ_pos _)
    simp only [List.getD_cons_zero] at h0
    simp only [List.getD_cons_succ] at h2 ⊢
    unfold waErr; rw [if_pos h0]
    exact waErr_at r k (by simpa using h) (fun j hj => by have := h1 (j + 1) (by omega); simpa using this) h2
theorem waErr_none : ∀ (ls : List GL), (∀ j, j < ls.length → lineErr (ls.getD j default).n (ls.getD j default).ws = 0) → waErr ls = 0
  | [], _ => rfl
  | g :: r, h => by
    have h0 := h 0 (by simp)
    simp only [List.getD_cons_zero] at h0
    unfold waErr; rw [if_pos h0]
    exact waErr_none r fun j hj => by have := h (j + 1) (by simpa using hj); simpa using this
theorem waText_snoc (ls : List GL) (k : Nat) (h : k < ls.length) : waText (ls.take (k + 1)) = waText (ls.take k) ++ lineT (ls.getD k default).n (ls.getD k default).ws ++ [10] := by
  unfold waText
  rw [List.take_succ_eq_append_getElem h, List.flatMap_append, List.getD, List.getElem?_eq_getElem h]
  simp
theorem waText_len : ∀ (ls : List GL), (∀ j, j < ls.length → lineErr (ls.getD j default).n (ls.getD j default).ws = 0) → (waText ls).length ≤ 6001 * ls.length
  | [], _ => by simp [waText]
  | g :: r, h => by
    have ih := waText_len r fun j hj => by have := h (j + 1) (by simpa using hj); simpa using this
    have h0 := h 0 (by simp)
    simp only [List.getD_cons_zero] at h0
    have h1 := lineT_size h0
    rw [bs_size] at h1
    unfold waText at ih ⊢
    rw [List.flatMap_cons, List.length_append, List.length_append, List.length_cons, List.length_cons, List.length_nil]
    omega
/-- How the world stands while lines are written. -/
structure SA (w0 W : World) (p : Option Addr) (ls : List GL) (l : List UInt8) : Prop where
  bel : Below w0.heap.size w0 W
  lns : LinesAt W p ls
  env : Env W
  bld : Bld W w0.heap.size w0.heap.size l
  lt : w0.heap.size < W.heap.size
theorem SA.next {w0 W W' : World} {p : Option Addr} {ls : List GL} {l l' : List UInt8} (h0 : LinesAt w0 p ls) (e0 : Env w0) (h : SA w0 W p ls l) (hb : Below w0.heap.size W W') (hl : Bld W' w0.heap.size w0.heap.size l') : SA w0 W' p ls l' :=
  ⟨h.bel.trans hb, h0.below (h.bel.trans hb), e0.next (h.bel.trans hb), hl, by have := hb.size; have := h.lt; omega⟩
theorem SA.keep {w0 W W' : World} {p : Option Addr} {ls : List GL} {l : List UInt8} (h0 : LinesAt w0 p ls) (e0 : Env w0) (h : SA w0 W p ls l) (hb : Below W.heap.size W W') : SA w0 W' p ls l :=
  h.next h0 e0 (hb.mono (Nat.le_of_lt h.lt)) (h.bld.kept hb)
set_option maxRecDepth 100000 in
set_option maxHeartbeats 1000000 in
theorem sWriteAll (p : Option Addr) (cap : Nat) (ls : List GL) (w : World) (hl : ls.length ≤ 1000000) (hs : ∀ j, j < ls.length → (ls.getD j default).small) (hp : LinesAt w p ls) (he : Env w) :
    Calls Tryz.prog 96 #[.slice p ls.length cap] w fun e w' => e = .returned (waRes ls) ∧ Below w.heap.size w w' := by
  have HE := Lib.hid he
  have HP := Lib.hid hp
  have HS := Lib.hid hs
  have s0 : SA w (w.alloc (.cells #[.pointer none, .slice none 0 0] 137)) p ls (waText (ls.take 0)) :=
    ⟨below_alloc1 _ _, hp.below (below_alloc1 _ _), he.next (below_alloc1 _ _), Lib.IsBuilderF.of (bld_fresh w), by simp⟩
  have S0 := Lib.hid s0
  clear hs hp he s0
  go_enter Tryz.func96, Tryz.ntmps96
  go_wp2_with fail
  go_loopw [11] (fun i wr => ∃ k : Nat, k ≤ ls.length ∧ i = .int .i64 k ∧ Hid (∀ j, j < k → lineErr (ls.getD j default).n (ls.getD j default).ws = 0) ∧ Hid (SA w wr p ls (waText (ls.take k)))) (fun i _ => ls.length - (intOf i).toNat)
  case atStart => exact ⟨0, Nat.zero_le _, rfl, fun j h => absurd h (Nat.not_lt_zero _), S0⟩
  case round =>
    clear S0
    obtain ⟨k, hk, rfl, HN, S⟩ := hrel
    by_cases hlt : k < ls.length
    · obtain ⟨n, q, c, ws, hg⟩ : ∃ n q c ws, Hid (ls.getD k default = ⟨n, q, c, ws⟩) := ⟨_, _, _, _, rfl⟩
      obtain ⟨b, o, rfl, hb, hc0, hc1⟩ : ∃ b o, p = some ⟨b, o, none⟩ ∧ b < wr.heap.size ∧ wr.cell? ⟨b, o + k * 2, none⟩ = some (.int .i64 n) ∧ wr.cell? ⟨b, o + k * 2 + 1, none⟩ = some (.slice q ws.length c) := by
        rcases S.out.lns.1 with h | ⟨b, o, e1, e2, e3⟩
        · rw [h] at hlt; exact absurd hlt (by simp)
        · have := e3 k hlt
          rw [hg.out] at this
          exact ⟨b, o, e1, e2, this.1, this.2⟩
      have hsm := HS.out k hlt
      have hst := S.out.lns.2 k hlt
      rw [hg.out] at hsm hst
      have C := sWrite n q c ws (wr.alloc (.cells #[.int .i64 n, .slice q ws.length c] 39)) hsm.1 hsm.2 (hst.below (below_alloc1 _ _)) (S.out.env.next (below_alloc1 _ _))
      have S1 := Lib.hid (S.out.keep HP.out HE.out (below_alloc1 wr (.cells #[.int .i64 n, .slice q ws.length c] 39)))
      clear hsm hst
      by_cases h0 : lineErr n ws = 0
      · unfold wrRes at C
        rw [if_pos h0] at C
        have C1 := Lib.hid C
        have hT := lineT_size h0
        have HT := Lib.hid hT
        have HN1 : Hid (∀ j, j < k + 1 → lineErr (ls.getD j default).n (ls.getD j default).ws = 0) := by
          intro j hj
          by_cases h : j < k
          · exact HN.out j h
          · obtain rfl : j = k := by omega
            rw [hg.out]; exact h0
        have hbig : (waText (ls.take k)).length ≤ 6001 * 1000000 := by
          have := waText_len (ls.take k) fun j hj => by
            rw [List.length_take] at hj
            rw [List.getD, List.getElem?_take_of_lt (by omega), ← List.getD]
            exact HN.out j (by omega)
          rw [List.length_take] at this
          omega
        have HBG := Lib.hid hbig
        obtain ⟨T, hTe⟩ : ∃ T, Hid (bs (lineT n ws) = T) := ⟨_, rfl⟩
        rw [hTe.out] at C1 HT
        clear C h0 hT hbig
        go_wp2_with fail
        refine C1.out.mono ?_
        rintro e w4 ⟨rfl, hb4⟩
        have S2 := Lib.hid (S1.out.keep HP.out HE.out hb4)
        clear hb4 S1 C1 hc0 hc1
        go_wp2_with fail
        refine (bWriteStringL w.heap.size w.heap.size _ T _ S2.out.bld (by have := HT.out; have := HBG.out; omega) (Nat.le_of_lt S2.out.lt)).mono ?_
        rintro e w5 ⟨rfl, hbl, hb5⟩
        have S3 := Lib.hid (S2.out.next HP.out HE.out hb5 hbl)
        clear hb5 hbl S2
        go_wp2_with fail
        refine (bWriteStringL w.heap.size w.heap.size _ ⟨#[10]⟩ _ S3.out.bld (by have := HT.out; have := HBG.out; have h1 : (⟨#[10]⟩ : ByteArray).size = 1 := rfl; rw [List.length_append, ← Lib.size_eq, h1]; omega) (Nat.le_of_lt S3.out.lt)).mono ?_
        rintro e w6 ⟨rfl, hbl, hb6⟩
        have S4 := Lib.hid (S3.out.next HP.out HE.out hb6 hbl)
        clear hb6 hbl S3
        go_wp2_with fail
        go_roundw
        case rel =>
          refine ⟨k + 1, by omega, by go_num, HN1, ?_⟩
          have := S4.out
          unfold Hid
          rw [waText_snoc ls k hlt, hg.out]
          rw [← hTe.out] at this
          exact this
        case measure => simp [intOf]; omega
      · have h1 : (lineErr n ws != 0) = true := bne_iff_ne.2 h0
        unfold wrRes at C
        rw [if_neg h0] at C
        have C1 := Lib.hid C
        have HR : Hid (waRes ls = .tuple #[.string ⟨#[]⟩, .int .i64 (lineErr n ws)]) := by
          have e := waErr_at ls k hlt HN.out (by rw [hg.out]; exact h0)
          rw [hg.out] at e
          unfold waRes Hid
          rw [e, if_neg h0]
        clear C h0
        go_wp2_with fail
        refine C1.out.mono ?_
        rintro e w4 ⟨rfl, hb4⟩
        have S2 := Lib.hid (S1.out.keep HP.out HE.out hb4)
        clear hb4 S1 C1 hc0 hc1
        go_wp2_with fail
        go_ret2
        exact ⟨by rw [HR.out]; rfl, S2.out.bel⟩
    · obtain rfl : k = ls.length := by omega
      have hR : waErr ls = 0 := waErr_none ls HN.out
      have HR : Hid (waRes ls = .tuple #[.string (bs (waText ls)), .int .i64 0]) := by
        unfold waRes Hid
        rw [if_pos hR]
      have S8 : Hid (SA w wr p ls (waText ls)) := by
        have := S.out
        rw [List.take_length] at this
        exact this
      clear S hR
      go_wp2_with fail
      refine (bString w.heap.size w.heap.size _ _ S8.out.bld (Nat.le_of_lt S8.out.lt)).mono ?_
      rintro e w8 ⟨rfl, hbl, hbe⟩
      have S9 := Lib.hid (S8.out.next HP.out HE.out hbe hbl)
      clear S8 hbl hbe
      go_wp2_with fail
      go_ret2
      exact ⟨by rw [HR.out]; rfl, S9.out.bel⟩
end Go.Proofs.YtmfhpddeclggfaaGreatDoor
