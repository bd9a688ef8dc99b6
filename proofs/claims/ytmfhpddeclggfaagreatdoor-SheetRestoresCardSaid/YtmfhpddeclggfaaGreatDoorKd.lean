import Derived.Test.YtmfhpddeclggfaaGreatDoorKb
import Derived.WalkKit
import Derived.LoopTactic
import Derived.WalkSpells
import Derived.WalkLawsBesides
import Derived.Lib.Hide
import Derived.BigQuiet
import Derived.IntWalk
import Derived.Deep.DeepMust
import Derived.WalkSmall
import Derived.StillTailTactics
import Derived.Lib.SlBytesConst
import Derived.Deep.RegionLaw
import Derived.Deep.QuietTactic
import Derived.Test.YtmfhpddeclggfaaGreatDoorKc
import Derived.Laws.AppendOwn
import Derived.Laws.StructEq
import Derived.MapKept
import Derived.WideKeyRuns
import Derived.Maps.Own
import Derived.Deep.RegionHeld3
import Derived.Deep.AppendLies
namespace Go.Proofs.YtmfhpddeclggfaaGreatDoor
open Go.RowKit
theorem bWriteStringL (B b : Nat) (l : List UInt8) (s : ByteArray) (w : World) (h : Bld w B b l) (hlen : l.length + s.size ≤ 100000000000) (hB : B ≤ w.heap.size) :
    Calls Tryz.prog 87 #[.pointer (some ⟨b, 0, none⟩), .string s] w fun e w' => e = .returned (.tuple #[.int .i64 s.size, .nilIface]) ∧ Bld w' B b (l ++ s.data.toList) ∧ Below B w w' :=
  (Tryz.Builder_WriteString_f B b _ s w h (by rw [Lib.byteCells_length]; omega) hB).mono fun e w' ⟨h1, h2, h3⟩ => ⟨h1, Or.inr (by rw [Lib.byteCells_append]; exact h2), h3⟩
/-- A line as it lies in a slice of lines. -/
structure GL where
  n : Int
  p : Option Addr
  cap : Nat
  ws : List ByteArray
def GL.small (g : GL) : Prop := g.ws.length ≤ maxLen ∧ ∀ j, (g.ws.getD j ByteArray.empty).size ≤ maxLen
instance : Inhabited GL := ⟨⟨0, none, 0, []⟩⟩
/-- These lines lie there. -/
def LinesAt (W : World) (p : Option Addr) (ls : List GL) : Prop :=
  (ls = [] ∨ ∃ b o, p = some ⟨b, o, none⟩ ∧ b < W.heap.size ∧ ∀ j, j < ls.length → W.cell? ⟨b, o + j * 2, none⟩ = some (.int .i64 (ls.getD j default).n) ∧ W.cell? ⟨b, o + j * 2 + 1, none⟩ = some (.slice (ls.getD j default).p (ls.getD j default).ws.length (ls.getD j default).cap)) ∧
  ∀ j, j < ls.length → StrsAt W (ls.getD j default).p (ls.getD j default).ws
theorem LinesAt.below {w w' : World} {p : Option Addr} {ls : List GL} (h : LinesAt w p ls) (hb : Below w.heap.size w w') : LinesAt w' p ls := by
  obtain ⟨h1, h2⟩ := h
  refine ⟨?_, fun j hj => (h2 j hj).below hb⟩
  rcases h1 with h | ⟨b, o, h1, h3, h4⟩
  · exact Or.inl h
  · refine Or.inr ⟨b, o, h1, Nat.lt_of_lt_of_le h3 hb.size, fun j hj => ?_⟩
    rw [hb.cell (p := ⟨b, o + j * 2, none⟩) h3, hb.cell (p := ⟨b, o + j * 2 + 1, none⟩) h3]
    exact h4 j hj
/-- The first error of these lines. -/
def waErr : List GL → Int
  | [] => 0
  | g :: r => if lineErr g.n g.ws = 0 then waErr r else lineErr g.n g.ws
def waText (ls : List GL) : List UInt8 := ls.flatMap fun g => lineT g.n g.ws ++ [10]
def waRes (ls : List GL) : Value := if waErr ls = 0 then .tuple #[.string (bs (waText ls)), .int .i64 0] else .tuple #[.string ⟨#[]⟩, .int .i64 (waErr ls)]
theorem waErr_at : ∀ (ls : List GL) (k : Nat), k < ls.length → (∀ j, j < k → lineErr (ls.getD j default).n (ls.getD j default).ws = 0) → lineErr (ls.getD k default).n (ls.getD k default).ws ≠ 0 → waErr ls = lineErr (ls.getD k default).n (ls.getD k default).ws
  | [], k, h, _, _ => by simp at h
  | g :: r, 0, _, _, h => by
    simp only [List.getD_cons_zero] at h ⊢
    unfold waErr; rw [if_neg h]
  | g :: r, k + 1, h, h1, h2 => by
    have h0 := h1 0 (Nat.succ_pos _)
    simp only [List.getD_cons_zero] at h0
    simp only [List.getD_cons_succ] at h2 ⊢
    unfold waErr; rw [if_pos h0]
    exact waErr_at r k (by simpa using h) (fun j hj => by have := h1 (j + 1) (by omega); simpa using this) h2
theorem waErr_none : ∀ (ls : List GL), (∀ j, j < ls.length → lineErr (ls.getD j default).n (ls.getD j default).ws = 0) → waErr ls = 0
  | [], _ => rfl
  | g :: r, h => by
    have h0 := h 0 (by simp)
    simp only [List.getD_cons_zero] at h0
    unfold waErr; rw [if_pos h0]
    exact waErr_none r fun j hj => by have := h (j + 1) (by simpa using hj); simpa using this
theorem waText_snoc (ls : List GL) (k : Nat) (h : k < ls.length) : waText (ls.take (k + 1)) = waText (ls.take k) ++ lineT (ls.getD k default).n (ls.getD k default).ws ++ [10] := by
  unfold waText
  rw [List.take_succ_eq_append_getElem h, List.flatMap_append, List.getD, List.getElem?_eq_getElem h]
  simp
theorem waText_len : ∀ (ls : List GL), (∀ j, j < ls.length → lineErr (ls.getD j default).n (ls.getD j default).ws = 0) → (waText ls).length ≤ 6001 * ls.length
  | [], _ => by simp [waText]
  | g :: r, h => by
    have ih := waText_len r fun j hj => by have := h (j + 1) (by simpa using hj); simpa using this
    have h0 := h 0 (by simp)
    simp only [List.getD_cons_zero] at h0
    have h1 := lineT_size h0
    rw [bs_size] at h1
    unfold waText at ih ⊢
    rw [List.flatMap_cons, List.length_append, List.length_append, List.length_cons, List.length_cons, List.length_nil]
    omega
/-- How the world stands while lines are written. -/
structure SA (w0 W : World) (p : Option Addr) (ls : List GL) (l : List UInt8) : Prop where
  bel : Below w0.heap.size w0 W
  lns : LinesAt W p ls
  env : Env W
  bld : Bld W w0.heap.size w0.heap.size l
  lt : w0.heap.size < W.heap.size
theorem SA.next {w0 W W' : World} {p : Option Addr} {ls : List GL} {l l' : List UInt8} (h0 : LinesAt w0 p ls) (e0 : Env w0) (h : SA w0 W p ls l) (hb : Below w0.heap.size W W') (hl : Bld W' w0.heap.size w0.heap.size l') : SA w0 W' p ls l' :=
  ⟨h.bel.trans hb, h0.below (h.bel.trans hb), e0.next (h.bel.trans hb), hl, by have := hb.size; have := h.lt; omega⟩
theorem SA.keep {w0 W W' : World} {p : Option Addr} {ls : List GL} {l : List UInt8} (h0 : LinesAt w0 p ls) (e0 : Env w0) (h : SA w0 W p ls l) (hb : Below W.heap.size W W') : SA w0 W' p ls l :=
  h.next h0 e0 (hb.mono (Nat.le_of_lt h.lt)) (h.bld.kept hb)
set_option maxRecDepth 100000 in
set_option maxHeartbeats 1000000 in
theorem sWriteAll (p : Option Addr) (cap : Nat) (ls : List GL) (w : World) (hl : ls.length ≤ 1000000) (hs : ∀ j, j < ls.length → (ls.getD j default).small) (hp : LinesAt w p ls) (he : Env w) :
    Calls Tryz.prog 96 #[.slice p ls.length cap] w fun e w' => e = .returned (waRes ls) ∧ Below w.heap.size w w' := by
  have HE := Lib.hid he
  have HP := Lib.hid hp
  have HS := Lib.hid hs
  have s0 : SA w (w.alloc (.cells #[.pointer none, .slice none 0 0] 137)) p ls (waText (ls.take 0)) :=
    ⟨below_alloc1 _ _, hp.below (below_alloc1 _ _), he.next (below_alloc1 _ _), Lib.IsBuilderF.of (bld_fresh w), by simp⟩
  have S0 := Lib.hid s0
  clear hs hp he s0
  go_enter Tryz.func96, Tryz.ntmps96
  go_wp2_with fail
  go_loopw [11] (fun i wr => ∃ k : Nat, k ≤ ls.length ∧ i = .int .i64 k ∧ Hid (∀ j, j < k → lineErr (ls.getD j default).n (ls.getD j default).ws = 0) ∧ Hid (SA w wr p ls (waText (ls.take k)))) (fun i _ => ls.length - (intOf i).toNat)
  case atStart => exact ⟨0, Nat.zero_le _, rfl, fun j h => absurd h (Nat.not_lt_zero _), S0⟩
  case round =>
    clear S0
    obtain ⟨k, hk, rfl, HN, S⟩ := hrel
    by_cases hlt : k < ls.length
    · obtain ⟨n, q, c, ws, hg⟩ : ∃ n q c ws, Hid (ls.getD k default = ⟨n, q, c, ws⟩) := ⟨_, _, _, _, rfl⟩
      obtain ⟨b, o, rfl, hb, hc0, hc1⟩ : ∃ b o, p = some ⟨b, o, none⟩ ∧ b < wr.heap.size ∧ wr.cell? ⟨b, o + k * 2, none⟩ = some (.int .i64 n) ∧ wr.cell? ⟨b, o + k * 2 + 1, none⟩ = some (.slice q ws.length c) := by
        rcases S.out.lns.1 with h | ⟨b, o, e1, e2, e3⟩
        · rw [h] at hlt; exact absurd hlt (by simp)
        · have := e3 k hlt
          rw [hg.out] at this
          exact ⟨b, o, e1, e2, this.1, this.2⟩
      have hsm := HS.out k hlt
      have hst := S.out.lns.2 k hlt
      rw [hg.out] at hsm hst
      have C := sWrite n q c ws (wr.alloc (.cells #[.int .i64 n, .slice q ws.length c] 39)) hsm.1 hsm.2 (hst.below (below_alloc1 _ _)) (S.out.env.next (below_alloc1 _ _))
      have S1 := Lib.hid (S.out.keep HP.out HE.out (below_alloc1 wr (.cells #[.int .i64 n, .slice q ws.length c] 39)))
      clear hsm hst
      by_cases h0 : lineErr n ws = 0
      · unfold wrRes at C
        rw [if_pos h0] at C
        have C1 := Lib.hid C
        have hT := lineT_size h0
        have HT := Lib.hid hT
        have HN1 : Hid (∀ j, j < k + 1 → lineErr (ls.getD j default).n (ls.getD j default).ws = 0) := by
          intro j hj
          by_cases h : j < k
          · exact HN.out j h
          · obtain rfl : j = k := by omega
            rw [hg.out]; exact h0
        have hbig : (waText (ls.take k)).length ≤ 6001 * 1000000 := by
          have := waText_len (ls.take k) fun j hj => by
            rw [List.length_take] at hj
            rw [List.getD, List.getElem?_take_of_lt (by omega), ← List.getD]
            exact HN.out j (by omega)
          rw [List.length_take] at this
          omega
        have HBG := Lib.hid hbig
        obtain ⟨T, hTe⟩ : ∃ T, Hid (bs (lineT n ws) = T) := ⟨_, rfl⟩
        rw [hTe.out] at C1 HT
        clear C h0 hT hbig
        go_wp2_with fail
        refine C1.out.mono ?_
        rintro e w4 ⟨rfl, hb4⟩
        have S2 := Lib.hid (S1.out.keep HP.out HE.out hb4)
        clear hb4 S1 C1 hc0 hc1
        go_wp2_with fail
        refine (bWriteStringL w.heap.size w.heap.size _ T _ S2.out.bld (by have := HT.out; have := HBG.out; omega) (Nat.le_of_lt S2.out.lt)).mono ?_
        rintro e w5 ⟨rfl, hbl, hb5⟩
        have S3 := Lib.hid (S2.out.next HP.out HE.out hb5 hbl)
        clear hb5 hbl S2
        go_wp2_with fail
        refine (bWriteStringL w.heap.size w.heap.size _ ⟨#[10]⟩ _ S3.out.bld (by have := HT.out; have := HBG.out; have h1 : (⟨#[10]⟩ : ByteArray).size = 1 := rfl; rw [List.length_append, ← Lib.size_eq, h1]; omega) (Nat.le_of_lt S3.out.lt)).mono ?_
        rintro e w6 ⟨rfl, hbl, hb6⟩
        have S4 := Lib.hid (S3.out.next HP.out HE.out hb6 hbl)
        clear hb6 hbl S3
        go_wp2_with fail
        go_roundw
        case rel =>
          refine ⟨k + 1, by omega, by go_num, HN1, ?_⟩
          have := S4.out
          unfold Hid
          rw [waText_snoc ls k hlt, hg.out]
          rw [← hTe.out] at this
          exact this
        case measure => simp [intOf]; omega
      · have h1 : (lineErr n ws != 0) = true := bne_iff_ne.2 h0
        unfold wrRes at C
        rw [if_neg h0] at C
        have C1 := Lib.hid C
        have HR : Hid (waRes ls = .tuple #[.string ⟨#[]⟩, .int .i64 (lineErr n ws)]) := by
          have e := waErr_at ls k hlt HN.out (by rw [hg.out]; exact h0)
          rw [hg.out] at e
          unfold waRes Hid
          rw [e, if_neg h0]
        clear C h0
        go_wp2_with fail
        refine C1.out.mono ?_
        rintro e w4 ⟨rfl, hb4⟩
        have S2 := Lib.hid (S1.out.keep HP.out HE.out hb4)
        clear hb4 S1 C1 hc0 hc1
        go_wp2_with fail
        go_ret2
        exact ⟨by rw [HR.out]; rfl, S2.out.bel⟩
    · obtain rfl : k = ls.length := by omega
      have hR : waErr ls = 0 := waErr_none ls HN.out
      have HR : Hid (waRes ls = .tuple #[.string (bs (waText ls)), .int .i64 0]) := by
        unfold waRes Hid
        rw [if_pos hR]
      have S8 : Hid (SA w wr p ls (waText ls)) := by
        have := S.out
        rw [List.take_length] at this
        exact this
      clear S hR
      go_wp2_with fail
      refine (bString w.heap.size w.heap.size _ _ S8.out.bld (Nat.le_of_lt S8.out.lt)).mono ?_
      rintro e w8 ⟨rfl, hbl, hbe⟩
      have S9 := Lib.hid (S8.out.next HP.out HE.out hbe hbl)
      clear S8 hbl hbe
      go_wp2_with fail
      go_ret2
      exact ⟨by rw [HR.out]; rfl, S9.out.bel⟩
end Go.Proofs.YtmfhpddeclggfaaGreatDoor
namespace Go.Proofs.YtmfhpddeclggfaaGreatDoor
open Go.RowKit
theorem info39 : (Tryz.prog.info? 39).map (fun i => (i.zero, i.size, i.bytes)) = some (some (.agg #[.int .i64 0, .slice none 0 0]), 2, 32) := by kernel_rfl
theorem und55 : Tryz.prog.underlying 55 = some (.slice 39) := by kernel_rfl
theorem make39 (u : World) (n : Nat) (h : n ≤ 1000000) : (Instr.makeSlice 55 (.int .i64 (n : Int)) (.int .i64 (n : Int))).run Tryz.prog u = .ok (.slice (some ⟨u.heap.size, 0, none⟩) n n) (u.alloc (.cells (madeCells #[.int .i64 0, .slice none 0 0] (n * 2)) 39)) := by
  have hi := info39
  cases h0 : Tryz.prog.info? 39 with
  | none => rw [h0] at hi; cases hi
  | some i =>
    rw [h0] at hi
    simp only [Option.map_some, Option.some.injEq, Prod.mk.injEq] at hi
    obtain ⟨h1, h2, h3⟩ := hi
    have := run_make (P := Tryz.prog) u 55 39 i _ und55 h0 h1 .i64 .i64 n n (by omega) (Int.le_refl _) (by rw [h3]; omega) (by omega)
    rw [h2] at this
    simpa [Value.cells] using this
theorem made_some (w : World) (z : Array Value) (n : Nat) (e : TypeId) (o : Nat) (h : o < n) : ∃ v, (w.alloc (.cells (madeCells z n) e)).cell? ⟨w.heap.size, o, none⟩ = some v := by
  have h1 : o < (madeCells z n).size := by rw [size_madeCells]; exact h
  have h2 := cells_new w (madeCells z n) e o _ (by rw [Array.getElem?_toList]; exact Array.getElem?_eq_getElem h1)
  rw [show (⟨w.heap.size, 0, none⟩ : Addr).add o = ⟨w.heap.size, o, none⟩ from by simp [Addr.add]; omega] at h2
  exact ⟨_, h2⟩
/-- Word lists as they lie in a slice of slices. -/
def ListsAt (W : World) (p : Option Addr) (ls : List GL) : Prop :=
  (ls = [] ∨ ∃ b o, p = some ⟨b, o, none⟩ ∧ b < W.heap.size ∧ ∀ j, j < ls.length → W.cell? ⟨b, o + j, none⟩ = some (.slice (ls.getD j default).p (ls.getD j default).ws.length (ls.getD j default).cap)) ∧
  ∀ j, j < ls.length → StrsAt W (ls.getD j default).p (ls.getD j default).ws
theorem ListsAt.below {w w' : World} {p : Option Addr} {ls : List GL} (h : ListsAt w p ls) (hb : Below w.heap.size w w') : ListsAt w' p ls := by
  obtain ⟨h1, h2⟩ := h
  refine ⟨?_, fun j hj => (h2 j hj).below hb⟩
  rcases h1 with h | ⟨b, o, h1, h3, h4⟩
  · exact Or.inl h
  · refine Or.inr ⟨b, o, h1, Nat.lt_of_lt_of_le h3 hb.size, fun j hj => ?_⟩
    rw [hb.cell (p := ⟨b, o + j, none⟩) h3]
    exact h4 j hj
set_option maxRecDepth 100000 in
set_option maxHeartbeats 1000000 in
theorem sSheet_long (p : Option Addr) (n cap : Nat) (w : World) (hn : 400 < (n : Int)) :
    Calls Tryz.prog 38 #[.slice p n cap] w fun e w' => e = .returned (.tuple #[.string ⟨#[]⟩, .int .i64 2]) ∧ w = w' := by
  go_enter Tryz.func38, Tryz.ntmps38
  go_wp2_with fail
  go_ret2
  exact ⟨rfl, rfl⟩
def numbered (ls : List GL) : List GL := (List.range ls.length).map fun (j : Nat) => ⟨(j : Int) + 1, (ls.getD j default).p, (ls.getD j default).cap, (ls.getD j default).ws⟩
theorem numbered_len (ls : List GL) : (numbered ls).length = ls.length := by simp [numbered]
theorem numbered_at (ls : List GL) (j : Nat) (h : j < ls.length) : (numbered ls).getD j default = ⟨(j : Int) + 1, (ls.getD j default).p, (ls.getD j default).cap, (ls.getD j default).ws⟩ := by
  unfold numbered
  rw [List.getD, List.getElem?_map, List.getElem?_range h]
  rfl
/-- The lines made so far. -/
structure SM (w W : World) (ls : List GL) (k : Nat) : Prop where
  bel : Below w.heap.size w W
  lt : w.heap.size < W.heap.size
  fr : ∀ o, W.frozen? ⟨w.heap.size, o, none⟩ = false
  old : ∀ o, o < ls.length * 2 → ∃ v, W.cell? ⟨w.heap.size, o, none⟩ = some v
  new : ∀ j, j < k → W.cell? ⟨w.heap.size, j * 2, none⟩ = some (.int .i64 ((j : Int) + 1)) ∧ W.cell? ⟨w.heap.size, j * 2 + 1, none⟩ = some (.slice (ls.getD j default).p (ls.getD j default).ws.length (ls.getD j default).cap)
theorem SM.start (w : World) (ls : List GL) : SM w (w.alloc (.cells (madeCells #[.int .i64 0, .slice none 0 0] (ls.length * 2)) 39)) ls 0 :=
  ⟨below_alloc1 _ _, by simp, fun o => frozen_new w _ _ o, fun o h => made_some w _ _ _ o h, fun j h => absurd h (Nat.not_lt_zero _)⟩
theorem addr_ne {b o1 o2 : Nat} (h : o1 ≠ o2) : (⟨b, o1, none⟩ : Addr) ≠ ⟨b, o2, none⟩ := fun e => h (congrArg Addr.off e)
theorem SM.next {w W : World} {ls : List GL} {k : Nat} (h : SM w W ls k) (hk : k < ls.length) :
    SM w ((W.setCell ⟨w.heap.size, k * 2, none⟩ (.int .i64 ((k : Int) + 1))).setCell ⟨w.heap.size, k * 2 + 1, none⟩ (.slice (ls.getD k default).p (ls.getD k default).ws.length (ls.getD k default).cap)) ls (k + 1) := by
  obtain ⟨v0, h0⟩ := h.old (k * 2) (by omega)
  obtain ⟨v1, h1⟩ := h.old (k * 2 + 1) (by omega)
  have h1' : (W.setCell ⟨w.heap.size, k * 2, none⟩ (.int .i64 ((k : Int) + 1))).cell? ⟨w.heap.size, k * 2 + 1, none⟩ = some v1 := by
    rw [World.cell?_setCell_other _ _ _ _ (addr_ne (by omega))]; exact h1
  refine ⟨(h.bel.setCell (p := ⟨w.heap.size, k * 2, none⟩) (Nat.le_refl _) _).setCell (p := ⟨w.heap.size, k * 2 + 1, none⟩) (Nat.le_refl _) _, by simpa using h.lt, fun o => ?_, fun o ho => ?_, fun j hj => ?_⟩
  · rw [World.frozen?_setCell, World.frozen?_setCell]; exact h.fr o
  · by_cases e1 : k * 2 + 1 = o
    · subst e1
      exact ⟨_, World.cell?_setCell_same _ _ _ h1'⟩
    · rw [World.cell?_setCell_other _ _ _ _ (addr_ne e1)]
      by_cases e0 : k * 2 = o
      · subst e0
        exact ⟨_, World.cell?_setCell_same _ _ _ h0⟩
      · rw [World.cell?_setCell_other _ _ _ _ (addr_ne e0)]
        exact h.old o ho
  · by_cases e : j = k
    · subst e
      refine ⟨?_, World.cell?_setCell_same _ _ _ h1'⟩
      rw [World.cell?_setCell_other _ _ _ _ (addr_ne (by omega))]
      exact World.cell?_setCell_same _ _ _ h0
    · have := h.new j (by omega)
      rw [World.cell?_setCell_other _ _ _ _ (addr_ne (by omega)), World.cell?_setCell_other _ _ _ _ (addr_ne (by omega)), World.cell?_setCell_other _ _ _ _ (addr_ne (by omega)), World.cell?_setCell_other _ _ _ _ (addr_ne (by omega))]
      exact this
set_option maxRecDepth 100000 in
set_option maxHeartbeats 1000000 in
theorem sSheet_ok (p : Option Addr) (cap : Nat) (ls : List GL) (w : World) (hn : ls.length ≤ 400) (hs : ∀ j, j < ls.length → (ls.getD j default).small) (hp : ListsAt w p ls) (he : Env w) :
    Calls Tryz.prog 38 #[.slice p ls.length cap] w fun e w' => e = .returned (waRes (numbered ls)) ∧ Below w.heap.size w w' := by
  have HP := Lib.hid hp
  have HE := Lib.hid he
  have HS := Lib.hid hs
  clear hp he hs
  have mk := make39 w ls.length (by omega)
  have S0 := Lib.hid (SM.start w ls)
  have hn' : ¬ (400 < (ls.length : Int)) := by omega
  go_enter Tryz.func38, Tryz.ntmps38
  go_wp2_with fail
  go_loopw [15] (fun i wr => ∃ k : Nat, k ≤ ls.length ∧ i = .int .i64 k ∧ Hid (SM w wr ls k)) (fun i _ => ls.length - (intOf i).toNat)
  case atStart => exact ⟨0, Nat.zero_le _, rfl, S0⟩
  case round =>
    clear S0
    obtain ⟨k, hk, rfl, S⟩ := hrel
    by_cases hlt : k < ls.length
    · obtain ⟨n, q, c, ws, hg⟩ : ∃ n q c ws, Hid (ls.getD k default = ⟨n, q, c, ws⟩) := ⟨_, _, _, _, rfl⟩
      obtain ⟨b, o, rfl, hc0⟩ : ∃ b o, p = some ⟨b, o, none⟩ ∧ wr.cell? ⟨b, o + k, none⟩ = some (.slice q ws.length c) := by
        rcases (HP.out.below S.out.bel).1 with h | ⟨b, o, e1, e2, e3⟩
        · rw [h] at hlt; exact absurd hlt (by simp)
        · have := e3 k hlt
          rw [hg.out] at this
          exact ⟨b, o, e1, this⟩
      have f0 := S.out.fr (k * 2)
      have f1 := S.out.fr (k * 2 + 1)
      obtain ⟨v0, d0⟩ := S.out.old (k * 2) (by omega)
      obtain ⟨v1, d1⟩ := S.out.old (k * 2 + 1) (by omega)
      go_wp2_with fail
      refine ⟨⟨k + 1, by omega, by go_num, ?_⟩, by simp [intOf]; omega⟩
      have := S.out.next hlt
      rw [hg.out] at this
      exact this
    · obtain rfl : k = ls.length := by omega
      have hln : LinesAt wr (some ⟨w.heap.size, 0, none⟩) (numbered ls) := by
        refine ⟨Or.inr ⟨_, 0, rfl, S.out.lt, fun j hj => ?_⟩, fun j hj => ?_⟩
        · rw [numbered_len] at hj
          rw [numbered_at ls j hj]
          have := S.out.new j hj
          rw [Nat.zero_add]
          exact this
        · rw [numbered_len] at hj
          rw [numbered_at ls j hj]
          exact (HP.out.2 j hj).below S.out.bel
      have C := sWriteAll (some ⟨w.heap.size, 0, none⟩) ls.length (numbered ls) wr (by rw [numbered_len]; omega) (fun j hj => by rw [numbered_len] at hj; rw [numbered_at ls j hj]; exact HS.out j hj) hln (HE.out.next S.out.bel)
      rw [numbered_len] at C
      have C1 := Lib.hid C
      clear C hln
      go_wp2_with fail
      refine C1.out.mono ?_
      rintro e w3 ⟨rfl, hb3⟩
      have hB : Below w.heap.size w w3 := S.out.bel.trans (hb3.mono (Nat.le_of_lt S.out.lt))
      have HB := Lib.hid hB
      clear hb3 hB
      by_cases h0 : waErr (numbered ls) = 0
      · have hR : waRes (numbered ls) = .tuple #[.string (bs (waText (numbered ls))), .int .i64 0] := by unfold waRes; rw [if_pos h0]
        rw [hR]
        have HR := Lib.hid hR
        clear h0 hR
        go_wp2_with fail
        go_ret2
        exact ⟨by rw [HR.out]; rfl, HB.out⟩
      · have hR : waRes (numbered ls) = .tuple #[.string ⟨#[]⟩, .int .i64 (waErr (numbered ls))] := by unfold waRes; rw [if_neg h0]
        rw [hR]
        have HR := Lib.hid hR
        clear h0 hR
        go_wp2_with fail
        go_ret2
        exact ⟨by rw [HR.out]; rfl, HB.out⟩
end Go.Proofs.YtmfhpddeclggfaaGreatDoor
namespace Go.Proofs.YtmfhpddeclggfaaGreatDoor
open Go.RowKit
/-- Scraps lie at a slice, from the block B on. -/
def ScAt (B : Nat) (W : World) (p : Option Addr) (l : List Sc) : Prop := l = [] ∨ ∃ g, p = some ⟨g, 0, none⟩ ∧ B ≤ g ∧ g < W.heap.size ∧ ∀ j s, l[j]? = some s → W.cell? ⟨g, j * 3, none⟩ = some (.int .i64 s.n) ∧ W.cell? ⟨g, j * 3 + 1, none⟩ = some (.string s.t) ∧ W.cell? ⟨g, j * 3 + 2, none⟩ = some (.bool s.b)
theorem ScAt.below {B : Nat} {W W' : World} {p : Option Addr} {l : List Sc} (h : ScAt B W p l) (hb : Below W.heap.size W W') : ScAt B W' p l := by
  rcases h with h | ⟨g, h1, h2, h3, h4⟩
  · exact .inl h
  · refine .inr ⟨g, h1, h2, Nat.lt_of_lt_of_le h3 hb.size, fun j s hj => ?_⟩
    obtain ⟨a, b, c⟩ := h4 j s hj
    exact ⟨(hb.cell (p := ⟨g, j * 3, none⟩) h3).trans a, (hb.cell (p := ⟨g, j * 3 + 1, none⟩) h3).trans b, (hb.cell (p := ⟨g, j * 3 + 2, none⟩) h3).trans c⟩
theorem ScAt.base {B C : Nat} {W : World} {p : Option Addr} {l : List Sc} (h : ScAt B W p l) (hc : C ≤ B) : ScAt C W p l := by
  rcases h with h | ⟨g, h1, h2, h3⟩
  · exact .inl h
  · exact .inr ⟨g, h1, Nat.le_trans hc h2, h3⟩
theorem ScAt.store {B : Nat} {W : World} {p : Option Addr} {l : List Sc} (h : ScAt B W p l) (b o : Nat) (v : Value) (hb : b < B) : ScAt B (W.setCell ⟨b, o, none⟩ v) p l := by
  rcases h with h | ⟨g, h1, h2, h3, h4⟩
  · exact .inl h
  · have hne : ∀ k, (⟨b, o, none⟩ : Addr) ≠ ⟨g, k, none⟩ := fun k e => by have := congrArg Addr.block e; simp at this; omega
    refine .inr ⟨g, h1, h2, by simpa using h3, fun j s hj => ?_⟩
    obtain ⟨a, b, c⟩ := h4 j s hj
    exact ⟨by rw [World.cell?_setCell_other _ _ _ _ (hne _)]; exact a, by rw [World.cell?_setCell_other _ _ _ _ (hne _)]; exact b, by rw [World.cell?_setCell_other _ _ _ _ (hne _)]; exact c⟩
theorem scAt_own {B : Nat} {W : World} {v : Value} {l : List Sc} (h : W.ownsRow B 224 3 v l.length (flatSc l)) : ∃ p cap, v = .slice p l.length cap ∧ ScAt B W p l := by
  obtain ⟨h1, ⟨rfl, h2⟩ | ⟨g, cap, cur, rfl, hg, hc, h3, h4, h5, h6⟩⟩ := h
  · exact ⟨none, 0, by rw [h2], .inl (List.length_eq_zero_iff.1 h2)⟩
  · refine ⟨some ⟨g, 0, none⟩, cap, rfl, .inr ⟨g, rfl, hg, (Array.getElem?_eq_some_iff.1 hc).1, fun j q hq => ?_⟩⟩
    have hj : j < l.length := (List.getElem?_eq_some_iff.1 hq).1
    obtain ⟨g1, g2, g3⟩ := flatSc_get hq
    rw [← h6, List.getElem?_take_of_lt (by omega)] at g1 g2 g3
    exact ⟨by simpa [World.cell?, hc] using g1, by simpa [World.cell?, hc] using g2, by simpa [World.cell?, hc] using g3⟩
theorem info179 : (Tryz.prog.info? 179).map (fun i => (i.zero, i.size, i.bytes)) = some (some (.slice none 0 0), 1, 24) := by kernel_rfl
theorem und169 : Tryz.prog.underlying 169 = some (.slice 179) := by kernel_rfl
theorem make169 (u : World) (n : Nat) (h : n ≤ 1000000) : (Instr.makeSlice 169 (.int .i64 (n : Int)) (.int .i64 (n : Int))).run Tryz.prog u = .ok (.slice (some ⟨u.heap.size, 0, none⟩) n n) (u.alloc (.cells (madeCells #[.slice none 0 0] n) 179)) := by
  have hi := info179
  cases h0 : Tryz.prog.info? 179 with
  | none => rw [h0] at hi; cases hi
  | some i =>
    rw [h0] at hi
    simp only [Option.map_some, Option.some.injEq, Prod.mk.injEq] at hi
    obtain ⟨h1, h2, h3⟩ := hi
    have := run_make (P := Tryz.prog) u 169 179 i _ und169 h0 h1 .i64 .i64 n n (by omega) (Int.le_refl _) (by rw [h3]; omega) (by omega)
    rw [h2] at this
    simpa [Value.cells] using this
/-- The scraps laid so far. -/
structure ShM (w W : World) (cs : List ByteArray) (k : Nat) : Prop where
  bel : Below w.heap.size w W
  lt : w.heap.size < W.heap.size
  fr : ∀ o, W.frozen? ⟨w.heap.size, o, none⟩ = false
  old : ∀ o, o < cs.length → ∃ v, W.cell? ⟨w.heap.size, o, none⟩ = some v
  new : ∀ j, j < k → ∃ p c, W.cell? ⟨w.heap.size, j, none⟩ = some (.slice p (scL (cs.getD j ByteArray.empty)).length c) ∧ ScAt (w.heap.size + 1) W p (scL (cs.getD j ByteArray.empty))
theorem ShM.start (w : World) (cs : List ByteArray) : ShM w (w.alloc (.cells (madeCells #[.slice none 0 0] cs.length) 179)) cs 0 :=
  ⟨below_alloc1 _ _, by simp, fun o => frozen_new w _ _ o, fun o h => made_some w _ _ _ o h, fun j h => absurd h (Nat.not_lt_zero _)⟩
theorem ShM.call {w W W' : World} {cs : List ByteArray} {k : Nat} (h : ShM w W cs k) (hb : Below W.heap.size W W') : ShM w W' cs k := by
  refine ⟨h.bel.trans (hb.mono (Nat.le_of_lt h.lt)), Nat.lt_of_lt_of_le h.lt hb.size, fun o => (hb.frozen (p := ⟨w.heap.size, o, none⟩) h.lt).trans (h.fr o), fun o ho => ?_, fun j hj => ?_⟩
  · obtain ⟨v, hv⟩ := h.old o ho
    exact ⟨v, (hb.cell (p := ⟨w.heap.size, o, none⟩) h.lt).trans hv⟩
  · obtain ⟨p, c, h1, h2⟩ := h.new j hj
    exact ⟨p, c, (hb.cell (p := ⟨w.heap.size, j, none⟩) h.lt).trans h1, h2.below hb⟩
theorem ShM.next {w W : World} {cs : List ByteArray} {k : Nat} (h : ShM w W cs k) (hk : k < cs.length) (p : Option Addr) (c : Nat) (hs : ScAt (w.heap.size + 1) W p (scL (cs.getD k ByteArray.empty))) :
    ShM w (W.setCell ⟨w.heap.size, k, none⟩ (.slice p (scL (cs.getD k ByteArray.empty)).length c)) cs (k + 1) := by
  obtain ⟨v0, h0⟩ := h.old k hk
  refine ⟨h.bel.setCell (p := ⟨w.heap.size, k, none⟩) (Nat.le_refl _) _, by simpa using h.lt, fun o => ?_, fun o ho => ?_, fun j hj => ?_⟩
  · rw [World.frozen?_setCell]; exact h.fr o
  · by_cases e0 : k = o
    · subst e0
      exact ⟨_, World.cell?_setCell_same _ _ _ h0⟩
    · rw [World.cell?_setCell_other _ _ _ _ (addr_ne e0)]
      exact h.old o ho
  · by_cases e : j = k
    · subst e
      exact ⟨p, c, World.cell?_setCell_same _ _ _ h0, hs.store _ _ _ (Nat.lt_succ_self _)⟩
    · obtain ⟨p', c', h1, h2⟩ := h.new j (by omega)
      exact ⟨p', c', by rw [World.cell?_setCell_other _ _ _ _ (addr_ne (by omega))]; exact h1, h2.store _ _ _ (Nat.lt_succ_self _)⟩
/-- The shelf that the copies make. -/
def ShelfP (w : World) (cs : List ByteArray) (e : Ending) (w' : World) : Prop := e = .returned (.tuple #[.slice (some ⟨w.heap.size, 0, none⟩) cs.length cs.length, .int .i64 0]) ∧ ShM w w' cs cs.length
set_option maxRecDepth 100000 in
set_option maxHeartbeats 2000000 in
theorem allScraps0 (p : Option Addr) (cap : Nat) (cs : List ByteArray) (w : World) (hn : cs.length ≤ 8) (hs : ∀ j, (cs.getD j ByteArray.empty).size ≤ 262144) (hp : StrsAt w p cs) (he : Env w) :
    Calls Tryz.prog 107 #[.slice p cs.length cap] w (ShelfP w cs) := by
  have HP := Lib.hid hp
  have HE := Lib.hid he
  have HS := Lib.hid hs
  clear hp he hs
  have mk := make169 w cs.length (by omega)
  have S0 := Lib.hid (ShM.start w cs)
  have hn' : ¬ (8 < (cs.length : Int)) := by omega
  go_enter Tryz.func107, Tryz.ntmps107
  go_wp2_with fail
  go_loop [14] (fun i => ∃ k : Nat, k ≤ cs.length ∧ i = .int .i64 k) (fun i => cs.length - (intOf i).toNat)
  case atStart => exact ⟨0, Nat.zero_le _, rfl⟩
  case round =>
    obtain ⟨k, hk, rfl⟩ := hrel
    by_cases hlt : k < cs.length
    · obtain ⟨b, o, rfl, c1⟩ : ∃ b o, p = some ⟨b, o, none⟩ ∧ w.cell? ⟨b, o + k, none⟩ = some (.string (cs.getD k ByteArray.empty)) := by
        rcases HP.out with h | ⟨b, o, e1, e2, e3⟩
        · rw [h] at hlt; exact absurd hlt (by simp)
        · exact ⟨b, o, e1, e3 k hlt⟩
      have hz := HS.out k
      obtain ⟨x, hx⟩ : ∃ x, cs.getD k ByteArray.empty = x := ⟨_, rfl⟩
      rw [hx] at c1 hz
      have hz' : ¬ (262144 < (x.size : Int)) := by omega
      have hlt' : (k : Int) < (cs.length : Int) := by omega
      clear hx S0 mk
      go_wp2_with fail
      go_round
      case rel => exact ⟨k + 1, hlt, by go_num⟩
      case measure => simp [intOf]; omega
    · obtain rfl : k = cs.length := by omega
      go_wp2_with fail
      go_loopw [27] (fun i wr => ∃ k : Nat, k ≤ cs.length ∧ i = .int .i64 k ∧ Hid (ShM w wr cs k)) (fun i _ => cs.length - (intOf i).toNat)
      case atStart => exact ⟨0, Nat.zero_le _, rfl, S0⟩
      case round =>
        clear S0 mk
        obtain ⟨k, hk, rfl, S⟩ := hrel
        by_cases hlt : k < cs.length
        · obtain ⟨b, o, rfl, c1⟩ : ∃ b o, p = some ⟨b, o, none⟩ ∧ wr.cell? ⟨b, o + k, none⟩ = some (.string (cs.getD k ByteArray.empty)) := by
            rcases HP.out.below S.out.bel with h | ⟨b, o, e1, e2, e3⟩
            · rw [h] at hlt; exact absurd hlt (by simp)
            · exact ⟨b, o, e1, e3 k hlt⟩
          have CS := scraps0 (cs.getD k ByteArray.empty) wr (by have := HS.out k; omega) (HE.out.next S.out.bel)
          obtain ⟨x, hx⟩ : ∃ x, cs.getD k ByteArray.empty = x := ⟨_, rfl⟩
          rw [hx] at c1 CS
          have HX := Lib.hid hx
          have hlt' : (k : Int) < (cs.length : Int) := by omega
          clear hx
          go_wp2_with fail
          refine CS.mono ?_
          rintro e w1 ⟨hb, v, rfl, hO⟩
          obtain ⟨p1, c1', rfl, hsc⟩ := scAt_own hO
          have HSc := Lib.hid (hsc.base S.out.lt)
          have S1 := Lib.hid (S.out.call hb)
          have f0 := S1.out.fr k
          obtain ⟨v0, d0⟩ := S1.out.old k hlt
          clear hb hO hsc CS c1
          go_wp2_with fail
          refine ⟨⟨k + 1, by omega, by go_num, ?_⟩, by simp [intOf]; omega⟩
          have := S1.out.next hlt p1 c1' (by rw [HX.out]; exact HSc.out)
          rw [HX.out] at this
          exact this
        · obtain rfl : k = cs.length := by omega
          go_wp2_with fail
          go_ret2
          exact ⟨rfl, S.out⟩
end Go.Proofs.YtmfhpddeclggfaaGreatDoor
/- Rows that a call owns, several side by side: appending to one leaves the others. -/
namespace Go.Proofs.YtmfhpddeclggfaaGreatDoor
open Go Go.RowKit
section
variable {P : Program} (w : World)
/-- Appending one or more elements: the row is where it was, or in a new block. -/
theorem run_append_where (base : Nat) (t ty e : TypeId) (i : TypeInfo) (z : Value) (size bytes : Nat) (ht : P.underlying t = some (.slice e)) (hi : P.info? e = some i) (hz : i.zero = some z)
    (hsize : i.size = size) (hby : i.bytes = bytes) (hzs : z.cells.size = size) (hsz : 0 < size)
    (v : Value) (n : Nat) (xs : List Value) (hown : w.ownsRow base e size v n xs)
    (a : Addr) (m c : Nat) (news : List Value) (hm : 0 < m) (hl : news.length = m * size) (hnews : ∀ j u, news[j]? = some u → w.cell? (a.add j) = some u) (h1 : ∀ u ∈ news, u.oneCell' = true)
    (h63 : n + m ≤ maxLen) (hbytes : (n + m) * bytes ≤ 140737488355328) (hbase : base ≤ w.heap.size) :
    ∃ v' w', (Builtin.append_ #[t, t] ty #[v, .slice (some a) m c]).run P w = .ok v' w' ∧ w'.ownsRow base e size v' (n + m) (xs ++ news) ∧ w.grownBy w' v.ownBlock ∧
      (v'.ownBlock = some w.heap.size ∨ (v'.ownBlock = v.ownBlock ∧ v.ownBlock ≠ none)) := by
  obtain ⟨v', w', hr, h2, h3, h4⟩ := run_append_own (P := P) w base t ty e i z size bytes ht hi hz hsize hby hzs hsz v n xs hown a m c news hl hnews h1 h63 hbytes hbase
  refine ⟨v', w', hr, h2, h3, ?_⟩
  subst hsize
  subst hby
  have hsmall : n + m ≤ 9223372036854775807 := by simp only [maxLen] at h63; omega
  rcases hown.2 with ⟨rfl, rfl⟩ | ⟨g, cap, cur, rfl, hbg, hg, hnc, hcm, hcs, htake⟩
  · have hr2 := run_append_nil (P := P) w t ty e i z ht hi hz a m c news hl hnews hm (by omega) (by have hb := hbytes; simp only [Nat.zero_add] at hb; omega)
    rw [hr] at hr2
    obtain ⟨rfl, -⟩ := Result.ok.inj hr2
    exact .inl rfl
  · by_cases hroom : n + m ≤ cap
    · have hfit : n * i.size + news.length ≤ cur.size := by rw [hl, hcs, ← Nat.add_mul]; exact Nat.mul_le_mul_right _ hroom
      have hr2 := run_append_room (P := P) w t ty e i ht hi g n cap cur hg a m c news hl hnews h1 hroom hfit
      rw [hr] at hr2
      obtain ⟨rfl, -⟩ := Result.ok.inj hr2
      exact .inr ⟨rfl, by simp [Value.ownBlock]⟩
    · have holds : ∀ j u, xs[j]? = some u → w.cell? ((⟨g, 0, none⟩ : Addr).add j) = some u := hown.cells (g := g) rfl
      have hr2 := run_append_grow (P := P) w t ty e i z ht hi hz ⟨g, 0, none⟩ n cap xs hown.1 holds a m c news hl hnews (by omega) (by omega) (growslice_fits (by omega) hbytes)
      rw [hr] at hr2
      obtain ⟨rfl, -⟩ := Result.ok.inj hr2
      exact .inl rfl
end
/-- The operation. -/
theorem wpList_append_where {P : Program} (w : World) {ops : Array Oper} {rest : List Oper} {o : Oper} {a : Act} {Q : Exit → Act → World → Prop} (hgd : o.guard = none) (s x : Operand) (t : TypeId)
    (ho : o.op = .call { callee := .builtin .append, args := #[s, x], argTypes := #[t, t] })
    (base : Nat) (e : TypeId) (i : TypeInfo) (z : Value) (size bytes : Nat) (ht : P.underlying t = some (.slice e)) (hi : P.info? e = some i) (hz : i.zero = some z)
    (hsize : i.size = size) (hby : i.bytes = bytes) (hzs : z.cells.size = size) (hsz : 0 < size)
    (v : Value) (n : Nat) (xs : List Value) (hs : a.eval s = v) (hown : w.ownsRow base e size v n xs)
    (ad : Addr) (m c : Nat) (news : List Value) (hm : 0 < m) (hx : a.eval x = .slice (some ad) m c) (hl : news.length = m * size) (hnews : ∀ j u, news[j]? = some u → w.cell? (ad.add j) = some u) (h1 : ∀ u ∈ news, u.oneCell' = true)
    (h63 : n + m ≤ maxLen) (hbytes : (n + m) * bytes ≤ 140737488355328) (hbase : base ≤ w.heap.size)
    (h : ∀ v' w', w'.ownsRow base e size v' (n + m) (xs ++ news) → w.grownBy w' v.ownBlock → (v'.ownBlock = some w.heap.size ∨ (v'.ownBlock = v.ownBlock ∧ v.ownBlock ≠ none)) → wpList P ops Q rest (a.put o.dst v') w') : wpList P ops Q (o :: rest) a w := by
  refine wpList_plain hgd fun K hK => ?_
  obtain ⟨v', w', hr, h2, h3, h4⟩ := run_append_where (P := P) w base t o.type e i z size bytes ht hi hz hsize hby hzs hsz v n xs hown ad m c news hm hl hnews h1 h63 hbytes hbase
  unfold Oper.wp execOp
  simp only [ho, resolve, invoke, builtin, Sem.run_bind, Sem.run_pure, Result.andThen_ok, List.map_toArray, List.map_cons, List.map_nil, hs, hx, hr]
  exact hK _ _ (h v' w' h2 h3 h4)
/-- A row: the value that names it, and what it holds. -/
structure Row where
  e : TypeId
  k : Nat
  v : Value
  n : Nat
  xs : List Value
/-- Rows side by side. -/
structure Fam {ι : Type} (B : Nat) (f : ι → Row) (W : World) : Prop where
  own : ∀ i, W.ownsRow B (f i).e (f i).k (f i).v (f i).n (f i).xs
  apart : ∀ i j g, (f i).v.ownBlock = some g → (f j).v.ownBlock = some g → i = j
/-- What stands when something else has grown. -/
theorem Fam.kept {ι : Type} {B : Nat} {f : ι → Row} {W W' : World} {row : Option Nat} (h : Fam B f W) (hg : W.grownBy W' row) (hr : ∀ i, (f i).v.ownBlock = none ∨ (f i).v.ownBlock ≠ row) : Fam B f W' :=
  ⟨fun i => (h.own i).kept hg (hr i), h.apart⟩
/-- What stands when one of them has grown. -/
theorem Fam.grown {ι : Type} [DecidableEq ι] {B : Nat} {f : ι → Row} {W W' : World} (h : Fam B f W) (i : ι) (r : Row) (hg : W.grownBy W' (f i).v.ownBlock) (ho : W'.ownsRow B r.e r.k r.v r.n r.xs)
    (hw : r.v.ownBlock = some W.heap.size ∨ (r.v.ownBlock = (f i).v.ownBlock ∧ (f i).v.ownBlock ≠ none)) : Fam B (fun j => if j = i then r else f j) W' := by
  have lt : ∀ j g, (f j).v.ownBlock = some g → g < W.heap.size := fun j g hj => ((h.own j).lt g hj).2
  refine ⟨fun j => ?_, fun j l g hj hl => ?_⟩
  · show W'.ownsRow B (if j = i then r else f j).e (if j = i then r else f j).k (if j = i then r else f j).v (if j = i then r else f j).n (if j = i then r else f j).xs
    by_cases e : j = i
    · rw [if_pos e]; exact ho
    · rw [if_neg e]
      refine (h.own j).kept hg ?_
      cases hb : (f j).v.ownBlock with
      | none => exact .inl rfl
      | some g => exact .inr (fun e2 => e (h.apart j i g hb e2.symm))
  · replace hj : (if j = i then r else f j).v.ownBlock = some g := hj
    replace hl : (if l = i then r else f l).v.ownBlock = some g := hl
    by_cases e : j = i <;> by_cases e2 : l = i
    · rw [e, e2]
    · rw [if_pos e] at hj
      rw [if_neg e2] at hl
      rcases hw with hw | ⟨hw, _⟩
      · rw [hw] at hj; cases hj; exact absurd (lt l _ hl) (Nat.lt_irrefl _)
      · rw [hw] at hj; exact absurd (h.apart l i g hl hj) e2
    · rw [if_neg e] at hj
      rw [if_pos e2] at hl
      rcases hw with hw | ⟨hw, _⟩
      · rw [hw] at hl; cases hl; exact absurd (lt j _ hj) (Nat.lt_irrefl _)
      · rw [hw] at hl; exact absurd (h.apart j i g hj hl) e
    · rw [if_neg e] at hj
      rw [if_neg e2] at hl
      exact h.apart j l g hj hl
end Go.Proofs.YtmfhpddeclggfaaGreatDoor
namespace Go.Proofs.YtmfhpddeclggfaaGreatDoor
open Go.RowKit
abbrev keyV (n : Int) (t : ByteArray) : Value := .agg #[.int .i64 n, .string t]
def keyB (a : Int) (s : ByteArray) (b : Int) (t : ByteArray) : Bool := a == b && s.toList == t.toList
theorem u242 : Tryz.prog.underlying 242 = some (.struct (Tryz.prog.fieldsOf 242)) := by kernel_rfl
theorem f242 : (Tryz.prog.fieldsOf 242).toList.map (fun f => (f.name, f.type, f.offset)) = [("number", 3, 0), ("text", 9, 1)] := by kernel_rfl
theorem part3 (a : Int) (x : Value) (w : World) : Sem.run Tryz.prog (part 3 #[.int .i64 a, x] 0) w = .ok (.int .i64 a) w := by kernel_rfl
theorem part9 (s : ByteArray) (x : Value) (w : World) : Sem.run Tryz.prog (part 9 #[x, .string s] 1) w = .ok (.string s) w := by kernel_rfl
theorem run_eqKey (a b : Int) (s t : ByteArray) (w : World) : Sem.run Tryz.prog (Op.equal 242 (keyV a s) (keyV b t)) w = .ok (keyB a s b t) w := by
  unfold Op.equal
  rw [show Op.maxDepth = 9999 + 1 from rfl, run_equalIn_struct w 9999 242 _ _ u242 (by kernel_rfl)]
  have hf := f242
  obtain ⟨f, g, hl⟩ : ∃ f g, (Tryz.prog.fieldsOf 242).toList = [f, g] := by
    generalize (Tryz.prog.fieldsOf 242).toList = l at hf
    match l, hf with
    | [f, g], _ => exact ⟨f, g, rfl⟩
    | [], h => simp at h
    | [_], h => simp at h
    | _ :: _ :: _ :: _, h => simp at h
  rw [hl] at hf ⊢
  simp only [List.map_cons, List.map_nil, List.cons.injEq, Prod.mk.injEq, and_true] at hf
  obtain ⟨⟨f1, f2, f3⟩, g1, g2, g3⟩ := hf
  have e1 : (Op.equalIn 9999 3 (.int .i64 a) (.int .i64 b)).run Tryz.prog w = .ok (a == b) w := run_equalIn_int (P := Tryz.prog) w 9998 3 .i64 .i64 a b (by kernel_rfl)
  have e2 : (Op.equalIn 9999 9 (.string s) (.string t)).run Tryz.prog w = .ok (s.toList == t.toList) w := run_equalIn_string (P := Tryz.prog) w 9998 9 s t (by kernel_rfl)
  have p1 := part9 s (.int .i64 a) w
  have p2 := part9 t (.int .i64 b) w
  simp only [Op.eqFields, f1, f2, f3, g1, g2, g3, ne_eq, String.reduceEq, not_false_eq_true, if_true, Sem.run_bind, part3, Result.andThen_ok, e1]
  by_cases h1 : a = b
  · subst h1
    by_cases h2 : s.toList = t.toList
    · simp [keyB, h2, Sem.run_pure, p1, p2, e2]
    · simp [keyB, h2, Sem.run_pure, p1, p2, e2]
  · simp [keyB, h1, Sem.run_pure]
theorem run_ckKey (em : Bool) (a : Int) (s : ByteArray) (w : World) : Sem.run Tryz.prog (Instr.checkKey em 10000 242 (keyV a s)) w = .ok () w := by kernel_rfl

/-- A map by readings, as it lies: keys and elements in their order. -/
abbrev Ent := Int × ByteArray × Value
def MapIs (W : World) (M : Nat) (L : List Ent) : Prop := ∃ es clock, W.heap[M]? = some (.map es clock) ∧ es.toList.map (fun e => (e.key, e.val)) = L.map fun x => (keyV x.1 x.2.1, x.2.2)
/-- Where a key stands. -/
def idxL (n : Int) (t : ByteArray) : List Ent → Option Nat
  | [] => none
  | x :: L => if keyB n t x.1 x.2.1 then some 0 else (idxL n t L).map (· + 1)
theorem run_asking (n : Int) (t : ByteArray) (w : World) : ∀ (es : List MapEntry) (L : List Ent) (i : Nat), es.map (fun e => (e.key, e.val)) = L.map (fun x => (keyV x.1 x.2.1, x.2.2)) →
    ∃ r, (Instr.findAsking 242 (keyV n t) es i).run Tryz.prog w = .ok r w ∧ (idxL n t L = none → r = none) ∧ ∀ k, idxL n t L = some k → ∃ x, L[k]? = some x ∧ keyB n t x.1 x.2.1 = true ∧ r = some (i + k, x.2.2)
  | [], [], i, _ => ⟨none, by simp [Instr.findAsking, Sem.run_pure], fun _ => rfl, by simp [idxL]⟩
  | e :: es, x :: L, i, h => by
    simp only [List.map_cons, List.cons.injEq, Prod.mk.injEq] at h
    obtain ⟨⟨h1, h2⟩, h3⟩ := h
    obtain ⟨r, hr, hm, hk⟩ := run_asking n t w es L (i + 1) h3
    by_cases hb : keyB n t x.1 x.2.1
    · refine ⟨some (i, e.val), ?_, by simp [idxL, hb], fun k hk => ?_⟩
      · simp [Instr.findAsking, Sem.run_bind, h1, run_eqKey, hb, Sem.run_pure]
      · obtain rfl : 0 = k := by simpa [idxL, hb] using hk
        exact ⟨x, rfl, hb, by rw [h2]; rfl⟩
    · refine ⟨r, ?_, fun h => hm (by simpa [idxL, hb] using h), fun k hkv => ?_⟩
      · simp [Instr.findAsking, Sem.run_bind, h1, run_eqKey, hb, hr]
      · simp only [idxL, if_neg hb, Option.map_eq_some_iff] at hkv
        obtain ⟨k', hk', rfl⟩ := hkv
        obtain ⟨y, hy1, hy2, hy3⟩ := hk k' hk'
        exact ⟨y, hy1, hy2, by rw [hy3]; congr 2; omega⟩
  | [], _ :: _, _, h => by simp at h
  | _ :: _, [], _, h => by simp at h
theorem und208 : Tryz.prog.underlying 208 = some (.map 242 85) := by kernel_rfl
theorem zero85 (w : World) : (zeroValue 85).run Tryz.prog w = .ok (.slice none 0 0) w := by kernel_rfl
/-- The element at a key. -/
def lookL (n : Int) (t : ByteArray) (L : List Ent) : Value := match idxL n t L with
  | some k => ((L[k]?).map (·.2.2)).getD (.slice none 0 0)
  | none => .slice none 0 0
theorem run_look {W : World} {M : Nat} {L : List Ent} (h : MapIs W M L) (n : Int) (t : ByteArray) : (Instr.lookup 208 (.map (some M)) (keyV n t) false).run Tryz.prog W = .ok (lookL n t L) W := by
  obtain ⟨es, clock, hm, hL⟩ := h
  obtain ⟨r, hr, hv, hk⟩ := run_asking n t W es.toList L 0 hL
  have hf := (Go.run_findKey_eq (P := Tryz.prog) (w := W) (k := 242) (by kernel_rfl) (keyV n t) es.toList).trans hr
  unfold Instr.lookup
  simp only [Sem.run_bind, run_underlying und208, Result.andThen_ok, MapKept.run_getObj_map hm, Sem.run_pure, run_ckKey, hf]
  cases hi : idxL n t L with
  | none =>
    obtain rfl := hv hi
    simp [lookL, hi]
  | some k =>
    obtain ⟨x, hx, -, rfl⟩ := hk k hi
    simp [lookL, hi, hx, Sem.run_pure]
/-- The map with an element at a key. -/
def updL (n : Int) (t : ByteArray) (v : Value) (L : List Ent) : List Ent := match idxL n t L with
  | some k => L.set k (n, t, v)
  | none => L ++ [(n, t, v)]
theorem keyB_eq {a b : Int} {s t : ByteArray} (h : keyB a s b t = true) : a = b ∧ s = t := by
  simp only [keyB, Bool.and_eq_true, beq_iff_eq] at h
  refine ⟨h.1, ?_⟩
  have := h.2
  rw [ByteArray.toList_eq, ByteArray.toList_eq] at this
  obtain ⟨⟨s⟩⟩ := s
  obtain ⟨⟨t⟩⟩ := t
  simp at this
  rw [this]
theorem same_key (n : Int) (t : ByteArray) : Instr.sameBits 10000 (keyV n t) (keyV n t) = true := by
  show Instr.sameBits (9999 + 1) (keyV n t) (keyV n t) = true
  simp [Instr.sameBits, beq_toListBytes]
theorem run_upd {W : World} {M : Nat} {L : List Ent} (h : MapIs W M L) (n : Int) (t : ByteArray) (v : Value) :
    ∃ W', (Instr.mapUpdate 208 (.map (some M)) (keyV n t) v).run Tryz.prog W = .ok () W' ∧ MapIs W' M (updL n t v L) ∧ W.grownBy W' (some M) := by
  obtain ⟨es, clock, hm, hL⟩ := h
  obtain ⟨r, hr, hv, hk⟩ := run_asking n t W es.toList L 0 hL
  have hf := (Go.run_findKey_eq (P := Tryz.prog) (w := W) (k := 242) (by kernel_rfl) (keyV n t) es.toList).trans hr
  have grown : ∀ o : Obj, W.grownBy (W.putObj M o) (some M) := fun o => grownBy_putObj' W M o
  have hlt : M < W.heap.size := (Array.getElem?_eq_some_iff.1 hm).1
  cases hi : idxL n t L with
  | none =>
    obtain rfl := hv hi
    refine ⟨W.putObj M (.map (es.push { key := keyV n t, val := v, born := clock }) (clock + 1)), ?_, ?_, grown _⟩
    · unfold Instr.mapUpdate
      simp [Sem.run_bind, run_underlying und208, MapKept.run_getObj_map hm, run_ckKey, hf, MapKept.run_setObj_map _ hm, World.putObj]
    · refine ⟨_, _, World.putObj_heap_same hlt, ?_⟩
      simp [updL, hi, hL]
  | some k =>
    obtain ⟨x, hx, hb, rfl⟩ := hk k hi
    obtain ⟨e1, e2⟩ := keyB_eq hb
    have hk1 : (es.toList.map (fun e => (e.key, e.val)))[k]? = some (keyV n t, x.2.2) := by
      rw [hL, List.getElem?_map, hx]
      show some (keyV x.1 x.2.1, x.2.2) = _
      rw [← e1, ← e2]
    obtain ⟨e, he, hek⟩ : ∃ e, es[k]? = some e ∧ e.key = keyV n t := by
      rw [List.getElem?_map] at hk1
      cases hq : es.toList[k]? with
      | none => rw [hq] at hk1; simp at hk1
      | some e =>
        rw [hq] at hk1
        simp only [Option.map_some, Option.some.injEq, Prod.mk.injEq] at hk1
        exact ⟨e, by simpa using hq, hk1.1⟩
    refine ⟨W.putObj M (.map (es.modify k fun e => { e with key := keyV n t, val := v }) clock), ?_, ?_, grown _⟩
    · have hst : Sem.run Tryz.prog (Instr.keyThatStays (keyV n t) (keyV n t)) W = .ok (keyV n t) W := by
        unfold Instr.keyThatStays
        rw [if_pos (same_key n t)]
        rfl
      unfold Instr.mapUpdate
      simp [Sem.run_bind, run_underlying und208, MapKept.run_getObj_map hm, run_ckKey, hf, he, hek, hst, MapKept.run_setObj_map _ hm, World.putObj]
    · refine ⟨_, _, World.putObj_heap_same hlt, ?_⟩
      have hkl : k < es.size := (Array.getElem?_eq_some_iff.1 he).1
      simp only [updL, hi]
      apply List.ext_getElem?
      intro j
      rw [List.getElem?_map, Array.getElem?_toList, Array.getElem?_modify, List.map_set, List.getElem?_set, ← hL]
      by_cases hj : k = j
      · subst hj
        simp [hkl]
      · simp [hj]
end Go.Proofs.YtmfhpddeclggfaaGreatDoor
namespace Go.Proofs.YtmfhpddeclggfaaGreatDoor
open Go.RowKit
theorem inf3 : (Tryz.prog.info? 3).map (fun i => (i.zero, i.size, i.bytes)) = some (some (.int .i64 0), 1, 8) := by kernel_rfl
/-- The cells of numbers. -/
abbrev cellsI (zs : List Int) : List Value := zs.map (Value.int .i64)
set_option maxRecDepth 100000 in
set_option maxHeartbeats 1000000 in
theorem withLast_new (v : Value) (zs : List Int) (k : Int) (B : Nat) (w : World) (hO : w.ownsRow B 3 1 v zs.length (cellsI zs)) (hk : zs.getLast? ≠ some k) (hl : zs.length ≤ 1000000) (hB : B ≤ w.heap.size) :
    Calls Tryz.prog 184 #[v, .int .i64 k] w fun e w' => ∃ v', e = .returned v' ∧ w'.ownsRow B 3 1 v' (zs.length + 1) (cellsI (zs ++ [k])) ∧ w.grownBy w' v.ownBlock ∧ (v'.ownBlock = some (w.heap.size + 1) ∨ (v'.ownBlock = v.ownBlock ∧ v.ownBlock ≠ none)) ∧ w.heap.size < w'.heap.size := by
  obtain ⟨i0, hi, hz0, hz1, hz2⟩ := info_parts inf3
  have fin : ∀ w2 v', w2.ownsRow B 3 1 v' (zs.length + 1) (cellsI zs ++ [.int .i64 k]) → (w.alloc (.cells #[.int .i64 k] 3)).grownBy w2 v.ownBlock → (v'.ownBlock = some (w.alloc (.cells #[.int .i64 k] 3)).heap.size ∨ (v'.ownBlock = v.ownBlock ∧ v.ownBlock ≠ none)) →
      w2.ownsRow B 3 1 v' (zs.length + 1) (cellsI (zs ++ [k])) ∧ w.grownBy w2 v.ownBlock ∧ (v'.ownBlock = some (w.heap.size + 1) ∨ (v'.ownBlock = v.ownBlock ∧ v.ownBlock ≠ none)) ∧ w.heap.size < w2.heap.size := by
    intro w2 v' h1 h2 h3
    rw [World.size_alloc] at h3
    have hs := h2.size
    rw [World.size_alloc] at hs
    refine ⟨by rw [cellsI, List.map_append]; exact h1, ⟨h2.os, h2.tape, h2.output, by omega, fun j hj hne => (h2.block j (by rw [World.size_alloc]; omega) hne).trans (Below.heap_alloc w _ j hj)⟩, h3, by omega⟩
  have FIN := Lib.hid fin
  have HO := Lib.hid hO
  have hnews : ∀ j u, ([.int .i64 k] : List Value)[j]? = some u → (w.alloc (.cells #[.int .i64 k] 3)).cell? ((⟨w.heap.size, 0, none⟩ : Addr).add j) = some u := cells_new w #[.int .i64 k] 3
  have HN := Lib.hid hnews
  clear fin hO hnews
  rcases HO.out.2 with ⟨rfl, h0⟩ | ⟨g, cap, cur, rfl, hg, hc, h3, h4, h5, h6⟩
  · have hz : zs = [] := List.length_eq_zero_iff.1 h0
    subst hz
    clear hk h0
    go_enter Tryz.func184, Tryz.ntmps184
    go_wp2_with (at_builtin; refine wpList_append_where _ rfl (.tmp 19) (.tmp 21) 85 rfl B 3 i0 (.int .i64 0) 1 8 Tryz.underlying85 hi hz0 hz1 hz2 rfl (by decide) (.slice none 0 0) 0 [] rfl (HO.out.alloc _) ⟨w.heap.size, 0, none⟩ 1 1 [.int .i64 k] (by decide) rfl rfl HN.out (by simp [Value.oneCell']) (by decide) (by decide) (by rw [World.size_alloc]; omega) ?_; intro v' w2 hO2 hg2 hw2)
    go_ret
    exact ⟨_, rfl, FIN.out _ _ hO2 hg2 hw2⟩
  · have hcell : ∀ j x, zs[j]? = some x → w.cell? ⟨g, j, none⟩ = some (.int .i64 x) := by
      intro j x hj
      have hlt : j < zs.length := (List.getElem?_eq_some_iff.1 hj).1
      have g1 : (cellsI zs)[j]? = some (.int .i64 x) := by rw [cellsI, List.getElem?_map, hj]; rfl
      rw [← h6, List.getElem?_take_of_lt (by omega)] at g1
      simpa [World.cell?, hc] using g1
    by_cases hz : zs = []
    · subst hz
      clear hk hcell hc h3 h4 h5 h6 hg
      go_enter Tryz.func184, Tryz.ntmps184
      go_wp2_with (at_builtin; refine wpList_append_where _ rfl (.tmp 19) (.tmp 21) 85 rfl B 3 i0 (.int .i64 0) 1 8 Tryz.underlying85 hi hz0 hz1 hz2 rfl (by decide) (.slice (some ⟨g, 0, none⟩) 0 cap) 0 [] rfl (HO.out.alloc _) ⟨w.heap.size, 0, none⟩ 1 1 [.int .i64 k] (by decide) rfl rfl HN.out (by simp [Value.oneCell']) (by decide) (by decide) (by rw [World.size_alloc]; omega) ?_; intro v' w2 hO2 hg2 hw2)
      go_ret
      exact ⟨_, rfl, FIN.out _ _ hO2 hg2 hw2⟩
    · obtain ⟨m, hm⟩ : ∃ m, zs.length = m + 1 := ⟨zs.length - 1, by have := List.length_pos_iff.2 hz; omega⟩
      obtain ⟨x, hx⟩ : ∃ x, zs[m]? = some x := ⟨zs[m], List.getElem?_eq_getElem (by omega)⟩
      have c1 := hcell m x hx
      have hne : x ≠ k := by
        intro e
        apply hk
        rw [List.getLast?_eq_getElem?, hm]
        simpa [e] using hx
      have hw0 : IntKind.i64.wrap (((m : Int) + 1) - 1) = (m : Int) := by rw [show ((m : Int) + 1) - 1 = m from by omega, IntKind.wrap_i64]; unfold wrap64 at *; omega
      have HM := Lib.hid hm
      rw [hm] at HO FIN ⊢
      have hml : m + 1 ≤ 1000000 := by omega
      have HL1 : Hid (m + 1 + 1 ≤ maxLen) := by unfold Hid maxLen; omega
      have HL2 : Hid ((m + 1 + 1) * 8 ≤ 140737488355328) := by unfold Hid; omega
      clear hk hcell hc h3 h4 h5 h6 hg hz hx hm hl
      go_enter Tryz.func184, Tryz.ntmps184
      go_wp2_with (at_builtin; refine wpList_append_where _ rfl (.tmp 19) (.tmp 21) 85 rfl B 3 i0 (.int .i64 0) 1 8 Tryz.underlying85 hi hz0 hz1 hz2 rfl (by decide) (.slice (some ⟨g, 0, none⟩) (m + 1) cap) (m + 1) (cellsI zs) rfl (HO.out.alloc _) ⟨w.heap.size, 0, none⟩ 1 1 [.int .i64 k] (by decide) rfl rfl HN.out (by simp [Value.oneCell']) HL1.out HL2.out (by rw [World.size_alloc]; omega) ?_; intro v' w2 hO2 hg2 hw2)
      go_ret
      exact ⟨_, rfl, FIN.out _ _ hO2 hg2 hw2⟩
end Go.Proofs.YtmfhpddeclggfaaGreatDoor
