import Derived.Test.YtmfhpddeclggfaaGreatDoorFour
import Derived.WalkKit
import Derived.LoopTactic
import Derived.WalkSpells
import Derived.WalkLawsBesides
import Derived.Lib.Hide
import Derived.BigQuiet
import Derived.IntWalk
import Derived.Deep.DeepMust
import Derived.WalkSmall
import Derived.StillTailTactics
import Derived.Lib.SlBytesConst
import Derived.Deep.RegionLaw
import Derived.Deep.QuietTactic
namespace Go.Proofs.YtmfhpddeclggfaaGreatDoor
open Go.RowKit
theorem Tryz.Builder_WriteString_f (B b : Nat) (bs : List Value) (s : ByteArray) (w : World) (h : Lib.IsBuilderF 137 5 B b bs w) (hlen : bs.length + s.size ≤ 140737488355328) (hBw : B ≤ w.heap.size) :
    Calls Tryz.prog 87 #[.pointer (some ⟨b, 0, none⟩), .string s] w fun e w' => e = .returned (.tuple #[.int .i64 s.size, .nilIface]) ∧ (Lib.BuilderAtF 137 5 B b (.pointer (some ⟨b, 0, none⟩)) (bs ++ Lib.strCells s) w' ∧ Below B w w') := Any.Builder_WriteString_f Tryz.lays166 Tryz.Builder_Extra_166 B b bs s w h hlen hBw
/-- A builder of the call's own that holds these bytes. -/
def Bld (w : World) (B b : Nat) (l : List UInt8) : Prop := Lib.IsBuilderF 137 5 B b (Lib.byteCells l) w
theorem below_grown {w w' : World} (h : Below w.heap.size w w') : w.grownBy w' none := ⟨h.os, h.tape, h.output, h.size, fun k hk _ => h.block k hk⟩
theorem builderF_kept {w w' : World} {B b : Nat} {p : Value} {l : List Value} (h : Lib.BuilderAtF 137 5 B b p l w) (hb : Below w.heap.size w w') : Lib.BuilderAtF 137 5 B b p l w' := by
  obtain ⟨h1, v, h2, h3, h4⟩ := h
  have hlt : b < w.heap.size := (Array.getElem?_eq_some_iff.1 h2).1
  refine ⟨h1, v, by rw [hb.block b hlt]; exact h2, h3.kept (below_grown hb) ?_, h4⟩
  cases hv : v.ownBlock with
  | none => exact Or.inl rfl
  | some k => exact Or.inr (by simp)
theorem Bld.kept {w w' : World} {B b : Nat} {l : List UInt8} (h : Bld w B b l) (hb : Below w.heap.size w w') : Bld w' B b l := by
  rcases h with h | h
  · exact Or.inl (builderF_kept h hb)
  · exact Or.inr (builderF_kept h hb)
theorem bld_fresh (w : World) : Lib.IsBuilder 137 5 w.heap.size w.heap.size [] (w.alloc (.cells #[.pointer none, .slice none 0 0] 137)) := Lib.fresh_isBuilder 137 5 w
theorem bWriteByte (B b : Nat) (c : UInt8) (z : Int) (hz : z = c.toNat) (w : World) (h : Lib.IsBuilder 137 5 B b [] w) (hB : B ≤ w.heap.size) :
    Calls Tryz.prog 86 #[.pointer (some ⟨b, 0, none⟩), .int .u8 z] w fun e w' => e = .returned .nilIface ∧ Bld w' B b [c] ∧ Below B w w' := by
  subst hz
  exact (Tryz.Builder_WriteByte B b [] c.toNat w h (by simp) hB).mono fun e w' ⟨h1, h2, h3⟩ => ⟨h1, Lib.IsBuilderF.of (Or.inr h2), h3⟩
theorem bWriteString (B b : Nat) (l : List UInt8) (s : ByteArray) (w : World) (h : Bld w B b l) (hlen : l.length + s.size ≤ 1000000) (hB : B ≤ w.heap.size) :
    Calls Tryz.prog 87 #[.pointer (some ⟨b, 0, none⟩), .string s] w fun e w' => e = .returned (.tuple #[.int .i64 s.size, .nilIface]) ∧ Bld w' B b (l ++ s.data.toList) ∧ Below B w w' :=
  (Tryz.Builder_WriteString_f B b _ s w h (by rw [Lib.byteCells_length]; omega) hB).mono fun e w' ⟨h1, h2, h3⟩ => ⟨h1, Or.inr (by rw [Lib.byteCells_append]; exact h2), h3⟩
theorem bString (B b : Nat) (l : List UInt8) (w : World) (h : Bld w B b l) (hB : B ≤ w.heap.size) :
    Calls Tryz.prog 89 #[.pointer (some ⟨b, 0, none⟩)] w fun e w' => e = .returned (.string (bs l)) ∧ Bld w' B b l ∧ Below B w w' :=
  (Tryz.Builder_String_any_f B b l w h hB).mono fun _ _ h => h
def wordsL (ws : List ByteArray) : List UInt8 := ws.flatMap fun s => 32 :: s.data.toList
/-- What stands ahead of the check of a line. -/
def headL (n : Int) (ws : List ByteArray) : List UInt8 := [64] ++ Lib.itoa n ++ [32] ++ Lib.itoa ws.length ++ wordsL ws
/-- The text of a line. -/
def lineT (n : Int) (ws : List ByteArray) : List UInt8 := headL n ws ++ [32] ++ four (chk (headL n ws))
theorem wordsL_snoc (ws : List ByteArray) (k : Nat) (h : k < ws.length) : wordsL (ws.take (k + 1)) = wordsL (ws.take k) ++ [32] ++ (ws.getD k ByteArray.empty).data.toList := by
  unfold wordsL
  rw [List.take_succ_eq_append_getElem h, List.flatMap_append, List.getD, List.getElem?_eq_getElem h]
  simp
theorem wordsL_len : ∀ (ws : List ByteArray), (∀ s ∈ ws, s.size ≤ 120) → (wordsL ws).length ≤ 121 * ws.length
  | [], _ => by simp [wordsL]
  | s :: r, h => by
    have ih := wordsL_len r fun x hx => h x (List.mem_cons_of_mem _ hx)
    have h1 := h s List.mem_cons_self
    unfold wordsL at ih ⊢
    rw [List.flatMap_cons, List.length_append, List.length_cons, List.length_cons]
    have : s.data.toList.length = s.size := by simp
    omega
/-- How the world stands while a line is written. -/
structure St (w0 W : World) (n : Int) (p : Option Addr) (cap : Nat) (ws : List ByteArray) (B : Nat) (l : List UInt8) : Prop where
  bel : Below w0.heap.size w0 W
  lt : w0.heap.size < B
  c0 : W.cell? ⟨w0.heap.size, 0, none⟩ = some (.int .i64 n)
  c1 : W.cell? ⟨w0.heap.size, 1, none⟩ = some (.slice p ws.length cap)
  strs : StrsAt W p ws
  strsB : StrsAt w0 p ws
  env : Env W
  eight : 8 ≤ w0.heap.size
  bld : Bld W B B l
  hB : B ≤ W.heap.size
theorem St.next {w0 W W' : World} {n : Int} {p : Option Addr} {cap : Nat} {ws : List ByteArray} {B : Nat} {l l' : List UInt8} (h : St w0 W n p cap ws B l) (hb : Below B W W') (hl : Bld W' B B l') : St w0 W' n p cap ws B l' := by
  have b' : Below w0.heap.size w0 W' := h.bel.trans (hb.mono (Nat.le_of_lt h.lt))
  exact ⟨b', h.lt, by rw [hb.cell (p := ⟨w0.heap.size, 0, none⟩) h.lt]; exact h.c0, by rw [hb.cell (p := ⟨w0.heap.size, 1, none⟩) h.lt]; exact h.c1,
    h.strsB.below b', h.strsB, h.env.below hb (by have := h.lt; have := h.eight; omega), h.eight, hl, by have := hb.size; have := h.hB; omega⟩
theorem St.keep {w0 W W' : World} {n : Int} {p : Option Addr} {cap : Nat} {ws : List ByteArray} {B : Nat} {l : List UInt8} (h : St w0 W n p cap ws B l) (hb : Below W.heap.size W W') : St w0 W' n p cap ws B l :=
  h.next (hb.mono h.hB) (h.bld.kept hb)

def wrRes (n : Int) (ws : List ByteArray) : Value := if lineErr n ws = 0 then .tuple #[.string (bs (lineT n ws)), .int .i64 0] else .tuple #[.string ⟨#[]⟩, .int .i64 (lineErr n ws)]
theorem lineErr_ok {n : Int} {ws : List ByteArray} (h : lineErr n ws = 0) : 1 ≤ n ∧ n ≤ 400 ∧ ws.length ≤ 40 ∧ wordsOk ws = true := by
  unfold lineErr at h
  split at h
  · cases h
  · split at h
    · cases h
    · split at h
      · exact ⟨by omega, by omega, by omega, by assumption⟩
      · cases h
theorem wordsOk_size {ws : List ByteArray} (h : wordsOk ws = true) : ∀ s ∈ ws, s.size ≤ 120 := by
  intro s hs
  unfold wordsOk at h
  have := List.all_eq_true.1 h s hs
  unfold wordL at this
  simp at this
  omega
set_option maxRecDepth 100000 in
set_option maxHeartbeats 1000000 in
theorem sWrite (n : Int) (p : Option Addr) (cap : Nat) (ws : List ByteArray) (w : World) (hl : ws.length ≤ maxLen) (hs : ∀ j, (ws.getD j ByteArray.empty).size ≤ maxLen) (hp : StrsAt w p ws) (he : Env w) :
    Calls Tryz.prog 31 #[.agg #[.int .i64 n, .slice p ws.length cap]] w fun e w' => e = .returned (wrRes n ws) ∧ Below w.heap.size w w' := by
  have C := sCheckLine n p cap ws (w.alloc (.cells #[.int .i64 n, .slice p ws.length cap] 39)) hl hs (hp.below (below_alloc1 _ _))
  have HE := Lib.hid he
  have HP := Lib.hid hp
  clear hs hp he hl
  by_cases h0 : lineErr n ws = 0
  · have HR : Hid (wrRes n ws = .tuple #[.string (bs (lineT n ws)), .int .i64 0]) := by unfold Hid wrRes; rw [if_pos h0]
    have HO := Lib.hid (lineErr_ok h0)
    rw [h0] at C
    have HC := Lib.hid C
    clear C h0
    go_enter Tryz.func31, Tryz.ntmps31
    go_wp2_with fail
    refine HC.out.mono ?_
    rintro e w1 ⟨rfl, hb⟩
    clear HC
    rw [World.size_alloc] at hb
    have hb0 : Below (w.heap.size + 1) (w.alloc (.cells #[.int .i64 n, .slice p ws.length cap] 39)) (w1.alloc (.cells #[.pointer none, .slice none 0 0] 137)) := hb.alloc (by have := hb.size; simp at this; omega) _
    have hsz : w.heap.size < w1.heap.size := by have := hb.size; simp at this; omega
    have hbw : Below w.heap.size w (w1.alloc (.cells #[.pointer none, .slice none 0 0] 137)) := (below_alloc1 _ _).trans (hb0.mono (Nat.le_succ _))
    have s0 : ∀ l, Bld (w1.alloc (.cells #[.pointer none, .slice none 0 0] 137)) w1.heap.size w1.heap.size l → St w (w1.alloc (.cells #[.pointer none, .slice none 0 0] 137)) n p cap ws w1.heap.size l := fun l hl =>
      ⟨hbw, hsz, by rw [hb0.cell (p := ⟨w.heap.size, 0, none⟩) (by show w.heap.size < _; omega)]; simp, by rw [hb0.cell (p := ⟨w.heap.size, 1, none⟩) (by show w.heap.size < _; omega)]; simp,
        HP.out.below hbw, HP.out, HE.out.next hbw, HE.out.size, hl, by simp⟩
    have S0 := Lib.hid (s0 [] (Lib.IsBuilderF.of (bld_fresh w1)))
    clear s0 hb0 hbw hb
    have hn := HO.out.1
    have hn2 := HO.out.2.1
    have hwl := HO.out.2.2.1
    have hpre : Hid (∀ k, (wordsL (ws.take k)).length ≤ 121 * 40) := by
      intro k
      have := wordsL_len (ws.take k) fun s hs => wordsOk_size HO.out.2.2.2 s (List.mem_of_mem_take hs)
      have h2 : (ws.take k).length ≤ 40 := by rw [List.length_take]; omega
      have := Nat.mul_le_mul_left 121 h2
      omega
    have li : Hid (∀ m : Int, 0 ≤ m → m ≤ 1000 → (Lib.itoa m).length ≤ 20) := fun m h0 h1 => (itoa_len m (by omega) (by omega)).2
    go_wp2_with fail
    refine (bWriteByte w1.heap.size w1.heap.size 64 64 rfl _ (bld_fresh w1) (by simp)).mono ?_
    rintro e w2 ⟨rfl, hbl, hbe⟩
    have S1 := Lib.hid (S0.out.next hbe hbl)
    clear S0 hbl hbe
    have c0 := S1.out.c0
    have c1 := S1.out.c1
    go_wp2_with fail
    refine (sInt n _ (i64_small (by omega) (by omega)) S1.out.env).mono ?_
    rintro e w3 ⟨rfl, hbe⟩
    have S2 := Lib.hid (S1.out.keep hbe)
    clear S1 hbe c0 c1
    have c0 := S2.out.c0
    have c1 := S2.out.c1
    go_wp2_with fail
    refine (bWriteString w1.heap.size w1.heap.size _ _ _ S2.out.bld (by rw [bs_size]; have := li.out n (by omega) (by omega); simp; omega) S2.out.hB).mono ?_
    rintro e w4 ⟨rfl, hbl, hbe⟩
    have S3 := Lib.hid (S2.out.next hbe hbl)
    clear S2 hbl hbe c0 c1
    have c0 := S3.out.c0
    have c1 := S3.out.c1
    go_wp2_with fail
    refine (bWriteString w1.heap.size w1.heap.size _ ⟨#[32]⟩ _ S3.out.bld (by have := li.out n (by omega) (by omega); simp [bs, ByteArray.size]; omega) S3.out.hB).mono ?_
    rintro e w5 ⟨rfl, hbl, hbe⟩
    have S4 := Lib.hid (S3.out.next hbe hbl)
    clear S3 hbl hbe c0 c1
    have c0 := S4.out.c0
    have c1 := S4.out.c1
    go_wp2_with fail
    refine (sInt (ws.length : Int) _ (i64_small (by omega) (by omega)) S4.out.env).mono ?_
    rintro e w6 ⟨rfl, hbe⟩
    have S5 := Lib.hid (S4.out.keep hbe)
    clear S4 hbe c0 c1
    have c0 := S5.out.c0
    have c1 := S5.out.c1
    go_wp2_with fail
    refine (bWriteString w1.heap.size w1.heap.size _ _ _ S5.out.bld (by rw [bs_size]; have := li.out n (by omega) (by omega); have := li.out ws.length (by omega) (by omega); simp [bs]; omega) S5.out.hB).mono ?_
    rintro e w7 ⟨rfl, hbl, hbe⟩
    have S6 := Lib.hid (S5.out.next hbe hbl)
    clear S5 hbl hbe c0 c1
    have c0 := S6.out.c0
    have c1 := S6.out.c1
    have S7 : Hid (St w w7 n p cap ws w1.heap.size ([64] ++ Lib.itoa n ++ [32] ++ Lib.itoa ws.length ++ wordsL (ws.take 0))) := by
      have := S6.out
      unfold Hid
      rw [show wordsL (ws.take 0) = [] from rfl, List.append_nil]
      exact this
    clear S6 c0 c1
    have c0 := S7.out.c0
    have c1 := S7.out.c1
    go_wp2_with fail
    clear c0 c1
    go_loopw [28] (fun i wr => ∃ k : Nat, k ≤ ws.length ∧ i = .int .i64 k ∧ Hid (St w wr n p cap ws w1.heap.size ([64] ++ Lib.itoa n ++ [32] ++ Lib.itoa ws.length ++ wordsL (ws.take k)))) (fun i _ => ws.length - (intOf i).toNat)
    case atStart => exact ⟨0, Nat.zero_le _, rfl, S7⟩
    case round =>
      clear S7
      obtain ⟨k, hk, rfl, S⟩ := hrel
      by_cases hlt : k < ws.length
      · obtain ⟨b, o, s, rfl, hb, hc, hs⟩ : ∃ b o s, p = some ⟨b, o, none⟩ ∧ b < wr.heap.size ∧ wr.cell? ⟨b, o + k, none⟩ = some (.string s) ∧ Hid (ws.getD k ByteArray.empty = s) := by
          rcases S.out.strs with h | ⟨b, o, e1, e2, e3⟩
          · rw [h] at hlt; exact absurd hlt (by simp)
          · exact ⟨b, o, _, e1, e2, e3 k hlt, rfl⟩
        have hss : s.size ≤ 120 := by
          have := wordsOk_size HO.out.2.2.2 (ws[k]) (List.getElem_mem _)
          have e := hs.out
          rw [List.getD, List.getElem?_eq_getElem hlt] at e
          rw [← e]; exact this
        have hpk := hpre.out k
        have l1 := li.out n (by omega) (by omega)
        have l2 := li.out ws.length (by omega) (by omega)
        go_wp2_with fail
        refine (bWriteString w1.heap.size w1.heap.size _ ⟨#[32]⟩ _ S.out.bld (by simp [ByteArray.size]; omega) S.out.hB).mono ?_
        rintro e w8 ⟨rfl, hbl, hbe⟩
        have S8 := Lib.hid (S.out.next hbe hbl)
        clear hc hbl hbe
        go_wp2_with fail
        refine (bWriteString w1.heap.size w1.heap.size _ s _ S8.out.bld (by simp; omega) S8.out.hB).mono ?_
        rintro e w9 ⟨rfl, hbl, hbe⟩
        have S9 := Lib.hid (S8.out.next hbe hbl)
        clear S8 hbl hbe
        go_wp2_with fail
        go_roundw
        case rel =>
          refine ⟨k + 1, by omega, by go_num, ?_⟩
          have := S9.out
          unfold Hid
          rw [wordsL_snoc ws k hlt, hs.out]
          simpa [List.append_assoc] using this
        case measure => simp [intOf]; omega
      · obtain rfl : k = ws.length := by omega
        have hpk := hpre.out ws.length
        rw [List.take_length] at hpk
        have l1 := li.out n (by omega) (by omega)
        have l2 := li.out ws.length (by omega) (by omega)
        have S8 : Hid (St w wr n p cap ws w1.heap.size (headL n ws)) := by
          have := S.out
          rw [List.take_length] at this
          exact this
        have hh : (headL n ws).length ≤ 6000 := by unfold headL; simp; omega
        clear S
        go_wp2_with fail
        refine (bString w1.heap.size w1.heap.size _ _ S8.out.bld S8.out.hB).mono ?_
        rintro e w8 ⟨rfl, hbl, hbe⟩
        have S9 := Lib.hid (S8.out.next hbe hbl)
        clear S8 hbl hbe
        go_wp2_with fail
        refine (sCheck _ _ (by rw [bs_size]; unfold maxLen; omega)).mono ?_
        rintro e w' ⟨rfl, rfl⟩
        rw [bs_list]
        go_wp2_with fail
        refine (sFour _ _ (by have := chk_lt (headL n ws); omega) S9.out.env).mono ?_
        rintro e w10 ⟨rfl, hbe⟩
        have S10 := Lib.hid (S9.out.keep hbe)
        clear S9 hbe
        have hf := four_len (chk (headL n ws)) (by have := chk_lt (headL n ws); omega)
        go_wp2_with fail
        refine (bWriteString w1.heap.size w1.heap.size _ ⟨#[32]⟩ _ S10.out.bld (by simp [ByteArray.size]; omega) S10.out.hB).mono ?_
        rintro e w11 ⟨rfl, hbl, hbe⟩
        have S11 := Lib.hid (S10.out.next hbe hbl)
        clear S10 hbl hbe
        go_wp2_with fail
        refine (bWriteString w1.heap.size w1.heap.size _ _ _ S11.out.bld (by rw [bs_size, hf]; simp; omega) S11.out.hB).mono ?_
        rintro e w12 ⟨rfl, hbl, hbe⟩
        have S12 := Lib.hid (S11.out.next hbe hbl)
        clear S11 hbl hbe
        go_wp2_with fail
        refine (bString w1.heap.size w1.heap.size _ _ S12.out.bld S12.out.hB).mono ?_
        rintro e w13 ⟨rfl, hbl, hbe⟩
        have S13 := Lib.hid (S12.out.next hbe hbl)
        clear S12 hbl hbe
        go_wp2_with fail
        go_ret2
        exact ⟨by rw [HR.out, show lineT n ws = headL n ws ++ 32 :: four (chk (headL n ws)) from by simp [lineT]]; rfl, S13.out.bel⟩
  · have HR : Hid (wrRes n ws = .tuple #[.string ⟨#[]⟩, .int .i64 (lineErr n ws)]) := by unfold Hid wrRes; rw [if_neg h0]
    have h1 : (lineErr n ws != 0) = true := by rw [bne_iff_ne]; exact h0
    have HC := Lib.hid C
    clear C h0
    go_enter Tryz.func31, Tryz.ntmps31
    go_wp2_with fail
    refine HC.out.mono ?_
    rintro e w1 ⟨rfl, hb⟩
    have HB : Hid (Below w.heap.size w w1) := (below_alloc1 _ _).trans (hb.mono (by simp))
    clear HC hb
    go_wp2_with fail
    go_ret2
    exact ⟨by rw [HR.out]; rfl, HB.out⟩
end Go.Proofs.YtmfhpddeclggfaaGreatDoor
