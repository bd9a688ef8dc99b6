import Derived.Test.YtmfhpddeclggfaaGreatDoorKg
import Derived.Test.YtmfhpddeclggfaaGreatDoorKm
import Derived.Test.YtmfhpddeclggfaaGreatDoorKf
import Derived.WalkKit
import Derived.LoopTactic
import Derived.WalkSpells
import Derived.WalkLawsBesides
import Derived.Lib.Hide
import Derived.BigQuiet
import Derived.IntWalk
import Derived.Deep.DeepMust
import Derived.WalkSmall
import Derived.StillTailTactics
import Derived.Deep.RegionLaw
import Derived.Deep.QuietTactic
import Derived.Deep.Cut
import Derived.Deep.DeepCutAuto
namespace Go.Proofs.YtmfhpddeclggfaaGreatDoor
open Go.RowKit
/-- The line's own cells, and what stood. -/
structure LB (w W : World) (m : Int) (q : Option Addr) (n c : Nat) : Prop where
  bel : Below w.heap.size w W
  c0 : W.cell? ⟨w.heap.size, 0, none⟩ = some (.int .i64 m)
  c1 : W.cell? ⟨w.heap.size, 1, none⟩ = some (.slice q n c)
  lt : w.heap.size < W.heap.size
theorem LB.mk0 (w : World) (m : Int) (q : Option Addr) (n c : Nat) : LB w (w.alloc (.cells #[.int .i64 m, .slice q n c] 39)) m q n c :=
  ⟨below_alloc1 _ _, nw_at w _ 39 0 _ rfl, nw_at w _ 39 1 _ rfl, by simp⟩
theorem LB.next {w W W' : World} {m : Int} {q : Option Addr} {n c : Nat} (h : LB w W m q n c) (hb : Below W.heap.size W W') : LB w W' m q n c :=
  ⟨h.bel.trans (hb.mono (Nat.le_of_lt h.lt)), (hb.cell (p := ⟨w.heap.size, 0, none⟩) h.lt).trans h.c0, (hb.cell (p := ⟨w.heap.size, 1, none⟩) h.lt).trans h.c1, Nat.lt_of_lt_of_le h.lt hb.size⟩
set_option maxRecDepth 100000 in
set_option maxHeartbeats 4000000 in
theorem back_big (n : Int) (s : ByteArray) (m : Int) (q : Option Addr) (c : Nat) (ws : List ByteArray) (w : World) (he : Env w) (hl : ws.length ≤ maxLen) (hz : ∀ j, (ws.getD j ByteArray.empty).size ≤ maxLen) (hp : StrsAt w q ws)
    (h : 300 < s.size ∨ 4000 < wrap64 (sumL ws) ∨ 100 < ws.length) :
    Calls Tryz.prog 12 #[.int .i64 n, .string s, .agg #[.int .i64 m, .slice q ws.length c]] w fun e w' => e = .returned (.bool true) ∧ Below w.heap.size w w' := by
  have L0 := Lib.hid (LB.mk0 w m q ws.length c)
  have HE := Lib.hid he
  have SZ := Lib.hid (size_any q c ws (w.alloc (.cells #[.int .i64 m, .slice q ws.length c] 39)) hl hz (hp.below (below_alloc1 _ _)))
  have SN := Lib.hid (sanity_any (w.alloc (.cells #[.int .i64 m, .slice q ws.length c] 39)) (he.next (below_alloc1 _ _)))
  obtain ⟨N, hN⟩ : ∃ N, ws.length = N := ⟨_, rfl⟩
  obtain ⟨t, ht⟩ : ∃ t, wrap64 (sumL ws) = t := ⟨_, rfl⟩
  rw [hN] at L0 SZ SN h hl ⊢
  rw [ht] at SZ h
  unfold maxLen at hl
  clear he hz hp hN ht
  by_cases h1 : 300 < (s.size : Int)
  · clear h
    go_enter Tryz.func12, Tryz.ntmps12
    go_wp2_with fail
    refine SN.out.mono ?_
    rintro e w1 ⟨rfl, hb⟩
    have B := Lib.hid (L0.out.next hb).bel
    clear hb
    go_wp2_with fail
    go_ret
    exact ⟨rfl, B.out⟩
  · by_cases h2 : 4000 < t
    · clear h
      go_enter Tryz.func12, Tryz.ntmps12
      go_wp2_with fail
      refine SZ.out.mono ?_
      rintro e w1 ⟨rfl, rfl⟩
      go_wp2_with fail
      refine SN.out.mono ?_
      rintro e w1 ⟨rfl, hb⟩
      have B := Lib.hid (L0.out.next hb).bel
      clear hb
      go_wp2_with fail
      go_ret
      exact ⟨rfl, B.out⟩
    · have h3 : 100 < (N : Int) := by omega
      clear h
      go_enter Tryz.func12, Tryz.ntmps12
      go_wp2_with fail
      refine SZ.out.mono ?_
      rintro e w1 ⟨rfl, rfl⟩
      go_wp2_with fail
      refine SN.out.mono ?_
      rintro e w1 ⟨rfl, hb⟩
      have B := Lib.hid (L0.out.next hb).bel
      clear hb
      go_wp2_with fail
      go_ret
      exact ⟨rfl, B.out⟩
/-- What is known of the text of a line. -/
structure RL (y : ByteArray) (m : Int) (ws : List ByteArray) : Prop where
  e : bs (lineT m ws) = y
  ok : lineErr m ws = 0
  n : lineN y = m
  w : lineWs y = ws
  r : readErr y = 0
  f : Lib.indexByte y.data.toList 10 = -1
  z : y.size ≤ 1000000
theorem indexByte_no (c : UInt8) : ∀ l : List UInt8, (∀ x ∈ l, x ≠ c) → Lib.indexByte l c = -1
  | [], _ => rfl
  | b :: l, h => by
    have hb : b ≠ c := h b List.mem_cons_self
    have ih := indexByte_no c l (fun x hx => h x (List.mem_cons_of_mem _ hx))
    simp [Lib.indexByte, hb, ih]
theorem rl_of {m : Int} {ws : List ByteArray} (h : lineErr m ws = 0) : RL (bs (lineT m ws)) m ws := by
  obtain ⟨r1, r2, r3⟩ := read_line h
  refine ⟨rfl, h, r1, r2, r3, indexByte_no _ _ (line_no_feed h), ?_⟩
  obtain ⟨n1, n2, l1, wo⟩ := lineErr_ok h
  have z1 := wordsL_len ws (wordsOk_size wo)
  have z2 := four_len (chk (headL m ws)) (by have := chk_lt (headL m ws); omega)
  have z3 := (itoa_len m (by omega) (by omega)).2
  have z4 := (itoa_len ws.length (by omega) (by omega)).2
  rw [bs_size]
  unfold lineT
  rw [List.length_append, z2]
  simp only [headL, List.length_append, List.length_cons, List.length_nil]
  omega
theorem tx_ok {s : ByteArray} (h : ¬ 50 < s.size) : txRes s = .tuple #[.string (bs (txt s.data.toList)), .int .i64 0] := by unfold txRes; rw [if_neg h]
theorem tx_no {s : ByteArray} (h : 50 < s.size) : txRes s = .tuple #[.string ⟨#[]⟩, .int .i64 2] := by unfold txRes; rw [if_pos h]
theorem tx_pair2 (s : ByteArray) : ∃ x e, Hid (txRes s = .tuple #[.string x, .int .i64 e]) ∧ Hid (e = 0 → s.size ≤ 50 ∧ x = bs (txt s.data.toList)) := by
  by_cases h : 50 < s.size
  · exact ⟨⟨#[]⟩, 2, tx_no h, fun e => absurd e (by decide)⟩
  · exact ⟨_, 0, tx_ok h, fun _ => ⟨by omega, rfl⟩⟩
theorem rt_pair2 (s : ByteArray) : ∃ x e, Hid (rtRes (rdText s.data.toList) = .tuple #[.string x, .int .i64 e]) ∧ Hid (e = 0 → x.size ≤ 50 ∧ bs (txt x.data.toList) = s) := by
  cases h : rdText s.data.toList with
  | none => exact ⟨⟨#[]⟩, 7, rfl, fun e => absurd e (by decide)⟩
  | some r =>
    obtain ⟨h1, h2⟩ := rdText_some h
    exact ⟨bs r, 0, rfl, fun _ => ⟨by rw [bs_size]; exact h2, by rw [bs_list, h1]; rfl⟩⟩
theorem rd_pair2 (s : ByteArray) : ∃ a e, Hid (rdRes s.data.toList = .tuple #[.int .i64 a, .int .i64 e]) ∧ Hid (e = 0 → I64 a ∧ bs (Lib.itoa a) = s) := by
  cases h : rdInt s.data.toList with
  | none => exact ⟨0, 7, by unfold Hid rdRes; rw [h]; rfl, fun e => absurd e (by decide)⟩
  | some a =>
    obtain ⟨h1, h2, h3⟩ := rdInt_some h
    exact ⟨a, 0, by unfold Hid rdRes; rw [h]; rfl, fun _ => ⟨⟨h2, h3⟩, by rw [h1]; rfl⟩⟩
theorem wr_pair2 (n : Int) (ws : List ByteArray) : ∃ x e, Hid (wrRes n ws = .tuple #[.string x, .int .i64 e]) ∧ Hid (e = 0 → lineErr n ws = 0 ∧ x = bs (lineT n ws)) := by
  by_cases h : lineErr n ws = 0
  · exact ⟨_, 0, by unfold Hid wrRes; rw [if_pos h], fun _ => ⟨h, rfl⟩⟩
  · exact ⟨⟨#[]⟩, lineErr n ws, by unfold Hid wrRes; rw [if_neg h], fun e => absurd e h⟩
set_option maxRecDepth 100000 in
set_option maxHeartbeats 8000000 in
theorem back_small (n : Int) (s : ByteArray) (m : Int) (q : Option Addr) (c : Nat) (ws : List ByteArray) (w : World) (he : Env w) (hn : I64 n) (hl : ws.length ≤ maxLen) (hz : ∀ j, (ws.getD j ByteArray.empty).size ≤ maxLen) (hp : StrsAt w q ws)
    (h1 : ¬ 300 < s.size) (h2 : ¬ 4000 < wrap64 (sumL ws)) (h3 : ¬ 100 < ws.length) :
    Calls Tryz.prog 12 #[.int .i64 n, .string s, .agg #[.int .i64 m, .slice q ws.length c]] w fun e w' => e = .returned (.bool true) ∧ Below w.heap.size w w' := by
  have L0 := Lib.hid (LB.mk0 w m q ws.length c)
  have HE := Lib.hid he
  have HNI := Lib.hid hn
  have HP := Lib.hid hp
  have HZ := Lib.hid hz
  have HL := Lib.hid hl
  have SZ := Lib.hid (size_any q c ws (w.alloc (.cells #[.int .i64 m, .slice q ws.length c] 39)) hl hz (hp.below (below_alloc1 _ _)))
  obtain ⟨N, hN⟩ : ∃ N, Hid (ws.length = N) := ⟨_, rfl⟩
  obtain ⟨t, ht⟩ : ∃ t, wrap64 (sumL ws) = t := ⟨_, rfl⟩
  rw [hN.out] at L0 SZ h3 hl ⊢
  rw [ht] at SZ h2
  have hs3 : ¬ 300 < (s.size : Int) := by omega
  have hN3 : ¬ 100 < (N : Int) := by omega
  have HS : Hid (s.size ≤ 300) := by unfold Hid; omega
  have HN : Hid (N ≤ 100) := by unfold Hid; omega
  clear he hz hp ht hl hn h1 h3
  obtain ⟨x, hx⟩ : ∃ x, Hid (bs (Lib.itoa n) = x) := ⟨_, rfl⟩
  have hxl : Hid (x.data.toList = Lib.itoa n) := by rw [← hx.out]; rfl
  have hxs : Hid (x.size ≤ 20) := by rw [← hx.out, Hid, bs_size]; exact (itoa_len n HNI.out.1 HNI.out.2).2
  have wx : Hid (wordL x.data.toList = true) := by rw [hxl.out]; exact wordL_itoa HNI.out
  have rdx : Hid (rdRes x.data.toList = .tuple #[.int .i64 n, .int .i64 0]) := by
    rw [hxl.out]; unfold Hid rdRes; rw [rdInt_itoa n HNI.out.1 HNI.out.2]; rfl
  go_enter Tryz.func12, Tryz.ntmps12
  go_wp2_with fail
  refine SZ.out.mono ?_
  rintro e w' ⟨rfl, rfl⟩
  clear SZ
  go_wp2_with fail
  have C1 := sInt n (w.alloc (.cells #[.int .i64 m, .slice q N c] 39)) HNI.out (HE.out.next L0.out.bel)
  rw [hx.out] at C1
  refine C1.mono ?_
  rintro e w1 ⟨rfl, hb⟩
  have L1 := Lib.hid (L0.out.next hb)
  clear hb L0 C1
  go_wp2_with fail
  have C2 := sReadInt x w1 (by have := hxs.out; omega) (HE.out.next L1.out.bel)
  rw [rdx.out] at C2
  refine C2.mono ?_
  rintro e w2 ⟨rfl, hb⟩
  have L2 := Lib.hid (L1.out.next hb)
  clear hb L1 C2
  go_wp2_with fail
  have C3 := sInt n w2 HNI.out (HE.out.next L2.out.bel)
  rw [hx.out] at C3
  refine C3.mono ?_
  rintro e w3 ⟨rfl, hb⟩
  have L3 := Lib.hid (L2.out.next hb)
  clear hb L2 C3
  go_wp2_with fail
  have C4 := Word_any x w3 (by have := hxs.out; unfold maxLen; omega)
  rw [wx.out] at C4
  refine C4.mono ?_
  rintro e w' ⟨rfl, rfl⟩
  clear C4
  go_wp2_with fail
  obtain ⟨x1, e1, P5, I5⟩ := tx_pair2 s
  have C5 := sText s w3
  rw [P5.out] at C5
  refine C5.mono ?_
  rintro e w4 ⟨rfl, hb⟩
  have L4 := Lib.hid (L3.out.next hb)
  clear hb L3 C5
  go_upto_if 68 with (fail)
  go_cut [6] from 7 (fun s6 wx => s6 = .bool false ∧ Hid (LB w wx m q N c))
  case first =>
    by_cases he1 : e1 = 0
    · subst he1
      obtain ⟨h50, hx1⟩ := I5.out rfl
      subst hx1
      have W6 : Hid (wordL (txt s.data.toList) = true) := wordL_txt (by simpa using h50)
      have R6 : Hid (rtRes (rdText (txt s.data.toList)) = .tuple #[.string s, .int .i64 0]) := by unfold Hid; rw [rdText_txt (by simpa using h50)]; rfl
      have S6 : Hid ((txt s.data.toList).length ≤ 101) := by unfold Hid; rw [txt_length]; simp; omega
      obtain ⟨y, hy⟩ : ∃ y, Hid (bs (txt s.data.toList) = y) := ⟨_, rfl⟩
      have hyl : Hid (y.data.toList = txt s.data.toList) := by rw [← hy.out]; rfl
      have hys : Hid (y.size ≤ 101) := by rw [← hy.out, Hid, bs_size]; exact S6.out
      rw [hy.out]
      rw [← hyl.out] at W6 R6
      clear h50 S6
      go_wp2_with fail
      have C6 := sReadTextAll y w4 (by have := hys.out; omega)
      rw [R6.out] at C6
      refine C6.mono ?_
      rintro e w5 ⟨rfl, hb⟩
      have L5 := Lib.hid (L4.out.next hb)
      clear hb L4 C6
      go_wp2_with fail
      have C7 := Word_any y w5 (by have := hys.out; unfold maxLen; omega)
      rw [W6.out] at C7
      refine C7.mono ?_
      rintro e w' ⟨rfl, rfl⟩
      clear C7
      go_wp2_with fail
      go_meet
      case rel => exact ⟨rfl, L5⟩
    · have hb1 : ((e1 : Int) == 0) = false := by rw [beq_eq_false_iff_ne]; exact he1
      clear he1
      go_wp2_with fail
      go_meet
      case rel => exact ⟨rfl, L4⟩
  case rest =>
    obtain ⟨rfl, L5⟩ := hcut
    clear L4 P5 I5
    have c0 := L5.out.c0
    have c1 := L5.out.c1
    obtain ⟨x2, e2, P6, I6⟩ := wr_pair2 m ws
    have C8 := sWrite m q c ws wc (by exact HL.out) HZ.out (HP.out.below ((below_alloc1 w (.cells #[] 0)).mono (Nat.le_refl _) |> fun _ => L5.out.bel)) (HE.out.next L5.out.bel)
    rw [P6.out, hN.out] at C8
    go_wp2_with fail
    refine C8.mono ?_
    rintro e w6 ⟨rfl, hb⟩
    have L6 := Lib.hid (L5.out.next hb)
    clear hb L5 C8 c0 c1
    go_upto_if 92 with (fail)
    go_cut [6] from 7 (fun s6 wx => s6 = .bool false ∧ Hid (LB w wx m q N c))
    case first =>
      by_cases he1 : e2 = 0
      · subst he1
        obtain ⟨hle, hx2⟩ := I6.out rfl
        subst hx2
        have K := rl_of hle
        obtain ⟨y, hy⟩ : ∃ y, bs (lineT m ws) = y := ⟨_, rfl⟩
        rw [hy] at K ⊢
        clear P6 I6 hle hy
        have C9 := sRead y w6 K.z (HE.out.next L6.out.bel)
        rw [K.n, K.w, K.r] at C9
        have D9 : Hid (Calls Tryz.prog 33 #[.string y] w6 fun e w' => ∃ p' cap', e = .returned (.tuple #[.agg #[.int .i64 m, .slice p' N cap'], .int .i64 0]) ∧ Below w6.heap.size w6 w' ∧ StrsAt w' p' ws) := by
          refine C9.mono ?_
          rintro e w7 ⟨hb, ⟨h0, -⟩ | ⟨-, p', cap', rfl, -, hst⟩⟩
          · exact absurd rfl h0
          · exact ⟨p', cap', by rw [hN.out], hb, hst⟩
        clear C9
        go_wp2_with fail
        refine D9.out.mono ?_
        rintro e w7 ⟨p', cap', rfl, hb, hst⟩
        have L7 := Lib.hid (L6.out.next hb)
        have HST := Lib.hid hst
        clear hb L6 D9 hst
        have c0 := cell_al L7.out.c0 (.cells #[.int .i64 m, .slice p' N cap'] 39)
        have c1 := cell_al L7.out.c1 (.cells #[.int .i64 m, .slice p' N cap'] 39)
        have HPF : Hid (StrsAt (w7.alloc (.cells #[.int .i64 m, .slice p' N cap'] 39)) q ws) := HP.out.below (L7.out.bel.alloc (Nat.le_of_lt L7.out.lt) _)
        have C10 := rSame m m q p' c cap' ws ws (w7.alloc (.cells #[.int .i64 m, .slice p' N cap'] 39)) HL.out HPF.out (HST.out.below (below_alloc1 _ _))
        rw [sameB_self, hN.out] at C10
        have D10 := Lib.hid C10
        have KF : Hid (Calls Tryz.prog 65 #[.string y, .string ⟨#[10]⟩] w7 fun e w' => e = .returned (.bool false) ∧ w7 = w') → True := fun _ => trivial
        have KG : Hid (∀ W : World, Calls Tryz.prog 65 #[.string y, .string ⟨#[10]⟩] W fun e w' => e = .returned (.bool false) ∧ W = w') := fun W => by
          refine (Tryz.strings_Contains_one y 10 W).mono ?_
          rintro e w' ⟨rfl, rfl⟩
          rw [K.f]
          exact ⟨rfl, rfl⟩
        clear C10 KF
        go_wp2_with fail
        refine D10.out.mono ?_
        rintro e w8 ⟨rfl, hb⟩
        have L8 := Lib.hid ((L7.out.next (below_alloc1 w7 (.cells #[.int .i64 m, .slice p' N cap'] 39))).next hb)
        clear D10 hb c0 c1
        go_wp2_with fail
        refine (KG.out w8).mono ?_
        rintro e w' ⟨rfl, rfl⟩
        clear KG
        go_wp2_with fail
        go_meet
        case rel => exact ⟨rfl, L8⟩
      · have hb1 : ((e2 : Int) == 0) = false := by rw [beq_eq_false_iff_ne]; exact he1
        clear he1
        go_wp2_with fail
        go_meet
        case rel => exact ⟨rfl, L6⟩
    case rest =>
      obtain ⟨rfl, L6⟩ := hcut
      clear P6 I6
      obtain ⟨a, e3, P7, I7⟩ := rd_pair2 s
      have C11 := sReadInt s wc (by have := HS.out; omega) (HE.out.next L6.out.bel)
      rw [P7.out] at C11
      have D11 := Lib.hid C11
      clear C11 P7
      go_wp2_with fail
      refine D11.out.mono ?_
      rintro e w9 ⟨rfl, hb⟩
      have L9 := Lib.hid (L6.out.next hb)
      clear hb L6 D11
      go_upto_region 17 with (fail)
      go_cut [6, 122] from 7 (fun s6 s122 wx => s6 = .bool false ∧ s122 = .bool false ∧ Hid (LB w wx m q N c))
      case first =>
        by_cases he1 : e3 = 0
        · subst he1
          obtain ⟨ha, hs⟩ := I7.out rfl
          have C12 := sInt a w9 ha (HE.out.next L9.out.bel)
          rw [hs] at C12
          have D12 := Lib.hid C12
          clear C12 hs ha I7
          go_wp2_with fail
          refine D12.out.mono ?_
          rintro e w10 ⟨rfl, hb⟩
          have L10 := Lib.hid (L9.out.next hb)
          clear hb L9 D12
          go_wp2_with fail
          go_meet
          case rel => exact ⟨rfl, rfl, L10⟩
        · have hb1 : ((e3 : Int) == 0) = false := by rw [beq_eq_false_iff_ne]; exact he1
          clear he1
          go_wp2_with fail
          go_meet
          case rel => exact ⟨rfl, rfl, L9⟩
      case rest =>
        obtain ⟨rfl, rfl, L7⟩ := hcut
        clear L9 I7
        obtain ⟨y, e4, P8, I8⟩ := rt_pair2 s
        have C13 := sReadTextAll s wc (by have := HS.out; omega)
        rw [P8.out] at C13
        have D13 := Lib.hid C13
        clear C13 P8
        go_wp2_with fail
        refine D13.out.mono ?_
        rintro e w11 ⟨rfl, hb⟩
        have L8 := Lib.hid (L7.out.next hb)
        clear hb L7 D13
        go_upto_if 129 with (fail)
        go_cut [6] from 7 (fun s6 wx => s6 = .bool false ∧ Hid (LB w wx m q N c))
        case first =>
          by_cases he1 : e4 = 0
          · subst he1
            obtain ⟨hz5, hs⟩ := I8.out rfl
            have C14 := sText y w11
            rw [tx_ok (by omega), hs] at C14
            have D14 := Lib.hid C14
            clear C14 hs hz5 I8
            go_wp2_with fail
            refine D14.out.mono ?_
            rintro e w12 ⟨rfl, hb⟩
            have L9 := Lib.hid (L8.out.next hb)
            clear hb L8 D14
            go_wp2_with fail
            go_meet
            case rel => exact ⟨rfl, L9⟩
          · have hb1 : ((e4 : Int) == 0) = false := by rw [beq_eq_false_iff_ne]; exact he1
            clear he1
            go_wp2_with fail
            go_meet
            case rel => exact ⟨rfl, L8⟩
        case rest =>
          obtain ⟨rfl, L9⟩ := hcut
          clear L8 I8
          have C15 := sRead s wc (by have := HS.out; omega) (HE.out.next L9.out.bel)
          by_cases hr : readErr s = 0
          · obtain ⟨k1, k2⟩ := read_ok hr
            obtain ⟨m2, hm2⟩ : ∃ m2, lineN s = m2 := ⟨_, rfl⟩
            obtain ⟨vs, hvs⟩ : ∃ vs, lineWs s = vs := ⟨_, rfl⟩
            rw [hr, hm2, hvs] at C15
            rw [hm2, hvs] at k1 k2
            obtain ⟨l1, l2, l3, l4⟩ := lineErr_ok k1
            have hz6 : ∀ j, (vs.getD j ByteArray.empty).size ≤ maxLen := fun j => by
              rw [List.getD]
              cases hj : vs[j]? with
              | none => exact Nat.zero_le _
              | some z => have := wordsOk_size l4 z (List.mem_of_getElem? hj); show z.size ≤ maxLen; unfold maxLen; omega
            have D15 : Hid (Calls Tryz.prog 33 #[.string s] wc fun e w' => ∃ p' cap', e = .returned (.tuple #[.agg #[.int .i64 m2, .slice p' vs.length cap'], .int .i64 0]) ∧ Below wc.heap.size wc w' ∧ StrsAt w' p' vs) := by
              refine C15.mono ?_
              rintro e w7 ⟨hb, ⟨h0, -⟩ | ⟨-, p', cap', rfl, -, hst⟩⟩
              · exact absurd rfl h0
              · exact ⟨p', cap', rfl, hb, hst⟩
            have KW : Hid (∀ (W : World) (p' : Option Addr) (cap' : Nat), StrsAt W p' vs → Env W → Calls Tryz.prog 31 #[.agg #[.int .i64 m2, .slice p' vs.length cap']] W fun e w' => e = .returned (.tuple #[.string s, .int .i64 0]) ∧ Below W.heap.size W w') := fun W p' cap' h5 h6 => by
              have := sWrite m2 p' cap' vs W (by unfold maxLen; omega) hz6 h5 h6
              unfold wrRes at this
              rw [if_pos k1, k2] at this
              exact this
            clear C15 hr hm2 hvs k1 k2 l1 l2 l3 l4 hz6
            go_wp2_with fail
            refine D15.out.mono ?_
            rintro e w13 ⟨p', cap', rfl, hb, hst⟩
            have L10 := Lib.hid ((L9.out.next hb).next (below_alloc1 w13 (.cells #[.int .i64 m2, .slice p' vs.length cap'] 39)))
            have C16 := Lib.hid (KW.out _ p' cap' (hst.below (below_alloc1 w13 (.cells #[.int .i64 m2, .slice p' vs.length cap'] 39))) (HE.out.next L10.out.bel))
            clear hb L9 D15 KW hst
            go_wp2_with fail
            refine C16.out.mono ?_
            rintro e w14 ⟨rfl, hb⟩
            have L11 := Lib.hid (L10.out.next hb)
            have SN := Lib.hid (sanity_any w14 (HE.out.next L11.out.bel))
            clear hb L10 C16
            go_wp2_with fail
            refine SN.out.mono ?_
            rintro e w15 ⟨rfl, hb⟩
            have L12 := Lib.hid (L11.out.next hb)
            clear hb L11 SN
            go_wp2_with fail
            go_ret
            exact ⟨rfl, L12.out.bel⟩
          · obtain ⟨er, her⟩ : ∃ er, readErr s = er := ⟨_, rfl⟩
            rw [her] at C15 hr
            have hr1 : ((er : Int) == 0) = false := by rw [beq_eq_false_iff_ne]; exact hr
            have D15 : Hid (Calls Tryz.prog 33 #[.string s] wc fun e w' => e = .returned (.tuple #[.agg #[.int .i64 0, .slice none 0 0], .int .i64 er]) ∧ Below wc.heap.size wc w') := by
              refine C15.mono ?_
              rintro e w7 ⟨hb, ⟨-, rfl⟩ | ⟨h0, -⟩⟩
              · exact ⟨rfl, hb⟩
              · exact absurd h0 hr
            clear C15 hr her
            go_wp2_with fail
            refine D15.out.mono ?_
            rintro e w13 ⟨rfl, hb⟩
            have L10 := Lib.hid ((L9.out.next hb).next (below_alloc1 w13 (.cells #[.int .i64 0, .slice none 0 0] 39)))
            have SN := Lib.hid (sanity_any (w13.alloc (.cells #[.int .i64 0, .slice none 0 0] 39)) (HE.out.next L10.out.bel))
            clear hb L9 D15
            go_wp2_with fail
            refine SN.out.mono ?_
            rintro e w15 ⟨rfl, hb⟩
            have L12 := Lib.hid (L10.out.next hb)
            clear hb L10 SN
            go_wp2_with fail
            go_ret
            exact ⟨rfl, L12.out.bel⟩
theorem sheetReadsBack_law (n : Int) (s : ByteArray) (m : Int) (q : Option Addr) (c : Nat) (ws : List ByteArray) (w : World) (he : Env w) (hn : -9223372036854775808 ≤ n ∧ n ≤ 9223372036854775807) (_hs : s.size ≤ maxLen) (_hm : -9223372036854775808 ≤ m ∧ m ≤ 9223372036854775807) (hl : ws.length ≤ maxLen) (hz : ∀ j, (ws.getD j ByteArray.empty).size ≤ maxLen) (hp : StrsAt w q ws) :
    Calls Tryz.prog 12 #[.int .i64 n, .string s, .agg #[.int .i64 m, .slice q ws.length c]] w fun e w' => e = .returned (.bool true) ∧ Below w.heap.size w w' := by
  by_cases h : 300 < s.size ∨ 4000 < wrap64 (sumL ws) ∨ 100 < ws.length
  · exact back_big n s m q c ws w he hl hz hp h
  · simp only [not_or] at h
    exact back_small n s m q c ws w he hn hl hz hp h.1 h.2.1 h.2.2
end Go.Proofs.YtmfhpddeclggfaaGreatDoor
