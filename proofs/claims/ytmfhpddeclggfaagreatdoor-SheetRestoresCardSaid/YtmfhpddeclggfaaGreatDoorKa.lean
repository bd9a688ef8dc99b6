import Derived.Test.YtmfhpddeclggfaaGreatDoorShelf
import Derived.Test.YtmfhpddeclggfaaGreatDoorPlain
import Derived.WalkKit
import Derived.LoopTactic
import Derived.WalkSpells
import Derived.WalkLawsBesides
import Derived.Lib.Hide
import Derived.BigQuiet
import Derived.Deep.QuietTactic
import Derived.Lib.SmallJoins
import Derived.Lib.ItoaLen
import Derived.RowKit
import Derived.StillTailTactics
import Derived.Lib.SlBytesConst
import Derived.Deep.RegionLaw
import Derived.IntWalk
import Derived.WalkSmall
namespace Go.Proofs.YtmfhpddeclggfaaGreatDoor
open Go.RowKit

theorem var?_below {P : Program} {B g : Nat} {W W' : World} {n : String} {cs : Array Value} (h : Below B W W') (hg : P.globalNamed n = some g) (hgB : g < B) (hv : W.var? P n = some cs) : W'.var? P n = some cs := by
  unfold World.var? at hv ⊢
  simp only [hg, Option.bind_some] at hv ⊢
  rw [h.block g hgB]
  exact hv

theorem gSyn : Tryz.prog.globalNamed "strconv.ErrSyntax" = some 1 := by kernel_rfl
theorem gRng : Tryz.prog.globalNamed "strconv.ErrRange" = some 2 := by kernel_rfl
theorem gPow : Tryz.prog.globalNamed "internal/strconv.uint64pow10" = some 3 := by kernel_rfl

/-- What the package-level variables hold. -/
structure Env (w : World) : Prop where
  mx : ∃ m : Int, w.cell? ⟨0, 0, none⟩ = some (.int .i64 m)
  syn : ∃ (tp : TypeId) (p : Value), w.var? Tryz.prog "strconv.ErrSyntax" = some #[.iface tp p]
  rng : ∃ (tp : TypeId) (p : Value), w.var? Tryz.prog "strconv.ErrRange" = some #[.iface tp p]
  pow : Lib.TabIs Tryz.prog w "internal/strconv.uint64pow10" .u64 Lib.pow10Tab
  size : 8 ≤ w.heap.size

theorem Env.below {w w' : World} (h : Env w) {B : Nat} (b : Below B w w') (hB : 8 ≤ B) : Env w' := by
  obtain ⟨⟨m, hm⟩, ⟨t1, p1, h1⟩, ⟨t2, p2, h2⟩, h3, h4⟩ := h
  exact ⟨⟨m, (b.cell (p := ⟨0, 0, none⟩) (by show 0 < B; omega)).trans hm⟩, ⟨t1, p1, var?_below b gSyn (by omega) h1⟩, ⟨t2, p2, var?_below b gRng (by omega) h2⟩, var?_below b gPow (by omega) h3, by have := b.size; omega⟩

theorem Env.next {w w' : World} (h : Env w) (b : Below w.heap.size w w') : Env w' := h.below b h.size

theorem ret_bool {a b : Bool} (h : a = b) : Ending.returned (.bool a) = .returned (.bool b) := by rw [h]
theorem ret_int {k : IntKind} {a b : Int} (h : a = b) : Ending.returned (.int k a) = .returned (.int k b) := by rw [h]
theorem ret_str {a b : ByteArray} (h : a = b) : Ending.returned (.string a) = .returned (.string b) := by rw [h]

/-- A string of bytes. -/
def bs (l : List UInt8) : ByteArray := ⟨l.toArray⟩
theorem bs_list (l : List UInt8) : (bs l).data.toList = l := rfl
theorem bs_of (s : ByteArray) : bs s.data.toList = s := rfl
theorem bs_size (l : List UInt8) : (bs l).size = l.length := rfl
theorem bs_inj {a b : List UInt8} (h : bs a = bs b) : a = b := by
  have := congrArg (fun s : ByteArray => s.data.toList) h
  simpa [bs] using this

theorem bcell {W w1 : World} (hb : Below W.heap.size W w1) : (∀ b o, b < W.heap.size → w1.cell? ⟨b, o, none⟩ = W.cell? ⟨b, o, none⟩) ∧ (∀ b o, b < W.heap.size → w1.frozen? ⟨b, o, none⟩ = W.frozen? ⟨b, o, none⟩) :=
  ⟨fun b o h => hb.cell (p := ⟨b, o, none⟩) h, fun b o h => hb.frozen (p := ⟨b, o, none⟩) h⟩

theorem below_alloc1 (w : World) (o : Obj) : Below w.heap.size w (w.alloc o) := (Below.refl _ _).alloc (Nat.le_refl _) _

theorem below_grow (w : World) (k : Nat) (os : Array Obj) : Below w.heap.size w («Sort».grow (w.drewN k) os) :=
  ⟨rfl, rfl, rfl, by simp [«Sort».grow, World.drewN], fun i hi => by simp [«Sort».grow, World.drewN, Array.getElem?_append, hi]⟩

def I64 (n : Int) : Prop := -9223372036854775808 ≤ n ∧ n ≤ 9223372036854775807
theorem i64_small {n : Int} (h0 : -1000000000000000000 ≤ n) (h1 : n ≤ 1000000000000000000) : I64 n := by unfold I64; omega
theorem i64_wrap (n : Int) : I64 (wrap64 n) := by unfold I64 wrap64; omega
theorem i64_wrap_eq {n : Int} (h : I64 n) : wrap64 n = n := by unfold I64 at h; unfold wrap64; omega

/-- sheet.Int. -/
theorem sInt (n : Int) (w : World) (hn : I64 n) (he : Env w) :
    Calls Tryz.prog 28 #[.int .i64 n] w fun e w' => e = .returned (.string (bs (Lib.itoa n))) ∧ Below w.heap.size w w' := by
  have HE := Lib.hid he
  have HN := Lib.hid hn
  clear he hn
  go_enter Tryz.func28, Tryz.ntmps28
  go_wp2_with (go_at_call 83; refine (Tryz.strconv_Itoa _ HN.out.1 HN.out.2 _ HE.out.pow).mono ?_; rintro e w' ⟨rfl, k, os, rfl⟩)
  go_ret
  exact ⟨rfl, below_grow w k os⟩
end Go.Proofs.YtmfhpddeclggfaaGreatDoor
namespace Go.Proofs.YtmfhpddeclggfaaGreatDoor
open Go.RowKit
set_option maxHeartbeats 400000 in
theorem in_any (n lo hi : Int) (w : World) :
   Calls Tryz.prog 77 #[.int .i64 n, .int .i64 lo, .int .i64 hi] w fun e w' => e = .returned (.bool (decide (lo ≤ n) && decide (n ≤ hi))) ∧ w = w' := by
  go_enter Tryz.func77, Tryz.ntmps77
  go_wp2
  all_goals (go_ret; refine ⟨ret_bool ?_, rfl⟩; simp <;> omega)
theorem enc_digit_fin : ∀ d : Fin 10, Utf8.encode (48 + ((d.val : Nat) : Int)) = bs [UInt8.ofNat (48 + d.val)] := by decide +kernel
theorem enc_digit (u : Nat) : Utf8.encode (48 + (u : Int) % 10) = bs [UInt8.ofNat (48 + u % 10)] := by
  have := enc_digit_fin ⟨u % 10, by omega⟩
  simpa using this
theorem bs_append (a b : List UInt8) : bs a ++ bs b = bs (a ++ b) := by
  apply ByteArray.ext
  simp [bs]
set_option maxHeartbeats 400000 in
theorem digits_any (u : Nat) : ∀ (w : World), (u : Int) ≤ 9223372036854775808 →
    Calls Tryz.prog 84 #[.int .i64 (-(u : Int))] w fun e w' => e = .returned (.string (bs (Lib.decDigits u))) ∧ w = w' := by
  induction u using Nat.strongRecOn with
  | _ u ih =>
    intro w h
    have IH := Lib.hid ih
    clear ih
    have hq : Hid (Lib.decDigits u = if u < 10 then [UInt8.ofNat (48 + u % 10)] else Lib.decDigits (u / 10) ++ [UInt8.ofNat (48 + u % 10)]) := by
      unfold Hid
      by_cases hu : u < 10
      · rw [if_pos hu, Lib.decDigits_one hu, Nat.mod_eq_of_lt hu]
      · rw [if_neg hu]
        rw [Lib.decDigits, dif_neg hu]
    by_cases hu : u < 10
    · go_enter Tryz.func84, Tryz.ntmps84
      go_wp2_with fail
      go_ret
      exact ⟨ret_str (by rw [hq.out, if_pos hu]; exact enc_digit u), rfl⟩
    · go_enter Tryz.func84, Tryz.ntmps84
      go_wp2_with fail
      rw [show ((u : Int) / 10) = ((u / 10 : Nat) : Int) from by omega]
      refine (IH.out (u / 10) (by omega) _ (by omega)).mono ?_
      rintro e w' ⟨rfl, rfl⟩
      have hl : (bs (Lib.decDigits (u / 10))).size ≤ 20 := by
        rw [bs_size, Lib.decDigits_length]
        exact Lib.nDigits_le20 _ (by omega)
      have hl2 : (Utf8.encode (48 + (u : Int) % 10)).size ≤ 1 := by rw [enc_digit, bs_size]; simp
      clear h
      go_wp2_with fail
      go_ret
      exact ⟨ret_str (by rw [hq.out, if_neg hu, ← bs_append, enc_digit]), rfl⟩
set_option maxHeartbeats 400000 in
theorem rInt (n : Int) (w : World) (hn : I64 n) :
    Calls Tryz.prog 29 #[.int .i64 n] w fun e w' => e = .returned (.string (bs (Lib.itoa n))) ∧ w = w' := by
  unfold I64 at hn
  by_cases h0 : n < 0
  · obtain ⟨u, rfl⟩ : ∃ u : Nat, n = -(u : Int) := ⟨n.natAbs, by omega⟩
    have hu : 1 ≤ u := by omega
    have hb : (u : Int) ≤ 9223372036854775808 := by omega
    clear hn
    go_enter Tryz.func29, Tryz.ntmps29
    go_wp2_with fail
    refine (digits_any u _ hb).mono ?_
    rintro e w' ⟨rfl, rfl⟩
    have hl : (bs (Lib.decDigits u)).size ≤ 20 := by
      rw [bs_size, Lib.decDigits_length]
      exact Lib.nDigits_le20 _ (by omega)
    clear hb
    go_wp2_with fail
    go_ret
    exact ⟨ret_str (by rw [Lib.itoa_neg u hu]; rfl), rfl⟩
  · obtain ⟨u, rfl⟩ : ∃ u : Nat, n = (u : Int) := ⟨n.toNat, by omega⟩
    have hb : (u : Int) ≤ 9223372036854775807 := by omega
    clear hn
    go_enter Tryz.func29, Tryz.ntmps29
    go_wp2_with fail
    refine (digits_any u _ (by omega)).mono ?_
    rintro e w' ⟨rfl, rfl⟩
    clear hb
    go_wp2_with fail
    go_ret
    exact ⟨ret_str (by rw [Lib.itoa_nonneg u]), rfl⟩

theorem str_beq_true {a b : ByteArray} (h : a.data.toList = b.data.toList) : (a.toList == b.toList) = true := by
  rw [ByteArray.toList_eq, ByteArray.toList_eq, h]; simp
theorem str_beq_false {a b : ByteArray} (h : a.data.toList ≠ b.data.toList) : (a.toList == b.toList) = false := by
  rw [ByteArray.toList_eq, ByteArray.toList_eq]; simpa using h
/-- sheet.ReadInt. -/
def rdRes (l : List UInt8) : Value := .tuple #[.int .i64 ((rdInt l).getD 0), .int .i64 (if (rdInt l).isSome then 0 else 7)]
set_option maxHeartbeats 400000 in
theorem sReadInt (s : ByteArray) (w : World) (hs : s.size ≤ 1000000) (he : Env w) :
    Calls Tryz.prog 20 #[.string s] w fun e w' => e = .returned (rdRes s.data.toList) ∧ Below w.heap.size w w' := by
  have HE := Lib.hid he
  clear he
  cases ha : Lib.atoiAll s.data.toList with
  | ok v =>
    have HA := Lib.hid ha
    have HV : Hid (I64 v) := Lib.atoiAll_bounds ha
    clear ha
    go_enter Tryz.func20, Tryz.ntmps20
    go_wp2_with fail
    refine (Tryz.strconv_Atoi_ok s (by omega) v HA.out w).mono ?_
    rintro e w1 ⟨rfl, hw⟩
    have hb : Below w.heap.size w w1 := by
      rcases hw with rfl | ⟨t, rfl⟩
      · exact Below.refl _ _
      · exact Lib.bytesWorld_below _ _ _
    have HE1 := Lib.hid (HE.out.next hb)
    clear hw
    go_wp2_with fail
    refine (sInt v _ HV.out HE1.out).mono ?_
    rintro e w2 ⟨rfl, hb2⟩
    have HB := Lib.hid (hb.trans (hb2.mono hb.size))
    clear hb hb2 HE1
    by_cases hv : Lib.itoa v = s.data.toList
    · have e2 : ((bs (Lib.itoa v)).toList == s.toList) = true := str_beq_true hv
      have HR : Hid (rdInt s.data.toList = some v) := by unfold Hid rdInt; rw [HA.out]; simp [hv]
      clear hv
      go_wp2_with fail
      go_ret2
      exact ⟨by unfold rdRes; rw [HR.out]; rfl, HB.out⟩
    · have e2 : ((bs (Lib.itoa v)).toList == s.toList) = false := str_beq_false hv
      have HR : Hid (rdInt s.data.toList = none) := by unfold Hid rdInt; rw [HA.out]; simp [hv]
      clear hv
      go_wp2_with fail
      go_ret2
      exact ⟨by unfold rdRes; rw [HR.out]; rfl, HB.out⟩
  | «syntax» =>
    have HA := Lib.hid ha
    have HR : Hid (rdInt s.data.toList = none) := by unfold Hid rdInt; rw [HA.out]
    clear ha
    obtain ⟨tp, p, hv⟩ := HE.out.syn
    have HV := Lib.hid hv
    clear hv
    go_enter Tryz.func20, Tryz.ntmps20
    go_wp2_with fail
    refine (Tryz.strconv_Atoi_syntax_var s (by omega) HA.out tp p w HV.out).mono ?_
    rintro e w1 ⟨N, rfl, _, _, hb⟩
    have HB := Lib.hid hb
    clear hb
    go_wp2_with fail
    go_ret2
    exact ⟨by unfold rdRes; rw [HR.out]; rfl, HB.out⟩
  | range =>
    have HA := Lib.hid ha
    have HR : Hid (rdInt s.data.toList = none) := by unfold Hid rdInt; rw [HA.out]
    clear ha
    obtain ⟨tp, p, hv⟩ := HE.out.rng
    have HV := Lib.hid hv
    clear hv
    go_enter Tryz.func20, Tryz.ntmps20
    go_wp2_with fail
    refine (Tryz.strconv_Atoi_range_var s (by omega) HA.out tp p w HV.out).mono ?_
    rintro e w1 ⟨N, rfl, _, _, hb⟩
    have HB := Lib.hid hb
    clear hb
    go_wp2_with fail
    go_ret2
    exact ⟨by unfold rdRes; rw [HR.out]; rfl, HB.out⟩
end Go.Proofs.YtmfhpddeclggfaaGreatDoor
namespace Go.Proofs.YtmfhpddeclggfaaGreatDoor
open Go Go.Lib Go.RowKit
def rstep (c : UInt8) (n : Int) : Option Int :=
  if 48 ≤ c.toNat ∧ c.toNat ≤ 57 then some (wrap64 (wrap64 (n * 10) - ((c.toNat : Int) - 48))) else none
def racc : List UInt8 → Int → Option Int
  | [], n => some n
  | c :: r, n => (rstep c n).bind (racc r)
theorem racc_append : ∀ (a b : List UInt8) (n : Int), racc (a ++ b) n = (racc a n).bind (racc b)
  | [], b, n => rfl
  | c :: r, b, n => by
    simp only [List.cons_append, racc]
    cases rstep c n with
    | none => rfl
    | some m => exact racc_append r b m
theorem racc_dec (u : Nat) (h : u ≤ 9223372036854775808) : racc (decDigits u) 0 = some (-(u : Int)) := by
  induction u using Nat.strongRecOn with
  | _ u ih =>
    have st : ∀ (q d : Nat), d < 10 → q * 10 + d ≤ 9223372036854775808 → racc [UInt8.ofNat (48 + d)] (-(q : Int)) = some (-((q * 10 + d : Nat) : Int)) := by
      intro q d hd hq
      have e := toNat_digit d hd
      simp only [racc, rstep, e]
      rw [if_pos (by omega)]
      simp only [Option.bind_some]
      congr 1
      unfold wrap64
      omega
    by_cases hu : u < 10
    · rw [decDigits_one hu]
      have := st 0 u hu (by omega)
      simpa using this
    · rw [decDigits, dif_neg hu, racc_append, ih (u / 10) (by omega) (by omega)]
      simp only [Option.bind_some]
      rw [st (u / 10) (u % 10) (by omega) (by omega)]
      congr 2
      omega
/-- The loop of the specification, k bytes along. -/
def rfold (l : List UInt8) : Nat → Option Int
  | 0 => some 0
  | k + 1 => match rfold l k with
    | none => none
    | some n => if k = 0 ∧ l[0]? = some 45 then some n
      else match l[k]? with
        | none => none
        | some c => rstep c n
theorem rfold_minus (r : List UInt8) : ∀ k, k ≤ r.length → rfold (45 :: r) (k + 1) = racc (r.take k) 0
  | 0, _ => by simp [rfold, racc]
  | k + 1, h => by
    rw [rfold, rfold_minus r k (by omega)]
    rw [List.take_succ_eq_append_getElem (by omega), racc_append]
    cases racc (r.take k) 0 with
    | none => rfl
    | some n =>
      simp only [Option.bind_some, racc]
      rw [if_neg (by omega)]
      simp only [List.getElem?_cons_succ]
      rw [List.getElem?_eq_getElem (by omega)]
      simp only
      cases rstep r[k] n <;> rfl
theorem rfold_plain (l : List UInt8) (h0 : l[0]? ≠ some 45) : ∀ k, k ≤ l.length → rfold l k = racc (l.take k) 0
  | 0, _ => by simp [rfold, racc]
  | k + 1, h => by
    rw [rfold, rfold_plain l h0 k (by omega)]
    rw [List.take_succ_eq_append_getElem (by omega), racc_append]
    cases racc (l.take k) 0 with
    | none => rfl
    | some n =>
      simp only [Option.bind_some, racc]
      rw [if_neg (by intro e; exact h0 e.2)]
      rw [List.getElem?_eq_getElem (by omega)]
      simp only
      cases rstep l[k] n <;> rfl
/-- What the loop comes to, with its sign. -/
def rfin (l : List UInt8) (m : Int) : Int := if l[0]? = some 45 then m else wrap64 (-m)
theorem rfold_itoa (v : Int) (h0 : -9223372036854775808 ≤ v) (h1 : v ≤ 9223372036854775807) : ∃ m, rfold (itoa v) (itoa v).length = some m ∧ rfin (itoa v) m = v := by
  by_cases hv : v < 0
  · obtain ⟨u, rfl⟩ : ∃ u : Nat, v = -(u : Int) := ⟨v.natAbs, by omega⟩
    rw [itoa_neg u (by omega)]
    refine ⟨-(u : Int), ?_, by simp [rfin]⟩
    rw [List.length_cons, rfold_minus _ _ (Nat.le_refl _), List.take_length, racc_dec u (by omega)]
  · obtain ⟨u, rfl⟩ : ∃ u : Nat, v = (u : Int) := ⟨v.toNat, by omega⟩
    rw [itoa_nonneg u]
    have hne : (decDigits u)[0]? ≠ some 45 := by
      intro e
      have := decDigits_byte u 45 (List.mem_of_getElem? e)
      simp at this
    refine ⟨-(u : Int), ?_, ?_⟩
    · rw [rfold_plain _ hne _ (Nat.le_refl _), List.take_length, racc_dec u (by omega)]
    · unfold rfin
      rw [if_neg hne]
      unfold wrap64
      omega
theorem rfold_bounds (l : List UInt8) : ∀ k m, rfold l k = some m → -9223372036854775808 ≤ m ∧ m ≤ 9223372036854775807
  | 0, m, h => by simp only [rfold, Option.some.injEq] at h; omega
  | k + 1, m, h => by
    simp only [rfold] at h
    cases hk : rfold l k with
    | none => rw [hk] at h; cases h
    | some n =>
      rw [hk] at h
      simp only at h
      split at h
      · injection h with h; subst h; exact rfold_bounds l k n hk
      · cases hc : l[k]? with
        | none => rw [hc] at h; cases h
        | some c =>
          rw [hc] at h
          simp only [rstep] at h
          split at h
          · injection h with h; subst h; unfold wrap64; omega
          · cases h
theorem rfin_bounds {l : List UInt8} {k : Nat} {m : Int} (h : rfold l k = some m) : -9223372036854775808 ≤ rfin l m ∧ rfin l m ≤ 9223372036854775807 := by
  unfold rfin
  split
  · exact rfold_bounds l k m h
  · unfold wrap64; omega
theorem rdInt_of_fold_none {l : List UInt8} (h : rfold l l.length = none) : rdInt l = none := by
  cases hr : rdInt l with
  | none => rfl
  | some v =>
    obtain ⟨e, b0, b1⟩ := rdInt_some hr
    obtain ⟨m, hm, _⟩ := rfold_itoa v b0 b1
    rw [e] at hm
    rw [h] at hm
    cases hm
theorem rdInt_of_fold_yes {l : List UInt8} {m : Int} (h : rfold l l.length = some m) (he : itoa (rfin l m) = l) : rdInt l = some (rfin l m) := by
  obtain ⟨b0, b1⟩ := rfin_bounds h
  have := rdInt_itoa _ b0 b1
  rwa [he] at this
theorem rdInt_of_fold_no {l : List UInt8} {m : Int} (h : rfold l l.length = some m) (he : itoa (rfin l m) ≠ l) : rdInt l = none := by
  cases hr : rdInt l with
  | none => rfl
  | some v =>
    obtain ⟨e, b0, b1⟩ := rdInt_some hr
    obtain ⟨m', hm, hf⟩ := rfold_itoa v b0 b1
    rw [e] at hm hf
    rw [h] at hm
    injection hm with hm
    subst hm
    rw [hf] at he
    exact absurd e he
theorem itoa_len (v : Int) (h0 : -9223372036854775808 ≤ v) (h1 : v ≤ 9223372036854775807) : 1 ≤ (itoa v).length ∧ (itoa v).length ≤ 20 := by
  have nd : ∀ u : Nat, u < 10 ^ 19 → nDigits u ≤ 19 := by
    intro u hu
    by_cases hs : 10 ^ 18 ≤ u
    · rw [nDigits_unique 18 u hs hu]; omega
    · have : ∀ k u, u < 10 ^ (k + 1) → nDigits u ≤ k + 1 := by
        intro k
        induction k with
        | zero => intro u h; rw [nDigits_small (by simpa using h)]; omega
        | succ k ih =>
          intro u h
          by_cases hb : u < 10 ^ (k + 1)
          · have := ih u hb; omega
          · rw [nDigits_unique (k + 1) u (by omega) h]; omega
      have := this 17 u (by omega)
      omega
  by_cases hv : v < 0
  · obtain ⟨u, rfl⟩ : ∃ u : Nat, v = -(u : Int) := ⟨v.natAbs, by omega⟩
    rw [itoa_neg u (by omega), List.length_cons, decDigits_length]
    have := nd u (by omega)
    omega
  · obtain ⟨u, rfl⟩ : ∃ u : Nat, v = (u : Int) := ⟨v.toNat, by omega⟩
    rw [itoa_nonneg u, decDigits_length]
    have := nd u (by omega)
    have := nDigits_pos u
    omega
theorem rdInt_long {l : List UInt8} (h : ¬ (1 ≤ l.length ∧ l.length ≤ 20)) : rdInt l = none := by
  cases hr : rdInt l with
  | none => rfl
  | some v =>
    obtain ⟨e, b0, b1⟩ := rdInt_some hr
    have := itoa_len v b0 b1
    rw [e] at this
    exact absurd this h
end Go.Proofs.YtmfhpddeclggfaaGreatDoor
namespace Go.Proofs.YtmfhpddeclggfaaGreatDoor
open Go.RowKit
theorem in_yes (n lo hi : Int) (w : World) (h1 : lo ≤ n) (h2 : n ≤ hi) :
   Calls Tryz.prog 77 #[.int .i64 n, .int .i64 lo, .int .i64 hi] w fun e w' => e = .returned (.bool true) ∧ w = w' :=
  (in_any n lo hi w).mono fun e w' ⟨a, b⟩ => ⟨by rw [a]; simp [h1, h2], b⟩
theorem in_no (n lo hi : Int) (w : World) (h : n < lo ∨ hi < n) :
   Calls Tryz.prog 77 #[.int .i64 n, .int .i64 lo, .int .i64 hi] w fun e w' => e = .returned (.bool false) ∧ w = w' :=
  (in_any n lo hi w).mono fun e w' ⟨a, b⟩ => ⟨by rw [a]; simp; omega, b⟩
theorem rfold_mono (l : List UInt8) (k n : Nat) (h : rfold l k = none) (hn : k ≤ n) : rfold l n = none := by
  induction n with
  | zero => rw [show (0 : Nat) = k by omega]; exact h
  | succ n ih =>
    by_cases e : k = n + 1
    · rw [← e]; exact h
    · rw [rfold, ih (by omega)]
theorem at_list (s : ByteArray) (k : Nat) (h : k < s.size) : s.data.toList[k]? = some s[k] := by
  rw [List.getElem?_eq_getElem (by simpa using h)]; rfl
theorem wrap_byte (c : UInt8) : wrap64 (c.toNat : Int) = c.toNat := by have := c.toNat_lt; unfold wrap64; omega
theorem rfold_go (s : ByteArray) (k : Nat) (m : Int) (hk : k < s.size) (h : rfold s.data.toList k = some m) (h0 : ¬ (k = 0 ∧ s.data.toList[0]? = some 45))
    (hd : (!decide (48 ≤ wrap64 (s[k].toNat : Int))) = false ∧ (!decide (wrap64 (s[k].toNat : Int) ≤ 57)) = false) :
    rfold s.data.toList (k + 1) = some (wrap64 (wrap64 (m * 10) - ((s[k].toNat : Int) - 48) % 256)) := by
  rw [wrap_byte] at hd
  rw [rfold, h]
  simp only
  rw [if_neg h0, at_list s k hk]
  simp only [rstep]
  simp at hd
  rw [if_pos (by omega)]
  congr 2
  omega
theorem rfold_stop (s : ByteArray) (k : Nat) (m : Int) (hk : k < s.size) (h : rfold s.data.toList k = some m) (h0 : ¬ (k = 0 ∧ s.data.toList[0]? = some 45))
    (hd : (!decide (48 ≤ wrap64 (s[k].toNat : Int))) = true ∨ (!decide (wrap64 (s[k].toNat : Int) ≤ 57)) = true) :
    rfold s.data.toList s.data.toList.length = none := by
  rw [wrap_byte] at hd
  refine rfold_mono _ (k + 1) _ ?_ (by simp; omega)
  rw [rfold, h]
  simp only
  rw [if_neg h0, at_list s k hk]
  simp only [rstep]
  simp at hd
  rw [if_neg (by omega)]
theorem is45 (s : ByteArray) (h : 0 < s.size) (e : ((s[0].toNat : Int) == 45) = true) : s.data.toList[0]? = some 45 := by
  rw [at_list s 0 h]
  have e1 : (s[0].toNat : Int) = 45 := by simpa using e
  have : s[0].toNat = 45 := by omega
  exact congrArg some (UInt8.toNat_inj.1 this)
theorem not45 (s : ByteArray) (h : 0 < s.size) (e : ((s[0].toNat : Int) == 45) = false) : ¬ s.data.toList[0]? = some 45 := by
  rw [at_list s 0 h]
  intro e2
  injection e2 with e2
  rw [e2] at e
  simp at e
theorem rfold_sign (s : ByteArray) (m : Int) (h : rfold s.data.toList 0 = some m) (h45 : s.data.toList[0]? = some 45) : rfold s.data.toList (0 + 1) = some m := by
  have e : rfold s.data.toList (0 + 1) = match rfold s.data.toList 0 with
    | none => none
    | some n => if (0 : Nat) = 0 ∧ s.data.toList[0]? = some 45 then some n
      else match s.data.toList[0]? with
        | none => none
        | some c => rstep c n := rfl
  rw [e, h]
  exact if_pos ⟨rfl, h45⟩
def rdNum (l : List UInt8) : Value := .agg #[.int .i64 ((rdInt l).getD 0), .int .i64 (if (rdInt l).isSome then 0 else 7)]
theorem rdNum_none {l : List UInt8} (h : rdInt l = none) : rdNum l = .agg #[.int .i64 0, .int .i64 7] := by unfold rdNum; rw [h]; rfl
theorem rdNum_some {l : List UInt8} {v : Int} (h : rdInt l = some v) : rdNum l = .agg #[.int .i64 v, .int .i64 0] := by unfold rdNum; rw [h]; rfl
set_option maxHeartbeats 1000000 in
theorem rReadInt (s : ByteArray) (w : World) (hs : s.size ≤ maxLen) :
    Calls Tryz.prog 21 #[.string s] w fun e w' => e = .returned (rdNum s.data.toList) ∧ Below w.heap.size w w' := by
  unfold maxLen at hs
  by_cases h12 : 1 ≤ s.size ∧ s.size ≤ 20
  · obtain ⟨h1, h2⟩ := h12
    go_enter Tryz.func21, Tryz.ntmps21
    go_wp2_with (go_at_call 77; refine (in_yes _ _ _ _ (by omega) (by omega)).mono ?_; rintro e w' ⟨rfl, rfl⟩)
    go_loop [3, 4] (fun n i => ∃ (k : Nat) (m : Int), k ≤ s.size ∧ i = .int .i64 k ∧ n = .int .i64 m ∧ Hid (rfold s.data.toList k = some m)) (fun _ i => s.size - (intOf i).toNat)
    case atStart => exact ⟨0, 0, Nat.zero_le _, rfl, rfl, rfl⟩
    case round =>
      obtain ⟨k, m, hk, rfl, rfl, hr⟩ := hrel
      by_cases hlt : k < s.size
      · by_cases h0 : k = 0
        · subst h0
          go_wp2_with (go_at_call 77; refine (in_any _ _ _ _).mono ?_; rintro e w' ⟨rfl, rfl⟩)
          · go_round
            case rel => exact ⟨1, m, by omega, rfl, rfl, rfold_sign s m hr.out (is45 s hlt ‹_›)⟩
            case measure => simp [intOf]; omega
          · refine bodyPost_ret (v := .agg #[.int .i64 0, .int .i64 7]) (by simp [results, Tryz.results21, go_sem]) rfl ⟨?_, below_alloc1 _ _⟩
            rw [rdNum_none (rdInt_of_fold_none (rfold_stop s 0 m hlt hr.out (fun e => not45 s hlt ‹_› e.2) ‹_›))]
          · go_round
            case rel => exact ⟨1, _, by omega, rfl, rfl, rfold_go s 0 m hlt hr.out (fun e => not45 s hlt ‹_› e.2) ‹_›⟩
            case measure => simp [intOf]; omega
        · have h0' : ((k : Int) == 0) = false := by simpa using h0
          have hn0 : Hid (¬ (k = 0 ∧ s.data.toList[0]? = some 45)) := fun e => h0 e.1
          go_wp2_with (go_at_call 77; refine (in_any _ _ _ _).mono ?_; rintro e w' ⟨rfl, rfl⟩)
          · refine bodyPost_ret (v := .agg #[.int .i64 0, .int .i64 7]) (by simp [results, Tryz.results21, go_sem]) rfl ⟨?_, below_alloc1 _ _⟩
            rw [rdNum_none (rdInt_of_fold_none (rfold_stop s k m hlt hr.out hn0.out ‹_›))]
          · go_round
            case rel => exact ⟨k + 1, _, by omega, by go_num, rfl, rfold_go s k m hlt hr.out hn0.out ‹_›⟩
            case measure => simp [intOf]; omega
      · obtain rfl : k = s.size := by omega
        have hB := rfin_bounds hr.out
        have hr' : rfold s.data.toList s.data.toList.length = some m := by simpa using hr.out
        have HR := Lib.hid hr'
        have HB := Lib.hid hB
        clear hr hr' hB
        by_cases h45 : s.data.toList[0]? = some 45
        · have h46 : ((s[0].toNat : Int) != 45) = false := by
            have := at_list s 0 (by omega)
            rw [this] at h45
            injection h45 with h45
            rw [h45]; rfl
          have hf : rfin s.data.toList m = m := by unfold rfin; rw [if_pos h45]
          have HF := Lib.hid hf
          clear hf h45
          go_wp2_with fail
          refine (rInt m _ (by have := HB.out; rw [HF.out] at this; exact this)).mono ?_
          rintro e w' ⟨rfl, rfl⟩
          by_cases hv : Lib.itoa m = s.data.toList
          · have e2 : ((bs (Lib.itoa m)).toList == s.toList) = true := str_beq_true hv
            have HV := Lib.hid hv
            clear hv
            go_wp2_with fail
            refine bodyPost_ret (v := .agg #[.int .i64 m, .int .i64 0]) (by simp [results, Tryz.results21, go_sem]) rfl ⟨?_, below_alloc1 _ _⟩
            have := rdInt_of_fold_yes HR.out (by rw [HF.out]; exact HV.out)
            rw [rdNum_some this, HF.out]
          · have e2 : ((bs (Lib.itoa m)).toList == s.toList) = false := str_beq_false hv
            have HV := Lib.hid hv
            clear hv
            go_wp2_with fail
            refine bodyPost_ret (v := .agg #[.int .i64 0, .int .i64 7]) (by simp [results, Tryz.results21, go_sem]) rfl ⟨?_, below_alloc1 _ _⟩
            have := rdInt_of_fold_no HR.out (by rw [HF.out]; exact HV.out)
            rw [rdNum_none this]
        · have h46 : ((s[0].toNat : Int) != 45) = true := by
            have := at_list s 0 (by omega)
            rw [this] at h45
            rw [bne_iff_ne]
            intro e
            exact h45 (congrArg some (UInt8.toNat_inj.1 (show s[0].toNat = 45 by omega)))
          have hf : rfin s.data.toList m = wrap64 (-m) := by unfold rfin; rw [if_neg h45]
          have HF := Lib.hid hf
          clear hf h45
          go_wp2_with fail
          refine (rInt (wrap64 (-m)) _ (by have := HB.out; rw [HF.out] at this; exact this)).mono ?_
          rintro e w' ⟨rfl, rfl⟩
          by_cases hv : Lib.itoa (wrap64 (-m)) = s.data.toList
          · have e2 : ((bs (Lib.itoa (wrap64 (-m)))).toList == s.toList) = true := str_beq_true hv
            have HV := Lib.hid hv
            clear hv
            go_wp2_with fail
            refine bodyPost_ret (v := .agg #[.int .i64 (wrap64 (-m)), .int .i64 0]) (by simp [results, Tryz.results21, go_sem]) rfl ⟨?_, below_alloc1 _ _⟩
            have := rdInt_of_fold_yes HR.out (by rw [HF.out]; exact HV.out)
            rw [rdNum_some this, HF.out]
          · have e2 : ((bs (Lib.itoa (wrap64 (-m)))).toList == s.toList) = false := str_beq_false hv
            have HV := Lib.hid hv
            clear hv
            go_wp2_with fail
            refine bodyPost_ret (v := .agg #[.int .i64 0, .int .i64 7]) (by simp [results, Tryz.results21, go_sem]) rfl ⟨?_, below_alloc1 _ _⟩
            have := rdInt_of_fold_no HR.out (by rw [HF.out]; exact HV.out)
            rw [rdNum_none this]
  · go_enter Tryz.func21, Tryz.ntmps21
    go_wp2_with (go_at_call 77; refine (in_no _ _ _ _ (by omega)).mono ?_; rintro e w' ⟨rfl, rfl⟩)
    refine bodyPost_ret (v := .agg #[.int .i64 0, .int .i64 7]) (by simp [results, Tryz.results21, go_sem]) rfl ⟨?_, below_alloc1 _ _⟩
    rw [rdNum_none (rdInt_long (by simp; omega))]
end Go.Proofs.YtmfhpddeclggfaaGreatDoor
namespace Go.Proofs.YtmfhpddeclggfaaGreatDoor
open Go.RowKit
/-- A slice of the call's own that may be appended to: an owned row, or a full row that bears a mark. -/
def OwnM (w : World) (base : Nat) (e : TypeId) (v : Value) (n : Nat) (xs : List Value) : Prop :=
  w.ownsRow base e 1 v n xs ∨ ∃ (g : Nat) (fz : Nat × Nat), v = .slice (some ⟨g, 0, none⟩) n n ∧ base ≤ g ∧ w.heap[g]? = some (.cells xs.toArray e fz) ∧ xs.length = n
theorem OwnM.own {w : World} {base : Nat} {e : TypeId} {v : Value} {n : Nat} {xs : List Value} (h : w.ownsRow base e 1 v n xs) : OwnM w base e v n xs := Or.inl h
theorem OwnM.ownBlock {w : World} {base : Nat} {e : TypeId} {v : Value} {n : Nat} {xs : List Value} (h : OwnM w base e v n xs) (k : Nat) (hk : v.ownBlock = some k) : base ≤ k := by
  rcases h with ⟨_, h2 | ⟨g, cap, cur, rfl, hg, _⟩⟩ | ⟨g, fz, rfl, hg, _⟩
  · obtain ⟨rfl, _⟩ := h2; cases hk
  · cases hk; exact hg
  · cases hk; exact hg
theorem OwnM.kept {w w' : World} {base : Nat} {e : TypeId} {v : Value} {n : Nat} {xs : List Value} (h : OwnM w base e v n xs) (hk : ∀ k, k < w.heap.size → w'.heap[k]? = w.heap[k]?) : OwnM w' base e v n xs := by
  have lt : ∀ (g : Nat) (o : Obj), w.heap[g]? = some o → w'.heap[g]? = some o := fun g o hg => by
    have : g < w.heap.size := (Array.getElem?_eq_some_iff.1 hg).1
    rw [hk g this]; exact hg
  rcases h with ⟨h1, h2 | ⟨g, cap, cur, hv, hg, hb, r⟩⟩ | ⟨g, fz, hv, hg, hb, r⟩
  · exact Or.inl ⟨h1, Or.inl h2⟩
  · exact Or.inl ⟨h1, Or.inr ⟨g, cap, cur, hv, hg, lt g _ hb, r⟩⟩
  · exact Or.inr ⟨g, fz, hv, hg, lt g _ hb, r⟩
theorem OwnM.alloc {w : World} {base : Nat} {e : TypeId} {v : Value} {n : Nat} {xs : List Value} (h : OwnM w base e v n xs) (o : Obj) : OwnM (w.alloc o) base e v n xs :=
  h.kept fun k hk => Below.heap_alloc w o k hk
theorem OwnM.drew {w : World} {base : Nat} {e : TypeId} {v : Value} {n : Nat} {xs : List Value} (h : OwnM w base e v n xs) : OwnM w.drew base e v n xs := h
theorem run_append_ownM {P : Program} (w : World) (base : Nat) (t ty e : TypeId) (i : TypeInfo) (z : Value) (bytes : Nat) (ht : P.underlying t = some (.slice e)) (hi : P.info? e = some i) (hz : i.zero = some z)
    (hsize : i.size = 1) (hby : i.bytes = bytes) (hzs : z.cells.size = 1)
    (v : Value) (n : Nat) (xs : List Value) (hown : OwnM w base e v n xs)
    (ad : Addr) (m c : Nat) (news : List Value) (hl : news.length = m) (hm : 0 < m) (hnews : ∀ j u, news[j]? = some u → w.cell? (ad.add j) = some u) (h1 : ∀ u ∈ news, u.oneCell' = true)
    (h63 : n + m ≤ maxLen) (hbytes : (n + m) * bytes ≤ 140737488355328) (hbase : base ≤ w.heap.size) :
    ∃ v' w', (Builtin.append_ #[t, t] ty #[v, .slice (some ad) m c]).run P w = .ok v' w' ∧ w'.ownsRow base e 1 v' (n + m) (xs ++ news) ∧ w.grownBy w' v.ownBlock ∧ Below base w w' := by
  have hob := hown.ownBlock
  rcases hown with hown | ⟨g, fz, rfl, hg, hb, hlen⟩
  · obtain ⟨v', w', hr, h2, h3, _⟩ := run_append_own (P := P) w base t ty e i z 1 bytes ht hi hz hsize hby hzs (by decide) v n xs hown ad m c news (by simpa using hl) hnews h1 h63 hbytes hbase
    exact ⟨v', w', hr, h2, h3, (Below.refl _ _).grown h3 hbase hob⟩
  · obtain ⟨v', w', hr, h2, h3⟩ := run_append_arg_grows (P := P) w t ty e i z 1 bytes ht hi hz hsize hby hzs (by decide) ⟨g, 0, none⟩ n n xs (by simpa using hlen) (by
      intro j u hu
      rw [show (⟨g, 0, none⟩ : Addr).add j = ⟨g, j, none⟩ from by simp [Addr.add]; omega]
      simp [World.cell?, hb]
      simpa using hu) ad m c news (by simpa using hl) hnews (by omega) h63 hbytes
    refine ⟨v', w', hr, ?_, ⟨h3.os, h3.tape, h3.output, h3.size, fun k hk _ => h3.block k hk (by simp)⟩, (Below.refl _ _).grown h3 hbase (by intro k hk; cases hk)⟩
    obtain ⟨h21, h22⟩ := h2
    refine ⟨h21, ?_⟩
    rcases h22 with h22 | ⟨g', cap, cur, q1, q2, q3⟩
    · exact Or.inl h22
    · exact Or.inr ⟨g', cap, cur, q1, Nat.le_trans hbase q2, q3⟩
theorem wp_append_ownM {P : Program} {w : World} {o : Oper} {a : Act} {K : Act → World → Prop} {Q : Exit → Act → World → Prop} (s x : Operand) (t : TypeId)
    (ho : o.op = .call { callee := .builtin .append, args := #[s, x], argTypes := #[t, t] })
    (base : Nat) (e : TypeId) (i : TypeInfo) (z : Value) (bytes : Nat) (ht : P.underlying t = some (.slice e)) (hi : P.info? e = some i) (hz : i.zero = some z)
    (hsize : i.size = 1) (hby : i.bytes = bytes) (hzs : z.cells.size = 1)
    (v : Value) (n : Nat) (xs : List Value) (hs : a.eval s = v) (hown : OwnM w base e v n xs)
    (ad : Addr) (m c : Nat) (news : List Value) (hx : a.eval x = .slice (some ad) m c) (hl : news.length = m) (hm : 0 < m) (hnews : ∀ j u, news[j]? = some u → w.cell? (ad.add j) = some u) (h1 : ∀ u ∈ news, u.oneCell' = true)
    (h63 : n + m ≤ maxLen) (hbytes : (n + m) * bytes ≤ 140737488355328) (hbase : base ≤ w.heap.size)
    (h : ∀ v' w', w'.ownsRow base e 1 v' (n + m) (xs ++ news) → w.grownBy w' v.ownBlock → Below base w w' → K (a.put o.dst v') w') : o.wp P a w K Q := by
  obtain ⟨v', w', hr, h2, h3, h4⟩ := run_append_ownM (P := P) w base t o.type e i z bytes ht hi hz hsize hby hzs v n xs hown ad m c news hl hm hnews h1 h63 hbytes hbase
  unfold Oper.wp
  simp [execOp, ho, resolve, invoke, builtin, hs, hx, hr, Result.andThen]
  exact h v' w' h2 h3 h4
theorem wpList_append_ownM {P : Program} {w : World} {ops : Array Oper} {rest : List Oper} {o : Oper} {a : Act} {Q : Exit → Act → World → Prop} (hgd : o.guard = none) (s x : Operand) (t : TypeId)
    (ho : o.op = .call { callee := .builtin .append, args := #[s, x], argTypes := #[t, t] })
    (base : Nat) (e : TypeId) (i : TypeInfo) (z : Value) (bytes : Nat) (ht : P.underlying t = some (.slice e)) (hi : P.info? e = some i) (hz : i.zero = some z)
    (hsize : i.size = 1) (hby : i.bytes = bytes) (hzs : z.cells.size = 1)
    (v : Value) (n : Nat) (xs : List Value) (hs : a.eval s = v) (hown : OwnM w base e v n xs)
    (ad : Addr) (m c : Nat) (news : List Value) (hx : a.eval x = .slice (some ad) m c) (hl : news.length = m) (hm : 0 < m) (hnews : ∀ j u, news[j]? = some u → w.cell? (ad.add j) = some u) (h1 : ∀ u ∈ news, u.oneCell' = true)
    (h63 : n + m ≤ maxLen) (hbytes : (n + m) * bytes ≤ 140737488355328) (hbase : base ≤ w.heap.size)
    (h : ∀ v' w', w'.ownsRow base e 1 v' (n + m) (xs ++ news) → w.grownBy w' v.ownBlock → Below base w w' → wpList P ops Q rest (a.put o.dst v') w') : wpList P ops Q (o :: rest) a w :=
  wpList_plain hgd fun _ hK => wp_append_ownM s x t ho base e i z bytes ht hi hz hsize hby hzs v n xs hs hown ad m c news hx hl hm hnews h1 h63 hbytes hbase fun v' w' h2 h3 h4 => hK _ _ (h v' w' h2 h3 h4)
theorem step_append_ownM {P : Program} {ops : Array Oper} {w : World} {o : Oper} {a : Act} {K : Act → World → Prop} {Q : Exit → Act → World → Prop} {E : Prop} (hgd : o.guard = none) (s x : Operand) (t : TypeId)
    (ho : o.op = .call { callee := .builtin .append, args := #[s, x], argTypes := #[t, t] })
    (base : Nat) (e : TypeId) (i : TypeInfo) (z : Value) (bytes : Nat) (ht : P.underlying t = some (.slice e)) (hi : P.info? e = some i) (hz : i.zero = some z)
    (hsize : i.size = 1) (hby : i.bytes = bytes) (hzs : z.cells.size = 1)
    (v : Value) (n : Nat) (xs : List Value) (hs : a.eval s = v) (hown : OwnM w base e v n xs)
    (ad : Addr) (m c : Nat) (news : List Value) (hx : a.eval x = .slice (some ad) m c) (hl : news.length = m) (hm : 0 < m) (hnews : ∀ j u, news[j]? = some u → w.cell? (ad.add j) = some u) (h1 : ∀ u ∈ news, u.oneCell' = true)
    (h63 : n + m ≤ maxLen) (hbytes : (n + m) * bytes ≤ 140737488355328) (hbase : base ≤ w.heap.size)
    (h : ∀ v' w', w'.ownsRow base e 1 v' (n + m) (xs ++ news) → w.grownBy w' v.ownBlock → Below base w w' → K (a.put o.dst v') w') :
    if Region.wanted o (yielded ops a.tmps) = true then Oper.wp P o a w K Q else E := by
  rw [if_pos (by simp [Region.wanted, hgd])]
  exact wp_append_ownM s x t ho base e i z bytes ht hi hz hsize hby hzs v n xs hs hown ad m c news hx hl hm hnews h1 h63 hbytes hbase h
end Go.Proofs.YtmfhpddeclggfaaGreatDoor
namespace Go.Proofs.YtmfhpddeclggfaaGreatDoor
open Go.RowKit
theorem OwnM.read {w : World} {base : Nat} {e : TypeId} {v : Value} {n : Nat} {xs : List Value} (h : OwnM w base e v n xs) :
    xs.length = n ∧ ((v = .slice none 0 0 ∧ n = 0 ∧ xs = []) ∨ ∃ (g cap : Nat), v = .slice (some ⟨g, 0, none⟩) n cap ∧ base ≤ g ∧ ∀ j u, xs[j]? = some u → w.cell? ⟨g, j, none⟩ = some u) := by
  rcases h with ⟨h1, h2 | ⟨g, cap, cur, rfl, hg, hb, hn, hc, hs, ht⟩⟩ | ⟨g, fz, rfl, hg, hb, hl⟩
  · obtain ⟨rfl, rfl⟩ := h2
    exact ⟨by simpa using h1, Or.inl ⟨rfl, rfl, List.eq_nil_of_length_eq_zero (by simpa using h1)⟩⟩
  · refine ⟨by simpa using h1, Or.inr ⟨g, cap, rfl, hg, fun j u hu => ?_⟩⟩
    unfold World.cell?
    rw [hb]
    rw [← ht] at hu
    rw [List.getElem?_take] at hu
    split at hu
    · simpa using hu
    · cases hu
  · refine ⟨hl, Or.inr ⟨g, n, rfl, hg, fun j u hu => ?_⟩⟩
    unfold World.cell?
    rw [hb]
    simpa using hu
theorem strOfNums_bytes (l : List UInt8) : strOfNums (l.map fun b => (b.toNat : Int)) = bs l := by
  apply ByteArray.ext
  rw [← Array.toList_inj]
  rw [strOfNums_data]
  simp only [bs, List.map_map]
  induction l with
  | nil => rfl
  | cons c r ih => simp at ih ⊢; exact ih
/-- 'string(b)' of such a slice of bytes. -/
theorem OwnM.str {P : Program} {w : World} {base : Nat} {e : TypeId} {v : Value} {n : Nat} {l : List UInt8} (h : OwnM w base e v n (Lib.byteCells l)) (src dst : TypeId) (hs : P.underlying src = some (.slice e)) (he : P.underlying e = some (.int .u8)) (hd : P.underlying dst = some .string) :
    (convert src dst v).run P w = .ok (.string (bs l)) w := by
  obtain ⟨hl, h | ⟨g, cap, rfl, hg, hc⟩⟩ := h.read
  · obtain ⟨rfl, rfl, hx⟩ := h
    have : l = [] := by simpa [Lib.byteCells] using hx
    subst this
    exact run_convert_bytes_nil w src e hs he 0 0 dst hd
  · have := run_convert_bytes_arg w src e hs he g 0 n cap (l.map fun b => (b.toNat : Int)) (by simpa [Lib.byteCells] using hl) (fun i hi => by
      rw [Nat.zero_add]
      apply hc
      have hi' : i < l.length := by rw [Lib.byteCells_length] at hl; omega
      simp [Lib.byteCells, List.getD, List.getElem?_eq_getElem hi']) dst hd
    rw [this, strOfNums_bytes]
theorem cells_new (w : World) (C : Array Value) (e : TypeId) : ∀ j u, C.toList[j]? = some u → (w.alloc (.cells C e)).cell? ((⟨w.heap.size, 0, none⟩ : Addr).add j) = some u := by
  intro j u hu
  rw [show (⟨w.heap.size, 0, none⟩ : Addr).add j = ⟨w.heap.size, j, none⟩ from by simp [Addr.add]; omega]
  have : (w.alloc (.cells C e)).heap[w.heap.size]? = some (.cells C e) := by
    show (w.heap.push (.cells C e))[w.heap.size]? = _
    simp
  unfold World.cell?
  rw [this]
  simpa using hu
theorem cells_new_drew (w : World) (C : Array Value) (e : TypeId) : ∀ j u, C.toList[j]? = some u → (w.alloc (.cells C e)).drew.cell? ((⟨w.heap.size, 0, none⟩ : Addr).add j) = some u :=
  cells_new w C e
theorem and15_fin : ∀ c : Fin 256, bits .and .u8 ((c.val : Nat) : Int) 15 = ((c.val % 16 : Nat) : Int) := by decide +kernel
theorem and15 (c : UInt8) : bits .and .u8 (c.toNat : Int) 15 = ((c.toNat % 16 : Nat) : Int) := and15_fin ⟨c.toNat, c.toNat_lt⟩
def hexs : ByteArray := ⟨#[48, 49, 50, 51, 52, 53, 54, 55, 56, 57, 97, 98, 99, 100, 101, 102]⟩
theorem hexs_size : hexs.size = 16 := by decide
theorem info5 : (Tryz.prog.info? 5).map (fun i => (i.zero, i.size, i.bytes)) = some (some (.int .u8 0), 1, 1) := by kernel_rfl
/-- A digit of 0123456789abcdef. -/
def hx (d : Nat) : UInt8 := hexs.data.toList.getD d 0
theorem hexs_at (z : Int) (d : Nat) (hz : z = d) (hd : d < 16) (h : z.toNat < hexs.size) : hexs[z.toNat] = hx d := by
  subst hz
  simp only [Int.toNat_natCast]
  have : hexs[d] = hexs.data.toList[d]'(by have := hexs_size; simpa using (by omega : d < hexs.size)) := rfl
  simp only [Int.toNat_natCast] at h
  unfold hx
  rw [List.getD, List.getElem?_eq_getElem (by simpa using h)]
  rfl
def txt (l : List UInt8) : List UInt8 := 61 :: l.flatMap fun c => [hx (c.toNat / 16), hx (c.toNat % 16)]
theorem txt_snoc (l : List UInt8) (c : UInt8) : txt (l ++ [c]) = txt l ++ [hx (c.toNat / 16), hx (c.toNat % 16)] := by simp [txt]
theorem txt_length (l : List UInt8) : (txt l).length = 1 + 2 * l.length := by
  induction l with
  | nil => rfl
  | cons c r ih => simp [txt] at ih ⊢; omega
theorem take_snoc (s : ByteArray) (k : Nat) (h : k < s.size) : s.data.toList.take (k + 1) = s.data.toList.take k ++ [s[k]] := by
  rw [List.take_succ_eq_append_getElem (by simpa using h)]; rfl
theorem txt_step (s : ByteArray) (k : Nat) (h : k < s.size) (X Y : UInt8) (hX : X = hx (s[k].toNat / 16)) (hY : Y = hx (s[k].toNat % 16)) :
    Lib.byteCells (txt (s.data.toList.take k)) ++ [.int .u8 X.toNat, .int .u8 Y.toNat] = Lib.byteCells (txt (s.data.toList.take (k + 1))) := by
  rw [take_snoc s k h, txt_snoc, Lib.byteCells_append, hX, hY]; rfl
end Go.Proofs.YtmfhpddeclggfaaGreatDoor
namespace Go.Proofs.YtmfhpddeclggfaaGreatDoor
open Go.RowKit
def txRes (s : ByteArray) : Value := if 50 < s.size then .tuple #[.string ⟨#[]⟩, .int .i64 2] else .tuple #[.string (bs (txt s.data.toList)), .int .i64 0]
set_option maxRecDepth 100000 in
set_option maxHeartbeats 1000000 in
theorem sText (s : ByteArray) (w : World) :
    Calls Tryz.prog 22 #[.string s] w fun e w' => e = .returned (txRes s) ∧ Below w.heap.size w w' := by
  by_cases h50 : 50 < s.size
  · go_enter Tryz.func22, Tryz.ntmps22
    go_wp2
    go_ret2
    exact ⟨by unfold txRes; rw [if_pos h50]; rfl, Below.refl _ _⟩
  · have kc := fun (w : World) (C : Array Value) (n c : Nat) => Lib.run_convert_bytes_const (P := Tryz.prog) w 106 5 C n c Tryz.underlying106 Tryz.underlying5
    have h50' : s.size ≤ 50 := by omega
    have HR : Hid (txRes s = .tuple #[.string (bs (txt s.data.toList)), .int .i64 0]) := by unfold Hid txRes; rw [if_neg h50]
    clear h50
    obtain ⟨i0, hi, hz0, hz1, hz2⟩ := info_parts info5
    have HI := Lib.hid (And.intro hi (And.intro hz0 (And.intro hz1 hz2)))
    clear hi hz0 hz1 hz2
    go_enter Tryz.func22, Tryz.ntmps22
    go_wp2
    clear kc
    go_loopw [4, 13] (fun v i wr => ∃ (k : Nat), k ≤ s.size ∧ i = .int .i64 k ∧ Hid (OwnM wr w.heap.size 5 v (1 + 2 * k) (Lib.byteCells (txt (s.data.toList.take k)))) ∧ Hid (Below w.heap.size w wr)) (fun _ i _ => s.size - (intOf i).toNat)
    case atStart =>
      refine ⟨0, Nat.zero_le _, rfl, Or.inr ⟨w.heap.size, (1, 2), rfl, Nat.le_refl _, ?_, rfl⟩, below_alloc1 _ _⟩
      show (w.heap.push _)[w.heap.size]? = _
      simp
      rfl
    case round =>
      obtain ⟨k, hk, rfl, ho, hb⟩ := hrel
      by_cases hlt : k < s.size
      · have lt := s[k].toNat_lt
        have d1 : (0 : Int) ≤ (s[k].toNat : Int) / 16 := by omega
        have d2 : (s[k].toNat : Int) / 16 < 16 := by omega
        have d3 : (0 : Int) ≤ bits .and .u8 (s[k].toNat : Int) 15 := by rw [and15]; omega
        have d4 : bits .and .u8 (s[k].toNat : Int) 15 < 16 := by rw [and15]; omega
        have T1 := Lib.hid (hexs_at ((s[k].toNat : Int) / 16) (s[k].toNat / 16) (by omega) (by omega) (by rw [hexs_size]; omega))
        have T2 := Lib.hid (hexs_at (bits .and .u8 (s[k].toNat : Int) 15) (s[k].toNat % 16) (by rw [and15]) (by omega) (by rw [hexs_size]; omega))
        clear lt
        go_wp2_with fail
        go_region_law (refine step_append_ownM rfl (.tmp 16) (.tmp 27) 106 rfl w.heap.size 5 i0 (.int .u8 0) 1 Tryz.underlying106 HI.out.1 HI.out.2.1 HI.out.2.2.1 HI.out.2.2.2 rfl u4 (1 + 2 * k) _ rfl (ho.out.alloc _).drew ⟨wr.heap.size, 0, none⟩ 2 2 _ rfl rfl (by decide) (cells_new_drew _ _ _) (by simp [Value.oneCell']) (by unfold maxLen; omega) (by omega) (by have := hb.out.size; simp; omega) ?_; intro v' w1 h1 h2 h3)
        all_goals
          have H1 := Lib.hid h1
          have H3 := Lib.hid h3
          clear h1 h2 h3
          go_wp2
          go_roundw
          case rel =>
            refine ⟨k + 1, by omega, by go_num, OwnM.own ?_, (hb.out.trans ((below_alloc1 _ _).mono hb.out.size).drew).trans H3.out⟩
            have := H1.out
            rw [show 1 + 2 * (k + 1) = 1 + 2 * k + 2 from by omega, ← txt_step s k hlt _ _ T1.out T2.out]
            exact this
          case measure => simp [intOf]; omega
      · obtain rfl : k = s.size := by omega
        have hc := ho.out.str (P := Tryz.prog) 106 9 Tryz.underlying106 Tryz.underlying5 Tryz.underlying9
        rw [List.take_of_length_le (by simp)] at hc
        go_wp2
        go_ret2
        exact ⟨by rw [HR.out]; rfl, hb.out⟩
end Go.Proofs.YtmfhpddeclggfaaGreatDoor
namespace Go.Proofs.YtmfhpddeclggfaaGreatDoor
open Go.RowKit
theorem hex_ext (d : Nat) (hd : d < 16) : hexs.extract d (d + 1) = bs [hx d] := by
  have : ∀ d : Fin 16, hexs.extract d.val (d.val + 1) = bs [hx d.val] := by decide +kernel
  exact this ⟨d, hd⟩
set_option maxRecDepth 100000 in
set_option maxHeartbeats 400000 in
theorem hex_any (z : Int) (d : Nat) (w : World) (hz : z = d) (hd : d < 16) :
    Calls Tryz.prog 78 #[.int .i64 z] w fun e w' => e = .returned (.string (bs [hx d])) ∧ w' = w := by
  subst hz
  have HE := Lib.hid (hex_ext d hd)
  go_enter Tryz.func78, Tryz.ntmps78
  go_wp2
  go_ret
  exact ⟨ret_str HE.out, rfl⟩
theorem hexN (d : Nat) (w : World) (hd : d < 16) : Calls Tryz.prog 78 #[.int .i64 (d : Int)] w fun e w' => e = .returned (.string (bs [hx d])) ∧ w' = w := hex_any _ d w rfl hd
def wdRes (o : Option (List UInt8)) (e : Int) : Value := match o with
  | some l => .agg #[.string (bs l), .int .i64 0]
  | none => .agg #[.string ⟨#[]⟩, .int .i64 e]
set_option maxRecDepth 100000 in
set_option maxHeartbeats 1000000 in
theorem rText (s : ByteArray) (w : World) :
    Calls Tryz.prog 23 #[.string s] w fun e w' => e = .returned (wdRes (if 50 < s.size then none else some (txt s.data.toList)) 2) ∧ Below w.heap.size w w' := by
  by_cases h50 : 50 < s.size
  · go_enter Tryz.func23, Tryz.ntmps23
    go_wp2
    refine bodyPost_ret (v := .agg #[.string ⟨#[]⟩, .int .i64 2]) (by simp [results, Tryz.results23, go_sem]) rfl ⟨rfl, below_alloc1 _ _⟩
  · have h50' : s.size ≤ 50 := by omega

    clear h50
    go_enter Tryz.func23, Tryz.ntmps23
    go_wp2
    go_loopw [3, 4] (fun v i wr => ∃ (k : Nat), k ≤ s.size ∧ i = .int .i64 k ∧ v = .string (bs (txt (s.data.toList.take k))) ∧ Hid (∃ n, wr = (w.alloc (.cells #[.string ⟨#[]⟩, .int .i64 0] 32)).drewN n)) (fun _ i _ => s.size - (intOf i).toNat)
    case atStart => exact ⟨0, Nat.zero_le _, rfl, rfl, 0, rfl⟩
    case round =>
      obtain ⟨k, hk, rfl, rfl, hw⟩ := hrel
      by_cases hlt : k < s.size
      · have hl : (bs (txt (s.data.toList.take k))).size ≤ 1000 := by rw [bs_size, txt_length]; simp; omega
        have hl1 : ∀ d, (bs [hx d]).size ≤ 1 := fun d => Nat.le_refl _
        have lt := s[k].toNat_lt
        have b1 : s[k].toNat / 16 < 16 := by omega
        have b2 : s[k].toNat % 16 < 16 := by omega
        have q0 : IntKind.i64.wrap (s[k].toNat : Int) = s[k].toNat := IntWalk.i64_in _ (by omega)
        have q1 : IntKind.i64.wrap ((s[k].toNat : Int) / 16) = (s[k].toNat : Int) / 16 := IntWalk.i64_in _ (by omega)
        have e1 : (s[k].toNat : Int) / 16 = ((s[k].toNat / 16 : Nat) : Int) := by omega
        have e2 : (s[k].toNat : Int) % 16 = ((s[k].toNat % 16 : Nat) : Int) := by omega
        have E1 := Lib.hid e1
        have E2 := Lib.hid e2
        clear e1 e2
        clear lt
        have f1 : ¬ (9223372036854775807 < (bs (txt (s.data.toList.take k))).size + (bs [hx (s[k].toNat / 16)]).size) := by rw [bs_size [_]]; simp only [List.length_singleton]; omega
        have f2 : ¬ (9223372036854775807 < (bs (txt (s.data.toList.take k))).size + (bs [hx (s[k].toNat / 16)]).size + (bs [hx (s[k].toNat % 16)]).size) := by rw [bs_size [_], bs_size [_]]; simp only [List.length_singleton]; omega
        clear hl hl1
        go_wp2_with fail
        go_quiet ((go_at_call 78; first | (with_reducible exact Calls.quiet_of_same (hex_any ((s[k].toNat : Int) / 16) (s[k].toNat / 16) _ E1.out b1)) | (with_reducible exact Calls.quiet_of_same (hex_any ((s[k].toNat : Int) % 16) (s[k].toNat % 16) _ E2.out b2))))
        go_wp2
        go_roundw
        case rel =>
          refine ⟨k + 1, by omega, by go_num, congrArg Value.string ?_, ?_⟩
          · rw [take_snoc s k hlt, txt_snoc, bs_append, bs_append, List.append_assoc]; rfl
          · obtain ⟨n, rfl⟩ := hw.out
            exact ⟨_, World.drewN_drewN _ _ _⟩
        case measure => simp [intOf]; omega
      · obtain ⟨n, rfl⟩ := hw.out
        obtain rfl : k = s.size := by omega
        go_wp2
        refine bodyPost_ret (v := .agg #[.string (bs (txt (s.data.toList.take s.size))), .int .i64 0]) (by simp [results, Tryz.results23, go_sem]) rfl ⟨?_, ?_⟩
        · rw [List.take_of_length_le (by simp)]; rfl
        · exact ((below_drewN (below_alloc1 _ _) n).setCell (p := ⟨w.heap.size, 0, none⟩) (Nat.le_refl _) _).setCell (p := ⟨w.heap.size, 1, none⟩) (Nat.le_refl _) _
end Go.Proofs.YtmfhpddeclggfaaGreatDoor
namespace Go.Proofs.YtmfhpddeclggfaaGreatDoor
open Go.RowKit
def wb (c : Int) : Bool := decide (33 ≤ c ∧ c ≤ 126 ∧ c ≠ 63 ∧ c ≠ 64)
set_option maxHeartbeats 400000 in
theorem wordByte_any (c : Int) (w : World) :
   Calls Tryz.prog 82 #[.int .u8 c] w fun e w' => e = .returned (.bool (wb c)) ∧ w = w' := by
  go_enter Tryz.func82, Tryz.ntmps82
  go_wp2
  all_goals (go_ret; refine ⟨ret_bool ?_, rfl⟩; unfold wb; rw [Bool.eq_iff_iff]; simp; try omega)
def wordL (l : List UInt8) : Bool := decide (1 ≤ l.length ∧ l.length ≤ 120) && l.all fun c => wb c.toNat
theorem all_snoc (s : ByteArray) (k : Nat) (h : k < s.size) (p : UInt8 → Bool) (ha : (s.data.toList.take k).all p = true) (hp : p s[k] = true) : (s.data.toList.take (k + 1)).all p = true := by
  rw [take_snoc s k h, List.all_append, ha]; simp [hp]
theorem all_not (s : ByteArray) (k : Nat) (h : k < s.size) (p : UInt8 → Bool) (hp : p s[k] = false) : s.data.toList.all p = false := by
  rw [List.all_eq_false]
  exact ⟨s[k], by rw [show s[k] = s.data.toList[k]'(by simpa using h) from rfl]; exact List.getElem_mem _, by simp [hp]⟩
theorem wordL_bad (s : ByteArray) (h : ¬ (1 ≤ s.size ∧ s.size ≤ 120)) : wordL s.data.toList = false := by
  simp [wordL]; omega
theorem wordL_not (s : ByteArray) (k : Nat) (h : k < s.size) (hp : wb s[k].toNat = false) : wordL s.data.toList = false := by
  unfold wordL; rw [all_not s k h (fun c => wb c.toNat) hp]; simp
theorem wordL_yes (s : ByteArray) (h1 : 1 ≤ s.size) (h2 : s.size ≤ 120) (ha : (s.data.toList.take s.size).all (fun c => wb c.toNat) = true) : wordL s.data.toList = true := by
  rw [List.take_of_length_le (by simp)] at ha
  unfold wordL; rw [ha]; simp; omega
set_option maxHeartbeats 400000 in
theorem Word_any (s : ByteArray) (w : World) (hs : s.size ≤ maxLen) :
   Calls Tryz.prog 26 #[.string s] w fun e w' => e = .returned (.bool (wordL s.data.toList)) ∧ w = w' := by
  unfold maxLen at hs
  by_cases h1 : s.size < 1
  · go_enter Tryz.func26, Tryz.ntmps26
    go_wp2
    go_ret
    exact ⟨ret_bool (wordL_bad s (by omega)).symm, rfl⟩
  by_cases h2 : 120 < s.size
  · go_enter Tryz.func26, Tryz.ntmps26
    go_wp2
    go_ret
    exact ⟨ret_bool (wordL_bad s (by omega)).symm, rfl⟩
  · go_enter Tryz.func26, Tryz.ntmps26
    go_wp2_with (go_at_call 82; refine (wordByte_any _ _).mono ?_; rintro e w' ⟨rfl, rfl⟩)
    go_loop [14] (fun i => ∃ k : Nat, k ≤ s.size ∧ i = .int .i64 k ∧ Hid ((s.data.toList.take k).all (fun c => wb c.toNat) = true)) (fun i => s.size - (intOf i).toNat)
    case atStart => exact ⟨0, Nat.zero_le _, rfl, by simp [Hid]⟩
    case round =>
      obtain ⟨k, hk, rfl, hall⟩ := hrel
      by_cases hlt : k < s.size
      · go_wp2_with (go_at_call 82; refine (wordByte_any _ _).mono ?_; rintro e w' ⟨rfl, rfl⟩)
        · go_ret
          have hb : (!wb s[k].toNat) = true := by assumption
          exact ⟨ret_bool (wordL_not s k hlt (by simpa using hb)).symm, rfl⟩
        · have hb : (!wb s[k].toNat) = false := by assumption
          go_round
          case rel => exact ⟨k + 1, by omega, by go_num, all_snoc s k hlt _ hall (by simpa using hb)⟩
          case measure => simp [intOf]; omega
      · go_wp2
        go_ret
        obtain rfl : k = s.size := by omega
        exact ⟨ret_bool (wordL_yes s (by omega) (by omega) hall).symm, rfl⟩

theorem wb_byte (c : UInt8) : wb c.toNat = decide (33 ≤ c.toNat ∧ c.toNat ≤ 126 ∧ c.toNat ≠ 63 ∧ c.toNat ≠ 64) := by
  unfold wb; rw [Bool.eq_iff_iff]; simp; omega
set_option maxRecDepth 100000 in
set_option maxHeartbeats 400000 in
theorem rWord (s : ByteArray) (w : World) (hs : s.size ≤ maxLen) :
   Calls Tryz.prog 27 #[.string s] w fun e w' => e = .returned (.bool (wordL s.data.toList)) ∧ w = w' := by
  unfold maxLen at hs
  by_cases h12 : 1 ≤ s.size ∧ s.size ≤ 120
  · obtain ⟨h1, h2⟩ := h12
    clear hs
    go_enter Tryz.func27, Tryz.ntmps27
    go_wp2_with (go_at_call 77; refine (in_yes _ _ _ _ (by omega) (by omega)).mono ?_; rintro e w' ⟨rfl, rfl⟩)
    go_loop [3] (fun i => ∃ k : Nat, k ≤ s.size ∧ i = .int .i64 k ∧ Hid ((s.data.toList.take k).all (fun c => wb c.toNat) = true)) (fun i => s.size - (intOf i).toNat)
    case atStart => exact ⟨0, Nat.zero_le _, rfl, by simp [Hid]⟩
    case round =>
      obtain ⟨k, hk, rfl, hall⟩ := hrel
      by_cases hlt : k < s.size
      · have q0 : wrap64 (s[k].toNat : Int) = s[k].toNat := wrap_byte _
        go_wp2_with (go_at_call 77; refine (in_any _ _ _ _).mono ?_; rintro e w' ⟨rfl, rfl⟩)
        · go_ret
          refine ⟨ret_bool (wordL_not s k hlt ?_).symm, rfl⟩
          have h : (s[k].toNat : Int) = 63 := by assumption
          rw [h]; rfl
        · go_ret
          refine ⟨ret_bool (wordL_not s k hlt ?_).symm, rfl⟩
          have h : ((s[k].toNat : Int) == 63) = true ∨ ((s[k].toNat : Int) == 64) = true := by assumption
          unfold wb
          simp at h
          simp
          omega
        · have h : ((s[k].toNat : Int) == 63) = false ∧ ((s[k].toNat : Int) == 64) = false := by assumption
          have h2 : 33 ≤ (s[k].toNat : Int) ∧ (s[k].toNat : Int) ≤ 126 := by assumption
          have hb : wb s[k].toNat = true := by
            unfold wb
            simp at h
            simp
            omega
          go_round
          case rel => exact ⟨k + 1, by omega, by go_num, all_snoc s k hlt _ hall hb⟩
          case measure => simp [intOf]; omega
        · go_ret
          refine ⟨ret_bool (wordL_not s k hlt ?_).symm, rfl⟩
          have h : ¬(33 ≤ (s[k].toNat : Int) ∧ (s[k].toNat : Int) ≤ 126) := by assumption
          unfold wb
          simp
          omega
      · go_wp2
        go_ret
        obtain rfl : k = s.size := by omega
        exact ⟨ret_bool (wordL_yes s (by omega) (by omega) hall).symm, rfl⟩
  · go_enter Tryz.func27, Tryz.ntmps27
    go_wp2_with (go_at_call 77; refine (in_no _ _ _ _ (by omega)).mono ?_; rintro e w' ⟨rfl, rfl⟩)
    go_ret
    exact ⟨ret_bool (wordL_bad s h12).symm, rfl⟩
end Go.Proofs.YtmfhpddeclggfaaGreatDoor
namespace Go.Proofs.YtmfhpddeclggfaaGreatDoor
open Go.RowKit
/-- The number of a digit of 0123456789abcdef; -1 if it is none. -/
def dgI (c : UInt8) : Int := Lib.indexByte hexs.data.toList c
theorem dgI_fin : ∀ c : Fin 256, dgI (UInt8.ofNat c.val) = -1 ∨ (0 ≤ dgI (UInt8.ofNat c.val) ∧ dgI (UInt8.ofNat c.val) < 16 ∧ hx (dgI (UInt8.ofNat c.val)).toNat = UInt8.ofNat c.val) := by decide +kernel
theorem dgI_cases (c : UInt8) : dgI c = -1 ∨ (0 ≤ dgI c ∧ dgI c < 16 ∧ hx (dgI c).toNat = c) := by
  have := dgI_fin ⟨c.toNat, c.toNat_lt⟩
  simpa using this
theorem dgI_hx_fin : ∀ k : Fin 16, dgI (hx k.val) = k.val := by decide +kernel
theorem dgI_hx (k : Nat) (h : k < 16) : dgI (hx k) = k := dgI_hx_fin ⟨k, h⟩
theorem enc_eq_fin : ∀ k : Fin 16, ∀ c : Fin 256, (bs [hx k.val]).data.toList = (Utf8.encode ((c.val : Nat) : Int)).data.toList ↔ hx k.val = UInt8.ofNat c.val := by decide +kernel
theorem enc_eq (k : Nat) (h : k < 16) (c : UInt8) : (bs [hx k]).data.toList = (Utf8.encode (c.toNat : Int)).data.toList ↔ hx k = c := by
  have := enc_eq_fin ⟨k, h⟩ ⟨c.toNat, c.toNat_lt⟩
  simpa using this
set_option maxRecDepth 100000 in
set_option maxHeartbeats 400000 in
theorem digit_any (c : UInt8) (z : Int) (hz : z = c.toNat) (w : World) :
    Calls Tryz.prog 81 #[.int .u8 z] w fun e w' => e = .returned (.int .i64 (dgI c)) ∧ w' = w := by
  subst hz
  go_enter Tryz.func81, Tryz.ntmps81
  go_wp2
  go_loop [3] (fun i => ∃ k : Nat, k ≤ 16 ∧ i = .int .i64 k ∧ Hid (∀ j, j < k → hx j ≠ c)) (fun i => 16 - (intOf i).toNat)
  case atStart => exact ⟨0, Nat.zero_le _, rfl, by intro j hj; omega⟩
  case round =>
    obtain ⟨k, hk, rfl, hno⟩ := hrel
    have q0 : wrap32 (c.toNat : Int) = c.toNat := by have := c.toNat_lt; unfold wrap32; omega
    by_cases hlt : k < 16
    · by_cases he : hx k = c
      · have e2 : ((bs [hx k]).toList == (Utf8.encode (c.toNat : Int)).toList) = true := str_beq_true ((enc_eq k hlt c).2 he)
        have HE := Lib.hid he
        clear he
        go_wp2_with (go_at_call 78; refine (hex_any _ k _ rfl hlt).mono ?_; rintro e w' ⟨rfl, rfl⟩)
        go_ret
        exact ⟨ret_int (by rw [← HE.out, dgI_hx k hlt]), rfl⟩
      · have e2 : ((bs [hx k]).toList == (Utf8.encode (c.toNat : Int)).toList) = false := str_beq_false (fun e => he ((enc_eq k hlt c).1 e))
        have HE := Lib.hid he
        clear he
        go_wp2_with (go_at_call 78; refine (hex_any _ k _ rfl hlt).mono ?_; rintro e w' ⟨rfl, rfl⟩)
        go_round
        case rel =>
          refine ⟨k + 1, by omega, by go_num, fun j hj => ?_⟩
          by_cases e : j = k
          · rw [e]; exact HE.out
          · exact hno.out j (by omega)
        case measure => simp [intOf]; omega
    · obtain rfl : k = 16 := by omega
      go_wp2
      go_ret
      refine ⟨ret_int ?_, rfl⟩
      rcases dgI_cases c with h | ⟨h0, h1, h2⟩
      · exact h.symm
      · exact absurd h2 (hno.out _ (by omega))
end Go.Proofs.YtmfhpddeclggfaaGreatDoor
