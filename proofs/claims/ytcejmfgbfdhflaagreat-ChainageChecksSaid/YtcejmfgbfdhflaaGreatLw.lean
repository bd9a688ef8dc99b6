import Derived.Test.YtcejmfgbfdhflaaGreatSp
import Derived.WalkKit
import Derived.LoopTactic
import Derived.WalkSpells
import Derived.WalkLawsBesides
import Derived.Lib.Hide
import Derived.BigQuiet
import Derived.IntWalk
import Derived.Deep.DeepMust
import Derived.WalkSmall
import Derived.StillTailTactics
import Derived.Deep.RegionLaw
import Derived.Deep.RegionHeld3
import Derived.Deep.QuietTactic
namespace Go.Proofs.YtcejmfgbfdhflaaGreat
open Go.RowKit Go.BigFrame Go.Sort
attribute [local go_sem] World.cell?_alloc_some
/-- A list of numbers lies at a slice. -/
def IntsAt (W : World) (q : Option Addr) (l : List Int) : Prop := l = [] ∨ ∃ b o, q = some ⟨b, o, none⟩ ∧ b < W.heap.size ∧ ∀ j x, l[j]? = some x → W.cell? ⟨b, o + j, none⟩ = some (.int .i64 x)
theorem IntsAt.keep {W W' : World} {q : Option Addr} {l : List Int} (h : IntsAt W q l) (hb : Below W.heap.size W W') : IntsAt W' q l := by
  rcases h with h | ⟨b, o, h1, h2, h3⟩
  · exact .inl h
  · exact .inr ⟨b, o, h1, Nat.lt_of_lt_of_le h2 hb.size, fun j x hj => (hb.cell (p := ⟨b, o + j, none⟩) h2).trans (h3 j x hj)⟩
theorem take_snocG {α : Type} (l : List α) (k : Nat) (h : k < l.length) : l.take (k + 1) = l.take k ++ [l[k]] := by
  rw [List.take_succ_eq_append_getElem h]
def mxs (a : Int) (l : List Int) : Int := l.foldl (fun x y => max x y) a
def mns (a : Int) (l : List Int) : Int := l.foldl (fun x y => min x y) a
theorem mxs_snoc (a : Int) (l : List Int) (x : Int) : mxs a (l ++ [x]) = max (mxs a l) x := by simp [mxs]
theorem mns_snoc (a : Int) (l : List Int) (x : Int) : mns a (l ++ [x]) = min (mns a l) x := by simp [mns]
theorem ifmax (a b : Int) : (if a < b then b else a) = max a b := by split <;> omega
theorem ifmin (a b : Int) : (if b < a then b else a) = min a b := by split <;> omega
set_option maxRecDepth 100000 in
set_option maxHeartbeats 1600000 in
theorem greatest_any (a : Int) (q : Option Addr) (cap : Nat) (l : List Int) (w : World) (hl : l.length ≤ 1000000) (h : IntsAt w q l) :
    Calls Tryz.prog 180 #[.int .i64 a, .slice q l.length cap] w fun e w' => e = .returned (.int .i64 (mxs a l)) ∧ w = w' := by
  have H := Lib.hid h
  clear h
  go_enter Tryz.func180, Tryz.ntmps180
  go_wp2_with fail
  go_loop [5, 11] (fun v i => ∃ k : Nat, k ≤ l.length ∧ i = .int .i64 (k : Int) ∧ v = .int .i64 (mxs a (l.take k))) (fun _ i => l.length - (intOf i).toNat)
  case atStart => exact ⟨0, Nat.zero_le _, rfl, rfl⟩
  case round =>
    obtain ⟨k, hk, rfl, rfl⟩ := hrel
    by_cases hlt : k < l.length
    · rcases H.out with rfl | ⟨b, o, rfl, hb, hc⟩
      · exact absurd hlt (Nat.not_lt_zero _)
      · have c1 := hc k l[k] (List.getElem?_eq_getElem hlt)
        have HN : Hid (mxs a (l.take (k + 1)) = max (mxs a (l.take k)) l[k]) := by unfold Hid; rw [take_snocG l k hlt, mxs_snoc]
        obtain ⟨x, hx⟩ : ∃ x, l[k] = x := ⟨_, rfl⟩
        obtain ⟨m, hm⟩ : ∃ m, mxs a (l.take k) = m := ⟨_, rfl⟩
        rw [hx] at c1 HN
        rw [hm] at HN ⊢
        have hlt' : (k : Int) < (l.length : Int) := by omega
        clear hx hm hc
        go_wp2_with fail
        all_goals
          go_round
          case rel => exact ⟨k + 1, hlt, by go_num, by rw [HN.out, ← ifmax]⟩
          case measure => simp [intOf]; omega
    · obtain rfl : k = l.length := by omega
      go_wp2_with fail
      go_ret
      exact ⟨ret_int (by first | rfl | simp), rfl⟩
set_option maxRecDepth 100000 in
set_option maxHeartbeats 1600000 in
theorem least_any (a : Int) (q : Option Addr) (cap : Nat) (l : List Int) (w : World) (hl : l.length ≤ 1000000) (h : IntsAt w q l) :
    Calls Tryz.prog 182 #[.int .i64 a, .slice q l.length cap] w fun e w' => e = .returned (.int .i64 (mns a l)) ∧ w = w' := by
  have H := Lib.hid h
  clear h
  go_enter Tryz.func182, Tryz.ntmps182
  go_wp2_with fail
  go_loop [5, 11] (fun v i => ∃ k : Nat, k ≤ l.length ∧ i = .int .i64 (k : Int) ∧ v = .int .i64 (mns a (l.take k))) (fun _ i => l.length - (intOf i).toNat)
  case atStart => exact ⟨0, Nat.zero_le _, rfl, rfl⟩
  case round =>
    obtain ⟨k, hk, rfl, rfl⟩ := hrel
    by_cases hlt : k < l.length
    · rcases H.out with rfl | ⟨b, o, rfl, hb, hc⟩
      · exact absurd hlt (Nat.not_lt_zero _)
      · have c1 := hc k l[k] (List.getElem?_eq_getElem hlt)
        have HN : Hid (mns a (l.take (k + 1)) = min (mns a (l.take k)) l[k]) := by unfold Hid; rw [take_snocG l k hlt, mns_snoc]
        obtain ⟨x, hx⟩ : ∃ x, l[k] = x := ⟨_, rfl⟩
        obtain ⟨m, hm⟩ : ∃ m, mns a (l.take k) = m := ⟨_, rfl⟩
        rw [hx] at c1 HN
        rw [hm] at HN ⊢
        have hlt' : (k : Int) < (l.length : Int) := by omega
        clear hx hm hc
        go_wp2_with fail
        all_goals
          go_round
          case rel => exact ⟨k + 1, hlt, by go_num, by rw [HN.out, ← ifmin]⟩
          case measure => simp [intOf]; omega
    · obtain rfl : k = l.length := by omega
      go_wp2_with fail
      go_ret
      exact ⟨ret_int (by first | rfl | simp), rfl⟩

theorem ownsRow_keep {W W' : World} {B : Nat} {e : TypeId} {k n : Nat} {v : Value} {xs : List Value} (h : W.ownsRow B e k v n xs) (hb : Below W.heap.size W W') : W'.ownsRow B e k v n xs := by
  obtain ⟨h1, h2 | ⟨g, cap, cur, rfl, hg, hc, h3, h4, h5, h6⟩⟩ := h
  · exact ⟨h1, .inl h2⟩
  · exact ⟨h1, .inr ⟨g, cap, cur, rfl, hg, by rw [hb.block g (Array.getElem?_eq_some_iff.1 hc).1]; exact hc, h3, h4, h5, h6⟩⟩
theorem Cs.grown {W W' : World} {row : Option Nat} (hg : W.grownBy W' row) : ∀ {L : List (Nat × Nat × Value)}, (∀ x ∈ L, some x.1 ≠ row) → Cs W L → Cs W' L
  | [], _, _ => trivial
  | (b, o, v) :: L, hf, h => ⟨⟨Nat.lt_of_lt_of_le h.1.1 hg.size, by rw [World.cell?_of_block (a := ⟨b, o, none⟩) (hg.block b h.1.1 (hf _ List.mem_cons_self))]; exact h.1.2.1, by rw [World.frozen?_of_block (a := ⟨b, o, none⟩) (hg.block b h.1.1 (hf _ List.mem_cons_self))]; exact h.1.2.2⟩,
      Cs.grown hg (fun x hx => hf x (List.mem_cons_of_mem _ hx)) h.2⟩
theorem ownBlock_lo {W : World} {B : Nat} {e : TypeId} {k n : Nat} {v : Value} {xs : List Value} (h : W.ownsRow B e k v n xs) {r : Nat} (hr : v.ownBlock = some r) : B ≤ r := by
  obtain ⟨_, ⟨rfl, _⟩ | ⟨g, cap, cur, rfl, hg, _⟩⟩ := h
  · simp [Value.ownBlock] at hr
  · simp only [Value.ownBlock, Option.some.injEq] at hr; omega
/-- What lies there stays when a row of the call's own has grown. -/
theorem St.grown {w W W' : World} {L : List (Nat × Nat × Value)} {B : Nat} {e : TypeId} {k n : Nat} {v : Value} {xs : List Value} (h : St w W L) (ho : W.ownsRow B e k v n xs) (hg : W.grownBy W' v.ownBlock) (hw : w.heap.size ≤ B) (hL : ∀ x ∈ L, x.1 < B) : St w W' L := by
  refine ⟨?_, h.c.grown hg (fun x hx e => ?_)⟩
  · refine h.b.trans ⟨hg.os, hg.tape, hg.output, hg.size, fun k hk => hg.block k (Nat.lt_of_lt_of_le hk h.b.size) (fun e => ?_)⟩
    have := ownBlock_lo ho e.symm
    omega
  · have := ownBlock_lo ho e.symm
    have := hL x hx
    omega
/-- Numbers that the call owns. -/
abbrev OI (W : World) (B : Nat) (v : Value) (l : List Int) : Prop := W.ownsRow B 3 1 v l.length (l.map (Value.int .i64))
theorem OI.ints {W : World} {B : Nat} {v : Value} {l : List Int} (h : OI W B v l) : ∃ q cap, v = .slice q l.length cap ∧ IntsAt W q l ∧ (q = none ↔ v = .slice none 0 0) := by
  obtain ⟨h1, ⟨rfl, h2⟩ | ⟨g, cap, cur, rfl, hg, hc, h3, h4, h5, h6⟩⟩ := h
  · exact ⟨none, 0, by rw [h2], .inl (List.length_eq_zero_iff.1 h2), by simp⟩
  · refine ⟨some ⟨g, 0, none⟩, cap, rfl, .inr ⟨g, 0, rfl, (Array.getElem?_eq_some_iff.1 hc).1, fun j x hj => ?_⟩, by simp⟩
    have hlt : j < l.length := (List.getElem?_eq_some_iff.1 hj).1
    have g1 : (l.map (Value.int .i64))[j]? = some (.int .i64 x) := by rw [List.getElem?_map, hj]; rfl
    rw [← h6, List.getElem?_take_of_lt (by omega)] at g1
    rw [Nat.zero_add]
    simpa [World.cell?, hc] using g1
theorem inf3 : (Tryz.prog.info? 3).map (fun i => (i.zero, i.size, i.bytes)) = some (some (.int .i64 0), 1, 8) := by kernel_rfl
/-- One number more. -/
theorem appI {B : Nat} {v : Value} {l : List Int} {W : World} (hP : OI W B v l) (hw : B ≤ W.heap.size) (x : Int) (hl : l.length ≤ 1000000) {ops : Array Oper} {rest : List Oper} {o : Oper} {a : Act} {Q : Exit → Act → World → Prop} (hgd : o.guard = none) (s y : Operand)
    (ho : o.op = .call { callee := .builtin .append, args := #[s, y], argTypes := #[36, 36] }) (hs : a.eval s = v) (hx : a.eval y = .slice (some ⟨W.heap.size, 0, none⟩) 1 1)
    (h : ∀ v' w', OI w' B v' (l ++ [x]) → W.grownBy w' v.ownBlock → wpList Tryz.prog ops Q rest (a.put o.dst v') w') : wpList Tryz.prog ops Q (o :: rest) a (W.alloc (.cells #[.int .i64 x] 3)) := by
  obtain ⟨i0, hi, hz0, hz1, hz2⟩ := info_parts inf3
  refine wpList_append_own _ hgd s y 36 ho B 3 i0 (.int .i64 0) 1 8 Tryz.underlying36 hi hz0 hz1 hz2 rfl (by decide) v l.length (l.map (Value.int .i64)) hs (hP.alloc _) ⟨W.heap.size, 0, none⟩ 1 1 [.int .i64 x] hx rfl ?_ ?_ ?_ ?_ ?_ ?_
  · intro j u hu
    match j, hu with
    | 0, hu =>
      obtain rfl : Value.int .i64 x = u := by simpa using hu
      exact new_at W _ 3 0 _ rfl
  · intro u hu; obtain rfl : u = .int .i64 x := by simpa using hu
    rfl
  · unfold maxLen; omega
  · omega
  · simp; omega
  · intro v' w' ho' hg _
    refine h v' w' ?_ ?_
    · show w'.ownsRow B 3 1 v' (l ++ [x]).length ((l ++ [x]).map (Value.int .i64))
      rw [List.length_append, List.map_append]; exact ho'
    · exact ⟨hg.os, hg.tape, hg.output, by have := hg.size; simp at this; omega, fun k hk hne => (hg.block k (by simp; omega) hne).trans (Below.heap_alloc W _ k hk)⟩
/-- The things of a spell lie at a slice. -/
def ThsAt (W : World) (q : Option Addr) (ts : List Th) : Prop := ts = [] ∨ ∃ b o, q = some ⟨b, o, none⟩ ∧ b < W.heap.size ∧ ∀ j t, ts[j]? = some t → ∃ v, W.cell? ⟨b, o + j, none⟩ = some v ∧ ThAt W v t
theorem ThsAt.keep {W W' : World} {q : Option Addr} {l : List Th} (h : ThsAt W q l) (hb : Below W.heap.size W W') : ThsAt W' q l := by
  rcases h with h | ⟨b, o, h1, h2, h3⟩
  · exact .inl h
  · refine .inr ⟨b, o, h1, Nat.lt_of_lt_of_le h2 hb.size, fun j x hj => ?_⟩
    obtain ⟨v, hv, ht⟩ := h3 j x hj
    exact ⟨v, (hb.cell (p := ⟨b, o + j, none⟩) h2).trans hv, ht.keep hb⟩
def lowS (s : Spl) (y : Int) : Int := mxs 9000 (s.ths.map fun t => lowT s.wear t y)
def highS (s : Spl) (y : Int) : Int := mns 12000 (s.ths.map fun t => highT s.wear t y)
def okS (s : Spl) : Bool := decide (s.ths.length ≤ 1000) && (inB 0 1000 s.wear && s.ths.all okTh)
theorem okS_iff {s : Spl} : okS s = true ↔ s.ths.length ≤ 1000 ∧ (0 ≤ s.wear ∧ s.wear ≤ 1000) ∧ ∀ t ∈ s.ths, okTh t = true := by simp [okS, inB_iff]
abbrev Spl.v (s : Spl) (q : Option Addr) (cap : Nat) : Value := .agg #[.int .i64 s.lo, .int .i64 s.hi, .int .i64 s.wear, .slice q s.ths.length cap]
set_option maxRecDepth 100000 in
set_option maxHeartbeats 3200000 in
theorem low_any (s : Spl) (q : Option Addr) (cap : Nat) (y : Int) (w : World) (hs : okS s = true) (hy : 0 ≤ y ∧ y ≤ 4000) (h : ThsAt w q s.ths) :
    Calls Tryz.prog 123 #[s.v q cap, .int .i64 y] w fun e w' => e = .returned (.int .i64 (lowS s y)) ∧ Below w.heap.size w w' := by
  obtain ⟨s1, s2, s3⟩ := okS_iff.1 hs
  obtain ⟨lo, hi, wear, ths⟩ := s
  simp only [Spl.v] at *
  have H := Lib.hid h
  have H2 := Lib.hid s2
  have H3 := Lib.hid s3
  have HY := Lib.hid hy
  clear h s2 s3 hs hy
  have hl : ths.length ≤ 1000 := s1
  clear s1
  go_enter Tryz.func123, Tryz.ntmps123
  go_wp2_with fail
  obtain ⟨W0, hW0⟩ : ∃ W0, (w).alloc (.cells #[.int .i64 lo, .int .i64 hi, .int .i64 wear, .slice q ths.length cap] 111) = W0 := ⟨_, rfl⟩
  have S0 : St w W0 [(w.heap.size, 0, .int .i64 lo), (w.heap.size, 1, .int .i64 hi), (w.heap.size, 2, .int .i64 wear), (w.heap.size, 3, .slice q ths.length cap)] := by rw [← hW0]; exact ((St.nil w)).box #[.int .i64 lo, .int .i64 hi, .int .i64 wear, .slice q ths.length cap] 111 (w.heap.size) (by simp)
  rw [hW0]
  clear hW0
  obtain ⟨C, hC0, HC, LC, BC, hne⟩ := cls S0
  haveI := hne
  obtain ⟨c0, rfl⟩ : ∃ n : Wd C, W0 = n.w := ⟨⟨_, hC0⟩, rfl⟩
  have fC0 : ∀ n : Wd C, n.w.cell? ⟨w.heap.size, 0, none⟩ = some (.int .i64 lo) := fun n => (LC.out n).1.2.1
  have fC1 : ∀ n : Wd C, n.w.cell? ⟨w.heap.size, 1, none⟩ = some (.int .i64 hi) := fun n => (LC.out n).2.1.2.1
  have fC2 : ∀ n : Wd C, n.w.cell? ⟨w.heap.size, 2, none⟩ = some (.int .i64 wear) := fun n => (LC.out n).2.2.1.2.1
  have fC3 : ∀ n : Wd C, n.w.cell? ⟨w.heap.size, 3, none⟩ = some (.slice q ths.length cap) := fun n => (LC.out n).2.2.2.1.2.1
  clear S0 hC0
  go_wp2_with fail
  go_loopw [5, 11] (fun v i wr => ∃ (k : Nat), St w wr [(w.heap.size, 0, .int .i64 lo), (w.heap.size, 1, .int .i64 hi), (w.heap.size, 2, .int .i64 wear), (w.heap.size, 3, .slice q ths.length cap)] ∧ i = .int .i64 (k : Int) ∧ k ≤ ths.length ∧ OI wr (w.heap.size + 1) v ((ths.take k).map fun t => lowT wear t y)) (fun v i wr => ths.length - (intOf i).toNat)
  case atStart => exact ⟨0, ⟨BC.out _, LC.out _⟩, rfl, Nat.zero_le _, World.ownsRow_nil _ _ _ _⟩
  case round =>
    obtain ⟨k, hS, rfl, hk, hO⟩ := hrel
    have HO := Lib.hid hO
    have HB := Lib.hid hS.b
    clear fC0 fC1 fC2 fC3 hO
    by_cases hlt : k < ths.length
    · rcases H.out with h0 | ⟨b, o, rfl, hb, hc⟩
      · exact absurd hlt (by simp [h0])
      · obtain ⟨tv, htv, hth⟩ := hc k ths[k] (List.getElem?_eq_getElem hlt)
        have c1 := (hS.b.cell (p := ⟨b, o + k, none⟩) hb).trans htv
        have CL := lowBy_any lo hi wear (some ⟨b, o, none⟩) ths.length cap tv ths[k] y wr (H3.out _ (List.getElem_mem hlt)) H2.out HY.out (hth.keep hS.b)
        have HN : Hid ((ths.take (k + 1)).map (fun t => lowT wear t y) = (ths.take k).map (fun t => lowT wear t y) ++ [lowT wear ths[k] y]) := by unfold Hid; rw [take_snocG ths k hlt, List.map_append]; rfl
        obtain ⟨x, hx⟩ : ∃ x, lowT wear ths[k] y = x := ⟨_, rfl⟩
        rw [hx] at CL HN
        have HLn : Hid (((ths.take k).map fun t => lowT wear t y).length ≤ 1000000) := by unfold Hid; simp; omega
        have hlt' : (k : Int) < (ths.length : Int) := by omega
        obtain ⟨f0, f1, f2, f3, -⟩ := hS.c
        obtain ⟨-, f0, -⟩ := f0
        obtain ⟨-, f1, -⟩ := f1
        obtain ⟨-, f2, -⟩ := f2
        obtain ⟨-, f3, -⟩ := f3
        have HS := Lib.hid hS
        have HSz := Lib.hid hS.c.1.1
        clear hx hc htv hth hb hS
        go_wp2_with (first
          | (go_at_call 104; refine CL.mono ?_; rintro e w1 ⟨rfl, hg⟩; have HG := Lib.hid hg.below; clear hg CL)
          | (at_builtin; refine appI (ownsRow_keep HO.out HG.out) (Nat.le_trans (Nat.succ_le_of_lt HSz.out) HG.out.size) x HLn.out rfl _ _ rfl rfl rfl ?_; intro v' w2 hO2 hg2))
        go_roundw
        case rel => exact ⟨k + 1, (HS.out.next HG.out).grown (ownsRow_keep HO.out HG.out) hg2 (Nat.le_succ _) (by simp), by simp, hlt, by rw [HN.out]; exact hO2⟩
        case measure => simp [intOf]; omega
    · obtain rfl : k = ths.length := by omega
      rw [List.take_length] at HO
      obtain ⟨q2, cap2, rfl, hI, -⟩ := OI.ints HO.out
      have CG := greatest_any 9000 q2 cap2 (ths.map fun t => lowT wear t y) wr (by simp; omega) hI
      rw [List.length_map] at CG
      simp only [List.length_map]
      clear hI HO
      go_wp2_with (go_at_call 180; refine CG.mono ?_; rintro e w1 ⟨rfl, rfl⟩)
      go_ret
      exact ⟨rfl, HB.out⟩
set_option maxRecDepth 100000 in
set_option maxHeartbeats 3200000 in
theorem high_any (s : Spl) (q : Option Addr) (cap : Nat) (y : Int) (w : World) (hs : okS s = true) (hy : 0 ≤ y ∧ y ≤ 4000) (h : ThsAt w q s.ths) :
    Calls Tryz.prog 125 #[s.v q cap, .int .i64 y] w fun e w' => e = .returned (.int .i64 (highS s y)) ∧ Below w.heap.size w w' := by
  obtain ⟨s1, s2, s3⟩ := okS_iff.1 hs
  obtain ⟨lo, hi, wear, ths⟩ := s
  simp only [Spl.v] at *
  have H := Lib.hid h
  have H2 := Lib.hid s2
  have H3 := Lib.hid s3
  have HY := Lib.hid hy
  clear h s2 s3 hs hy
  have hl : ths.length ≤ 1000 := s1
  clear s1
  go_enter Tryz.func125, Tryz.ntmps125
  go_wp2_with fail
  obtain ⟨W0, hW0⟩ : ∃ W0, (w).alloc (.cells #[.int .i64 lo, .int .i64 hi, .int .i64 wear, .slice q ths.length cap] 111) = W0 := ⟨_, rfl⟩
  have S0 : St w W0 [(w.heap.size, 0, .int .i64 lo), (w.heap.size, 1, .int .i64 hi), (w.heap.size, 2, .int .i64 wear), (w.heap.size, 3, .slice q ths.length cap)] := by rw [← hW0]; exact ((St.nil w)).box #[.int .i64 lo, .int .i64 hi, .int .i64 wear, .slice q ths.length cap] 111 (w.heap.size) (by simp)
  rw [hW0]
  clear hW0
  obtain ⟨C, hC0, HC, LC, BC, hne⟩ := cls S0
  haveI := hne
  obtain ⟨c0, rfl⟩ : ∃ n : Wd C, W0 = n.w := ⟨⟨_, hC0⟩, rfl⟩
  have fC0 : ∀ n : Wd C, n.w.cell? ⟨w.heap.size, 0, none⟩ = some (.int .i64 lo) := fun n => (LC.out n).1.2.1
  have fC1 : ∀ n : Wd C, n.w.cell? ⟨w.heap.size, 1, none⟩ = some (.int .i64 hi) := fun n => (LC.out n).2.1.2.1
  have fC2 : ∀ n : Wd C, n.w.cell? ⟨w.heap.size, 2, none⟩ = some (.int .i64 wear) := fun n => (LC.out n).2.2.1.2.1
  have fC3 : ∀ n : Wd C, n.w.cell? ⟨w.heap.size, 3, none⟩ = some (.slice q ths.length cap) := fun n => (LC.out n).2.2.2.1.2.1
  clear S0 hC0
  go_wp2_with fail
  go_loopw [5, 11] (fun v i wr => ∃ (k : Nat), St w wr [(w.heap.size, 0, .int .i64 lo), (w.heap.size, 1, .int .i64 hi), (w.heap.size, 2, .int .i64 wear), (w.heap.size, 3, .slice q ths.length cap)] ∧ i = .int .i64 (k : Int) ∧ k ≤ ths.length ∧ OI wr (w.heap.size + 1) v ((ths.take k).map fun t => highT wear t y)) (fun v i wr => ths.length - (intOf i).toNat)
  case atStart => exact ⟨0, ⟨BC.out _, LC.out _⟩, rfl, Nat.zero_le _, World.ownsRow_nil _ _ _ _⟩
  case round =>
    obtain ⟨k, hS, rfl, hk, hO⟩ := hrel
    have HO := Lib.hid hO
    have HB := Lib.hid hS.b
    clear fC0 fC1 fC2 fC3 hO
    by_cases hlt : k < ths.length
    · rcases H.out with h0 | ⟨b, o, rfl, hb, hc⟩
      · exact absurd hlt (by simp [h0])
      · obtain ⟨tv, htv, hth⟩ := hc k ths[k] (List.getElem?_eq_getElem hlt)
        have c1 := (hS.b.cell (p := ⟨b, o + k, none⟩) hb).trans htv
        have CL := highBy_any lo hi wear (some ⟨b, o, none⟩) ths.length cap tv ths[k] y wr (H3.out _ (List.getElem_mem hlt)) H2.out HY.out (hth.keep hS.b)
        have HN : Hid ((ths.take (k + 1)).map (fun t => highT wear t y) = (ths.take k).map (fun t => highT wear t y) ++ [highT wear ths[k] y]) := by unfold Hid; rw [take_snocG ths k hlt, List.map_append]; rfl
        obtain ⟨x, hx⟩ : ∃ x, highT wear ths[k] y = x := ⟨_, rfl⟩
        rw [hx] at CL HN
        have HLn : Hid (((ths.take k).map fun t => highT wear t y).length ≤ 1000000) := by unfold Hid; simp; omega
        have hlt' : (k : Int) < (ths.length : Int) := by omega
        obtain ⟨f0, f1, f2, f3, -⟩ := hS.c
        obtain ⟨-, f0, -⟩ := f0
        obtain ⟨-, f1, -⟩ := f1
        obtain ⟨-, f2, -⟩ := f2
        obtain ⟨-, f3, -⟩ := f3
        have HS := Lib.hid hS
        have HSz := Lib.hid hS.c.1.1
        clear hx hc htv hth hb hS
        go_wp2_with (first
          | (go_at_call 106; refine CL.mono ?_; rintro e w1 ⟨rfl, hg⟩; have HG := Lib.hid hg.below; clear hg CL)
          | (at_builtin; refine appI (ownsRow_keep HO.out HG.out) (Nat.le_trans (Nat.succ_le_of_lt HSz.out) HG.out.size) x HLn.out rfl _ _ rfl rfl rfl ?_; intro v' w2 hO2 hg2))
        go_roundw
        case rel => exact ⟨k + 1, (HS.out.next HG.out).grown (ownsRow_keep HO.out HG.out) hg2 (Nat.le_succ _) (by simp), by simp, hlt, by rw [HN.out]; exact hO2⟩
        case measure => simp [intOf]; omega
    · obtain rfl : k = ths.length := by omega
      rw [List.take_length] at HO
      obtain ⟨q2, cap2, rfl, hI, -⟩ := OI.ints HO.out
      have CG := least_any 12000 q2 cap2 (ths.map fun t => highT wear t y) wr (by simp; omega) hI
      rw [List.length_map] at CG
      simp only [List.length_map]
      clear hI HO
      go_wp2_with (go_at_call 182; refine CG.mono ?_; rintro e w1 ⟨rfl, rfl⟩)
      go_ret
      exact ⟨rfl, HB.out⟩

end Go.Proofs.YtcejmfgbfdhflaaGreat
