import Derived.Test.YtcejmfgbfdhflaaGreatCt
import Derived.WalkKit
import Derived.LoopTactic
import Derived.WalkSpells
import Derived.WalkLawsBesides
import Derived.Lib.Hide
import Derived.BigQuiet
import Derived.IntWalk
import Derived.Deep.DeepMust
import Derived.WalkSmall
import Derived.StillTailTactics
import Derived.Deep.RegionLaw
import Derived.Deep.RegionHeld3
import Derived.Deep.QuietTactic
namespace Go.Proofs.YtcejmfgbfdhflaaGreat
open Go.RowKit Go.BigFrame Go.Sort
attribute [local go_sem] World.cell?_alloc_some
/-- The cells of pairs. -/
def flat2 : List (Int × Int) → List Value
  | [] => []
  | p :: l => .int .i64 p.1 :: .int .i64 p.2 :: flat2 l
theorem flat2_app (l m : List (Int × Int)) : flat2 (l ++ m) = flat2 l ++ flat2 m := by
  induction l with
  | nil => rfl
  | cons p l ih => simp [flat2, ih]
theorem flat2_one : ∀ {l : List (Int × Int)}, ∀ u ∈ flat2 l, u.oneCell' = true
  | [], u, h => by simp [flat2] at h
  | p :: l, u, h => by
    simp only [flat2, List.mem_cons] at h
    rcases h with rfl | rfl | h
    · rfl
    · rfl
    · exact flat2_one u h
theorem flat2_get : ∀ {l : List (Int × Int)} {j : Nat} {q : Int × Int}, l[j]? = some q → (flat2 l)[j * 2]? = some (.int .i64 q.1) ∧ (flat2 l)[j * 2 + 1]? = some (.int .i64 q.2)
  | [], _, _, h => by simp at h
  | p :: l, 0, q, h => by
    obtain rfl : p = q := by simpa using h
    exact ⟨rfl, rfl⟩
  | p :: l, j + 1, q, h => by
    have ih := flat2_get (l := l) (j := j) (q := q) (by simpa using h)
    rw [show (j + 1) * 2 = j * 2 + 1 + 1 from by omega]
    simpa [flat2] using ih
/-- Pairs that the call owns. -/
abbrev OP (W : World) (B : Nat) (v : Value) (l : List (Int × Int)) : Prop := W.ownsRow B 56 2 v l.length (flat2 l)
theorem inf56 : (Tryz.prog.info? 56).map (fun i => (i.zero, i.size, i.bytes)) = some (some (.agg #[.int .i64 0, .int .i64 0]), 2, 16) := by kernel_rfl
/-- One pair more. -/
theorem appP {B : Nat} {v : Value} {l : List (Int × Int)} {W : World} (hP : OP W B v l) (hw : B ≤ W.heap.size) (x y : Int) (hl : l.length ≤ 1000000) {ops : Array Oper} {rest : List Oper} {o : Oper} {a : Act} {Q : Exit → Act → World → Prop} (hgd : o.guard = none) (s z : Operand)
    (ho : o.op = .call { callee := .builtin .append, args := #[s, z], argTypes := #[44, 44] }) (hs : a.eval s = v) (hx : a.eval z = .slice (some ⟨W.heap.size, 0, none⟩) 1 1)
    (h : ∀ v' w', OP w' B v' (l ++ [(x, y)]) → W.grownBy w' v.ownBlock → wpList Tryz.prog ops Q rest (a.put o.dst v') w') : wpList Tryz.prog ops Q (o :: rest) a (W.alloc (.cells #[.int .i64 x, .int .i64 y] 56)) := by
  obtain ⟨i0, hi, hz0, hz1, hz2⟩ := info_parts inf56
  refine wpList_append_own _ hgd s z 44 ho B 56 i0 (.agg #[.int .i64 0, .int .i64 0]) 2 16 Tryz.underlying44 hi hz0 hz1 hz2 rfl (by decide) v l.length (flat2 l) hs (hP.alloc _) ⟨W.heap.size, 0, none⟩ 1 1 (flat2 [(x, y)]) hx rfl ?_ flat2_one ?_ ?_ ?_ ?_
  · intro j u hu
    match j, hu with
    | 0, hu =>
      obtain rfl : Value.int .i64 x = u := by simpa [flat2] using hu
      exact new_at W _ 56 0 _ rfl
    | 1, hu =>
      obtain rfl : Value.int .i64 y = u := by simpa [flat2] using hu
      exact new_at W _ 56 1 _ rfl
  · unfold maxLen; omega
  · omega
  · simp; omega
  · intro v' w' ho' hg _
    refine h v' w' ?_ ?_
    · show w'.ownsRow B 56 2 v' (l ++ [(x, y)]).length (flat2 (l ++ [(x, y)]))
      rw [List.length_append, flat2_app]; exact ho'
    · exact ⟨hg.os, hg.tape, hg.output, by have := hg.size; simp at this; omega, fun k hk hne => (hg.block k (by simp; omega) hne).trans (Below.heap_alloc W _ k hk)⟩
/-- The pairs of a thing with others. -/
def clIn (wear : Int) (a : Th) (l : List Th) : List (Int × Int) := (l.filter fun b => clB wear a b).map fun b => (min a.num b.num, max a.num b.num)
/-- The pairs of the first things. -/
def clTo (wear : Int) (ths : List Th) : Nat → List (Int × Int)
  | 0 => []
  | k + 1 => clTo wear ths k ++ (match ths[k]? with | some a => clIn wear a (ths.take k) | none => [])
def clS (s : Spl) : List (Int × Int) := clTo s.wear s.ths s.ths.length
theorem clIn_len (wear : Int) (a : Th) (l : List Th) : (clIn wear a l).length ≤ l.length := by
  unfold clIn; rw [List.length_map]; exact List.length_filter_le _ _
theorem clTo_len (wear : Int) (ths : List Th) : ∀ k, (clTo wear ths k).length ≤ k * ths.length
  | 0 => by simp [clTo]
  | k + 1 => by
    have ih := clTo_len wear ths k
    unfold clTo
    rw [List.length_append, Nat.succ_mul]
    have : (match ths[k]? with | some a => clIn wear a (ths.take k) | none => []).length ≤ ths.length := by
      split
      · exact Nat.le_trans (clIn_len _ _ _) (by simp; omega)
      · simp
    omega
theorem clIn_snoc (wear : Int) (a b : Th) (l : List Th) : clIn wear a (l ++ [b]) = clIn wear a l ++ (if clB wear a b then [(min a.num b.num, max a.num b.num)] else []) := by
  unfold clIn
  rw [List.filter_append, List.map_append]
  congr 1
  by_cases h : clB wear a b <;> simp [h]
set_option maxRecDepth 100000 in
set_option maxHeartbeats 400000 in
theorem clashes1_nil (lo hi wear : Int) (q : Option Addr) (cap : Nat) (w : World) :
    Calls Tryz.prog 165 #[.agg #[.int .i64 lo, .int .i64 hi, .int .i64 wear, .slice q 0 cap]] w fun e w' => ∃ v, e = .returned v ∧ OP w' (w.heap.size + 1) v [] ∧ Below w.heap.size w w' := by
  go_enter Tryz.func165, Tryz.ntmps165
  go_wp2_with fail
  go_loop [3, 13] (fun v i => v = .slice none 0 0 ∧ i = .int .i64 0) (fun _ _ => 0)
  case atStart => exact ⟨rfl, rfl⟩
  case round =>
    obtain ⟨rfl, rfl⟩ := hrel
    go_wp2_with fail
    go_ret
    exact ⟨_, rfl, World.ownsRow_nil _ _ _ _, (Gr.al _ _).below⟩
set_option maxRecDepth 100000 in
set_option maxHeartbeats 6400000 in
theorem clashes1_any (s : Spl) (q : Option Addr) (cap : Nat) (w : World) (hs : okS s = true) (hcap : s.ths.length ≤ cap) (hcm : cap ≤ maxLen) (h : ThsAt w q s.ths) :
    Calls Tryz.prog 165 #[s.v q cap] w fun e w' => ∃ v, e = .returned v ∧ OP w' (w.heap.size + 1) v (clS s) ∧ Below w.heap.size w w' := by
  obtain ⟨s1, s2, s3⟩ := okS_iff.1 hs
  obtain ⟨lo, hi, wear, ths⟩ := s
  simp only [Spl.v, clS] at *
  rcases h with h0 | ⟨b, o, rfl, hb, hc⟩
  · subst h0
    exact clashes1_nil lo hi wear q cap w
  have H := Lib.hid (And.intro hb hc)
  have H2 := Lib.hid s2
  have H3 := Lib.hid s3
  clear hb hc s2 s3 hs
  have hl : ths.length ≤ 1000 := s1
  clear s1
  unfold maxLen at hcm
  go_enter Tryz.func165, Tryz.ntmps165
  go_wp2_with fail
  obtain ⟨W0, hW0⟩ : ∃ W0, (w).alloc (.cells #[.int .i64 lo, .int .i64 hi, .int .i64 wear, .slice (some ⟨b, o, none⟩) ths.length cap] 111) = W0 := ⟨_, rfl⟩
  have S0 : St w W0 [(w.heap.size, 0, .int .i64 lo), (w.heap.size, 1, .int .i64 hi), (w.heap.size, 2, .int .i64 wear), (w.heap.size, 3, .slice (some ⟨b, o, none⟩) ths.length cap)] := by rw [← hW0]; exact ((St.nil w)).box #[.int .i64 lo, .int .i64 hi, .int .i64 wear, .slice (some ⟨b, o, none⟩) ths.length cap] 111 (w.heap.size) (by simp)
  rw [hW0]
  clear hW0
  obtain ⟨C, hC0, HC, LC, BC, hne⟩ := cls S0
  haveI := hne
  obtain ⟨c0, rfl⟩ : ∃ n : Wd C, W0 = n.w := ⟨⟨_, hC0⟩, rfl⟩
  have fC0 : ∀ n : Wd C, n.w.cell? ⟨w.heap.size, 0, none⟩ = some (.int .i64 lo) := fun n => (LC.out n).1.2.1
  have fC1 : ∀ n : Wd C, n.w.cell? ⟨w.heap.size, 1, none⟩ = some (.int .i64 hi) := fun n => (LC.out n).2.1.2.1
  have fC2 : ∀ n : Wd C, n.w.cell? ⟨w.heap.size, 2, none⟩ = some (.int .i64 wear) := fun n => (LC.out n).2.2.1.2.1
  have fC3 : ∀ n : Wd C, n.w.cell? ⟨w.heap.size, 3, none⟩ = some (.slice (some ⟨b, o, none⟩) ths.length cap) := fun n => (LC.out n).2.2.2.1.2.1
  clear S0 hC0
  go_wp2_with fail
  go_loopw [3, 13] (fun v i wr => ∃ (k : Nat), St w wr [(w.heap.size, 0, .int .i64 lo), (w.heap.size, 1, .int .i64 hi), (w.heap.size, 2, .int .i64 wear), (w.heap.size, 3, .slice (some ⟨b, o, none⟩) ths.length cap)] ∧ i = .int .i64 (k : Int) ∧ k ≤ ths.length ∧ OP wr (w.heap.size + 1) v (clTo wear ths k)) (fun v i wr => ths.length - (intOf i).toNat)
  case atStart => exact ⟨0, ⟨BC.out _, LC.out _⟩, rfl, Nat.zero_le _, World.ownsRow_nil _ _ _ _⟩
  case round =>
    obtain ⟨k, hS, rfl, hk, hO⟩ := hrel
    have HO := Lib.hid hO
    have HB := Lib.hid hS.b
    have HS := Lib.hid hS
    clear fC0 fC1 fC2 fC3 hO
    by_cases hlt : k < ths.length
    · obtain ⟨tv, htv, hth⟩ := H.out.2 k ths[k] (List.getElem?_eq_getElem hlt)
      have c1 := (hS.b.cell (p := ⟨b, o + k, none⟩) H.out.1).trans htv
      have HT := Lib.hid (And.intro hth (H3.out _ (List.getElem_mem hlt)))
      have HT1 : Hid (clTo wear ths (k + 1) = clTo wear ths k ++ clIn wear ths[k] (ths.take k)) := by unfold Hid; rw [clTo, List.getElem?_eq_getElem hlt]
      obtain ⟨a, ha⟩ : ∃ a, ths[k] = a := ⟨_, rfl⟩
      rw [ha] at HT HT1
      have HLn : Hid ((clTo wear ths k).length ≤ 999000) := by
        unfold Hid
        have h1 := clTo_len wear ths k
        have h2 : k * ths.length ≤ 999 * 1000 := Nat.mul_le_mul (by omega) hl
        omega
      have hlt' : (k : Int) < (ths.length : Int) := by omega
      have hkc : (k : Int) ≤ (cap : Int) := by omega
      obtain ⟨f0, f1, f2, f3, -⟩ := hS.c
      obtain ⟨-, f0, -⟩ := f0
      obtain ⟨-, f1, -⟩ := f1
      obtain ⟨-, f2, -⟩ := f2
      obtain ⟨-, f3, -⟩ := f3
      clear htv hth hS ha
      go_wp2_with fail
      clear f0 f1 f2 f3 c1
      go_loopw [3, 23] (fun v j wr2 => ∃ (m : Nat), St w wr2 [(w.heap.size, 0, .int .i64 lo), (w.heap.size, 1, .int .i64 hi), (w.heap.size, 2, .int .i64 wear), (w.heap.size, 3, .slice (some ⟨b, o, none⟩) ths.length cap)] ∧ j = .int .i64 (m : Int) ∧ m ≤ k ∧ OP wr2 (w.heap.size + 1) v (clTo wear ths k ++ clIn wear a (ths.take m))) (fun v j wr2 => k - (intOf j).toNat)
      case atStart => exact ⟨0, HS.out, rfl, Nat.zero_le _, by simpa [clIn] using HO.out⟩
      case round =>
        obtain ⟨m, hS2, rfl, hm, hO2⟩ := hrel
        have HO2 := Lib.hid hO2
        have HS2 := Lib.hid hS2
        clear hO2
        by_cases hlt2 : m < k
        · have hml : m < ths.length := by omega
          obtain ⟨tv2, htv2, hth2⟩ := H.out.2 m ths[m] (List.getElem?_eq_getElem hml)
          have c2 := (hS2.b.cell (p := ⟨b, o + m, none⟩) H.out.1).trans htv2
          have HT2 : Hid (clIn wear a (ths.take (m + 1)) = clIn wear a (ths.take m) ++ (if clB wear a ths[m] then [(min a.num ths[m].num, max a.num ths[m].num)] else [])) := by unfold Hid; rw [take_snocG ths m hml, clIn_snoc]
          have CC := contradict_any lo hi wear (some ⟨b, o, none⟩) ths.length cap tv tv2 a ths[m] wr HT.out.2 (H3.out _ (List.getElem_mem hml)) H2.out (HT.out.1.keep hS2.b) (hth2.keep hS2.b)
          have HQ := Lib.hid (And.intro (HT.out.1.keep hS2.b) (hth2.keep hS2.b))
          obtain ⟨c, hcq⟩ : ∃ c, ths[m] = c := ⟨_, rfl⟩
          rw [hcq] at HT2 CC HQ
          have HSz := Lib.hid hS2.c.1.1
          have HL2 : Hid ((clTo wear ths k ++ clIn wear a (ths.take m)).length ≤ 1000000) := by
            unfold Hid
            have h1 := clIn_len wear a (ths.take m)
            have h2 := HLn.out
            rw [List.length_append]
            simp at h1
            omega
          obtain ⟨z, hz⟩ : ∃ z, clB wear a c = z := ⟨_, rfl⟩
          rw [hz] at CC HT2
          have y1 : (if c.num < a.num then c.num else a.num) = min a.num c.num := ifmin _ _
          have y2 : (if a.num < c.num then c.num else a.num) = max a.num c.num := ifmax _ _
          obtain ⟨mn, hmn⟩ : ∃ x, min a.num c.num = x := ⟨_, rfl⟩
          obtain ⟨mx, hmx⟩ : ∃ x, max a.num c.num = x := ⟨_, rfl⟩
          rw [hmn] at y1 HT2
          rw [hmx] at y2 HT2
          have hlt2' : (m : Int) < (k : Int) := by omega
          obtain ⟨f0, f1, f2, f3, -⟩ := hS2.c
          obtain ⟨-, f0, -⟩ := f0
          obtain ⟨-, f1, -⟩ := f1
          obtain ⟨-, f2, -⟩ := f2
          obtain ⟨-, f3, -⟩ := f3
          clear htv2 hth2 hS2 hz hcq hmn hmx
          cases z
          · go_wp2_with (go_at_call 206; refine CC.mono ?_; rintro e w1 ⟨rfl, hg⟩; have HG := Lib.hid hg.below; clear hg CC)
            go_roundw
            case rel => exact ⟨m + 1, HS2.out.next HG.out, by simp, by omega, by rw [HT2.out]; simp only [Bool.false_eq_true, if_false, List.append_nil]; exact ownsRow_keep HO2.out HG.out⟩
            case measure => simp [intOf]; omega
          · go_wp2_with (first
              | (go_at_call 206; refine CC.mono ?_; rintro e w1 ⟨rfl, hg⟩; have HG := Lib.hid hg.below; have N1 := number_any tv a w1 (HQ.out.1.keep hg.below); have N2 := number_any tv2 c w1 (HQ.out.2.keep hg.below); clear hg CC)
              | (go_at_call 163; with_reducible refine N1.mono ?_; rintro e w' ⟨rfl, rfl⟩; clear N1)
              | (go_at_call 163; with_reducible refine N2.mono ?_; rintro e w' ⟨rfl, rfl⟩; clear N2)
              | (at_builtin; refine appP (ownsRow_keep HO2.out HG.out) (Nat.le_trans (Nat.succ_le_of_lt HSz.out) HG.out.size) mn mx HL2.out rfl _ _ rfl rfl rfl ?_; intro v' w2 hO3 hg3))
            go_roundw
            case rel => exact ⟨m + 1, (HS2.out.next HG.out).grown (ownsRow_keep HO2.out HG.out) hg3 (Nat.le_succ _) (by simp), by simp, by omega, by rw [HT2.out]; simp only [if_true]; rw [← List.append_assoc]; exact hO3⟩
            case measure => simp [intOf]; omega
        · obtain rfl : m = k := by omega
          clear hS2
          go_wp2_with fail
          go_roundw
          case rel => exact ⟨m + 1, HS2.out, by simp, hlt, by rw [HT1.out]; exact HO2.out⟩
          case measure => simp [intOf]; omega
    · obtain rfl : k = ths.length := by omega
      obtain ⟨f0, f1, f2, f3, -⟩ := hS.c
      clear hS
      go_wp2_with fail
      go_ret
      exact ⟨_, rfl, HO.out, HB.out⟩

end Go.Proofs.YtcejmfgbfdhflaaGreat
