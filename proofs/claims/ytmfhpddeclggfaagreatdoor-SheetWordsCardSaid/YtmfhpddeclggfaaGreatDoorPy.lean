import Derived.Test.YtmfhpddeclggfaaGreatDoorPz
import Derived.RangeFuncNested
import Derived.RangeFuncBox
import Derived.RangeFuncBound
import Derived.RangeFuncCalls
import Derived.RangeFuncLeaves
import Derived.Shelf.Abstract
import Derived.Shelf.RegionOpen
import Derived.WalkKit
import Derived.OwnWalkIn
import Derived.TacticsInMore
import Derived.LoopNIn
import Derived.LoopIn
import Derived.Lib.Hide
import Derived.IntWalk
namespace Go.Proofs.YtmfhpddeclggfaaGreatDoor
open Go.RowKit Go.Shelf
attribute [local go_sem] Oper.semAt_some
theorem roundIn_any {m m' l' : Nat} {P : Program} {l : Nat} {f : FuncId} {tmps : Array Value} {assign body : Code} {w : World} {R : Ending → World → Prop}
    (h : RoundIn Fence.wide m P l f tmps assign body w R) : RoundIn (Fence.wide.inRound l') m' P l f tmps assign body w R := ⟨h.1, fun c cs _ => h.2 c cs (room_wide _)⟩
set_option maxHeartbeats 400000 in
theorem splitSeq0 (s sep : ByteArray) (w : World) : Calls Tryz.prog 165 #[.string s, .string sep, .int .i64 0] w fun e w' =>
    e = .returned (.func (.func 182) #[] #[.pointer (some ⟨w.heap.size + 1, 0, none⟩), .pointer (some ⟨w.heap.size, 0, none⟩), .pointer (some ⟨w.heap.size + 2, 0, none⟩)]) ∧ w' = ((w.alloc (.cells #[.string s] 9)).alloc (.cells #[.string sep] 9)).alloc (.cells #[.int .i64 0] 3) := by
  go_enter Tryz.func165, Tryz.ntmps165
  go_wp2_with fail
  go_ret
  exact ⟨rfl, rfl⟩
set_option maxHeartbeats 400000 in
theorem SplitSeq0 (s sep : ByteArray) (w : World) : Calls Tryz.prog 134 #[.string s, .string sep] w fun e w' =>
    e = .returned (.func (.func 182) #[] #[.pointer (some ⟨w.heap.size + 1, 0, none⟩), .pointer (some ⟨w.heap.size, 0, none⟩), .pointer (some ⟨w.heap.size + 2, 0, none⟩)]) ∧ w' = ((w.alloc (.cells #[.string s] 9)).alloc (.cells #[.string sep] 9)).alloc (.cells #[.int .i64 0] 3) := by
  go_enter Tryz.func134, Tryz.ntmps134
  go_wp2_with (go_at_call 165; refine (splitSeq0 _ _ _).mono ?_; rintro e w' ⟨rfl, rfl⟩)
  go_ret
  exact ⟨rfl, rfl⟩
set_option maxHeartbeats 400000 in
theorem pieces0 (s : ByteArray) (w : World) : Calls Tryz.prog 97 #[.string s] w fun e w' =>
    e = .returned (.func (.func 133) #[] #[.pointer (some ⟨w.heap.size, 0, none⟩)]) ∧ w' = w.alloc (.cells #[.string s] 9) := by
  go_enter Tryz.func97, Tryz.ntmps97
  go_wp2_with fail
  go_ret
  exact ⟨rfl, rfl⟩
/-- The pieces of a text. -/
def full (p : ByteArray) : Bool := !p.toList.isEmpty
def partsN (s : ByteArray) : List ByteArray := (partsF s).filter full
theorem SpC.below {W W' : World} {B b1 b2 b3 : Nat} {s : ByteArray} (h : SpC W b1 b2 b3 s) (hb : Below B W W') (q1 : b1 < B) (q2 : b2 < B) (q3 : b3 < B) : SpC W' b1 b2 b3 s :=
  ⟨(hb.cell (p := ⟨b1, 0, none⟩) q1).trans h.c1, (hb.cell (p := ⟨b2, 0, none⟩) q2).trans h.c2, (hb.frozen (p := ⟨b2, 0, none⟩) q2).trans h.f2, (hb.cell (p := ⟨b3, 0, none⟩) q3).trans h.c3⟩
theorem four_w (w : World) (v : Value) (s : ByteArray) : ∃ Wl, (((w.alloc (.cells #[v] 34)).alloc (.cells #[.string s] 9)).alloc (.cells #[.string ⟨#[10]⟩] 9)).alloc (.cells #[.int .i64 0] 3) = Wl ∧ Wl.heap.size = w.heap.size + 4 ∧ Below w.heap.size w Wl ∧
    SpC Wl (w.heap.size + 1 + 1) (w.heap.size + 1) (w.heap.size + 1 + 2) s ∧ Wl.cell? ⟨w.heap.size, 0, none⟩ = some v := by
  refine ⟨_, rfl, by simp, (((below_alloc1 w _).alloc (by simp) _).alloc (by simp; omega) _).alloc (by simp; omega) _, ⟨?_, ?_, ?_, ?_⟩, ?_⟩ <;> go_simp
set_option maxRecDepth 100000 in
set_option maxHeartbeats 4000000 in
theorem pieces1 (n : Nat) (hn : 2 ≤ n) (bp : Nat) (s : ByteArray) (hs : s.size ≤ 1000000) (W0 : World) (he : Env W0) (hc : W0.cell? ⟨bp, 0, none⟩ = some (.string s)) (hbp : bp < W0.heap.size) :
    HandsN Fence.wide n Tryz.prog 133 #[.pointer (some ⟨bp, 0, none⟩)] Value.string (partsN s) W0 := by
  intro l J Jx hJ hJx hY h0
  have hJ' := Lib.hid hJ
  have hJx' := Lib.hid hJx
  have hY' := Lib.hid hY
  have H0 := Lib.hid h0
  clear hJ hJx hY h0
  refine callsIn_of_wp_marks Tryz.func133 rfl trivial ?_ rfl
  simp only [Tryz.ntmps133, List.size_toArray, List.length_cons, List.length_nil, Nat.reduceAdd, Nat.reduceSub, Array.replicate_succ, Array.replicate_zero, List.push_toArray, List.append_toArray, List.nil_append, List.cons_append]
  have hn1 : 1 ≤ n := by omega
  have HE := Lib.hid he
  have CS := fun W => SplitSeq0 s ⟨#[10]⟩ W
  clear he
  gi_wp2_with (refine ⟨trivial, ?_⟩; gi_at_call 134; refine (callsIn_wide.2 (CS _)).mono ?_; rintro e w' ⟨rfl, rfl⟩)
  obtain ⟨Wl, hWl, hsz, hby, hsp, hyb⟩ := four_w W0 (.func (.yield l) #[] #[]) s
  have h8 := HE.out.size
  rw [hWl]
  clear hWl CS
  refine wpIn_range_Q rfl (by omega) hn1 (gf := 182) (lb := #[.pointer (some ⟨W0.heap.size + 1 + 1, 0, none⟩), .pointer (some ⟨W0.heap.size + 1, 0, none⟩), .pointer (some ⟨W0.heap.size + 1 + 2, 0, none⟩)]) rfl trivial (enters_of Tryz.func182 (by kernel_rfl) rfl)
    (enc := Value.string) (Pv := fun k => W0.heap.size + 1 ≤ k ∧ k < W0.heap.size + 4) (fun k hk => by omega) (xs := partsF s)
    (fun W hb => splitSeq1 (n - 1) (by omega) _ _ _ _ (by omega) (by omega) (by omega) (by omega) (by omega) (by omega) s hs W (HE.out.next (hby.trans (hb.mono (by omega)))) ?_) rfl
    (fun k => W0.heap.size + 1 ≤ k ∧ k < W0.heap.size + 6) (fun k => by omega)
    (fun pre W => J (W0.heap.size + 6) (pre.filter full) W ∧ W.cell? ⟨W0.heap.size, 0, none⟩ = some (.func (.yield l) #[] #[])) (fun pre W => Jx (W0.heap.size + 6) (pre.filter full) W) ?_ ?_ ?_
    (fun x => { tmps := #[Value.func (Fn.yield l) #[] #[], Value.pointer (some { block := bp, off := 0 }), Value.pointer (some { block := W0.heap.size, off := 0 }), Value.string x, Value.string s,
          Value.func (Fn.func 182) #[]
            #[Value.pointer (some { block := W0.heap.size + 1 + 1, off := 0 }),
              Value.pointer (some { block := W0.heap.size + 1, off := 0 }),
              Value.pointer (some { block := W0.heap.size + 1 + 2, off := 0 })],
          Value.string x, undef, undef, undef, undef, undef, undef, undef, undef], defers := [] }) ?assign ?body ?done ?stop
  · exact hsp.below hb (by omega) (by omega) (by omega)
  · exact fun p A B row hs hg hr => ⟨(hJ'.out _).mono (fun k hk => ⟨by omega, hk.2⟩) _ A B row hs.1 hg hr, hg.cell hs.2 (fun e => by have := hr _ e.symm; simp at this; omega)⟩
  · exact fun p A B row hs hg hr => (hJx'.out _).mono (fun k hk => ⟨by omega, hk.2⟩) _ A B row hs hg hr
  · exact fun W hb hs1 => ⟨H0.out _ W (hby.trans (hb.mono (by omega))) (by omega) (by omega), (hb.cell (p := ⟨W0.heap.size, 0, none⟩) (by show W0.heap.size < _; omega)).trans hyb⟩
  case assign =>
    intro l2 x W K hK
    gi_wp2
    exact hK
  case body =>
    rintro l2 pre x W ⟨hJp, hcy⟩ hpre
    have HJp := Lib.hid hJp
    have hpf : (pre ++ [x]).filter full <+: partsN s := hpre.filter full
    rw [List.filter_append] at hpf
    clear hJp hpre
    cases hx : full x with
    | false =>
      have hx' : x.toList = [] := by simpa [full] using hx
      have hx2 : (!x.toList.isEmpty) = false := hx
      have HX := Lib.hid hx
      clear hx
      gi_wp2
      all_goals (refine ⟨fun _ h => (by cases h), ?_⟩; gi_wp2)
      all_goals exact ⟨fun _ _ => rfl, by rw [List.filter_append, List.filter_cons, if_neg (by rw [HX.out]; decide), List.filter_nil, List.append_nil]; exact HJp.out, hcy⟩
    | true =>
      have hx' : ¬ x.toList = [] := by simpa [full] using hx
      have hx2 : (!x.toList.isEmpty) = true := hx
      obtain ⟨fn, tmps, assign, body, hy, hR⟩ := hY'.out (W0.heap.size + 6) (pre.filter full) x W (by omega) HJp.out (by rw [List.filter_cons, if_pos hx, List.filter_nil] at hpf; exact hpf)
      have HR := Lib.hid (roundIn_any (m' := n - 1 - 1 - 1) (l' := l2) hR)
      have HX := Lib.hid hx
      have HF : Hid ((pre ++ [x]).filter full = pre.filter full ++ [x]) := by unfold Hid; rw [List.filter_append, List.filter_cons, if_pos hx, List.filter_nil]
      clear hx hR hpf
      gi_wp2
      refine ⟨fun h => by simp [Fence.wide] at h, HR.out.mono ?_⟩
      rintro e W3 (⟨rfl, hJ3, hk3⟩ | ⟨rfl, hJ3, hk3⟩)
      · have H3 := Lib.hid hJ3
        have HK3 := Lib.hid hk3
        have hcy3 := (World.cell?_of_block (a := ⟨W0.heap.size, 0, none⟩) (hk3 W0.heap.size (.inr ⟨Nat.le_refl _, by omega⟩))).trans hcy
        clear hJ3 hk3
        gi_wp2
        exact ⟨HK3.out.mono (Ev.mono fun k hk => ⟨by omega, hk.2⟩), by rw [HF.out]; exact H3.out, hcy3⟩
      · have H3 := Lib.hid hJ3
        have HK3 := Lib.hid hk3
        clear hJ3 hk3
        gi_wp2
        exact ⟨HK3.out.mono (Ev.mono fun k hk => ⟨by omega, hk.2⟩), by show Jx _ ((pre ++ [x]).filter full) _; rw [HF.out]; exact H3.out⟩
  case done =>
    rintro W ⟨hi, -⟩ hK
    have HI := Lib.hid hi
    have HK := Lib.hid hK
    clear hi hK
    gi_wp2
    refine ⟨by simp, .inl ⟨_, _, rfl, run_takeDeferred HK.out, ?_⟩⟩
    refine ⟨_, results_none rfl _ _ _, ⟨_, rfl⟩, W0.heap.size + 6, by omega, .inl ?_⟩
    exact (hJ'.out _).put HI.out (by omega) _
  case stop =>
    rintro pre W hp hi hK
    have HI := Lib.hid hi
    have HK := Lib.hid hK
    clear hi hK
    gi_wp2
    refine ⟨by simp, .inl ⟨_, _, rfl, run_takeDeferred HK.out, ?_⟩⟩
    refine ⟨_, results_none rfl _ _ _, ⟨_, rfl⟩, W0.heap.size + 6, by omega, .inr ⟨_, hp.filter full, ?_⟩⟩
    exact (hJx'.out _).put HI.out (by omega) _
end Go.Proofs.YtmfhpddeclggfaaGreatDoor
