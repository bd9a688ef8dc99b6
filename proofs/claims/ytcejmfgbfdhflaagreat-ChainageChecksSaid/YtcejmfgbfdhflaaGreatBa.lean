import Derived.Test.YtcejmfgbfdhflaaGreatKit
import Derived.WalkKit
import Derived.LoopTactic
import Derived.WalkSpells
import Derived.WalkLawsBesides
import Derived.Lib.Hide
import Derived.BigQuiet
import Derived.IntWalk
import Derived.Deep.DeepMust
import Derived.WalkSmall
import Derived.StillTailTactics
import Derived.Deep.RegionLaw
import Derived.Deep.RegionHeld3
import Derived.Deep.QuietTactic
namespace Go.Proofs.YtcejmfgbfdhflaaGreat
open Go.RowKit Go.BigFrame Go.Sort
attribute [local go_sem] World.cell?_alloc_some
/-- A chain. -/
structure Ch where
  id : Int
  year : Int
  lo : Int
  hi : Int
  wear : Int
deriving DecidableEq
/-- A proof, or a repair. -/
structure Pf where
  id : Int
  ch : Int
  year : Int
  lo : Int
  hi : Int
deriving DecidableEq
abbrev Ch.v (c : Ch) : Value := .agg #[.int .i64 c.id, .int .i64 c.year, .int .i64 c.lo, .int .i64 c.hi, .int .i64 c.wear]
abbrev Pf.v (p : Pf) : Value := .agg #[.int .i64 p.id, .int .i64 p.ch, .int .i64 p.year, .int .i64 p.lo, .int .i64 p.hi]
abbrev spv (lo hi : Int) : Value := .agg #[.int .i64 lo, .int .i64 hi]
theorem Calls.gr {P : Program} {f : FuncId} {args : Array Value} {W : World} {v : Value} (h : Calls P f args W fun e w' => e = .returned v ∧ W = w') : Calls P f args W fun e w' => e = .returned v ∧ Gr W w' :=
  h.mono fun _ _ h => ⟨h.1, h.2 ▸ Gr.refl _⟩
theorem Calls.be {P : Program} {f : FuncId} {args : Array Value} {W : World} {v : Value} (h : Calls P f args W fun e w' => e = .returned v ∧ Gr W w') : Calls P f args W fun e w' => e = .returned v ∧ Below W.heap.size W w' :=
  h.mono fun _ _ h => ⟨h.1, h.2.below⟩
/-- Is a number within? -/
def inB (lo hi n : Int) : Bool := decide (lo ≤ n) && decide (n ≤ hi)
theorem inB_iff {lo hi n : Int} : inB lo hi n = true ↔ lo ≤ n ∧ n ≤ hi := by simp [inB]
set_option maxHeartbeats 400000 in
theorem within_any (lo hi n : Int) (w : World) : Calls Tryz.prog 136 #[spv lo hi, .int .i64 n] w fun e w' => e = .returned (.bool (inB lo hi n)) ∧ Gr w w' := by
  go_enter Tryz.func136, Tryz.ntmps136
  go_wp2
  all_goals (go_ret; refine ⟨ret_bool ?_, Gr.al _ _⟩; simp [inB] <;> omega)
set_option maxHeartbeats 400000 in
theorem width_any (lo hi : Int) (w : World) (h : -9223372036854775808 ≤ hi - lo ∧ hi - lo ≤ 9223372036854775807) : Calls Tryz.prog 184 #[spv lo hi] w fun e w' => e = .returned (.int .i64 (hi - lo)) ∧ Gr w w' := by
  have H := Lib.hid (w64 h)
  clear h
  go_enter Tryz.func184, Tryz.ntmps184
  go_wp2_with fail
  go_ret
  exact ⟨ret_int H.out, Gr.al _ _⟩
/-- Is a span one within another? -/
def insB (lo hi a b : Int) : Bool := decide (lo ≤ hi) && (decide (a ≤ lo) && decide (hi ≤ b))
set_option maxHeartbeats 800000 in
theorem inside_any (lo hi a b : Int) (w : World) : Calls Tryz.prog 183 #[spv lo hi, spv a b] w fun e w' => e = .returned (.bool (insB lo hi a b)) ∧ Gr w w' := by
  go_enter Tryz.func183, Tryz.ntmps183
  go_wp2
  all_goals (go_ret; refine ⟨ret_bool ?_, (Gr.al _ _).trans (Gr.al _ _)⟩; first | (simp [insB]; omega) | (rw [Bool.eq_iff_iff]; simp [insB]; omega))
def okId (n : Int) : Bool := inB 1 1099511627776 n
def okLong (lo hi : Int) : Bool := insB lo hi 9000 12000
set_option maxHeartbeats 400000 in
theorem validID_any (n : Int) (w : World) : Calls Tryz.prog 86 #[.int .i64 n] w fun e w' => e = .returned (.bool (okId n)) ∧ w = w' := by
  go_enter Tryz.func86, Tryz.ntmps86
  go_wp2
  all_goals (go_ret; refine ⟨ret_bool ?_, rfl⟩; simp [okId, inB] <;> omega)
set_option maxHeartbeats 400000 in
theorem validLong_any (lo hi : Int) (w : World) : Calls Tryz.prog 139 #[spv lo hi] w fun e w' => e = .returned (.bool (okLong lo hi)) ∧ Gr w w' := by
  have C1 := fun W => inside_any lo hi 9000 12000 W
  obtain ⟨b, hb⟩ : ∃ b, okLong lo hi = b := ⟨_, rfl⟩
  rw [show insB lo hi 9000 12000 = b from hb] at C1
  rw [hb]
  clear hb
  go_enter Tryz.func139, Tryz.ntmps139
  go_wp2_with fail
  refine (C1 _).mono ?_
  rintro e w' ⟨rfl, hg⟩
  have G : Hid (Gr w w') := (Gr.al _ _).trans hg
  clear hg C1
  go_wp2_with fail
  go_ret
  exact ⟨rfl, G.out⟩
def okCh (c : Ch) : Bool := okId c.id && (inB 0 4000 c.year && (okLong c.lo c.hi && inB 0 1000 c.wear))
set_option maxHeartbeats 400000 in
theorem yearsOf_any (c : Ch) (w : World) : Calls Tryz.prog 114 #[c.v] w fun e w' => e = .returned (spv c.year 4000) ∧ Gr w w' := by
  go_enter Tryz.func114, Tryz.ntmps114
  go_wp2_with fail
  refine bodyPost_ret (v := spv c.year 4000) (by simp [results, Tryz.results114, go_sem]) rfl ⟨rfl, ?_⟩
  exact (Gr.al _ _).trans (Gr.al _ _)
set_option maxHeartbeats 800000 in
theorem validChain_any (c : Ch) (w : World) : Calls Tryz.prog 138 #[c.v] w fun e w' => e = .returned (.bool (okCh c)) ∧ Gr w w' := by
  have C1 := fun W => validID_any c.id W
  have C2 := fun W => within_any 0 4000 c.year W
  have C3 := fun W => validLong_any c.lo c.hi W
  have C4 := fun W => within_any 0 1000 c.wear W
  obtain ⟨x1, h1⟩ : ∃ b, okId c.id = b := ⟨_, rfl⟩
  obtain ⟨x2, h2⟩ : ∃ b, inB 0 4000 c.year = b := ⟨_, rfl⟩
  obtain ⟨x3, h3⟩ : ∃ b, okLong c.lo c.hi = b := ⟨_, rfl⟩
  obtain ⟨x4, h4⟩ : ∃ b, inB 0 1000 c.wear = b := ⟨_, rfl⟩
  rw [show okCh c = (x1 && (x2 && (x3 && x4))) from by rw [okCh, h1, h2, h3, h4]]
  simp only [h1] at C1
  simp only [h2] at C2
  simp only [h3] at C3
  simp only [h4] at C4
  clear h1 h2 h3 h4
  go_enter Tryz.func138, Tryz.ntmps138
  go_wp2_with fail
  obtain ⟨W0, hW0⟩ : ∃ W0, (w).alloc (.cells #[.int .i64 c.id, .int .i64 c.year, .int .i64 c.lo, .int .i64 c.hi, .int .i64 c.wear] 90) = W0 := ⟨_, rfl⟩
  have S0 : StG w W0 [(w.heap.size, 0, .int .i64 c.id), (w.heap.size, 1, .int .i64 c.year), (w.heap.size, 2, .int .i64 c.lo), (w.heap.size, 3, .int .i64 c.hi), (w.heap.size, 4, .int .i64 c.wear)] := by rw [← hW0]; exact ((StG.nil w)).box #[.int .i64 c.id, .int .i64 c.year, .int .i64 c.lo, .int .i64 c.hi, .int .i64 c.wear] 90 (w.heap.size) (by simp)
  rw [hW0]
  clear hW0
  obtain ⟨C, hC0, HC, LC, BC, hne⟩ := clsG S0
  haveI := hne
  obtain ⟨c0, rfl⟩ : ∃ n : Wd C, W0 = n.w := ⟨⟨_, hC0⟩, rfl⟩
  have fC0 : ∀ n : Wd C, n.w.cell? ⟨w.heap.size, 0, none⟩ = some (.int .i64 c.id) := fun n => (LC.out n).1.2.1
  have fC1 : ∀ n : Wd C, n.w.cell? ⟨w.heap.size, 1, none⟩ = some (.int .i64 c.year) := fun n => (LC.out n).2.1.2.1
  have fC2 : ∀ n : Wd C, n.w.cell? ⟨w.heap.size, 2, none⟩ = some (.int .i64 c.lo) := fun n => (LC.out n).2.2.1.2.1
  have fC3 : ∀ n : Wd C, n.w.cell? ⟨w.heap.size, 3, none⟩ = some (.int .i64 c.hi) := fun n => (LC.out n).2.2.2.1.2.1
  have fC4 : ∀ n : Wd C, n.w.cell? ⟨w.heap.size, 4, none⟩ = some (.int .i64 c.wear) := fun n => (LC.out n).2.2.2.2.1.2.1
  clear S0 hC0
  have D1 := csame (C := C) C1
  have D2 := cinG HC C2
  have D3 := cinG HC C3
  have D4 := cinG HC C4
  clear C1 C2 C3 C4
  go_wp2_with (first | (go_at_call 86; with_reducible refine (D1 _).out.mono ?_; rintro e w' ⟨rfl, n, rfl⟩) | (go_at_call 136; with_reducible refine (D2 _).out.mono ?_; rintro e w' ⟨rfl, n, rfl⟩) | (go_at_call 136; with_reducible refine (D4 _).out.mono ?_; rintro e w' ⟨rfl, n, rfl⟩) | (go_at_call 139; with_reducible refine (D3 _).out.mono ?_; rintro e w' ⟨rfl, n, rfl⟩))
  all_goals (go_ret; exact ⟨ret_bool (by simp [*]), BC.out _⟩)

/-- What a thing tells: its number, its year, its span. -/
structure Th where
  num : Int
  year : Int
  lo : Int
  hi : Int
deriving DecidableEq
/-- A thing, as a value of an interface. -/
def ThAt (W : World) (v : Value) (t : Th) : Prop :=
  (∃ id wear, v = .iface 249 (.agg #[.int .i64 id, .int .i64 t.year, .int .i64 t.lo, .int .i64 t.hi, .int .i64 wear]) ∧ t.num = 0) ∨
  (∃ b ch ty, (ty = 220 ∨ ty = 244) ∧ v = .iface ty (.pointer (some ⟨b, 0, none⟩)) ∧ Cs W [(b, 0, .int .i64 t.num), (b, 1, .int .i64 ch), (b, 2, .int .i64 t.year), (b, 3, .int .i64 t.lo), (b, 4, .int .i64 t.hi)])
theorem ThAt.keep {W W' : World} {v : Value} {t : Th} (h : ThAt W v t) (hb : Below W.heap.size W W') : ThAt W' v t := by
  rcases h with h | ⟨b, ch, ty, h1, h2, h3⟩
  · exact .inl h
  · exact .inr ⟨b, ch, ty, h1, h2, h3.keep hb⟩
theorem thCells {W : World} {b : Nat} {t : Th} {ch : Int} (h : Cs W [(b, 0, .int .i64 t.num), (b, 1, .int .i64 ch), (b, 2, .int .i64 t.year), (b, 3, .int .i64 t.lo), (b, 4, .int .i64 t.hi)]) :
    W.cell? ⟨b, 0, none⟩ = some (.int .i64 t.num) ∧ W.cell? ⟨b, 2, none⟩ = some (.int .i64 t.year) ∧ W.cell? ⟨b, 3, none⟩ = some (.int .i64 t.lo) ∧ W.cell? ⟨b, 4, none⟩ = some (.int .i64 t.hi) :=
  ⟨h.1.2.1, h.2.2.1.2.1, h.2.2.2.1.2.1, h.2.2.2.2.1.2.1⟩
set_option maxHeartbeats 400000 in
theorem mYear_any (id y lo hi wear : Int) (w : World) : Calls Tryz.prog 314 #[.agg #[.int .i64 id, .int .i64 y, .int .i64 lo, .int .i64 hi, .int .i64 wear]] w fun e w' => e = .returned (.int .i64 y) ∧ Gr w w' := by
  go_enter Tryz.func314, Tryz.ntmps314
  go_wp2_with fail
  go_ret
  exact ⟨rfl, Gr.al _ _⟩
set_option maxHeartbeats 400000 in
theorem mLong_any (id y lo hi wear : Int) (w : World) : Calls Tryz.prog 313 #[.agg #[.int .i64 id, .int .i64 y, .int .i64 lo, .int .i64 hi, .int .i64 wear]] w fun e w' => e = .returned (spv lo hi) ∧ Gr w w' := by
  go_enter Tryz.func313, Tryz.ntmps313
  go_wp2_with fail
  refine bodyPost_ret (v := spv lo hi) (by simp [results, Tryz.results313, go_sem]) rfl ⟨rfl, ?_⟩
  exact (Gr.al _ _).trans (Gr.al _ _)
set_option maxHeartbeats 400000 in
theorem pYear_any (b : Nat) (t : Th) (ch : Int) (w : World) (h : Cs w [(b, 0, .int .i64 t.num), (b, 1, .int .i64 ch), (b, 2, .int .i64 t.year), (b, 3, .int .i64 t.lo), (b, 4, .int .i64 t.hi)]) :
    Calls Tryz.prog 310 #[.pointer (some ⟨b, 0, none⟩)] w fun e w' => e = .returned (.int .i64 t.year) ∧ w = w' := by
  obtain ⟨c0, c2, c3, c4⟩ := thCells h
  clear h
  go_enter Tryz.func310, Tryz.ntmps310
  go_wp2_with fail
  go_ret
  exact ⟨rfl, rfl⟩
set_option maxHeartbeats 400000 in
theorem rYear_any (b : Nat) (t : Th) (ch : Int) (w : World) (h : Cs w [(b, 0, .int .i64 t.num), (b, 1, .int .i64 ch), (b, 2, .int .i64 t.year), (b, 3, .int .i64 t.lo), (b, 4, .int .i64 t.hi)]) :
    Calls Tryz.prog 312 #[.pointer (some ⟨b, 0, none⟩)] w fun e w' => e = .returned (.int .i64 t.year) ∧ w = w' := by
  obtain ⟨c0, c2, c3, c4⟩ := thCells h
  clear h
  go_enter Tryz.func312, Tryz.ntmps312
  go_wp2_with fail
  go_ret
  exact ⟨rfl, rfl⟩
set_option maxHeartbeats 400000 in
theorem pLong_any (b : Nat) (t : Th) (ch : Int) (w : World) (h : Cs w [(b, 0, .int .i64 t.num), (b, 1, .int .i64 ch), (b, 2, .int .i64 t.year), (b, 3, .int .i64 t.lo), (b, 4, .int .i64 t.hi)]) :
    Calls Tryz.prog 309 #[.pointer (some ⟨b, 0, none⟩)] w fun e w' => e = .returned (spv t.lo t.hi) ∧ Gr w w' := by
  have K := thCells (h.keep (Gr.al w (.cells #[.int .i64 0, .int .i64 0] 30)).below)
  obtain ⟨c0, c2, c3, c4⟩ := K
  clear h
  go_enter Tryz.func309, Tryz.ntmps309
  go_wp2_with fail
  refine bodyPost_ret (v := spv t.lo t.hi) (by simp [results, Tryz.results309, go_sem]) rfl ⟨rfl, ?_⟩
  exact Gr.al _ _
set_option maxHeartbeats 400000 in
theorem rLong_any (b : Nat) (t : Th) (ch : Int) (w : World) (h : Cs w [(b, 0, .int .i64 t.num), (b, 1, .int .i64 ch), (b, 2, .int .i64 t.year), (b, 3, .int .i64 t.lo), (b, 4, .int .i64 t.hi)]) :
    Calls Tryz.prog 311 #[.pointer (some ⟨b, 0, none⟩)] w fun e w' => e = .returned (spv t.lo t.hi) ∧ Gr w w' := by
  have K := thCells (h.keep (Gr.al w (.cells #[.int .i64 0, .int .i64 0] 30)).below)
  obtain ⟨c0, c2, c3, c4⟩ := K
  clear h
  go_enter Tryz.func311, Tryz.ntmps311
  go_wp2_with fail
  refine bodyPost_ret (v := spv t.lo t.hi) (by simp [results, Tryz.results311, go_sem]) rfl ⟨rfl, ?_⟩
  exact Gr.al _ _

theorem ta_mp (v : Value) (w : World) : Sem.run Tryz.prog (Instr.typeAssert (.iface 249 v) 148 220 true) w = .ok (.tuple #[.pointer none, .bool false]) w := by kernel_rfl
theorem ta_mr (v : Value) (w : World) : Sem.run Tryz.prog (Instr.typeAssert (.iface 249 v) 148 244 true) w = .ok (.tuple #[.pointer none, .bool false]) w := by kernel_rfl
theorem ta_pp (v : Value) (w : World) : Sem.run Tryz.prog (Instr.typeAssert (.iface 220 v) 148 220 true) w = .ok (.tuple #[v, .bool true]) w := by kernel_rfl
theorem ta_rp (v : Value) (w : World) : Sem.run Tryz.prog (Instr.typeAssert (.iface 244 v) 148 220 true) w = .ok (.tuple #[.pointer none, .bool false]) w := by kernel_rfl
theorem ta_rr (v : Value) (w : World) : Sem.run Tryz.prog (Instr.typeAssert (.iface 244 v) 148 244 true) w = .ok (.tuple #[v, .bool true]) w := by kernel_rfl
theorem meth_my (rv : Value) (w : World) : Sem.run Tryz.prog (method 432 249 rv "boundstone/chainage.year") w = .ok (314, rv) w := by kernel_rfl
theorem meth_ml (rv : Value) (w : World) : Sem.run Tryz.prog (method 432 249 rv "boundstone/chainage.long") w = .ok (313, rv) w := by kernel_rfl
theorem meth_py (rv : Value) (w : World) : Sem.run Tryz.prog (method 432 220 rv "boundstone/chainage.year") w = .ok (310, rv) w := by kernel_rfl
theorem meth_pl (rv : Value) (w : World) : Sem.run Tryz.prog (method 432 220 rv "boundstone/chainage.long") w = .ok (309, rv) w := by kernel_rfl
theorem meth_ry (rv : Value) (w : World) : Sem.run Tryz.prog (method 432 244 rv "boundstone/chainage.year") w = .ok (312, rv) w := by kernel_rfl
theorem meth_rl (rv : Value) (w : World) : Sem.run Tryz.prog (method 432 244 rv "boundstone/chainage.long") w = .ok (311, rv) w := by kernel_rfl
set_option maxRecDepth 100000 in
set_option maxHeartbeats 800000 in
theorem yearOf_any (v : Value) (t : Th) (w : World) (h : ThAt w v t) : Calls Tryz.prog 178 #[v] w fun e w' => e = .returned (.int .i64 t.year) ∧ Gr w w' := by
  have m1 := meth_my
  have m2 := meth_py
  have m3 := meth_ry
  rcases h with ⟨id, wear, rfl, -⟩ | ⟨b, ch, ty, rfl | rfl, rfl, hc⟩
  · go_enter Tryz.func178, Tryz.ntmps178
    go_wp2_with (go_at_call 314; refine (mYear_any _ _ _ _ _ _).mono ?_; rintro e w' ⟨rfl, hg⟩)
    go_ret
    exact ⟨rfl, hg⟩
  · have C := Calls.gr (pYear_any b t ch w hc)
    clear hc
    go_enter Tryz.func178, Tryz.ntmps178
    go_wp2_with (go_at_call 310; refine C.mono ?_; rintro e w' ⟨rfl, hg⟩)
    go_ret
    exact ⟨rfl, hg⟩
  · have C := Calls.gr (rYear_any b t ch w hc)
    clear hc
    go_enter Tryz.func178, Tryz.ntmps178
    go_wp2_with (go_at_call 312; refine C.mono ?_; rintro e w' ⟨rfl, hg⟩)
    go_ret
    exact ⟨rfl, hg⟩
set_option maxRecDepth 100000 in
set_option maxHeartbeats 800000 in
theorem number_any (v : Value) (t : Th) (w : World) (h : ThAt w v t) : Calls Tryz.prog 163 #[v] w fun e w' => e = .returned (.int .i64 t.num) ∧ w = w' := by
  have a1 := ta_mp
  have a2 := ta_mr
  have a3 := ta_pp
  have a4 := ta_rp
  have a5 := ta_rr
  rcases h with ⟨id, wear, rfl, h0⟩ | ⟨b, ch, ty, rfl | rfl, rfl, hc⟩
  · rw [h0]
    clear h0
    go_enter Tryz.func163, Tryz.ntmps163
    go_wp2_with fail
    go_ret
    exact ⟨rfl, rfl⟩
  · obtain ⟨c0, c2, c3, c4⟩ := thCells hc
    clear hc
    go_enter Tryz.func163, Tryz.ntmps163
    go_wp2_with fail
    go_ret
    exact ⟨rfl, rfl⟩
  · obtain ⟨c0, c2, c3, c4⟩ := thCells hc
    clear hc
    go_enter Tryz.func163, Tryz.ntmps163
    go_wp2_with fail
    go_ret
    exact ⟨rfl, rfl⟩

end Go.Proofs.YtcejmfgbfdhflaaGreat
