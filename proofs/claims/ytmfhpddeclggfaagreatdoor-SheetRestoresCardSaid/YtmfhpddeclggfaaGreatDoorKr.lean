import Derived.Test.YtmfhpddeclggfaaGreatDoorTie
import Derived.Test.YtmfhpddeclggfaaGreatDoorCards
import Derived.Test.YtmfhpddeclggfaaGreatDoorKa
import Derived.WalkKit
import Derived.ProofKit
import Derived.Lay
import Derived.Stop.LaidErr
import Derived.Lib.LaidU8
import Derived.Shelf.Vars
import Derived.HandedShaped
import Derived.Carry
import Derived.SizedLaws
import Derived.JoinedOf
import Derived.SevenTiedAt
import Derived.OpenShut
import Derived.Lib.SmallJoins
import Derived.Test.YtmfhpddeclggfaaGreatDoorKb
import Derived.Deep.Slices
import Derived.SliceStrings
import Derived.Test.YtmfhpddeclggfaaGreatDoorKd
import Derived.ChangeAt
namespace Go.Proofs.YtmfhpddeclggfaaGreatDoor
open Go Go.ChangeShapes Go.WideShapes Go.RowKit Go.Joins Go.Deep Go.Shelf Go.Lib
/-- What the rows list. -/
def LD : List (String × DataW Unit) := [("math/bits.deBruijn32tab", Rows.laid_math_bits_deBruijn32tab), ("math/bits.deBruijn64tab", Rows.laid_math_bits_deBruijn64tab), ("internal/strconv.uint64pow10", Rows.laid_internal_strconv_uint64pow10), ("unicode/utf8.acceptRanges", Rows.laid_unicode_utf8_acceptRanges), ("strconv.ErrRange", Rows.laid_strconv_ErrRange), ("strconv.ErrSyntax", Rows.laid_strconv_ErrSyntax), ("unicode/utf8.first", Rows.laid_unicode_utf8_first)]
theorem ownK : ownKnob Tryz.prog.godebug = none := by kernel_rfl
theorem star1 : "*" ++ "errors.errorString" = "*errors.errorString" := by decide
theorem row271 (u : TypeId) (h : Tryz.prog.typeName? 3 u = some "*errors.errorString") : u = 271 :=
  typeName_ptr_named (nm := "errors.errorString") (by rw [star1]; kernel_rfl) (by kernel_rfl) (by decide) u (by rw [star1]; exact h)
theorem gSynT : (Tryz.prog.globals[1]?).map (·.type) = some 125 := by kernel_rfl
theorem gRngT : (Tryz.prog.globals[2]?).map (·.type) = some 125 := by kernel_rfl
theorem gPowT : (Tryz.prog.globals[3]?).map (·.type) = some 275 := by kernel_rfl
theorem c273 : Tryz.prog.cellsOf 273 = 1 := by kernel_rfl
theorem c9 : Tryz.prog.cellsOf 9 = 1 := by kernel_rfl
theorem c245 : Tryz.prog.cellsOf 245 = 1 := by kernel_rfl
theorem c275 : Tryz.prog.cellsOf 275 = 20 := by kernel_rfl
theorem pow_data : (Rows.laid_internal_strconv_uint64pow10 : DataW Unit) = tabData .u64 pow10Tab := by kernel_rfl
theorem env_of {W : World} (hL : laidMetH Tryz.prog LD W) (hsh : W.ShapedOpen Tryz.prog) : Env W := by
  rw [MakeChecks.laidMetH_plain _ _ _ (by kernel_rfl)] at hL
  have h2 := hL.tail.tail
  have h4 := h2.tail.tail
  have h5 := h4.tail
  have mx : ∃ m, W.cell? ⟨0, 0, none⟩ = some (.int .i64 m) := cell_of_shapedOpen_int (t := 3) (zero := #[.int .i64 0]) hsh (of_decide_eq_true (by kernel_rfl)) (by kernel_rfl) rfl (by kernel_rfl) (by kernel_rfl) Tryz.underlying3
  obtain ⟨a1, s1, r1, -⟩ := laid_sentinel h4 gRng gRngT Tryz.underlying125 row271 Tryz.underlying271 Tryz.underlying273 rfl rfl Tryz.underlying9 c273 c9
  obtain ⟨a2, s2, r2, -⟩ := laid_sentinel h5 gSyn gSynT Tryz.underlying125 row271 Tryz.underlying271 Tryz.underlying273 rfl rfl Tryz.underlying9 c273 c9
  have hp : TabIs Tryz.prog W "internal/strconv.uint64pow10" .u64 pow10Tab := by
    have h2' := h2
    rw [pow_data] at h2'
    exact tabIs_of_head gPow gPowT Tryz.underlying275 Tryz.underlying245 c245 c275 h2'
  have hsz : 8 ≤ W.heap.size := by
    have h7 := h5.tail
    obtain ⟨_, ⟨g, t, cs, fuel, p, q, hg, _, hv, _⟩, _⟩ := hL.tail
    have hg7 : g = 7 := Option.some.inj (hg.symm.trans (by kernel_rfl))
    subst hg7
    unfold World.var? at hv
    rw [hg] at hv
    simp only [Option.bind_some] at hv
    rcases Nat.lt_or_ge 7 W.heap.size with h | h
    · exact h
    · rw [Array.getElem?_eq_none h] at hv; cases hv
  exact ⟨mx, ⟨_, _, r2⟩, ⟨_, _, r1⟩, hp, hsz⟩
section
variable {H : Type} {enc : TypeId × Value → H}
/-- The wrap of a row that lists variables, with the world's shape and the reach. -/
theorem wrap_ls {a : Assume} {C : Checked} {os : Os} {f : FuncId} {fn : Func} {s : ChangeSpec} {conds : List PathCond} {apart fresh handsOn again : Bool} {X : World → Array Value → Prop}
    (hX : ∀ (w w' : World) (args : Array Value), w.heap = w'.heap → X w args → X w' args)
    (own : ownKnob C.prog.godebug = none) (started : os.Started) (noInit : C.prog.inits.idxOf? f = none) (hfn : C.prog.funcs[f]? = some fn)
    (witness : ∃ (w : World) (tape : Tape) (i : Input), w.os = os ∧ (w.forCall tape i).Shaped C.prog ∧ i.vars = [] ∧ Input.okWide C.prog (w.forCall tape i) .any w.heap.size f i ∧
      ((s.pre enc C.prog fn conds apart (w.forCall tape i).memory i.args ∧ X (w.forCall tape i).memory i.args) ∧ sizedMet enc C.prog fn (OpenSpec.ofChange s) apart (w.forCall tape i).memory i.args) ∧ a.holds C.prog (lone (Frame.enter C.prog f i.args .normal) [] (w.forCall tape i)))
    (contract : ∀ (W : World) (base : Nat) (args : Array Value) (ds gs : List (DataW H)) (before : List MemPlace),
      (∀ (j : Nat) t v, fn.params[j]? = some t → args[j]? = some v → Value.okWide C.prog W .any base t v) →
      DataW.Whole enc C.prog fn.params.toList s.vars apart W args.toList ds gs before →
      (DataW.weightsEach C.prog (fn.params.toList ++ s.plain.varTypes C.prog) (ds ++ gs)).all (· ≤ reachBytes) = true → X W args → W.ShapedOpen C.prog →
      Calls C.prog f args W fun e W' => ∃ v, e = .returned v ∧ s.post enc C.prog fn apart fresh handsOn again W args v W') :
    ReturnsInHanded a C os f .any (fun w args => (s.pre enc C.prog fn conds apart w args ∧ X w args) ∧ sizedMet enc C.prog fn (OpenSpec.ofChange s) apart w args) (s.post enc C.prog fn apart fresh handsOn again) := by
  refine returnsInHanded_of_calls own started noInit witness ?_
  intro w tape i _ hsh _ hok hpre _
  obtain ⟨_, _, _, fn', hfn', _, _, _, _, hval⟩ := hok
  have e : fn' = fn := Option.some.inj (hfn'.symm.trans hfn)
  subst e
  obtain ⟨⟨⟨ds, gs, before, hw, _⟩, hx⟩, hz⟩ := hpre
  have hw' := DataW.Whole.of_heap (w' := w.forCall tape i) (by rfl) hw
  refine (contract (w.forCall tape i) w.heap.size i.args ds gs before hval hw' (hz.weights hw) (hX _ _ _ (by rfl) hx) hsh).mono fun e W' ⟨v, he, hp⟩ => ?_
  subst he
  exact ChangeSpec.post_blind hp
end
theorem Tryz.laidOutB : laidOutB Tryz.prog = true := by kernel_rfl
theorem and_mk {a b : Bool} (h : a = true) (k : b = true) : (a && b) = true := by rw [h, k]; rfl
theorem jf_laid : laidOutB Tryz.pinned.checked.prog = true := by kernel_rfl
theorem jf_stops : Tryz.pinned.checked.prog.stopsHeard = true := by kernel_rfl
theorem jf_enter : Tryz.pinned.checked.prog.mayEnter = true := by kernel_rfl
theorem jf_lift0 : (Rows.sheetWordsRow.lifted == Tryz.pinned.checked.prog.liftsFinal) = true := by kernel_rfl
theorem jf_make0 : (Tryz.pinned.checked.prog.make == some Rows.sheetWordsRow.make) = true := by kernel_rfl
theorem jf_lift (x : Bool) (h : x = Rows.sheetWordsRow.lifted) : (x == Tryz.pinned.checked.prog.liftsFinal) = true := by rw [h]; exact jf_lift0
end Go.Proofs.YtmfhpddeclggfaaGreatDoor
namespace Go.Proofs.YtmfhpddeclggfaaGreatDoor
open Go
theorem card_looks : true = Tryz.pinned.checked.prog.looks [] := by kernel_rfl
end Go.Proofs.YtmfhpddeclggfaaGreatDoor
namespace Go.Proofs.YtmfhpddeclggfaaGreatDoor
open Go Go.ChangeShapes Go.WideShapes Go.ChangeMaps Go.RowKit Go.Joins Go.Deep Go.Shelf Go.Lib
theorem Tryz.cellsOf9 : Tryz.prog.cellsOf 9 = 1 := by kernel_rfl
theorem Tryz.cellsOf37 : Tryz.prog.cellsOf 37 = 1 := by kernel_rfl
theorem choose_list {α : Type} {P : Nat → α → Prop} : ∀ {n : Nat}, (∀ i, i < n → ∃ q, P i q) → ∃ l : List α, l.length = n ∧ ∀ i q, l[i]? = some q → P i q
  | 0, _ => ⟨[], rfl, fun i q h => by simp at h⟩
  | n + 1, h => by
    obtain ⟨l, hl, hp⟩ := choose_list (n := n) (P := P) (fun i hi => h i (by omega))
    obtain ⟨q, hq⟩ := h n (by omega)
    refine ⟨l ++ [q], by simp [hl], fun i u hu => ?_⟩
    by_cases hi : i < l.length
    · exact hp i u (by rwa [List.getElem?_append_left hi] at hu)
    · rw [List.getElem?_append_right (by omega)] at hu
      have hin : i = n := by
        rcases Nat.lt_or_ge (i - l.length) 1 with g | g
        · omega
        · rw [List.getElem?_eq_none (by simpa using g)] at hu; cases hu
      subst hin
      rw [hl] at hu
      obtain rfl : q = u := by simpa using hu
      exact hq
theorem trod_str {H : Type} {enc : TypeId × Value → H} {P : Program} {w : World} {base : Nat} {sp : Nat → Bool} {hd : Bool} {fuel : Nat} {t : TypeId} {cs : List Value} {x : DataW H × List MemPlace} (ht : P.underlying t = some .string)
    (h : DataW.trod enc P w base sp hd fuel t cs = some x) : ∃ s : ByteArray, cs = [.string s] ∧ s.size ≤ maxLen := by
  obtain ⟨s, h1, _, h3⟩ := DataW.trod_string ht h
  exact ⟨s, h1, h3⟩
set_option maxRecDepth 100000 in
/-- A list of strings, out of what is read at a slice. -/
theorem strs_of {H : Type} {enc : TypeId × Value → H} {W : World} {fuel : Nat} {cs : List Value} {x : DataW H × List MemPlace} (h : DataW.trod enc Tryz.prog W 0 (fun _ => true) true fuel 37 cs = some x) :
    ∃ (q : Option Addr) (c : Nat) (l : List ByteArray), cs = [.slice q l.length c] ∧ l.length ≤ maxLen ∧ (∀ j, (l.getD j ByteArray.empty).size ≤ maxLen) ∧ StrsAt W q l := by
  rcases open_slice Tryz.underlying37 h with ⟨hcs, hx⟩ | ⟨ad, len', cap', m, n, D, Pl, hcs, _, hl, hc, hm, hx, hi⟩
  · exact ⟨none, 0, [], hcs, Nat.zero_le _, fun j => Nat.zero_le _, .inl rfl⟩
  · simp only [if_true] at hm
    subst hm
    rw [Tryz.cellsOf9] at hi
    have each : ∀ i, i < len' → ∃ s : ByteArray, W.cell? (ad.add (i * 1)) = some (.string s) ∧ s.size ≤ maxLen := by
      intro i hil
      obtain ⟨cs', hcc, ht'⟩ := hi i (by omega)
      obtain ⟨s, rfl, hs⟩ := trod_str Tryz.underlying9 ht'
      obtain ⟨_, hcl, hat⟩ := World.cells?_some hcc
      refine ⟨s, ?_, hs⟩
      have := hat 0 (by omega)
      simpa [Addr.add] using this
    obtain ⟨l, hll, hlp⟩ := choose_list each
    refine ⟨some ad, _, l, by rw [hll]; exact hcs, by omega, fun j => ?_, ?_⟩
    · rw [List.getD]
      cases hj : l[j]? with
      | none => exact Nat.zero_le _
      | some s => exact (hlp j s hj).2
    · by_cases h0 : len' = 0
      · left; exact List.length_eq_zero_iff.1 (hll.trans h0)
      · obtain ⟨b, off, spot⟩ := ad
        obtain ⟨q0, hq0, _⟩ := each 0 (by omega)
        have hspot : spot = none := by simpa [Addr.add] using World.cell?_spot hq0
        subst hspot
        refine .inr ⟨b, off, rfl, World.block_lt_of_cell? W _ hq0, fun j hj => ?_⟩
        have := (hlp j l[j] (List.getElem?_eq_getElem hj)).1
        rw [List.getD, List.getElem?_eq_getElem hj, Option.getD_some]
        by_cases h1 : j = 0
        · subst h1
          simpa [Addr.add] using this
        · simpa [Addr.add, h1] using this
set_option maxRecDepth 100000 in
/-- A list of strings among the arguments. -/
theorem read_strs {H : Type} {enc : TypeId × Value → H} {W : World} {base : Nat} {v : Value} {d : DataW H} {p : List MemPlace} (hv : Value.okWide Tryz.prog W .any base 37 v) (h : DataW.Trod enc Tryz.prog W 0 (fun _ => true) true 37 v d p) (_hlt : ∀ x ∈ p, x.block < W.heap.size) :
    ∃ (q : Option Addr) (c : Nat) (l : List ByteArray), v = .slice q l.length c ∧ l.length ≤ maxLen ∧ (∀ j, (l.getD j ByteArray.empty).size ≤ maxLen) ∧ StrsAt W q l := by
  obtain ⟨q0, n0, c0, rfl⟩ := okWide_slice Tryz.underlying37 hv
  obtain ⟨fuel, hf⟩ := h
  obtain ⟨q, c, l, h1, h2⟩ := strs_of hf
  exact ⟨q, c, l, by simpa [Value.cells] using h1, h2⟩
end Go.Proofs.YtmfhpddeclggfaaGreatDoor
namespace Go.Proofs.YtmfhpddeclggfaaGreatDoor
open Go Go.ChangeShapes Go.WideShapes Go.ChangeMaps Go.RowKit Go.Joins Go.Deep Go.Shelf Go.Lib
set_option maxRecDepth 100000 in
/-- A line among the arguments. -/
theorem read_line_arg {H : Type} {enc : TypeId × Value → H} {W : World} {base : Nat} {v : Value} {d : DataW H} {p : List MemPlace} (hv : Value.okWide Tryz.prog W .any base 39 v) (h : DataW.Trod enc Tryz.prog W 0 (fun _ => true) true 39 v d p) (_hlt : ∀ x ∈ p, x.block < W.heap.size) :
    ∃ (m : Int) (q : Option Addr) (c : Nat) (l : List ByteArray), v = .agg #[.int .i64 m, .slice q l.length c] ∧ (-9223372036854775808 ≤ m ∧ m ≤ 9223372036854775807) ∧ l.length ≤ maxLen ∧ (∀ j, (l.getD j ByteArray.empty).size ≤ maxLen) ∧ StrsAt W q l := by
  obtain ⟨v0, v1, y0, y1, n, rfl, rfl, rfl, h0, h1⟩ := open_agg2 Tryz.underlying39 (by kernel_rfl) (by kernel_rfl) hv h
  obtain ⟨x, e0, rfl, wx⟩ := DataW.trod_int Tryz.underlying3 h0
  obtain ⟨q, c, l, e1, h2⟩ := strs_of h1
  obtain rfl := List.singleton_inj.1 e0
  obtain rfl := List.singleton_inj.1 e1
  exact ⟨x, q, c, l, rfl, bounds_i64 wx, h2⟩
set_option maxRecDepth 100000 in
/-- A list of lists of strings among the arguments. -/
theorem read_lists {H : Type} {enc : TypeId × Value → H} {W : World} {base : Nat} {v : Value} {d : DataW H} {p : List MemPlace} (hv : Value.okWide Tryz.prog W .any base 51 v) (h : DataW.Trod enc Tryz.prog W 0 (fun _ => true) true 51 v d p) (_hlt : ∀ x ∈ p, x.block < W.heap.size) :
    ∃ (q : Option Addr) (c : Nat) (l : List GL), v = .slice q l.length c ∧ l.length ≤ maxLen ∧ (∀ j, j < l.length → (l.getD j default).small) ∧ ListsAt W q l := by
  obtain ⟨q0, n0, c0, rfl⟩ := okWide_slice Tryz.underlying51 hv
  obtain ⟨fuel, hf⟩ := h
  rcases open_slice Tryz.underlying51 hf with ⟨hcs, hx⟩ | ⟨ad, len', cap', m, n, D, Pl, hcs, _, hl, hc, hm, hx, hi⟩
  · simp [Value.cells] at hcs
    obtain ⟨rfl, rfl, rfl⟩ := hcs
    exact ⟨none, 0, [], rfl, Nat.zero_le _, fun j hj => absurd hj (Nat.not_lt_zero _), .inl rfl, fun j hj => absurd hj (Nat.not_lt_zero _)⟩
  · simp [Value.cells] at hcs
    obtain ⟨rfl, rfl, rfl⟩ := hcs
    simp only [if_true] at hm
    subst hm
    rw [Tryz.cellsOf37] at hi
    have each : ∀ i, i < n0 → ∃ g : GL, W.cell? (ad.add (i * 1)) = some (.slice g.p g.ws.length g.cap) ∧ g.small ∧ StrsAt W g.p g.ws := by
      intro i hil
      obtain ⟨cs', hcc, ht'⟩ := hi i (by omega)
      obtain ⟨q, c, l, rfl, h1, h2, h3⟩ := strs_of ht'
      obtain ⟨_, hcl, hat⟩ := World.cells?_some hcc
      refine ⟨⟨0, q, c, l⟩, ?_, ⟨h1, h2⟩, h3⟩
      have := hat 0 (by omega)
      simpa [Addr.add] using this
    obtain ⟨l, hll, hlp⟩ := choose_list each
    have at_ : ∀ j, j < l.length → l[j]? = some (l.getD j default) := fun j hj => by rw [List.getD, List.getElem?_eq_getElem hj]; rfl
    refine ⟨some ad, m, l, by rw [hll], by omega, fun j hj => (hlp j _ (at_ j hj)).2.1, ?_, fun j hj => (hlp j _ (at_ j hj)).2.2⟩
    by_cases h0 : n0 = 0
    · left; exact List.length_eq_zero_iff.1 (hll.trans h0)
    · obtain ⟨b, off, spot⟩ := ad
      obtain ⟨q0, hq0, _⟩ := each 0 (by omega)
      have hspot : spot = none := by simpa [Addr.add] using World.cell?_spot hq0
      subst hspot
      refine .inr ⟨b, off, rfl, World.block_lt_of_cell? W _ hq0, fun j hj => ?_⟩
      have := (hlp j _ (at_ j hj)).1
      by_cases h1 : j = 0
      · subst h1
        simpa [Addr.add] using this
      · simpa [Addr.add, h1] using this
end Go.Proofs.YtmfhpddeclggfaaGreatDoor
