/- What the rows of object share: the tables out of what the rows list; the witness's own heap; a name that came in. -/
import Derived.Test.YtcdjmkfpclmbdaaGreatDoorRows
import Derived.Test.YtcdjmkfpclmbdaaGreatDoorTie
import Derived.Test.YtcdjmkfpclmbdaaGreatDoorOEnv
import Derived.Lib.LaidTab
import Derived.ProofKit
import Derived.LaidMore
import Derived.OpenShut
import Derived.Stop.Joined
import Derived.Stop.LaidErr
import Derived.ShutString
import Derived.ChangeOld
import Derived.Lib.SmallJoins
import Derived.Deep.Fields
set_option linter.unusedVariables false
namespace Go.Proofs.YtcdjmkfpclmbdaaGreatDoor
open Go.ChangeShapes Go.WideShapes Go.ChangeAt Go.WideMaps Go.WideElems Go.RowKit Go.Joins Go.Deep

theorem own : ownKnob Tryz.prog.godebug = none := by kernel_rfl
theorem laidOut : laidOutB Tryz.prog = true := by kernel_rfl
def laid6 : List (String × DataW Unit) := [("math/bits.deBruijn32tab", Rows.laid_math_bits_deBruijn32tab), ("math/bits.deBruijn64tab", Rows.laid_math_bits_deBruijn64tab), ("internal/strconv.uint64pow10", Rows.laid_internal_strconv_uint64pow10), ("strconv.ErrRange", Rows.laid_strconv_ErrRange), ("strconv.ErrSyntax", Rows.laid_strconv_ErrSyntax), ("replevin/object.kinds", Rows.laid_replevin_object_kinds)]

/-- The door's own heap meets the condition. -/
theorem door_met (os : Os) (args : Array Value) : laidMetH Tryz.prog laid6 ((World.doorLaid Tryz.prog 400 os).forCall (fun _ _ => 0) ⟨#[], args, []⟩).memory :=
  laidMetH_of_parts3 (fuel := 8) (laidMet_of_run' 8 (by kernel_rfl) (by kernel_rfl)) (by kernel_rfl) (by kernel_rfl)

theorem laid_pow {H : Type} : (Rows.laid_internal_strconv_uint64pow10 : DataW H) = Lib.tabData .u64 Lib.pow10Tab := rfl
theorem tPow : (Tryz.prog.globals[2]?).map (·.type) = some 191 := by kernel_rfl
theorem tSyn : (Tryz.prog.globals[3]?).map (·.type) = some 155 := by kernel_rfl
theorem tRan : (Tryz.prog.globals[4]?).map (·.type) = some 155 := by kernel_rfl
theorem gKin : Tryz.prog.globalNamed "replevin/object.kinds" = some 0 := by kernel_rfl
theorem tKin : (Tryz.prog.globals[0]?).map (·.type) = some 70 := by kernel_rfl
theorem star : "*" ++ "errors.errorString" = "*errors.errorString" := by decide
theorem errRow (u : TypeId) (h : Tryz.prog.typeName? 3 u = some "*errors.errorString") : u = 204 :=
  typeName_ptr_named (nm := "errors.errorString") (by rw [star]; kernel_rfl) (by kernel_rfl) (by decide) u (by rw [star]; exact h)

/-- A kind as the row lists it. -/
def useD {H : Type} (k : Nat) : DataW H := .agg [.lit (.string (wordN k)), .lit (.bool (ownN k)), .lit (.bool (numN k)), .lit (.bool (idxN k)), .lit (.bool (txtN k)), .lit (.int .i64 (mostN k : Int))]
theorem laid_kinds {H : Type} : (Rows.laid_replevin_object_kinds : DataW H) = .agg ((List.range 21).map useD) := rfl
theorem take1_one {α : Type} {l : List α} {t : Nat} {v : α} (h : (l.drop t).take 1 = [v]) : l[t]? = some v := by
  have h1 := congrArg (fun x => x[0]?) h
  simpa [List.getElem?_take, List.getElem?_drop] using h1
theorem useFields : ∃ f0 f1 f2 f3 f4 f5 : Field, Tryz.prog.underlying 69 = some (.struct #[f0, f1, f2, f3, f4, f5]) ∧ f0.type = 9 ∧ f1.type = 4 ∧ f2.type = 4 ∧ f3.type = 4 ∧ f4.type = 4 ∧ f5.type = 3 ∧ f0.offset = 0 ∧ f1.offset = 1 ∧ f2.offset = 2 ∧ f3.offset = 3 ∧ f4.offset = 4 ∧ f5.offset = 5 :=
  ⟨_, _, _, _, _, _, Tryz.underlying69, rfl, rfl, rfl, rfl, rfl, rfl, rfl, rfl, rfl, rfl, rfl, rfl⟩
theorem cUse : Tryz.prog.cellsOf 69 = 6 := by kernel_rfl
theorem cStr : Tryz.prog.cellsOf 9 = 1 := by kernel_rfl
theorem cBool : Tryz.prog.cellsOf 4 = 1 := by kernel_rfl
theorem cInt : Tryz.prog.cellsOf 3 = 1 := by kernel_rfl
set_option maxRecDepth 100000 in
theorem use_of_trod {H : Type} {enc : TypeId × Value → H} {W : World} {base : Nat} {sp : Nat → Bool} {held : Bool} {fuel k : Nat} {cs : List Value} {p : List MemPlace}
    (h : DataW.trod enc Tryz.prog W base sp held fuel 69 cs = some (useD k, p)) : ∀ (j : Nat) (v : Value), (useV k)[j]? = some v → cs[j]? = some v := by
  obtain ⟨f0, f1, f2, f3, f4, f5, hu, t0, t1, t2, t3, t4, t5, o0, o1, o2, o3, o4, o5⟩ := useFields
  obtain ⟨xs, n, _, hx, hlen, hxl, hf⟩ := DataW.trod_struct hu h
  have hd := (Prod.mk.inj hx).1
  unfold useD at hd
  injection hd with hd
  have hxl6 : xs.length = 6 := hxl
  match xs, hxl6 with
  | [y0, y1, y2, y3, y4, y5], _ =>
    simp only [List.map_cons, List.map_nil, List.cons.injEq, and_true] at hd
    obtain ⟨d0, d1, d2, d3, d4, d5⟩ := hd
    have h0 := hf 0 f0 rfl
    have h1 := hf 1 f1 rfl
    have h2 := hf 2 f2 rfl
    have h3 := hf 3 f3 rfl
    have h4 := hf 4 f4 rfl
    have h5 := hf 5 f5 rfl
    rw [t0, o0, cStr] at h0
    rw [t1, o1, cBool] at h1
    rw [t2, o2, cBool] at h2
    rw [t3, o3, cBool] at h3
    rw [t4, o4, cBool] at h4
    rw [t5, o5, cInt] at h5
    obtain ⟨s, e0, q0, _⟩ := DataW.trod_string Tryz.underlying9 h0
    obtain ⟨b1, e1, q1⟩ := DataW.trod_bool Tryz.underlying4 h1
    obtain ⟨b2, e2, q2⟩ := DataW.trod_bool Tryz.underlying4 h2
    obtain ⟨b3, e3, q3⟩ := DataW.trod_bool Tryz.underlying4 h3
    obtain ⟨b4, e4, q4⟩ := DataW.trod_bool Tryz.underlying4 h4
    obtain ⟨n5, e5, q5, _⟩ := DataW.trod_int Tryz.underlying3 h5
    subst q0 q1 q2 q3 q4 q5
    injection d0 with d0; injection d0 with d0
    injection d1 with d1; injection d1 with d1
    injection d2 with d2; injection d2 with d2
    injection d3 with d3; injection d3 with d3
    injection d4 with d4; injection d4 with d4
    injection d5 with d5; injection d5 with _ d5
    have es : s = ⟨(wordN k).toArray⟩ := by
      rw [d0]
    intro j v hv
    unfold useV at hv
    rw [d1, d2, d3, d4, d5, ← es] at hv
    match j, hv with
    | 0, hv => injection hv with hv; rw [← hv]; exact take1_one e0
    | 1, hv => injection hv with hv; rw [← hv]; exact take1_one e1
    | 2, hv => injection hv with hv; rw [← hv]; exact take1_one e2
    | 3, hv => injection hv with hv; rw [← hv]; exact take1_one e3
    | 4, hv => injection hv with hv; rw [← hv]; exact take1_one e4
    | 5, hv => injection hv with hv; rw [← hv]; exact take1_one e5
    | j + 6, hv => simp at hv
set_option maxRecDepth 100000 in
theorem of_laid {W : World} (h : laidMetH Tryz.prog laid6 W) : Env W := by
  unfold laid6 at h
  rw [MakeChecks.laidMetH_plain _ _ _ (by kernel_rfl)] at h
  obtain ⟨aR, sR, hvR, _, _, _⟩ := laid_sentinel h.tail.tail.tail gRan tRan Tryz.underlying155 errRow Tryz.underlying204 Tryz.underlying206 rfl rfl Tryz.underlying9 (by kernel_rfl) cStr
  obtain ⟨aS, sS, hvS, _, _, _⟩ := laid_sentinel h.tail.tail.tail.tail gSyn tSyn Tryz.underlying155 errRow Tryz.underlying204 Tryz.underlying206 rfl rfl Tryz.underlying9 (by kernel_rfl) cStr
  have hP := h.tail.tail
  have hK := h.tail.tail.tail.tail.tail
  clear h
  obtain ⟨ps, ⟨g2, t2, cs2, f2, p2, q2, hg2, ht2, hv2, hd2, _⟩, _⟩ := hP
  obtain ⟨ps', ⟨g5, t5, cs5, f5, p5, q5, hg5, ht5, hv5, hd5, _⟩, _⟩ := hK
  refine ⟨?_, ?_, ⟨_, _, hvS⟩, ⟨_, _, hvR⟩⟩
  · obtain rfl := Option.some.inj (gPow.symm.trans hg2)
    obtain rfl := Option.some.inj (tPow.symm.trans ht2)
    rw [laid_pow] at hd2
    unfold Pow Lib.TabIs
    rw [hv2, ← Lib.cells_of_tab Tryz.underlying191 Tryz.underlying85 (by kernel_rfl) (by kernel_rfl) hd2]
  · obtain rfl := Option.some.inj (gKin.symm.trans hg5)
    obtain rfl := Option.some.inj (tKin.symm.trans ht5)
    rw [laid_kinds] at hd5
    obtain ⟨xs, m1, hx0, hx1, hlen, hn3, hel⟩ := DataW.trod_array Tryz.underlying70 hd5
    rw [cUse] at hel
    have hl := (Prod.mk.inj hx1).1
    injection hl with hl
    intro k hk j v hv
    have h0 := hel k (by omega)
    have hxt : xs[k]? = some (xs[k]'(by omega)) := List.getElem?_eq_getElem _
    rw [hxt] at h0
    have hd : (xs[k]'(by omega)).1 = useD k := by
      have e1 : (xs.map (·.1))[k]? = some (xs[k]'(by omega)).1 := by rw [List.getElem?_map, hxt]; rfl
      rw [← hl, List.getElem?_map, List.getElem?_range (by omega)] at e1
      simpa using e1.symm
    obtain ⟨y, hy⟩ : ∃ y, y = xs[k]'(by omega) := ⟨_, rfl⟩
    rw [← hy] at h0 hd
    obtain ⟨y1, y2⟩ := y
    simp only at hd
    subst hd
    have h1 := use_of_trod h0 j v hv
    have hj : j < 6 := by have := (List.getElem?_eq_some_iff.1 hv).1; simpa [useV] using this
    rw [List.getElem?_take, if_pos hj, List.getElem?_drop] at h1
    have hc := World.var?_cell hg5 hv5 (k * 6 + j)
    rw [hc]
    simpa using h1

/-! ### A name of the reference that came in -/
set_option maxRecDepth 100000 in
theorem nFields : ∃ f0 f1 f2 f3 f4 : Field, Tryz.prog.underlying 23 = some (.struct #[f0, f1, f2, f3, f4]) ∧ f0.type = 3 ∧ f1.type = 9 ∧ f2.type = 3 ∧ f3.type = 3 ∧ f4.type = 9 ∧ f0.offset = 0 ∧ f1.offset = 1 ∧ f2.offset = 2 ∧ f3.offset = 3 ∧ f4.offset = 4 :=
  ⟨_, _, _, _, _, Tryz.underlying23, rfl, rfl, rfl, rfl, rfl, rfl, rfl, rfl, rfl, rfl⟩
theorem cN : Tryz.prog.cellsOf 23 = 5 := by kernel_rfl
set_option maxRecDepth 100000 in
theorem open_N {H : Type} {enc : TypeId × Value → H} {W : World} {base : Nat} {v : Value} {d : DataW H} {p : List MemPlace}
    (hv : Value.okWide Tryz.prog W .any base 23 v) (h : DataW.Trod enc Tryz.prog W 0 (fun _ => true) true 23 v d p) :
    ∃ (k : Int) (o : ByteArray) (n i : Int) (t : ByteArray), v = .agg #[.int .i64 k, .string o, .int .i64 n, .int .i64 i, .string t] ∧
      (Lit.int .i64 k).wf = true ∧ (Lit.int .i64 n).wf = true ∧ (Lit.int .i64 i).wf = true ∧ o.size ≤ maxLen ∧ t.size ≤ maxLen := by
  obtain ⟨f0, f1, f2, f3, f4, hu, t0, t1, t2, t3, t4, o0, o1, o2, o3, o4⟩ := nFields
  obtain ⟨cs, rfl, hsz⟩ := okWide_struct hu hv
  obtain ⟨l⟩ := cs
  have hl5 : l.length = 5 := hsz.trans cN
  obtain ⟨fuel, hf⟩ := h
  obtain ⟨xs, m, _, hx, _, hlen, hg⟩ := DataW.trod_struct hu hf
  have hxl5 : xs.length = 5 := hlen
  match l, hl5, xs, hxl5 with
  | [c0, c1, c2, c3, c4], _, [y0, y1, y2, y3, y4], _ =>
    have h0 := hg 0 f0 rfl
    have h1 := hg 1 f1 rfl
    have h2 := hg 2 f2 rfl
    have h3 := hg 3 f3 rfl
    have h4 := hg 4 f4 rfl
    rw [t0, o0, cInt] at h0
    rw [t1, o1, cStr] at h1
    rw [t2, o2, cInt] at h2
    rw [t3, o3, cInt] at h3
    rw [t4, o4, cStr] at h4
    obtain ⟨a0, e0, _, w0⟩ := DataW.trod_int Tryz.underlying3 h0
    obtain ⟨a1, e1, _, w1⟩ := DataW.trod_string Tryz.underlying9 h1
    obtain ⟨a2, e2, _, w2⟩ := DataW.trod_int Tryz.underlying3 h2
    obtain ⟨a3, e3, _, w3⟩ := DataW.trod_int Tryz.underlying3 h3
    obtain ⟨a4, e4, _, w4⟩ := DataW.trod_string Tryz.underlying9 h4
    simp [Value.cells] at e0 e1 e2 e3 e4
    subst e0 e1 e2 e3 e4
    exact ⟨a0, a1, a2, a3, a4, rfl, w0, w2, w3, w1, w4⟩
end Go.Proofs.YtcdjmkfpclmbdaaGreatDoor
