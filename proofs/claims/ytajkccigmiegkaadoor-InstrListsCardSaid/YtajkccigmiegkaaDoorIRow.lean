/- What the rows of instr share: the table out of what the rows list; the witness's own heap; an instruction that came in. -/
import Derived.Test.YtajkccigmiegkaaDoorRows
import Derived.Test.YtajkccigmiegkaaDoorTie
import Derived.Test.YtajkccigmiegkaaDoorITab
import Derived.Lib.LaidTab
import Derived.ProofKit
import Derived.LaidMore
import Derived.OpenShut
import Derived.Stop.Joined
import Derived.Stop.LaidErr
import Derived.ShutString
import Derived.ChangeOld
import Derived.Lib.SmallJoins
import Derived.Deep.Fields
set_option linter.unusedVariables false
namespace Go.Proofs.YtajkccigmiegkaaDoor
open Go.ChangeShapes Go.WideShapes Go.ChangeAt Go.WideMaps Go.WideElems Go.RowKit Go.Joins Go.Deep

theorem own : ownKnob Tryd.prog.godebug = none := by kernel_rfl
theorem laidOut : laidOutB Tryd.prog = true := by kernel_rfl
def laid1 : List (String × DataW Unit) := [("replevin/instr.operations", Rows.laid_replevin_instr_operations)]

/-- The door's own heap meets the condition. -/
theorem door_met (os : Os) (args : Array Value) : laidMetH Tryd.prog laid1 ((World.doorLaid Tryd.prog 400 os).forCall (fun _ _ => 0) ⟨#[], args, []⟩).memory :=
  laidMetH_of_parts3 (fuel := 8) (laidMet_of_run' 8 (by kernel_rfl) (by kernel_rfl)) (by kernel_rfl) (by kernel_rfl)

theorem gOp : Tryd.prog.globalNamed "replevin/instr.operations" = some 0 := by kernel_rfl
theorem tOp : (Tryd.prog.globals[0]?).map (·.type) = some 85 := by kernel_rfl

/-- An operation as the row lists it. -/
def opD {H : Type} (k : Nat) : DataW H := .agg [.lit (.string (wordN k)), .lit (.int .i64 (formN k)), .lit (.int .i64 (lowN k)), .lit (.int .i64 (highN k))]
theorem laid_ops {H : Type} : (Rows.laid_replevin_instr_operations : DataW H) = .agg ((List.range 27).map opD) := rfl
theorem take1_one {α : Type} {l : List α} {t : Nat} {v : α} (h : (l.drop t).take 1 = [v]) : l[t]? = some v := by
  have h1 := congrArg (fun x => x[0]?) h
  simpa [List.getElem?_take, List.getElem?_drop] using h1
theorem opFields : ∃ f0 f1 f2 f3 : Field, Tryd.prog.underlying 84 = some (.struct #[f0, f1, f2, f3]) ∧ f0.type = 9 ∧ f1.type = 3 ∧ f2.type = 3 ∧ f3.type = 3 ∧ f0.offset = 0 ∧ f1.offset = 1 ∧ f2.offset = 2 ∧ f3.offset = 3 :=
  ⟨_, _, _, _, Tryd.underlying84, rfl, rfl, rfl, rfl, rfl, rfl, rfl, rfl⟩
theorem cOp : Tryd.prog.cellsOf 84 = 4 := by kernel_rfl
theorem cStr : Tryd.prog.cellsOf 9 = 1 := by kernel_rfl
theorem cInt : Tryd.prog.cellsOf 3 = 1 := by kernel_rfl
set_option maxRecDepth 100000 in
theorem op_of_trod {H : Type} {enc : TypeId × Value → H} {W : World} {base : Nat} {sp : Nat → Bool} {held : Bool} {fuel k : Nat} {cs : List Value} {p : List MemPlace}
    (h : DataW.trod enc Tryd.prog W base sp held fuel 84 cs = some (opD k, p)) : ∀ (j : Nat) (v : Value), (opV k)[j]? = some v → cs[j]? = some v := by
  obtain ⟨f0, f1, f2, f3, hu, t0, t1, t2, t3, o0, o1, o2, o3⟩ := opFields
  obtain ⟨xs, n, _, hx, hlen, hxl, hf⟩ := DataW.trod_struct hu h
  have hd := (Prod.mk.inj hx).1
  unfold opD at hd
  injection hd with hd
  have hxl4 : xs.length = 4 := hxl
  match xs, hxl4 with
  | [y0, y1, y2, y3], _ =>
    simp only [List.map_cons, List.map_nil, List.cons.injEq, and_true] at hd
    obtain ⟨d0, d1, d2, d3⟩ := hd
    have h0 := hf 0 f0 rfl
    have h1 := hf 1 f1 rfl
    have h2 := hf 2 f2 rfl
    have h3 := hf 3 f3 rfl
    rw [t0, o0, cStr] at h0
    rw [t1, o1, cInt] at h1
    rw [t2, o2, cInt] at h2
    rw [t3, o3, cInt] at h3
    obtain ⟨s, e0, q0, _⟩ := DataW.trod_string Tryd.underlying9 h0
    obtain ⟨n1, e1, q1, _⟩ := DataW.trod_int Tryd.underlying3 h1
    obtain ⟨n2, e2, q2, _⟩ := DataW.trod_int Tryd.underlying3 h2
    obtain ⟨n3, e3, q3, _⟩ := DataW.trod_int Tryd.underlying3 h3
    subst q0 q1 q2 q3
    injection d0 with d0; injection d0 with d0
    injection d1 with d1; injection d1 with _ d1
    injection d2 with d2; injection d2 with _ d2
    injection d3 with d3; injection d3 with _ d3
    have es : s = ⟨(wordN k).toArray⟩ := by
      rw [d0]
    intro j v hv
    unfold opV at hv
    rw [d1, d2, d3, ← es] at hv
    match j, hv with
    | 0, hv => injection hv with hv; rw [← hv]; exact take1_one e0
    | 1, hv => injection hv with hv; rw [← hv]; exact take1_one e1
    | 2, hv => injection hv with hv; rw [← hv]; exact take1_one e2
    | 3, hv => injection hv with hv; rw [← hv]; exact take1_one e3
    | j + 4, hv => simp at hv
set_option maxRecDepth 100000 in
theorem of_laid {W : World} (h : laidMetH Tryd.prog laid1 W) : Env W := by
  unfold laid1 at h
  rw [MakeChecks.laidMetH_plain _ _ _ (by kernel_rfl)] at h
  obtain ⟨ps', ⟨g5, t5, cs5, f5, p5, q5, hg5, ht5, hv5, hd5, _⟩, _⟩ := h
  obtain rfl := Option.some.inj (gOp.symm.trans hg5)
  obtain rfl := Option.some.inj (tOp.symm.trans ht5)
  rw [laid_ops] at hd5
  obtain ⟨xs, m1, hx0, hx1, hlen, hn3, hel⟩ := DataW.trod_array Tryd.underlying85 hd5
  rw [cOp] at hel
  have hl := (Prod.mk.inj hx1).1
  injection hl with hl
  intro k hk j v hv
  have h0 := hel k (by omega)
  have hxt : xs[k]? = some (xs[k]'(by omega)) := List.getElem?_eq_getElem _
  rw [hxt] at h0
  have hd : (xs[k]'(by omega)).1 = opD k := by
    have e1 : (xs.map (·.1))[k]? = some (xs[k]'(by omega)).1 := by rw [List.getElem?_map, hxt]; rfl
    rw [← hl, List.getElem?_map, List.getElem?_range (by omega)] at e1
    simpa using e1.symm
  obtain ⟨y, hy⟩ : ∃ y, y = xs[k]'(by omega) := ⟨_, rfl⟩
  rw [← hy] at h0 hd
  obtain ⟨y1, y2⟩ := y
  simp only at hd
  subst hd
  have h1 := op_of_trod h0 j v hv
  have hj : j < 4 := by have := (List.getElem?_eq_some_iff.1 hv).1; simpa [opV] using this
  rw [List.getElem?_take, if_pos hj, List.getElem?_drop] at h1
  have hc := World.var?_cell hg5 hv5 (k * 4 + j)
  rw [hc]
  simpa using h1

/-! ### An instruction of the reference, a word that came in -/
set_option maxRecDepth 100000 in
theorem iFields : ∃ f0 f1 f2 f3 : Field, Tryd.prog.underlying 23 = some (.struct #[f0, f1, f2, f3]) ∧ f0.type = 3 ∧ f1.type = 3 ∧ f2.type = 3 ∧ f3.type = 3 ∧ f0.offset = 0 ∧ f1.offset = 1 ∧ f2.offset = 2 ∧ f3.offset = 3 :=
  ⟨_, _, _, _, Tryd.underlying23, rfl, rfl, rfl, rfl, rfl, rfl, rfl, rfl⟩
theorem cI : Tryd.prog.cellsOf 23 = 4 := by kernel_rfl
set_option maxRecDepth 100000 in
theorem open_I {H : Type} {enc : TypeId × Value → H} {W : World} {base : Nat} {v : Value} {d : DataW H} {p : List MemPlace}
    (hv : Value.okWide Tryd.prog W .any base 23 v) (h : DataW.Trod enc Tryd.prog W 0 (fun _ => true) true 23 v d p) :
    ∃ (o a b c : Int), v = .agg #[.int .i64 o, .int .i64 a, .int .i64 b, .int .i64 c] ∧
      (Lit.int .i64 o).wf = true ∧ (Lit.int .i64 a).wf = true ∧ (Lit.int .i64 b).wf = true ∧ (Lit.int .i64 c).wf = true := by
  obtain ⟨f0, f1, f2, f3, hu, t0, t1, t2, t3, o0, o1, o2, o3⟩ := iFields
  obtain ⟨cs, rfl, hsz⟩ := okWide_struct hu hv
  obtain ⟨l⟩ := cs
  have hl4 : l.length = 4 := hsz.trans cI
  obtain ⟨fuel, hf⟩ := h
  obtain ⟨xs, m, _, hx, _, hlen, hg⟩ := DataW.trod_struct hu hf
  have hxl4 : xs.length = 4 := hlen
  match l, hl4, xs, hxl4 with
  | [c0, c1, c2, c3], _, [y0, y1, y2, y3], _ =>
    have h0 := hg 0 f0 rfl
    have h1 := hg 1 f1 rfl
    have h2 := hg 2 f2 rfl
    have h3 := hg 3 f3 rfl
    rw [t0, o0, cInt] at h0
    rw [t1, o1, cInt] at h1
    rw [t2, o2, cInt] at h2
    rw [t3, o3, cInt] at h3
    obtain ⟨a0, e0, _, w0⟩ := DataW.trod_int Tryd.underlying3 h0
    obtain ⟨a1, e1, _, w1⟩ := DataW.trod_int Tryd.underlying3 h1
    obtain ⟨a2, e2, _, w2⟩ := DataW.trod_int Tryd.underlying3 h2
    obtain ⟨a3, e3, _, w3⟩ := DataW.trod_int Tryd.underlying3 h3
    simp [Value.cells] at e0 e1 e2 e3
    subst e0 e1 e2 e3
    exact ⟨a0, a1, a2, a3, rfl, w0, w1, w2, w3⟩
theorem word_of {a : Int} (h : (Lit.int .u32 a).wf = true) : ∃ x : UInt32, a = (x.toNat : Int) := by
  have h0 : 0 ≤ a ∧ a ≤ 4294967295 := by
    simp [Lit.wf, IntKind.min, IntKind.max, IntKind.signed, IntKind.bits] at h
    omega
  exact ⟨UInt32.ofNat a.toNat, by rw [word_ofNat (by omega)]; omega⟩
theorem int_of {a : Int} (h : (Lit.int .i64 a).wf = true) : -9223372036854775808 ≤ a ∧ a ≤ 9223372036854775807 := by
  simp [Lit.wf, IntKind.min, IntKind.max, IntKind.signed, IntKind.bits] at h
  omega
end Go.Proofs.YtajkccigmiegkaaDoor
