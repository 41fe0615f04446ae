/- Two Hashes compared as structs. Plain lemmas on the model's '=='. -/
import Derived.Test.YtedmnepilbfihaaDoorSPcs
import Derived.ChangeKeysEq
set_option linter.unusedVariables false
namespace Go.Proofs.YtedmnepilbfihaaDoor
open Go.RowKit

theorem items_run {P : Program} {w : World} (d : Nat) {e : TypeId} {k : IntKind} (he : P.underlying e = some (.int k)) (xs ys : Array Value) : ∀ is : List Nat, (∀ i ∈ is, ∃ a b : Int, xs[i]? = some (.int k a) ∧ ys[i]? = some (.int k b)) →
    ∃ r : Bool, (Op.eqItems (d + 1) e 1 xs ys is).run P w = .ok r w ∧ ((∀ i ∈ is, xs[i]? = ys[i]?) → r = true)
  | [], _ => ⟨true, by simp [Op.eqItems], fun _ => rfl⟩
  | i :: is, h => by
    obtain ⟨a, b, ha, hb⟩ := h i (List.mem_cons_self ..)
    obtain ⟨r, hr, hiff⟩ := items_run (P := P) (w := w) d he xs ys is fun j hj => h j (List.mem_cons_of_mem _ hj)
    have pk : P.plainKey e = true := by unfold Program.plainKey; rw [he]
    have p1 := run_part_plain (P := P) w pk (off := i * 1) (by rw [Nat.mul_one]; exact ha)
    have p2 := run_part_plain (P := P) w pk (off := i * 1) (by rw [Nat.mul_one]; exact hb)
    have p3 : (Op.equalIn (d + 1) e (.int k a) (.int k b)).run P w = .ok (a == b) w := run_equalIn_int w d e k k a b he
    cases hab : (a == b)
    · refine ⟨false, by simp only [Op.eqItems, Sem.run_bind, p1, p2, p3, hab, Result.andThen_ok, Bool.not_false, if_true, Sem.run_pure], fun hall => ?_⟩
      have := hall i (List.mem_cons_self ..)
      rw [ha, hb] at this
      injection this with this
      injection this with _ this
      rw [this] at hab; simp at hab
    · exact ⟨r, by simp only [Op.eqItems, Sem.run_bind, p1, p2, p3, hab, Result.andThen_ok, Bool.not_true, Bool.false_eq_true, if_false, hr], fun hall => hiff fun j hj => hall j (List.mem_cons_of_mem _ hj)⟩

theorem isAggW : ∀ w, (isAgg 64).run Tryd.prog w = .ok true w := fun w => by kernel_rfl
theorem isAggR : ∀ w, (isAgg 65).run Tryd.prog w = .ok true w := fun w => by kernel_rfl
theorem isAggI : ∀ w, (isAgg 3).run Tryd.prog w = .ok false w := fun w => by kernel_rfl
theorem sizeW : ∀ w, (sizeOf 64).run Tryd.prog w = .ok 8 w := fun w => by kernel_rfl
theorem sizeR : ∀ w, (sizeOf 65).run Tryd.prog w = .ok 64 w := fun w => by kernel_rfl
theorem cells32 : Tryd.prog.cellsOf 63 = 1 := by kernel_rfl
theorem hashFields : ∃ f0 f1 f2 : Field, Tryd.prog.underlying 67 = some (.struct #[f0, f1, f2]) ∧ f0.name ≠ "_" ∧ f1.name ≠ "_" ∧ f2.name ≠ "_" ∧ f0.type = 64 ∧ f1.type = 65 ∧ f2.type = 3 ∧ f0.offset = 0 ∧ f1.offset = 8 ∧ f2.offset = 72 :=
  ⟨_, _, _, Tryd.underlying67, by decide, by decide, by decide, rfl, rfl, rfl, rfl, rfl, rfl⟩

theorem eq_hash (W W' : List UInt32) (R R' : List UInt8) (L L' : Int) (hW : W.length = 8) (hW' : W'.length = 8) (hR : R.length = 64) (hR' : R'.length = 64) (w : World) :
    ∃ r : Bool, (binOp .eql 67 (.agg (W.map wv ++ R.map bv ++ [Value.int .i64 L]).toArray) (.agg (W'.map wv ++ R'.map bv ++ [Value.int .i64 L']).toArray)).run Tryd.prog w = .ok (.bool r) w ∧ (W = W' → R = R' → L = L' → r = true) ∧ (L ≠ L' → r = false) := by
  obtain ⟨f0, f1, f2, hu, n0, n1, n2, t0, t1, t2, o0, o1, o2⟩ := hashFields
  have hfs : Tryd.prog.fieldsOf 67 = #[f0, f1, f2] := by unfold Program.fieldsOf; rw [hu]
  have hst : Tryd.prog.stoodInHeld 67 = false := by kernel_rfl
  have parts : ∀ (W : List UInt32) (R : List UInt8) (L : Int), W.length = 8 → R.length = 64 →
      (part f0.type (W.map wv ++ R.map bv ++ [Value.int .i64 L]).toArray f0.offset).run Tryd.prog w = .ok (.agg (W.map wv).toArray) w ∧
      (part f1.type (W.map wv ++ R.map bv ++ [Value.int .i64 L]).toArray f1.offset).run Tryd.prog w = .ok (.agg (R.map bv).toArray) w ∧
      (part f2.type (W.map wv ++ R.map bv ++ [Value.int .i64 L]).toArray f2.offset).run Tryd.prog w = .ok (.int .i64 L) w := by
    intro W R L hW hR
    have l1 : (W.map wv).length = 8 := by rw [List.length_map, hW]
    have l2 : (R.map bv).length = 64 := by rw [List.length_map, hR]
    refine ⟨?_, ?_, ?_⟩
    · rw [t0, o0]
      simp only [part, Sem.run_bind, isAggW, Result.andThen_ok, if_true, sizeW, Sem.run_pure]
      congr 2
      apply Array.ext'
      rw [Array.toList_extract, List.extract_eq_take_drop]
      simp only [List.toList_toArray, List.drop_zero, Nat.zero_add, Nat.sub_zero]
      rw [List.append_assoc, List.take_append_of_le_length (by omega), List.take_of_length_le (by omega)]
    · rw [t1, o1]
      simp only [part, Sem.run_bind, isAggR, Result.andThen_ok, if_true, sizeR, Sem.run_pure]
      congr 2
      apply Array.ext'
      rw [Array.toList_extract, List.extract_eq_take_drop]
      simp only [List.toList_toArray]
      rw [List.append_assoc, List.drop_append, l1, List.drop_eq_nil_of_le (by omega), Nat.sub_self, List.drop_zero, List.nil_append, List.take_append_of_le_length (by omega), List.take_of_length_le (by omega)]
    · rw [t2, o2]
      have e : (W.map wv ++ R.map bv ++ [Value.int .i64 L]).toArray[72]? = some (.int .i64 L) := by
        rw [List.getElem?_toArray, List.getElem?_append_right (by simp only [List.length_append, l1, l2]; omega)]
        simp only [List.length_append, l1, l2]; rfl
      simp only [part, Sem.run_bind, isAggI, Result.andThen_ok, Bool.false_eq_true, if_false, e, Sem.run_pure]
  obtain ⟨p0, p1, p2⟩ := parts W R L hW hR
  obtain ⟨q0, q1, q2⟩ := parts W' R' L' hW' hR'
  obtain ⟨i32, hi32⟩ : ∃ i, Tryd.prog.info? 63 = some i := info_of_underlying Tryd.underlying63
  obtain ⟨r0, hr0, hr0i⟩ := items_run (P := Tryd.prog) (w := w) 9997 (e := 63) (k := .u32) Tryd.underlying63 (W.map wv).toArray (W'.map wv).toArray (List.range 8) (fun i hi => by
    have hi8 := List.mem_range.1 hi
    refine ⟨((W[i]'(by omega)).toNat : Int), ((W'[i]'(by omega)).toNat : Int), ?_, ?_⟩
    · rw [List.getElem?_toArray, List.getElem?_map, List.getElem?_eq_getElem (by omega)]; rfl
    · rw [List.getElem?_toArray, List.getElem?_map, List.getElem?_eq_getElem (by omega)]; rfl)
  have e0 : (Op.equalIn 9999 f0.type (.agg (W.map wv).toArray) (.agg (W'.map wv).toArray)).run Tryd.prog w = .ok r0 w := by
    rw [t0, run_equalIn_array w 9998 _ _ Tryd.underlying64 hi32, cells32]; exact hr0
  have e1 : (Op.equalIn 9999 f1.type (.agg (R.map bv).toArray) (.agg (R'.map bv).toArray)).run Tryd.prog w = .ok (R == R') w := by
    rw [t1]; exact run_equalIn_bytes w 9997 65 5 64 Tryd.underlying65 Tryd.underlying5 size1 R R' hR hR'
  have e2 : (Op.equalIn 9999 f2.type (.int .i64 L) (.int .i64 L')).run Tryd.prog w = .ok (L == L') w := by
    rw [t2]; exact run_equalIn_int w 9998 3 .i64 .i64 L L' Tryd.underlying3
  rw [run_eql_struct, run_equalIn_agg w 9999 67 _ _ (by rw [hfs]; exact hu) hst, hfs]
  simp only [Op.eqFields, n0, n1, n2, ne_eq, not_false_eq_true, if_true, Sem.run_bind, p0, p1, p2, q0, q1, q2, e0, e1, e2, Result.andThen_ok]
  refine ⟨r0 && (R == R') && (L == L'), ?_, ?_, ?_⟩
  · cases r0 <;> cases h1 : (R == R') <;> cases h2 : (L == L') <;> simp only [Bool.not_true, Bool.not_false, Bool.false_eq_true, if_true, if_false, Sem.run_bind, Sem.run_pure, p1, p2, q1, q2, e1, e2, h1, h2, Result.andThen_ok, Bool.and_true, Bool.and_false, Bool.true_and, Bool.false_and]
  · rintro rfl rfl rfl
    rw [hr0i fun _ _ => rfl]; simp
  · intro h
    have : (L == L') = false := by simpa using h
    rw [this, Bool.and_false]
end Go.Proofs.YtedmnepilbfihaaDoor
