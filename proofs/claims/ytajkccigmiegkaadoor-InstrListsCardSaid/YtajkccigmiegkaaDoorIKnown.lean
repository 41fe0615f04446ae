/- instr: the examples of the chapter; the laws on numbers. -/
import Derived.Test.YtajkccigmiegkaaDoorICode
import Derived.Test.YtajkccigmiegkaaDoorICalcB
import Derived.Test.YtajkccigmiegkaaDoorICalcS
import Derived.ChangeKeysEq
set_option linter.unusedVariables false
namespace Go.Proofs.YtajkccigmiegkaaDoor
open Go.RowKit

theorem item_step {P : Program} {w : World} (d : Nat) {e : TypeId} {k : IntKind} (he : P.underlying e = some (.int k)) (xs ys : Array Value) (i : Nat) (is : List Nat) (a b : Int) (ha : xs[i]? = some (.int k a)) (hb : ys[i]? = some (.int k b)) :
    (Op.eqItems (d + 1) e 1 xs ys (i :: is)).run P w = if a = b then (Op.eqItems (d + 1) e 1 xs ys is).run P w else .ok false w := by
  have pk : P.plainKey e = true := by unfold Program.plainKey; rw [he]
  have p1 := run_part_plain (P := P) w pk (off := i * 1) (by rw [Nat.mul_one]; exact ha)
  have p2 := run_part_plain (P := P) w pk (off := i * 1) (by rw [Nat.mul_one]; exact hb)
  have p3 : (Op.equalIn (d + 1) e (.int k a) (.int k b)).run P w = .ok (a == b) w := run_equalIn_int w d e k k a b he
  by_cases hab : a = b
  · have h1 : (a == b) = true := by simp [hab]
    rw [if_pos hab]
    simp only [Op.eqItems, Sem.run_bind, p1, p2, p3, h1, Result.andThen_ok, Bool.not_true, Bool.false_eq_true, if_false]
  · have h1 : (a == b) = false := by simp [hab]
    rw [if_neg hab]
    simp only [Op.eqItems, Sem.run_bind, p1, p2, p3, h1, Result.andThen_ok, Bool.not_false, if_true, Sem.run_pure]
theorem eq_by (a b c d e f g h : Int) (W : World) : (binOp .eql 43 (byV a b c d) (byV e f g h)).run Tryd.prog W = .ok (.bool (decide (a = e ∧ b = f ∧ c = g ∧ d = h))) W := by
  obtain ⟨i8, hi8, _⟩ := info_parts (P := Tryd.prog) (e := 5) (z := .int .u8 0) (size := 1) (bytes := 1) (by kernel_rfl)
  have hc : Tryd.prog.cellsOf 5 = 1 := by kernel_rfl
  have hr : (Op.equalIn 10000 43 (byV a b c d) (byV e f g h)).run Tryd.prog W = .ok (decide (a = e ∧ b = f ∧ c = g ∧ d = h)) W := by
    rw [run_equalIn_array (w := W) 9999 _ _ Tryd.underlying43 hi8, hc, show List.range 4 = [0, 1, 2, 3] from rfl,
      item_step 9998 Tryd.underlying5 _ _ 0 _ a e rfl rfl, item_step 9998 Tryd.underlying5 _ _ 1 _ b f rfl rfl, item_step 9998 Tryd.underlying5 _ _ 2 _ c g rfl rfl, item_step 9998 Tryd.underlying5 _ _ 3 _ d h rfl rfl]
    by_cases h1 : a = e <;> by_cases h2 : b = f <;> by_cases h3 : c = g <;> by_cases h4 : d = h <;> simp [h1, h2, h3, h4, Op.eqItems]
  simp only [binOp]
  simp [Op.equal, Op.maxDepth, hr]
/-- The array in a block of the call's own. -/
def AR (w : World) (cs : Array Value) (V : World) : Prop := Blk V w.heap.size 43 cs ∧ Below w.heap.size w V
theorem AR.under {w V V' : World} {cs : Array Value} (h : AR w cs V) (hb : Below V.heap.size V V') : AR w cs V' := ⟨h.1.under hb, h.2.trans (hb.mono h.2.size)⟩
theorem ar_new {V V1 : World} {cs : Array Value} (hb : Below (V.alloc (.cells cs 43)).heap.size (V.alloc (.cells cs 43)) V1) : AR V cs V1 := ⟨(Blk.new V _ cs).under hb, (below_alloc0 V _).trans (hb.mono (by simp))⟩
set_option maxHeartbeats 1000000 in
set_option maxRecDepth 100000 in
theorem known_any (w : World) (hE : Env w) : Calls Tryd.prog 13 #[] w fun e w' => e = .returned (.bool true) ∧ Below w.heap.size w w' := by
  have H0 : Hid (∀ W, Below w.heap.size w W → Calls Tryd.prog 25 #[inV 16 2 1 (-2)] W fun e w' => e = .returned (.tuple #[byV 16 33 254 255, .int .i64 0]) ∧ Below W.heap.size W w') := Lib.hid fun W hb => encode_any 16 2 1 (-2) W (hE.below hb)
  have HU7 : Hid (∀ W, Calls Tryd.prog 38 #[.int .i64 (-7)] W fun e w' => e = .returned (.int .u32 4294967289) ∧ W = w') := Lib.hid fun W => (unsigned_any (-7) W).mono fun _ _ h => ⟨h.1, h.2.symm⟩
  have HU1 : Hid (∀ W, Calls Tryd.prog 38 #[.int .i64 (-1)] W fun e w' => e = .returned (.int .u32 4294967295) ∧ W = w') := Lib.hid fun W => (unsigned_any (-1) W).mono fun _ _ h => ⟨h.1, h.2.symm⟩
  have HC1 : Hid (∀ W, Calls Tryd.prog 35 #[.int .i64 7, .int .u32 4294967289, .int .u32 2] W fun e w' => e = .returned (.tuple #[.int .u32 4294967293, .int .i64 0]) ∧ Below W.heap.size W w') := Lib.hid fun W => calculate_any 7 4294967289 2 W
  have HC2 : Hid (∀ W, Calls Tryd.prog 35 #[.int .i64 8, .int .u32 4294967289, .int .u32 2] W fun e w' => e = .returned (.tuple #[.int .u32 4294967295, .int .i64 0]) ∧ Below W.heap.size W w') := Lib.hid fun W => calculate_any 8 4294967289 2 W
  have HC3 : Hid (∀ W, Calls Tryd.prog 35 #[.int .i64 7, .int .u32 2147483648, .int .u32 4294967295] W fun e w' => e = .returned (.tuple #[.int .u32 2147483648, .int .i64 0]) ∧ Below W.heap.size W w') := Lib.hid fun W => calculate_any 7 2147483648 4294967295 W
  have HS1 : Hid (∀ W, Calls Tryd.prog 37 #[.int .u32 4294967293] W fun e w' => e = .returned (.int .i64 (-3)) ∧ W = w') := Lib.hid fun W => (signed_any 4294967293 W).mono fun _ _ h => ⟨h.1, h.2.symm⟩
  have HS2 : Hid (∀ W, Calls Tryd.prog 37 #[.int .u32 4294967295] W fun e w' => e = .returned (.int .i64 (-1)) ∧ W = w') := Lib.hid fun W => (signed_any 4294967295 W).mono fun _ _ h => ⟨h.1, h.2.symm⟩
  have hq : ∀ W, (binOp .eql 43 (byV 16 33 254 255) (byV 16 33 254 255)).run Tryd.prog W = .ok (.bool true) W := fun W => eq_by 16 33 254 255 16 33 254 255 W
  have HB := Lib.hid (Below.refl w.heap.size w)
  clear hE
  go_enter Tryd.func13, Tryd.ntmps13
  go_wp2_with (first
    | (go_at_call 25; refine (H0.out _ HB.out).mono ?_; rintro e V ⟨rfl, hb⟩; replace HB := Lib.hid (HB.out.trans (hb.mono HB.out.size)); clear hb)
    | (go_at_call 38; (with_reducible refine (HU7.out _).mono ?_); rintro e w' ⟨rfl, rfl⟩)
    | (go_at_call 38; (with_reducible refine (HU1.out _).mono ?_); rintro e w' ⟨rfl, rfl⟩)
    | (go_at_call 35; (with_reducible refine (HC1.out _).mono ?_); rintro e V1 ⟨rfl, hb⟩; have HV := Lib.hid (ar_new hb); clear hb)
    | (go_at_call 35; (with_reducible refine (HC2.out _).mono ?_); rintro e V2 ⟨rfl, hb⟩; replace HV := Lib.hid (HV.out.under hb); clear hb)
    | (go_at_call 35; (with_reducible refine (HC3.out _).mono ?_); rintro e V3 ⟨rfl, hb⟩; replace HV := Lib.hid (HV.out.under hb); clear hb; have c0 := HV.out.1.cell 0; have c1 := HV.out.1.cell 1; have c2 := HV.out.1.cell 2; have c3 := HV.out.1.cell 3)
    | (go_at_call 37; (with_reducible refine (HS1.out _).mono ?_); rintro e w' ⟨rfl, rfl⟩)
    | (go_at_call 37; (with_reducible refine (HS2.out _).mono ?_); rintro e w' ⟨rfl, rfl⟩))
  go_ret
  exact ⟨rfl, HB.out.trans (HV.out.2.mono HB.out.size)⟩
end Go.Proofs.YtajkccigmiegkaaDoor
