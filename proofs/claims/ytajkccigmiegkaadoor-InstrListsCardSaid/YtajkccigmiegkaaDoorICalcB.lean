/- instr: Calculate. -/
import Derived.Test.YtajkccigmiegkaaDoorICalc
set_option linter.unusedVariables false
namespace Go.Proofs.YtajkccigmiegkaaDoor
open Go.RowKit Go.MapKept Go.ChangeMaps

theorem run_equalIn_fn {P : Program} {t : TypeId} {ps rs : Array TypeId} {b : Bool} (h : P.underlying t = some (.func ps rs b)) (d : Nat) (f : Fn) (w : World) : (Op.equalIn (d + 1) t (.func f #[] #[]) .nilFunc).run P w = .ok false w := by
  simp [Op.equalIn, run_underlying h]
theorem run_equalIn_nilfn {P : Program} {t : TypeId} {ps rs : Array TypeId} {b : Bool} (h : P.underlying t = some (.func ps rs b)) (d : Nat) (w : World) : (Op.equalIn (d + 1) t .nilFunc .nilFunc).run P w = .ok true w := by
  simp [Op.equalIn, run_underlying h]
theorem run_eql_fn {P : Program} {t : TypeId} {ps rs : Array TypeId} {b : Bool} (h : P.underlying t = some (.func ps rs b)) (f : Fn) (w : World) : (binOp .eql t (.func f #[] #[]) .nilFunc).run P w = .ok (.bool false) w := by
  simp only [binOp]
  simp [Op.equal, Op.maxDepth, run_equalIn_fn h 9999 f w]
theorem run_eql_nilfn {P : Program} {t : TypeId} {ps rs : Array TypeId} {b : Bool} (h : P.underlying t = some (.func ps rs b)) (w : World) : (binOp .eql t .nilFunc .nilFunc).run P w = .ok (.bool true) w := by
  simp only [binOp]
  simp [Op.equal, Op.maxDepth, run_equalIn_nilfn h 9999 w]
set_option maxRecDepth 100000 in
theorem calc4_any (x y : UInt32) (w : World) :
    Calls Tryd.prog 35 #[.int .i64 4, wv x, wv y] w fun e w' => e = .returned (.tuple #[wv (wadd x y), .int .i64 0]) ∧ Below w.heap.size w w' := by
  obtain ⟨z, hz⟩ : ∃ z : UInt32, z = (wadd x y) := ⟨_, rfl⟩
  have HA : Hid (∀ W, Calls Tryd.prog 56 #[.int .i64 4] W fun e w' => e = .returned (.func (.func 62) #[] #[]) ∧ Below W.heap.size W w') := Lib.hid fun W => arithmetic_any 4 W
  have HF : Hid (∀ W, Calls Tryd.prog 62 #[wv x, wv y] W fun e w' => e = .returned (wv z) ∧ w' = W) := Lib.hid fun W => by rw [hz]; exact fAdd_any x y W
  have HB := Lib.hid (Below.refl w.heap.size w)
  rw [← hz]
  clear hz
  have hq1 := fun W => run_eql_fn Tryd.underlying91 (.func 62) W
  have hq2 := fun W => run_eql_nilfn Tryd.underlying91 W
  go_enter Tryd.func35, Tryd.ntmps35
  go_wp2_with (first
    | (go_at_call 56; refine (HA.out _).mono ?_; rintro e V ⟨rfl, hb⟩; replace HB := Lib.hid (HB.out.trans (hb.mono HB.out.size)); clear hb)
    | (go_at_call 62; refine (HF.out _).mono ?_; rintro e V ⟨rfl, rfl⟩))
  go_ret2
  exact ⟨rfl, HB.out⟩
set_option maxRecDepth 100000 in
theorem calc5_any (x y : UInt32) (w : World) :
    Calls Tryd.prog 35 #[.int .i64 5, wv x, wv y] w fun e w' => e = .returned (.tuple #[wv (wsub x y), .int .i64 0]) ∧ Below w.heap.size w w' := by
  obtain ⟨z, hz⟩ : ∃ z : UInt32, z = (wsub x y) := ⟨_, rfl⟩
  have HA : Hid (∀ W, Calls Tryd.prog 56 #[.int .i64 5] W fun e w' => e = .returned (.func (.func 63) #[] #[]) ∧ Below W.heap.size W w') := Lib.hid fun W => arithmetic_any 5 W
  have HF : Hid (∀ W, Calls Tryd.prog 63 #[wv x, wv y] W fun e w' => e = .returned (wv z) ∧ w' = W) := Lib.hid fun W => by rw [hz]; exact fSub_any x y W
  have HB := Lib.hid (Below.refl w.heap.size w)
  rw [← hz]
  clear hz
  have hq1 := fun W => run_eql_fn Tryd.underlying91 (.func 63) W
  have hq2 := fun W => run_eql_nilfn Tryd.underlying91 W
  go_enter Tryd.func35, Tryd.ntmps35
  go_wp2_with (first
    | (go_at_call 56; refine (HA.out _).mono ?_; rintro e V ⟨rfl, hb⟩; replace HB := Lib.hid (HB.out.trans (hb.mono HB.out.size)); clear hb)
    | (go_at_call 63; refine (HF.out _).mono ?_; rintro e V ⟨rfl, rfl⟩))
  go_ret2
  exact ⟨rfl, HB.out⟩
set_option maxRecDepth 100000 in
theorem calc6_any (x y : UInt32) (w : World) :
    Calls Tryd.prog 35 #[.int .i64 6, wv x, wv y] w fun e w' => e = .returned (.tuple #[wv (wmul x y), .int .i64 0]) ∧ Below w.heap.size w w' := by
  obtain ⟨z, hz⟩ : ∃ z : UInt32, z = (wmul x y) := ⟨_, rfl⟩
  have HA : Hid (∀ W, Calls Tryd.prog 56 #[.int .i64 6] W fun e w' => e = .returned (.func (.func 64) #[] #[]) ∧ Below W.heap.size W w') := Lib.hid fun W => arithmetic_any 6 W
  have HF : Hid (∀ W, Calls Tryd.prog 64 #[wv x, wv y] W fun e w' => e = .returned (wv z) ∧ w' = W) := Lib.hid fun W => by rw [hz]; exact fMul_any x y W
  have HB := Lib.hid (Below.refl w.heap.size w)
  rw [← hz]
  clear hz
  have hq1 := fun W => run_eql_fn Tryd.underlying91 (.func 64) W
  have hq2 := fun W => run_eql_nilfn Tryd.underlying91 W
  go_enter Tryd.func35, Tryd.ntmps35
  go_wp2_with (first
    | (go_at_call 56; refine (HA.out _).mono ?_; rintro e V ⟨rfl, hb⟩; replace HB := Lib.hid (HB.out.trans (hb.mono HB.out.size)); clear hb)
    | (go_at_call 64; refine (HF.out _).mono ?_; rintro e V ⟨rfl, rfl⟩))
  go_ret2
  exact ⟨rfl, HB.out⟩
set_option maxRecDepth 100000 in
theorem calc7_any (x y : UInt32) (w : World) (hy : ¬ (y.toNat : Int) = 0) :
    Calls Tryd.prog 35 #[.int .i64 7, wv x, wv y] w fun e w' => e = .returned (.tuple #[wv (us ((sg x).tdiv (sg y))), .int .i64 0]) ∧ Below w.heap.size w w' := by
  obtain ⟨z, hz⟩ : ∃ z : UInt32, z = (us ((sg x).tdiv (sg y))) := ⟨_, rfl⟩
  have HA : Hid (∀ W, Calls Tryd.prog 56 #[.int .i64 7] W fun e w' => e = .returned (.func (.func 65) #[] #[]) ∧ Below W.heap.size W w') := Lib.hid fun W => arithmetic_any 7 W
  have HF : Hid (∀ W, Calls Tryd.prog 65 #[wv x, wv y] W fun e w' => e = .returned (wv z) ∧ w' = W) := Lib.hid fun W => by rw [hz]; exact fDiv_any x y W (fun h => hy ((sg_zero y).1 h))
  have HB := Lib.hid (Below.refl w.heap.size w)
  rw [← hz]
  clear hz
  have hq1 := fun W => run_eql_fn Tryd.underlying91 (.func 65) W
  have hq2 := fun W => run_eql_nilfn Tryd.underlying91 W
  go_enter Tryd.func35, Tryd.ntmps35
  go_wp2_with (first
    | (go_at_call 56; refine (HA.out _).mono ?_; rintro e V ⟨rfl, hb⟩; replace HB := Lib.hid (HB.out.trans (hb.mono HB.out.size)); clear hb)
    | (go_at_call 65; refine (HF.out _).mono ?_; rintro e V ⟨rfl, rfl⟩))
  go_ret2
  exact ⟨rfl, HB.out⟩
set_option maxRecDepth 100000 in
theorem calc8_any (x y : UInt32) (w : World) (hy : ¬ (y.toNat : Int) = 0) :
    Calls Tryd.prog 35 #[.int .i64 8, wv x, wv y] w fun e w' => e = .returned (.tuple #[wv (us ((sg x).tmod (sg y))), .int .i64 0]) ∧ Below w.heap.size w w' := by
  obtain ⟨z, hz⟩ : ∃ z : UInt32, z = (us ((sg x).tmod (sg y))) := ⟨_, rfl⟩
  have HA : Hid (∀ W, Calls Tryd.prog 56 #[.int .i64 8] W fun e w' => e = .returned (.func (.func 66) #[] #[]) ∧ Below W.heap.size W w') := Lib.hid fun W => arithmetic_any 8 W
  have HF : Hid (∀ W, Calls Tryd.prog 66 #[wv x, wv y] W fun e w' => e = .returned (wv z) ∧ w' = W) := Lib.hid fun W => by rw [hz]; exact fMod_any x y W (fun h => hy ((sg_zero y).1 h))
  have HB := Lib.hid (Below.refl w.heap.size w)
  rw [← hz]
  clear hz
  have hq1 := fun W => run_eql_fn Tryd.underlying91 (.func 66) W
  have hq2 := fun W => run_eql_nilfn Tryd.underlying91 W
  go_enter Tryd.func35, Tryd.ntmps35
  go_wp2_with (first
    | (go_at_call 56; refine (HA.out _).mono ?_; rintro e V ⟨rfl, hb⟩; replace HB := Lib.hid (HB.out.trans (hb.mono HB.out.size)); clear hb)
    | (go_at_call 66; refine (HF.out _).mono ?_; rintro e V ⟨rfl, rfl⟩))
  go_ret2
  exact ⟨rfl, HB.out⟩
set_option maxRecDepth 100000 in
theorem calc14_any (x y : UInt32) (w : World) :
    Calls Tryd.prog 35 #[.int .i64 14, wv x, wv y] w fun e w' => e = .returned (.tuple #[wv (if sg x < sg y then 1 else 0), .int .i64 0]) ∧ Below w.heap.size w w' := by
  obtain ⟨z, hz⟩ : ∃ z : UInt32, z = (if sg x < sg y then 1 else 0) := ⟨_, rfl⟩
  have HA : Hid (∀ W, Calls Tryd.prog 56 #[.int .i64 14] W fun e w' => e = .returned (.func (.func 67) #[] #[]) ∧ Below W.heap.size W w') := Lib.hid fun W => arithmetic_any 14 W
  have HF : Hid (∀ W, Calls Tryd.prog 67 #[wv x, wv y] W fun e w' => e = .returned (wv z) ∧ w' = W) := Lib.hid fun W => by rw [hz]; exact fLess_any x y W
  have HB := Lib.hid (Below.refl w.heap.size w)
  rw [← hz]
  clear hz
  have hq1 := fun W => run_eql_fn Tryd.underlying91 (.func 67) W
  have hq2 := fun W => run_eql_nilfn Tryd.underlying91 W
  go_enter Tryd.func35, Tryd.ntmps35
  go_wp2_with (first
    | (go_at_call 56; refine (HA.out _).mono ?_; rintro e V ⟨rfl, hb⟩; replace HB := Lib.hid (HB.out.trans (hb.mono HB.out.size)); clear hb)
    | (go_at_call 67; refine (HF.out _).mono ?_; rintro e V ⟨rfl, rfl⟩))
  go_ret2
  exact ⟨rfl, HB.out⟩
set_option maxRecDepth 100000 in
theorem calc9_any (x y : UInt32) (w : World) :
    Calls Tryd.prog 35 #[.int .i64 9, wv x, wv y] w fun e w' => e = .returned (.tuple #[wv (wand x y), .int .i64 0]) ∧ Below w.heap.size w w' := by
  obtain ⟨z, hz⟩ : ∃ z : UInt32, z = (wand x y) := ⟨_, rfl⟩
  have HA : Hid (∀ W, Calls Tryd.prog 56 #[.int .i64 9] W fun e w' => e = .returned (.nilFunc) ∧ Below W.heap.size W w') := Lib.hid fun W => arithmetic_any 9 W
  have HL : Hid (∀ W, Calls Tryd.prog 57 #[.int .i64 9] W fun e w' => e = .returned (.func (.func 69) #[] #[]) ∧ Below W.heap.size W w') := Lib.hid fun W => logic_any 9 W
  have HF : Hid (∀ W, Calls Tryd.prog 69 #[wv x, wv y] W fun e w' => e = .returned (wv z) ∧ w' = W) := Lib.hid fun W => by rw [hz]; exact fAnd_any x y W
  have HB := Lib.hid (Below.refl w.heap.size w)
  rw [← hz]
  clear hz
  have hq1 := fun W => run_eql_fn Tryd.underlying91 (.func 69) W
  have hq2 := fun W => run_eql_nilfn Tryd.underlying91 W
  go_enter Tryd.func35, Tryd.ntmps35
  go_wp2_with (first
    | (go_at_call 56; refine (HA.out _).mono ?_; rintro e V ⟨rfl, hb⟩; replace HB := Lib.hid (HB.out.trans (hb.mono HB.out.size)); clear hb)
    | (go_at_call 57; refine (HL.out _).mono ?_; rintro e V ⟨rfl, hb⟩; replace HB := Lib.hid (HB.out.trans (hb.mono HB.out.size)); clear hb)
    | (go_at_call 69; refine (HF.out _).mono ?_; rintro e V ⟨rfl, rfl⟩))
  go_ret2
  exact ⟨rfl, HB.out⟩
set_option maxRecDepth 100000 in
theorem calc10_any (x y : UInt32) (w : World) :
    Calls Tryd.prog 35 #[.int .i64 10, wv x, wv y] w fun e w' => e = .returned (.tuple #[wv (wor x y), .int .i64 0]) ∧ Below w.heap.size w w' := by
  obtain ⟨z, hz⟩ : ∃ z : UInt32, z = (wor x y) := ⟨_, rfl⟩
  have HA : Hid (∀ W, Calls Tryd.prog 56 #[.int .i64 10] W fun e w' => e = .returned (.nilFunc) ∧ Below W.heap.size W w') := Lib.hid fun W => arithmetic_any 10 W
  have HL : Hid (∀ W, Calls Tryd.prog 57 #[.int .i64 10] W fun e w' => e = .returned (.func (.func 70) #[] #[]) ∧ Below W.heap.size W w') := Lib.hid fun W => logic_any 10 W
  have HF : Hid (∀ W, Calls Tryd.prog 70 #[wv x, wv y] W fun e w' => e = .returned (wv z) ∧ w' = W) := Lib.hid fun W => by rw [hz]; exact fOr_any x y W
  have HB := Lib.hid (Below.refl w.heap.size w)
  rw [← hz]
  clear hz
  have hq1 := fun W => run_eql_fn Tryd.underlying91 (.func 70) W
  have hq2 := fun W => run_eql_nilfn Tryd.underlying91 W
  go_enter Tryd.func35, Tryd.ntmps35
  go_wp2_with (first
    | (go_at_call 56; refine (HA.out _).mono ?_; rintro e V ⟨rfl, hb⟩; replace HB := Lib.hid (HB.out.trans (hb.mono HB.out.size)); clear hb)
    | (go_at_call 57; refine (HL.out _).mono ?_; rintro e V ⟨rfl, hb⟩; replace HB := Lib.hid (HB.out.trans (hb.mono HB.out.size)); clear hb)
    | (go_at_call 70; refine (HF.out _).mono ?_; rintro e V ⟨rfl, rfl⟩))
  go_ret2
  exact ⟨rfl, HB.out⟩
set_option maxRecDepth 100000 in
theorem calc11_any (x y : UInt32) (w : World) :
    Calls Tryd.prog 35 #[.int .i64 11, wv x, wv y] w fun e w' => e = .returned (.tuple #[wv (wxor x y), .int .i64 0]) ∧ Below w.heap.size w w' := by
  obtain ⟨z, hz⟩ : ∃ z : UInt32, z = (wxor x y) := ⟨_, rfl⟩
  have HA : Hid (∀ W, Calls Tryd.prog 56 #[.int .i64 11] W fun e w' => e = .returned (.nilFunc) ∧ Below W.heap.size W w') := Lib.hid fun W => arithmetic_any 11 W
  have HL : Hid (∀ W, Calls Tryd.prog 57 #[.int .i64 11] W fun e w' => e = .returned (.func (.func 71) #[] #[]) ∧ Below W.heap.size W w') := Lib.hid fun W => logic_any 11 W
  have HF : Hid (∀ W, Calls Tryd.prog 71 #[wv x, wv y] W fun e w' => e = .returned (wv z) ∧ w' = W) := Lib.hid fun W => by rw [hz]; exact fXor_any x y W
  have HB := Lib.hid (Below.refl w.heap.size w)
  rw [← hz]
  clear hz
  have hq1 := fun W => run_eql_fn Tryd.underlying91 (.func 71) W
  have hq2 := fun W => run_eql_nilfn Tryd.underlying91 W
  go_enter Tryd.func35, Tryd.ntmps35
  go_wp2_with (first
    | (go_at_call 56; refine (HA.out _).mono ?_; rintro e V ⟨rfl, hb⟩; replace HB := Lib.hid (HB.out.trans (hb.mono HB.out.size)); clear hb)
    | (go_at_call 57; refine (HL.out _).mono ?_; rintro e V ⟨rfl, hb⟩; replace HB := Lib.hid (HB.out.trans (hb.mono HB.out.size)); clear hb)
    | (go_at_call 71; refine (HF.out _).mono ?_; rintro e V ⟨rfl, rfl⟩))
  go_ret2
  exact ⟨rfl, HB.out⟩
set_option maxRecDepth 100000 in
theorem calc12_any (x y : UInt32) (w : World) :
    Calls Tryd.prog 35 #[.int .i64 12, wv x, wv y] w fun e w' => e = .returned (.tuple #[wv (wshl x (y.toNat % 32)), .int .i64 0]) ∧ Below w.heap.size w w' := by
  obtain ⟨z, hz⟩ : ∃ z : UInt32, z = (wshl x (y.toNat % 32)) := ⟨_, rfl⟩
  have HA : Hid (∀ W, Calls Tryd.prog 56 #[.int .i64 12] W fun e w' => e = .returned (.nilFunc) ∧ Below W.heap.size W w') := Lib.hid fun W => arithmetic_any 12 W
  have HL : Hid (∀ W, Calls Tryd.prog 57 #[.int .i64 12] W fun e w' => e = .returned (.func (.func 72) #[] #[]) ∧ Below W.heap.size W w') := Lib.hid fun W => logic_any 12 W
  have HF : Hid (∀ W, Calls Tryd.prog 72 #[wv x, wv y] W fun e w' => e = .returned (wv z) ∧ w' = W) := Lib.hid fun W => by rw [hz]; exact fShl_any x y W
  have HB := Lib.hid (Below.refl w.heap.size w)
  rw [← hz]
  clear hz
  have hq1 := fun W => run_eql_fn Tryd.underlying91 (.func 72) W
  have hq2 := fun W => run_eql_nilfn Tryd.underlying91 W
  go_enter Tryd.func35, Tryd.ntmps35
  go_wp2_with (first
    | (go_at_call 56; refine (HA.out _).mono ?_; rintro e V ⟨rfl, hb⟩; replace HB := Lib.hid (HB.out.trans (hb.mono HB.out.size)); clear hb)
    | (go_at_call 57; refine (HL.out _).mono ?_; rintro e V ⟨rfl, hb⟩; replace HB := Lib.hid (HB.out.trans (hb.mono HB.out.size)); clear hb)
    | (go_at_call 72; refine (HF.out _).mono ?_; rintro e V ⟨rfl, rfl⟩))
  go_ret2
  exact ⟨rfl, HB.out⟩
set_option maxRecDepth 100000 in
theorem calc13_any (x y : UInt32) (w : World) :
    Calls Tryd.prog 35 #[.int .i64 13, wv x, wv y] w fun e w' => e = .returned (.tuple #[wv (wshr x (y.toNat % 32)), .int .i64 0]) ∧ Below w.heap.size w w' := by
  obtain ⟨z, hz⟩ : ∃ z : UInt32, z = (wshr x (y.toNat % 32)) := ⟨_, rfl⟩
  have HA : Hid (∀ W, Calls Tryd.prog 56 #[.int .i64 13] W fun e w' => e = .returned (.nilFunc) ∧ Below W.heap.size W w') := Lib.hid fun W => arithmetic_any 13 W
  have HL : Hid (∀ W, Calls Tryd.prog 57 #[.int .i64 13] W fun e w' => e = .returned (.func (.func 73) #[] #[]) ∧ Below W.heap.size W w') := Lib.hid fun W => logic_any 13 W
  have HF : Hid (∀ W, Calls Tryd.prog 73 #[wv x, wv y] W fun e w' => e = .returned (wv z) ∧ w' = W) := Lib.hid fun W => by rw [hz]; exact fShr_any x y W
  have HB := Lib.hid (Below.refl w.heap.size w)
  rw [← hz]
  clear hz
  have hq1 := fun W => run_eql_fn Tryd.underlying91 (.func 73) W
  have hq2 := fun W => run_eql_nilfn Tryd.underlying91 W
  go_enter Tryd.func35, Tryd.ntmps35
  go_wp2_with (first
    | (go_at_call 56; refine (HA.out _).mono ?_; rintro e V ⟨rfl, hb⟩; replace HB := Lib.hid (HB.out.trans (hb.mono HB.out.size)); clear hb)
    | (go_at_call 57; refine (HL.out _).mono ?_; rintro e V ⟨rfl, hb⟩; replace HB := Lib.hid (HB.out.trans (hb.mono HB.out.size)); clear hb)
    | (go_at_call 73; refine (HF.out _).mono ?_; rintro e V ⟨rfl, rfl⟩))
  go_ret2
  exact ⟨rfl, HB.out⟩
set_option maxRecDepth 100000 in
theorem calc15_any (x y : UInt32) (w : World) :
    Calls Tryd.prog 35 #[.int .i64 15, wv x, wv y] w fun e w' => e = .returned (.tuple #[wv (if x = y then 1 else 0), .int .i64 0]) ∧ Below w.heap.size w w' := by
  obtain ⟨z, hz⟩ : ∃ z : UInt32, z = (if x = y then 1 else 0) := ⟨_, rfl⟩
  have HA : Hid (∀ W, Calls Tryd.prog 56 #[.int .i64 15] W fun e w' => e = .returned (.nilFunc) ∧ Below W.heap.size W w') := Lib.hid fun W => arithmetic_any 15 W
  have HL : Hid (∀ W, Calls Tryd.prog 57 #[.int .i64 15] W fun e w' => e = .returned (.func (.func 74) #[] #[]) ∧ Below W.heap.size W w') := Lib.hid fun W => logic_any 15 W
  have HF : Hid (∀ W, Calls Tryd.prog 74 #[wv x, wv y] W fun e w' => e = .returned (wv z) ∧ w' = W) := Lib.hid fun W => by rw [hz]; exact fEqual_any x y W
  have HB := Lib.hid (Below.refl w.heap.size w)
  rw [← hz]
  clear hz
  have hq1 := fun W => run_eql_fn Tryd.underlying91 (.func 74) W
  have hq2 := fun W => run_eql_nilfn Tryd.underlying91 W
  go_enter Tryd.func35, Tryd.ntmps35
  go_wp2_with (first
    | (go_at_call 56; refine (HA.out _).mono ?_; rintro e V ⟨rfl, hb⟩; replace HB := Lib.hid (HB.out.trans (hb.mono HB.out.size)); clear hb)
    | (go_at_call 57; refine (HL.out _).mono ?_; rintro e V ⟨rfl, hb⟩; replace HB := Lib.hid (HB.out.trans (hb.mono HB.out.size)); clear hb)
    | (go_at_call 74; refine (HF.out _).mono ?_; rintro e V ⟨rfl, rfl⟩))
  go_ret2
  exact ⟨rfl, HB.out⟩
set_option maxRecDepth 100000 in
theorem calcN_any (op : Int) (x y : UInt32) (w : World) (h : ¬ (4 ≤ op ∧ op ≤ 15)) :
    Calls Tryd.prog 35 #[.int .i64 op, wv x, wv y] w fun e w' => e = .returned (.tuple #[wv 0, .int .i64 11]) ∧ Below w.heap.size w w' := by
  have ha : (look aks op).getD .nilFunc = .nilFunc := by simp only [look]; rw [if_neg (by omega), if_neg (by omega), if_neg (by omega), if_neg (by omega), if_neg (by omega), if_neg (by omega)]; rfl
  have hl : (look lks op).getD .nilFunc = .nilFunc := by simp only [look]; rw [if_neg (by omega), if_neg (by omega), if_neg (by omega), if_neg (by omega), if_neg (by omega), if_neg (by omega)]; rfl
  have HA := Lib.hid fun W => arithmetic_any op W
  have HL := Lib.hid fun W => logic_any op W
  rw [ha] at HA
  rw [hl] at HL
  clear ha hl
  have HB := Lib.hid (Below.refl w.heap.size w)
  have hq2 := fun W => run_eql_nilfn Tryd.underlying91 W
  go_enter Tryd.func35, Tryd.ntmps35
  go_wp2_with (first
    | (go_at_call 56; refine (HA.out _).mono ?_; rintro e V ⟨rfl, hb⟩; replace HB := Lib.hid (HB.out.trans (hb.mono HB.out.size)); clear hb)
    | (go_at_call 57; refine (HL.out _).mono ?_; rintro e V ⟨rfl, hb⟩; replace HB := Lib.hid (HB.out.trans (hb.mono HB.out.size)); clear hb))
  go_ret2
  exact ⟨rfl, HB.out⟩
set_option maxRecDepth 100000 in
theorem calcZ7_any (x : UInt32) (y : UInt32) (w : World) (hy : (y.toNat : Int) = 0) :
    Calls Tryd.prog 35 #[.int .i64 7, wv x, wv y] w fun e w' => e = .returned (.tuple #[wv 0, .int .i64 38]) ∧ Below w.heap.size w w' := by
  have HA : Hid (∀ W, Calls Tryd.prog 56 #[.int .i64 7] W fun e w' => e = .returned (.func (.func 65) #[] #[]) ∧ Below W.heap.size W w') := Lib.hid fun W => arithmetic_any 7 W
  have HB := Lib.hid (Below.refl w.heap.size w)
  have hq1 := fun W => run_eql_fn Tryd.underlying91 (.func 65) W
  go_enter Tryd.func35, Tryd.ntmps35
  go_wp2_with (go_at_call 56; refine (HA.out _).mono ?_; rintro e V ⟨rfl, hb⟩; replace HB := Lib.hid (HB.out.trans (hb.mono HB.out.size)); clear hb)
  go_ret2
  exact ⟨rfl, HB.out⟩
set_option maxRecDepth 100000 in
theorem calcZ8_any (x : UInt32) (y : UInt32) (w : World) (hy : (y.toNat : Int) = 0) :
    Calls Tryd.prog 35 #[.int .i64 8, wv x, wv y] w fun e w' => e = .returned (.tuple #[wv 0, .int .i64 38]) ∧ Below w.heap.size w w' := by
  have HA : Hid (∀ W, Calls Tryd.prog 56 #[.int .i64 8] W fun e w' => e = .returned (.func (.func 66) #[] #[]) ∧ Below W.heap.size W w') := Lib.hid fun W => arithmetic_any 8 W
  have HB := Lib.hid (Below.refl w.heap.size w)
  have hq1 := fun W => run_eql_fn Tryd.underlying91 (.func 66) W
  go_enter Tryd.func35, Tryd.ntmps35
  go_wp2_with (go_at_call 56; refine (HA.out _).mono ?_; rintro e V ⟨rfl, hb⟩; replace HB := Lib.hid (HB.out.trans (hb.mono HB.out.size)); clear hb)
  go_ret2
  exact ⟨rfl, HB.out⟩
theorem calculate_any (op : Int) (x y : UInt32) (w : World) :
    Calls Tryd.prog 35 #[.int .i64 op, wv x, wv y] w fun e w' => e = .returned (.tuple #[wv (calZ op x y), .int .i64 (calcE op y)]) ∧ Below w.heap.size w w' := by
  by_cases hr : 4 ≤ op ∧ op ≤ 15
  · obtain h | h | h | h | h | h | h | h | h | h | h | h : op = 4 ∨ op = 5 ∨ op = 6 ∨ op = 7 ∨ op = 8 ∨ op = 9 ∨ op = 10 ∨ op = 11 ∨ op = 12 ∨ op = 13 ∨ op = 14 ∨ op = 15 := by omega
    · subst h; exact calc4_any x y w
    · subst h; exact calc5_any x y w
    · subst h; exact calc6_any x y w
    · subst h
      by_cases hy : (y.toNat : Int) = 0
      · have e1 : calZ 7 x y = 0 := by simp [calZ, hy]
        have e2 : calcE 7 y = 38 := by simp [calcE, hy]
        rw [e1, e2]; exact calcZ7_any x y w hy
      · have hy1 : ¬ y.toNat = 0 := by omega
        have e1 : calZ 7 x y = us ((sg x).tdiv (sg y)) := by simp [calZ, hy1]
        have e2 : calcE 7 y = 0 := by simp [calcE, hy1]
        rw [e1, e2]; exact calc7_any x y w hy
    · subst h
      by_cases hy : (y.toNat : Int) = 0
      · have e1 : calZ 8 x y = 0 := by simp [calZ, hy]
        have e2 : calcE 8 y = 38 := by simp [calcE, hy]
        rw [e1, e2]; exact calcZ8_any x y w hy
      · have hy1 : ¬ y.toNat = 0 := by omega
        have e1 : calZ 8 x y = us ((sg x).tmod (sg y)) := by simp [calZ, hy1]
        have e2 : calcE 8 y = 0 := by simp [calcE, hy1]
        rw [e1, e2]; exact calc8_any x y w hy
    · subst h; exact calc9_any x y w
    · subst h; exact calc10_any x y w
    · subst h; exact calc11_any x y w
    · subst h; exact calc12_any x y w
    · subst h; exact calc13_any x y w
    · subst h; exact calc14_any x y w
    · subst h; exact calc15_any x y w
  · have e1 : calZ op x y = 0 := by
      simp only [calZ]
      rw [if_neg (by omega), if_neg (by omega), if_neg (by omega), if_neg (by omega), if_neg (by omega), if_neg (by omega), if_neg (by omega), if_neg (by omega), if_neg (by omega), if_neg (by omega), if_neg (by omega), if_neg (by omega)]
    have e2 : calcE op y = 11 := by simp only [calcE, if_neg hr]
    rw [e1, e2]
    exact calcN_any op x y w hr
end Go.Proofs.YtajkccigmiegkaaDoor
