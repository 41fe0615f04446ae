/- instr: the laws InstrChecks, InstrCalculates, InstrArithmetic, InstrNumbers, walked. -/
import Derived.Test.YtajkccigmiegkaaDoorIKnown
import Derived.Deep.RegionHeld3
set_option linter.unusedVariables false
namespace Go.Proofs.YtajkccigmiegkaaDoor
open Go.RowKit

theorem Env.keep {w w' : World} (h : Env w) (hb : Below w.heap.size w w') : Env w' := h.below hb

set_option maxRecDepth 100000 in
theorem instrNumbers_walk (x : UInt32) (n : Int) (w : World) (hE : Env w) (hn0 : -9223372036854775808 ≤ n) (hn1 : n ≤ 9223372036854775807) :
    Calls Tryd.prog 11 #[wv x, .int .i64 n] w fun e w' => e = .returned (.bool true) ∧ Below w.heap.size w w' := by
  have HK := Lib.hid (known_any w hE)
  have H1 : Hid (∀ W, Calls Tryd.prog 37 #[wv x] W fun e w' => e = .returned (.int .i64 (sg x)) ∧ W = w') := Lib.hid fun W => (signed_any x W).mono fun _ _ h => ⟨h.1, h.2.symm⟩
  have H2 : Hid (∀ W, Calls Tryd.prog 39 #[wv x] W fun e w' => e = .returned (.int .i64 (sg x)) ∧ W = w') := Lib.hid fun W => (rsigned_any x W).mono fun _ _ h => ⟨h.1, h.2.symm⟩
  have H3 : Hid (∀ W, Calls Tryd.prog 38 #[.int .i64 n] W fun e w' => e = .returned (wv (us n)) ∧ W = w') := Lib.hid fun W => (unsigned_any n W).mono fun _ _ h => ⟨h.1, h.2.symm⟩
  have H4 : Hid (∀ W, Calls Tryd.prog 40 #[.int .i64 n] W fun e w' => e = .returned (wv (us n)) ∧ W = w') := Lib.hid fun W => (runsigned_any n W hn0 hn1).mono fun _ _ h => ⟨h.1, h.2.symm⟩
  clear hE hn0 hn1
  go_enter Tryd.func11, Tryd.ntmps11
  go_wp2_with (first
    | (go_at_call 13; refine HK.out.mono ?_; rintro e V ⟨rfl, hb⟩; have HB := Lib.hid hb; clear hb)
    | (go_at_call 37; refine (H1.out _).mono ?_; rintro e w' ⟨rfl, rfl⟩)
    | (go_at_call 39; refine (H2.out _).mono ?_; rintro e w' ⟨rfl, rfl⟩)
    | (go_at_call 38; refine (H3.out _).mono ?_; rintro e w' ⟨rfl, rfl⟩)
    | (go_at_call 40; refine (H4.out _).mono ?_; rintro e w' ⟨rfl, rfl⟩))
  go_ret
  exact ⟨rfl, HB.out⟩

/-- The argument in a block of the call's own. -/
def XR (w : World) (o a b c : Int) (V : World) : Prop := Blk V w.heap.size 23 (inC o a b c) ∧ Below w.heap.size w V
theorem xr_new (w : World) (o a b c : Int) : XR w o a b c (w.alloc (.cells (inC o a b c) 23)) := ⟨Blk.new w _ _, below_alloc0 w _⟩
theorem XR.under {w V V' : World} {o a b c : Int} (h : XR w o a b c V) (hb : Below V.heap.size V V') : XR w o a b c V' := ⟨h.1.under hb, h.2.trans (hb.mono h.2.size)⟩
theorem XR.bel {w V : World} {o a b c : Int} (h : XR w o a b c V) : Below w.heap.size w V := h.2
theorem XR.drew {w V : World} {o a b c : Int} (h : XR w o a b c V) : XR w o a b c V.drew := ⟨h.1.drew, h.2.drew⟩
set_option maxHeartbeats 1000000 in
set_option maxRecDepth 100000 in
theorem instrChecks_walk (op a b c : Int) (w : World) (hE : Env w) :
    Calls Tryd.prog 3 #[inV op a b c] w fun e w' => e = .returned (.bool true) ∧ Below w.heap.size w w' := by
  obtain ⟨z, hz⟩ : ∃ z, chkZ op a b c = z := ⟨_, rfl⟩
  have HK : Hid (∀ W, Below w.heap.size w W → Calls Tryd.prog 13 #[] W fun e w' => e = .returned (.bool true) ∧ Below W.heap.size W w') := Lib.hid fun W hb => known_any W (hE.below hb)
  have HT : Hid (∀ W, Calls Tryd.prog 14 #[inV op a b c] W fun e w' => e = .returned (inV op a b c) ∧ Below W.heap.size W w') := Lib.hid fun W => to_any op a b c W
  have HC : Hid (∀ W, Below w.heap.size w W → Calls Tryd.prog 15 #[inV op a b c] W fun e w' => e = .returned (.int .i64 z) ∧ Below W.heap.size W w') := Lib.hid fun W hb => by rw [← hz]; exact check_any op a b c W (hE.below hb)
  have HR : Hid (∀ W, Calls Tryd.prog 16 #[inV op a b c] W fun e w' => e = .returned (.int .i64 z) ∧ Below W.heap.size W w') := Lib.hid fun W => by rw [← hz]; exact rcheck_any op a b c W
  have HX := Lib.hid (xr_new w op a b c)
  clear hE hz
  go_enter Tryd.func3, Tryd.ntmps3
  go_upto_region 1 with fail
  refine cwp_gen (XR w op a b c) HX.out ?_
  intro V hV
  clear HX
  have f0 : ∀ W, XR w op a b c W → W.cell? ⟨w.heap.size, 0, none⟩ = some (.int .i64 op) := fun W q => q.1.cell 0
  have f1 : ∀ W, XR w op a b c W → W.cell? ⟨w.heap.size, 1, none⟩ = some (.int .i64 a) := fun W q => q.1.cell 1
  have f2 : ∀ W, XR w op a b c W → W.cell? ⟨w.heap.size, 2, none⟩ = some (.int .i64 b) := fun W q => q.1.cell 2
  have f3 : ∀ W, XR w op a b c W → W.cell? ⟨w.heap.size, 3, none⟩ = some (.int .i64 c) := fun W q => q.1.cell 3
  go_region_held3 (XR w op a b c) (first | assumption | exact XR.drew (by assumption)) ((first
    | (go_at_call 13; refine (HK.out _ (XR.bel (by assumption))).mono ?_; rintro e W1 ⟨rfl, hb⟩; have hS1 := XR.under (by assumption) hb; clear hb)
    | (go_at_call 14; refine (HT.out _).mono ?_; rintro e W1 ⟨rfl, hb⟩; have hS1 := XR.under (by assumption) hb; clear hb)
    | (go_at_call 15; refine (HC.out _ (XR.bel (by assumption))).mono ?_; rintro e W1 ⟨rfl, hb⟩; have hS1 := XR.under (by assumption) hb; clear hb)
    | (go_at_call 16; refine (HR.out _).mono ?_; rintro e W1 ⟨rfl, hb⟩; have hS1 := XR.under (by assumption) hb; clear hb)))
  all_goals
    go_wp2
    go_ret
    exact ⟨rfl, XR.bel ‹XR w op a b c _›⟩

set_option maxRecDepth 100000 in
theorem instrCalculates_walk (op : Int) (x y : UInt32) (w : World) (hE : Env w) :
    Calls Tryd.prog 9 #[.int .i64 op, wv x, wv y] w fun e w' => e = .returned (.bool true) ∧ Below w.heap.size w w' := by
  obtain ⟨z, hz⟩ : ∃ z, calZ op x y = z := ⟨_, rfl⟩
  obtain ⟨E, hE2⟩ : ∃ E, calcE op y = E := ⟨_, rfl⟩
  have HK := Lib.hid (known_any w hE)
  have HC : Hid (∀ W, Calls Tryd.prog 35 #[.int .i64 op, wv x, wv y] W fun e w' => e = .returned (.tuple #[wv z, .int .i64 E]) ∧ Below W.heap.size W w') := Lib.hid fun W => by rw [← hz, ← hE2]; exact calculate_any op x y W
  have HR : Hid (∀ W, Calls Tryd.prog 36 #[.int .i64 op, wv x, wv y] W fun e w' => e = .returned (.tuple #[wv z, .int .i64 E]) ∧ W = w') := Lib.hid fun W => by rw [← hz, ← hE2]; exact (rcalculate_any op x y W).mono fun _ _ h => ⟨h.1, h.2.symm⟩
  clear hE hz hE2
  go_enter Tryd.func9, Tryd.ntmps9
  go_wp2_with (first
    | (go_at_call 13; refine HK.out.mono ?_; rintro e V ⟨rfl, hb⟩; have HB := Lib.hid hb; clear hb)
    | (go_at_call 35; refine (HC.out _).mono ?_; rintro e V1 ⟨rfl, hb⟩; replace HB := Lib.hid (HB.out.trans (hb.mono HB.out.size)); clear hb)
    | (go_at_call 36; refine (HR.out _).mono ?_; rintro e w' ⟨rfl, rfl⟩))
  go_ret
  exact ⟨rfl, HB.out⟩
end Go.Proofs.YtajkccigmiegkaaDoor
