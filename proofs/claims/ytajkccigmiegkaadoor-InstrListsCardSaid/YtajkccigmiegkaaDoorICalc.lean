/- instr: the conversions, the twelve calculations, the two tables of calculations, Calculate. -/
import Derived.Test.YtajkccigmiegkaaDoorChecked
import Derived.Test.YtajkccigmiegkaaDoorIMath
import Derived.Test.YtajkccigmiegkaaDoorIFn
set_option linter.unusedVariables false
namespace Go.Proofs.YtajkccigmiegkaaDoor
open Go.RowKit Go.MapKept Go.ChangeMaps

theorem signed_any (x : UInt32) (w : World) : Calls Tryd.prog 37 #[wv x] w fun e w' => e = .returned (.int .i64 (sg x)) ∧ w' = w := by
  have h1 := sg_wrap x
  have h2 : IntKind.i64.wrap (sg x) = sg x := by have := sg_lo x; have := sg_hi x; rw [IntKind.wrap_i64]; omega
  go_enter Tryd.func37, Tryd.ntmps37
  go_wp2
  go_ret
  exact ⟨rfl, rfl⟩
theorem unsigned_any (n : Int) (w : World) : Calls Tryd.prog 38 #[.int .i64 n] w fun e w' => e = .returned (wv (us n)) ∧ w' = w := by
  go_enter Tryd.func38, Tryd.ntmps38
  go_wp2
  go_ret
  exact ⟨ret_w (us_toNat n).symm, rfl⟩
def tw (b : Bool) : UInt32 := if b then 1 else 0
theorem truth_any (b : Bool) (w : World) : Calls Tryd.prog 68 #[.bool b] w fun e w' => e = .returned (wv (tw b)) ∧ w' = w := by
  cases b
  all_goals
    go_enter Tryd.func68, Tryd.ntmps68
    go_wp2
    go_ret
    exact ⟨rfl, rfl⟩
theorem fAdd_any (x y : UInt32) (w : World) : Calls Tryd.prog 62 #[wv x, wv y] w fun e w' => e = .returned (wv (wadd x y)) ∧ w' = w := by
  have h := add_w x y
  go_enter Tryd.func62, Tryd.ntmps62
  go_wp2
  go_ret
  exact ⟨rfl, rfl⟩
theorem fSub_any (x y : UInt32) (w : World) : Calls Tryd.prog 63 #[wv x, wv y] w fun e w' => e = .returned (wv (wsub x y)) ∧ w' = w := by
  go_enter Tryd.func63, Tryd.ntmps63
  go_wp2
  go_ret
  exact ⟨ret_w (sub_w x y), rfl⟩
theorem fMul_any (x y : UInt32) (w : World) : Calls Tryd.prog 64 #[wv x, wv y] w fun e w' => e = .returned (wv (wmul x y)) ∧ w' = w := by
  have h := mul_w x y
  go_enter Tryd.func64, Tryd.ntmps64
  go_wp2
  go_ret
  exact ⟨rfl, rfl⟩
theorem fDiv_any (x y : UInt32) (w : World) (hy : sg y ≠ 0) : Calls Tryd.prog 65 #[wv x, wv y] w fun e w' => e = .returned (wv (us ((sg x).tdiv (sg y)))) ∧ w' = w := by
  have HS : Hid (∀ x W, Calls Tryd.prog 37 #[wv x] W fun e w' => e = .returned (.int .i64 (sg x)) ∧ w' = W) := Lib.hid signed_any
  have HU : Hid (∀ n W, Calls Tryd.prog 38 #[.int .i64 n] W fun e w' => e = .returned (wv (us n)) ∧ w' = W) := Lib.hid unsigned_any
  have hw : IntKind.i64.wrap ((sg x).tdiv (sg y)) = (sg x).tdiv (sg y) := by
    have h1 := sg_lo x; have h2 := sg_hi x
    have h3 : ((sg x).tdiv (sg y)).natAbs ≤ (sg x).natAbs := by rw [Int.natAbs_tdiv]; exact Nat.div_le_self _ _
    rw [IntKind.wrap_i64]
    omega
  go_enter Tryd.func65, Tryd.ntmps65
  go_wp2_with (first
    | (go_at_call 37; refine (HS.out _ _).mono ?_; rintro e w' ⟨rfl, rfl⟩)
    | (go_at_call 38; refine (HU.out _ _).mono ?_; rintro e w' ⟨rfl, rfl⟩))
  go_ret
  exact ⟨rfl, rfl⟩
theorem fMod_any (x y : UInt32) (w : World) (hy : sg y ≠ 0) : Calls Tryd.prog 66 #[wv x, wv y] w fun e w' => e = .returned (wv (us ((sg x).tmod (sg y)))) ∧ w' = w := by
  have HS : Hid (∀ x W, Calls Tryd.prog 37 #[wv x] W fun e w' => e = .returned (.int .i64 (sg x)) ∧ w' = W) := Lib.hid signed_any
  have HU : Hid (∀ n W, Calls Tryd.prog 38 #[.int .i64 n] W fun e w' => e = .returned (wv (us n)) ∧ w' = W) := Lib.hid unsigned_any
  go_enter Tryd.func66, Tryd.ntmps66
  go_wp2_with (first
    | (go_at_call 37; refine (HS.out _ _).mono ?_; rintro e w' ⟨rfl, rfl⟩)
    | (go_at_call 38; refine (HU.out _ _).mono ?_; rintro e w' ⟨rfl, rfl⟩))
  go_ret
  exact ⟨rfl, rfl⟩
theorem fLess_any (x y : UInt32) (w : World) : Calls Tryd.prog 67 #[wv x, wv y] w fun e w' => e = .returned (wv (if sg x < sg y then 1 else 0)) ∧ w' = w := by
  have HS : Hid (∀ x W, Calls Tryd.prog 37 #[wv x] W fun e w' => e = .returned (.int .i64 (sg x)) ∧ w' = W) := Lib.hid signed_any
  have HT : Hid (∀ b W, Calls Tryd.prog 68 #[.bool b] W fun e w' => e = .returned (wv (tw b)) ∧ w' = W) := Lib.hid truth_any
  obtain ⟨b, hb⟩ : ∃ b, decide (sg x < sg y) = b := ⟨_, rfl⟩
  have e1 : (if sg x < sg y then (1 : UInt32) else 0) = tw b := by rw [← hb]; simp [tw]
  rw [e1]
  have H1 := Lib.hid hb
  clear hb e1
  go_enter Tryd.func67, Tryd.ntmps67
  go_wp2_with (first
    | (go_at_call 37; refine (HS.out _ _).mono ?_; rintro e w' ⟨rfl, rfl⟩)
    | (go_at_call 68; rw [H1.out]; refine (HT.out _ _).mono ?_; rintro e w' ⟨rfl, rfl⟩))
  go_ret
  exact ⟨rfl, rfl⟩
theorem fAnd_any (x y : UInt32) (w : World) : Calls Tryd.prog 69 #[wv x, wv y] w fun e w' => e = .returned (wv (wand x y)) ∧ w' = w := by
  go_enter Tryd.func69, Tryd.ntmps69
  go_wp2
  go_ret
  exact ⟨ret_w (bits_and_w x y), rfl⟩
theorem fOr_any (x y : UInt32) (w : World) : Calls Tryd.prog 70 #[wv x, wv y] w fun e w' => e = .returned (wv (wor x y)) ∧ w' = w := by
  go_enter Tryd.func70, Tryd.ntmps70
  go_wp2
  go_ret
  exact ⟨ret_w (bits_or_w x y), rfl⟩
theorem fXor_any (x y : UInt32) (w : World) : Calls Tryd.prog 71 #[wv x, wv y] w fun e w' => e = .returned (wv (wxor x y)) ∧ w' = w := by
  go_enter Tryd.func71, Tryd.ntmps71
  go_wp2
  go_ret
  exact ⟨ret_w (bits_xor_w x y), rfl⟩
theorem fShl_any (x y : UInt32) (w : World) : Calls Tryd.prog 72 #[wv x, wv y] w fun e w' => e = .returned (wv (wshl x (y.toNat % 32))) ∧ w' = w := by
  go_enter Tryd.func72, Tryd.ntmps72
  go_wp2
  go_ret
  exact ⟨rfl, rfl⟩
theorem fShr_any (x y : UInt32) (w : World) : Calls Tryd.prog 73 #[wv x, wv y] w fun e w' => e = .returned (wv (wshr x (y.toNat % 32))) ∧ w' = w := by
  go_enter Tryd.func73, Tryd.ntmps73
  go_wp2
  go_ret
  exact ⟨ret_w (shr_w x _ _ (by simp)), rfl⟩
theorem fEqual_any (x y : UInt32) (w : World) : Calls Tryd.prog 74 #[wv x, wv y] w fun e w' => e = .returned (wv (if x = y then 1 else 0)) ∧ w' = w := by
  have HT : Hid (∀ b W, Calls Tryd.prog 68 #[.bool b] W fun e w' => e = .returned (wv (tw b)) ∧ w' = W) := Lib.hid truth_any
  obtain ⟨b, hb⟩ : ∃ b, decide (x = y) = b := ⟨_, rfl⟩
  have e1 : (if x = y then (1 : UInt32) else 0) = tw b := by rw [← hb]; simp [tw]
  have e2 : ((x.toNat : Int) == (y.toNat : Int)) = b := by
    rw [← hb, Bool.eq_iff_iff]; simp [← UInt32.toNat_inj]; omega
  rw [e1]
  have H1 := Lib.hid e2
  clear hb e1 e2
  go_enter Tryd.func74, Tryd.ntmps74
  go_wp2_with (first
    | (go_at_call 68; rw [H1.out]; refine (HT.out _ _).mono ?_; rintro e w' ⟨rfl, rfl⟩))
  go_ret
  exact ⟨rfl, rfl⟩

/-! ### The tables -/
abbrev aks : List (Int × Value) := [(4, .func (.func 62) #[] #[]), (5, .func (.func 63) #[] #[]), (6, .func (.func 64) #[] #[]), (7, .func (.func 65) #[] #[]), (8, .func (.func 66) #[] #[]), (14, .func (.func 67) #[] #[])]
abbrev lks : List (Int × Value) := [(9, .func (.func 69) #[] #[]), (10, .func (.func 70) #[] #[]), (11, .func (.func 71) #[] #[]), (12, .func (.func 72) #[] #[]), (13, .func (.func 73) #[] #[]), (15, .func (.func 74) #[] #[])]
theorem arithmetic_any (op : Int) (w : World) : Calls Tryd.prog 56 #[.int .i64 op] w fun e w' => e = .returned ((look aks op).getD .nilFunc) ∧ Below w.heap.size w w' := by
  have hmm := @run_makeMap Tryd.prog
  have hm0 := mapIs_made w .i64
  have hb0 : Below w.heap.size w (w.alloc (.map #[] 0)) := (Below.refl _ _).alloc (Nat.le_refl _) _
  go_enter Tryd.func56, Tryd.ntmps56
  go_wp2_with (first
    | (refine wpList_insert_fn rfl _ _ _ _ rfl _ _ .i64 Tryd.underlying97 Tryd.underlying3 w.heap.size _ rfl (by assumption) _ _ rfl rfl rfl ?_; intro W hm hb; have hb' := Below.trans (by assumption) (hb _ (Nat.le_refl _)))
    | (refine wpList_lookup_fn rfl _ _ _ rfl _ _ .i64 Tryd.underlying97 Tryd.underlying3 .nilFunc rfl w.heap.size _ rfl (by assumption) _ rfl ?_))
  go_ret
  exact ⟨rfl, by assumption⟩
theorem logic_any (op : Int) (w : World) : Calls Tryd.prog 57 #[.int .i64 op] w fun e w' => e = .returned ((look lks op).getD .nilFunc) ∧ Below w.heap.size w w' := by
  have hmm := @run_makeMap Tryd.prog
  have hm0 := mapIs_made w .i64
  have hb0 : Below w.heap.size w (w.alloc (.map #[] 0)) := (Below.refl _ _).alloc (Nat.le_refl _) _
  go_enter Tryd.func57, Tryd.ntmps57
  go_wp2_with (first
    | (refine wpList_insert_fn rfl _ _ _ _ rfl _ _ .i64 Tryd.underlying97 Tryd.underlying3 w.heap.size _ rfl (by assumption) _ _ rfl rfl rfl ?_; intro W hm hb; have hb' := Below.trans (by assumption) (hb _ (Nat.le_refl _)))
    | (refine wpList_lookup_fn rfl _ _ _ rfl _ _ .i64 Tryd.underlying97 Tryd.underlying3 .nilFunc rfl w.heap.size _ rfl (by assumption) _ rfl ?_))
  go_ret
  exact ⟨rfl, by assumption⟩
end Go.Proofs.YtajkccigmiegkaaDoor
