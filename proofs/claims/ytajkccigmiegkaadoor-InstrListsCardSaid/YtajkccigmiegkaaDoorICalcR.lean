/- instr: the reference's conversions and its Calculate. -/
import Derived.Test.YtajkccigmiegkaaDoorChecked
import Derived.Test.YtajkccigmiegkaaDoorIMath
import Derived.Deep.Cut
set_option linter.unusedVariables false
namespace Go.Proofs.YtajkccigmiegkaaDoor
open Go.RowKit

theorem rsigned_any (x : UInt32) (w : World) : Calls Tryd.prog 39 #[wv x] w fun e w' => e = .returned (.int .i64 (sg x)) ∧ w' = w := by
  have hx := word_lti x
  by_cases h : 2147483648 ≤ (x.toNat : Int)
  · have h1 : sg x = (x.toNat : Int) - 4294967296 := by unfold sg; rw [if_pos h]
    rw [h1]
    clear h1
    go_enter Tryd.func39, Tryd.ntmps39
    go_wp2
    go_ret
    exact ⟨rfl, rfl⟩
  · have h1 : sg x = (x.toNat : Int) := by unfold sg; rw [if_neg h]
    rw [h1]
    clear h1
    go_enter Tryd.func39, Tryd.ntmps39
    go_wp2
    go_ret
    exact ⟨rfl, rfl⟩
theorem runsigned_any (n : Int) (w : World) (hl : -9223372036854775808 ≤ n) (hh : n ≤ 9223372036854775807) : Calls Tryd.prog 40 #[.int .i64 n] w fun e w' => e = .returned (wv (us n)) ∧ w' = w := by
  have hu := us_tmod n
  obtain ⟨m, hm⟩ : ∃ m, n.tmod 4294967296 = m := ⟨_, rfl⟩
  have hm1 : -4294967296 < m ∧ m < 4294967296 := by
    rw [← hm]
    have h1 := Int.tmod_lt_of_pos n (show (0:Int) < 4294967296 by decide)
    have h2 := Int.lt_tmod_of_pos n (show (0:Int) < 4294967296 by decide)
    omega
  have hw : IntKind.i64.wrap m = m := by rw [IntKind.wrap_i64]; omega
  rw [hm] at hu
  obtain ⟨hm1, hm2⟩ := hm1
  by_cases h : m < 0
  · rw [if_pos h] at hu
    have h3 : (m + 4294967296) % 4294967296 = ((us n).toNat : Int) := by rw [us_toNat, ← hu]; omega
    clear hu
    go_enter Tryd.func40, Tryd.ntmps40
    go_wp2
    go_ret
    exact ⟨ret_w (by first | exact h3 | omega), rfl⟩
  · rw [if_neg h] at hu
    have h3 : m % 4294967296 = ((us n).toNat : Int) := by rw [us_toNat, ← hu]; omega
    clear hu
    go_enter Tryd.func40, Tryd.ntmps40
    go_wp2
    go_ret
    exact ⟨ret_w (by first | exact h3 | omega), rfl⟩
theorem bit_word (x : UInt32) (i : Nat) : bits .and .u32 ((x.toNat : Int) / 2 ^ i) 1 = ((x.toNat / 2 ^ i % 2 : Nat) : Int) := by
  have e1 : ((x.toNat : Int) / 2 ^ i) = ((wshr x i).toNat : Int) := shr_w x i _ (by simp)
  have e2 : (wshr x i).toNat = x.toNat / 2 ^ i := by
    unfold wshr; exact word_ofNat (Nat.lt_of_le_of_lt (Nat.div_le_self _ _) (word_lt x))
  rw [e1, show (1 : Int) = ((1 : UInt32).toNat : Int) from rfl, bits_and_w]
  unfold wand
  rw [UInt32.toNat_and, e2]
  show ((x.toNat / 2 ^ i &&& 1 : Nat) : Int) = _
  rw [Nat.and_one_is_mod]
theorem bit_any (x : UInt32) (i : Nat) (w : World) (hi : i < 32) : Calls Tryd.prog 58 #[wv x, .int .i64 (i : Int)] w fun e w' => e = .returned (.int .i64 ((x.toNat / 2 ^ i % 2 : Nat) : Int)) ∧ w' = w := by
  have h := bit_word x i
  have hb : x.toNat / 2 ^ i % 2 < 2 := Nat.mod_lt _ (by omega)
  have hw : wrap64 (bits .and .u32 ((x.toNat : Int) / 2 ^ i) 1) = ((x.toNat / 2 ^ i % 2 : Nat) : Int) := by
    rw [h]; unfold wrap64; omega
  clear h hb
  go_enter Tryd.func58, Tryd.ntmps58
  go_wp2
  go_ret
  exact ⟨by show Ending.returned (.int .i64 (wrap64 _)) = _; rw [hw], rfl⟩

set_option maxHeartbeats 1000000 in
set_option maxRecDepth 100000 in
theorem rcalc4_any (x y : UInt32) (w : World) : Calls Tryd.prog 36 #[.int .i64 4, wv x, wv y] w fun e w' => e = .returned (.tuple #[wv (wadd x y), .int .i64 0]) ∧ w' = w := by
  have HS : Hid (∀ x W, Calls Tryd.prog 39 #[wv x] W fun e w' => e = .returned (.int .i64 (sg x)) ∧ w' = W) := Lib.hid rsigned_any
  have hx := word_lti x
  have hy := word_lti y
  have HU : Hid (∀ W, Calls Tryd.prog 40 #[.int .i64 ((x.toNat : Int) + (y.toNat : Int))] W fun e w' => e = .returned (wv (wadd x y)) ∧ w' = W) := Lib.hid fun W => by
    have h := runsigned_any ((x.toNat : Int) + (y.toNat : Int)) W (by omega) (by omega)
    rw [show us ((x.toNat : Int) + (y.toNat : Int)) = wadd x y from us_add x y] at h
    exact h
  go_enter Tryd.func36, Tryd.ntmps36
  go_wp2_with (first
    | (go_at_call 39; refine (HS.out _ _).mono ?_; rintro e w' ⟨rfl, rfl⟩)
    | (go_at_call 40; refine (HU.out _).mono ?_; rintro e w' ⟨rfl, rfl⟩))
  go_ret2
  exact ⟨rfl, rfl⟩
set_option maxHeartbeats 1000000 in
set_option maxRecDepth 100000 in
theorem rcalc5_any (x y : UInt32) (w : World) : Calls Tryd.prog 36 #[.int .i64 5, wv x, wv y] w fun e w' => e = .returned (.tuple #[wv (wsub x y), .int .i64 0]) ∧ w' = w := by
  have HS : Hid (∀ x W, Calls Tryd.prog 39 #[wv x] W fun e w' => e = .returned (.int .i64 (sg x)) ∧ w' = W) := Lib.hid rsigned_any
  have hx := word_lti x
  have hy := word_lti y
  have HU : Hid (∀ W, Calls Tryd.prog 40 #[.int .i64 ((x.toNat : Int) - (y.toNat : Int))] W fun e w' => e = .returned (wv (wsub x y)) ∧ w' = W) := Lib.hid fun W => by
    have h := runsigned_any ((x.toNat : Int) - (y.toNat : Int)) W (by omega) (by omega)
    rw [show us ((x.toNat : Int) - (y.toNat : Int)) = wsub x y from us_sub x y] at h
    exact h
  go_enter Tryd.func36, Tryd.ntmps36
  go_wp2_with (first
    | (go_at_call 39; refine (HS.out _ _).mono ?_; rintro e w' ⟨rfl, rfl⟩)
    | (go_at_call 40; refine (HU.out _).mono ?_; rintro e w' ⟨rfl, rfl⟩))
  go_ret2
  exact ⟨rfl, rfl⟩
set_option maxHeartbeats 1000000 in
set_option maxRecDepth 100000 in
theorem rcalc6_any (x y : UInt32) (w : World) : Calls Tryd.prog 36 #[.int .i64 6, wv x, wv y] w fun e w' => e = .returned (.tuple #[wv (wmul x y), .int .i64 0]) ∧ w' = w := by
  have HS : Hid (∀ x W, Calls Tryd.prog 39 #[wv x] W fun e w' => e = .returned (.int .i64 (sg x)) ∧ w' = W) := Lib.hid rsigned_any
  have hx := word_lti x
  have hy := word_lti y
  have hl := halves (x.toNat : Int) (y.toNat : Int)
  have h1 : (x.toNat : Int) % 65536 * (y.toNat : Int) ≤ 281470681743360 := by
    have e1 : (x.toNat : Int) % 65536 ≤ 65535 := by omega
    have e2 : 0 ≤ (x.toNat : Int) % 65536 := by omega
    have := Int.mul_le_mul e1 (show (y.toNat : Int) ≤ 4294967295 by omega) (by omega) (by omega)
    omega
  have h2 : 0 ≤ (x.toNat : Int) % 65536 * (y.toNat : Int) := Int.mul_nonneg (by omega) (by omega)
  have h3 : (x.toNat : Int) / 65536 * (y.toNat : Int) ≤ 281470681743360 := by
    have e1 : (x.toNat : Int) / 65536 ≤ 65535 := by omega
    have e2 : 0 ≤ (x.toNat : Int) / 65536 := by omega
    have := Int.mul_le_mul e1 (show (y.toNat : Int) ≤ 4294967295 by omega) (by omega) (by omega)
    omega
  have h4 : 0 ≤ (x.toNat : Int) / 65536 * (y.toNat : Int) := Int.mul_nonneg (by omega) (by omega)
  have hu := us_mul x y
  obtain ⟨A, hA⟩ : ∃ A, (x.toNat : Int) % 65536 * (y.toNat : Int) = A := ⟨_, rfl⟩
  obtain ⟨B, hB⟩ : ∃ B, (x.toNat : Int) / 65536 * (y.toNat : Int) = B := ⟨_, rfl⟩
  rw [hA] at h1 h2 hu
  rw [hB] at h3 h4 hu
  have HU : Hid (∀ W, Calls Tryd.prog 40 #[.int .i64 (A % 4294967296 + B % 65536 * 65536)] W fun e w' => e = .returned (wv (wmul x y)) ∧ w' = W) := Lib.hid fun W => by
    have h := runsigned_any (A % 4294967296 + B % 65536 * 65536) W (by omega) (by omega)
    rw [hu] at h
    exact h
  clear hu hl
  go_enter Tryd.func36, Tryd.ntmps36
  go_wp2_with (first
    | (go_at_call 39; refine (HS.out _ _).mono ?_; rintro e w' ⟨rfl, rfl⟩)
    | (go_at_call 40; refine (HU.out _).mono ?_; rintro e w' ⟨rfl, rfl⟩))
  go_ret2
  exact ⟨rfl, rfl⟩
set_option maxHeartbeats 1000000 in
set_option maxRecDepth 100000 in
theorem rcalc7_any (x y : UInt32) (w : World) (hy0 : ¬ (y.toNat : Int) = 0) : Calls Tryd.prog 36 #[.int .i64 7, wv x, wv y] w fun e w' => e = .returned (.tuple #[wv (us ((sg x).tdiv (sg y))), .int .i64 0]) ∧ w' = w := by
  have HS : Hid (∀ x W, Calls Tryd.prog 39 #[wv x] W fun e w' => e = .returned (.int .i64 (sg x)) ∧ w' = W) := Lib.hid rsigned_any
  have hx := word_lti x
  have hy := word_lti y
  have hq : ¬ sg y = 0 := fun h => hy0 ((sg_zero y).1 h)
  have hs1 := sg_lo x
  have hs2 := sg_hi x
  have hs3 : (sg x).tdiv (sg y) ≤ 2147483648 ∧ -2147483648 ≤ (sg x).tdiv (sg y) := by
    have h3 : ((sg x).tdiv (sg y)).natAbs ≤ (sg x).natAbs := by rw [Int.natAbs_tdiv]; exact Nat.div_le_self _ _
    omega
  have e0 : (sg x).tmod (sg y) = sg x - sg y * (sg x).tdiv (sg y) := Int.tmod_def _ _
  have hr : (sg x).tmod (sg y) ≤ 4294967296 ∧ -4294967296 ≤ (sg x).tmod (sg y) := by
    have h3 : ((sg x).tmod (sg y)).natAbs ≤ (sg x).natAbs := by rw [Int.natAbs_tmod]; exact Nat.mod_le _ _
    omega
  obtain ⟨a, ha⟩ : ∃ a, sg x = a := ⟨_, rfl⟩
  obtain ⟨b, hb⟩ : ∃ b, sg y = b := ⟨_, rfl⟩
  have HSx : Hid (∀ W, Calls Tryd.prog 39 #[wv x] W fun e w' => e = .returned (.int .i64 a) ∧ w' = W) := Lib.hid fun W => by rw [← ha]; exact rsigned_any x W
  have HSy : Hid (∀ W, Calls Tryd.prog 39 #[wv y] W fun e w' => e = .returned (.int .i64 b) ∧ w' = W) := Lib.hid fun W => by rw [← hb]; exact rsigned_any y W
  rw [ha, hb] at hs3 e0 hr
  rw [hb] at hq
  rw [ha] at hs1 hs2
  rw [ha, hb]
  obtain ⟨hs3, hs4⟩ := hs3
  obtain ⟨hr1, hr2⟩ := hr
  have HU : Hid (∀ W, Calls Tryd.prog 40 #[.int .i64 (a.tdiv b)] W fun e w' => e = .returned (wv (us (a.tdiv b))) ∧ w' = W) := Lib.hid fun W => runsigned_any _ W (by omega) (by omega)
  obtain ⟨q, hqq⟩ : ∃ q, a.tdiv b = q := ⟨_, rfl⟩
  rw [hqq] at hs3 hs4 HU
  rw [hqq]
  clear e0 hr1 hr2 HS ha hb hs1 hs2 hy0
  go_enter Tryd.func36, Tryd.ntmps36
  have hqb : (b == 0) = false := by simp [hq]
  have HQ := Lib.hid hq
  clear hq
  go_upto_region 16 with (first
    | (go_at_call 39; (with_reducible refine (HSx.out _).mono ?_); rintro e w' ⟨rfl, rfl⟩)
    | (go_at_call 39; (with_reducible refine (HSy.out _).mono ?_); rintro e w' ⟨rfl, rfl⟩)
    | (go_at_call 40; refine (HU.out _).mono ?_; rintro e w' ⟨rfl, rfl⟩))
  have hq := HQ.out
  clear HQ
  go_wp2_with (first
    | (go_at_call 39; (with_reducible refine (HSx.out _).mono ?_); rintro e w' ⟨rfl, rfl⟩)
    | (go_at_call 39; (with_reducible refine (HSy.out _).mono ?_); rintro e w' ⟨rfl, rfl⟩)
    | (go_at_call 40; refine (HU.out _).mono ?_; rintro e w' ⟨rfl, rfl⟩))
  go_ret2
  exact ⟨rfl, rfl⟩
theorem mod_parts (a b : Int) (h1 : -2147483648 ≤ a) (h2 : a ≤ 2147483647) : ∃ q m r, a.tdiv b = q ∧ b * q = m ∧ a.tmod b = r ∧ a - m = r ∧ q ≤ 2147483648 ∧ -2147483648 ≤ q ∧ m ≤ 8589934592 ∧ -8589934592 ≤ m ∧ r ≤ 4294967296 ∧ -4294967296 ≤ r := by
  have hs3 : (a.tdiv b).natAbs ≤ a.natAbs := by rw [Int.natAbs_tdiv]; exact Nat.div_le_self _ _
  have hr : (a.tmod b).natAbs ≤ a.natAbs := by rw [Int.natAbs_tmod]; exact Nat.mod_le _ _
  have e0 : a.tmod b = a - b * a.tdiv b := Int.tmod_def _ _
  obtain ⟨q, hq⟩ : ∃ q, a.tdiv b = q := ⟨_, rfl⟩
  obtain ⟨r, hr'⟩ : ∃ r, a.tmod b = r := ⟨_, rfl⟩
  rw [hq] at hs3 e0
  rw [hr'] at hr e0
  obtain ⟨m, hm⟩ : ∃ m, b * q = m := ⟨_, rfl⟩
  rw [hm] at e0
  exact ⟨q, m, r, hq, hm, hr', by omega, by omega, by omega, by omega, by omega, by omega, by omega⟩

set_option maxHeartbeats 1000000 in
set_option maxRecDepth 100000 in
theorem rcalc8_any (x y : UInt32) (w : World) (hy0 : ¬ (y.toNat : Int) = 0) : Calls Tryd.prog 36 #[.int .i64 8, wv x, wv y] w fun e w' => e = .returned (.tuple #[wv (us ((sg x).tmod (sg y))), .int .i64 0]) ∧ w' = w := by
  have HS : Hid (∀ x W, Calls Tryd.prog 39 #[wv x] W fun e w' => e = .returned (.int .i64 (sg x)) ∧ w' = W) := Lib.hid rsigned_any
  have hx := word_lti x
  have hy := word_lti y
  have hq := fun h => hy0 ((sg_zero y).1 h)
  obtain ⟨q, m, r, hqq, hm, hrr, hw5, hs3, hs4, hw2, hw3, hr1, hr2⟩ := mod_parts (sg x) (sg y) (sg_lo x) (sg_hi x)
  obtain ⟨a, ha⟩ : ∃ a, sg x = a := ⟨_, rfl⟩
  obtain ⟨b, hb⟩ : ∃ b, sg y = b := ⟨_, rfl⟩
  have HSx : Hid (∀ W, Calls Tryd.prog 39 #[wv x] W fun e w' => e = .returned (.int .i64 a) ∧ w' = W) := Lib.hid fun W => by rw [← ha]; exact rsigned_any x W
  have HSy : Hid (∀ W, Calls Tryd.prog 39 #[wv y] W fun e w' => e = .returned (.int .i64 b) ∧ w' = W) := Lib.hid fun W => by rw [← hb]; exact rsigned_any y W
  have HU : Hid (∀ W, Calls Tryd.prog 40 #[.int .i64 r] W fun e w' => e = .returned (wv (us r)) ∧ w' = W) := Lib.hid fun W => runsigned_any r W (by omega) (by omega)
  rw [hrr]
  rw [hb] at hq hm
  rw [ha] at hw5
  rw [ha, hb] at hqq
  clear hrr ha hb HS
  have hq : ¬ b = 0 := hq
  go_enter Tryd.func36, Tryd.ntmps36
  have hqb : (b == 0) = false := by simp [hq]
  have HQ := Lib.hid hq
  clear hq hy0
  go_upto_region 16 with (first
    | (go_at_call 39; (with_reducible refine (HSx.out _).mono ?_); rintro e w' ⟨rfl, rfl⟩)
    | (go_at_call 39; (with_reducible refine (HSy.out _).mono ?_); rintro e w' ⟨rfl, rfl⟩)
    | (go_at_call 40; refine (HU.out _).mono ?_; rintro e w' ⟨rfl, rfl⟩))
  have hq := HQ.out
  clear HQ
  go_wp2_with (first
    | (go_at_call 39; (with_reducible refine (HSx.out _).mono ?_); rintro e w' ⟨rfl, rfl⟩)
    | (go_at_call 39; (with_reducible refine (HSy.out _).mono ?_); rintro e w' ⟨rfl, rfl⟩)
    | (go_at_call 40; refine (HU.out _).mono ?_; rintro e w' ⟨rfl, rfl⟩))
  go_ret2
  exact ⟨rfl, rfl⟩
set_option maxHeartbeats 1000000 in
set_option maxRecDepth 100000 in
theorem rcalc14T (x y : UInt32) (w : World) (hc : decide (sg x < sg y) = true) : Calls Tryd.prog 36 #[.int .i64 14, wv x, wv y] w fun e w' => e = .returned (.tuple #[wv (1), .int .i64 0]) ∧ w' = w := by
  have HS : Hid (∀ x W, Calls Tryd.prog 39 #[wv x] W fun e w' => e = .returned (.int .i64 (sg x)) ∧ w' = W) := Lib.hid rsigned_any
  have hx := word_lti x
  have hy := word_lti y
  have HU : Hid (∀ W, Calls Tryd.prog 40 #[.int .i64 1] W fun e w' => e = .returned (wv 1) ∧ w' = W) := Lib.hid fun W => runsigned_any 1 W (by decide) (by decide)
  go_enter Tryd.func36, Tryd.ntmps36
  go_wp2_with (first
    | (go_at_call 39; refine (HS.out _ _).mono ?_; rintro e w' ⟨rfl, rfl⟩)
    | (go_at_call 40; refine (HU.out _).mono ?_; rintro e w' ⟨rfl, rfl⟩))
  go_ret2
  exact ⟨rfl, rfl⟩
set_option maxHeartbeats 1000000 in
set_option maxRecDepth 100000 in
theorem rcalc14F (x y : UInt32) (w : World) (hc : decide (sg x < sg y) = false) : Calls Tryd.prog 36 #[.int .i64 14, wv x, wv y] w fun e w' => e = .returned (.tuple #[wv (0), .int .i64 0]) ∧ w' = w := by
  have HS : Hid (∀ x W, Calls Tryd.prog 39 #[wv x] W fun e w' => e = .returned (.int .i64 (sg x)) ∧ w' = W) := Lib.hid rsigned_any
  have hx := word_lti x
  have hy := word_lti y
  have HU : Hid (∀ W, Calls Tryd.prog 40 #[.int .i64 0] W fun e w' => e = .returned (wv 0) ∧ w' = W) := Lib.hid fun W => runsigned_any 0 W (by decide) (by decide)
  go_enter Tryd.func36, Tryd.ntmps36
  go_wp2_with (first
    | (go_at_call 39; refine (HS.out _ _).mono ?_; rintro e w' ⟨rfl, rfl⟩)
    | (go_at_call 40; refine (HU.out _).mono ?_; rintro e w' ⟨rfl, rfl⟩))
  go_ret2
  exact ⟨rfl, rfl⟩
set_option maxHeartbeats 1000000 in
set_option maxRecDepth 100000 in
theorem rcalc15T (x y : UInt32) (w : World) (hc : ((x.toNat : Int) == (y.toNat : Int)) = true) : Calls Tryd.prog 36 #[.int .i64 15, wv x, wv y] w fun e w' => e = .returned (.tuple #[wv (1), .int .i64 0]) ∧ w' = w := by
  have HS : Hid (∀ x W, Calls Tryd.prog 39 #[wv x] W fun e w' => e = .returned (.int .i64 (sg x)) ∧ w' = W) := Lib.hid rsigned_any
  have hx := word_lti x
  have hy := word_lti y
  have HU : Hid (∀ W, Calls Tryd.prog 40 #[.int .i64 1] W fun e w' => e = .returned (wv 1) ∧ w' = W) := Lib.hid fun W => runsigned_any 1 W (by decide) (by decide)
  go_enter Tryd.func36, Tryd.ntmps36
  go_wp2_with (first
    | (go_at_call 39; refine (HS.out _ _).mono ?_; rintro e w' ⟨rfl, rfl⟩)
    | (go_at_call 40; refine (HU.out _).mono ?_; rintro e w' ⟨rfl, rfl⟩))
  go_ret2
  exact ⟨rfl, rfl⟩
set_option maxHeartbeats 1000000 in
set_option maxRecDepth 100000 in
theorem rcalc15F (x y : UInt32) (w : World) (hc : ((x.toNat : Int) == (y.toNat : Int)) = false) : Calls Tryd.prog 36 #[.int .i64 15, wv x, wv y] w fun e w' => e = .returned (.tuple #[wv (0), .int .i64 0]) ∧ w' = w := by
  have HS : Hid (∀ x W, Calls Tryd.prog 39 #[wv x] W fun e w' => e = .returned (.int .i64 (sg x)) ∧ w' = W) := Lib.hid rsigned_any
  have hx := word_lti x
  have hy := word_lti y
  have HU : Hid (∀ W, Calls Tryd.prog 40 #[.int .i64 0] W fun e w' => e = .returned (wv 0) ∧ w' = W) := Lib.hid fun W => runsigned_any 0 W (by decide) (by decide)
  go_enter Tryd.func36, Tryd.ntmps36
  go_wp2_with (first
    | (go_at_call 39; refine (HS.out _ _).mono ?_; rintro e w' ⟨rfl, rfl⟩)
    | (go_at_call 40; refine (HU.out _).mono ?_; rintro e w' ⟨rfl, rfl⟩))
  go_ret2
  exact ⟨rfl, rfl⟩
set_option maxHeartbeats 1000000 in
set_option maxRecDepth 100000 in
theorem rcalcZ7_any (x y : UInt32) (w : World) (hy0 : (y.toNat : Int) = 0) : Calls Tryd.prog 36 #[.int .i64 7, wv x, wv y] w fun e w' => e = .returned (.tuple #[wv 0, .int .i64 38]) ∧ w' = w := by
  have HS : Hid (∀ x W, Calls Tryd.prog 39 #[wv x] W fun e w' => e = .returned (.int .i64 (sg x)) ∧ w' = W) := Lib.hid rsigned_any
  have hx := word_lti x
  have hy := word_lti y
  have HSy : Hid (∀ W, Calls Tryd.prog 39 #[wv y] W fun e w' => e = .returned (.int .i64 0) ∧ w' = W) := Lib.hid fun W => by rw [← (sg_zero y).2 hy0]; exact rsigned_any y W
  clear hy0
  go_enter Tryd.func36, Tryd.ntmps36
  go_wp2_with (first
    | (go_at_call 39; (with_reducible refine (HSy.out _).mono ?_); rintro e w' ⟨rfl, rfl⟩)
    | (go_at_call 39; refine (HS.out _ _).mono ?_; rintro e w' ⟨rfl, rfl⟩))
  go_ret2
  exact ⟨rfl, rfl⟩
set_option maxHeartbeats 1000000 in
set_option maxRecDepth 100000 in
theorem rcalcZ8_any (x y : UInt32) (w : World) (hy0 : (y.toNat : Int) = 0) : Calls Tryd.prog 36 #[.int .i64 8, wv x, wv y] w fun e w' => e = .returned (.tuple #[wv 0, .int .i64 38]) ∧ w' = w := by
  have HS : Hid (∀ x W, Calls Tryd.prog 39 #[wv x] W fun e w' => e = .returned (.int .i64 (sg x)) ∧ w' = W) := Lib.hid rsigned_any
  have hx := word_lti x
  have hy := word_lti y
  have HSy : Hid (∀ W, Calls Tryd.prog 39 #[wv y] W fun e w' => e = .returned (.int .i64 0) ∧ w' = W) := Lib.hid fun W => by rw [← (sg_zero y).2 hy0]; exact rsigned_any y W
  clear hy0
  go_enter Tryd.func36, Tryd.ntmps36
  go_wp2_with (first
    | (go_at_call 39; (with_reducible refine (HSy.out _).mono ?_); rintro e w' ⟨rfl, rfl⟩)
    | (go_at_call 39; refine (HS.out _ _).mono ?_; rintro e w' ⟨rfl, rfl⟩))
  go_ret2
  exact ⟨rfl, rfl⟩
set_option maxHeartbeats 1000000 in
set_option maxRecDepth 100000 in
theorem rcalcN_any (op : Int) (x y : UInt32) (w : World) (h : ¬ (4 ≤ op ∧ op ≤ 15)) : Calls Tryd.prog 36 #[.int .i64 op, wv x, wv y] w fun e w' => e = .returned (.tuple #[wv 0, .int .i64 11]) ∧ w' = w := by
  have HS : Hid (∀ x W, Calls Tryd.prog 39 #[wv x] W fun e w' => e = .returned (.int .i64 (sg x)) ∧ w' = W) := Lib.hid rsigned_any
  have hx := word_lti x
  have hy := word_lti y
  have n4 : (op == 4) = false := by simp; omega
  have n5 : (op == 5) = false := by simp; omega
  have n6 : (op == 6) = false := by simp; omega
  have n7 : (op == 7) = false := by simp; omega
  have n8 : (op == 8) = false := by simp; omega
  have n9 : (op == 9) = false := by simp; omega
  have n10 : (op == 10) = false := by simp; omega
  have n11 : (op == 11) = false := by simp; omega
  have n12 : (op == 12) = false := by simp; omega
  have n13 : (op == 13) = false := by simp; omega
  have n14 : (op == 14) = false := by simp; omega
  have n15 : (op == 15) = false := by simp; omega
  clear h
  go_enter Tryd.func36, Tryd.ntmps36
  go_wp2_with (go_at_call 39; refine (HS.out _ _).mono ?_; rintro e w' ⟨rfl, rfl⟩)
  go_ret2
  exact ⟨rfl, rfl⟩
end Go.Proofs.YtajkccigmiegkaaDoor
