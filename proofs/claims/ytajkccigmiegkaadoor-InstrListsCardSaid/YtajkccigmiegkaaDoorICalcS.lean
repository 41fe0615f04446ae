/- instr: the reference's Calculate at the bits and the shifts. -/
import Derived.Test.YtajkccigmiegkaaDoorICalcR
set_option linter.unusedVariables false
namespace Go.Proofs.YtajkccigmiegkaaDoor
open Go.RowKit

theorem wshl_zero (x : UInt32) : (wshl x 0).toNat = x.toNat := by unfold wshl; rw [word_ofNat (by have := word_lt x; simpa using this)]; simp
theorem wshr_zero (x : UInt32) : (wshr x 0).toNat = x.toNat := by unfold wshr; rw [word_ofNat (by have := word_lt x; simpa using this)]; simp
theorem wshl_succ (x : UInt32) (k : Nat) : ((wshl x (k + 1)).toNat : Int) = ((wshl x k).toNat : Int) * 2 % 4294967296 := by
  rw [← shl_w x (k + 1) _ rfl, ← shl_w x k _ rfl, Nat.pow_succ]
  have e : (x.toNat : Int) * ((2 ^ k * 2 : Nat) : Int) = (x.toNat : Int) * ((2 ^ k : Nat) : Int) * 2 := by rw [Int.natCast_mul, ← Int.mul_assoc]; rfl
  rw [e]
  generalize (x.toNat : Int) * ((2 ^ k : Nat) : Int) = a
  omega
theorem wshr_toNat (x : UInt32) (k : Nat) : (wshr x k).toNat = x.toNat / 2 ^ k := by unfold wshr; exact word_ofNat (Nat.lt_of_le_of_lt (Nat.div_le_self _ _) (word_lt x))
theorem wshr_succ (x : UInt32) (k : Nat) : ((wshr x (k + 1)).toNat : Int) = ((wshr x k).toNat : Int) / 2 := by
  rw [wshr_toNat, wshr_toNat, Nat.pow_succ, ← Nat.div_div_eq_div_mul]
  omega

set_option maxHeartbeats 2000000 in
set_option maxRecDepth 100000 in
theorem rcalc9_any (x y : UInt32) (w : World) : Calls Tryd.prog 36 #[.int .i64 9, wv x, wv y] w fun e w' => e = .returned (.tuple #[wv (wand x y), .int .i64 0]) ∧ w' = w := by
  have HS : Hid (∀ x W, Calls Tryd.prog 39 #[wv x] W fun e w' => e = .returned (.int .i64 (sg x)) ∧ W = w') := Lib.hid fun x W => (rsigned_any x W).mono fun _ _ h => ⟨h.1, h.2.symm⟩
  have hx := word_lti x
  have hy := word_lti y
  obtain ⟨z, hz⟩ : ∃ z, z = wand x y := ⟨_, rfl⟩
  have HU : Hid (∀ W, Calls Tryd.prog 40 #[.int .i64 (z.toNat : Int)] W fun e w' => e = .returned (wv z) ∧ w' = W) := Lib.hid fun W => by
    have h := runsigned_any (z.toNat : Int) W (by have := word_lti z; omega) (by have := word_lti z; omega)
    rw [us_nat] at h
    exact h
  have HZ : Hid (∀ i, z.toNat / 2 ^ i % 2 = if Bool.and (decide (x.toNat / 2 ^ i % 2 = 1)) (decide (y.toNat / 2 ^ i % 2 = 1)) then 1 else 0) := Lib.hid fun i => by rw [hz]; exact bit_op Bool.and wand bit_and x y i
  have HL := Lib.hid (word_lt z)
  rw [← hz]
  clear hz
  go_enter Tryd.func36, Tryd.ntmps36
  go_wp2_with (first
    | (go_at_call 39; refine (HS.out _ _).mono ?_; rintro e w' ⟨rfl, rfl⟩))
  go_loopw [12, 13] (fun a i wr => ∃ (j n : Nat) (u : Int), i = .int .i64 u ∧ u = 31 - (j : Int) ∧ j ≤ 32 ∧ a = .int .i64 (n : Int) ∧ n = z.toNat / 2 ^ (32 - j) ∧ wr = w) (fun _ i _ => (intOf i + 1).toNat)
  case atStart => exact ⟨0, 0, 31, rfl, by omega, by omega, rfl, by have := HL.out; rw [Nat.div_eq_of_lt (by simpa using this)], rfl⟩
  case round =>
    obtain ⟨j, n, u, rfl, hu, hj, rfl, hn, rfl⟩ := hrel
    have hn2 : n < 4294967296 := by rw [hn]; exact Nat.lt_of_le_of_lt (Nat.div_le_self _ _) HL.out
    by_cases h32 : j < 32
    · obtain ⟨m, hm⟩ : ∃ m : Nat, (m : Int) = u ∧ m = 31 - j := ⟨31 - j, by omega, rfl⟩
      obtain ⟨rfl, hm⟩ := hm
      have hm2 : m < 32 := by omega
      have hm0 : (0 : Int) ≤ (m : Int) := by omega
      have e32 : 32 - j = m + 1 := by omega
      have e33 : 32 - (j + 1) = m := by omega
      rw [e32] at hn
      have hs := shr_bit z.toNat m
      rw [← hn, HZ.out] at hs
      obtain ⟨p, hp⟩ : ∃ p, x.toNat / 2 ^ m % 2 = p := ⟨_, rfl⟩
      obtain ⟨q, hq⟩ : ∃ q, y.toNat / 2 ^ m % 2 = q := ⟨_, rfl⟩
      have hp2 : p < 2 := by rw [← hp]; exact Nat.mod_lt _ (by omega)
      have hq2 : q < 2 := by rw [← hq]; exact Nat.mod_lt _ (by omega)
      have HBx : Hid (∀ W, Calls Tryd.prog 58 #[wv x, .int .i64 (m : Int)] W fun e w' => e = .returned (.int .i64 (p : Int)) ∧ w' = W) := Lib.hid fun W => by rw [← hp]; exact bit_any x m W hm2
      have HBy : Hid (∀ W, Calls Tryd.prog 58 #[wv y, .int .i64 (m : Int)] W fun e w' => e = .returned (.int .i64 (q : Int)) ∧ w' = W) := Lib.hid fun W => by rw [← hq]; exact bit_any y m W hm2
      rw [hp, hq] at hs
      have HSS := Lib.hid hs
      have HMM := Lib.hid hm
      have HJ := Lib.hid hu
      clear hp hq hs hn e32 hm hu
      obtain rfl | rfl : p = 0 ∨ p = 1 := by omega
      all_goals
        obtain rfl | rfl : q = 0 ∨ q = 1 := by omega
      all_goals
        clear hp2 hq2
        go_wp2_with (first
          | (go_at_call 58; (with_reducible refine (HBx.out _).mono ?_); rintro e w' ⟨rfl, rfl⟩)
          | (go_at_call 58; (with_reducible refine (HBy.out _).mono ?_); rintro e w' ⟨rfl, rfl⟩))
        go_roundw
        case rel =>
          have h1 := HSS.out
          have h2 := HMM.out
          refine ⟨j + 1, z.toNat / 2 ^ m, (m : Int) - 1, by go_num, by omega, by omega, ?_, by rw [e33], trivial⟩
          rw [h1]
          first | rfl | (show Value.int .i64 _ = Value.int .i64 _; congr 1 <;> simp)
        case measure => simp [intOf] <;> omega
    · obtain rfl : u = -1 := by omega
      have hz2 : n = z.toNat := by rw [hn, show 32 - j = 0 by omega]; simp
      subst hz2
      clear hn hu hn2
      go_wp2_with (first
        | (go_at_call 40; refine (HU.out _).mono ?_; rintro e w' ⟨rfl, rfl⟩))
      go_ret2
      exact ⟨rfl, rfl⟩
set_option maxHeartbeats 2000000 in
set_option maxRecDepth 100000 in
theorem rcalc10_any (x y : UInt32) (w : World) : Calls Tryd.prog 36 #[.int .i64 10, wv x, wv y] w fun e w' => e = .returned (.tuple #[wv (wor x y), .int .i64 0]) ∧ w' = w := by
  have HS : Hid (∀ x W, Calls Tryd.prog 39 #[wv x] W fun e w' => e = .returned (.int .i64 (sg x)) ∧ W = w') := Lib.hid fun x W => (rsigned_any x W).mono fun _ _ h => ⟨h.1, h.2.symm⟩
  have hx := word_lti x
  have hy := word_lti y
  obtain ⟨z, hz⟩ : ∃ z, z = wor x y := ⟨_, rfl⟩
  have HU : Hid (∀ W, Calls Tryd.prog 40 #[.int .i64 (z.toNat : Int)] W fun e w' => e = .returned (wv z) ∧ w' = W) := Lib.hid fun W => by
    have h := runsigned_any (z.toNat : Int) W (by have := word_lti z; omega) (by have := word_lti z; omega)
    rw [us_nat] at h
    exact h
  have HZ : Hid (∀ i, z.toNat / 2 ^ i % 2 = if Bool.or (decide (x.toNat / 2 ^ i % 2 = 1)) (decide (y.toNat / 2 ^ i % 2 = 1)) then 1 else 0) := Lib.hid fun i => by rw [hz]; exact bit_op Bool.or wor bit_or x y i
  have HL := Lib.hid (word_lt z)
  rw [← hz]
  clear hz
  go_enter Tryd.func36, Tryd.ntmps36
  go_wp2_with (first
    | (go_at_call 39; refine (HS.out _ _).mono ?_; rintro e w' ⟨rfl, rfl⟩))
  go_loopw [12, 13] (fun a i wr => ∃ (j n : Nat) (u : Int), i = .int .i64 u ∧ u = 31 - (j : Int) ∧ j ≤ 32 ∧ a = .int .i64 (n : Int) ∧ n = z.toNat / 2 ^ (32 - j) ∧ wr = w) (fun _ i _ => (intOf i + 1).toNat)
  case atStart => exact ⟨0, 0, 31, rfl, by omega, by omega, rfl, by have := HL.out; rw [Nat.div_eq_of_lt (by simpa using this)], rfl⟩
  case round =>
    obtain ⟨j, n, u, rfl, hu, hj, rfl, hn, rfl⟩ := hrel
    have hn2 : n < 4294967296 := by rw [hn]; exact Nat.lt_of_le_of_lt (Nat.div_le_self _ _) HL.out
    by_cases h32 : j < 32
    · obtain ⟨m, hm⟩ : ∃ m : Nat, (m : Int) = u ∧ m = 31 - j := ⟨31 - j, by omega, rfl⟩
      obtain ⟨rfl, hm⟩ := hm
      have hm2 : m < 32 := by omega
      have hm0 : (0 : Int) ≤ (m : Int) := by omega
      have e32 : 32 - j = m + 1 := by omega
      have e33 : 32 - (j + 1) = m := by omega
      rw [e32] at hn
      have hs := shr_bit z.toNat m
      rw [← hn, HZ.out] at hs
      obtain ⟨p, hp⟩ : ∃ p, x.toNat / 2 ^ m % 2 = p := ⟨_, rfl⟩
      obtain ⟨q, hq⟩ : ∃ q, y.toNat / 2 ^ m % 2 = q := ⟨_, rfl⟩
      have hp2 : p < 2 := by rw [← hp]; exact Nat.mod_lt _ (by omega)
      have hq2 : q < 2 := by rw [← hq]; exact Nat.mod_lt _ (by omega)
      have HBx : Hid (∀ W, Calls Tryd.prog 58 #[wv x, .int .i64 (m : Int)] W fun e w' => e = .returned (.int .i64 (p : Int)) ∧ w' = W) := Lib.hid fun W => by rw [← hp]; exact bit_any x m W hm2
      have HBy : Hid (∀ W, Calls Tryd.prog 58 #[wv y, .int .i64 (m : Int)] W fun e w' => e = .returned (.int .i64 (q : Int)) ∧ w' = W) := Lib.hid fun W => by rw [← hq]; exact bit_any y m W hm2
      rw [hp, hq] at hs
      have HSS := Lib.hid hs
      have HMM := Lib.hid hm
      have HJ := Lib.hid hu
      clear hp hq hs hn e32 hm hu
      obtain rfl | rfl : p = 0 ∨ p = 1 := by omega
      all_goals
        obtain rfl | rfl : q = 0 ∨ q = 1 := by omega
      all_goals
        clear hp2 hq2
        go_wp2_with (first
          | (go_at_call 58; (with_reducible refine (HBx.out _).mono ?_); rintro e w' ⟨rfl, rfl⟩)
          | (go_at_call 58; (with_reducible refine (HBy.out _).mono ?_); rintro e w' ⟨rfl, rfl⟩))
        go_roundw
        case rel =>
          have h1 := HSS.out
          have h2 := HMM.out
          refine ⟨j + 1, z.toNat / 2 ^ m, (m : Int) - 1, by go_num, by omega, by omega, ?_, by rw [e33], trivial⟩
          rw [h1]
          first | rfl | (show Value.int .i64 _ = Value.int .i64 _; congr 1 <;> simp)
        case measure => simp [intOf] <;> omega
    · obtain rfl : u = -1 := by omega
      have hz2 : n = z.toNat := by rw [hn, show 32 - j = 0 by omega]; simp
      subst hz2
      clear hn hu hn2
      go_wp2_with (first
        | (go_at_call 40; refine (HU.out _).mono ?_; rintro e w' ⟨rfl, rfl⟩))
      go_ret2
      exact ⟨rfl, rfl⟩
set_option maxHeartbeats 2000000 in
set_option maxRecDepth 100000 in
theorem rcalc11_any (x y : UInt32) (w : World) : Calls Tryd.prog 36 #[.int .i64 11, wv x, wv y] w fun e w' => e = .returned (.tuple #[wv (wxor x y), .int .i64 0]) ∧ w' = w := by
  have HS : Hid (∀ x W, Calls Tryd.prog 39 #[wv x] W fun e w' => e = .returned (.int .i64 (sg x)) ∧ W = w') := Lib.hid fun x W => (rsigned_any x W).mono fun _ _ h => ⟨h.1, h.2.symm⟩
  have hx := word_lti x
  have hy := word_lti y
  obtain ⟨z, hz⟩ : ∃ z, z = wxor x y := ⟨_, rfl⟩
  have HU : Hid (∀ W, Calls Tryd.prog 40 #[.int .i64 (z.toNat : Int)] W fun e w' => e = .returned (wv z) ∧ w' = W) := Lib.hid fun W => by
    have h := runsigned_any (z.toNat : Int) W (by have := word_lti z; omega) (by have := word_lti z; omega)
    rw [us_nat] at h
    exact h
  have HZ : Hid (∀ i, z.toNat / 2 ^ i % 2 = if Bool.xor (decide (x.toNat / 2 ^ i % 2 = 1)) (decide (y.toNat / 2 ^ i % 2 = 1)) then 1 else 0) := Lib.hid fun i => by rw [hz]; exact bit_op Bool.xor wxor bit_xor x y i
  have HL := Lib.hid (word_lt z)
  rw [← hz]
  clear hz
  go_enter Tryd.func36, Tryd.ntmps36
  go_wp2_with (first
    | (go_at_call 39; refine (HS.out _ _).mono ?_; rintro e w' ⟨rfl, rfl⟩))
  go_loopw [12, 13] (fun a i wr => ∃ (j n : Nat) (u : Int), i = .int .i64 u ∧ u = 31 - (j : Int) ∧ j ≤ 32 ∧ a = .int .i64 (n : Int) ∧ n = z.toNat / 2 ^ (32 - j) ∧ wr = w) (fun _ i _ => (intOf i + 1).toNat)
  case atStart => exact ⟨0, 0, 31, rfl, by omega, by omega, rfl, by have := HL.out; rw [Nat.div_eq_of_lt (by simpa using this)], rfl⟩
  case round =>
    obtain ⟨j, n, u, rfl, hu, hj, rfl, hn, rfl⟩ := hrel
    have hn2 : n < 4294967296 := by rw [hn]; exact Nat.lt_of_le_of_lt (Nat.div_le_self _ _) HL.out
    by_cases h32 : j < 32
    · obtain ⟨m, hm⟩ : ∃ m : Nat, (m : Int) = u ∧ m = 31 - j := ⟨31 - j, by omega, rfl⟩
      obtain ⟨rfl, hm⟩ := hm
      have hm2 : m < 32 := by omega
      have hm0 : (0 : Int) ≤ (m : Int) := by omega
      have e32 : 32 - j = m + 1 := by omega
      have e33 : 32 - (j + 1) = m := by omega
      rw [e32] at hn
      have hs := shr_bit z.toNat m
      rw [← hn, HZ.out] at hs
      obtain ⟨p, hp⟩ : ∃ p, x.toNat / 2 ^ m % 2 = p := ⟨_, rfl⟩
      obtain ⟨q, hq⟩ : ∃ q, y.toNat / 2 ^ m % 2 = q := ⟨_, rfl⟩
      have hp2 : p < 2 := by rw [← hp]; exact Nat.mod_lt _ (by omega)
      have hq2 : q < 2 := by rw [← hq]; exact Nat.mod_lt _ (by omega)
      have HBx : Hid (∀ W, Calls Tryd.prog 58 #[wv x, .int .i64 (m : Int)] W fun e w' => e = .returned (.int .i64 (p : Int)) ∧ w' = W) := Lib.hid fun W => by rw [← hp]; exact bit_any x m W hm2
      have HBy : Hid (∀ W, Calls Tryd.prog 58 #[wv y, .int .i64 (m : Int)] W fun e w' => e = .returned (.int .i64 (q : Int)) ∧ w' = W) := Lib.hid fun W => by rw [← hq]; exact bit_any y m W hm2
      rw [hp, hq] at hs
      have HSS := Lib.hid hs
      have HMM := Lib.hid hm
      have HJ := Lib.hid hu
      clear hp hq hs hn e32 hm hu
      obtain rfl | rfl : p = 0 ∨ p = 1 := by omega
      all_goals
        obtain rfl | rfl : q = 0 ∨ q = 1 := by omega
      all_goals
        clear hp2 hq2
        go_wp2_with (first
          | (go_at_call 58; (with_reducible refine (HBx.out _).mono ?_); rintro e w' ⟨rfl, rfl⟩)
          | (go_at_call 58; (with_reducible refine (HBy.out _).mono ?_); rintro e w' ⟨rfl, rfl⟩))
        go_roundw
        case rel =>
          have h1 := HSS.out
          have h2 := HMM.out
          refine ⟨j + 1, z.toNat / 2 ^ m, (m : Int) - 1, by go_num, by omega, by omega, ?_, by rw [e33], trivial⟩
          rw [h1]
          first | rfl | (show Value.int .i64 _ = Value.int .i64 _; congr 1 <;> simp)
        case measure => simp [intOf] <;> omega
    · obtain rfl : u = -1 := by omega
      have hz2 : n = z.toNat := by rw [hn, show 32 - j = 0 by omega]; simp
      subst hz2
      clear hn hu hn2
      go_wp2_with (first
        | (go_at_call 40; refine (HU.out _).mono ?_; rintro e w' ⟨rfl, rfl⟩))
      go_ret2
      exact ⟨rfl, rfl⟩
set_option maxHeartbeats 2000000 in
set_option maxRecDepth 100000 in
theorem rcalc12_any (x y : UInt32) (w : World) : Calls Tryd.prog 36 #[.int .i64 12, wv x, wv y] w fun e w' => e = .returned (.tuple #[wv (wshl x (y.toNat % 32)), .int .i64 0]) ∧ w' = w := by
  have HS : Hid (∀ x W, Calls Tryd.prog 39 #[wv x] W fun e w' => e = .returned (.int .i64 (sg x)) ∧ W = w') := Lib.hid fun x W => (rsigned_any x W).mono fun _ _ h => ⟨h.1, h.2.symm⟩
  have hx := word_lti x
  have hy := word_lti y
  obtain ⟨s, hs⟩ : ∃ s, y.toNat % 32 = s := ⟨_, rfl⟩
  have hs2 : (y.toNat : Int) % 32 = (s : Int) := by omega
  have hs3 : s < 32 := by rw [← hs]; exact Nat.mod_lt _ (by omega)
  obtain ⟨z, hz⟩ : ∃ z, z = wshl x s := ⟨_, rfl⟩
  have HU : Hid (∀ W, Calls Tryd.prog 40 #[.int .i64 (z.toNat : Int)] W fun e w' => e = .returned (wv z) ∧ w' = W) := Lib.hid fun W => by
    have h := runsigned_any (z.toNat : Int) W (by have := word_lti z; omega) (by have := word_lti z; omega)
    rw [us_nat] at h
    exact h
  rw [hs, ← hz]
  have HZ := Lib.hid hz
  clear hz hs
  go_enter Tryd.func36, Tryd.ntmps36
  go_wp2_with (first
    | (go_at_call 39; refine (HS.out _ _).mono ?_; rintro e w' ⟨rfl, rfl⟩))
  go_loopw [12, 15] (fun a i wr => ∃ (k n : Nat), i = .int .i64 (k : Int) ∧ k ≤ s ∧ a = .int .i64 (n : Int) ∧ n = (wshl x k).toNat ∧ wr = w) (fun _ i _ => s - (intOf i).toNat)
  case atStart => exact ⟨0, x.toNat, rfl, by omega, rfl, by rw [wshl_zero], rfl⟩
  case round =>
    obtain ⟨k, n, rfl, hk, rfl, hn, rfl⟩ := hrel
    have hn2 : n < 4294967296 := by rw [hn]; exact word_lt _
    by_cases hlt : k < s
    · have h1 : (k : Int) < (s : Int) := by omega
      have HN := Lib.hid hn
      clear hn
      go_wp2
      go_roundw
      case rel =>
        refine ⟨k + 1, (wshl x (k + 1)).toNat, by go_num, by omega, ?_, rfl, trivial⟩
        show Value.int .i64 _ = Value.int .i64 _
        congr 1
        rw [wshl_succ, ← HN.out]
      case measure => simp [intOf] <;> omega
    · have h1 : ¬ (k : Int) < (s : Int) := by omega
      obtain rfl : k = s := by omega
      have hz2 : n = z.toNat := by rw [hn, HZ.out]
      subst hz2
      clear hn HZ hn2
      go_wp2_with (first
        | (go_at_call 40; refine (HU.out _).mono ?_; rintro e w' ⟨rfl, rfl⟩))
      go_ret2
      exact ⟨rfl, rfl⟩
set_option maxHeartbeats 2000000 in
set_option maxRecDepth 100000 in
theorem rcalc13_any (x y : UInt32) (w : World) : Calls Tryd.prog 36 #[.int .i64 13, wv x, wv y] w fun e w' => e = .returned (.tuple #[wv (wshr x (y.toNat % 32)), .int .i64 0]) ∧ w' = w := by
  have HS : Hid (∀ x W, Calls Tryd.prog 39 #[wv x] W fun e w' => e = .returned (.int .i64 (sg x)) ∧ W = w') := Lib.hid fun x W => (rsigned_any x W).mono fun _ _ h => ⟨h.1, h.2.symm⟩
  have hx := word_lti x
  have hy := word_lti y
  obtain ⟨s, hs⟩ : ∃ s, y.toNat % 32 = s := ⟨_, rfl⟩
  have hs2 : (y.toNat : Int) % 32 = (s : Int) := by omega
  have hs3 : s < 32 := by rw [← hs]; exact Nat.mod_lt _ (by omega)
  obtain ⟨z, hz⟩ : ∃ z, z = wshr x s := ⟨_, rfl⟩
  have HU : Hid (∀ W, Calls Tryd.prog 40 #[.int .i64 (z.toNat : Int)] W fun e w' => e = .returned (wv z) ∧ w' = W) := Lib.hid fun W => by
    have h := runsigned_any (z.toNat : Int) W (by have := word_lti z; omega) (by have := word_lti z; omega)
    rw [us_nat] at h
    exact h
  rw [hs, ← hz]
  have HZ := Lib.hid hz
  clear hz hs
  go_enter Tryd.func36, Tryd.ntmps36
  go_wp2_with (first
    | (go_at_call 39; refine (HS.out _ _).mono ?_; rintro e w' ⟨rfl, rfl⟩))
  go_loopw [12, 16] (fun a i wr => ∃ (k n : Nat), i = .int .i64 (k : Int) ∧ k ≤ s ∧ a = .int .i64 (n : Int) ∧ n = (wshr x k).toNat ∧ wr = w) (fun _ i _ => s - (intOf i).toNat)
  case atStart => exact ⟨0, x.toNat, rfl, by omega, rfl, by rw [wshr_zero], rfl⟩
  case round =>
    obtain ⟨k, n, rfl, hk, rfl, hn, rfl⟩ := hrel
    have hn2 : n < 4294967296 := by rw [hn]; exact word_lt _
    by_cases hlt : k < s
    · have h1 : (k : Int) < (s : Int) := by omega
      have HN := Lib.hid hn
      clear hn
      go_wp2
      go_roundw
      case rel =>
        refine ⟨k + 1, (wshr x (k + 1)).toNat, by go_num, by omega, ?_, rfl, trivial⟩
        show Value.int .i64 _ = Value.int .i64 _
        congr 1
        rw [wshr_succ, ← HN.out]
      case measure => simp [intOf] <;> omega
    · have h1 : ¬ (k : Int) < (s : Int) := by omega
      obtain rfl : k = s := by omega
      have hz2 : n = z.toNat := by rw [hn, HZ.out]
      subst hz2
      clear hn HZ hn2
      go_wp2_with (first
        | (go_at_call 40; refine (HU.out _).mono ?_; rintro e w' ⟨rfl, rfl⟩))
      go_ret2
      exact ⟨rfl, rfl⟩
theorem rcalculate_any (op : Int) (x y : UInt32) (w : World) :
    Calls Tryd.prog 36 #[.int .i64 op, wv x, wv y] w fun e w' => e = .returned (.tuple #[wv (calZ op x y), .int .i64 (calcE op y)]) ∧ w' = w := by
  by_cases hr : 4 ≤ op ∧ op ≤ 15
  · obtain h | h | h | h | h | h | h | h | h | h | h | h : op = 4 ∨ op = 5 ∨ op = 6 ∨ op = 7 ∨ op = 8 ∨ op = 9 ∨ op = 10 ∨ op = 11 ∨ op = 12 ∨ op = 13 ∨ op = 14 ∨ op = 15 := by omega
    · subst h; exact rcalc4_any x y w
    · subst h; exact rcalc5_any x y w
    · subst h; exact rcalc6_any x y w
    · subst h
      by_cases hy : (y.toNat : Int) = 0
      · have e1 : calZ 7 x y = 0 := by simp [calZ, hy]
        have e2 : calcE 7 y = 38 := by simp [calcE, hy]
        rw [e1, e2]; exact rcalcZ7_any x y w hy
      · have hy1 : ¬ y.toNat = 0 := by omega
        have e1 : calZ 7 x y = us ((sg x).tdiv (sg y)) := by simp [calZ, hy1]
        have e2 : calcE 7 y = 0 := by simp [calcE, hy1]
        rw [e1, e2]; exact rcalc7_any x y w hy
    · subst h
      by_cases hy : (y.toNat : Int) = 0
      · have e1 : calZ 8 x y = 0 := by simp [calZ, hy]
        have e2 : calcE 8 y = 38 := by simp [calcE, hy]
        rw [e1, e2]; exact rcalcZ8_any x y w hy
      · have hy1 : ¬ y.toNat = 0 := by omega
        have e1 : calZ 8 x y = us ((sg x).tmod (sg y)) := by simp [calZ, hy1]
        have e2 : calcE 8 y = 0 := by simp [calcE, hy1]
        rw [e1, e2]; exact rcalc8_any x y w hy
    · subst h; exact rcalc9_any x y w
    · subst h; exact rcalc10_any x y w
    · subst h; exact rcalc11_any x y w
    · subst h; exact rcalc12_any x y w
    · subst h; exact rcalc13_any x y w
    · subst h
      by_cases hc : sg x < sg y
      · have e1 : calZ 14 x y = 1 := by simp [calZ, hc]
        rw [e1]; exact rcalc14T x y w (by simp [hc])
      · have e1 : calZ 14 x y = 0 := by simp [calZ, hc]
        rw [e1]; exact rcalc14F x y w (by simp only [decide_eq_false_iff_not]; exact hc)
    · subst h
      by_cases hc : x = y
      · have e1 : calZ 15 x y = 1 := by simp [calZ, hc]
        rw [e1]; exact rcalc15T x y w (by simp [hc])
      · have e1 : calZ 15 x y = 0 := by simp [calZ, hc]
        rw [e1]; exact rcalc15F x y w (by simp only [beq_eq_false_iff_ne, ne_eq]; intro h; exact hc (w_ext h))
  · have e1 : calZ op x y = 0 := by
      simp only [calZ]
      rw [if_neg (by omega), if_neg (by omega), if_neg (by omega), if_neg (by omega), if_neg (by omega), if_neg (by omega), if_neg (by omega), if_neg (by omega), if_neg (by omega), if_neg (by omega), if_neg (by omega), if_neg (by omega)]
    have e2 : calcE op y = 11 := by simp only [calcE, if_neg hr]
    rw [e1, e2]
    exact rcalcN_any op x y w hr
end Go.Proofs.YtajkccigmiegkaaDoor
